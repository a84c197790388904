/- Codes as trees: plain mathematics: a tree into which the codes of lengths are laid one behind the other is read as the codes are. -/
import Derived.Test.YtgkljcmjnphpeaaGreatDoorK01
set_option linter.unusedVariables false
set_option linter.unusedSimpArgs false
namespace Go.Proofs.YtgkljcmjnphpeaaGreatDoor.Fo
/-- A code read, by how far it is behind those that are taken. -/
def symG (cf : Nat → Nat) (ss : List Nat) : Nat → Nat → Nat → Nat → List Bool → Option (Nat × List Bool)
  | 0, _, _, _, _ => none
  | _ + 1, _, _, _, [] => none
  | f + 1, len, d, place, b :: r => if 2 * d + b.toNat < cf len then some (ss.getD (place + (2 * d + b.toNat)) 0, r) else symG cf ss f (len + 1) (2 * d + b.toNat - cf len) (place + cf len) r
theorem symGo_eq (cs ss : List Nat) : ∀ (k len code first place : Nat) (r : List Bool), first ≤ code → symGo cs ss k len code first place r = symG (fun n => cs.getD n 0) ss k len (code - first) place r
  | 0, _, _, _, _, _, _ => by simp [symGo, symG]
  | k + 1, len, code, first, place, [], _ => by simp [symGo, symG]
  | k + 1, len, code, first, place, b :: r, h => by
    simp only [symGo, symG]
    have e : 2 * (code - first) + b.toNat = 2 * code + b.toNat - 2 * first := by omega
    by_cases c : 2 * code + b.toNat < 2 * first + cs.getD len 0
    · rw [if_pos c, if_pos (by omega)]
      congr 3
      omega
    · rw [if_neg c, if_neg (by omega), symGo_eq cs ss k _ _ _ _ r (by omega)]
      congr 1
      omega
theorem sym_eq (cs ss : List Nat) (r : List Bool) : sym cs ss r = symG (fun n => cs.getD n 0) ss 15 1 0 0 r := symGo_eq cs ss 15 1 0 0 0 r (Nat.le_refl _)
theorem symG_congr (f g : Nat → Nat) (ss : List Nat) : ∀ (k len d place : Nat) (r : List Bool), (∀ n, len ≤ n → n < len + k → f n = g n) → symG f ss k len d place r = symG g ss k len d place r
  | 0, _, _, _, _, _ => rfl
  | k + 1, len, d, place, [], _ => rfl
  | k + 1, len, d, place, b :: r, h => by
    simp only [symG]
    rw [h len (Nat.le_refl _) (by omega)]
    split
    · rfl
    · exact symG_congr f g ss k _ _ _ r (fun n h1 h2 => h n (by omega) (by omega))
/-- The number that bits are, the highest first. -/
def hval : List Bool → Nat → Nat
  | [], a => a
  | b :: r, a => hval r (2 * a + b.toNat)
theorem hval_shift : ∀ (u : List Bool) (a k : Nat), hval u (a + k) = hval u a + 2 ^ u.length * k
  | [], a, k => by simp [hval]
  | b :: u, a, k => by
    simp only [hval, List.length_cons, Nat.pow_succ]
    rw [show 2 * (a + k) + b.toNat = (2 * a + b.toNat) + 2 * k by omega, hval_shift u _ (2 * k)]
    rw [Nat.mul_assoc]
theorem hval_lt : ∀ (u : List Bool) (a : Nat), hval u a < 2 ^ u.length * (a + 1)
  | [], a => by simp [hval]
  | b :: u, a => by
    have h := hval_lt u (2 * a + b.toNat)
    have hb : b.toNat ≤ 1 := by cases b <;> decide
    have h2 : 2 ^ u.length * (2 * a + b.toNat + 1) ≤ 2 ^ u.length * (2 * (a + 1)) := Nat.mul_le_mul_left _ (by omega)
    simp only [hval, List.length_cons, Nat.pow_succ]
    rw [Nat.mul_assoc]
    omega
theorem hval_inj : ∀ (u v : List Bool) (a : Nat), u.length = v.length → hval u a = hval v a → u = v
  | [], [], _, _, _ => rfl
  | [], _ :: _, _, h, _ => by simp at h
  | _ :: _, [], _, h, _ => by simp at h
  | b :: u, c :: v, a, h, e => by
    simp only [List.length_cons, Nat.add_right_cancel_iff] at h
    simp only [hval] at e
    have hbc : b = c := by
      have l1 := hval_lt u (2 * a + b.toNat)
      have l2 := hval_lt v (2 * a + c.toNat)
      have g : ∀ (x : List Bool) (n : Nat), 2 ^ x.length * n ≤ hval x n := fun x n => by
        have := hval_shift x 0 n; rw [Nat.zero_add] at this; omega
      have g1 := g u (2 * a + b.toNat)
      have g2 := g v (2 * a + c.toNat)
      rw [h] at l1 g1
      cases b <;> cases c <;> simp only [Bool.toNat_false, Bool.toNat_true, Nat.add_zero] at *
      · have : 2 ^ v.length * (2 * a + 1) ≤ 2 ^ v.length * (2 * a + 1) := Nat.le_refl _
        omega
      · omega
    subst hbc
    rw [hval_inj u v _ h e]
theorem hval_high (v : Nat) : ∀ n a, hval (highBits v n) a = 2 ^ n * a + v % 2 ^ n
  | 0, a => by simp [highBits, hval, Nat.mod_one]
  | n + 1, a => by
    simp only [highBits, hval]
    rw [hval_high v n, Nat.pow_succ, Nat.mod_mul]
    have : (v >>> n % 2 == 1).toNat = v / 2 ^ n % 2 := by
      rw [Nat.shiftRight_eq_div_pow]
      have := Nat.mod_two_eq_zero_or_one (v / 2 ^ n)
      rcases this with h | h <;> simp [h]
    rw [this, Nat.mul_add, Nat.mul_assoc]
    omega
theorem high_len (v : Nat) : ∀ n, (highBits v n).length = n
  | 0 => rfl
  | n + 1 => by simp [highBits, high_len v n]
/-- Bits followed to a length, ahead of which they are no code; how far behind the taken codes they are there. -/
def fol (cf : Nat → Nat) : Nat → Nat → Nat → List Bool → Option (Nat × List Bool)
  | _, _, _, [] => none
  | 0, _, d, b :: r => some (2 * d + b.toNat, r)
  | t + 1, len, d, b :: r => if 2 * d + b.toNat < cf len then none else fol cf t (len + 1) (2 * d + b.toNat - cf len) r
def ssum (cf : Nat → Nat) : Nat → Nat → Nat
  | 0, _ => 0
  | t + 1, len => 2 ^ (t + 1) * cf len + ssum cf t (len + 1)
theorem fol_iff (cf : Nat → Nat) : ∀ (t len d : Nat) (r : List Bool) (x : Nat) (q : List Bool),
    fol cf t len d r = some (x, q) ↔ ∃ u, u.length = t + 1 ∧ r = u ++ q ∧ hval u d = x + ssum cf t len
  | t, len, d, [], x, q => by
    constructor
    · intro h; cases t <;> simp [fol] at h
    · rintro ⟨u, h1, h2, _⟩
      have := congrArg List.length h2
      simp at this; omega
  | 0, len, d, b :: r, x, q => by
    constructor
    · intro h
      simp only [fol, Option.some.injEq, Prod.mk.injEq] at h
      exact ⟨[b], rfl, by rw [h.2]; rfl, by simp [hval, ssum, h.1]⟩
    · rintro ⟨u, h1, h2, h3⟩
      match u, h1 with
      | [c], _ =>
        simp only [List.cons_append, List.nil_append, List.cons.injEq] at h2
        simp only [hval, ssum, Nat.add_zero] at h3
        simp only [fol, h2.1, h2.2, h3]
  | t + 1, len, d, b :: r, x, q => by
    have ih := fol_iff cf t (len + 1) (2 * d + b.toNat - cf len) r x q
    constructor
    · intro h
      simp only [fol] at h
      by_cases c : 2 * d + b.toNat < cf len
      · rw [if_pos c] at h; cases h
      · rw [if_neg c] at h
        obtain ⟨u, h1, h2, h3⟩ := ih.1 h
        refine ⟨b :: u, by simp [h1], by rw [h2]; rfl, ?_⟩
        simp only [hval, ssum]
        have := hval_shift u (2 * d + b.toNat - cf len) (cf len)
        rw [Nat.sub_add_cancel (by omega), h3, h1] at this
        omega
    · rintro ⟨u, h1, h2, h3⟩
      match u, h1 with
      | c :: u, h1 =>
        simp only [List.cons_append, List.cons.injEq] at h2
        obtain ⟨rfl, h2⟩ := h2
        simp only [List.length_cons, Nat.add_right_cancel_iff] at h1
        simp only [hval, ssum] at h3
        have hlt := hval_lt u (2 * d + b.toNat)
        rw [h1] at hlt
        have hc : ¬ 2 * d + b.toNat < cf len := by
          intro c
          have : 2 ^ (t + 1) * (2 * d + b.toNat + 1) ≤ 2 ^ (t + 1) * cf len := Nat.mul_le_mul_left _ c
          omega
        simp only [fol]
        rw [if_neg hc]
        refine ih.2 ⟨u, h1, h2, ?_⟩
        have := hval_shift u (2 * d + b.toNat - cf len) (cf len)
        rw [Nat.sub_add_cancel (by omega), h1] at this
        omega
theorem symG_zero (cf : Nat → Nat) (ss : List Nat) : ∀ (k len d place : Nat) (r : List Bool), (∀ n, len ≤ n → cf n = 0) → symG cf ss k len d place r = none
  | 0, _, _, _, _, _ => rfl
  | k + 1, len, d, place, [], _ => rfl
  | k + 1, len, d, place, b :: r, h => by
    simp only [symG]
    rw [if_neg (by rw [h len (Nat.le_refl _)]; omega)]
    exact symG_zero cf ss k _ _ _ r (fun n hn => h n (by omega))
def psumF (cf : Nat → Nat) : Nat → Nat → Nat
  | 0, _ => 0
  | t + 1, len => cf len + psumF cf t (len + 1)
/-- One code more of the greatest length. -/
theorem symG_more (cf : Nat → Nat) (ss : List Nat) (m : Nat) (hz : ∀ n, m < n → cf n = 0) :
    ∀ (t len d place k : Nat) (r : List Bool), len + t = m → t < k →
      symG (fun n => if n = m then cf m + 1 else cf n) ss k len d place r =
        match fol cf t len d r with
        | some (x, q) => if x = cf m then some (ss.getD (place + psumF cf t len + cf m) 0, q) else symG cf ss k len d place r
        | none => symG cf ss k len d place r
  | t, len, d, place, 0, r, h1, h2 => by omega
  | t, len, d, place, k + 1, [], h1, h2 => by cases t <;> simp [fol, symG]
  | 0, len, d, place, k + 1, b :: r, h1, h2 => by
    obtain rfl : len = m := by omega
    simp only [symG, fol, psumF, if_true, Nat.add_zero]
    by_cases c1 : 2 * d + b.toNat = cf len
    · rw [if_pos c1, if_pos (by omega), c1]
    · rw [if_neg c1]
      by_cases c2 : 2 * d + b.toNat < cf len
      · rw [if_pos c2, if_pos (by omega)]
      · rw [if_neg c2, if_neg (by omega)]
        rw [symG_zero _ ss k (len + 1) _ _ r (fun n hn => by rw [if_neg (by omega)]; exact hz n (by omega)), symG_zero cf ss k (len + 1) _ _ r (fun n hn => hz n (by omega))]
  | t + 1, len, d, place, k + 1, b :: r, h1, h2 => by
    have hne : len ≠ m := by omega
    simp only [symG, fol, if_neg hne]
    by_cases c : 2 * d + b.toNat < cf len
    · simp only [if_pos c]
    · simp only [if_neg c]
      rw [symG_more cf ss m hz t (len + 1) _ (place + cf len) k r (by omega) (by omega)]
      simp only [psumF, Nat.add_assoc]
theorem symG_behind (cf : Nat → Nat) (ss : List Nat) (m : Nat) (hz : ∀ n, m < n → cf n = 0) :
    ∀ (t len d place k : Nat) (r : List Bool) (x : Nat) (q : List Bool), len + t = m → t < k → fol cf t len d r = some (x, q) → cf m ≤ x → symG cf ss k len d place r = none
  | t, len, d, place, 0, r, x, q, h1, h2, _, _ => by omega
  | t, len, d, place, k + 1, [], x, q, h1, h2, h3, _ => rfl
  | 0, len, d, place, k + 1, b :: r, x, q, h1, h2, h3, h4 => by
    obtain rfl : len = m := by omega
    simp only [fol, Option.some.injEq, Prod.mk.injEq] at h3
    simp only [symG]
    rw [if_neg (by omega)]
    exact symG_zero cf ss k (len + 1) _ _ r (fun n hn => hz n (by omega))
  | t + 1, len, d, place, k + 1, b :: r, x, q, h1, h2, h3, h4 => by
    simp only [fol] at h3
    by_cases c : 2 * d + b.toNat < cf len
    · rw [if_pos c] at h3; cases h3
    · rw [if_neg c] at h3
      simp only [symG]
      rw [if_neg c]
      exact symG_behind cf ss m hz t (len + 1) _ _ k r x q (by omega) (by omega) h3 h4
/-- What a node of a tree leads to: a node, or -1 less a symbol; 0: nothing. -/
def edge (T : List (Int × Int)) (a : Nat) (b : Bool) : Int := if b then (T.getD a (0, 0)).2 else (T.getD a (0, 0)).1
def upd (T : List (Int × Int)) (a : Nat) (b : Bool) (x : Int) : List (Int × Int) := T.set a (if b then ((T.getD a (0, 0)).1, x) else (x, (T.getD a (0, 0)).2))
/-- A code read by a tree. -/
def walk (T : List (Int × Int)) : Nat → List Bool → Option (Nat × List Bool)
  | _, [] => none
  | a, b :: r => if edge T a b < 0 then some ((-1 - edge T a b).toNat, r) else if edge T a b = 0 then none else walk T (edge T a b).toNat r
/-- The node to which bits lead, the last one first. -/
def pth (T : List (Int × Int)) : List Bool → Option Nat
  | [] => some 0
  | b :: u => match pth T u with
    | none => none
    | some a => if 0 < edge T a b then some (edge T a b).toNat else none
/-- A tree whose nodes are less deep than m. -/
structure GI (T : List (Int × Int)) (m : Nat) : Prop where
  pos : 0 < T.length
  lt : ∀ a b, a < T.length → edge T a b < T.length
  one : ∀ a b a' b', a < T.length → a' < T.length → 0 < edge T a b → edge T a b = edge T a' b' → a = a' ∧ b = b'
  deep : ∀ u a, pth T u = some a → u.length < m
theorem edge_upd {T : List (Int × Int)} {a : Nat} {b : Bool} {x : Int} (ha : a < T.length) (a' : Nat) (b' : Bool) : edge (upd T a b x) a' b' = if a = a' ∧ b = b' then x else edge T a' b' := by
  unfold edge upd
  by_cases h : a = a'
  · subst h
    simp only [List.getD_eq_getElem?_getD, List.getElem?_set_self ha, Option.getD_some, true_and]
    cases b <;> cases b' <;> simp
  · have hn : ¬ (a = a' ∧ b = b') := fun c => h c.1
    simp only [List.getD_eq_getElem?_getD, List.getElem?_set_ne h, if_neg hn]
theorem upd_len (T : List (Int × Int)) (a : Nat) (b : Bool) (x : Int) : (upd T a b x).length = T.length := by simp [upd]
theorem edge_out {T : List (Int × Int)} {a : Nat} (h : T.length ≤ a) (b : Bool) : edge T a b = 0 := by
  unfold edge
  simp only [List.getD_eq_getElem?_getD, List.getElem?_eq_none h, Option.getD_none]
  cases b <;> rfl
theorem edge_more {T : List (Int × Int)} (a : Nat) (b : Bool) : edge (T ++ [(0, 0)]) a b = edge T a b := by
  by_cases h : a < T.length
  · unfold edge; simp only [List.getD_eq_getElem?_getD, List.getElem?_append_left h]
  · rw [edge_out (T := T) (by omega)]
    unfold edge
    simp only [List.getD_eq_getElem?_getD]
    rw [List.getElem?_append_right (by omega)]
    by_cases h2 : a - T.length = 0
    · rw [h2]; cases b <;> rfl
    · rw [List.getElem?_eq_none (by simp; omega)]; cases b <;> rfl
theorem pth_lt {T : List (Int × Int)} {m : Nat} (h : GI T m) : ∀ u a, pth T u = some a → a < T.length
  | [], a, e => by simp only [pth, Option.some.injEq] at e; have := h.pos; omega
  | b :: u, a, e => by
    simp only [pth] at e
    cases hp : pth T u with
    | none => rw [hp] at e; cases e
    | some a' =>
      rw [hp] at e
      simp only [] at e
      by_cases c : 0 < edge T a' b
      · rw [if_pos c] at e
        simp only [Option.some.injEq] at e
        have := h.lt a' b (pth_lt h u a' hp)
        omega
      · rw [if_neg c] at e; cases e
theorem pth_one {T : List (Int × Int)} {m : Nat} (h : GI T m) : ∀ u v a, pth T u = some a → pth T v = some a → u = v
  | [], [], _, _, _ => rfl
  | [], b :: v, a, e1, e2 => by
    simp only [pth, Option.some.injEq] at e1 e2
    cases hp : pth T v with
    | none => rw [hp] at e2; cases e2
    | some a' =>
      rw [hp] at e2; simp only [] at e2
      by_cases c : 0 < edge T a' b
      · rw [if_pos c] at e2; simp only [Option.some.injEq] at e2; omega
      · rw [if_neg c] at e2; cases e2
  | b :: u, [], a, e1, e2 => by
    simp only [pth, Option.some.injEq] at e1 e2
    cases hp : pth T u with
    | none => rw [hp] at e1; cases e1
    | some a' =>
      rw [hp] at e1; simp only [] at e1
      by_cases c : 0 < edge T a' b
      · rw [if_pos c] at e1; simp only [Option.some.injEq] at e1; omega
      · rw [if_neg c] at e1; cases e1
  | b :: u, c :: v, a, e1, e2 => by
    simp only [pth] at e1 e2
    cases hp : pth T u with
    | none => rw [hp] at e1; cases e1
    | some a1 =>
      cases hq : pth T v with
      | none => rw [hq] at e2; cases e2
      | some a2 =>
        rw [hp] at e1; rw [hq] at e2
        simp only [] at e1 e2
        by_cases c1 : 0 < edge T a1 b
        · by_cases c2 : 0 < edge T a2 c
          · rw [if_pos c1] at e1; rw [if_pos c2] at e2
            simp only [Option.some.injEq] at e1 e2
            obtain ⟨rfl, rfl⟩ := h.one a1 b a2 c (pth_lt h u a1 hp) (pth_lt h v a2 hq) c1 (by omega)
            rw [pth_one h u v a1 hp hq]
          · rw [if_neg c2] at e2; cases e2
        · rw [if_neg c1] at e1; cases e1
/-- Another node, to which an edge leads that led to nothing: it is read as before. -/
theorem walk_grow {T : List (Int × Int)} {m : Nat} (h : GI T m) {at_ : Nat} {b : Bool} (ha : at_ < T.length) (he : edge T at_ b = 0) :
    ∀ (v : List Bool) (a : Nat), a < T.length → walk (upd (T ++ [(0, 0)]) at_ b T.length) a v = walk T a v
  | [], a, _ => rfl
  | x :: v, a, hlt => by
    have hl : at_ < (T ++ [(0, 0)]).length := by simp; omega
    simp only [walk, edge_upd hl, edge_more]
    by_cases c : at_ = a ∧ b = x
    · obtain ⟨rfl, rfl⟩ := c
      simp only [true_and, if_true, he, Int.lt_irrefl, if_false]
      rw [if_neg (by omega), if_neg (by have := h.pos; omega)]
      have hn : ∀ v, walk (upd (T ++ [(0, 0)]) at_ b T.length) T.length v = none := by
        intro v
        cases v with
        | nil => rfl
        | cons y v =>
          have hn : ¬ (at_ = T.length ∧ b = y) := by rintro ⟨c, _⟩; omega
          simp only [walk, edge_upd hl, edge_more, if_neg hn, edge_out (Nat.le_refl T.length)]
          simp
      rw [show ((T.length : Int)).toNat = T.length by omega]
      exact hn v
    · rw [if_neg c]
      by_cases c1 : edge T a x < 0
      · rw [if_pos c1, if_pos c1]
      · rw [if_neg c1, if_neg c1]
        by_cases c2 : edge T a x = 0
        · rw [if_pos c2, if_pos c2]
        · rw [if_neg c2, if_neg c2]
          exact walk_grow h ha he v _ (by have := h.lt a x hlt; omega)
theorem pth_grow {T : List (Int × Int)} {m : Nat} (h : GI T m) {at_ : Nat} {b : Bool} (ha : at_ < T.length) (he : edge T at_ b = 0) :
    ∀ (u : List Bool) (a : Nat), pth (upd (T ++ [(0, 0)]) at_ b T.length) u = some a → pth T u = some a ∨ (a = T.length ∧ ∃ u', u = b :: u' ∧ pth T u' = some at_)
  | [], a, e => Or.inl e
  | x :: u, a, e => by
    have hl : at_ < (T ++ [(0, 0)]).length := by simp; omega
    simp only [pth] at e ⊢
    cases hp : pth (upd (T ++ [(0, 0)]) at_ b T.length) u with
    | none => rw [hp] at e; cases e
    | some a1 =>
      rw [hp] at e
      simp only [edge_upd hl, edge_more] at e
      rcases pth_grow h ha he u a1 hp with h1 | ⟨rfl, u', rfl, h1⟩
      · by_cases c : at_ = a1 ∧ b = x
        · obtain ⟨rfl, rfl⟩ := c
          simp only [true_and, if_true] at e
          rw [if_pos (by have := h.pos; omega)] at e
          simp only [Option.some.injEq] at e
          exact Or.inr ⟨by omega, u, rfl, h1⟩
        · rw [if_neg c] at e
          rw [h1]
          exact Or.inl e
      · have hn : ¬ (at_ = T.length ∧ b = x) := by rintro ⟨c, _⟩; omega
        simp only [if_neg hn, edge_out (Nat.le_refl T.length)] at e
        simp at e
theorem pth_kept {T : List (Int × Int)} {m : Nat} (h : GI T m) {at_ : Nat} {b : Bool} (ha : at_ < T.length) (he : edge T at_ b = 0) :
    ∀ (u : List Bool) (a : Nat), pth T u = some a → pth (upd (T ++ [(0, 0)]) at_ b T.length) u = some a
  | [], a, e => e
  | x :: u, a, e => by
    have hl : at_ < (T ++ [(0, 0)]).length := by simp; omega
    simp only [pth] at e ⊢
    cases hp : pth T u with
    | none => rw [hp] at e; cases e
    | some a1 =>
      rw [hp] at e
      rw [pth_kept h ha he u a1 hp]
      simp only [edge_upd hl, edge_more] at e ⊢
      have hn : ¬ (at_ = a1 ∧ b = x) := by rintro ⟨rfl, rfl⟩; rw [he] at e; simp at e
      simp only [if_neg hn]
      exact e
theorem GI.grow {T : List (Int × Int)} {m : Nat} (h : GI T m) {u : List Bool} {at_ : Nat} {b : Bool} (hu : pth T u = some at_) (hm : u.length + 1 < m) (he : edge T at_ b = 0) : GI (upd (T ++ [(0, 0)]) at_ b T.length) m := by
  have ha := pth_lt h u at_ hu
  have hl : at_ < (T ++ [(0, 0)]).length := by simp; omega
  have hlen : (upd (T ++ [(0, 0)]) at_ b T.length).length = T.length + 1 := by rw [upd_len]; simp
  refine ⟨by omega, ?_, ?_, ?_⟩
  · intro a x hx
    rw [hlen] at hx ⊢
    rw [edge_upd hl, edge_more]
    split
    · omega
    · by_cases c : a < T.length
      · have := h.lt a x c; omega
      · rw [edge_out (by omega)]; omega
  · intro a x a' x' h1 h2 h3 h4
    rw [hlen] at h1 h2
    rw [edge_upd hl, edge_more] at h3
    rw [edge_upd hl, edge_upd hl, edge_more, edge_more] at h4
    have small : ∀ a x, edge T a x < T.length := fun a x => by
      by_cases c : a < T.length
      · exact h.lt a x c
      · rw [edge_out (by omega)]; have := h.pos; omega
    by_cases c1 : at_ = a ∧ b = x
    · by_cases c2 : at_ = a' ∧ b = x'
      · exact ⟨c1.1.symm.trans c2.1, c1.2.symm.trans c2.2⟩
      · rw [if_pos c1, if_neg c2] at h4
        have := small a' x'; omega
    · rw [if_neg c1] at h3 h4
      by_cases c2 : at_ = a' ∧ b = x'
      · rw [if_pos c2] at h4
        have := small a x; omega
      · rw [if_neg c2] at h4
        have l1 : a < T.length := by
          rcases Nat.lt_or_ge a T.length with c | c
          · exact c
          · rw [edge_out c] at h3; omega
        have l2 : a' < T.length := by
          rcases Nat.lt_or_ge a' T.length with c | c
          · exact c
          · rw [h4, edge_out c] at h3; omega
        exact h.one a x a' x' l1 l2 h3 h4
  · intro v a hv
    rcases pth_grow h ha he v a hv with h1 | ⟨rfl, u', rfl, h1⟩
    · exact h.deep v a h1
    · rw [pth_one h u' u at_ h1 hu]
      simpa using hm
/-- The node to which bits lead. -/
def fw (T : List (Int × Int)) : Nat → List Bool → Option Nat
  | a, [] => some a
  | a, x :: z => if 0 < edge T a x then fw T (edge T a x).toNat z else none
theorem fw_snoc (T : List (Int × Int)) (x : Bool) : ∀ (z : List Bool) (a : Nat), fw T a (z ++ [x]) = match fw T a z with
    | none => none
    | some k => if 0 < edge T k x then some (edge T k x).toNat else none
  | [], a => by simp only [List.nil_append, fw]
  | y :: z, a => by
    simp only [List.cons_append, fw]
    by_cases c : 0 < edge T a y
    · simp only [if_pos c]; exact fw_snoc T x z _
    · simp only [if_neg c]
theorem pth_fw (T : List (Int × Int)) : ∀ u, pth T u = fw T 0 u.reverse
  | [] => rfl
  | x :: u => by
    rw [List.reverse_cons, fw_snoc, ← pth_fw T u]
    rfl
/-- Do bits come to an edge? What is left of them then. -/
def hit (T : List (Int × Int)) (at_ : Nat) (b : Bool) : Nat → List Bool → Option (List Bool)
  | _, [] => none
  | a, x :: v => if at_ = a ∧ b = x then some v else if 0 < edge T a x then hit T at_ b (edge T a x).toNat v else none
theorem hit_path {T : List (Int × Int)} {at_ : Nat} {b : Bool} : ∀ (v : List Bool) (a : Nat) (q : List Bool), hit T at_ b a v = some q → ∃ z, v = z ++ b :: q ∧ fw T a z = some at_
  | [], a, q, h => by simp [hit] at h
  | x :: v, a, q, h => by
    simp only [hit] at h
    by_cases c : at_ = a ∧ b = x
    · rw [if_pos c] at h
      simp only [Option.some.injEq] at h
      exact ⟨[], by rw [c.2, h]; rfl, by rw [fw, c.1]⟩
    · rw [if_neg c] at h
      by_cases c2 : 0 < edge T a x
      · rw [if_pos c2] at h
        obtain ⟨z, h1, h2⟩ := hit_path v _ q h
        exact ⟨x :: z, by rw [h1]; rfl, by simp only [fw, if_pos c2]; exact h2⟩
      · rw [if_neg c2] at h; cases h
theorem hit_of {T : List (Int × Int)} {at_ : Nat} {b : Bool} (he : edge T at_ b = 0) (q : List Bool) : ∀ (z : List Bool) (a : Nat), fw T a z = some at_ → hit T at_ b a (z ++ b :: q) = some q
  | [], a, h => by
    simp only [fw, Option.some.injEq] at h
    simp only [List.nil_append, hit, h, true_and, if_true]
  | x :: z, a, h => by
    simp only [fw] at h
    by_cases c2 : 0 < edge T a x
    · rw [if_pos c2] at h
      have c : ¬ (at_ = a ∧ b = x) := by rintro ⟨rfl, rfl⟩; omega
      simp only [List.cons_append, hit, if_neg c, if_pos c2]
      exact hit_of he q z _ h
    · rw [if_neg c2] at h; cases h
/-- A symbol where an edge led to nothing. -/
theorem walk_hit {T : List (Int × Int)} {at_ : Nat} {b : Bool} {s : Nat} (ha : at_ < T.length) (he : edge T at_ b = 0) :
    ∀ (v : List Bool) (a : Nat), walk (upd T at_ b (-1 - (s : Int))) a v = match hit T at_ b a v with
      | some q => some (s, q)
      | none => walk T a v
  | [], a => by simp [walk, hit]
  | x :: v, a => by
    simp only [walk, hit, edge_upd ha]
    by_cases c : at_ = a ∧ b = x
    · simp only [if_pos c]
      rw [if_pos (by omega), show (-1 - (-1 - (s : Int))).toNat = s by omega]
    · simp only [if_neg c]
      by_cases c1 : edge T a x < 0
      · have : ¬ 0 < edge T a x := by omega
        simp only [if_pos c1, if_neg this]
      · by_cases c2 : edge T a x = 0
        · have : ¬ 0 < edge T a x := by omega
          simp only [if_neg c1, if_pos c2, if_neg this]
        · have : 0 < edge T a x := by omega
          simp only [if_neg c1, if_neg c2, if_pos this]
          exact walk_hit ha he v _
theorem walk_leaf {T : List (Int × Int)} {m : Nat} (h : GI T m) {u : List Bool} {at_ : Nat} {b : Bool} {s : Nat} (hu : pth T u = some at_) (he : edge T at_ b = 0) (v : List Bool) :
    (∀ q, v = u.reverse ++ b :: q → walk (upd T at_ b (-1 - (s : Int))) 0 v = some (s, q)) ∧ ((∀ q, v ≠ u.reverse ++ b :: q) → walk (upd T at_ b (-1 - (s : Int))) 0 v = walk T 0 v) := by
  have ha := pth_lt h u at_ hu
  rw [walk_hit ha he v 0]
  constructor
  · rintro q rfl
    rw [pth_fw] at hu
    rw [hit_of he q _ 0 hu]
  · intro hn
    cases hh : hit T at_ b 0 v with
    | none => rfl
    | some q =>
      obtain ⟨z, h1, h2⟩ := hit_path v 0 q hh
      have hz : pth T z.reverse = some at_ := by rw [pth_fw, List.reverse_reverse]; exact h2
      have := pth_one h _ _ _ hz hu
      exact absurd (by rw [h1, ← this, List.reverse_reverse]) (hn q)
theorem pth_leaf {T : List (Int × Int)} {at_ : Nat} {b : Bool} {s : Nat} (ha : at_ < T.length) (he : edge T at_ b = 0) : ∀ u, pth (upd T at_ b (-1 - (s : Int))) u = pth T u
  | [] => rfl
  | x :: u => by
    simp only [pth]
    rw [pth_leaf ha he u]
    cases pth T u with
    | none => rfl
    | some a =>
      simp only [edge_upd ha]
      by_cases c : at_ = a ∧ b = x
      · obtain ⟨rfl, rfl⟩ := c
        simp only [true_and, if_true, he]
        rw [if_neg (by omega), if_neg (by omega)]
      · simp only [if_neg c]
theorem GI.leaf {T : List (Int × Int)} {m : Nat} (h : GI T m) {at_ : Nat} {b : Bool} {s : Nat} (ha : at_ < T.length) (he : edge T at_ b = 0) : GI (upd T at_ b (-1 - (s : Int))) m := by
  refine ⟨by rw [upd_len]; exact h.pos, ?_, ?_, ?_⟩
  · intro a x hx
    rw [upd_len] at hx ⊢
    rw [edge_upd ha]
    split
    · omega
    · exact h.lt a x hx
  · intro a x a' x' h1 h2 h3 h4
    rw [upd_len] at h1 h2
    rw [edge_upd ha] at h3
    rw [edge_upd ha, edge_upd ha] at h4
    by_cases c1 : at_ = a ∧ b = x
    · rw [if_pos c1] at h3; omega
    · rw [if_neg c1] at h3 h4
      by_cases c2 : at_ = a' ∧ b = x'
      · rw [if_pos c2] at h4; omega
      · rw [if_neg c2] at h4
        exact h.one a x a' x' h1 h2 h3 h4
  · intro u a hu
    rw [pth_leaf ha he] at hu
    exact h.deep u a hu
theorem GI.mono {T : List (Int × Int)} {m n : Nat} (h : GI T m) (hn : m ≤ n) : GI T n := ⟨h.pos, h.lt, h.one, fun u a hu => Nat.lt_of_lt_of_le (h.deep u a hu) hn⟩
theorem walk_fw (T : List (Int × Int)) (v : List Bool) : ∀ (z : List Bool) (a k : Nat), fw T a z = some k → walk T a (z ++ v) = walk T k v
  | [], a, k, h => by simp only [fw, Option.some.injEq] at h; rw [h]; rfl
  | x :: z, a, k, h => by
    simp only [fw] at h
    by_cases c : 0 < edge T a x
    · rw [if_pos c] at h
      have c1 : ¬ edge T a x < 0 := by omega
      have c2 : ¬ edge T a x = 0 := by omega
      simp only [List.cons_append, walk, if_neg c1, if_neg c2]
      exact walk_fw T v z _ k h
    · rw [if_neg c] at h; cases h
/-- A code laid into a tree. -/
def setT (s : Nat) : List (Int × Int) → Nat → List Bool → List (Int × Int)
  | T, _, [] => T
  | T, a, [b] => upd T a b (-1 - (s : Int))
  | T, a, b :: c :: r => if edge T a b = 0 then setT s (upd (T ++ [(0, 0)]) a b T.length) T.length (c :: r) else setT s T (edge T a b).toNat (c :: r)
theorem setT_ok (s : Nat) : ∀ (z : List Bool) (T : List (Int × Int)) (m : Nat) (u : List Bool) (a : Nat), GI T m → pth T u = some a → z ≠ [] → u.length + z.length = m → (∀ q, walk T 0 (u.reverse ++ (z ++ q)) = none) →
    GI (setT s T a z) m ∧ ∀ v, (∀ q, v = u.reverse ++ (z ++ q) → walk (setT s T a z) 0 v = some (s, q)) ∧ ((∀ q, v ≠ u.reverse ++ (z ++ q)) → walk (setT s T a z) 0 v = walk T 0 v)
  | [], T, m, u, a, _, _, h, _, _ => absurd rfl h
  | [b], T, m, u, a, h, hu, _, hm, hn => by
    have ha := pth_lt h u a hu
    have hu' := hu
    rw [pth_fw] at hu'
    have he : edge T a b = 0 := by
      have h1 := hn []
      rw [walk_fw T _ _ 0 a hu'] at h1
      simp only [List.append_nil, walk] at h1
      by_cases c : edge T a b < 0
      · rw [if_pos c] at h1; cases h1
      · by_cases c2 : edge T a b = 0
        · exact c2
        · exfalso
          have hp : pth T (b :: u) = some (edge T a b).toNat := by simp only [pth, hu]; rw [if_pos (by omega)]
          have := h.deep _ _ hp
          simp at this hm; omega
    refine ⟨h.leaf ha he, fun v => ?_⟩
    exact walk_leaf h hu he v
  | b :: c :: r, T, m, u, a, h, hu, _, hm, hn => by
    have ha := pth_lt h u a hu
    have hu' := hu
    rw [pth_fw] at hu'
    have hnl : ¬ edge T a b < 0 := by
      intro c1
      have h1 := hn []
      rw [walk_fw T _ _ 0 a hu'] at h1
      simp only [List.cons_append, walk] at h1
      rw [if_pos c1] at h1; cases h1
    simp only [setT]
    by_cases he : edge T a b = 0
    · rw [if_pos he]
      have hl : a < (T ++ [(0, 0)]).length := by simp; omega
      have h2 := h.grow hu (by simp at hm; omega) he
      have hp2 : pth (upd (T ++ [(0, 0)]) a b T.length) (b :: u) = some T.length := by
        simp only [pth, pth_kept h ha he u a hu, edge_upd hl, true_and, if_true]
        rw [if_pos (by have := h.pos; omega)]
        simp
      have ih := setT_ok s (c :: r) _ m (b :: u) T.length h2 hp2 (by simp) (by simp at hm ⊢; omega) (fun q => by
        rw [walk_grow h ha he _ 0 h.pos]
        have := hn q
        simpa using this)
      refine ⟨ih.1, fun v => ?_⟩
      have hv := ih.2 v
      constructor
      · intro q hq
        exact hv.1 q (by rw [hq]; simp)
      · intro hq
        rw [hv.2 (fun q e => hq q (by rw [e]; simp)), walk_grow h ha he v 0 h.pos]
    · rw [if_neg he]
      have hp2 : pth T (b :: u) = some (edge T a b).toNat := by
        simp only [pth, hu]
        rw [if_pos (by omega)]
      have ih := setT_ok s (c :: r) T m (b :: u) _ h hp2 (by simp) (by simp at hm ⊢; omega) (fun q => by
        have := hn q
        simpa using this)
      refine ⟨ih.1, fun v => ?_⟩
      have hv := ih.2 v
      constructor
      · intro q hq
        exact hv.1 q (by rw [hq]; simp)
      · intro hq
        exact hv.2 (fun q e => hq q (by rw [e]; simp))
theorem GI.start : GI [(0, 0)] 1 := by
  have hz : ∀ a b, edge [(0, 0)] a b = 0 := fun a b => by
    have := edge_more (T := []) a b
    rw [List.nil_append] at this
    rw [this, edge_out (by simp)]
  refine ⟨by simp, fun a b _ => by rw [hz]; simp, fun a b a' b' _ _ h _ => by rw [hz] at h; omega, fun u a hu => ?_⟩
  cases u with
  | nil => simp
  | cons x u =>
    simp only [pth] at hu
    cases hp : pth [(0, 0)] u with
    | none => rw [hp] at hu; cases hu
    | some k => rw [hp] at hu; simp only [hz] at hu; simp at hu
theorem walk_start (v : List Bool) : walk [(0, 0)] 0 v = none := by
  cases v with
  | nil => rfl
  | cons x v =>
    have hz : edge [(0, 0)] 0 x = 0 := by cases x <;> rfl
    simp [walk, hz]
/-- One code more in the tree, one more among the codes. -/
theorem tree_more {T : List (Int × Int)} {cf : Nat → Nat} {ss : List Nat} {m s : Nat} (hm1 : 1 ≤ m) (hm15 : m ≤ 15) (hz : ∀ n, m < n → cf n = 0) (h : GI T m) (hw : ∀ v, walk T 0 v = symG cf ss 15 1 0 0 v)
    {code : Nat} (hc : code = cf m + ssum cf (m - 1) 1) (hlt : code < 2 ^ m) (hs : ss.getD (psumF cf (m - 1) 1 + cf m) 0 = s) :
    GI (setT s T 0 (highBits code m)) m ∧ ∀ v, walk (setT s T 0 (highBits code m)) 0 v = symG (fun n => if n = m then cf m + 1 else cf n) ss 15 1 0 0 v := by
  have hlen := high_len code m
  have hval0 : hval (highBits code m) 0 = code := by rw [hval_high, Nat.mod_eq_of_lt hlt]; omega
  have hfol : ∀ q, fol cf (m - 1) 1 0 (highBits code m ++ q) = some (cf m, q) := fun q => by
    rw [fol_iff]
    exact ⟨highBits code m, by omega, rfl, by rw [hval0]; exact hc⟩
  have hnone : ∀ q, walk T 0 (highBits code m ++ q) = none := fun q => by
    rw [hw]
    exact symG_behind cf ss m hz (m - 1) 1 0 0 15 _ (cf m) q (by omega) (by omega) (hfol q) (Nat.le_refl _)
  obtain ⟨g1, g2⟩ := setT_ok s (highBits code m) T m [] 0 h rfl (by intro e; rw [e] at hlen; simp at hlen; omega) (by simp; omega) (fun q => by simpa using hnone q)
  refine ⟨g1, fun v => ?_⟩
  have hv := g2 v
  rw [symG_more cf ss m hz (m - 1) 1 0 0 15 v (by omega) (by omega)]
  cases hf : fol cf (m - 1) 1 0 v with
  | none =>
    rw [hv.2 (fun q e => by
      have e2 : v = highBits code m ++ q := by simpa using e
      rw [e2, hfol q] at hf; cases hf)]
    exact hw v
  | some xq =>
    obtain ⟨x, q⟩ := xq
    simp only []
    by_cases cx : x = cf m
    · rw [if_pos cx]
      subst cx
      obtain ⟨u, h1, h2, h3⟩ := (fol_iff cf (m - 1) 1 0 v _ q).1 hf
      have hu : u = highBits code m := hval_inj u _ 0 (by omega) (by rw [h3, hval0]; exact hc.symm)
      subst hu
      rw [hv.1 q (by simpa using h2)]
      rw [Nat.zero_add, hs]
    · rw [if_neg cx, hv.2 (fun q' e => by
        have e2 : v = highBits code m ++ q' := by simpa using e
        rw [e2, hfol q'] at hf
        simp only [Option.some.injEq, Prod.mk.injEq] at hf
        exact cx hf.1.symm)]
      exact hw v
end Go.Proofs.YtgkljcmjnphpeaaGreatDoor.Fo
