/- The file's scanner: strings of digits, the walk. -/
import Derived.Test.YtgkljcmjnphpeaaGreatDoorK03
set_option linter.unusedVariables false
set_option linter.unusedSimpArgs false
namespace Go.Proofs.YtgkljcmjnphpeaaGreatDoor
open Go.RowKit
theorem infoValue : (Tryz.prog.info? 67).map (fun i => (i.zero, i.size, i.bytes)) = some (some (.agg #[.int .i64 0, .int .i64 0, .int .i64 0, .string { data := #[] }, .slice none 0 0, .slice none 0 0, .slice none 0 0]), 7, 112) := by kernel_rfl
theorem infoString : (Tryz.prog.info? 9).map (fun i => (i.zero, i.size, i.bytes)) = some (some (.string { data := #[] }), 1, 16) := by kernel_rfl
/-- The cells of a value with no lists. -/
def zero7 : Array Value := #[.int .i64 0, .int .i64 0, .int .i64 0, .string { data := #[] }, .slice none 0 0, .slice none 0 0, .slice none 0 0]
theorem own_apart {w : World} {b b' e e' size size' n n' : Nat} {v v' : Value} {xs xs' : List Value} (h : w.ownsRow b e size v n xs) (h' : w.ownsRow b' e' size' v' n' xs') (hne : e ≠ e') (g : Nat) (hg : v.ownBlock = some g) (hg' : v'.ownBlock = some g) : False := by
  obtain ⟨_, c, f, h1⟩ := own_row h g hg
  obtain ⟨_, c', f', h2⟩ := own_row h' g hg'
  rw [h1] at h2
  simp at h2
  exact hne h2.2.1
theorem set7 {w : World} {b : Nat} (h : w.heap[b]? = some (.cells zero7 67 (0, 0))) (a0 a1 a2 a3 a4 a5 a6 : Value) :
    (((((((w.setCell ⟨b, 0, none⟩ a0).setCell ⟨b, 1, none⟩ a1).setCell ⟨b, 2, none⟩ a2).setCell ⟨b, 3, none⟩ a3).setCell ⟨b, 4, none⟩ a4).setCell ⟨b, 5, none⟩ a5).setCell ⟨b, 6, none⟩ a6).heap[b]? = some (.cells #[a0, a1, a2, a3, a4, a5, a6] 67 (0, 0)) := by
  rw [blk_setCell _ (blk_setCell _ (blk_setCell _ (blk_setCell _ (blk_setCell _ (blk_setCell _ (blk_setCell _ h))))))]
  rfl
theorem only7 (w : World) (b : Nat) (a0 a1 a2 a3 a4 a5 a6 : Value) :
    Only b w (((((((w.setCell ⟨b, 0, none⟩ a0).setCell ⟨b, 1, none⟩ a1).setCell ⟨b, 2, none⟩ a2).setCell ⟨b, 3, none⟩ a3).setCell ⟨b, 4, none⟩ a4).setCell ⟨b, 5, none⟩ a5).setCell ⟨b, 6, none⟩ a6) :=
  ((((((((Only.refl b w).setCell 0 a0).setCell 1 a1).setCell 2 a2).setCell 3 a3).setCell 4 a4).setCell 5 a5).setCell 6 a6)
theorem VIn.agg {P : Nat → Prop} {k : Nat} {w : World} {v : Value} {V : VT k} (h : VIn P k w v V) : ∃ a0 a1 a2 a3 a4 a5 a6, v = .agg #[a0, a1, a2, a3, a4, a5, a6] := by
  cases k with
  | zero => cases h
  | succ k =>
    obtain ⟨iv, kv, fv, vs, rfl, _⟩ := h
    exact ⟨_, _, _, _, _, _, _, rfl⟩
theorem VIn.form {P : Nat → Prop} {k : Nat} {w : World} {v : Value} {V : VT k} (h : VIn P k w v V) : ∃ (kd nn pp : Int) (TT : ByteArray) (ia : Option Addr) (il ic : Nat) (ka : Option Addr) (kl kc : Nat) (fa : Option Addr) (fl fc : Nat), v = .agg #[.int .i64 kd, .int .i64 nn, .int .i64 pp, .string TT, .slice ia il ic, .slice ka kl kc, .slice fa fl fc] := by
  cases k with
  | zero => cases h
  | succ k =>
    obtain ⟨iv, kv, fv, vs, rfl, _, hi, _, hk, hf⟩ := h
    obtain ⟨a1, c1, rfl⟩ := own_slice hi.1
    obtain ⟨a2, c2, rfl⟩ := own_slice hk.1
    obtain ⟨a3, c3, rfl⟩ := own_slice hf.1
    exact ⟨_, _, _, _, _, _, _, _, _, _, _, _, _, rfl⟩
/-- A row's cells, part by part. -/
theorem row_part {w : World} {b e size n : Nat} {v : Value} {vs : List Value} (h : w.ownsRow b e size v n (vs.flatMap cellsOf)) (hs : ∀ x ∈ vs, (cellsOf x).length = size) (h0 : 0 < size) {i : Nat} {x : Value} (hx : vs[i]? = some x) :
    ∃ g c, v = .slice (some ⟨g, 0, none⟩) n c ∧ n ≤ c ∧ c ≤ maxLen ∧ v.ownBlock = some g ∧ ∀ j u, (cellsOf x)[j]? = some u → w.cell? ⟨g, i * size + j, none⟩ = some u := by
  have hi := (List.getElem?_eq_some_iff.1 hx).1
  have key : ∀ (vs : List Value) (i : Nat), (∀ x ∈ vs, (cellsOf x).length = size) → ∀ x, vs[i]? = some x → ∀ j u, (cellsOf x)[j]? = some u → (vs.flatMap cellsOf)[i * size + j]? = some u := by
    intro vs
    induction vs with
    | nil => intro i _ x hx; simp at hx
    | cons y vs ih =>
      intro i hs x hx j u hu
      rw [List.flatMap_cons]
      have hy := hs y (by simp)
      have hj : j < (cellsOf x).length := (List.getElem?_eq_some_iff.1 hu).1
      cases i with
      | zero =>
        simp at hx
        subst hx
        rw [Nat.zero_mul, Nat.zero_add, List.getElem?_append_left hj]
        exact hu
      | succ i =>
        rw [List.getElem?_append_right (by rw [hy, Nat.add_mul]; omega), hy]
        rw [show (i + 1) * size + j - size = i * size + j by rw [Nat.add_mul]; omega]
        exact ih i (fun z hz => hs z (by simp [hz])) x (by simpa using hx) j u hu
  have hk := key vs i hs x hx
  rcases h.2 with ⟨rfl, rfl⟩ | ⟨g, c, cur, rfl, _, hh, hc1, hc2, _, ht⟩
  · have h1 : vs.flatMap cellsOf = [] := List.eq_nil_of_length_eq_zero (by rw [h.1]; omega)
    have hx2 := hs x (List.mem_of_getElem? hx)
    have := hk 0 _ (List.getElem?_eq_getElem (by omega))
    rw [h1] at this
    simp at this
  · refine ⟨g, c, rfl, hc1, hc2, rfl, fun j u hu => ?_⟩
    have := hk j u hu
    rw [← ht] at this
    rw [cell_blk hh, ← Array.getElem?_toList]
    have hlt := (List.getElem?_eq_some_iff.1 this).1
    rw [List.getElem?_take_of_lt (by rw [List.length_take] at hlt; omega)] at this
    exact this
theorem row_one {w : World} {b e n : Nat} {v : Value} {xs : List Value} (h : w.ownsRow b e 1 v n xs) {i : Nat} {x : Value} (hx : xs[i]? = some x) :
    ∃ g c, v = .slice (some ⟨g, 0, none⟩) n c ∧ w.cell? ⟨g, i, none⟩ = some x := by
  have hi := (List.getElem?_eq_some_iff.1 hx).1
  rcases h.2 with ⟨rfl, rfl⟩ | ⟨g, c, cur, rfl, _, hh, hc1, hc2, _, ht⟩
  · have := h.1; omega
  · refine ⟨g, c, rfl, ?_⟩
    rw [cell_blk hh, ← Array.getElem?_toList]
    rw [← ht] at hx
    have hlt := (List.getElem?_eq_some_iff.1 hx).1
    rw [List.getElem?_take_of_lt (by rw [List.length_take] at hlt; omega)] at hx
    exact hx
/-- A value's parts. -/
theorem VIn.parts {P : Nat → Prop} {k : Nat} {w : World} {v : Value} {V : Node (VT k)} (h : VIn P (k + 1) w v V) : ∃ (iv kv fv : Value) (vs : List Value), v = nodeVal V iv kv fv ∧ vs.length = V.items.length ∧
      RowIn P w 67 7 iv vs.length (vs.flatMap cellsOf) ∧ (∀ (i : Nat) (x : Value) (y : VT k), vs[i]? = some x → V.items[i]? = some y → VIn P k w x y) ∧
      RowIn P w 9 1 kv V.keys.length (V.keys.map fun s => .string (strN s)) ∧
      RowIn P w 3 1 fv V.filters.length (V.filters.map fun f : Nat => .int .i64 (f : Int)) := h
/-- A list of values, in memory from a block on. -/
def Vals (P : Nat → Prop) (k : Nat) (b : Nat) (Ys : List (VT k)) (w : World) (v : Value) : Prop :=
  ∃ xs : List Value, w.ownsRow b 67 7 v xs.length (xs.flatMap cellsOf) ∧ xs.length = Ys.length ∧ ∀ (i : Nat) (x : Value) (y : VT k), xs[i]? = some x → Ys[i]? = some y → VIn P k w x y
def kindOf : {k : Nat} → VT k → Nat
  | 0, _ => 0
  | _ + 1, V => Node.kind V
def nOf : {k : Nat} → VT k → Int
  | 0, _ => 0
  | _ + 1, V => Node.n V
def textOf : {k : Nat} → VT k → List Nat
  | 0, _ => []
  | _ + 1, V => Node.text V
theorem VIn.form2 {P : Nat → Prop} {k : Nat} {w : World} {v : Value} {V : VT k} (h : VIn P k w v V) : ∃ (pp : Nat) (ia : Option Addr) (il ic : Nat) (ka : Option Addr) (kl kc : Nat) (fa : Option Addr) (fl fc : Nat), v = .agg #[.int .i64 (kindOf V : Int), .int .i64 (nOf V), .int .i64 (pp : Int), .string (strN (textOf V)), .slice ia il ic, .slice ka kl kc, .slice fa fl fc] := by
  cases k with
  | zero => cases h
  | succ k =>
    obtain ⟨iv, kv, fv, vs, rfl, _, hi, _, hk, hf⟩ := h
    obtain ⟨a1, c1, rfl⟩ := own_slice hi.1
    obtain ⟨a2, c2, rfl⟩ := own_slice hk.1
    obtain ⟨a3, c3, rfl⟩ := own_slice hf.1
    exact ⟨_, _, _, _, _, _, _, _, _, _, rfl⟩
theorem Vals.len {P : Nat → Prop} {k b : Nat} {Ys : List (VT k)} {w : World} {v : Value} (h : Vals P k b Ys w v) : ∃ a c, v = .slice a Ys.length c := by
  obtain ⟨xs, h1, h2, _⟩ := h
  obtain ⟨a, c, e⟩ := own_slice h1
  exact ⟨a, c, by rw [e, h2]⟩
theorem Vals.mono {P Q : Nat → Prop} {k b : Nat} {Ys : List (VT k)} {w : World} {v : Value} (h : Vals P k b Ys w v) (hk : ∀ g, P g → g < w.heap.size → Q g) : Vals Q k b Ys w v := by
  obtain ⟨xs, h1, h2, h3⟩ := h
  exact ⟨xs, h1, h2, fun i x y hx hy => VIn.mono k (h3 i x y hx hy) hk⟩
theorem Vals.at {P : Nat → Prop} {k b : Nat} {Ys : List (VT k)} {w : World} {v : Value} (h : Vals P k b Ys w v) {i : Nat} {y : VT k} (hy : Ys[i]? = some y) :
    ∃ g c x, v = .slice (some ⟨g, 0, none⟩) Ys.length c ∧ b ≤ g ∧ Ys.length ≤ c ∧ VIn P k w x y ∧ ∀ j u, (cellsOf x)[j]? = some u → w.cell? ⟨g, i * 7 + j, none⟩ = some u := by
  obtain ⟨xs, h1, h2, h3⟩ := h
  have hi := (List.getElem?_eq_some_iff.1 hy).1
  obtain ⟨x, hx⟩ : ∃ x, xs[i]? = some x := ⟨_, List.getElem?_eq_getElem (by omega)⟩
  obtain ⟨g, c, e, hc, _, hb, hcell⟩ := row_part h1 (fun x hx => by
    obtain ⟨j, hj, hjx⟩ := List.getElem_of_mem hx
    obtain ⟨y, hy⟩ : ∃ y, Ys[j]? = some y := ⟨_, List.getElem?_eq_getElem (by omega)⟩
    exact (h3 j x y (by rw [List.getElem?_eq_getElem hj, hjx]) hy).cells.1) (by decide) hx
  exact ⟨g, c, x, by rw [e, h2], (h1.lt g hb).1, by omega, h3 i x y hx hy, hcell⟩
theorem Vals.base {P : Nat → Prop} {k b : Nat} {Ys : List (VT k)} {w : World} {v : Value} (h : Vals P k b Ys w v) : Vals P k 0 Ys w v := by
  obtain ⟨xs, h1, h2, h3⟩ := h
  exact ⟨xs, ownsRow_base h1 (Nat.zero_le _), h2, h3⟩
theorem own_belowW {B e k n : Nat} {v : Value} {xs : List Value} {w w' : World} (h : w.ownsRow B e k v n xs) (b : Below w.heap.size w w') : w'.ownsRow B e k v n xs := by
  obtain ⟨h1, h2⟩ := h
  refine ⟨h1, ?_⟩
  rcases h2 with h2 | ⟨g, c, cur, e1, e2, hh, hc⟩
  · exact Or.inl h2
  · exact Or.inr ⟨g, c, cur, e1, e2, by rw [b.block g (lt_of_block hh)]; exact hh, hc⟩
theorem Vals.keep {P : Nat → Prop} {k b : Nat} {Ys : List (VT k)} {w w' : World} {v : Value} (h : Vals P k b Ys w v) (hb : Below w.heap.size w w') : Vals P k b Ys w' v := by
  obtain ⟨xs, h1, h2, h3⟩ := h
  exact ⟨xs, own_belowW h1 hb, h2, fun i x y hx hy => VIn.keep k (h3 i x y hx hy) (fun g _ hg => hb.block g hg)⟩
end Go.Proofs.YtgkljcmjnphpeaaGreatDoor
namespace Go.Proofs.YtgkljcmjnphpeaaGreatDoor
open Go.RowKit
namespace Fo
/-- The digits up to their end. -/
def hexDigs : List Nat → Option (List Nat × List Nat)
  | [] => none
  | b :: r => if whiteB b then hexDigs r else if b = 62 then some ([], r) else match hexVal b with
    | none => none
    | some v => (hexDigs r).map fun x => (v :: x.1, x.2)
def pairs : List Nat → List Nat
  | [] => []
  | [a] => [16 * a]
  | a :: b :: l => (16 * a + b) :: pairs l
def hexText (r : List Nat) : Option (List Nat × List Nat) := (hexDigs r).map fun x => (pairs x.1, x.2)
theorem hexDigs_white : ∀ r : List Nat, hexDigs r = hexDigs (r.dropWhile whiteB)
  | [] => rfl
  | b :: r => by
    rw [List.dropWhile_cons]
    cases h : whiteB b
    · rfl
    · simp only [hexDigs, h, if_true]
      exact hexDigs_white r
end Fo
variable {B bs cap : Nat} {ao : Option Addr} {data : List Nat} {x2 x3 x4 : Value} {w w' : World} {r q : List Nat}
variable {w0 : World} {ov : Value} {out : List Nat}
/-- What nextInk comes to. -/
def InkTo (B bs : Nat) (ao : Option Addr) (cap : Nat) (data : List Nat) (x2 x3 x4 : Value) (w : World) (r : List Nat) (e : Ending) (w' : World) : Prop :=
  match r.dropWhile whiteB with
  | [] => e = gaveUp 4 ∧ Only bs w w'
  | b :: t => e = .returned (.int .u8 (b : Nat)) ∧ Sc B bs ao cap data x2 x3 x4 w' t ∧ Only bs w w'
set_option maxRecDepth 100000 in
set_option maxHeartbeats 1000000 in
theorem snextInk_ok (h : Sc B bs ao cap data x2 x3 x4 w r) :
    Calls Tryz.prog 302 #[.pointer (some ⟨bs, 0, none⟩)] w (InkTo B bs ao cap data x2 x3 x4 w r) := by
  have c0 := h.c0
  have c1 := h.c1
  have f1 := h.fz 1
  have HW := hide h.white
  have H1 := hide ((h.go (List.dropWhile_suffix whiteB)).drew)
  have hle := h.le
  have hln := h.len
  have HO1 : Hid (Only bs w (w.setCell ⟨bs, 1, none⟩ (.int .i64 (data.length - (r.dropWhile whiteB).length : Nat))).drew) := ((Only.refl bs w).setCell _ _).drewN 1
  clear h
  unfold InkTo
  generalize r.dropWhile whiteB = q1 at *
  have hq1 : data.length - q1.length ≤ 200000 := by omega
  generalize data.length - r.length = p at *
  generalize data.length - q1.length = p1 at *
  cases q1 with
  | nil =>
    have HN := hide (snext_no H1.out)
    go_enter Tryz.func302, Tryz.ntmps302
    go_wp2_with fail
    go_region_with (go_at_call 188; refine HW.out.mono ?_; rintro e w' ⟨rfl, rfl⟩)
    all_goals (
      go_wp2_with fail
      refine HN.out.mono ?_
      rintro e w2 ⟨rfl, m, rfl⟩
      exact ⟨rfl, rfl, HO1.out.drewN m⟩)
  | cons b t =>
    have HN := hide (snext_ok H1.out)
    go_enter Tryz.func302, Tryz.ntmps302
    go_wp2_with fail
    go_region_with (go_at_call 188; refine HW.out.mono ?_; rintro e w' ⟨rfl, rfl⟩)
    all_goals (
      go_wp2_with fail
      refine HN.out.mono ?_
      rintro e w2 ⟨rfl, h2, k2⟩
      go_wp2
      go_ret
      exact ⟨rfl, h2, HO1.out.trans k2⟩)
theorem Fo.pairs_pad (l : List Nat) (h : l.length % 2 = 1) : Fo.pairs (l ++ [0]) = Fo.pairs l := by
  have key : ∀ (n : Nat) (l : List Nat), l.length = 2 * n + 1 → Fo.pairs (l ++ [0]) = Fo.pairs l := by
    intro n
    induction n with
    | zero =>
      intro l hl
      match l, hl with
      | [a], _ => rfl
    | succ n ih =>
      intro l hl
      match l, hl with
      | a :: b :: l, hl =>
        simp only [List.length_cons] at hl
        show Fo.pairs (a :: b :: (l ++ [0])) = Fo.pairs (a :: b :: l)
        simp only [Fo.pairs]
        rw [ih l (by omega)]
  exact key (l.length / 2) l (by omega)
end Go.Proofs.YtgkljcmjnphpeaaGreatDoor
namespace Go.Proofs.YtgkljcmjnphpeaaGreatDoor
open Go.RowKit
variable {B bs cap : Nat} {ao : Option Addr} {data : List Nat} {x2 x3 x4 : Value} {w w' : World} {r q : List Nat}
variable {w0 : World} {ov : Value} {out : List Nat}
/-- All digits. -/
def Digs (l : List Nat) : Prop := ∀ x ∈ l, x < 16
theorem Digs.snoc {l : List Nat} {v : Nat} (h : Digs l) (hv : v < 16) : Digs (l ++ [v]) := by
  intro x hx
  rcases List.mem_append.1 hx with hx | hx
  · exact h x hx
  · rw [List.mem_singleton] at hx; omega
theorem Digs.nth {l : List Nat} (h : Digs l) (i : Nat) (hi : i < l.length) : nth l i < 16 := by
  have : Go.Proofs.YtgkljcmjnphpeaaGreatDoor.nth l i = l[i] := by simp [Go.Proofs.YtgkljcmjnphpeaaGreatDoor.nth, hi]
  rw [this]; exact h _ (List.getElem_mem hi)
/-- Digits in a row of their own, joined to bytes in another. -/
structure Jn (w0 : World) (bs : Nat) (w1 : World) (D : List Nat) (dv : Value) (wr : World) (k : Nat) (ov : Value) : Prop where
  own : wr.ownsRow w1.heap.size 5 1 ov k (((Fo.pairs D).take k).map fun x : Nat => .int .u8 (x : Int))
  keep : Below w1.heap.size w1 wr
theorem pairs_len2 : ∀ (n : Nat) (D : List Nat), D.length = 2 * n → (Fo.pairs D).length = n
  | 0, D, h => by
    obtain rfl : D = [] := List.eq_nil_of_length_eq_zero (by omega)
    rfl
  | n + 1, D, h => by
    match D, h with
    | a :: b :: l, h =>
      simp only [List.length_cons] at h
      simp only [Fo.pairs, List.length_cons]
      rw [pairs_len2 n l (by omega)]
theorem pairs_nth : ∀ (k : Nat) (D : List Nat), 2 * k + 1 < D.length → nth (Fo.pairs D) k = 16 * nth D (2 * k) + nth D (2 * k + 1)
  | 0, D, h => by
    match D, h with
    | a :: b :: l, h => rfl
  | k + 1, D, h => by
    match D, h with
    | a :: b :: l, h =>
      simp only [List.length_cons] at h
      have := pairs_nth k l (by omega)
      show nth ((16 * a + b) :: Fo.pairs l) (k + 1) = _
      rw [show nth ((16 * a + b) :: Fo.pairs l) (k + 1) = nth (Fo.pairs l) k from rfl, this]
      rfl
theorem take_nth {l : List Nat} {k : Nat} (h : k < l.length) : l.take (k + 1) = l.take k ++ [nth l k] := by
  rw [List.take_add_one, show nth l k = l[k] by simp [nth, h]]
  simp [h]
set_option maxRecDepth 100000 in
set_option maxHeartbeats 4000000 in
theorem shexText_ok (h : Sc B bs ao cap data x2 x3 x4 w r) :
    Calls Tryz.prog 253 #[.pointer (some ⟨bs, 0, none⟩)] w (SRes B bs ao cap data x2 x3 x4 strV (Fo.hexText r) w) := by
  obtain ⟨i0, hi, hz0, hz1, hz2⟩ := info_parts Tryz.infoByte
  have H := hide (Bu.start h)
  have HN := hide (snextInk_ok h)
  have hln := h.len
  clear h
  obtain ⟨R, hR⟩ : ∃ R, Fo.hexText r = R := ⟨_, rfl⟩
  rw [hR]
  obtain ⟨RD, hRD⟩ : ∃ RD, Fo.hexDigs r = RD := ⟨_, rfl⟩
  have HR : Hid (R = RD.map fun x => (Fo.pairs x.1, x.2)) := by unfold Hid; rw [← hR, ← hRD]; rfl
  have HRD : Hid (Fo.hexDigs (r.dropWhile whiteB) = RD) := by unfold Hid; rw [← hRD]; exact (Fo.hexDigs_white r).symm
  clear hR hRD
  unfold InkTo at HN
  cases hq : r.dropWhile whiteB with
  | nil =>
    rw [hq] at HN HRD
    have HE : Hid (R = none) := by unfold Hid; rw [HR.out, ← HRD.out]; rfl
    simp only [] at HN
    clear hq
    go_enter Tryz.func253, Tryz.ntmps253
    go_wp2_with fail
    refine HN.out.mono ?_
    rintro e w1 ⟨rfl, k1⟩
    exact ⟨rfl, SRes.none_ HE.out k1⟩
  | cons b0 t0 =>
    have hw0 := dropWhile_head r b0 t0 hq
    have hb0 : b0 < 256 := H.out.sc.bytes b0 ((List.dropWhile_suffix whiteB).subset (by rw [hq]; simp))
    have hl0 := Fo.dropWhile_len (p := whiteB) r
    rw [hq] at HN HRD hl0
    simp only [] at HN
    clear hq
    go_enter Tryz.func253, Tryz.ntmps253
    go_wp2_with fail
    refine HN.out.mono ?_
    rintro e w1 ⟨rfl, h1, k1⟩
    have HB1 := hide (H.out.step h1 k1 (by simp only [List.length_cons] at hl0; omega))
    have hfew : 0 + (b0 :: t0).length ≤ 200000 := by have := H.out.few; simp only [List.length_nil] at this; omega
    clear h1 k1 HN H
    go_wp2
    go_loopw [3, 4] (fun u v wr => ∃ (b : Nat) (q out : List Nat), v = .int .u8 (b : Nat) ∧ whiteB b = false ∧ b < 256 ∧ out.length + (b :: q).length ≤ 200000 ∧ Hid (Bu w B bs ao cap data x2 x3 x4 wr q u out) ∧ Hid (Digs out) ∧ Hid (addTo out (Fo.hexDigs (b :: q)) = RD)) (fun _ _ wr => data.length - posS bs wr)
    case atStart =>
      refine ⟨b0, t0, [], rfl, hw0, hb0, by simpa using hfew, HB1, (fun x hx => (by cases hx)), ?_⟩
      unfold Hid
      rw [← HRD.out]
      cases Fo.hexDigs (b0 :: t0) <;> simp [addTo]
    clear HB1 HRD hw0 hl0 hfew
    case round =>
      obtain ⟨b, q, out, rfl, hwb, hb256, hfew, HBU, HDG, HRQ⟩ := hrel
      have HPQ := hide HBU.out.sc.posS
      by_cases h62 : b = 62
      · have HRE : Hid (RD = some (out, q)) := by
          unfold Hid
          rw [← HRQ.out, h62]
          simp [Fo.hexDigs, show whiteB 62 = false from rfl, addTo]
        clear HRQ hwb HPQ
        have h62' : ((b : Int) != 62) = false := by rw [h62]; rfl
        clear h62
        by_cases hpar : out.length % 2 = 1
        · have hrem : ((out.length : Int)).tmod 2 = 1 := by rw [Int.tmod_eq_emod_of_nonneg (by omega)]; omega
          obtain ⟨ua, uc, hu3⟩ := own_slice HBU.out.own
          subst hu3
          have hsz := HBU.out.sz
          simp only [List.length_cons] at hfew
          go_wp2_with (at_builtin; refine wpList_append_own _ rfl (.tmp 22) (.tmp 23) 23 rfl w.heap.size 5 i0 (.int .u8 0) 1 1 Tryz.underlying23 hi hz0 hz1 hz2 rfl (by decide) (.slice ua out.length uc) out.length _ rfl (HBU.out.alloc _).own ⟨wr.heap.size, 0, none⟩ 1 1 ([0].map fun x : Nat => .int .u8 (x : Int)) rfl rfl (Bu.one_news 0 wr) ?hone ?h63 ?hby ?hbs ?_)
          case hone => intro u hu; simp at hu; subst hu; rfl
          case h63 => unfold maxLen; omega
          case hby => omega
          case hbs => simp; omega
          intro v6 w6 own6 hg6 _
          have HBU6 := hide ((HBU.out.alloc _).app (xs := [0]) (by simp) own6 hg6 (by simp only [List.length_cons, List.length_nil]; omega))
          clear own6 hg6
          have HPR : Hid (R = some (Fo.pairs (out ++ [0]), q)) := by unfold Hid; rw [HR.out, HRE.out, Fo.pairs_pad out hpar]; rfl
          have HEV : Hid ((out ++ [0]).length % 2 = 0) := by unfold Hid; rw [List.length_append]; simp; omega
          have HDG6 : Hid (Digs (out ++ [0])) := HDG.out.snoc (by omega)
          have hln6 : (out ++ [0]).length ≤ 200001 := by rw [List.length_append]; simp; omega
          clear HBU HDG HRE hrem hpar hfew
          have HBU := HBU6
          have HDG := HDG6
          clear HBU6 HDG6
          have HJ0 : Hid (Jn w bs w6 (out ++ [0]) v6 w6 0 (.slice none 0 0)) := ⟨World.ownsRow_nil _ _ _ _, Below.refl _ _⟩
          have HDat : Hid (∀ i, i < (out ++ [0]).length → ∃ g c, v6 = .slice (some ⟨g, 0, none⟩) (out ++ [0]).length c ∧ g < w6.heap.size ∧ w6.cell? ⟨g, i, none⟩ = some (.int .u8 (nth (out ++ [0]) i : Nat))) := fun i hi => by
            obtain ⟨g, c, hv, hg⟩ := own_form HBU.out.own (by omega)
            refine ⟨g, c, hv, ?_, ?_⟩
            · have := HBU.out.own
              rw [hv] at this
              exact (this.lt g rfl).2
            · have := HBU.out.own
              rw [hv] at this
              have hx := this.cells (g := g) rfl i (.int .u8 (nth (out ++ [0]) i : Nat)) (by rw [List.getElem?_map, List.getElem?_eq_getElem hi]; simp [nth, List.getElem?_eq_getElem hi])
              rw [addr_add] at hx; exact hx
          have hDn : (out ++ [0]).length ≤ 200001 := hln6
          obtain ⟨da, dc, hdv⟩ := own_slice HBU.out.own
          generalize hDD : (out ++ [0]) = D at *
          have HDD := hide hDD
          clear hDD
          subst hdv
          have hev : D.length % 2 = 0 := HEV.out
          have HPL := hide (pairs_len2 (D.length / 2) D (by omega))
          go_wp2
          go_loopw [5, 6] (fun ov i wr => ∃ k p : Nat, 2 * k ≤ D.length ∧ Hid (p = 2 * k) ∧ i = .int .i64 (p : Nat) ∧ Hid (Jn w bs w6 D (.slice da D.length dc) wr k ov)) (fun _ i _ => D.length - (intOf i).toNat)
          case atStart => exact ⟨0, 0, by omega, hide rfl, rfl, HJ0⟩
          clear HJ0
          case round =>
            obtain ⟨k, p, hk, HP, rfl, HJ⟩ := hrel
            have hp := HP.out
            by_cases hlt : p < D.length
            · have hltI : (p : Int) < (D.length : Int) := by omega
              obtain ⟨g, c, hv, hg, hc0⟩ := HDat.out p hlt
              obtain ⟨g', c', hv', _, hc1⟩ := HDat.out (p + 1) (by omega)
              cases hv
              cases hv'
              have d0 := (HJ.out.keep.cell (p := ⟨g, p, none⟩) hg).trans hc0
              have d1 := (HJ.out.keep.cell (p := ⟨g, p + 1, none⟩) hg).trans hc1
              have ha := HDG.out.nth p hlt
              have hb := HDG.out.nth (p + 1) (by omega)
              have HNX : Hid (nth (Fo.pairs D) k = 16 * nth D p + nth D (p + 1)) := by unfold Hid; rw [hp]; exact pairs_nth k D (by omega)
              clear hc0 hc1
              generalize nth D p = a at *
              generalize nth D (p + 1) = b at *
              have hor : bits BinOp.or IntKind.u8 ((a : Int) * 16) (b : Int) = ((16 * a + b : Nat) : Int) := by
                have := u8_or_nat (a * 16) b (by omega) (by omega)
                rw [join16 a b ha hb] at this
                simp only [Int.natCast_mul, Int.natCast_add] at this ⊢
                rw [show ((16 : Nat) : Int) = 16 from rfl] at this ⊢
                rw [this]; omega
              obtain ⟨z, hzz⟩ : ∃ z, 16 * a + b = z := ⟨_, rfl⟩
              rw [hzz] at hor HNX
              clear hzz
              have hk2 : 2 * k + 1 < D.length := by omega
              have hks := HJ.out.keep.size
              have hI1 : (p : Int) + 1 < (D.length : Int) := by omega
              have hwa : IntKind.u8.wrap ((a : Int) * 16) = (a : Int) * 16 := by rw [IntKind.wrap_u8]; omega
              have hwp : IntKind.i64.wrap ((p : Int) + 1) = (p : Int) + 1 := by rw [IntKind.wrap_i64]; omega
              have hwt : ((p : Int) + 1).toNat = p + 1 := by omega
              have hw0 : (0 : Int) ≤ (p : Int) + 1 := by omega
              have hkI : (p : Int) ≤ 200001 := by omega
              have hkN : k ≤ 200001 := by omega
              clear hp
              go_wp2_with fail
              go_region_law (refine step_append_own' rfl (.tmp 31) (.tmp 43) 23 rfl w6.heap.size 5 i0 (.int .u8 0) 1 1 Tryz.underlying23 hi hz0 hz1 hz2 rfl (by decide) u5 k _ rfl (World.ownsRow.drew (HJ.out.own.alloc _)) ⟨wr.heap.size, 0, none⟩ 1 1 ([z].map fun x : Nat => .int .u8 (x : Int)) rfl rfl ?hnews ?hone ?h63 ?hby ?hb ?_; (case hnews => exact Bu.one_news z wr); (case hone => intro u hu; simp at hu; subst hu; rfl); (case h63 => unfold maxLen; omega); (case hby => omega); (case hb => simp; omega); intro v' w8 hown8 hg8 _)
              all_goals (
                have H8 : Hid (Jn w bs w6 D (.slice (some ⟨g, 0, none⟩) D.length dc) w8 (k + 1) v') := by
                  refine ⟨?_, (((HJ.out.keep.alloc hks _).drew).trans ⟨hg8.os, hg8.tape, hg8.output, hg8.size, fun j hj => hg8.block j (by simp; omega) (own_off HJ.out.own hj)⟩)⟩
                  rw [take_nth (by rw [HPL.out]; have := HP.out; omega), List.map_append, HNX.out]
                  exact hown8
                clear hown8 hg8
                go_wp2)
              all_goals go_roundw
              all_goals first | exact ⟨k + 1, p + 2, by have := HP.out; omega, by have := HP.out; unfold Hid; omega, by go_num, H8⟩ | (clear hwt hwp hwa hw0 hor; simp [intOf]; omega)
            · have hltI : ¬ (p : Int) < (D.length : Int) := by omega
              have hkk : k = D.length / 2 := by omega
              clear hp
              have hcv := string_own (l := (Fo.pairs D).take k) (by have := HJ.out.own; rw [List.length_take, HPL.out, ← hkk, Nat.min_self]; exact this)
              have HTK : Hid ((Fo.pairs D).take k = Fo.pairs D) := by
                unfold Hid
                rw [List.take_of_length_le (by rw [HPL.out]; omega)]
              rw [HTK.out] at hcv
              obtain ⟨S, hS⟩ : ∃ S, strN (Fo.pairs D) = S := ⟨_, rfl⟩
              rw [hS] at hcv
              have HS := hide hS
              clear hS
              go_wp2
              go_ret
              refine SRes.some_ HPR.out (by rw [strV, HS.out]; rfl) (HBU.out.sc.other HJ.out.keep) (HBU.out.only.trans (.of_below HJ.out.keep))
        · have hrem : ((out.length : Int)).tmod 2 = 0 := by rw [Int.tmod_eq_emod_of_nonneg (by omega)]; omega
          have HPR : Hid (R = some (Fo.pairs out, q)) := by unfold Hid; rw [HR.out, HRE.out]; rfl
          have HEV : Hid (out.length % 2 = 0) := by unfold Hid; omega
          simp only [List.length_cons] at hfew
          have hln6 : out.length ≤ 200001 := by omega
          clear hpar hfew
          obtain ⟨w6, hw6⟩ : ∃ w6, w6 = wr := ⟨_, rfl⟩
          subst hw6
          have HJ0 : Hid (Jn w bs w6 out u3 w6 0 (.slice none 0 0)) := ⟨World.ownsRow_nil _ _ _ _, Below.refl _ _⟩
          have HDat : Hid (∀ i, i < out.length → ∃ g c, u3 = .slice (some ⟨g, 0, none⟩) out.length c ∧ g < w6.heap.size ∧ w6.cell? ⟨g, i, none⟩ = some (.int .u8 (nth out i : Nat))) := fun i hi => by
            obtain ⟨g, c, hv, hg⟩ := own_form HBU.out.own (by omega)
            refine ⟨g, c, hv, ?_, ?_⟩
            · have := HBU.out.own
              rw [hv] at this
              exact (this.lt g rfl).2
            · have := HBU.out.own
              rw [hv] at this
              have hx := this.cells (g := g) rfl i (.int .u8 (nth out i : Nat)) (by rw [List.getElem?_map, List.getElem?_eq_getElem hi]; simp [nth, List.getElem?_eq_getElem hi])
              rw [addr_add] at hx; exact hx
          have hDn : out.length ≤ 200001 := hln6
          obtain ⟨da, dc, hdv⟩ := own_slice HBU.out.own
          generalize hDD : out = D at *
          have HDD := hide hDD
          clear hDD
          subst hdv
          have hev : D.length % 2 = 0 := HEV.out
          have HPL := hide (pairs_len2 (D.length / 2) D (by omega))
          go_wp2
          go_loopw [5, 6] (fun ov i wr => ∃ k p : Nat, 2 * k ≤ D.length ∧ Hid (p = 2 * k) ∧ i = .int .i64 (p : Nat) ∧ Hid (Jn w bs w6 D (.slice da D.length dc) wr k ov)) (fun _ i _ => D.length - (intOf i).toNat)
          case atStart => exact ⟨0, 0, by omega, hide rfl, rfl, HJ0⟩
          clear HJ0
          case round =>
            obtain ⟨k, p, hk, HP, rfl, HJ⟩ := hrel
            have hp := HP.out
            by_cases hlt : p < D.length
            · have hltI : (p : Int) < (D.length : Int) := by omega
              obtain ⟨g, c, hv, hg, hc0⟩ := HDat.out p hlt
              obtain ⟨g', c', hv', _, hc1⟩ := HDat.out (p + 1) (by omega)
              cases hv
              cases hv'
              have d0 := (HJ.out.keep.cell (p := ⟨g, p, none⟩) hg).trans hc0
              have d1 := (HJ.out.keep.cell (p := ⟨g, p + 1, none⟩) hg).trans hc1
              have ha := HDG.out.nth p hlt
              have hb := HDG.out.nth (p + 1) (by omega)
              have HNX : Hid (nth (Fo.pairs D) k = 16 * nth D p + nth D (p + 1)) := by unfold Hid; rw [hp]; exact pairs_nth k D (by omega)
              clear hc0 hc1
              generalize nth D p = a at *
              generalize nth D (p + 1) = b at *
              have hor : bits BinOp.or IntKind.u8 ((a : Int) * 16) (b : Int) = ((16 * a + b : Nat) : Int) := by
                have := u8_or_nat (a * 16) b (by omega) (by omega)
                rw [join16 a b ha hb] at this
                simp only [Int.natCast_mul, Int.natCast_add] at this ⊢
                rw [show ((16 : Nat) : Int) = 16 from rfl] at this ⊢
                rw [this]; omega
              obtain ⟨z, hzz⟩ : ∃ z, 16 * a + b = z := ⟨_, rfl⟩
              rw [hzz] at hor HNX
              clear hzz
              have hk2 : 2 * k + 1 < D.length := by omega
              have hks := HJ.out.keep.size
              have hI1 : (p : Int) + 1 < (D.length : Int) := by omega
              have hwa : IntKind.u8.wrap ((a : Int) * 16) = (a : Int) * 16 := by rw [IntKind.wrap_u8]; omega
              have hwp : IntKind.i64.wrap ((p : Int) + 1) = (p : Int) + 1 := by rw [IntKind.wrap_i64]; omega
              have hwt : ((p : Int) + 1).toNat = p + 1 := by omega
              have hw0 : (0 : Int) ≤ (p : Int) + 1 := by omega
              have hkI : (p : Int) ≤ 200001 := by omega
              have hkN : k ≤ 200001 := by omega
              clear hp
              go_wp2_with fail
              go_region_law (refine step_append_own' rfl (.tmp 31) (.tmp 43) 23 rfl w6.heap.size 5 i0 (.int .u8 0) 1 1 Tryz.underlying23 hi hz0 hz1 hz2 rfl (by decide) u5 k _ rfl (World.ownsRow.drew (HJ.out.own.alloc _)) ⟨wr.heap.size, 0, none⟩ 1 1 ([z].map fun x : Nat => .int .u8 (x : Int)) rfl rfl ?hnews ?hone ?h63 ?hby ?hb ?_; (case hnews => exact Bu.one_news z wr); (case hone => intro u hu; simp at hu; subst hu; rfl); (case h63 => unfold maxLen; omega); (case hby => omega); (case hb => simp; omega); intro v' w8 hown8 hg8 _)
              all_goals (
                have H8 : Hid (Jn w bs w6 D (.slice (some ⟨g, 0, none⟩) D.length dc) w8 (k + 1) v') := by
                  refine ⟨?_, (((HJ.out.keep.alloc hks _).drew).trans ⟨hg8.os, hg8.tape, hg8.output, hg8.size, fun j hj => hg8.block j (by simp; omega) (own_off HJ.out.own hj)⟩)⟩
                  rw [take_nth (by rw [HPL.out]; have := HP.out; omega), List.map_append, HNX.out]
                  exact hown8
                clear hown8 hg8
                go_wp2)
              all_goals go_roundw
              all_goals first | exact ⟨k + 1, p + 2, by have := HP.out; omega, by have := HP.out; unfold Hid; omega, by go_num, H8⟩ | (clear hwt hwp hwa hw0 hor; simp [intOf]; omega)
            · have hltI : ¬ (p : Int) < (D.length : Int) := by omega
              have hkk : k = D.length / 2 := by omega
              clear hp
              have hcv := string_own (l := (Fo.pairs D).take k) (by have := HJ.out.own; rw [List.length_take, HPL.out, ← hkk, Nat.min_self]; exact this)
              have HTK : Hid ((Fo.pairs D).take k = Fo.pairs D) := by
                unfold Hid
                rw [List.take_of_length_le (by rw [HPL.out]; omega)]
              rw [HTK.out] at hcv
              obtain ⟨S, hS⟩ : ∃ S, strN (Fo.pairs D) = S := ⟨_, rfl⟩
              rw [hS] at hcv
              have HS := hide hS
              clear hS
              go_wp2
              go_ret
              refine SRes.some_ HPR.out (by rw [strV, HS.out]; rfl) (HBU.out.sc.other HJ.out.keep) (HBU.out.only.trans (.of_below HJ.out.keep))
      · have h62' : ((b : Int) != 62) = true := by simp; omega
        cases hx : Fo.hexVal b with
        | none =>
          have HE : Hid (R = none) := by unfold Hid; rw [HR.out, ← HRQ.out]; simp [Fo.hexDigs, hwb, h62, hx, addTo]
          have HX := hide (shexValue_no b wr hx)
          clear hx HRQ
          go_wp2_with fail
          refine HX.out.mono ?_
          rintro e w' ⟨rfl, rfl⟩
          exact ⟨rfl, SRes.none_ HE.out HBU.out.only⟩
        | some v =>
          have HRV : Hid (addTo (out ++ [v]) (Fo.hexDigs q) = RD) := by
            unfold Hid
            rw [← HRQ.out, ← addTo_map]; simp [Fo.hexDigs, hwb, h62, hx]
          have HX := hide (shexValue_ok b v wr hx)
          have hv16 := hexVal_lt16 hx
          clear hx HRQ
          go_wp2_with fail
          refine HX.out.mono ?_
          rintro e w' ⟨rfl, rfl⟩
          have hsz := HBU.out.sz
          go_wp2_with (at_builtin; refine wpList_append_own _ rfl (.tmp 13) (.tmp 16) 23 rfl w.heap.size 5 i0 (.int .u8 0) 1 1 Tryz.underlying23 hi hz0 hz1 hz2 rfl (by decide) u3 out.length _ rfl (HBU.out.alloc _).own ⟨w'.heap.size, 0, none⟩ 1 1 ([v].map fun x : Nat => .int .u8 (x : Int)) rfl rfl (Bu.one_news v w') ?hone ?h63 ?hby ?hbs ?_)
          case hone => intro u hu; simp at hu; subst hu; rfl
          case h63 => unfold maxLen; simp only [List.length_cons] at hfew; omega
          case hby => simp only [List.length_cons] at hfew; omega
          case hbs => simp; omega
          intro v6 w6 own6 hg6 _
          have H6 := hide ((HBU.out.alloc _).app (xs := [v]) (by simp) own6 hg6 (by simp only [List.length_cons, List.length_nil] at hfew ⊢; omega))
          clear own6 hg6
          have HN := hide (snextInk_ok H6.out.sc)
          unfold InkTo at HN
          have HRW : Hid (addTo (out ++ [v]) (Fo.hexDigs (q.dropWhile whiteB)) = RD) := by unfold Hid; rw [← Fo.hexDigs_white]; exact HRV.out
          cases hq : q.dropWhile whiteB with
          | nil =>
            rw [hq] at HN HRW
            simp only [] at HN
            have HE : Hid (R = none) := by unfold Hid; rw [HR.out, ← HRW.out]; rfl
            clear hq
            go_wp2_with fail
            refine HN.out.mono ?_
            rintro e w7 ⟨rfl, k7⟩
            exact ⟨rfl, SRes.none_ HE.out (H6.out.only.trans k7)⟩
          | cons b1 t1 =>
            have hw1 := dropWhile_head q b1 t1 hq
            have hl1 := Fo.dropWhile_len (p := whiteB) q
            have hb1 : b1 < 256 := HBU.out.sc.bytes b1 ((List.dropWhile_suffix whiteB).subset (by rw [hq]; simp))
            rw [hq] at HN HRW hl1
            simp only [] at HN
            clear hq
            go_wp2_with fail
            refine HN.out.mono ?_
            rintro e w7 ⟨rfl, h7, k7⟩
            simp only [List.length_cons] at hl1 hfew
            have H7 := hide (H6.out.step h7 k7 (by omega))
            have HM7 := hide h7.posS
            have hq7 := h7.le
            have hle6 := HBU.out.sc.le
            clear h7 k7
            go_wp2
            go_roundw
            case rel => exact ⟨b1, t1, out ++ [v], rfl, hw1, hb1, by simp only [List.length_append, List.length_cons, List.length_nil]; omega, H7, HDG.out.snoc hv16, HRW⟩
            case measure =>
              rw [HPQ.out, HM7.out]
              omega
end Go.Proofs.YtgkljcmjnphpeaaGreatDoor
