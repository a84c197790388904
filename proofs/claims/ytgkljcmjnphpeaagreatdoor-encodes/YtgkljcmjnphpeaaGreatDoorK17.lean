/- The document's answer: filter 4: lengths, distances, copies. -/
import Derived.Test.YtgkljcmjnphpeaaGreatDoorK15
import Derived.Test.YtgkljcmjnphpeaaGreatDoorK05
import Derived.Test.YtgkljcmjnphpeaaGreatDoorK16
set_option linter.unusedVariables false
set_option linter.unusedSimpArgs false
namespace Go.Proofs.YtgkljcmjnphpeaaGreatDoor.Fo
theorem ssum_next (cf : Nat → Nat) : ∀ (t len : Nat), ssum cf (t + 1) len = 2 * (ssum cf t len + cf (len + t))
  | 0, len => by simp [ssum]
  | t + 1, len => by
    have ih := ssum_next cf t (len + 1)
    rw [ssum, ih]
    conv => rhs; rw [ssum]
    rw [Nat.pow_succ 2 (t + 1), show len + 1 + t = len + (t + 1) by omega]
    have : 2 ^ (t + 1) * 2 * cf len = 2 * (2 ^ (t + 1) * cf len) := by rw [Nat.mul_comm (2 ^ (t + 1)) 2, Nat.mul_assoc]
    omega
theorem ssum_congr (f g : Nat → Nat) : ∀ (t len : Nat), (∀ n, len ≤ n → n < len + t → f n = g n) → ssum f t len = ssum g t len
  | 0, _, _ => rfl
  | t + 1, len, h => by
    rw [ssum, ssum, h len (Nat.le_refl _) (by omega), ssum_congr f g t (len + 1) (fun n h1 h2 => h n (by omega) (by omega))]
theorem psumF_congr (f g : Nat → Nat) : ∀ (t len : Nat), (∀ n, len ≤ n → n < len + t → f n = g n) → psumF f t len = psumF g t len
  | 0, _, _ => rfl
  | t + 1, len, h => by
    rw [psumF, psumF, h len (Nat.le_refl _) (by omega), psumF_congr f g t (len + 1) (fun n h1 h2 => h n (by omega) (by omega))]
/-- How many symbols of each length there are up to a length, and of it up to a symbol. -/
def cntF (l : List Nat) (n s k : Nat) : Nat := if k < n then l.count k else if k = n then (l.take s).count n else 0
theorem cntF_zero (l : List Nat) (n s : Nat) : ∀ k, n < k → cntF l n s k = 0 := fun k h => by unfold cntF; rw [if_neg (by omega), if_neg (by omega)]
theorem cntF_here (l : List Nat) (n s : Nat) : cntF l n s n = (l.take s).count n := by unfold cntF; rw [if_neg (by omega), if_pos rfl]
theorem cntF_next (l : List Nat) (n k : Nat) : cntF l (n + 1) 0 k = cntF l n l.length k := by
  unfold cntF
  rw [List.take_length, List.take_zero]
  by_cases h1 : k < n
  · rw [if_pos (by omega), if_pos h1]
  · by_cases h2 : k = n
    · subst h2; rw [if_pos (by omega), if_neg (by omega), if_pos rfl]
    · rw [if_neg (by omega), if_neg h1, if_neg h2]
      split <;> simp
theorem take_count {l : List Nat} {s : Nat} (hs : s < l.length) (n : Nat) : (l.take (s + 1)).count n = (l.take s).count n + (if l.getD s 0 = n then 1 else 0) := by
  rw [List.take_succ_eq_append_getElem hs, List.count_append]
  have : l.getD s 0 = l[s] := by simp [List.getD_eq_getElem?_getD, hs]
  rw [this]
  by_cases c : l[s] = n
  · rw [if_pos c]; simp [c]
  · rw [if_neg c]; simp [List.count_cons, c]
theorem cntF_more {l : List Nat} {n s : Nat} (hs : s < l.length) (h : l.getD s 0 = n) (k : Nat) : cntF l n (s + 1) k = if k = n then cntF l n s n + 1 else cntF l n s k := by
  unfold cntF
  by_cases h1 : k < n
  · rw [if_pos h1, if_neg (by omega), if_pos h1]
  · by_cases h2 : k = n
    · subst h2
      rw [if_neg h1, if_pos rfl, if_pos rfl, if_neg (by omega), if_pos rfl, take_count hs, if_pos h]
    · rw [if_neg h1, if_neg h2, if_neg h2, if_neg h1, if_neg h2]
theorem cntF_same {l : List Nat} {n s : Nat} (hs : s < l.length) (h : l.getD s 0 ≠ n) (k : Nat) : cntF l n (s + 1) k = cntF l n s k := by
  unfold cntF
  by_cases h2 : k = n
  · subst h2
    rw [if_neg (by omega), if_pos rfl, if_neg (by omega), if_pos rfl, take_count hs, if_neg h]; rfl
  · by_cases h1 : k < n
    · rw [if_pos h1, if_pos h1]
    · rw [if_neg h1, if_neg h2, if_neg h1, if_neg h2]
def kr (cf : Nat → Nat) : Nat → Nat
  | 0 => 0
  | k + 1 => kr cf k + cf (k + 1) * 2 ^ (14 - k)
theorem kr_mono (f g : Nat → Nat) (h : ∀ k, f k ≤ g k) : ∀ n, kr f n ≤ kr g n
  | 0 => Nat.le_refl _
  | n + 1 => Nat.add_le_add (kr_mono f g h n) (Nat.mul_le_mul_right _ (h (n + 1)))
theorem kr_congr (f g : Nat → Nat) : ∀ n, (∀ k, 1 ≤ k → k ≤ n → f k = g k) → kr f n = kr g n
  | 0, _ => rfl
  | n + 1, h => by rw [kr, kr, kr_congr f g n (fun k h1 h2 => h k h1 (by omega)), h (n + 1) (by omega) (by omega)]
theorem kr_zero (cf : Nat → Nat) (n : Nat) : ∀ m, (∀ k, n < k → cf k = 0) → n ≤ m → kr cf m = kr cf n
  | 0, _, h => by rw [show n = 0 by omega]
  | m + 1, hz, h => by
    by_cases c : n = m + 1
    · rw [c]
    · rw [kr, hz (m + 1) (by omega), Nat.zero_mul, Nat.add_zero]
      exact kr_zero cf n m hz (by omega)
/-- The next code, and how full the codes are. -/
theorem code_full (cf : Nat → Nat) : ∀ n, 1 ≤ n → n ≤ 15 → (cf n + ssum cf (n - 1) 1) * 2 ^ (15 - n) = kr cf n
  | 0, h, _ => by omega
  | 1, _, _ => by simp [ssum, kr]
  | n + 2, _, h => by
    have ih := code_full cf (n + 1) (by omega) (by omega)
    rw [show n + 2 - 1 = n + 1 by omega, ssum_next cf n 1, kr, ← ih]
    rw [show n + 1 - 1 = n by omega, show 1 + n = n + 1 by omega, show 14 - (n + 1) = 15 - (n + 2) by omega]
    rw [show 15 - (n + 1) = (15 - (n + 2)) + 1 by omega, Nat.pow_succ, Nat.add_mul]
    generalize 2 ^ (15 - (n + 2)) = P
    rw [show n + 1 + 1 = n + 2 from rfl]
    have e1 : 2 * (ssum cf n 1 + cf (n + 1)) * P = (cf (n + 1) + ssum cf n 1) * (P * 2) := by
      rw [Nat.add_comm (cf (n + 1)), Nat.mul_comm P 2, ← Nat.mul_assoc, Nat.mul_comm 2]
    omega
theorem code_lt {cf : Nat → Nat} {n : Nat} (h1 : 1 ≤ n) (h15 : n ≤ 15) (h : kr cf n + 2 ^ (15 - n) ≤ 32768) : cf n + ssum cf (n - 1) 1 < 2 ^ n := by
  have e := code_full cf n h1 h15
  have e2 : 2 ^ n * 2 ^ (15 - n) = 32768 := by rw [← Nat.pow_add, show n + (15 - n) = 15 by omega]
  have hP : 0 < 2 ^ (15 - n) := Nat.pos_of_ne_zero (by simp)
  generalize 2 ^ (15 - n) = P at *
  generalize cf n + ssum cf (n - 1) 1 = C at *
  rcases Nat.lt_or_ge C (2 ^ n) with c | c
  · exact c
  · have : 2 ^ n * P ≤ C * P := Nat.mul_le_mul_right _ c
    omega
/-- The symbols of lengths, in the order of their codes. -/
def ssOf (l : List Nat) : List Nat := (fillTo l l.length).2
def placeIn (l : List Nat) (k : Nat) : Nat := pre (cz l) (nth l k) + (l.take k).count (nth l k)
theorem take_lt (l : List Nat) (k : Nat) (hk : k < l.length) : (l.take k).count (nth l k) < l.count (nth l k) := by
  have e : l = l.take k ++ (nth l k :: l.drop (k + 1)) := by
    have : nth l k = l[k] := by simp [nth, hk]
    rw [this, ← List.drop_eq_getElem_cons hk, List.take_append_drop]
  have h4 := congrArg (List.count (nth l k)) e
  rw [List.count_append, List.count_cons_self] at h4
  omega
theorem take_mono (l : List Nat) (x : Nat) {a b : Nat} (h : a ≤ b) : (l.take a).count x ≤ (l.take b).count x := by
  have : l.take a = (l.take b).take a := by rw [List.take_take, Nat.min_eq_left h]
  rw [this]
  exact List.Sublist.count_le x (List.take_sublist _ _)
theorem placeIn_lt {l : List Nat} (hl : ∀ i, i < l.length → nth l i < 16) {k : Nat} (hk : k < l.length) (h0 : 0 < nth l k) : placeIn l k < pre (cz l) (nth l k + 1) := by
  have hx := hl k hk
  rw [placeIn, pre_succ (cz l) (nth l k) (by rw [cz_length]; exact hx), nth_cz _ _ h0 hx]
  have := take_lt l k hk
  omega
theorem placeIn_ne {l : List Nat} (hl : ∀ i, i < l.length → nth l i < 16) {s k : Nat} (hsk : s < k) (hk : k < l.length) (h0 : 0 < nth l s) (h1 : 0 < nth l k) : placeIn l k ≠ placeIn l s := by
  by_cases e : nth l k = nth l s
  · unfold placeIn
    rw [e]
    have h2 := take_count (l := l) (s := s) (by omega) (nth l s)
    have h3 : l.getD s 0 = nth l s := rfl
    rw [if_pos h3] at h2
    have h4 := take_mono l (nth l s) (a := s + 1) (b := k) (by omega)
    omega
  · have a1 := placeIn_lt hl hk h1
    have a2 := placeIn_lt hl (show s < l.length by omega) h0
    have b1 : pre (cz l) (nth l k) ≤ placeIn l k := Nat.le_add_right _ _
    have b2 : pre (cz l) (nth l s) ≤ placeIn l s := Nat.le_add_right _ _
    rcases Nat.lt_or_ge (nth l k) (nth l s) with c | c
    · have := pre_mono (cz l) (nth l k + 1) (nth l s) c; omega
    · have := pre_mono (cz l) (nth l s + 1) (nth l k) (by omega); omega
theorem fillTo_at {l : List Nat} (hl : ∀ i, i < l.length → nth l i < 16) {s : Nat} (hs : s < l.length) (h0 : 0 < nth l s) : ∀ j, s + 1 + j ≤ l.length → nth (fillTo l (s + 1 + j)).2 (placeIn l s) = s
  | 0, _ => by
    obtain ⟨h1, h2, h3⟩ := fillTo_inv l hl s (by omega)
    have hlt := fillTo_lt l hl s hs h0
    have hp : nth (fillTo l s).1 (nth l s) = placeIn l s := h3 _ h0 (hl s hs)
    rw [Nat.add_zero, fillTo, if_neg (by omega)]
    simp only []
    rw [hp] at hlt ⊢
    exact nth_set_self _ _ _ (by rw [h2]; exact hlt)
  | j + 1, hj => by
    have ih := fillTo_at hl hs h0 j (by omega)
    have hk : s + 1 + j < l.length := by omega
    obtain ⟨_, _, h3⟩ := fillTo_inv l hl (s + 1 + j) (by omega)
    rw [show s + 1 + (j + 1) = (s + 1 + j) + 1 by omega, fillTo]
    by_cases c : nth l (s + 1 + j) = 0
    · rw [if_pos c]; exact ih
    · rw [if_neg c]
      simp only []
      have hp : nth (fillTo l (s + 1 + j)).1 (nth l (s + 1 + j)) = placeIn l (s + 1 + j) := h3 _ (by omega) (hl _ hk)
      rw [hp, nth_set_ne _ _ _ _ (placeIn_ne hl (by omega) hk h0 (by omega))]
      exact ih
theorem ssOf_at {l : List Nat} (hl : ∀ i, i < l.length → nth l i < 16) {s : Nat} (hs : s < l.length) (h0 : 0 < nth l s) : (ssOf l).getD (placeIn l s) 0 = s := by
  have := fillTo_at hl hs h0 (l.length - (s + 1)) (by omega)
  rw [show s + 1 + (l.length - (s + 1)) = l.length by omega] at this
  exact this
theorem pre_psum (c : List Nat) (hc : c.length = 16) : ∀ (t len : Nat), len + t ≤ 16 → pre c (len + t) = pre c len + psumF (fun k => nth c k) t len
  | 0, len, _ => by simp [psumF]
  | t + 1, len, h => by
    have := pre_psum c hc t (len + 1) (by omega)
    rw [show len + (t + 1) = len + 1 + t by omega, this, pre_succ c len (by omega), psumF]
    omega
theorem place_eq {l : List Nat} (hl : ∀ i, i < l.length → nth l i < 16) {n s : Nat} (hn : 1 ≤ n) (h15 : n ≤ 15) (h : nth l s = n) : psumF (cntF l n s) (n - 1) 1 + cntF l n s n = placeIn l s := by
  rw [cntF_here, placeIn, h]
  have e1 := pre_psum (cz l) (cz_length l) (n - 1) 1 (by omega)
  rw [show 1 + (n - 1) = n by omega] at e1
  have e2 : pre (cz l) 1 = 0 := by
    have := pre_succ (cz l) 0 (by rw [cz_length]; omega)
    rw [nth_cz0] at this
    rw [this]; simp [pre]
  rw [e1, e2, Nat.zero_add]
  congr 1
  refine psumF_congr _ _ _ _ (fun k h1 h2 => ?_)
  rw [nth_cz l k (by omega) (by omega)]
  unfold cntF
  rw [if_pos (by omega)]
/-- Symbols of a tree are no greater than so. -/
def EB (T : List (Int × Int)) (M : Nat) : Prop := ∀ a x, -1 - (M : Int) ≤ edge T a x
theorem edge_upd_or (T : List (Int × Int)) (a : Nat) (b : Bool) (y : Int) (a' : Nat) (b' : Bool) : edge (upd T a b y) a' b' = y ∨ edge (upd T a b y) a' b' = edge T a' b' := by
  by_cases h : a < T.length
  · rw [edge_upd h]
    split
    · exact Or.inl rfl
    · exact Or.inr rfl
  · right
    unfold upd
    rw [List.set_eq_of_length_le (by omega)]
theorem EB.upd {T : List (Int × Int)} {M : Nat} (h : EB T M) (a : Nat) (b : Bool) {y : Int} (hy : -1 - (M : Int) ≤ y) : EB (upd T a b y) M := by
  intro a' b'
  rcases edge_upd_or T a b y a' b' with e | e
  · rw [e]; exact hy
  · rw [e]; exact h a' b'
theorem EB.set {s M : Nat} (hs : s ≤ M) : ∀ (z : List Bool) (T : List (Int × Int)) (a : Nat), EB T M → EB (setT s T a z) M
  | [], T, a, h => h
  | [b], T, a, h => h.upd a b (by omega)
  | b :: c :: r, T, a, h => by
    simp only [setT]
    split
    · refine EB.set hs (c :: r) _ _ (EB.upd (fun a' b' => ?_) a b (by omega))
      rw [edge_more]; exact h a' b'
    · exact EB.set hs (c :: r) _ _ h
theorem EB.start (M : Nat) : EB [(0, 0)] M := by
  intro a b
  have hz := edge_more (T := []) a b
  rw [List.nil_append] at hz
  rw [hz, edge_out (by simp)]
  omega
/-- Where the laying of lengths into a tree stands. -/
structure Gr (l : List Nat) (n s : Nat) (T : List (Int × Int)) (full code : Nat) : Prop where
  gi : GI T n
  eb : EB T l.length
  wk : ∀ v, walk T 0 v = symG (cntF l n s) (ssOf l) 15 1 0 0 v
  fu : full = kr (cntF l n s) 15
  co : code = cntF l n s n + ssum (cntF l n s) (n - 1) 1
  le : full ≤ 32768
  sz : T.length ≤ 1 + 15 * ((n - 1) * l.length + s)
theorem Gr.start (l : List Nat) : Gr l 1 0 [(0, 0)] 0 0 := by
  have hz : ∀ k, 1 ≤ k → cntF l 1 0 k = 0 := fun k hk => by unfold cntF; rw [if_neg (by omega)]; split <;> simp
  refine ⟨GI.start, EB.start _, fun v => ?_, ?_, ?_, by omega, by simp⟩
  · rw [walk_start, symG_zero]
    exact fun n hn => hz n hn
  · rw [kr_zero _ 0 15 (fun k hk => hz k hk) (by omega)]; rfl
  · rw [hz 1 (by omega)]; simp [ssum]
theorem Gr.skip {l : List Nat} {n s full code : Nat} {T : List (Int × Int)} (h : Gr l n s T full code) (hs : s < l.length) (hn : nth l s ≠ n) : Gr l n (s + 1) T full code := by
  have e : cntF l n (s + 1) = cntF l n s := funext fun k => cntF_same hs hn k
  refine ⟨h.gi, h.eb, ?_, ?_, ?_, h.le, by have := h.sz; omega⟩
  · rw [e]; exact h.wk
  · rw [e]; exact h.fu
  · rw [e]; exact h.co
theorem Gr.next {l : List Nat} {n full code : Nat} {T : List (Int × Int)} (h : Gr l n l.length T full code) (h1 : 1 ≤ n) : Gr l (n + 1) 0 T full (2 * code) := by
  have e : cntF l (n + 1) 0 = cntF l n l.length := funext fun k => cntF_next l n k
  refine ⟨h.gi.mono (by omega), h.eb, ?_, ?_, ?_, h.le, ?_⟩
  · rw [e]; exact h.wk
  · rw [e]; exact h.fu
  · rw [e, h.co, cntF_zero l n l.length (n + 1) (by omega), Nat.zero_add]
    obtain ⟨m, rfl⟩ : ∃ m, n = m + 1 := ⟨n - 1, by omega⟩
    rw [show m + 1 + 1 - 1 = m + 1 by omega, show m + 1 - 1 = m by omega, ssum_next, Nat.add_comm 1 m]
    omega
  · have := h.sz
    obtain ⟨m, rfl⟩ : ∃ m, n = m + 1 := ⟨n - 1, by omega⟩
    rw [show m + 1 + 1 - 1 = m + 1 by omega, Nat.add_mul]
    rw [show m + 1 - 1 = m by omega] at this
    omega
theorem kr_more (cf : Nat → Nat) (n : Nat) (h1 : 1 ≤ n) : ∀ m, n ≤ m → kr (fun k => if k = n then cf n + 1 else cf k) m = kr cf m + 2 ^ (15 - n)
  | 0, h => by omega
  | m + 1, h => by
    by_cases c : n = m + 1
    · subst c
      rw [kr, kr, if_pos rfl, kr_congr _ cf m (fun k _ hk => if_neg (by omega)), Nat.add_mul, Nat.one_mul]
      rw [show 14 - m = 15 - (m + 1) by omega]
      omega
    · rw [kr, kr, if_neg (by omega), kr_more cf n h1 m (by omega)]
      omega
theorem Gr.over {l : List Nat} {n s full code : Nat} {T : List (Int × Int)} (h : Gr l n s T full code) (h1 : 1 ≤ n) (h15 : n ≤ 15) (hs : s < l.length) (hn : nth l s = n) (ho : 32768 < full + 2 ^ (15 - n)) : 32768 < kr (fun k => l.count k) 15 := by
  have e : cntF l n (s + 1) = fun k => if k = n then cntF l n s n + 1 else cntF l n s k := funext fun k => cntF_more hs hn k
  have e2 := kr_more (cntF l n s) n h1 15 h15
  rw [← e, ← h.fu] at e2
  have e3 : kr (cntF l n (s + 1)) 15 ≤ kr (fun k => l.count k) 15 := by
    refine kr_mono _ _ (fun k => ?_) 15
    unfold cntF
    split
    · exact Nat.le_refl _
    · split
      · rename_i hk; rw [hk]; exact List.Sublist.count_le n (List.take_sublist _ _)
      · exact Nat.zero_le _
  omega
/-- A code may be laid into a tree from its root on. -/
def SetPre0 (T : List (Int × Int)) (code n : Nat) : Prop := GI T n ∧ ∀ q, walk T 0 (highBits code n ++ q) = none
theorem Gr.more {l : List Nat} (hl : ∀ i, i < l.length → nth l i < 16) {n s full code : Nat} {T : List (Int × Int)} (h : Gr l n s T full code) (h1 : 1 ≤ n) (h15 : n ≤ 15) (hs : s < l.length) (hn : nth l s = n) (ho : full + 2 ^ (15 - n) ≤ 32768) :
    SetPre0 T code n ∧ code < 2 ^ n ∧ ((setT s T 0 (highBits code n)).length ≤ T.length + n → Gr l n (s + 1) (setT s T 0 (highBits code n)) (full + 2 ^ (15 - n)) (code + 1)) := by
  have hfu : full = kr (cntF l n s) n := by rw [h.fu, kr_zero _ n 15 (cntF_zero l n s) h15]
  have hlt : code < 2 ^ n := by rw [h.co]; exact code_lt h1 h15 (by rw [← hfu]; exact ho)
  have e : cntF l n (s + 1) = fun k => if k = n then cntF l n s n + 1 else cntF l n s k := funext fun k => cntF_more hs hn k
  have hval0 : hval (highBits code n) 0 = code := by rw [hval_high, Nat.mod_eq_of_lt hlt]; omega
  have hlen := high_len code n
  obtain ⟨g1, g2⟩ := tree_more h1 h15 (cntF_zero l n s) h.gi h.wk h.co hlt (s := s) (by rw [place_eq hl h1 h15 hn]; exact ssOf_at hl hs (by omega))
  refine ⟨⟨h.gi, fun q => ?_⟩, hlt, fun hsz => ⟨g1, h.eb.set (by omega) _ _ _, ?_, ?_, ?_, ho, ?_⟩⟩
  · rw [h.wk]
    refine symG_behind (cntF l n s) (ssOf l) n (cntF_zero l n s) (n - 1) 1 0 0 15 _ (cntF l n s n) q (by omega) (by omega) ?_ (Nat.le_refl _)
    rw [fol_iff]
    exact ⟨highBits code n, by omega, rfl, by rw [hval0]; exact h.co⟩
  · intro v; rw [g2 v, e]
  · rw [e, kr_more _ n h1 15 h15, ← h.fu]
  · rw [e, h.co]
    simp only [if_true]
    rw [ssum_congr _ (cntF l n s) (n - 1) 1 (fun k _ hk => if_neg (by omega))]
    omega
  · have := h.sz
    omega
theorem Gr.code_le {l : List Nat} {n s full code : Nat} {T : List (Int × Int)} (h : Gr l n s T full code) (h1 : 1 ≤ n) (h15 : n ≤ 15) : code ≤ 32768 := by
  have e := code_full (cntF l n s) n h1 h15
  rw [← h.co, ← kr_zero _ n 15 (cntF_zero l n s) h15, ← h.fu] at e
  have hP : 0 < 2 ^ (15 - n) := Nat.pos_of_ne_zero (by simp)
  have := Nat.le_mul_of_pos_right code hP
  have := h.le
  omega
/-- All lengths have been laid: the tree is read as the codes are. -/
theorem Gr.done {l : List Nat} (hl : ∀ i, i < l.length → nth l i < 16) {full code : Nat} {T : List (Int × Int)} (h : Gr l 16 0 T full code) : full = kr (fun k => l.count k) 15 ∧ (∀ v, walk T 0 v = sym (cz l) (ssOf l) v) ∧ GI T 16 := by
  have e : ∀ k, 1 ≤ k → k ≤ 15 → cntF l 16 0 k = l.count k := fun k h1 h2 => by unfold cntF; rw [if_pos (by omega)]
  refine ⟨by rw [h.fu]; exact kr_congr _ _ 15 e, fun v => ?_, h.gi⟩
  rw [h.wk, sym_eq]
  refine symG_congr _ _ _ 15 1 0 0 v (fun n h1 h2 => ?_)
  rw [e n h1 (by omega)]
  exact (nth_cz l n (by omega) (by omega)).symm
end Go.Proofs.YtgkljcmjnphpeaaGreatDoor.Fo
namespace Go.Proofs.YtgkljcmjnphpeaaGreatDoor
open Go.RowKit
variable {B bt : Nat} {w : World} {v : Value} {T : List (Int × Int)}
theorem TreeOwn.toIn (h : TreeOwn B bt w v T) (h0 : 0 < T.length) (hl : T.length ≤ 100000) : TreeIn w bt T := by
  obtain ⟨g, c, rfl, hg⟩ := own_form h.own h0
  rcases h.own.2 with ⟨e1, _⟩ | ⟨g', c', cur, e1, _, hh, hc, hm, _⟩
  · cases e1
  cases e1
  refine ⟨g, c, cur, _, _, h.blk, hh, hc, hl, by unfold maxLen at hm; omega, fun i hi => ?_⟩
  have hcell : ∀ x : Bool, cur[i * 2 + x.toNat]? = some (.int .i64 (Fo.edge T i x)) := fun x => by
    have hx1 : x.toNat ≤ 1 := by cases x <;> decide
    have h1 := h.own.cellAt (i * 2 + x.toNat) (by omega)
    rw [cell_blk hh] at h1
    rw [h1]; exact Fo.flat_get T i x hi
  have a := hcell false
  have b := hcell true
  rw [Nat.mul_comm] at a b
  exact ⟨a, b⟩
theorem SetPre0.pre {code n : Nat} (hn : 1 ≤ n) (h : Fo.SetPre0 T code n) : Fo.SetPre T 0 (Fo.highBits code n) n := by
  have hlen := Fo.high_len code n
  exact ⟨[], h.1, rfl, by intro e; rw [e] at hlen; simp at hlen; omega, by simp [hlen], fun q => by simpa using h.2 q⟩
theorem run_buildTree (b : Nat) (W : World) : (Instr.build 252 #[(0, .slice (some ⟨b, 0, none⟩) 1 1)]).run Tryz.prog W = .ok (.agg #[.slice (some ⟨b, 0, none⟩) 1 1]) W := by kernel_rfl
/-- What grown answers. -/
def GrownTo (l : List Nat) (T : List (Int × Int)) (full : Nat) : Prop :=
  (full = Fo.kr (fun k => l.count k) 15 ∧ full ≤ 32768 ∧ Fo.GI T 16 ∧ Fo.EB T l.length ∧ ∀ v, Fo.walk T 0 v = Fo.sym (cz l) (Fo.ssOf l) v) ∨ (32768 < full ∧ 32768 < Fo.kr (fun k => l.count k) 15)
set_option maxRecDepth 100000 in
set_option maxHeartbeats 2000000 in
theorem grown_ok (gl ol cap : Nat) (l : List Nat) (hl : ∀ i, i < l.length → nth l i < 16) (hn : l.length ≤ 320) (hg : gl < w.heap.size) (hc : ∀ i, i < l.length → w.cell? ⟨gl, ol + i, none⟩ = some (.int .i64 (nth l i : Nat))) (hcap : l.length ≤ cap ∧ cap ≤ 9223372036854775807) :
    Calls Tryz.prog 208 #[.slice (some ⟨gl, ol, none⟩) l.length cap] w fun x w' => ∃ (bt : Nat) (T : List (Int × Int)) (full : Nat), x = .returned (.tuple #[.pointer (some ⟨bt, 0, none⟩), .int .i64 full]) ∧ TreeIn w' bt T ∧ w.heap.size ≤ bt ∧ Below w.heap.size w w' ∧ GrownTo l T full := by
  have hb2 := run_build2
  have hbt := run_buildTree
  have HL := hide hl
  have HC := hide hc
  clear hl hc
  go_enter Tryz.func208, Tryz.ntmps208
  go_wp2
  have hown0 := World.ownsRow_lit (base := w.heap.size) (e := 249) (size := 2) w #[.int .i64 0, .int .i64 0] 1 (Nat.le_refl _) (by unfold maxLen; omega) rfl
  have ht0 : TreeOwn w.heap.size (w.heap.size + 1) ((w.alloc (.cells #[.int .i64 0, .int .i64 0] 249)).alloc (.cells #[.slice (some ⟨w.heap.size, 0, none⟩) 1 1] 252)) (.slice (some ⟨w.heap.size, 0, none⟩) 1 1) [(0, 0)] := by
    refine ⟨by omega, ?_, hown0.alloc _⟩
    have := blk_new (w.alloc (.cells #[.int .i64 0, .int .i64 0] 249)) (.cells #[.slice (some ⟨w.heap.size, 0, none⟩) 1 1] 252)
    simpa using this
  have bl0 : Below w.heap.size w ((w.alloc (.cells #[.int .i64 0, .int .i64 0] 249)).alloc (.cells #[.slice (some ⟨w.heap.size, 0, none⟩) 1 1] 252)) := ((Below.refl _ _).alloc (Nat.le_refl _) _).alloc (by simp) _
  go_loopw [5, 6, 7] (fun vf vc vn wr => ∃ (n full code : Nat) (v' : Value) (T : List (Int × Int)), vf = .int .i64 full ∧ vc = .int .i64 code ∧ vn = .int .i64 n ∧ 1 ≤ n ∧ n ≤ 16 ∧ TreeOwn w.heap.size (w.heap.size + 1) wr v' T ∧ Hid (Fo.Gr l n 0 T full code) ∧ code ≤ 65536 ∧ Below w.heap.size w wr) (fun _ _ vn _ => 16 - (intOf vn).toNat)
  case atStart => exact ⟨1, 0, 0, _, _, rfl, rfl, rfl, by omega, by omega, ht0, Fo.Gr.start l, by omega, bl0⟩
  clear ht0 bl0 hown0
  case round =>
    obtain ⟨n, full, code, v', T, rfl, rfl, rfl, h1, h16, ht, HG, hcd, bl⟩ := hrel
    have hfl := HG.out.le
    by_cases hn15 : n ≤ 15
    · have hn15' : (n : Int) ≤ 15 := by omega
      go_wp2
      go_loopw [5, 6, 8] (fun vf vc vs wr => ∃ (s full code : Nat) (v' : Value) (T : List (Int × Int)), vf = .int .i64 full ∧ vc = .int .i64 code ∧ vs = .int .i64 s ∧ s ≤ l.length ∧ TreeOwn w.heap.size (w.heap.size + 1) wr v' T ∧ Hid (Fo.Gr l n s T full code) ∧ Below w.heap.size w wr) (fun _ _ vs _ => l.length - (intOf vs).toNat)
      case atStart => exact ⟨0, full, code, v', T, rfl, rfl, rfl, by omega, ht, HG, bl⟩
      clear ht HG bl hfl hcd
      case round =>
        obtain ⟨s, full, code, v', T, rfl, rfl, rfl, hsl, ht, HG, bl⟩ := hrel
        have hfl := HG.out.le
        have hcd := HG.out.code_le h1 hn15
        by_cases hs : s < l.length
        · have hs' : (s : Int) < l.length := by omega
          have hld : wr.cell? ⟨gl, ol + s, none⟩ = some (.int .i64 (nth l s : Nat)) := by
            rw [bl.cell (p := ⟨gl, ol + s, none⟩) hg]; exact HC.out s hs
          by_cases hne : nth l s = n
          · have hne' : ((nth l s : Int) == (n : Int)) = true := by simp [hne]
            rw [hne] at hld
            obtain ⟨P, hP⟩ : ∃ P, 2 ^ (15 - n) = P := ⟨_, rfl⟩
            have hPl : 2 ^ (15 - n) ≤ 2 ^ 14 := Nat.pow_le_pow_right (by omega) (by omega)
            have eP : wrap64 ((2 : Int) ^ (15 - n)) = (P : Int) := by
              have e3 : ((2 : Int) ^ (15 - n)) = ((2 ^ (15 - n) : Nat) : Int) := by rw [Int.natCast_pow]; rfl
              rw [e3, hP] at *
              unfold wrap64; omega
            rw [hP] at hPl
            have HOV := hide (HG.out.over h1 hn15 hs hne)
            have HMO := hide (HG.out.more HL.out h1 hn15 hs hne)
            rw [hP] at HOV HMO
            have hTl := HG.out.sz
            have hTp := HG.out.gi.pos
            have hTl2 : T.length ≤ 90000 := by
              have h2 : (n - 1) * l.length ≤ 14 * 320 := Nat.mul_le_mul (by omega) hn
              omega
            clear hTl hP hne' hne
            by_cases hov : 32768 < full + P
            · have hov' : (32768 : Int) < (full : Int) + (P : Int) := by omega
              go_wp2
              refine bodyPost_ret (v := .tuple #[.pointer (some ⟨w.heap.size + 1, 0, none⟩), .int .i64 (full + P : Nat)]) (by simp [results, Tryz.results208, go_sem]) rfl ?_
              exact ⟨w.heap.size + 1, T, full + P, rfl, ht.toIn hTp (by omega), by omega, bl, Or.inr ⟨hov, HOV.out hov⟩⟩
            · have hov' : ¬ (32768 : Int) < (full : Int) + (P : Int) := by omega
              obtain ⟨m1, m2, m3⟩ := HMO.out (by omega)
              have HM3 := hide m3
              have hc2 : code < 32768 := by
                have : 2 ^ n ≤ 2 ^ 15 := Nat.pow_le_pow_right (by omega) hn15
                omega
              have HSET := hide (tset_ok ht bl.size code n s n ⟨h1, hn15⟩ hc2 (by omega) (SetPre0.pre h1 m1) (by omega))
              clear m1 m2 m3 HMO HOV ht
              go_wp2_with fail
              refine HSET.out.mono ?_
              rintro x w2 ⟨rfl, v2, ht2, hl2, b2⟩
              have HG2 := hide (HM3.out hl2)
              go_wp2
              go_roundw
              case rel => exact ⟨s + 1, full + P, code + 1, v2, _, by go_num, by go_num, by go_num, by omega, ht2, HG2, bl.trans b2⟩
              case measure => simp [intOf]; omega
          · have hne' : ((nth l s : Int) == (n : Int)) = false := by simp; omega
            have HG2 := hide (HG.out.skip hs hne)
            generalize nth l s = X at *
            go_wp2
            go_roundw
            case rel => exact ⟨s + 1, full, code, v', T, rfl, rfl, by go_num, by omega, ht, HG2, bl⟩
            case measure => simp [intOf]; omega
        · obtain rfl : s = l.length := by omega
          have HG2 := hide (HG.out.next h1)
          go_wp2
          go_roundw
          case rel => exact ⟨n + 1, full, 2 * code, v', T, rfl, by go_num, by go_num, by omega, by omega, ht, HG2, by omega, bl⟩
          case measure => simp [intOf]; omega
    · obtain rfl : n = 16 := by omega
      have hgd := HG.out.done HL.out
      have hTl := HG.out.sz
      have hTp := HG.out.gi.pos
      have hEB := HG.out.eb
      have hT1 : T.length ≤ 100000 := by
        rw [show 16 - 1 = 15 from rfl] at hTl
        omega
      go_wp2
      refine bodyPost_ret (v := .tuple #[.pointer (some ⟨w.heap.size + 1, 0, none⟩), .int .i64 full]) (by simp [results, Tryz.results208, go_sem]) rfl ?_
      exact ⟨w.heap.size + 1, T, full, rfl, ht.toIn hTp hT1, by omega, bl, Or.inl ⟨hgd.1, hfl, hgd.2.2, hEB, hgd.2.1⟩⟩
end Go.Proofs.YtgkljcmjnphpeaaGreatDoor
namespace Go.Proofs.YtgkljcmjnphpeaaGreatDoor
open Go.RowKit
variable {B b : Nat} {S : ByteArray} {most : Nat} {w : World} {p : Nat} {ov : Value} {out : List Nat} {e : Nat}
def moreN (each x : Nat) : Nat := if x < 2 * each then 0 else x / each - 1
def moreV (each least x : Nat) : Nat := if x < 2 * each then least + x else least + (each + x % each) * 2 ^ (x / each - 1)
theorem more4_val : ∀ x : Fin 29, 8 ≤ x.val → wrap64 (3 + wrap64 ((4 + (x.val : Int) % 4) * 2 ^ (x.val / 4 - 1))) = (moreV 4 3 x.val : Nat) ∧ (x.val : Int) / 4 - 1 = (moreN 4 x.val : Nat) := by decide +kernel
theorem more2_val : ∀ x : Fin 33, 4 ≤ x.val → wrap64 (1 + wrap64 ((2 + (x.val : Int) % 2) * 2 ^ (x.val / 2 - 1))) = (moreV 2 1 x.val : Nat) ∧ (x.val : Int) / 2 - 1 = (moreN 2 x.val : Nat) := by decide +kernel
theorem more4_ok (x : Nat) (hx : x < 29) (w : World) : Calls Tryz.prog 273 #[.int .i64 x, .int .i64 4, .int .i64 3] w fun y w' => y = .returned (.tuple #[.int .i64 (moreN 4 x : Nat), .int .i64 (moreV 4 3 x : Nat)]) ∧ ∃ q, w' = w.drewN q := by
  by_cases c : x < 8
  · have c' : (x : Int) < 8 := by omega
    have e1 : moreN 4 x = 0 := by unfold moreN; rw [if_pos (by omega)]
    have e2 : ((moreV 4 3 x : Nat) : Int) = 3 + (x : Int) := by unfold moreV; rw [if_pos (by omega)]; omega
    rw [e1, e2]
    go_enter Tryz.func273, Tryz.ntmps273
    go_wp2
    refine bodyPost_ret (v := .tuple #[.int .i64 (0 : Nat), .int .i64 (3 + (x : Int))]) (by simp [results, Tryz.results273, go_sem]) rfl ⟨rfl, 0, rfl⟩
  · have c' : ¬ (x : Int) < 8 := by omega
    have HV := hide (more4_val ⟨x, hx⟩ (by show 8 ≤ x; omega))
    simp only [] at HV
    have g1 : 0 ≤ (x : Int) / 4 - 1 := by omega
    have g2 : (x : Int) / 4 - 1 < 7 := by omega
    go_enter Tryz.func273, Tryz.ntmps273
    go_wp2_with fail
    go_quiet (fail)
    go_wp2
    obtain ⟨v1, v2⟩ := HV.out
    refine bodyPost_ret (v := .tuple #[.int .i64 (moreN 4 x : Nat), .int .i64 (moreV 4 3 x : Nat)]) ?_ rfl ⟨rfl, nq, rfl⟩
    simp [results, Tryz.results273, go_sem, v1, v2]
theorem more2_ok (x : Nat) (hx : x < 33) (w : World) : Calls Tryz.prog 273 #[.int .i64 x, .int .i64 2, .int .i64 1] w fun y w' => y = .returned (.tuple #[.int .i64 (moreN 2 x : Nat), .int .i64 (moreV 2 1 x : Nat)]) ∧ ∃ q, w' = w.drewN q := by
  by_cases c : x < 4
  · have c' : (x : Int) < 4 := by omega
    have e1 : moreN 2 x = 0 := by unfold moreN; rw [if_pos (by omega)]
    have e2 : ((moreV 2 1 x : Nat) : Int) = 1 + (x : Int) := by unfold moreV; rw [if_pos (by omega)]; omega
    rw [e1, e2]
    go_enter Tryz.func273, Tryz.ntmps273
    go_wp2
    refine bodyPost_ret (v := .tuple #[.int .i64 (0 : Nat), .int .i64 (1 + (x : Int))]) (by simp [results, Tryz.results273, go_sem]) rfl ⟨rfl, 0, rfl⟩
  · have c' : ¬ (x : Int) < 4 := by omega
    have HV := hide (more2_val ⟨x, hx⟩ (by show 4 ≤ x; omega))
    simp only [] at HV
    have g1 : 0 ≤ (x : Int) / 2 - 1 := by omega
    have g2 : (x : Int) / 2 - 1 < 16 := by omega
    go_enter Tryz.func273, Tryz.ntmps273
    go_wp2_with fail
    go_quiet (fail)
    go_wp2
    obtain ⟨v1, v2⟩ := HV.out
    refine bodyPost_ret (v := .tuple #[.int .i64 (moreN 2 x : Nat), .int .i64 (moreV 2 1 x : Nat)]) ?_ rfl ⟨rfl, nq, rfl⟩
    simp [results, Tryz.results273, go_sem, v1, v2]
theorem more_len : ∀ s : Fin 286, 257 ≤ s.val → s.val ≠ 285 → moreN 4 (s.val - 257) = (Fo.lenSpan s.val).2 ∧ moreV 4 3 (s.val - 257) = (Fo.lenSpan s.val).1 := by decide +kernel
theorem more_dist : ∀ s : Fin 30, moreN 2 s.val = (Fo.distSpan s.val).2 ∧ moreV 2 1 s.val = (Fo.distSpan s.val).1 := by decide +kernel
end Go.Proofs.YtgkljcmjnphpeaaGreatDoor
