/- Plain mathematics of counting lengths and of putting symbols in the order of their codes. -/
import Derived.Test.YtgkljcmjnphpeaaDoorPuBlocks
import Derived.Test.YtgkljcmjnphpeaaDoorRd
namespace Go.Proofs.YtgkljcmjnphpeaaDoor

theorem nth_set_self (l : List Nat) (i x : Nat) (h : i < l.length) : nth (l.set i x) i = x := by simp [nth, h]
theorem nth_set_ne (l : List Nat) (i j x : Nat) (h : i ≠ j) : nth (l.set i x) j = nth l j := by simp [nth, List.getElem?_set_ne h]
theorem list_ext (a b : List Nat) (hl : a.length = b.length) (h : ∀ i, i < a.length → nth a i = nth b i) : a = b := by
  apply List.ext_getElem hl
  intro i h1 h2
  have := h i h1
  simpa [nth, h1, h2] using this

theorem nth_rep (n i x : Nat) (h : i < n) : nth (List.replicate n x) i = x := by simp [nth, h]

def cnt (l : List Nat) : List Nat := (List.range 16).map fun j => l.count j
theorem cnt_length (l : List Nat) : (cnt l).length = 16 := by simp [cnt]
theorem nth_cnt (l : List Nat) (j : Nat) (h : j < 16) : nth (cnt l) j = l.count j := by simp [nth, cnt, h]
theorem cnt_snoc (l : List Nat) (x : Nat) (hx : x < 16) : cnt (l ++ [x]) = (cnt l).set x (nth (cnt l) x + 1) := by
  refine list_ext _ _ (by simp [cnt_length]) ?_
  intro i hi
  rw [cnt_length] at hi
  rw [nth_cnt _ _ hi, List.count_append]
  by_cases h : x = i
  · subst h; rw [nth_set_self _ _ _ (by rw [cnt_length]; exact hx), nth_cnt _ _ hx]; simp
  · rw [nth_set_ne _ _ _ _ h, nth_cnt _ _ hi]; simp [h]

def cz (l : List Nat) : List Nat := (cnt l).set 0 0
theorem cz_length (l : List Nat) : (cz l).length = 16 := by simp [cz, cnt_length]
theorem nth_cz0 (l : List Nat) : nth (cz l) 0 = 0 := nth_set_self _ _ _ (by rw [cnt_length]; omega)
theorem nth_cz (l : List Nat) (j : Nat) (h0 : 0 < j) (h : j < 16) : nth (cz l) j = l.count j := by rw [cz, nth_set_ne _ _ _ _ (by omega), nth_cnt _ _ h]

def pre (c : List Nat) (j : Nat) : Nat := (c.take j).sum
theorem pre_succ (c : List Nat) (j : Nat) (h : j < c.length) : pre c (j + 1) = pre c j + nth c j := by
  unfold pre; rw [List.take_succ_eq_append_getElem h, List.sum_append]; simp [nth, h]
theorem pre_mono (c : List Nat) (a b : Nat) (h : a ≤ b) : pre c a ≤ pre c b := by
  induction b with
  | zero => obtain rfl : a = 0 := by omega
            exact Nat.le_refl _
  | succ b ih =>
    rcases Nat.lt_or_ge a (b + 1) with h1 | h1
    · refine Nat.le_trans (ih (by omega)) ?_
      rcases Nat.lt_or_ge b c.length with h2 | h2
      · rw [pre_succ _ _ h2]; omega
      · unfold pre; rw [List.take_of_length_le h2, List.take_of_length_le (by omega)]; exact Nat.le_refl _
    · obtain rfl : a = b + 1 := by omega
      exact Nat.le_refl _
theorem pre_all (c : List Nat) (h : c.length = 16) : pre c 16 = c.sum := by unfold pre; rw [List.take_of_length_le (by omega)]

/-- Where each length's codes begin, as far as it has been reckoned. -/
def pl (c : List Nat) (m : Nat) : List Nat := (List.range 16).map fun j => if j ≤ m then pre c j else 0
theorem pl_length (c : List Nat) (m : Nat) : (pl c m).length = 16 := by simp [pl]
theorem nth_pl (c : List Nat) (m j : Nat) (h : j < 16) : nth (pl c m) j = if j ≤ m then pre c j else 0 := by simp [nth, pl, h]
theorem pl_zero (c : List Nat) : pl c 0 = List.replicate 16 0 := by
  refine list_ext _ _ (by simp [pl_length]) ?_
  intro i hi
  rw [pl_length] at hi
  rw [nth_pl _ _ _ hi]
  by_cases h : i ≤ 0
  · obtain rfl : i = 0 := by omega
    simp [pre, nth]
  · rw [if_neg h, nth_rep _ _ _ hi]
theorem pl_step (c : List Nat) (m : Nat) (hm : m < 15) (hc : c.length = 16) : pl c (m + 1) = (pl c m).set (m + 1) (nth (pl c m) m + nth c m) := by
  refine list_ext _ _ (by simp [pl_length]) ?_
  intro i hi
  rw [pl_length] at hi
  rw [nth_pl _ _ _ hi, nth_pl _ _ _ (by omega), if_pos (Nat.le_refl m)]
  by_cases h : m + 1 = i
  · subst h
    rw [nth_set_self _ _ _ (by rw [pl_length]; omega), if_pos (Nat.le_refl _), pre_succ _ _ (by omega)]
  · rw [nth_set_ne _ _ _ _ h, nth_pl _ _ _ hi]
    by_cases h2 : i ≤ m
    · rw [if_pos h2, if_pos (by omega)]
    · rw [if_neg h2, if_neg (by omega)]

/-- Places and symbols behind the first so many lengths. -/
def fillTo (l : List Nat) : Nat → List Nat × List Nat
  | 0 => (pl (cz l) 15, List.replicate (cz l).sum 0)
  | k + 1 => if nth l k = 0 then fillTo l k else ((fillTo l k).1.set (nth l k) (nth (fillTo l k).1 (nth l k) + 1), (fillTo l k).2.set (nth (fillTo l k).1 (nth l k)) k)

theorem fillTo_inv (l : List Nat) (hl : ∀ i, i < l.length → nth l i < 16) : ∀ k, k ≤ l.length →
    (fillTo l k).1.length = 16 ∧ (fillTo l k).2.length = (cz l).sum ∧ ∀ x, 0 < x → x < 16 → nth (fillTo l k).1 x = pre (cz l) x + (l.take k).count x
  | 0, _ => ⟨pl_length _ _, by simp [fillTo], fun x h0 hx => by simp [fillTo, nth_pl _ _ _ hx, show x ≤ 15 by omega]⟩
  | k + 1, hk => by
    obtain ⟨h1, h2, h3⟩ := fillTo_inv l hl k (by omega)
    have hlk := hl k (by omega)
    have e : l.take (k + 1) = l.take k ++ [nth l k] := by rw [List.take_succ_eq_append_getElem (by omega)]; simp [nth, show k < l.length by omega]
    unfold fillTo
    by_cases c : nth l k = 0
    · rw [if_pos c]
      refine ⟨h1, h2, fun x h0 hx => ?_⟩
      have h7 : ¬ 0 = x := by omega
      rw [h3 x h0 hx, e, List.count_append, c]; simp [h7]
    · rw [if_neg c]
      refine ⟨by simp [h1], by simp [h2], fun x h0 hx => ?_⟩
      by_cases hx2 : nth l k = x
      · subst hx2
        rw [nth_set_self _ _ _ (by omega), h3 _ h0 hx, e, List.count_append]; simp; omega
      · rw [nth_set_ne _ _ _ _ hx2, h3 x h0 hx, e, List.count_append]; simp [hx2]

theorem fillTo_lt (l : List Nat) (hl : ∀ i, i < l.length → nth l i < 16) (k : Nat) (hk : k < l.length) (h0 : 0 < nth l k) : nth (fillTo l k).1 (nth l k) < (cz l).sum := by
  obtain ⟨_, _, h3⟩ := fillTo_inv l hl k (by omega)
  have hx := hl k hk
  rw [h3 _ h0 hx]
  have e : l = l.take k ++ (nth l k :: l.drop (k + 1)) := by
    have : nth l k = l[k] := by simp [nth, hk]
    rw [this, ← List.drop_eq_getElem_cons hk, List.take_append_drop]
  have hc : (l.take k).count (nth l k) < l.count (nth l k) := by
    have h4 := congrArg (List.count (nth l k)) e
    rw [List.count_append, List.count_cons_self] at h4
    omega
  have h5 := pre_succ (cz l) (nth l k) (by rw [cz_length]; exact hx)
  rw [nth_cz _ _ h0 hx] at h5
  have h6 := pre_mono (cz l) (nth l k + 1) 16 (by omega)
  rw [pre_all _ (cz_length l)] at h6
  omega

theorem cz_sum_le (l : List Nat) (hl : ∀ i, i < l.length → nth l i < 16) : (cz l).sum ≤ 16 * l.length := by
  have : ∀ c : List Nat, (∀ i, i < c.length → nth c i ≤ l.length) → c.sum ≤ c.length * l.length := by
    intro c
    induction c with
    | nil => simp
    | cons a c ih =>
      intro h
      have h1 := ih (fun i hi => h (i + 1) (by simpa using hi))
      have h2 : a ≤ l.length := h 0 (by simp)
      simp only [List.sum_cons, List.length_cons, Nat.add_mul, Nat.one_mul]; omega
  have h := this (cz l) (fun i hi => by
    rw [cz_length] at hi
    by_cases h0 : i = 0
    · subst h0; rw [nth_cz0]; omega
    · rw [nth_cz _ _ (by omega) hi]; exact List.count_le_length)
  rw [cz_length] at h; exact h

theorem fixed_cz : cz Fo.lensFixed = Fo.csF ∧ (fillTo Fo.lensFixed 288).2 = Fo.ssF ∧ cz Fo.distFixed = Fo.cdF ∧ (fillTo Fo.distFixed 32).2 = Fo.sdF := by
  refine ⟨by decide +kernel, by decide +kernel, by decide +kernel, by decide +kernel⟩
end Go.Proofs.YtgkljcmjnphpeaaDoor
