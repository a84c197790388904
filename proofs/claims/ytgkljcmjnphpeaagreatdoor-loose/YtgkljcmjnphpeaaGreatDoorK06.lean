/- Numbers told in words: strconv.Atoi, by the library's contract. -/
import Derived.Test.YtgkljcmjnphpeaaGreatDoorK03
import Derived.Test.YtgkljcmjnphpeaaGreatDoorK05
import Derived.Test.YtgkljcmjnphpeaaGreatDoorK00
import Derived.Test.YtgkljcmjnphpeaaGreatDoorK04
import Derived.Test.YtgkljcmjnphpeaaGreatDoorKSh
import Derived.Lib.AtoiErrMem
set_option linter.unusedVariables false
set_option linter.unusedSimpArgs false
namespace Go.Proofs.YtgkljcmjnphpeaaGreatDoor
open Go.RowKit
namespace Fo
def trim0 (l : List Nat) : List Nat := (l.reverse.dropWhile fun b => b == 48).reverse
/-- A word as a whole number. -/
def whole (l : List Nat) : Option Int := if 1 ≤ (cutSign l).2.length ∧ (cutSign l).2.length ≤ 10 then atoi l else none
/-- A word as a real: its digits, and how many of them stand behind the point. -/
def real (l : List Nat) : Option (Int × Nat) :=
  match (cutSign l).2.dropWhile fun b => b != 46 with
  | [] => none
  | _ :: b => if 1 ≤ max ((cutSign l).2.takeWhile fun b => b != 46).length b.length ∧ max ((cutSign l).2.takeWhile fun b => b != 46).length b.length ≤ 9
    then (atoi ((cutSign l).1 ++ 48 :: (((cutSign l).2.takeWhile fun b => b != 46) ++ trim0 b))).map fun n => (n, (trim0 b).length) else none
/-- A value that begins with a word. -/
def worded (α : Type) (r : List Nat) : Option (Node α × List Nat) :=
  if wordOf r = [110, 117, 108, 108] then some (leafN α 0 0 0 [], wordRest r)
  else if wordOf r = [102, 97, 108, 115, 101] then some (leafN α 1 0 0 [], wordRest r)
  else if wordOf r = [116, 114, 117, 101] then some (leafN α 1 1 0 [], wordRest r)
  else match whole (wordOf r) with
    | some n => match takesRef (wordRest r) with
      | some q => some (leafN α 9 n 0 [], q)
      | none => some (leafN α 2 n 0 [], wordRest r)
    | none => match real (wordOf r) with
      | some (n, p) => some (leafN α 3 n p [], wordRest r)
      | none => none
section
variable {α : Type} (f : List Nat → Option (α × List Nat))
/-- The items of an array, behind its bracket. -/
def arr : Nat → List Nat → Option (List α × List Nat)
  | 0, _ => none
  | m + 1, r => match takes [93] (skip r) with
    | some q => some ([], q)
    | none => match f (skip r) with
      | none => none
      | some (v, q) => (arr m q).map fun x => (v :: x.1, x.2)
/-- The keys and items of a dictionary, behind its marks. -/
def dic : Nat → List Nat → Option ((List (List Nat) × List α) × List Nat)
  | 0, _ => none
  | m + 1, r => match takes [62, 62] (skip r) with
    | some q => some (([], []), q)
    | none => match takes [47] (skip r) with
      | none => none
      | some q1 => match name q1 with
        | none => none
        | some (k, q2) => match f q2 with
          | none => none
          | some (v, q3) => (dic m q3).map fun x => ((k :: x.1.1, v :: x.1.2), x.2)
end
/-- A value, so deep at most. -/
def value : (k : Nat) → List Nat → Option (VT k × List Nat)
  | 0, _ => none
  | k + 1, r => match takes [91] (skip r) with
    | some t => (arr (value k) (t.length + 1) t).map fun x => ((⟨6, 0, 0, [], x.1, [], []⟩ : Node (VT k)), x.2)
    | none => match takes [60, 60] (skip r) with
      | some t => (dic (value k) (t.length + 1) t).map fun x => ((⟨7, 0, 0, [], x.1.2, x.1.1, []⟩ : Node (VT k)), x.2)
      | none => match takes [60] (skip r) with
        | some t => (hexText t).map fun x => (leafN (VT k) 5 0 0 x.1, x.2)
        | none => match takes [40] (skip r) with
          | some t => (quoted t).map fun x => (leafN (VT k) 5 0 0 x.1, x.2)
          | none => match takes [47] (skip r) with
            | some t => (name t).map fun x => (leafN (VT k) 4 0 0 x.1, x.2)
            | none => worded (VT k) r
theorem addlen {α β : Type} {o : Option (α × List Nat)} {g : α → β} {q : List Nat} {b : β} (h : (o.map fun x => (g x.1, x.2)) = some (b, q)) : ∃ a, o = some (a, q) := by
  cases o with
  | none => cases h
  | some x => obtain ⟨a, q'⟩ := x; simp at h; exact ⟨a, by rw [h.2]⟩
theorem maplen {α β : Type} {o : Option (α × List Nat)} {g : α × List Nat → β × List Nat} {q : List Nat} {b : β} (h : o.map g = some (b, q)) (hg : ∀ x, (g x).2 = x.2) : ∃ a, o = some (a, q) := by
  cases o with
  | none => cases h
  | some x =>
    obtain ⟨a, q'⟩ := x
    have := congrArg Prod.snd (Option.some.inj h)
    rw [hg] at this
    exact ⟨a, by rw [show q = q' from this.symm]⟩
theorem nameS_len : ∀ (r : List Nat) (st a : Nat) (l q : List Nat), nameS st a r = some (l, q) → q.length ≤ r.length
  | [], st, a, l, q, h => by
    match st, h with
    | 0, h => simp [nameS] at h; simp [h.2]
    | n + 1, h => simp [nameS] at h
  | b :: r, st, a, l, q, h => by
    match st, h with
    | 0, h =>
      simp only [nameS] at h
      split at h
      · simp at h; rw [← h.2]; exact Nat.le_refl _
      · split at h
        · cases h
        · split at h
          · have := nameS_len r 1 0 l q h; simp only [List.length_cons]; omega
          · obtain ⟨l2, h2⟩ := addlen h
            have := nameS_len r 0 0 l2 q h2; simp only [List.length_cons]; omega
    | 1, h =>
      simp only [nameS] at h
      split at h
      · cases h
      · have := nameS_len r 2 _ l q h; simp only [List.length_cons]; omega
    | n + 2, h =>
      simp only [nameS] at h
      split at h
      · cases h
      · split at h
        · cases h
        · obtain ⟨l2, h2⟩ := addlen h
          have := nameS_len r 0 0 l2 q h2; simp only [List.length_cons]; omega
theorem hexDigs_len : ∀ (r l q : List Nat), hexDigs r = some (l, q) → q.length ≤ r.length
  | [], l, q, h => by cases h
  | b :: r, l, q, h => by
    simp only [hexDigs] at h
    split at h
    · have := hexDigs_len r l q h; simp only [List.length_cons]; omega
    · split at h
      · simp at h; rw [← h.2]; simp
      · split at h
        · cases h
        · obtain ⟨l2, h2⟩ := addlen h
          have := hexDigs_len r l2 q h2; simp only [List.length_cons]; omega
theorem strGo_len : ∀ (f o : Nat) (r l q : List Nat), strGo f o r = some (l, q) → q.length ≤ r.length
  | 0, o, r, l, q, h => by simp [strGo] at h
  | f + 1, o, r, l, q, h => by
    rw [strGo.eq_def] at h
    simp only [] at h
    cases hl : lineEnd r with
    | some q1 =>
      rw [hl] at h
      obtain ⟨l2, h2⟩ := addlen h
      have := strGo_len f o q1 l2 q h2
      have := lineEnd_len hl
      omega
    | none =>
      rw [hl] at h
      cases r with
      | nil => cases h
      | cons b t =>
        simp only [] at h
        split at h
        · cases hb : behind t with
          | none => rw [hb] at h; cases h
          | some x =>
            obtain ⟨l1, q1⟩ := x
            rw [hb] at h
            obtain ⟨l2, h2⟩ := addlen (g := fun y => l1 ++ y) h
            have := strGo_len f o q1 l2 q h2
            have := behind_len hb
            simp only [List.length_cons]; omega
        · split at h
          · obtain ⟨l2, h2⟩ := addlen h
            have := strGo_len f _ t l2 q h2; simp only [List.length_cons]; omega
          · split at h
            · split at h
              · simp at h; rw [← h.2]; simp
              · obtain ⟨l2, h2⟩ := addlen h
                have := strGo_len f _ t l2 q h2; simp only [List.length_cons]; omega
            · obtain ⟨l2, h2⟩ := addlen h
              have := strGo_len f _ t l2 q h2; simp only [List.length_cons]; omega
theorem takesWord_len {s r q : List Nat} (h : takesWord s r = some q) : q.length ≤ r.length := by
  unfold takesWord at h
  split at h
  · cases h; exact (wordRest_suf r).length_le
  · cases h
theorem takesRef_len {r q : List Nat} (h : takesRef r = some q) : q.length ≤ r.length := by
  unfold takesRef at h
  cases h1 : takesWord [48] r with
  | none => rw [h1] at h; cases h
  | some q1 =>
    rw [h1] at h
    have := takesWord_len h1
    have := takesWord_len (show takesWord [82] q1 = some q from h)
    omega
theorem wordRest_lt {r : List Nat} (h : wordOf r ≠ []) : (wordRest r).length + 1 ≤ r.length := by
  have h1 : wordOf r ++ wordRest r = skip r := List.takeWhile_append_dropWhile
  have h2 := congrArg List.length h1
  rw [List.length_append] at h2
  have h3 := skip_len r
  have : 0 < (wordOf r).length := List.length_pos_iff.2 h
  omega
theorem worded_len {α : Type} {r q : List Nat} {V : Node α} (h : worded α r = some (V, q)) : q.length + 1 ≤ r.length := by
  by_cases hw : wordOf r = []
  · unfold worded at h
    rw [hw] at h
    simp [whole, real, cutSign] at h
  · have hl := wordRest_lt hw
    unfold worded at h
    split at h
    · simp at h; rw [← h.2]; exact hl
    · split at h
      · simp at h; rw [← h.2]; exact hl
      · split at h
        · simp at h; rw [← h.2]; exact hl
        · cases hwh : whole (wordOf r) with
          | some n =>
            rw [hwh] at h
            simp only [] at h
            cases htr : takesRef (wordRest r) with
            | some q1 => rw [htr] at h; simp at h; have := takesRef_len htr; rw [← h.2]; omega
            | none => rw [htr] at h; simp at h; rw [← h.2]; exact hl
          | none =>
            rw [hwh] at h
            simp only [] at h
            cases hre : real (wordOf r) with
            | some x => obtain ⟨n, p⟩ := x; rw [hre] at h; simp at h; rw [← h.2]; exact hl
            | none => rw [hre] at h; cases h
theorem arr_len {α : Type} {f : List Nat → Option (α × List Nat)} (hf : ∀ r v q, f r = some (v, q) → q.length ≤ r.length) : ∀ (m : Nat) (r q : List Nat) (l : List α), arr f m r = some (l, q) → q.length ≤ r.length
  | 0, r, q, l, h => by cases h
  | m + 1, r, q, l, h => by
    simp only [arr] at h
    have hs := skip_len r
    cases ht : takes [93] (skip r) with
    | some q1 => rw [ht] at h; simp at h; have := (takes_len ht).1; rw [← h.2]; omega
    | none =>
      rw [ht] at h
      simp only [] at h
      cases hv : f (skip r) with
      | none => rw [hv] at h; cases h
      | some x =>
        obtain ⟨v, q1⟩ := x
        rw [hv] at h
        simp only [] at h
        obtain ⟨l2, h2⟩ := maplen h (fun _ => rfl)
        have := arr_len hf m q1 q l2 h2
        have := hf _ _ _ hv
        omega
theorem dic_len {α : Type} {f : List Nat → Option (α × List Nat)} (hf : ∀ r v q, f r = some (v, q) → q.length ≤ r.length) : ∀ (m : Nat) (r q : List Nat) (l : List (List Nat) × List α), dic f m r = some (l, q) → q.length ≤ r.length
  | 0, r, q, l, h => by cases h
  | m + 1, r, q, l, h => by
    simp only [dic] at h
    have hs := skip_len r
    cases ht : takes [62, 62] (skip r) with
    | some q1 => rw [ht] at h; simp at h; have := (takes_len ht).1; rw [← h.2]; omega
    | none =>
      rw [ht] at h
      simp only [] at h
      cases h47 : takes [47] (skip r) with
      | none => rw [h47] at h; cases h
      | some q1 =>
        rw [h47] at h
        simp only [] at h
        have l1 := (takes_len h47).1
        cases hn : name q1 with
        | none => rw [hn] at h; cases h
        | some x =>
          obtain ⟨k, q2⟩ := x
          rw [hn] at h
          simp only [] at h
          have l2 := nameS_len q1 0 0 k q2 hn
          cases hv : f q2 with
          | none => rw [hv] at h; cases h
          | some y =>
            obtain ⟨v, q3⟩ := y
            rw [hv] at h
            simp only [] at h
            obtain ⟨l3, h3⟩ := maplen h (fun _ => rfl)
            have := dic_len hf m q3 q l3 h3
            have := hf _ _ _ hv
            omega
theorem value_len : ∀ {k : Nat} {r q : List Nat} {V : VT k}, value k r = some (V, q) → q.length + 1 ≤ r.length
  | 0, r, q, V, h => by cases h
  | k + 1, r, q, V, h => by
    have hf : ∀ r v q, value k r = some (v, q) → q.length ≤ r.length := fun r v q h => by have := value_len h; omega
    simp only [value] at h
    have hs := skip_len r
    cases h1 : takes [91] (skip r) with
    | some t =>
      rw [h1] at h
      simp only [] at h
      obtain ⟨l2, h2⟩ := maplen h (fun _ => rfl)
      have := arr_len hf _ t q l2 h2
      have := (takes_len h1).1
      simp only [List.length_cons, List.length_nil] at this; omega
    | none =>
      rw [h1] at h
      simp only [] at h
      cases h3 : takes [60, 60] (skip r) with
      | some t =>
        rw [h3] at h
        simp only [] at h
        obtain ⟨l2, h2⟩ := maplen h (fun _ => rfl)
        have := dic_len hf _ t q l2 h2
        have := (takes_len h3).1
        simp only [List.length_cons, List.length_nil] at this; omega
      | none =>
        rw [h3] at h
        simp only [] at h
        cases h4 : takes [60] (skip r) with
        | some t =>
          rw [h4] at h
          simp only [] at h
          obtain ⟨l2, h2⟩ := maplen h (fun _ => rfl)
          obtain ⟨l5, h5⟩ := maplen h2 (fun _ => rfl)
          have := hexDigs_len t l5 q h5
          have := (takes_len h4).1
          simp only [List.length_cons, List.length_nil] at this; omega
        | none =>
          rw [h4] at h
          simp only [] at h
          cases h6 : takes [40] (skip r) with
          | some t =>
            rw [h6] at h
            simp only [] at h
            obtain ⟨l2, h2⟩ := maplen h (fun _ => rfl)
            have := strGo_len _ _ t l2 q h2
            have := (takes_len h6).1
            simp only [List.length_cons, List.length_nil] at this; omega
          | none =>
            rw [h6] at h
            simp only [] at h
            cases h7 : takes [47] (skip r) with
            | some t =>
              rw [h7] at h
              simp only [] at h
              obtain ⟨l2, h2⟩ := maplen h (fun _ => rfl)
              have := nameS_len t 0 0 l2 q h2
              have := (takes_len h7).1
              simp only [List.length_cons, List.length_nil] at this; omega
            | none =>
              rw [h7] at h
              exact worded_len (α := VT k) h
theorem skipC_stop : ∀ (b : Bool) (r : List Nat), (∀ x t, skipC b r = x :: t → whiteB x = false ∧ x ≠ 37)
  | b, [], x, t, h => by cases b <;> cases h
  | false, y :: r, x, t, h => by
    simp only [skipC] at h
    by_cases h1 : whiteB y = true
    · rw [if_pos h1] at h; exact skipC_stop false r x t h
    · rw [if_neg h1] at h
      by_cases h2 : y = 37
      · rw [if_pos h2] at h; exact skipC_stop true r x t h
      · rw [if_neg h2] at h; cases h
        exact ⟨by simpa using h1, h2⟩
  | true, y :: r, x, t, h => by
    simp only [skipC] at h
    by_cases h1 : y = 10 ∨ y = 13
    · rw [if_pos h1] at h; exact skipC_stop false r x t h
    · rw [if_neg h1] at h; exact skipC_stop true r x t h
theorem skip_skip (r : List Nat) : skip (skip r) = skip r := by
  cases h : skip r with
  | nil => rfl
  | cons x t =>
    obtain ⟨h1, h2⟩ := skipC_stop false r x t h
    exact skip_stop h1 h2
theorem wordOf_skip (r : List Nat) : wordOf (skip r) = wordOf r := by unfold wordOf; rw [skip_skip]
theorem wordRest_skip (r : List Nat) : wordRest (skip r) = wordRest r := by unfold wordRest; rw [skip_skip]
theorem worded_skip (α : Type) (r : List Nat) : worded α (skip r) = worded α r := by unfold worded; rw [wordOf_skip, wordRest_skip]
end Fo
end Go.Proofs.YtgkljcmjnphpeaaGreatDoor
namespace Go
section
variable {P : Program} {w : World}
theorem run_append_where (base : Nat) (t ty e : TypeId) (i : TypeInfo) (z : Value) (size bytes : Nat) (ht : P.underlying t = some (.slice e)) (hi : P.info? e = some i) (hz : i.zero = some z)
    (hsize : i.size = size) (hby : i.bytes = bytes) (hzs : z.cells.size = size) (hsz : 0 < size)
    (v : Value) (n : Nat) (xs : List Value) (hown : w.ownsRow base e size v n xs)
    (a : Addr) (m c : Nat) (news : List Value) (hl : news.length = m * size) (hnews : ∀ j u, news[j]? = some u → w.cell? (a.add j) = some u) (h1 : ∀ u ∈ news, u.oneCell' = true)
    (h63 : n + m ≤ maxLen) (hbytes : (n + m) * bytes ≤ 140737488355328) (hbase : base ≤ w.heap.size) :
    ∃ v' w', (Builtin.append_ #[t, t] ty #[v, .slice (some a) m c]).run P w = .ok v' w' ∧ w'.ownsRow base e size v' (n + m) (xs ++ news) ∧ w.grownBy w' v.ownBlock ∧
      (∀ g, v'.ownBlock = some g → v.ownBlock = some g ∨ w.heap.size ≤ g) := by
  obtain ⟨v', w', hr, h2, h3, _⟩ := run_append_own (P := P) w base t ty e i z size bytes ht hi hz hsize hby hzs hsz v n xs hown a m c news hl hnews h1 h63 hbytes hbase
  refine ⟨v', w', hr, h2, h3, ?_⟩
  have hsmall : n + m ≤ 9223372036854775807 := by simp only [maxLen] at h63; omega
  intro g hg
  rcases hown.2 with ⟨rfl, rfl⟩ | ⟨g', cap', cur, rfl, _, hgg, _, _, hcs, _⟩
  · have hxs : xs = [] := List.eq_nil_of_length_eq_zero (by rw [hown.1]; omega)
    subst hxs
    obtain ⟨v2, w2, hr2, k2, _⟩ := run_append_own (P := P) w w.heap.size t ty e i z size bytes ht hi hz hsize hby hzs hsz (.slice none 0 0) 0 [] (World.ownsRow_nil _ _ _ _) a m c news hl hnews h1 h63 hbytes (Nat.le_refl _)
    rw [hr] at hr2
    injection hr2 with e1 e2
    subst e1
    exact Or.inr (k2.lt g hg).1
  · subst hsize
    by_cases hroom : n + m ≤ cap'
    · have hfit : n * i.size + news.length ≤ cur.size := by rw [hl, hcs, ← Nat.add_mul]; exact Nat.mul_le_mul_right _ hroom
      have hr2 := run_append_room (P := P) w t ty e i ht hi g' n cap' cur hgg a m c news hl hnews h1 hroom hfit
      rw [hr] at hr2
      injection hr2 with e1 e2
      subst e1
      exact Or.inl hg
    · subst hby
      have holds : ∀ j u, xs[j]? = some u → w.cell? ((⟨g', 0, none⟩ : Addr).add j) = some u := hown.cells (g := g') rfl
      have hr2 := run_append_grow (P := P) w t ty e i z ht hi hz ⟨g', 0, none⟩ n cap' xs hown.1 holds a m c news hl hnews (by omega) (by omega) (growslice_fits (by omega) hbytes)
      rw [hr] at hr2
      injection hr2 with e1 e2
      subst e1
      simp [Value.ownBlock] at hg
      exact Or.inr (by omega)
theorem step_append_where {ops : Array Oper} {o : Oper} {a : Act} {K : Act → World → Prop} {Q : Exit → Act → World → Prop} {E : Prop} (hgd : o.guard = none) (s x : Operand) (t : TypeId)
    (ho : o.op = .call { callee := .builtin .append, args := #[s, x], argTypes := #[t, t] })
    (base : Nat) (e : TypeId) (i : TypeInfo) (z : Value) (size bytes : Nat) (ht : P.underlying t = some (.slice e)) (hi : P.info? e = some i) (hz : i.zero = some z)
    (hsize : i.size = size) (hby : i.bytes = bytes) (hzs : z.cells.size = size) (hsz : 0 < size)
    (v : Value) (n : Nat) (xs : List Value) (hs : a.eval s = v) (hown : w.ownsRow base e size v n xs)
    (ad : Addr) (m c : Nat) (news : List Value) (hx : a.eval x = .slice (some ad) m c) (hl : news.length = m * size) (hnews : ∀ j u, news[j]? = some u → w.cell? (ad.add j) = some u) (h1 : ∀ u ∈ news, u.oneCell' = true)
    (h63 : n + m ≤ maxLen) (hbytes : (n + m) * bytes ≤ 140737488355328) (hbase : base ≤ w.heap.size)
    (h : ∀ v' w', w'.ownsRow base e size v' (n + m) (xs ++ news) → w.grownBy w' v.ownBlock → (∀ g, v'.ownBlock = some g → v.ownBlock = some g ∨ w.heap.size ≤ g) → K (a.put o.dst v') w') :
    if Region.wanted o (yielded ops a.tmps) = true then Oper.wp P o a w K Q else E := by
  have hw : Region.wanted o (yielded ops a.tmps) = true := by simp [Region.wanted, hgd]
  rw [if_pos hw]
  obtain ⟨v', w', hr, h2, h3, h4⟩ := run_append_where (P := P) (w := w) base t o.type e i z size bytes ht hi hz hsize hby hzs hsz v n xs hown ad m c news hl hnews h1 h63 hbytes hbase
  unfold Oper.wp execOp
  simp only [ho, resolve, invoke, builtin, Sem.run_bind, Sem.run_pure, Result.andThen_ok, List.map_toArray, List.map_cons, List.map_nil, hs, hx, hr]
  exact h v' w' h2 h3 h4
end
end Go
namespace Go.Proofs.YtgkljcmjnphpeaaGreatDoor
open Go.RowKit
/-- A list or dictionary that is being read: its result's block, its own block, its lists. -/
structure Ar (w0 : World) (B bs : Nat) (ao : Option Addr) (cap : Nat) (data : List Nat) (x2 x3 x4 : Value) (K k : Nat) (w : World) (q : List Nat) (iv : Value) (vs : List Value) (Vs : List (VT k)) (kv : Value) (ks : List (List Nat)) : Prop where
  sc : Sc B bs ao cap data x2 x3 x4 w q
  only : Only bs w0 w
  lt : bs < w0.heap.size
  rb : w.heap[w0.heap.size]? = some (.cells zero7 67 (0, 0))
  vb : w.heap[w0.heap.size + 1]? = some (.cells #[.int .i64 (K : Int), .int .i64 0, .int .i64 0, .string { data := #[] }, iv, kv, .slice none 0 0] 67 (0, 0))
  own : w.ownsRow (w0.heap.size + 2) 67 7 iv vs.length (vs.flatMap cellsOf)
  ownk : w.ownsRow (w0.heap.size + 2) 9 1 kv ks.length (ks.map fun s => .string (strN s))
  len : vs.length = Vs.length
  ch : ∀ (i : Nat) (x : Value) (y : VT k), vs[i]? = some x → Vs[i]? = some y → VIn (fun g => w0.heap.size + 2 ≤ g ∧ iv.ownBlock ≠ some g ∧ kv.ownBlock ≠ some g) k w x y
  few : vs.length + q.length ≤ 200000
  fewk : ks.length + q.length ≤ 200000
variable {w0 : World} {B bs cap K k : Nat} {ao : Option Addr} {data : List Nat} {x2 x3 x4 : Value} {w w' : World} {q : List Nat} {iv kv : Value} {vs : List Value} {Vs : List (VT k)} {ks : List (List Nat)}
theorem Ar.step (h : Ar w0 B bs ao cap data x2 x3 x4 K k w q iv vs Vs kv ks) {q' : List Nat} (hs : Sc B bs ao cap data x2 x3 x4 w' q') (ko : Only bs w w') (hq : q'.length ≤ q.length) : Ar w0 B bs ao cap data x2 x3 x4 K k w' q' iv vs Vs kv ks := by
  have hlt := h.lt
  have hb : ∀ g, w0.heap.size ≤ g → g < w.heap.size → w'.heap[g]? = w.heap[g]? := fun g hg hg2 => ko.block g hg2 (by omega)
  refine ⟨hs, h.only.trans ko, h.lt, ?_, ?_, own_only h.own ko (by omega), own_only h.ownk ko (by omega), h.len, fun i x y hx hy => ?_, by have := h.few; omega, by have := h.fewk; omega⟩
  · rw [hb _ (Nat.le_refl _) (lt_of_block h.rb)]; exact h.rb
  · rw [hb _ (by omega) (lt_of_block h.vb)]; exact h.vb
  · exact VIn.keep k (h.ch i x y hx hy) (fun g hg hg2 => hb g (by omega) hg2)
theorem Ar.below (h : Ar w0 B bs ao cap data x2 x3 x4 K k w q iv vs Vs kv ks) (b : Below w.heap.size w w') : Ar w0 B bs ao cap data x2 x3 x4 K k w' q iv vs Vs kv ks :=
  h.step (h.sc.other b) (.of_below b) (Nat.le_refl _)
theorem Ar.drew (h : Ar w0 B bs ao cap data x2 x3 x4 K k w q iv vs Vs kv ks) : Ar w0 B bs ao cap data x2 x3 x4 K k w.drew q iv vs Vs kv ks := h.below (Below.refl _ _).drew
theorem Ar.alloc (h : Ar w0 B bs ao cap data x2 x3 x4 K k w q iv vs Vs kv ks) (o : Obj) : Ar w0 B bs ao cap data x2 x3 x4 K k (w.alloc o) q iv vs Vs kv ks := h.below ((Below.refl _ _).alloc (Nat.le_refl _) o)
/-- The result, as it is handed back: its lists lie in blocks that the call made. -/
theorem Ar.val (h : Ar w0 B bs ao cap data x2 x3 x4 K k w q iv vs Vs kv ks) : VIn (fun g => w0.heap.size + 2 ≤ g) (k + 1) w (.agg #[.int .i64 (K : Int), .int .i64 0, .int .i64 0, .string { data := #[] }, iv, kv, .slice none 0 0]) (⟨K, 0, 0, [], Vs, ks, []⟩ : Node (VT k)) :=
  ⟨iv, kv, .slice none 0 0, vs, rfl, h.len, RowIn.of h.own (fun g hg => (h.own.lt g hg).1), fun i x y hx hy => VIn.mono k (h.ch i x y hx hy) (fun g hg _ => hg.1), RowIn.of h.ownk (fun g hg => (h.ownk.lt g hg).1), RowIn.nil _ _ _ _⟩
/-- One item more: appended, and stored. -/
theorem Ar.item (h : Ar w0 B bs ao cap data x2 x3 x4 K k w q iv vs Vs kv ks) {x : Value} {y : VT k} {S : Nat} (hS1 : ∀ g, iv.ownBlock = some g → g < S) (hS2 : ∀ g, kv.ownBlock = some g → g < S) (hS3 : w0.heap.size + 2 ≤ S) (hx : VIn (fun g => S ≤ g) k w x y) {iv' : Value}
    (hown : w'.ownsRow (w0.heap.size + 2) 67 7 iv' (vs.length + 1) (vs.flatMap cellsOf ++ cellsOf x)) (hg : w.grownBy w' iv.ownBlock) (hw : ∀ g, iv'.ownBlock = some g → iv.ownBlock = some g ∨ w.heap.size ≤ g) (hfew : vs.length + 1 + q.length ≤ 200000) :
    Ar w0 B bs ao cap data x2 x3 x4 K k (w'.setCell ⟨w0.heap.size + 1, 4, none⟩ iv') q iv' (vs ++ [x]) (Vs ++ [y]) kv ks := by
  have hlt := h.lt
  have hsz := h.only.size
  have hvb := lt_of_block h.vb
  have hBb := h.sc.hb
  have hiv : ∀ g, iv.ownBlock = some g → w0.heap.size + 2 ≤ g ∧ g < w.heap.size := h.own.lt
  have hkv : ∀ g, kv.ownBlock = some g → w0.heap.size + 2 ≤ g ∧ g < w.heap.size := h.ownk.lt
  have hoth : ∀ g, g < w.heap.size → iv.ownBlock ≠ some g → g ≠ w0.heap.size + 1 → (w'.setCell ⟨w0.heap.size + 1, 4, none⟩ iv').heap[g]? = w.heap[g]? := fun g h1 h2 h3 => by
    rw [blk_setCell_ne _ h3, hg.block g h1 (fun e => h2 e.symm)]
  have hlow : ∀ g, g < w0.heap.size + 1 → (w'.setCell ⟨w0.heap.size + 1, 4, none⟩ iv').heap[g]? = w.heap[g]? := fun g h1 => hoth g (by omega) (fun e => by have := hiv g e; omega) (by omega)
  have hvb' : w'.heap[w0.heap.size + 1]? = some (.cells #[.int .i64 (K : Int), .int .i64 0, .int .i64 0, .string { data := #[] }, iv, kv, .slice none 0 0] 67 (0, 0)) := by
    rw [hg.block _ hvb (fun e => by have := hiv _ e.symm; omega)]; exact h.vb
  refine ⟨⟨h.sc.hb, by rw [hlow _ (by omega)]; exact h.sc.blk, h.sc.dat.other (fun g hg => hlow g (by omega)), h.sc.byt, h.sc.len, h.sc.lc, h.sc.le, h.sc.suf, h.sc.ad⟩, ?_, h.lt, by rw [hlow _ (by omega)]; exact h.rb, ?_, ?_, ?_, by rw [List.length_append, List.length_append, h.len]; rfl, ?_, by rw [List.length_append]; exact hfew, h.fewk⟩
  · exact ⟨hg.os.trans h.only.os, hg.tape.trans h.only.tape, hg.output.trans h.only.output, by have := hg.size; simp [World.setCell]; omega, fun g h1 h2 => (hlow g (by omega)).trans (h.only.block g h1 h2)⟩
  · rw [blk_setCell _ hvb']; rfl
  · rw [List.length_append, List.flatMap_append]
    have := ownsRow_setCell_other (a := ⟨w0.heap.size + 1, 4, none⟩) hown (fun e => absurd (hown.lt (w0.heap.size + 1) e).1 (by omega)) iv'
    simpa using this
  · have := h.ownk.kept hg (by
      cases hk : kv.ownBlock with
      | none => exact Or.inl rfl
      | some g =>
        refine Or.inr (fun e => ?_)
        exact own_apart h.own h.ownk (by decide) g e.symm hk)
    exact ownsRow_setCell_other this (fun e => absurd (this.lt (w0.heap.size + 1) e).1 (by omega)) iv'
  · intro i x2 y2 hx2 hy2
    have old : VIn (fun g => w0.heap.size + 2 ≤ g ∧ iv.ownBlock ≠ some g ∧ kv.ownBlock ≠ some g ∧ iv'.ownBlock ≠ some g) k w x2 y2 := by
      rcases Nat.lt_or_ge i vs.length with c | c
      · rw [List.getElem?_append_left c] at hx2
        rw [List.getElem?_append_left (by rw [← h.len]; exact c)] at hy2
        refine VIn.mono k (h.ch i x2 y2 hx2 hy2) (fun g h1 h2 => ⟨h1.1, h1.2.1, h1.2.2, fun e => ?_⟩)
        rcases hw g e with c2 | c2
        · exact h1.2.1 c2
        · omega
      · rw [List.getElem?_append_right c] at hx2
        rw [List.getElem?_append_right (by rw [← h.len]; exact c)] at hy2
        rw [← h.len] at hy2
        obtain ⟨rfl, rfl⟩ : x = x2 ∧ y = y2 := by
          match hj : i - vs.length, hx2, hy2 with
          | 0, hx2, hy2 => exact ⟨by simpa using hx2, by simpa using hy2⟩
          | j + 1, hx2, hy2 => simp at hx2
        refine VIn.mono k hx (fun g h1 h2 => ⟨by omega, fun e => ?_, fun e => ?_, fun e => ?_⟩)
        · have := hS1 g e; omega
        · have := hS2 g e; omega
        · rcases hw g e with c2 | c2
          · have := hS1 g c2; omega
          · omega
    refine VIn.mono k (VIn.keep k old (fun g h1 h2 => hoth g h2 h1.2.1 (by omega))) (fun g h1 _ => ⟨h1.1, h1.2.2.2, h1.2.2.1⟩)
end Go.Proofs.YtgkljcmjnphpeaaGreatDoor
namespace Go.Proofs.YtgkljcmjnphpeaaGreatDoor
open Go.RowKit
variable {B bs : Nat} {w w' : World}
/-- What strconv's own errors lie in. -/
structure ErrW (B : Nat) (w : World) : Prop where
  syn : ∃ ev, w.cell? ⟨5, 0, none⟩ = some ev ∧ (ev = .nilIface ∨ ∃ te pe, ev = .iface te pe)
  rng : ∃ ev, w.cell? ⟨6, 0, none⟩ = some ev ∧ (ev = .nilIface ∨ ∃ te pe, ev = .iface te pe)
  mx : ∃ m, w.cell? ⟨2, 0, none⟩ = some (.int .i64 m)
  ls : 5 < B
  lr : 6 < B
  lm : 2 < B
theorem ErrW.only (h : ErrW B w) (hb : B ≤ bs) (hw : B ≤ w.heap.size) (k : Only bs w w') : ErrW B w' := by
  have h1 := h.ls
  have h2 := h.lr
  have h3 := h.lm
  refine ⟨?_, ?_, ?_, h.ls, h.lr, h.lm⟩
  · obtain ⟨ev, e1, e2⟩ := h.syn
    exact ⟨ev, by rw [World.cell?_of_block (w := w) (k.block _ (Nat.lt_of_lt_of_le h1 hw) (Nat.ne_of_lt (Nat.lt_of_lt_of_le h1 hb)))]; exact e1, e2⟩
  · obtain ⟨ev, e1, e2⟩ := h.rng
    exact ⟨ev, by rw [World.cell?_of_block (w := w) (k.block _ (Nat.lt_of_lt_of_le h2 hw) (Nat.ne_of_lt (Nat.lt_of_lt_of_le h2 hb)))]; exact e1, e2⟩
  · obtain ⟨m, e1⟩ := h.mx
    exact ⟨m, by rw [World.cell?_of_block (w := w) (k.block _ (Nat.lt_of_lt_of_le h3 hw) (Nat.ne_of_lt (Nat.lt_of_lt_of_le h3 hb)))]; exact e1⟩
theorem ErrW.below (h : ErrW B w) (hw : B ≤ w.heap.size) (k : Below w.heap.size w w') : ErrW B w' := h.only (bs := w.heap.size) hw hw (.of_below k)
def stepD (n b : Nat) : Nat := 10 * n + (b - 48)
theorem parse_small : ∀ (u : List UInt8) (acc : Nat), (acc + 1) * 10 ^ u.length ≤ 10000000000000000000 → Lib.parseUint10 acc u = if (u.map UInt8.toNat).all Fo.isDig = true then .ok ((u.map UInt8.toNat).foldl stepD acc) else .syntax
  | [], acc, _ => by simp [Lib.parseUint10]
  | c :: r, acc, h => by
    have hp : 0 < 10 ^ r.length := Nat.pow_pos (by decide)
    rw [List.length_cons, Nat.pow_succ] at h
    have h1 : (acc + 1) * 10 ≤ 10000000000000000000 := by
      have : (acc + 1) * 10 * 1 ≤ (acc + 1) * 10 * 10 ^ r.length := Nat.mul_le_mul_left _ hp
      have e : (acc + 1) * (10 ^ r.length * 10) = (acc + 1) * 10 * 10 ^ r.length := by rw [Nat.mul_comm (10 ^ r.length) 10, Nat.mul_assoc]
      omega
    simp only [Lib.parseUint10, List.map_cons, List.all_cons, List.foldl_cons]
    by_cases hd : 48 ≤ c.toNat ∧ c.toNat ≤ 57
    · rw [if_pos hd, if_neg (by omega), if_neg (by omega)]
      have hdig : Fo.isDig c.toNat = true := by simp [Fo.isDig]; omega
      have hst : (acc * 10 + (c.toNat - 48) + 1) * 10 ^ r.length ≤ 10000000000000000000 := by
        have : (acc * 10 + (c.toNat - 48) + 1) * 10 ^ r.length ≤ (acc + 1) * 10 * 10 ^ r.length := Nat.mul_le_mul_right _ (by omega)
        have e : (acc + 1) * (10 ^ r.length * 10) = (acc + 1) * 10 * 10 ^ r.length := by rw [Nat.mul_comm (10 ^ r.length) 10, Nat.mul_assoc]
        omega
      rw [parse_small r _ hst, hdig]
      simp only [Bool.true_and]
      rw [show stepD acc c.toNat = acc * 10 + (c.toNat - 48) by unfold stepD; omega]
    · rw [if_neg hd]
      have hdig : Fo.isDig c.toNat = false := by
        simp [Fo.isDig]; omega
      rw [hdig]; simp
/-- How strconv.Atoi ends at a word of few digits. -/
theorem atoi_small (u : List UInt8) (hl : (Fo.cutSign (u.map UInt8.toNat)).2.length ≤ 19) (hb : (Fo.cutSign (u.map UInt8.toNat)).2.all Fo.isDig = true → Fo.numOf (Fo.cutSign (u.map UInt8.toNat)).2 < 9223372036854775808) :
    Lib.atoiAll u = match Fo.atoi (u.map UInt8.toNat) with | some v => .ok v | none => .syntax := by
  cases u with
  | nil => rfl
  | cons c r =>
    have key : ∀ d : List UInt8, (d.map UInt8.toNat).length ≤ 19 → Lib.parseMag d = if d.map UInt8.toNat ≠ [] ∧ (d.map UInt8.toNat).all Fo.isDig = true then .ok (Fo.numOf (d.map UInt8.toNat)) else .syntax := by
      intro d hd
      unfold Lib.parseMag
      cases d with
      | nil => rfl
      | cons x d =>
        rw [if_neg (by simp), parse_small (x :: d) 0 (by
          rw [List.length_map] at hd
          have : 10 ^ (x :: d).length ≤ 10 ^ 19 := Nat.pow_le_pow_right (by decide) hd
          omega)]
        by_cases ha : ((x :: d).map UInt8.toNat).all Fo.isDig = true
        · rw [if_pos ha, if_pos ⟨by simp, ha⟩]; rfl
        · rw [if_neg ha, if_neg (fun h => ha h.2)]
    unfold Lib.atoiAll
    simp only []
    have hcs : Fo.cutSign ((c :: r).map UInt8.toNat) = if c.toNat = 43 ∨ c.toNat = 45 then ([c.toNat], r.map UInt8.toNat) else ([], (c :: r).map UInt8.toNat) := rfl
    unfold Fo.atoi
    by_cases hs : c.toNat = 43 ∨ c.toNat = 45
    · rw [if_pos hs] at hcs
      rw [hcs] at hl hb ⊢
      simp only [] at hl hb ⊢
      rw [if_pos hs, key r hl]
      by_cases ha : r.map UInt8.toNat ≠ [] ∧ (r.map UInt8.toNat).all Fo.isDig = true
      · have hb2 := hb ha.2
        rw [if_pos ha, if_pos ha]
        simp only []
        rw [if_neg (by omega), if_neg (by omega)]
        by_cases h45 : c.toNat = 45
        · simp [h45]
        · simp [h45]
      · rw [if_neg ha, if_neg ha]
    · rw [if_neg hs] at hcs
      rw [hcs] at hl hb ⊢
      simp only [] at hl hb ⊢
      rw [if_neg hs, key (c :: r) hl]
      have h45 : ¬ c.toNat = 45 := fun h => hs (Or.inr h)
      by_cases ha : (c :: r).map UInt8.toNat ≠ [] ∧ ((c :: r).map UInt8.toNat).all Fo.isDig = true
      · have hb2 := hb ha.2
        rw [if_pos ha, if_pos ha]
        simp only []
        rw [if_neg (by omega), if_neg (by omega)]
        simp [h45]
      · rw [if_neg ha, if_neg ha]
/-- A word whose digits are few. -/
def Small (l : List Nat) : Prop := (Fo.cutSign l).2.length ≤ 19 ∧ ((Fo.cutSign l).2.all Fo.isDig = true → Fo.numOf (Fo.cutSign l).2 < 9223372036854775808)
/-- What is answered of it. -/
def AtoiIs (l : List Nat) (n : Int) (ev : Value) : Prop := match Fo.atoi l with
  | some v => n = v ∧ ev = .nilIface
  | none => ∃ te pe, ev = .iface te pe
/-- What strconv.Atoi comes to. -/
def AtoiTo (l : List Nat) (w : World) (e : Ending) (w' : World) : Prop :=
  (∃ n ev, e = .returned (.tuple #[.int .i64 n, ev]) ∧ (ev = .nilIface ∨ ∃ te pe, ev = .iface te pe) ∧ (Small l → AtoiIs l n ev)) ∧ Below w.heap.size w w'
theorem atoi_ok (he : ErrW B w) (S : ByteArray) (hS : S.size ≤ 1000000) : Calls Tryz.prog 328 #[.string S] w (AtoiTo (bl S) w) := by
  obtain ⟨ev1, s1, s2⟩ := he.syn
  obtain ⟨ev2, r1, r2⟩ := he.rng
  cases ha : Lib.atoiAll S.data.toList with
  | ok v =>
    refine (Tryz.strconv_Atoi_ok S (by omega) v ha w).mono ?_
    rintro e w' ⟨rfl, hw⟩
    refine ⟨⟨v, .nilIface, rfl, Or.inl rfl, fun hs => ?_⟩, ?_⟩
    · have := atoi_small S.data.toList hs.1 hs.2
      rw [ha] at this
      unfold AtoiIs bl
      cases hf : Fo.atoi (S.data.toList.map UInt8.toNat) with
      | none => rw [hf] at this; cases this
      | some v2 => rw [hf] at this; injection this with h3; exact ⟨h3, rfl⟩
    · rcases hw with rfl | ⟨t, rfl⟩
      · exact Below.refl _ _
      · exact Lib.bytesWorld_below _ _ _
  | «syntax» =>
    refine (Tryz.strconv_Atoi_syntax S (by omega) ha ev1 w s1 s2).mono ?_
    rintro e w' ⟨N, rfl, _, _, hb⟩
    refine ⟨⟨0, _, rfl, Or.inr ⟨_, _, rfl⟩, fun hs => ?_⟩, hb⟩
    have := atoi_small S.data.toList hs.1 hs.2
    rw [ha] at this
    unfold AtoiIs bl
    cases hf : Fo.atoi (S.data.toList.map UInt8.toNat) with
    | none => exact ⟨_, _, rfl⟩
    | some v2 => rw [hf] at this; cases this
  | range =>
    refine (Tryz.strconv_Atoi_range S (by omega) ha ev2 w r1 r2).mono ?_
    rintro e w' ⟨N, rfl, _, _, hb⟩
    refine ⟨⟨_, _, rfl, Or.inr ⟨_, _, rfl⟩, fun hs => ?_⟩, hb⟩
    have := atoi_small S.data.toList hs.1 hs.2
    rw [ha] at this
    unfold AtoiIs bl
    cases hf : Fo.atoi (S.data.toList.map UInt8.toNat) with
    | none => exact ⟨_, _, rfl⟩
    | some v2 => rw [hf] at this; cases this
theorem numOf_bound : ∀ (l : List Nat) (n : Nat), (∀ x ∈ l, x < 256) → l.all Fo.isDig = true → l.foldl stepD n + 1 ≤ (n + 1) * 10 ^ l.length
  | [], n, _, _ => by simp
  | b :: l, n, hb, ha => by
    simp only [List.all_cons, Bool.and_eq_true] at ha
    have hd : 48 ≤ b ∧ b ≤ 57 := by simpa [Fo.isDig] using ha.1
    have := numOf_bound l (stepD n b) (fun x hx => hb x (by simp [hx])) ha.2
    rw [List.foldl_cons, List.length_cons, Nat.pow_succ]
    have h2 : (stepD n b + 1) * 10 ^ l.length ≤ (n + 1) * 10 * 10 ^ l.length := Nat.mul_le_mul_right _ (by unfold stepD; omega)
    have e : (n + 1) * (10 ^ l.length * 10) = (n + 1) * 10 * 10 ^ l.length := by rw [Nat.mul_comm (10 ^ l.length) 10, Nat.mul_assoc]
    omega
theorem cutSign_mem {l : List Nat} {x : Nat} (h : x ∈ (Fo.cutSign l).2) : x ∈ l := by
  unfold Fo.cutSign at h
  cases l with
  | nil => exact h
  | cons b t =>
    simp only [] at h
    split at h
    · exact List.mem_cons_of_mem _ h
    · exact h
theorem small_of {l : List Nat} (hb : ∀ x ∈ l, x < 256) (hl : (Fo.cutSign l).2.length ≤ 18) : Small l := by
  refine ⟨by omega, fun ha => ?_⟩
  have h2 := numOf_bound (Fo.cutSign l).2 0 (fun x hx => hb x (cutSign_mem hx)) ha
  have h3 : 10 ^ (Fo.cutSign l).2.length ≤ 10 ^ 18 := Nat.pow_le_pow_right (by decide) hl
  have : Fo.numOf (Fo.cutSign l).2 = (Fo.cutSign l).2.foldl stepD 0 := rfl
  omega
theorem below_drewN' (w : World) (n : Nat) : Below w.heap.size w (w.drewN n) := ⟨rfl, rfl, rfl, Nat.le_refl _, fun _ _ => rfl⟩
/-- What wholeNumber answers. -/
def WholeIs (l : List Nat) (n : Int) (b : Bool) : Prop := match Fo.whole l with
  | some v => n = v ∧ b = true
  | none => b = false
theorem WholeIs.long {l : List Nat} (n : Int) (h : ¬ (1 ≤ (Fo.cutSign l).2.length ∧ (Fo.cutSign l).2.length ≤ 10)) : WholeIs l n false := by
  unfold WholeIs Fo.whole
  rw [if_neg h]
theorem WholeIs.nil {l : List Nat} {n : Int} (h : 1 ≤ (Fo.cutSign l).2.length ∧ (Fo.cutSign l).2.length ≤ 10) (ha : AtoiIs l n .nilIface) : WholeIs l n true := by
  unfold WholeIs Fo.whole
  rw [if_pos h]
  unfold AtoiIs at ha
  cases hf : Fo.atoi l with
  | some v => rw [hf] at ha; exact ⟨ha.1, rfl⟩
  | none => rw [hf] at ha; obtain ⟨_, _, h⟩ := ha; cases h
theorem WholeIs.err {l : List Nat} {n : Int} {te : TypeId} {pe : Value} (h : 1 ≤ (Fo.cutSign l).2.length ∧ (Fo.cutSign l).2.length ≤ 10) (ha : AtoiIs l n (.iface te pe)) : WholeIs l n false := by
  unfold WholeIs Fo.whole
  rw [if_pos h]
  unfold AtoiIs at ha
  cases hf : Fo.atoi l with
  | some v => rw [hf] at ha; cases ha.2
  | none => rfl
/-- What wholeNumber comes to. -/
def WholeTo (l : List Nat) (w : World) (e : Ending) (w' : World) : Prop := (∃ n b, e = .returned (.tuple #[.int .i64 n, .bool b]) ∧ WholeIs l n b) ∧ Below w.heap.size w w'
set_option maxRecDepth 100000 in
set_option maxHeartbeats 1000000 in
theorem whole_ok (he : ErrW B w) (hB : B ≤ w.heap.size) (S : ByteArray) (hS : S.size ≤ 1000000) : Calls Tryz.prog 307 #[.string S] w (WholeTo (bl S) w) := by
  have HC := hide (cutSign_ok (w := w) S hS)
  have HA := hide (fun m => atoi_ok (he.below hB (below_drewN' w m)) S hS)
  have HSM : Hid (1 ≤ (Fo.cutSign (bl S)).2.length ∧ (Fo.cutSign (bl S)).2.length ≤ 10 → Small (bl S)) := fun h => small_of (bl_bytes S) (by omega)
  generalize bl S = l at *
  have HDS : Hid ((strN (Fo.cutSign l).2).size = (Fo.cutSign l).2.length) := by unfold Hid strN; simp [ByteArray.size]
  clear he
  go_enter Tryz.func307, Tryz.ntmps307
  go_wp2_with fail
  refine HC.out.mono ?_
  rintro e w1 ⟨⟨a, b, rfl, ha, hb⟩, m, rfl⟩
  have hbs : b = .string (strN (Fo.cutSign l).2) := hb
  obtain ⟨a', has⟩ : ∃ a', a = .string a' := ⟨_, ha⟩
  subst hbs has
  clear ha hb HC
  go_wp2_with fail
  refine (HA.out m).mono ?_
  rintro e w2 ⟨⟨n, ev, rfl, hev, hres⟩, b2⟩
  have HRES := hide hres
  have B2 := hide ((below_drewN' w m).trans b2)
  clear hres b2 HA
  obtain ⟨T, hT⟩ : ∃ T, strN (Fo.cutSign l).2 = T := ⟨_, rfl⟩
  rw [hT] at HDS ⊢
  obtain ⟨z, hz⟩ : ∃ z, (Fo.cutSign l).2.length = z := ⟨_, rfl⟩
  rw [hz] at HDS
  have hTz : T.size = z := HDS.out
  have HZ := hide hz
  clear hT hz HDS
  rcases hev with rfl | ⟨te, pe, rfl⟩
  · by_cases hd : 1 ≤ z ∧ z ≤ 10
    · have hd' : 1 ≤ (Fo.cutSign l).2.length ∧ (Fo.cutSign l).2.length ≤ 10 := by rw [HZ.out]; exact hd
      have HX := hide (WholeIs.nil hd' (HRES.out (HSM.out hd')))
      clear hd' HRES HSM HZ
      have hw1 : (1 : Int) ≤ (T.size : Int) := by omega
      have hw2 : (T.size : Int) ≤ 10 := by omega
      clear hTz hd
      go_wp2_with fail
      refine (within_int_yes (T.size : Int) 1 10 _ hw1 hw2).mono ?_
      rintro e w' ⟨rfl, rfl⟩
      go_wp2
      go_ret2
      exact ⟨⟨n, true, rfl, HX.out⟩, B2.out⟩
    · have HX := hide (WholeIs.long (l := l) n (by rw [HZ.out]; exact hd))
      clear HRES HSM HZ
      have hw1 : (T.size : Int) < 1 ∨ (10 : Int) < (T.size : Int) := by omega
      clear hTz hd
      go_wp2_with fail
      refine (within_int_no (T.size : Int) 1 10 _ hw1).mono ?_
      rintro e w' ⟨rfl, rfl⟩
      go_wp2
      go_ret2
      exact ⟨⟨n, false, rfl, HX.out⟩, B2.out⟩
  · have HX : Hid (WholeIs l n false) := by
      by_cases hd : 1 ≤ z ∧ z ≤ 10
      · have hd' : 1 ≤ (Fo.cutSign l).2.length ∧ (Fo.cutSign l).2.length ≤ 10 := by rw [HZ.out]; exact hd
        exact WholeIs.err hd' (HRES.out (HSM.out hd'))
      · exact WholeIs.long (l := l) n (by rw [HZ.out]; exact hd)
    clear HRES HSM HZ hTz
    go_wp2
    go_ret2
    exact ⟨⟨n, false, rfl, HX.out⟩, B2.out⟩
end Go.Proofs.YtgkljcmjnphpeaaGreatDoor
