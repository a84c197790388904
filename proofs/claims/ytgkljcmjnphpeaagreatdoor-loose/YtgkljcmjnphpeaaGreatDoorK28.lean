/- All ways to tell bytes: the document that is read. -/
import Derived.Test.YtgkljcmjnphpeaaGreatDoorK27
import Derived.Test.YtgkljcmjnphpeaaGreatDoorK20
set_option linter.unusedVariables false
set_option linter.unusedSimpArgs false
namespace Go.Proofs.YtgkljcmjnphpeaaGreatDoor
open Go.RowKit
namespace Fo
def wayA (z : Nat × Nat) : List Nat := octalD z.1 ++ (if z.2 = 1 then [92, 13, 10] else [])
def wayB (z : Nat × Nat) : List Nat := hexD z.1 (decide (3 < z.2)) ++ (if z.2 % 4 = 1 then [32, 10] else [])
def wayC (y : Nat × Bool) : List Nat := 35 :: hexD y.1 y.2
theorem behind_octal {x : Nat} (hx : x < 256) (q : List Nat) : behind ((48 + x / 64) :: (48 + x / 8 % 8) :: (48 + x % 8) :: q) = some ([x], q) := by
  have h1 : octHead ((48 + x / 64) :: (48 + x / 8 % 8) :: (48 + x % 8) :: q) = true := by simp [octHead]; omega
  have h2 : octHead ((48 + x / 8 % 8) :: (48 + x % 8) :: q) = true := by simp [octHead]; omega
  have h3 : octHead ((48 + x % 8) :: q) = true := by simp [octHead]; omega
  have hl : lineEnd ((48 + x / 64) :: (48 + x / 8 % 8) :: (48 + x % 8) :: q) = none := by
    unfold lineEnd
    rw [takes_ne (by omega), takes_ne (by omega), takes_ne (by omega)]; rfl
  have ho : octal ((48 + x / 64) :: (48 + x / 8 % 8) :: (48 + x % 8) :: q) = (x, q) := by
    unfold octal
    rw [octGo, if_pos h1, List.tail_cons, octGo, if_pos h2, List.tail_cons, octGo, if_pos h3, List.tail_cons, octGo]
    simp only [List.headD_cons]
    congr 1
    omega
  unfold behind
  rw [hl]
  simp only []
  rw [if_pos h1, ho]
  simp only []
  rw [if_pos (by omega)]
theorem strGo_back {f o : Nat} {t l q : List Nat} (h : behind t = some (l, q)) : strGo (f + 1) o (92 :: t) = (strGo f o q).map fun x => (l ++ x.1, x.2) := by
  rw [strGo.eq_def]
  simp only []
  rw [show lineEnd (92 :: t) = none by unfold lineEnd; rw [takes_ne (by decide), takes_ne (by decide), takes_ne (by decide)]; rfl]
  simp only []
  rw [if_pos trivial, h]
theorem strGo_octs (r : List Nat) : ∀ (zs : List (Nat × Nat)) (f : Nat), (∀ z ∈ zs, z.1 < 256) → 2 * zs.length + 1 ≤ f → strGo f 1 (zs.flatMap wayA ++ 41 :: r) = some (zs.map Prod.fst, r)
  | [], 0, _, hf => by simp at hf
  | [], f + 1, _, _ => rfl
  | z :: zs, f, hz, hf => by
    obtain ⟨f, rfl⟩ : ∃ g, f = g + 2 := ⟨f - 2, by simp only [List.length_cons] at hf; omega⟩
    have hx := hz z (List.mem_cons_self ..)
    have hz' : ∀ z ∈ zs, z.1 < 256 := fun y hy => hz y (List.mem_cons_of_mem _ hy)
    simp only [List.length_cons] at hf
    rw [List.flatMap_cons, wayA, octalD, List.append_assoc, List.append_assoc]
    show strGo (f + 1 + 1) 1 (92 :: ((48 + z.1 / 64) :: (48 + z.1 / 8 % 8) :: (48 + z.1 % 8) :: ((if z.2 = 1 then [92, 13, 10] else []) ++ (zs.flatMap wayA ++ 41 :: r)))) = _
    rw [strGo_back (behind_octal hx _)]
    by_cases hw : z.2 = 1
    · rw [if_pos hw]
      show Option.map _ (strGo (f + 1) 1 (92 :: (13 :: 10 :: (zs.flatMap wayA ++ 41 :: r)))) = _
      rw [strGo_back (show behind (13 :: 10 :: (zs.flatMap wayA ++ 41 :: r)) = some ([], zs.flatMap wayA ++ 41 :: r) from rfl), strGo_octs r zs f hz' (by omega)]
      rfl
    · rw [if_neg hw, List.nil_append, strGo_octs r zs (f + 1) hz' (by omega)]
      rfl
theorem hexVal_great : ∀ a, a < 16 → hexVal (hexGreat a) = some a ∧ whiteB (hexGreat a) = false ∧ hexGreat a ≠ 62 ∧ hexGreat a ≠ 60 := by decide
theorem hexVal_small : ∀ a, a < 16 → hexVal (hexSmall a) = some a ∧ whiteB (hexSmall a) = false ∧ hexSmall a ≠ 62 ∧ hexSmall a ≠ 60 := by decide
/-- A digit, of either case. -/
theorem hexD_dig {x : Nat} (hx : x < 256) (g : Bool) : ∃ a b, hexD x g = [a, b] ∧ hexVal a = some (x / 16) ∧ whiteB a = false ∧ a ≠ 62 ∧ a ≠ 60 ∧ hexVal b = some (x % 16) ∧ whiteB b = false ∧ b ≠ 62 := by
  cases g with
  | true =>
    obtain ⟨h1, h2, h3, h4⟩ := hexVal_great (x / 16) (by omega)
    obtain ⟨k1, k2, k3, _⟩ := hexVal_great (x % 16) (by omega)
    exact ⟨_, _, rfl, h1, h2, h3, h4, k1, k2, k3⟩
  | false =>
    obtain ⟨h1, h2, h3, h4⟩ := hexVal_small (x / 16) (by omega)
    obtain ⟨k1, k2, k3, _⟩ := hexVal_small (x % 16) (by omega)
    exact ⟨_, _, rfl, h1, h2, h3, h4, k1, k2, k3⟩
theorem hexDigs_cons {b v : Nat} {r : List Nat} (hw : whiteB b = false) (h62 : b ≠ 62) (hv : hexVal b = some v) : hexDigs (b :: r) = (hexDigs r).map fun x => (v :: x.1, x.2) := by
  rw [hexDigs, hw]
  simp only [Bool.false_eq_true, if_false, if_neg h62, hv]
theorem hexDigs_ways (r : List Nat) : ∀ zs : List (Nat × Nat), (∀ z ∈ zs, z.1 < 256) → hexDigs (zs.flatMap wayB ++ 62 :: r) = some (zs.flatMap fun z => [z.1 / 16, z.1 % 16], r)
  | [], _ => rfl
  | z :: zs, hz => by
    have ih := hexDigs_ways r zs (fun y hy => hz y (List.mem_cons_of_mem _ hy))
    obtain ⟨a, b, e, h1, h2, h3, _, k1, k2, k3⟩ := hexD_dig (hz z (List.mem_cons_self ..)) (decide (3 < z.2))
    rw [List.flatMap_cons, wayB, e, List.append_assoc, List.append_assoc]
    show hexDigs (a :: b :: ((if z.2 % 4 = 1 then [32, 10] else []) ++ (zs.flatMap wayB ++ 62 :: r))) = _
    rw [hexDigs_cons h2 h3 h1, hexDigs_cons k2 k3 k1]
    have hh : hexDigs ((if z.2 % 4 = 1 then [32, 10] else []) ++ (zs.flatMap wayB ++ 62 :: r)) = hexDigs (zs.flatMap wayB ++ 62 :: r) := by
      split
      · rfl
      · rfl
    rw [hh, ih]
    rfl
theorem pairs_ways : ∀ zs : List (Nat × Nat), pairs (zs.flatMap fun z => [z.1 / 16, z.1 % 16]) = zs.map Prod.fst
  | [] => rfl
  | z :: zs => by
    rw [List.flatMap_cons]
    show (16 * (z.1 / 16) + z.1 % 16) :: pairs (zs.flatMap fun z => [z.1 / 16, z.1 % 16]) = _
    rw [pairs_ways zs, List.map_cons]
    congr 1
    omega
theorem nameS_ways {r : List Nat} (hr : NP r) : ∀ cs : List (Nat × Bool), (∀ y ∈ cs, 0 < y.1 ∧ y.1 < 256) → name (cs.flatMap wayC ++ r) = some (cs.map Prod.fst, r)
  | [], _ => name_plain (s := []) (fun b hb => by cases hb) hr
  | y :: cs, hy => by
    have ih : nameS 0 0 (cs.flatMap wayC ++ r) = some (cs.map Prod.fst, r) := nameS_ways hr cs (fun z hz => hy z (List.mem_cons_of_mem _ hz))
    have h0 := hy y (List.mem_cons_self ..)
    obtain ⟨a, b, e, h1, _, _, _, k1, _, _⟩ := hexD_dig h0.2 y.2
    rw [List.flatMap_cons, wayC, e, List.append_assoc]
    show nameS 0 0 (35 :: a :: b :: (cs.flatMap wayC ++ r)) = _
    rw [nameS, if_neg (by decide), if_neg (by decide), if_pos rfl, nameS, h1]
    simp only []
    rw [nameS, k1]
    simp only []
    rw [if_neg (by omega), ih, List.map_cons, show 16 * (y.1 / 16) + y.1 % 16 = y.1 by omega]
    rfl
theorem value_quoted {k : Nat} {t l q : List Nat} (h : quoted t = some (l, q)) : value (k + 1) (40 :: t) = some (leafN (VT k) 5 0 0 l, q) := by
  unfold value
  rw [skip_stop (by decide) (by decide), takes_ne (by decide), takes_ne (by decide), takes_ne (by decide), show takes [40] (40 :: t) = some t from takes_app [40] t]
  show (quoted t).map (fun x => (leafN (VT k) 5 0 0 x.1, x.2)) = _
  rw [h]
  rfl
theorem value_hex {k : Nat} {t l q : List Nat} (ht : ∀ b s, t = b :: s → b ≠ 60) (h : hexText t = some (l, q)) : value (k + 1) (60 :: t) = some (leafN (VT k) 5 0 0 l, q) := by
  unfold value
  have h2 : takes [60, 60] (60 :: t) = none := by
    cases t with
    | nil => rfl
    | cons b s =>
      unfold takes
      have := ht b s rfl
      rw [if_neg]
      simp [List.isPrefixOf, Ne.symm this]
  rw [skip_stop (by decide) (by decide), takes_ne (by decide), h2, show takes [60] (60 :: t) = some t from takes_app [60] t]
  show (hexText t).map (fun x => (leafN (VT k) 5 0 0 x.1, x.2)) = _
  rw [h]
  rfl
theorem value_name {k : Nat} {t l q : List Nat} (h : name t = some (l, q)) : value (k + 1) (47 :: t) = some (leafN (VT k) 4 0 0 l, q) := by
  unfold value
  rw [skip_stop (by decide) (by decide), takes_ne (by decide), takes_ne (by decide), takes_ne (by decide), takes_ne (by decide), show takes [47] (47 :: t) = some t from takes_app [47] t]
  show (name t).map (fun x => (leafN (VT k) 4 0 0 x.1, x.2)) = _
  rw [h]
  rfl
theorem value_dict {k m : Nat} {t q : List Nat} {x : List (List Nat) × List (VT k)} (hm : ∃ d, t.length = d + m) (h : ∀ d, dic (value k) (d + m + 1) t = some (x, q)) : value (k + 1) (60 :: 60 :: t) = some ((⟨7, 0, 0, [], x.2, x.1, []⟩ : Node (VT k)), q) := by
  unfold value
  rw [skip_stop (by decide) (by decide), takes_ne (by decide), show takes [60, 60] (60 :: 60 :: t) = some t from takes_app [60, 60] t]
  show (dic (value k) (t.length + 1) t).map _ = _
  obtain ⟨d, hd⟩ := hm
  rw [hd, h d]
  rfl
/-- The text of all ways. -/
def waysText (zs : List (Nat × Nat)) (cs : List (Nat × Bool)) : List Nat :=
  [60, 60, 47, 65, 32] ++ (([40] ++ zs.flatMap wayA) ++ ([41, 47, 66] ++ (([60] ++ zs.flatMap wayB) ++ ([62, 47, 67] ++ (([47] ++ cs.flatMap wayC) ++ ([47, 68] ++ ([40, 40, 41, 40, 97, 40, 98, 41, 41, 92, 40, 92, 41, 41] ++ [47, 69, 40, 13, 10, 13, 10, 92, 110, 41, 47, 70, 60, 52, 62, 62, 62])))))))
def waysItems (zs : List (Nat × Nat)) (cs : List (Nat × Bool)) : List (VT 11) := [(leafN (VT 10) 5 0 0 (zs.map Prod.fst) : VT 11), (leafN (VT 10) 5 0 0 (zs.map Prod.fst) : VT 11), (leafN (VT 10) 4 0 0 (cs.map Prod.fst) : VT 11), (leafN (VT 10) 5 0 0 [40, 41, 40, 97, 40, 98, 41, 41, 40, 41] : VT 11), (leafN (VT 10) 5 0 0 [10, 10, 10] : VT 11), (leafN (VT 10) 5 0 0 [64] : VT 11)]
def waysV (zs : List (Nat × Nat)) (cs : List (Nat × Bool)) : Node (VT 11) := ⟨7, 0, 0, [], waysItems zs cs, [[65], [66], [67], [68], [69], [70]], []⟩
theorem name_one (b : Nat) (t : List Nat) (hb : plainB b = true ∧ 33 ≤ b ∧ b ≤ 126 ∧ b ≠ 35) (ht : NP t) : name (b :: t) = some ([b], t) := name_plain (s := [b]) (fun x hx => by simp at hx; subst hx; exact hb) ht
theorem flatMap_len {β : Type} (f : β → List Nat) (n : Nat) (hf : ∀ z, n ≤ (f z).length) : ∀ l : List β, n * l.length ≤ (l.flatMap f).length
  | [] => Nat.le_refl _
  | z :: l => by
    have := flatMap_len f n hf l
    have := hf z
    rw [List.flatMap_cons, List.length_append, List.length_cons, Nat.mul_add]; omega
theorem ways_tell {zs : List (Nat × Nat)} {cs : List (Nat × Bool)} (hz : ∀ z ∈ zs, z.1 < 256) (hc : ∀ y ∈ cs, 0 < y.1 ∧ y.1 < 256) : Tells (waysText zs cs) (waysV zs cs) := by
  intro r _ _ _ _
  have e : waysText zs cs ++ r = 60 :: 60 :: (47 :: 65 :: 32 :: 40 :: (zs.flatMap wayA ++ 41 :: (47 :: 66 :: 60 :: (zs.flatMap wayB ++ 62 :: (47 :: 67 :: 47 :: (cs.flatMap wayC ++ (47 :: 68 :: 40 :: ([40, 41, 40, 97, 40, 98, 41, 41, 92, 40, 92, 41, 41] ++ (47 :: 69 :: 40 :: ([13, 10, 13, 10, 92, 110, 41] ++ (47 :: 70 :: 60 :: 52 :: 62 :: 62 :: 62 :: r))))))))))) := by
    unfold waysText
    simp only [List.append_assoc, List.cons_append, List.nil_append]
  rw [e]
  refine value_dict (m := 6) (x := ([[65], [66], [67], [68], [69], [70]], waysItems zs cs)) ⟨_, (Nat.sub_add_cancel (by simp only [List.length_cons, List.length_append]; omega)).symm⟩ (fun d => ?_)
  have l4 := flatMap_len wayA 4 (fun z => by unfold wayA octalD; simp only [List.length_append, List.length_cons]; omega) zs
  have v1 : value 11 (32 :: 40 :: (zs.flatMap wayA ++ 41 :: (47 :: 66 :: 60 :: (zs.flatMap wayB ++ 62 :: (47 :: 67 :: 47 :: (cs.flatMap wayC ++ (47 :: 68 :: 40 :: ([40, 41, 40, 97, 40, 98, 41, 41, 92, 40, 92, 41, 41] ++ (47 :: 69 :: 40 :: ([13, 10, 13, 10, 92, 110, 41] ++ (47 :: 70 :: 60 :: 52 :: 62 :: 62 :: 62 :: r)))))))))))
      = some ((leafN (VT 10) 5 0 0 (zs.map Prod.fst) : VT 11), 47 :: 66 :: 60 :: (zs.flatMap wayB ++ 62 :: (47 :: 67 :: 47 :: (cs.flatMap wayC ++ (47 :: 68 :: 40 :: ([40, 41, 40, 97, 40, 98, 41, 41, 92, 40, 92, 41, 41] ++ (47 :: 69 :: 40 :: ([13, 10, 13, 10, 92, 110, 41] ++ (47 :: 70 :: 60 :: 52 :: 62 :: 62 :: 62 :: r))))))))) := by
    have := (Gap.white (b := 32) rfl).value (k := 10) (40 :: (zs.flatMap wayA ++ 41 :: (47 :: 66 :: 60 :: (zs.flatMap wayB ++ 62 :: (47 :: 67 :: 47 :: (cs.flatMap wayC ++ (47 :: 68 :: 40 :: ([40, 41, 40, 97, 40, 98, 41, 41, 92, 40, 92, 41, 41] ++ (47 :: 69 :: 40 :: ([13, 10, 13, 10, 92, 110, 41] ++ (47 :: 70 :: 60 :: 52 :: 62 :: 62 :: 62 :: r)))))))))))
    rw [List.singleton_append] at this
    rw [this]
    refine value_quoted ?_
    unfold quoted
    exact strGo_octs _ zs _ hz (by rw [List.length_append]; omega)
  have v2 : value 11 (60 :: (zs.flatMap wayB ++ 62 :: (47 :: 67 :: 47 :: (cs.flatMap wayC ++ (47 :: 68 :: 40 :: ([40, 41, 40, 97, 40, 98, 41, 41, 92, 40, 92, 41, 41] ++ (47 :: 69 :: 40 :: ([13, 10, 13, 10, 92, 110, 41] ++ (47 :: 70 :: 60 :: 52 :: 62 :: 62 :: 62 :: r)))))))))
      = some ((leafN (VT 10) 5 0 0 (zs.map Prod.fst) : VT 11), 47 :: 67 :: 47 :: (cs.flatMap wayC ++ (47 :: 68 :: 40 :: ([40, 41, 40, 97, 40, 98, 41, 41, 92, 40, 92, 41, 41] ++ (47 :: 69 :: 40 :: ([13, 10, 13, 10, 92, 110, 41] ++ (47 :: 70 :: 60 :: 52 :: 62 :: 62 :: 62 :: r))))))) := by
    refine value_hex (fun b s h => ?_) (by unfold hexText; rw [hexDigs_ways _ zs hz]; show some (pairs _, _) = _; rw [pairs_ways])
    cases zs with
    | nil => cases h; decide
    | cons z zs =>
      obtain ⟨a, b', e, _, _, _, h60, _⟩ := hexD_dig (hz z (List.mem_cons_self ..)) (decide (3 < z.2))
      rw [List.flatMap_cons, wayB, e] at h
      cases h
      exact h60
  have v3 : value 11 (47 :: (cs.flatMap wayC ++ (47 :: 68 :: 40 :: ([40, 41, 40, 97, 40, 98, 41, 41, 92, 40, 92, 41, 41] ++ (47 :: 69 :: 40 :: ([13, 10, 13, 10, 92, 110, 41] ++ (47 :: 70 :: 60 :: 52 :: 62 :: 62 :: 62 :: r)))))))
      = some ((leafN (VT 10) 4 0 0 (cs.map Prod.fst) : VT 11), 47 :: 68 :: 40 :: ([40, 41, 40, 97, 40, 98, 41, 41, 92, 40, 92, 41, 41] ++ (47 :: 69 :: 40 :: ([13, 10, 13, 10, 92, 110, 41] ++ (47 :: 70 :: 60 :: 52 :: 62 :: 62 :: 62 :: r))))) := value_name (nameS_ways (NP.cons (by decide)) cs hc)
  have v4 : value 11 (40 :: ([40, 41, 40, 97, 40, 98, 41, 41, 92, 40, 92, 41, 41] ++ (47 :: 69 :: 40 :: ([13, 10, 13, 10, 92, 110, 41] ++ (47 :: 70 :: 60 :: 52 :: 62 :: 62 :: 62 :: r)))))
      = some ((leafN (VT 10) 5 0 0 [40, 41, 40, 97, 40, 98, 41, 41, 40, 41] : VT 11), 47 :: 69 :: 40 :: ([13, 10, 13, 10, 92, 110, 41] ++ (47 :: 70 :: 60 :: 52 :: 62 :: 62 :: 62 :: r))) := value_quoted rfl
  have v5 : value 11 (40 :: ([13, 10, 13, 10, 92, 110, 41] ++ (47 :: 70 :: 60 :: 52 :: 62 :: 62 :: 62 :: r))) = some ((leafN (VT 10) 5 0 0 [10, 10, 10] : VT 11), 47 :: 70 :: 60 :: 52 :: 62 :: 62 :: 62 :: r) := value_quoted rfl
  have v6 : value 11 (60 :: 52 :: 62 :: 62 :: 62 :: r) = some ((leafN (VT 10) 5 0 0 [64] : VT 11), 62 :: 62 :: r) := value_hex (fun b s h => by cases h; decide) rfl
  rw [dic_step (name_one 65 _ (by decide) (NP.cons (by decide))) v1, dic_step (name_one 66 _ (by decide) (NP.cons (by decide))) v2, dic_step (name_one 67 _ (by decide) (NP.cons (by decide))) v3, dic_step (name_one 68 _ (by decide) (NP.cons (by decide))) v4, dic_step (name_one 69 _ (by decide) (NP.cons (by decide))) v5, dic_step (name_one 70 _ (by decide) (NP.cons (by decide))) v6, dic_end]
  rfl
end Fo
end Go.Proofs.YtgkljcmjnphpeaaGreatDoor
namespace Go.Proofs.YtgkljcmjnphpeaaGreatDoor
open Go.RowKit
namespace Fo
theorem walk_leaf {objs k nodes : Nat} {kd : Nat} {n : Int} {p : Nat} {t : List Nat} {l : List (VT (k + 2))} (h : oneOk objs (11 - k) nodes (leafN (VT (k + 1)) kd n p t) = true) : walk objs (k + 2) nodes ((leafN (VT (k + 1)) kd n p t : VT (k + 2)) :: l) = walk objs (k + 2) nodes l := by
  refine (walk_cons objs (k + 1) nodes (leafN (VT (k + 1)) kd n p t) l).trans ?_
  have hs : stepW objs (k + 1) nodes (leafN (VT (k + 1)) kd n p t) = some nodes := by
    unfold stepW
    rw [show 12 - (k + 1) = 11 - k by omega, if_pos h]
    rfl
  rw [hs]
theorem oneOk_str {α : Type} {objs d nodes : Nat} {t : List Nat} (h : t.length ≤ 4000) (hn : nodes ≤ 2000) : oneOk objs d nodes (leafN α 5 0 0 t) = true := by
  simp [oneOk, bareV, rightV, leafN, strN_sz, h, hn]
theorem nameOk_of {t : List Nat} (h : t.length ≤ 60) (ht : ∀ x ∈ t, 0 < x ∧ x < 256) : nameOk (strN t) = true := by
  unfold nameOk
  have h2 : ¬ (0 : UInt8) ∈ (strN t).data.toList := by
    unfold strN
    simp only []
    intro hm
    obtain ⟨x, hx, e⟩ := List.mem_map.1 hm
    have := ht x hx
    have h3 := congrArg UInt8.toNat e
    rw [UInt8.toNat_ofNat'] at h3
    have h0 : (0 : UInt8).toNat = 0 := rfl
    omega
  simp [strN_sz, h, h2]
theorem oneOk_name {α : Type} {objs d nodes : Nat} {t : List Nat} (h : t.length ≤ 60) (ht : ∀ x ∈ t, 0 < x ∧ x < 256) (hn : nodes ≤ 2000) : oneOk objs d nodes (leafN α 4 0 0 t) = true := by
  simp [oneOk, bareV, rightV, leafN, nameOk_of h ht, hn]
theorem ways_walk {zs : List (Nat × Nat)} {cs : List (Nat × Bool)} (hz : zs.length ≤ 60) (hc : cs.length ≤ 50) (hc2 : ∀ y ∈ cs, 0 < y.1 ∧ y.1 < 256) : walk 1 11 7 (waysItems zs cs) = some 7 := by
  unfold waysItems
  refine (walk_leaf (k := 9) (oneOk_str (by rw [List.length_map]; omega) (by decide))).trans ?_
  refine (walk_leaf (k := 9) (oneOk_str (by rw [List.length_map]; omega) (by decide))).trans ?_
  refine (walk_leaf (k := 9) (oneOk_name (by rw [List.length_map]; omega) (fun x hx => by obtain ⟨y, hy, rfl⟩ := List.mem_map.1 hx; exact hc2 y hy) (by decide))).trans ?_
  refine (walk_leaf (k := 9) (oneOk_str (by decide) (by decide))).trans ?_
  refine (walk_leaf (k := 9) (oneOk_str (by decide) (by decide))).trans ?_
  refine (walk_leaf (k := 9) (oneOk_str (by decide) (by decide))).trans ?_
  rfl
theorem ways_doc {zs : List (Nat × Nat)} {cs : List (Nat × Bool)} (hz : zs.length ≤ 60) (hc : cs.length ≤ 50) (hc2 : ∀ y ∈ cs, 0 < y.1 ∧ y.1 < 256) : isDoc [(waysV zs cs : VT 12)] 1 = true := by
  have hd : dictOk [[65], [66], [67], [68], [69], [70]] 6 = true := by decide
  have ho : oneOk 1 1 1 (waysV zs cs) = true := by
    have : rightV (waysV zs cs) = true := hd
    unfold oneOk
    rw [this]
    rfl
  have hs : stepW 1 11 1 (waysV zs cs) = some 7 := by
    unfold stepW
    rw [show 12 - 11 = 1 from rfl, if_pos ho]
    exact ways_walk hz hc hc2
  have hw : walk 1 12 1 [(waysV zs cs : VT 12)] = some 7 := by
    refine (walk_cons 1 11 1 (waysV zs cs) []).trans ?_
    rw [hs]
    rfl
  have hi : isDoc [(waysV zs cs : VT 12)] 1 = (decide (1 ≤ 1 ∧ 1 ≤ 100) && decide ((1 : Int) ≤ 1 ∧ (1 : Int) ≤ 1) && decide ((some 7 : Option Nat) = some 7) && (walk 1 12 1 [(waysV zs cs : VT 12)]).isSome) := rfl
  rw [hi, hw]
  rfl
theorem ways_len {zs : List (Nat × Nat)} {cs : List (Nat × Bool)} (hz : zs.length ≤ 60) (hc : cs.length ≤ 50) : (waysText zs cs).length ≤ 1500 := by
  have up : ∀ {β : Type} (f : β → List Nat) (n : Nat) (hf : ∀ z, (f z).length ≤ n) (l : List β), (l.flatMap f).length ≤ n * l.length := by
    intro β f n hf l
    induction l with
    | nil => exact Nat.le_refl _
    | cons z l ih =>
      have := hf z
      rw [List.flatMap_cons, List.length_append, List.length_cons, Nat.mul_add]; omega
  have a := up wayA 7 (fun z => by unfold wayA octalD; simp only [List.length_append, List.length_cons, List.length_nil]; split <;> simp) zs
  have b := up wayB 4 (fun z => by unfold wayB hexD; simp only [List.length_append]; split <;> split <;> simp) zs
  have c := up wayC 3 (fun z => by unfold wayC hexD; split <;> simp) cs
  unfold waysText
  simp only [List.length_append, List.length_cons, List.length_nil]
  omega
theorem ways_read {zs : List (Nat × Nat)} {cs : List (Nat × Bool)} (hz : zs.length ≤ 60) (hz2 : ∀ z ∈ zs, z.1 < 256) (hc : cs.length ≤ 50) (hc2 : ∀ y ∈ cs, 0 < y.1 ∧ y.1 < 256) :
    document (made [waysText zs cs] [] 0 (-1)) = some ([((waysV zs cs : VT 12), [])], 1) ∧ readPlain (made [waysText zs cs] [] 0 (-1)) = some ([(waysV zs cs : VT 12)], 1) := by
  have hd : document (made [waysText zs cs] [] 0 (-1)) = some ([((waysV zs cs : VT 12), [])], 1) := by
    refine document_made (Vs := [waysV zs cs]) Gap.nil ⟨ways_tell hz2 hc2, trivial⟩ (by simp) (Or.inl rfl) ?_
    have h1 := ways_len hz hc
    have h2 := objText_len [] (waysText zs cs) 0 (by simp) h1
    show (objText [] (waysText zs cs) 0 ++ []).length + 0 ≤ _
    rw [List.append_nil]
    omega
  refine ⟨hd, ?_⟩
  unfold readPlain
  rw [hd]
  exact if_pos (ways_doc hz hc hc2)
theorem objs_len (G : List Nat) (hG : G.length ≤ 100) : ∀ (l : List (List Nat)) (i : Nat), (∀ x ∈ l, x.length ≤ 1500) → (objs G i l).length ≤ 2100 * l.length
  | [], i, _ => Nat.zero_le _
  | x :: l, i, h => by
    have h1 := objs_len G hG l (i + 1) (fun y hy => h y (List.mem_cons_of_mem _ hy))
    have h2 := objText_len G x i hG (h x (List.mem_cons_self ..))
    rw [objs, List.length_append, List.length_cons]; omega
theorem lines_len (G : List Nat) (off k : Int) : ∀ (l : List (List Nat)) (i p : Nat), (lines G off k i l p).length = 20 * l.length
  | [], i, p => rfl
  | x :: l, i, p => by rw [lines, List.length_append, lines_len G off k l, lineText_len, List.length_cons]; omega
theorem madeTail_len (G : List Nat) (n a : Nat) (hG : G.length ≤ 100) : (madeTail G n a).length ≤ 900 := by
  have key : ∀ A B : List Nat, A.length ≤ 19 → B.length ≤ 19 → (G ++ ([116, 114, 97, 105, 108, 101, 114] ++ (G ++ ([60, 60, 47, 82, 111, 111, 116, 32, 49, 32] ++ (G ++ ([48, 32, 82] ++ (G ++ ([47, 83, 105, 122, 101, 32] ++ (A ++ ([62, 62] ++ (G ++ ([115, 116, 97, 114, 116, 120, 114, 101, 102, 10] ++ (G ++ (B ++ [13, 10, 37, 37, 69, 79, 70]))))))))))))) : List Nat).length ≤ 900 := by
    intro A B hA hB
    simp only [List.length_append, List.length_cons, List.length_nil]
    omega
  exact key _ _ (pln_len 18 _) (pln_len 18 _)
theorem madeHead_len (n : Nat) (hn : n ≤ 6) : (madeHead n).length ≤ 60 := by
  unfold madeHead
  rw [pln_dig 18 (n + 1) (by omega)]
  have h2 := dig_len 6 (n + 1) (by omega)
  simp only [List.length_append, List.length_cons, List.length_nil]
  omega
theorem made_len {texts : List (List Nat)} {G : List Nat} (off k : Int) (hG : G.length ≤ 100) (hn : texts.length ≤ 6) (h : ∀ x ∈ texts, x.length ≤ 1500) : (made texts G off k).length ≤ 20000 := by
  have h0 := congrArg List.length (made_eq texts G off k)
  have h1 := objs_len G hG texts 0 h
  have h2 := lines_len G off k texts 0 (9 + G.length)
  have h5 := madeHead_len texts.length hn
  have h6 := madeTail_len G texts.length (9 + G.length + (objs G 0 texts).length) hG
  generalize madeTail G texts.length (9 + G.length + (objs G 0 texts).length) = mt at *
  generalize madeHead texts.length = mh at *
  generalize lines G off k 0 texts (9 + G.length) = ml at *
  generalize objs G 0 texts = mo at *
  generalize made texts G off k = mm at *
  simp only [List.length_append, List.length_cons, List.length_nil] at h0
  omega
def Small (l : List Nat) : Prop := ∀ x ∈ l, x < 256
theorem Small.lit {l : List Nat} (h : (l.all fun x => decide (x < 256)) = true) : Small l := fun x hx => by rw [List.all_eq_true] at h; simpa using h x hx
theorem Small.app {a b : List Nat} (ha : Small a) (hb : Small b) : Small (a ++ b) := fun x hx => (List.mem_append.1 hx).elim (ha x) (hb x)
theorem Small.dig (n : Nat) : Small (Fo.dig n) := fun x hx => by have := (dig_is n).2 x hx; omega
theorem Small.num : ∀ (s n : Nat), Small (Fo.num n s)
  | 0, n => fun x hx => by cases hx
  | s + 1, n => (Small.num s (n / 10)).app (fun x hx => by simp at hx; omega)
theorem Small.pln : ∀ (f n : Nat), Small (Fo.pln f n)
  | 0, n => Small.num 1 n
  | f + 1, n => by
    rw [Fo.pln]
    split
    · exact Small.num 1 n
    · exact (Small.pln f (n / 10)).app (Small.num 1 _)
theorem Small.objs {G : List Nat} (hG : Small G) : ∀ (l : List (List Nat)) (i : Nat), (∀ x ∈ l, Small x) → Small (Fo.objs G i l)
  | [], i, _ => fun x hx => by cases hx
  | x :: l, i, h => by
    rw [Fo.objs]
    refine Small.app ?_ (Small.objs hG l (i + 1) fun y hy => h y (List.mem_cons_of_mem _ hy))
    unfold objText
    exact (Small.pln _ _).app (Small.app (Small.lit rfl) (hG.app (Small.app (Small.lit rfl) (hG.app (Small.app (Small.lit rfl) (hG.app (Small.app (Small.lit rfl) ((h x (List.mem_cons_self ..)).app (Small.app (Small.lit rfl) (hG.app (Small.app (Small.lit rfl) hG)))))))))))
theorem Small.lines {G : List Nat} (off k : Int) : ∀ (l : List (List Nat)) (i p : Nat), Small (Fo.lines G off k i l p)
  | [], i, p => fun x hx => by cases hx
  | x :: l, i, p => by
    rw [Fo.lines, lineText]
    exact Small.app (Small.app (Small.num _ _) (Small.lit rfl)) (Small.lines off k l _ _)
theorem made_small {texts : List (List Nat)} {G : List Nat} (off k : Int) (hG : Small G) (h : ∀ x ∈ texts, Small x) : Small (made texts G off k) := by
  rw [made_eq]
  refine Small.app (Small.lit rfl) (hG.app ((Small.objs hG texts 0 h).app (Small.app ?_ ((Small.lines off k texts 0 _).app ?_))))
  · unfold madeHead
    exact Small.app (Small.lit rfl) ((Small.pln _ _).app (Small.lit rfl))
  · unfold madeTail
    exact hG.app (Small.app (Small.lit rfl) (hG.app (Small.app (Small.lit rfl) (hG.app (Small.app (Small.lit rfl) (hG.app (Small.app (Small.lit rfl) ((Small.pln _ _).app (Small.app (Small.lit rfl) (hG.app (Small.app (Small.lit rfl) (hG.app ((Small.pln _ _).app (Small.lit rfl))))))))))))))
theorem Small.flatMap {β : Type} {f : β → List Nat} {l : List β} (h : ∀ z ∈ l, Small (f z)) : Small (l.flatMap f) := fun x hx => by
  obtain ⟨z, hz, hx⟩ := List.mem_flatMap.1 hx
  exact h z hz x hx
theorem hexD_small {x : Nat} (hx : x < 256) (g : Bool) : Small (hexD x g) := by
  have h1 : ∀ a, a < 16 → hexGreat a < 256 ∧ hexSmall a < 256 := by decide
  have a := h1 (x / 16) (by omega)
  have b := h1 (x % 16) (by omega)
  cases g
  · show Small [hexSmall (x / 16), hexSmall (x % 16)]
    intro y hy
    simp at hy
    omega
  · show Small [hexGreat (x / 16), hexGreat (x % 16)]
    intro y hy
    simp at hy
    omega
theorem ways_small {zs : List (Nat × Nat)} {cs : List (Nat × Bool)} (hz : ∀ z ∈ zs, z.1 < 256) (hc : ∀ y ∈ cs, 0 < y.1 ∧ y.1 < 256) : Small (waysText zs cs) := by
  have a : Small (zs.flatMap wayA) := Small.flatMap fun z h => by
    have := hz z h
    unfold wayA octalD
    refine Small.app (fun x hx => by simp at hx; omega) ?_
    split
    · exact (Small.lit rfl : Small [92, 13, 10])
    · exact fun x hx => by cases hx
  have b : Small (zs.flatMap wayB) := Small.flatMap fun z h => by
    unfold wayB
    refine Small.app (hexD_small (hz z h) _) ?_
    split
    · exact (Small.lit rfl : Small [32, 10])
    · exact fun x hx => by cases hx
  have c : Small (cs.flatMap wayC) := Small.flatMap fun y h => by
    unfold wayC
    exact Small.app (a := [35]) (Small.lit rfl) (hexD_small (hc y h).2 _)
  unfold waysText
  exact Small.app (Small.lit rfl) ((Small.app (Small.lit rfl) a).app (Small.app (Small.lit rfl) ((Small.app (Small.lit rfl) b).app (Small.app (Small.lit rfl) ((Small.app (Small.lit rfl) c).app (Small.lit rfl))))))
end Fo
end Go.Proofs.YtgkljcmjnphpeaaGreatDoor
