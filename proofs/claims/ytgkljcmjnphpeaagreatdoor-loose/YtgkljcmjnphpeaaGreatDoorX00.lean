/- Loose: white and comments say nothing (package foliokeep). -/
import Derived.Test.YtgkljcmjnphpeaaGreatDoorKSh
import Derived.Test.YtgkljcmjnphpeaaGreatDoorK00
import Derived.Test.YtgkljcmjnphpeaaGreatDoorK01
import Derived.Test.YtgkljcmjnphpeaaGreatDoorK02
import Derived.Test.YtgkljcmjnphpeaaGreatDoorK03
import Derived.Test.YtgkljcmjnphpeaaGreatDoorK04
import Derived.Test.YtgkljcmjnphpeaaGreatDoorK05
import Derived.Test.YtgkljcmjnphpeaaGreatDoorK06
import Derived.Test.YtgkljcmjnphpeaaGreatDoorK07
import Derived.Test.YtgkljcmjnphpeaaGreatDoorK08
import Derived.Test.YtgkljcmjnphpeaaGreatDoorK09
import Derived.Test.YtgkljcmjnphpeaaGreatDoorK10
import Derived.Test.YtgkljcmjnphpeaaGreatDoorK11
import Derived.Test.YtgkljcmjnphpeaaGreatDoorK12
import Derived.Test.YtgkljcmjnphpeaaGreatDoorK13
import Derived.Test.YtgkljcmjnphpeaaGreatDoorK14
import Derived.Test.YtgkljcmjnphpeaaGreatDoorK15
import Derived.Test.YtgkljcmjnphpeaaGreatDoorK16
import Derived.Test.YtgkljcmjnphpeaaGreatDoorK17
import Derived.Test.YtgkljcmjnphpeaaGreatDoorK18
import Derived.Test.YtgkljcmjnphpeaaGreatDoorK19
import Derived.Test.YtgkljcmjnphpeaaGreatDoorK20
import Derived.Test.YtgkljcmjnphpeaaGreatDoorK21
import Derived.Test.YtgkljcmjnphpeaaGreatDoorK22
import Derived.Test.YtgkljcmjnphpeaaGreatDoorK23
import Derived.Test.YtgkljcmjnphpeaaGreatDoorK24
import Derived.Test.YtgkljcmjnphpeaaGreatDoorK25
import Derived.Test.YtgkljcmjnphpeaaGreatDoorK26
import Derived.Test.YtgkljcmjnphpeaaGreatDoorK27
import Derived.Test.YtgkljcmjnphpeaaGreatDoorK28
import Derived.Test.YtgkljcmjnphpeaaGreatDoorK29
import Derived.Test.YtgkljcmjnphpeaaGreatDoorK30
import Derived.Test.YtgkljcmjnphpeaaGreatDoorK31
import Derived.Test.YtgkljcmjnphpeaaGreatDoorK32
import Derived.Test.YtgkljcmjnphpeaaGreatDoorK33
import Derived.Test.YtgkljcmjnphpeaaGreatDoorRows
import Derived.Test.YtgkljcmjnphpeaaGreatDoorCards
import Derived.ProofKit
import Derived.Stop.Joined
import Derived.SevenTiedAt
import Derived.Deep.CutRange
import Derived.Deep.RegionWith
set_option linter.unusedVariables false
set_option linter.unusedSimpArgs false
namespace Go.Proofs.YtgkljcmjnphpeaaGreatDoor
open Go.RowKit
namespace Fo
theorem numOf_rep : ∀ (k : Nat) (l : List Nat), numOf (List.replicate k 48 ++ l) = numOf l
  | 0, l => rfl
  | k + 1, l => by rw [List.replicate_succ]; exact numOf_rep k l
theorem numOf_num (n : Nat) (h : n < 10 ^ 10) : numOf (num n 10) = n := by rw [num_dig 9 n h, numOf_rep, numOf_dig]
end Fo
end Go.Proofs.YtgkljcmjnphpeaaGreatDoor
namespace Go.Proofs.YtgkljcmjnphpeaaGreatDoor
open Go.RowKit
namespace Fo
theorem line_wrong {p a : Nat} (hp : p < 10 ^ 10) (ha : a < 10 ^ 10) (hne : a ≠ p) (r : List Nat) : tableLine (padded p ++ [32, 48, 48, 48, 48, 48, 32, 110]) (lineText a ++ r) = none := by
  unfold tableLine lineText takes
  rw [if_neg]
  intro h
  rw [List.isPrefixOf_iff_prefix] at h
  obtain ⟨t, ht⟩ := h
  rw [← num_padded p hp, List.append_assoc, List.append_assoc] at ht
  have h1 := congrArg (List.take 10) ht
  rw [List.take_left' (num_len 10 p), List.take_left' (num_len 10 a)] at h1
  have h2 := congrArg numOf h1
  rw [numOf_num p hp, numOf_num a ha] at h2
  exact hne h2.symm
theorem lines_wrong {G : List Nat} {off k : Int} (ho : off = 1 ∨ off = -1) (r : List Nat) : ∀ (l : List (List Nat)) (i p : Nat), (i : Int) ≤ k → k < (i + l.length : Nat) → 1 ≤ p → p + (objs G i l).length + 1 < 10 ^ 10 → tableLines (places G i l p) (lines G off k i l p ++ r) = none
  | [], i, p, h1, h2, _, _ => by simp at h2; omega
  | x :: l, i, p, h1, h2, hp1, hp => by
    rw [objs, List.length_append] at hp
    rw [places, lines, List.append_assoc, tableLines]
    by_cases e : (i : Int) = k
    · rw [line_wrong (by omega) (by unfold atOf; rw [if_pos e]; omega) (by unfold atOf; rw [if_pos e]; omega)]
    · rw [show atOf off k i p = p by unfold atOf; rw [if_neg e], line_right (by omega)]
      exact lines_wrong ho r l (i + 1) _ (by omega) (by simp only [List.length_cons] at h2; omega) (by omega) (by omega)
section
variable {α : Type} {f : List Nat → Option (α × List Nat)}
end
/-- A place that is told wrong is no file. -/
theorem document_wrong {texts : List (List Nat)} {Vs : List (VT 12)} {G : List Nat} {off k : Int} (hG : Gap G) (hT : AllTell texts Vs) (hn : texts.length ≤ 100) (ho : off = 1 ∨ off = -1) (h0 : 0 ≤ k) (hk : k < (texts.length : Int)) (hlen : (objs G 0 texts).length + G.length ≤ 200000) :
    document (made texts G off k) = none := by
  rw [document_go hG hT hn, lines_wrong ho _ texts 0 _ (by omega) (by omega) (by omega) (by omega)]
end Fo
end Go.Proofs.YtgkljcmjnphpeaaGreatDoor
namespace Go.Proofs.YtgkljcmjnphpeaaGreatDoor
open Go.ChangeShapes Go.WideShapes Go.ChangeAt Go.ChangeMaps Go.RowKit
set_option maxRecDepth 100000 in
set_option maxHeartbeats 8000000 in
theorem loose_facts : joinedFacts Tryz.pinned.checked.prog 9 Tryz.f9 Rows.looseSpec Rows.looseRow = true := by
  unfold joinedFacts
  simp only [Bool.and_eq_true]
  repeat' (with_reducible apply And.intro)
  all_goals as_aux_lemma => kernel_rfl
theorem loose_named : Tryz.pinned.checked.prog.funcNamed Rows.looseRow.func = some 9 := by kernel_rfl
theorem loose_inst : Tryz.f9.isInstance Tryz.pinned.checked.prog Rows.looseRow.origin Rows.looseRow.targs := of_decide_eq_true (by kernel_rfl)
theorem loose_wrap : Tryz.f9.isWrapper Tryz.pinned.checked.prog Rows.looseRow.wrapper Rows.looseRow.mainSum := by
  unfold Func.isWrapper
  first | (rw [if_pos (by decide +kernel)]; kernel_rfl) | (rw [if_neg (by decide +kernel)]; exact ⟨rfl, rfl⟩)
end Go.Proofs.YtgkljcmjnphpeaaGreatDoor
namespace Go.Proofs.YtgkljcmjnphpeaaGreatDoor
open Go
theorem loose_wf : Rows.looseRow.wfByText (OpenSpec.ofChange Rows.looseSpec) = true := by kernel_rfl
theorem loose_main : Tryz.pinned.checked.prog.mainIs = some (Rows.looseCard.stood.harness.1, Rows.looseCard.stood.harness.2.toList) := by kernel_rfl
theorem loose_looks : true = Tryz.pinned.checked.prog.looks [] := by kernel_rfl
theorem loose_goes : false = Rows.looseRow.goesBy Tryz.pinned.checked.prog := by kernel_rfl
end Go.Proofs.YtgkljcmjnphpeaaGreatDoor
namespace Go.Proofs.YtgkljcmjnphpeaaGreatDoor
open Go.RowKit
variable {w w' : World}
namespace Fo
def gapItem : Nat → List Nat
  | 0 => [32] | 1 => [10] | 2 => [13] | 3 => [9] | 4 => [0] | 5 => [12]
  | 6 => [37, 32, 97, 32, 40, 99, 111, 109, 109, 101, 110, 116, 32, 62, 62, 32, 10] | 7 => [37, 13, 10] | _ => [32, 32]
theorem Gap.comment {s : List Nat} (h : ∀ r, Fo.skip (37 :: (s ++ r)) = Fo.skip r) : Gap (37 :: s) := ⟨h, fun r _ => NP.cons (by decide)⟩
theorem gapItem_gap : ∀ r, r < 9 → Gap (gapItem r) ∧ (gapItem r).length ≤ 17 ∧ ∀ x ∈ gapItem r, x < 256
  | 0, _ => ⟨Gap.white rfl, by decide, by decide⟩
  | 1, _ => ⟨Gap.white rfl, by decide, by decide⟩
  | 2, _ => ⟨Gap.white rfl, by decide, by decide⟩
  | 3, _ => ⟨Gap.white rfl, by decide, by decide⟩
  | 4, _ => ⟨Gap.white rfl, by decide, by decide⟩
  | 5, _ => ⟨Gap.white rfl, by decide, by decide⟩
  | 6, _ => ⟨Gap.comment fun r => rfl, by decide, by decide⟩
  | 7, _ => ⟨Gap.comment fun r => rfl, by decide, by decide⟩
  | 8, _ => ⟨(Gap.white rfl).app (Gap.white rfl), by decide, by decide⟩
  | n + 9, h => by omega
end Fo
theorem tdiv4 {c : Int} (h1 : -9223372036854775808 ≤ c) (h2 : c ≤ 9223372036854775807) : -9223372036854775808 ≤ c.tdiv 4 ∧ c.tdiv 4 ≤ 9223372036854775807 := by
  rcases Int.le_total 0 c with h | h
  · rw [Int.tdiv_eq_ediv_of_nonneg h]; omega
  · obtain ⟨n, rfl⟩ : ∃ n : Int, c = -n := ⟨-c, by omega⟩
    rw [Int.neg_tdiv, Int.tdiv_eq_ediv_of_nonneg (by omega)]; omega
def gapCells : Array Value := #[.string { data := #[32] }, .string { data := #[10] }, .string { data := #[13] }, .string { data := #[9] }, .string { data := #[0] }, .string { data := #[12] }, .string { data := #[37, 32, 97, 32, 40, 99, 111, 109, 109, 101, 110, 116, 32, 62, 62, 32, 10] }, .string { data := #[37, 13, 10] }, .string { data := #[32, 32] }]
theorem gapCells_at : ∀ r, r < 9 → gapCells[r]? = some (.string (strN (Fo.gapItem r)))
  | 0, _ => rfl | 1, _ => rfl | 2, _ => rfl | 3, _ => rfl | 4, _ => rfl | 5, _ => rfl | 6, _ => rfl | 7, _ => rfl | 8, _ => rfl
  | n + 9, h => by omega
set_option maxRecDepth 100000 in
set_option maxHeartbeats 400000 in
theorem gap_ok (c : Int) (h1 : -9223372036854775808 ≤ c) (h2 : c ≤ 9223372036854775807) : Calls Tryz.prog 28 #[.int .i64 c] w fun e w' => ∃ G, e = .returned (.string (strN G)) ∧ Fo.Gap G ∧ G.length ≤ 60 ∧ (∀ x ∈ G, x < 256) ∧ Below w.heap.size w w' := by
  go_enter Tryz.func28, Tryz.ntmps28
  go_wp2_with fail
  refine (pick_ok c h1 h2 4 (by decide) (by decide) _).mono ?_
  rintro e w1 ⟨r, hr, rfl, hw⟩
  have hw := hw.symm
  subst hw
  go_wp2_with fail
  go_loopw [0, 3, 4, 5] (fun cv sv nv _ wr => ∃ (m : Nat) (cc : Int) (G : List Nat), m ≤ 3 ∧ cv = .int .i64 cc ∧ -9223372036854775808 ≤ cc ∧ cc ≤ 9223372036854775807 ∧ sv = .string (strN G) ∧ nv = .int .i64 (m : Int) ∧ Hid (Fo.Gap G) ∧ G.length + 17 * m ≤ 51 ∧ Hid (∀ x ∈ G, x < 256) ∧ Hid (Below w.heap.size w wr)) (fun _ _ nv _ _ => (intOf nv).toNat)
  case atStart => exact ⟨r, c, [], by omega, rfl, h1, h2, rfl, rfl, Fo.Gap.nil, by simp; omega, (fun x hx => by cases hx), Below.refl _ _⟩
  case round =>
    obtain ⟨m, cc, G, hm, rfl, k1, k2, rfl, rfl, HG, hl, HX, HB⟩ := hrel
    have hls : (strN G).size = G.length := strN_sz _
    rcases Nat.eq_zero_or_pos m with hm0 | hm0
    · have t0 : decide ((m : Int) > 0) = false := by simp; omega
      have t1 : decide ((0 : Int) < (m : Int)) = false := by simp; omega
      generalize hsd : strN G = sd at *
      have HSD := hide hsd
      clear hsd
      go_wp2
      go_ret
      exact ⟨G, by rw [HSD.out]; rfl, HG.out, by omega, HX.out, HB.out⟩
    · have t0 : decide ((m : Int) > 0) = true := by simp; omega
      have t1 : decide ((0 : Int) < (m : Int)) = true := by simp; omega
      have hx := blk_new wr (.cells gapCells 9)
      have bx : Below w.heap.size w (wr.alloc (.cells gapCells 9)) := HB.out.alloc HB.out.size _
      unfold gapCells at hx bx
      have HXB := hide hx
      have HBX := hide bx
      have hms : IntKind.i64.wrap ((m : Int) - 1) = ((m - 1 : Nat) : Int) := by rw [IntKind.wrap_i64]; omega
      obtain ⟨q1, q2⟩ := tdiv4 k1 k2
      have hcd : IntKind.i64.wrap (cc.tdiv 4) = cc.tdiv 4 := by rw [IntKind.wrap_i64]; omega
      clear hx bx
      generalize hsd : strN G = sd at *
      have HSD := hide hsd
      clear hsd
      go_wp2_with fail
      refine (pick_ok (cc.tdiv 4) q1 q2 9 (by decide) (by decide) _).mono ?_
      rintro e w1 ⟨i, hi, rfl, hw⟩
      have hw := hw.symm
      subst hw
      have hc := gapCells_at i hi
      unfold gapCells at hc
      have hcell : (wr.alloc (.cells #[.string { data := #[32] }, .string { data := #[10] }, .string { data := #[13] }, .string { data := #[9] }, .string { data := #[0] }, .string { data := #[12] }, .string { data := #[37, 32, 97, 32, 40, 99, 111, 109, 109, 101, 110, 116, 32, 62, 62, 32, 10] }, .string { data := #[37, 13, 10] }, .string { data := #[32, 32] }] 9)).cell? ⟨wr.heap.size, i, none⟩ = some (.string (strN (Fo.gapItem i))) := by rw [cell_blk HXB.out]; exact hc
      obtain ⟨g1, g2, g3⟩ := Fo.gapItem_gap i hi
      have hzs : (strN (Fo.gapItem i)).size = (Fo.gapItem i).length := strN_sz _
      have HZD : Hid (sd ++ strN (Fo.gapItem i) = strN (G ++ Fo.gapItem i)) := by unfold Hid; rw [← HSD.out, strN_append]
      have HG2 : Hid (Fo.Gap (G ++ Fo.gapItem i)) := HG.out.app g1
      have hl2 : (G ++ Fo.gapItem i).length + 17 * (m - 1) ≤ 51 := by rw [List.length_append]; omega
      have HX2 : Hid (∀ x ∈ G ++ Fo.gapItem i, x < 256) := fun x hx => (List.mem_append.1 hx).elim (HX.out x) (g3 x)
      have hsz1 : sd.size ≤ 60 := by omega
      have hsz2 : (strN (Fo.gapItem i)).size ≤ 17 := by omega
      clear hc HXB g1 g3 HX HG hls hzs
      generalize strN (Fo.gapItem i) = zd at *
      generalize (wr.alloc (.cells #[.string { data := #[32] }, .string { data := #[10] }, .string { data := #[13] }, .string { data := #[9] }, .string { data := #[0] }, .string { data := #[12] }, .string { data := #[37, 32, 97, 32, 40, 99, 111, 109, 109, 101, 110, 116, 32, 62, 62, 32, 10] }, .string { data := #[37, 13, 10] }, .string { data := #[32, 32] }] 9)) = w3 at *
      go_wp2
      go_roundw
      case rel => exact ⟨m - 1, _, _, by omega, rfl, q1, q2, by rw [HZD.out], by first | rfl | (congr 1), HG2.out, hl2, HX2.out, HBX.out⟩
      case measure => simp [intOf]; omega
end Go.Proofs.YtgkljcmjnphpeaaGreatDoor
namespace Go.Proofs.YtgkljcmjnphpeaaGreatDoor
open Go.RowKit
namespace Fo
def lt1 : List Nat := [60, 60, 47, 65, 32, 91, 49, 32, 50, 32, 48, 32, 82, 32, 116, 114, 117, 101, 93, 47, 66, 40, 120, 41, 62, 62]
def lt2 : List Nat := [91, 47, 78, 32, 49, 46, 53, 32, 110, 117, 108, 108, 93]
def lt3 : List Nat := [45, 55]
def lt4 : List Nat := [40, 97, 41]
def lt5 : List Nat := [60, 52, 49, 62]
def lt6 : List Nat := [50, 32, 48, 32, 82]
def lf (k : Nat) (kd : Nat) (n : Int) (p : Nat) (t : List Nat) : VT (k + 1) := leafN (VT k) kd n p t
def lv1a : VT 11 := (⟨6, 0, 0, [], [lf 9 2 1 0 [], lf 9 9 2 0 [], lf 9 1 1 0 []], [], []⟩ : Node (VT 10))
def lv1 : VT 12 := (⟨7, 0, 0, [], [lv1a, lf 10 5 0 0 [120]], [[65], [66]], []⟩ : Node (VT 11))
def lv2 : VT 12 := (⟨6, 0, 0, [], [lf 10 4 0 0 [78], lf 10 3 15 1 [], lf 10 0 0 0 []], [], []⟩ : Node (VT 11))
def lv3 : VT 12 := lf 11 2 (-7) 0 []
def lv4 : VT 12 := lf 11 5 0 0 [97]
def lv5 : VT 12 := lf 11 5 0 0 [65]
def lv6 : VT 12 := lf 11 9 2 0 []
def ltexts : List (List Nat) := [lt1, lt2, lt3, lt4, lt5, lt6]
def lvals : List (VT 12) := [lv1, lv2, lv3, lv4, lv5, lv6]
theorem tell1 : Tells lt1 lv1 := fun r _ _ _ _ => by kernel_rfl
theorem tell2 : Tells lt2 lv2 := fun r _ _ _ _ => rfl
theorem tell3 : Tells lt3 lv3 := fun r _ h _ hn => value_int (s := lt3) (plainL (by decide) (by decide)) hn rfl h
theorem tell4 : Tells lt4 lv4 := fun r _ _ _ _ => value_quoted rfl
theorem tell5 : Tells lt5 lv5 := fun r _ _ _ _ => value_hex (fun b s h => by cases h; decide) rfl
theorem tell6 : Tells lt6 lv6 := fun r _ _ _ hn => by
  have hr : takesRef (32 :: 48 :: 32 :: 82 :: r) = some r := by
    unfold takesRef
    rw [takesWord_white (by rfl), show (48 :: 32 :: 82 :: r : List Nat) = [48] ++ (32 :: 82 :: r) from rfl, takesWord_word (plainL (by decide) (by decide)) (NP.cons (by decide))]
    show takesWord [82] (32 :: 82 :: r) = _
    rw [takesWord_white (by rfl)]
    exact takesWord_word (s := [82]) (plainL (by decide) (by decide)) hn
  exact value_ref (s := [50]) (plainL (by decide) (by decide)) (NP.cons (by decide)) rfl hr
theorem AllTell.take : ∀ {l : List (List Nat)} {Vs : List (VT 12)}, AllTell l Vs → ∀ n, AllTell (l.take n) (Vs.take n)
  | _, _, _, 0 => trivial
  | [], [], _, n + 1 => trivial
  | x :: l, V :: Vs, h, n + 1 => ⟨h.1, AllTell.take h.2 n⟩
  | [], _ :: _, h, n + 1 => h.elim
  | _ :: _, [], h, n + 1 => h.elim
theorem ltell (n : Nat) : AllTell (ltexts.take n) (lvals.take n) := AllTell.take (show AllTell ltexts lvals from ⟨tell1, tell2, tell3, tell4, tell5, tell6, trivial⟩) n
theorem ldoc : ∀ n, 2 ≤ n → n ≤ 6 → isDoc (lvals.take n) 1 = true
  | 2, _, _ => by decide
  | 3, _, _ => by decide
  | 4, _, _ => by decide
  | 5, _, _ => by decide
  | 6, _, _ => by decide
  | 0, h, _ => by omega
  | 1, h, _ => by omega
  | n + 7, _, h => by omega
theorem ldoc1 : isDoc (lvals.take 1) 1 = false := by decide
theorem ltexts_len (n : Nat) : ∀ x ∈ ltexts.take n, x.length ≤ 1500 := fun x hx => by
  have h : ∀ y ∈ ltexts, y.length ≤ 1500 := by decide
  exact h x (List.mem_of_mem_take hx)
theorem ltexts_small (n : Nat) : ∀ x ∈ ltexts.take n, Small x := fun x hx => by
  have h : ∀ y ∈ ltexts, ∀ b ∈ y, b < 256 := by decide
  exact h x (List.mem_of_mem_take hx)
theorem lkinds : ∀ V ∈ lvals, kindOf V ≠ 8 := fun V hV => by
  rcases List.mem_cons.1 hV with rfl | hV
  · decide
  rcases List.mem_cons.1 hV with rfl | hV
  · decide
  rcases List.mem_cons.1 hV with rfl | hV
  · decide
  rcases List.mem_cons.1 hV with rfl | hV
  · decide
  rcases List.mem_cons.1 hV with rfl | hV
  · decide
  rcases List.mem_cons.1 hV with rfl | hV
  · decide
  cases hV
theorem llen {n : Nat} (h : n ≤ 6) : (ltexts.take n).length = n := by rw [List.length_take]; exact Nat.min_eq_left h
theorem lobjs {G : List Nat} (hG : G.length ≤ 100) {n : Nat} (h : n ≤ 6) : (objs G 0 (ltexts.take n)).length + G.length ≤ 200000 := by
  have := objs_len G hG (ltexts.take n) 0 (ltexts_len n)
  rw [llen h] at this
  omega
theorem loose_doc {G : List Nat} (hg : Gap G) (hG : G.length ≤ 100) {n : Nat} (h : n ≤ 6) : document (made (ltexts.take n) G 0 (-1)) = some ((lvals.take n).map fun V => (V, []), 1) :=
  document_made hg (ltell n) (by rw [llen h]; omega) (Or.inl rfl) (lobjs hG h)
theorem loose_read {G : List Nat} (hg : Gap G) (hG : G.length ≤ 100) {n : Nat} (h : n ≤ 6) : readPlain (made (ltexts.take n) G 0 (-1)) = if 2 ≤ n then some (lvals.take n, 1) else none := by
  unfold readPlain
  rw [loose_doc hg hG h]
  have hm : ((lvals.take n).map fun V => (V, ([] : List Nat))).map Prod.fst = lvals.take n := by rw [List.map_map]; exact List.map_id _
  simp only [hm]
  by_cases h2 : 2 ≤ n
  · rw [if_pos h2, if_pos (ldoc n h2 h)]
  · rw [if_neg h2, if_neg]
    match n, h2 with
    | 0, _ => decide
    | 1, _ => rw [ldoc1]; decide
    | n + 2, h2 => omega
theorem loose_wrong {G : List Nat} (hg : Gap G) (hG : G.length ≤ 100) {n : Nat} (h : n ≤ 6) {off k : Int} (ho : off = 1 ∨ off = -1) (h0 : 0 ≤ k) (hk : k < (n : Int)) : document (made (ltexts.take n) G off k) = none :=
  document_wrong hg (ltell n) (by rw [llen h]; omega) ho h0 (by rw [llen h]; exact hk) (lobjs hG h)
end Fo
end Go.Proofs.YtgkljcmjnphpeaaGreatDoor
namespace Go.Proofs.YtgkljcmjnphpeaaGreatDoor
open Go.RowKit
variable {w w' w0 : World}
def lcells : Array Value := #[.string { data := #[60, 60, 47, 65, 32, 91, 49, 32, 50, 32, 48, 32, 82, 32, 116, 114, 117, 101, 93, 47, 66, 40, 120, 41, 62, 62] }, .string { data := #[91, 47, 78, 32, 49, 46, 53, 32, 110, 117, 108, 108, 93] }, .string { data := #[45, 55] }, .string { data := #[40, 97, 41] }, .string { data := #[60, 52, 49, 62] }, .string { data := #[50, 32, 48, 32, 82] }]
theorem lcells_at : ∀ (i : Nat) (x : List Nat), Fo.ltexts[i]? = some x → lcells[i]? = some (.string (strN x))
  | 0, x, h => by cases h; rfl
  | 1, x, h => by cases h; rfl
  | 2, x, h => by cases h; rfl
  | 3, x, h => by cases h; rfl
  | 4, x, h => by cases h; rfl
  | 5, x, h => by cases h; rfl
  | n + 6, x, h => by simp [Fo.ltexts] at h
theorem blk_new' {w : World} {g : Nat} {c : Array Value} {e : TypeId} {f : Nat × Nat} (h : g = w.heap.size) : (w.alloc (.cells c e f)).heap[g]? = some (.cells c e f) := by subst h; exact blk_new _ _
/-- The error that a reading ends with. -/
theorem ReadRes.err {w w' : World} {o : Option (List (VT 12) × Int)} {e : Ending} (h : ReadRes w o e w') : ∃ ov r, e = .returned (.tuple #[.agg #[ov, .int .i64 r], .int .i64 (if o.isSome then 0 else 4)]) ∧ (∃ a n c, ov = .slice a n c) ∧ Below w.heap.size w w' := by
  obtain ⟨b, h⟩ := h
  cases o with
  | none => exact ⟨_, _, h, ⟨none, 0, 0, rfl⟩, b⟩
  | some z =>
    obtain ⟨ov, e1, hv⟩ := h
    obtain ⟨a, c, e2⟩ := hv.len
    exact ⟨_, _, e1, ⟨a, _, c, e2⟩, b⟩
theorem lkeys : ∀ V ∈ Fo.lvals, KeysOk V := fun V hV => by
  have leaf : ∀ (k kd : Nat) (n : Int) (p : Nat) (t : List Nat), KeysOk (k := k + 1) (leafN (VT k) kd n p t) := fun k kd n p t => ⟨Or.inl rfl, fun z hz => by cases hz⟩
  rcases List.mem_cons.1 hV with rfl | hV
  · refine ⟨Or.inr (Nat.le_refl 2), fun y hy => ?_⟩
    rcases List.mem_cons.1 hy with rfl | hy
    · refine ⟨Or.inl rfl, fun z hz => ?_⟩
      rcases List.mem_cons.1 hz with rfl | hz
      · exact leaf 9 _ _ _ _
      rcases List.mem_cons.1 hz with rfl | hz
      · exact leaf 9 _ _ _ _
      rcases List.mem_cons.1 hz with rfl | hz
      · exact leaf 9 _ _ _ _
      cases hz
    rcases List.mem_cons.1 hy with rfl | hy
    · exact leaf 10 _ _ _ _
    cases hy
  rcases List.mem_cons.1 hV with rfl | hV
  · refine ⟨Or.inl rfl, fun y hy => ?_⟩
    rcases List.mem_cons.1 hy with rfl | hy
    · exact leaf 10 _ _ _ _
    rcases List.mem_cons.1 hy with rfl | hy
    · exact leaf 10 _ _ _ _
    rcases List.mem_cons.1 hy with rfl | hy
    · exact leaf 10 _ _ _ _
    cases hy
  rcases List.mem_cons.1 hV with rfl | hV
  · exact leaf 11 _ _ _ _
  rcases List.mem_cons.1 hV with rfl | hV
  · exact leaf 11 _ _ _ _
  rcases List.mem_cons.1 hV with rfl | hV
  · exact leaf 11 _ _ _ _
  rcases List.mem_cons.1 hV with rfl | hV
  · exact leaf 11 _ _ _ _
  cases hV
theorem loose_want {wz : World} {b : Nat} (z1 : wz.heap[b + 1]? = some (.cells #[.string { data := #[65] }, .string { data := #[66] }] 9 (0, 0))) (z2 : wz.heap[b + 1 + 1]? = some (.cells #[.int .i64 2, .int .i64 1, .int .i64 0, .string { data := #[] }, .slice none 0 0, .slice none 0 0, .slice none 0 0, .int .i64 9, .int .i64 2, .int .i64 0, .string { data := #[] }, .slice none 0 0, .slice none 0 0, .slice none 0 0, .int .i64 1, .int .i64 1, .int .i64 0, .string { data := #[] }, .slice none 0 0, .slice none 0 0, .slice none 0 0] 67 (0, 0))) (z3 : wz.heap[b + 1 + 1 + 1]? = some (.cells #[.int .i64 6, .int .i64 0, .int .i64 0, .string { data := #[] }, .slice (some ⟨b + 1 + 1, 0, none⟩) 3 3, .slice none 0 0, .slice none 0 0, .int .i64 5, .int .i64 0, .int .i64 0, .string { data := #[120] }, .slice none 0 0, .slice none 0 0, .slice none 0 0] 67 (0, 0))) (z4 : wz.heap[b + 1 + 1 + 1 + 1]? = some (.cells #[.int .i64 4, .int .i64 0, .int .i64 0, .string { data := #[78] }, .slice none 0 0, .slice none 0 0, .slice none 0 0, .int .i64 3, .int .i64 15, .int .i64 1, .string { data := #[] }, .slice none 0 0, .slice none 0 0, .slice none 0 0, .int .i64 0, .int .i64 0, .int .i64 0, .string { data := #[] }, .slice none 0 0, .slice none 0 0, .slice none 0 0] 67 (0, 0))) (z5 : wz.heap[b + 1 + 1 + 1 + 1 + 1]? = some (.cells #[.int .i64 7, .int .i64 0, .int .i64 0, .string { data := #[] }, .slice (some ⟨b + 1 + 1 + 1, 0, none⟩) 2 2, .slice (some ⟨b + 1, 0, none⟩) 2 2, .slice none 0 0, .int .i64 6, .int .i64 0, .int .i64 0, .string { data := #[] }, .slice (some ⟨b + 1 + 1 + 1 + 1, 0, none⟩) 3 3, .slice none 0 0, .slice none 0 0, .int .i64 2, .int .i64 (-7), .int .i64 0, .string { data := #[] }, .slice none 0 0, .slice none 0 0, .slice none 0 0, .int .i64 5, .int .i64 0, .int .i64 0, .string { data := #[97] }, .slice none 0 0, .slice none 0 0, .slice none 0 0, .int .i64 5, .int .i64 0, .int .i64 0, .string { data := #[65] }, .slice none 0 0, .slice none 0 0, .slice none 0 0, .int .i64 9, .int .i64 2, .int .i64 0, .string { data := #[] }, .slice none 0 0, .slice none 0 0, .slice none 0 0] 67 (0, 0))) :
    Vals (fun _ => True) 12 0 Fo.lvals wz (.slice (some ⟨b + 1 + 1 + 1 + 1 + 1, 0, none⟩) 6 6) := by
  refine lit_vals (xs := [nodeVal (show Node (VT 11) from Fo.lv1) (.slice (some ⟨b + 1 + 1 + 1, 0, none⟩) 2 2) (.slice (some ⟨b + 1, 0, none⟩) 2 2) (.slice none 0 0), nodeVal (show Node (VT 11) from Fo.lv2) (.slice (some ⟨b + 1 + 1 + 1 + 1, 0, none⟩) 3 3) (.slice none 0 0) (.slice none 0 0), .agg #[.int .i64 2, .int .i64 (-7), .int .i64 0, .string { data := #[] }, .slice none 0 0, .slice none 0 0, .slice none 0 0], .agg #[.int .i64 5, .int .i64 0, .int .i64 0, .string { data := #[97] }, .slice none 0 0, .slice none 0 0, .slice none 0 0], .agg #[.int .i64 5, .int .i64 0, .int .i64 0, .string { data := #[65] }, .slice none 0 0, .slice none 0 0, .slice none 0 0], .agg #[.int .i64 9, .int .i64 2, .int .i64 0, .string { data := #[] }, .slice none 0 0, .slice none 0 0, .slice none 0 0]]) z5 (by decide) (by decide) rfl rfl rfl ⟨?_, ?_, VIn.leaf 11 2 (-7) 0 [], VIn.leaf 11 5 0 0 [97], VIn.leaf 11 5 0 0 [65], VIn.leaf 11 9 2 0 [], trivial⟩
  · refine lit_in (V := (show Node (VT 11) from Fo.lv1)) (vs := [nodeVal (show Node (VT 10) from Fo.lv1a) (.slice (some ⟨b + 1 + 1, 0, none⟩) 3 3) (.slice none 0 0) (.slice none 0 0), .agg #[.int .i64 5, .int .i64 0, .int .i64 0, .string { data := #[120] }, .slice none 0 0, .slice none 0 0, .slice none 0 0]]) rfl (lit_row z3 (by decide) (by decide) rfl rfl) ⟨?_, VIn.leaf 10 5 0 0 [120], trivial⟩ (lit_row z1 (by decide) (by decide) rfl rfl) (World.ownsRow_nil _ _ _ _)
    exact lit_in (V := (show Node (VT 10) from Fo.lv1a)) (vs := [.agg #[.int .i64 2, .int .i64 1, .int .i64 0, .string { data := #[] }, .slice none 0 0, .slice none 0 0, .slice none 0 0], .agg #[.int .i64 9, .int .i64 2, .int .i64 0, .string { data := #[] }, .slice none 0 0, .slice none 0 0, .slice none 0 0], .agg #[.int .i64 1, .int .i64 1, .int .i64 0, .string { data := #[] }, .slice none 0 0, .slice none 0 0, .slice none 0 0]]) rfl (lit_row z2 (by decide) (by decide) rfl rfl) ⟨VIn.leaf 9 2 1 0 [], VIn.leaf 9 9 2 0 [], VIn.leaf 9 1 1 0 [], trivial⟩ (World.ownsRow_nil _ _ _ _) (World.ownsRow_nil _ _ _ _)
  · exact lit_in (V := (show Node (VT 11) from Fo.lv2)) (vs := [.agg #[.int .i64 4, .int .i64 0, .int .i64 0, .string { data := #[78] }, .slice none 0 0, .slice none 0 0, .slice none 0 0], .agg #[.int .i64 3, .int .i64 15, .int .i64 1, .string { data := #[] }, .slice none 0 0, .slice none 0 0, .slice none 0 0], .agg #[.int .i64 0, .int .i64 0, .int .i64 0, .string { data := #[] }, .slice none 0 0, .slice none 0 0, .slice none 0 0]]) rfl (lit_row z4 (by decide) (by decide) rfl rfl) ⟨VIn.leaf 10 4 0 0 [78], VIn.leaf 10 3 15 1 [], VIn.leaf 10 0 0 0 [], trivial⟩ (World.ownsRow_nil _ _ _ _) (World.ownsRow_nil _ _ _ _)
end Go.Proofs.YtgkljcmjnphpeaaGreatDoor
