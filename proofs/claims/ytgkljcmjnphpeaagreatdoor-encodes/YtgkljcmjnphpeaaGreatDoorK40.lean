/- What the listed variable reads as at the start, for the program's hands. -/
import Derived.Test.YtgkljcmjnphpeaaGreatDoorK39
import Derived.Test.YtgkljcmjnphpeaaGreatDoorK09
import Derived.Test.YtgkljcmjnphpeaaGreatDoorRows
import Derived.ProofKit
import Derived.LaidMore
import Derived.OpenShut
import Derived.Stop.Joined
import Derived.SizedLaws
import Derived.ChangeMaps5
import Derived.Lib.LaidTab
import Derived.MakeChecks
set_option linter.unusedVariables false
set_option linter.unusedSimpArgs false
namespace Go.Proofs.YtgkljcmjnphpeaaGreatDoor
open Go.RowKit
variable {w : World}
/-- What Encode answers. -/
def EncRes (W : World) (out : List Nat) (e : Ending) (w' : World) : Prop := ∃ v, e = .returned (.tuple #[v, .int .i64 0]) ∧ w'.ownsRow W.heap.size 5 1 v out.length (out.map fun x : Nat => .int .u8 (x : Int)) ∧ Below W.heap.size W w'
/-- A row of bytes stands while a region comes up. -/
def SRow (B : Nat) (v : Value) (out : List Nat) (T : ByteArray) (_ : Array Bool) (W : World) : Prop := W.ownsRow B 5 1 v out.length (out.map fun x : Nat => .int .u8 (x : Int)) ∧ strN out = T
theorem SRow.conv {B : Nat} {v : Value} {out : List Nat} {T : ByteArray} {L : Array Bool} {W : World} (h : SRow B v out T L W) : (convert 23 9 v).run Tryz.prog W = .ok (.string T) W := by
  rw [← h.2]; exact string_own h.1
theorem SRow.below {B : Nat} {v : Value} {out : List Nat} {T : ByteArray} {L L' : Array Bool} {W W' : World} (h : SRow B v out T L W) (b : Below W.heap.size W W') : SRow B v out T L' W' := ⟨own_below h.1 b, h.2⟩
set_option maxRecDepth 100000 in
set_option maxHeartbeats 1000000 in
theorem done_gen (f : Nat) (h1 : 1 ≤ f) (h3 : f ≤ 3) (S : ByteArray) (hS : S.size ≤ 200000) {out : List Nat}
    (hD : ∀ (W : World) (g : Nat), Below w.heap.size w W → W.heap[g]? = some (.cells (u8s (lentB S)).toArray 5 (0, 0)) → Calls Tryz.prog 33 #[.int .i64 f, .slice (some ⟨g, 0, none⟩) S.size (S.size + 8)] W (EncRes W out))
    (hR : ∀ W : World, Calls Tryz.prog 36 #[.int .i64 f, .string S] W fun x w' => x = .returned (.string (strN out)) ∧ Below W.heap.size W w') :
    Calls Tryz.prog 13 #[.int .i64 f, .string S] w fun e w' => ∃ v B, e = .returned (.tuple #[v, .bool true]) ∧ SRow B v out (strN out) #[] w' ∧ Below w.heap.size w w' := by
  have HD := hide hD
  have HR := hide hR
  clear hD hR
  have hSN : (S.size : Int) ≤ (S.size : Int) + 8 := by omega
  have hf1 : ¬ (f : Int) < 1 := by omega
  have hf4 : ¬ (4 : Int) < (f : Int) := by omega
  have hf3 : (f : Int) < 4 := by omega
  have hS' : ¬ (200000 : Int) < S.size := by omega
  generalize hT : strN out = T at *
  have HT := hide hT
  clear hT
  go_enter Tryz.func13, Tryz.ntmps13
  go_wp2_with fail
  refine (lent_ok S (by omega)).mono ?_
  rintro e w1 ⟨g, rfl, hg, b1, hgw⟩
  have hg1 := lt_of_block hg
  have HD1 := hide (HD.out w1 g b1 hg)
  go_wp2_with fail
  refine HD1.out.mono ?_
  rintro e w2 ⟨v, rfl, ho2, b2⟩
  obtain ⟨ao, oc, rfl⟩ := own_slice ho2
  have hg2 : w2.heap[g]? = some (.cells (u8s (lentB S)).toArray 5 (0, 0)) := by rw [b2.block _ hg1]; exact hg
  have HK := hide (kept_law S (by omega) g hg2)
  clear HD1 HD
  go_wp2_with fail
  refine HK.out.mono ?_
  rintro e w3 ⟨rfl, k3⟩
  have ho3 := own_keptG ho2 k3 hg1
  have hcv0 := string_own ho3
  rw [HT.out] at hcv0
  have hB : Hid (Below w.heap.size w w3) := by
    refine (b1.trans (b2.mono b1.size)).trans ?_
    have z3 := k3.size
    have z2 := b2.size
    have z1 := b1.size
    exact ⟨k3.os, k3.tape, k3.output, z3, fun k hk => by
      cases hk2 : w2.heap[k]? with
      | none => simp at hk2; omega
      | some o => exact k3.block k o (by simp; omega) hk2 (Or.inl (by omega))⟩
  clear b1 b2 k3 ho2 HK hg hg2
  have hS0 : Hid (SRow w1.heap.size (.slice ao out.length oc) out T (Array.replicate 17 false) w3.drew) := ⟨World.ownsRow.drew ho3, HT.out⟩
  have hsz3 : Hid (w.heap.size ≤ w3.heap.size) := hB.out.size
  clear hcv0 ho3 HT
  generalize w1.heap.size = B1 at *
  generalize hnn : out.length = n at *
  have HNN := hide hnn
  clear hnn
  go_wp2_with fail
  refine wp_region_T (SRow B1 (.slice ao n oc) out T) (by kernel_rfl) ?_
  intro hD
  have hS := hS0.out
  clear hS0
  refine wpAnyT_take (i := 0) (v := ?_) rfl (by kernel_rfl) (by kernel_rfl) (by kernel_rfl) (fun _ _ _ h => h) (fun _ _ h => h) (fun _ _ h => h) hD (Or.inl ⟨by rfl, ?_⟩) hS ?_
  rotate_left
  · intro W hW; go_simp; try (with_reducible rfl)
  clear hD hS; intro hD hS; (try simp only [Act.put, List.setIfInBounds_toArray, List.set_cons_zero, List.set_cons_succ])
  refine wpAnyT_take (i := 1) (v := ?_) rfl (by kernel_rfl) (by kernel_rfl) (by kernel_rfl) (fun _ _ _ h => h) (fun _ _ h => h) (fun _ _ h => h) hD (Or.inl ⟨by rfl, ?_⟩) hS ?_
  rotate_left
  · intro W hW; go_simp; try (with_reducible rfl)
  clear hD hS; intro hD hS; (try simp only [Act.put, List.setIfInBounds_toArray, List.set_cons_zero, List.set_cons_succ])
  refine wpAnyT_take (i := 2) (v := ?_) rfl (by kernel_rfl) (by kernel_rfl) (by kernel_rfl) (fun _ _ _ h => h) (fun _ _ h => h) (fun _ _ h => h) hD (Or.inl ⟨by rfl, ?_⟩) hS ?_
  rotate_left
  · intro W hW; go_simp; try (with_reducible rfl)
  clear hD hS; intro hD hS; (try simp only [Act.put, List.setIfInBounds_toArray, List.set_cons_zero, List.set_cons_succ])
  refine wpAnyT_take (i := 3) (v := ?_) rfl (by kernel_rfl) (by kernel_rfl) (by kernel_rfl) (fun _ _ _ h => h) (fun _ _ h => h) (fun _ _ h => h) hD (Or.inl ⟨by rfl, ?_⟩) hS ?_
  rotate_left
  · intro W hW; go_simp; try (with_reducible rfl)
  clear hD hS; intro hD hS; (try simp only [Act.put, List.setIfInBounds_toArray, List.set_cons_zero, List.set_cons_succ])
  refine wpAnyT_one (i := 4) (by kernel_rfl) rfl hD (fun K' hK => ?_)
  go_simp
  refine (num_ok _ _).mono ?_
  rintro e w' ⟨rfl, rfl⟩
  refine hK.out _ _ hS (fun hD2 hS2 => ?_)
  clear hD hS hK K'
  have hD := hD2
  have hS := hS2
  clear hD2 hS2
  (try simp only [Act.put, List.setIfInBounds_toArray, List.set_cons_zero, List.set_cons_succ])
  refine wpAnyT_take (i := 5) (v := ?_) rfl (by kernel_rfl) (by kernel_rfl) (by kernel_rfl) (fun _ _ _ h => h) (fun _ _ h => h) (fun _ _ h => h) hD (Or.inl ⟨by rfl, ?_⟩) hS ?_
  rotate_left
  · intro W hW; go_simp; try (with_reducible rfl)
  clear hD hS; intro hD hS; (try simp only [Act.put, List.setIfInBounds_toArray, List.set_cons_zero, List.set_cons_succ])
  refine wpAnyT_take (i := 6) (v := ?_) rfl (by kernel_rfl) (by kernel_rfl) (by kernel_rfl) (fun _ _ _ h => h) (fun _ _ h => h) (fun _ _ h => h) hD (Or.inl ⟨by rfl, ?_⟩) hS ?_
  rotate_left
  · intro W hW; go_simp; try (with_reducible rfl)
  clear hD hS; intro hD hS; (try simp only [Act.put, List.setIfInBounds_toArray, List.set_cons_zero, List.set_cons_succ])
  refine wpAnyT_take (i := 7) (v := ?_) rfl (by kernel_rfl) (by kernel_rfl) (by kernel_rfl) (fun _ _ _ h => h) (fun _ _ h => h) (fun _ _ h => h) hD (Or.inl ⟨by rfl, ?_⟩) hS ?_
  rotate_left
  · intro W hW; go_simp; try (with_reducible rfl)
  clear hD hS; intro hD hS; (try simp only [Act.put, List.setIfInBounds_toArray, List.set_cons_zero, List.set_cons_succ])
  refine wpAnyT_take (i := 8) (v := ?_) rfl (by kernel_rfl) (by kernel_rfl) (by kernel_rfl) (fun _ _ _ h => h) (fun _ _ h => h) (fun _ _ h => h) hD (Or.inl ⟨by rfl, ?_⟩) hS ?_
  rotate_left
  · intro W hW; go_simp; try (with_reducible rfl)
  clear hD hS; intro hD hS; (try simp only [Act.put, List.setIfInBounds_toArray, List.set_cons_zero, List.set_cons_succ])
  refine wpAnyT_take (i := 9) (v := ?_) rfl (by kernel_rfl) (by kernel_rfl) (by kernel_rfl) (fun _ _ _ h => h) (fun _ _ h => h) (fun _ _ h => h) hD (Or.inl ⟨by rfl, ?_⟩) hS ?_
  rotate_left
  · intro W hW; obtain ⟨_, _, _, f0⟩ := hW; have f1 := f0.conv; go_simp; try (with_reducible rfl)
  clear hD hS; intro hD hS; (try simp only [Act.put, List.setIfInBounds_toArray, List.set_cons_zero, List.set_cons_succ])
  refine wpAnyT_take (i := 10) (v := ?_) rfl (by kernel_rfl) (by kernel_rfl) (by kernel_rfl) (fun _ _ _ h => h) (fun _ _ h => h) (fun _ _ h => h) hD (Or.inl ⟨by rfl, ?_⟩) hS ?_
  rotate_left
  · intro W hW; go_simp; try (with_reducible rfl)
  clear hD hS; intro hD hS; (try simp only [Act.put, List.setIfInBounds_toArray, List.set_cons_zero, List.set_cons_succ])
  refine wpAnyT_take (i := 11) (v := ?_) rfl (by kernel_rfl) (by kernel_rfl) (by kernel_rfl) (fun _ _ _ h => h) (fun _ _ h => h) (fun _ _ h => h) hD (Or.inl ⟨by rfl, ?_⟩) hS ?_
  rotate_left
  · intro W hW; go_simp; try (with_reducible rfl)
  clear hD hS; intro hD hS; (try simp only [Act.put, List.setIfInBounds_toArray, List.set_cons_zero, List.set_cons_succ])
  refine wpAnyT_one (i := 12) (by kernel_rfl) rfl hD (fun K' hK => ?_)
  go_simp
  refine (HR.out _).mono ?_
  rintro e w4 ⟨rfl, b4⟩
  refine hK.out _ _ (SRow.below hS b4) (fun hD2 hS2 => ?_)
  clear hD hS hK K'
  have hD := hD2
  have hS := hS2
  clear hD2 hS2
  (try simp only [Act.put, List.setIfInBounds_toArray, List.set_cons_zero, List.set_cons_succ])
  refine wpAnyT_take (i := 13) (v := ?_) rfl (by kernel_rfl) (by kernel_rfl) (by kernel_rfl) (fun _ _ _ h => h) (fun _ _ h => h) (fun _ _ h => h) hD (Or.inl ⟨by rfl, ?_⟩) hS ?_
  rotate_left
  · intro W hW; go_simp; try (with_reducible rfl)
  clear hD hS; intro hD hS; (try simp only [Act.put, List.setIfInBounds_toArray, List.set_cons_zero, List.set_cons_succ, List.getElem_toArray, List.getElem_cons_succ, List.getElem_cons_zero])
  refine wpAnyT_take (i := 14) (v := ?_) rfl (by kernel_rfl) (by kernel_rfl) (by kernel_rfl) (fun _ _ _ h => h) (fun _ _ h => h) (fun _ _ h => h) hD (Or.inl ⟨by rfl, ?_⟩) hS ?_
  rotate_left
  · intro W hW; go_simp; try (with_reducible rfl)
  clear hD hS; intro hD hS; (try simp only [Act.put, List.setIfInBounds_toArray, List.set_cons_zero, List.set_cons_succ, List.getElem_toArray, List.getElem_cons_succ, List.getElem_cons_zero])
  refine wpAnyT_take (i := 15) (v := ?_) rfl (by kernel_rfl) (by kernel_rfl) (by kernel_rfl) (fun _ _ _ h => h) (fun _ _ h => h) (fun _ _ h => h) hD (Or.inl ⟨by rfl, ?_⟩) hS ?_
  rotate_left
  · intro W hW; go_simp; try (with_reducible rfl)
  clear hD hS; intro hD hS; (try simp only [Act.put, List.setIfInBounds_toArray, List.set_cons_zero, List.set_cons_succ, List.getElem_toArray, List.getElem_cons_succ, List.getElem_cons_zero])
  refine wpAnyT_take (i := 16) (v := ?_) rfl (by kernel_rfl) (by kernel_rfl) (by kernel_rfl) (fun _ _ _ h => h) (fun _ _ h => h) (fun _ _ h => h) hD (Or.inl ⟨by rfl, ?_⟩) hS ?_
  rotate_left
  · intro W hW; go_simp; try (with_reducible rfl)
  clear hD hS; intro hD hS; (try simp only [Act.put, List.setIfInBounds_toArray, List.set_cons_zero, List.set_cons_succ, List.getElem_toArray, List.getElem_cons_succ, List.getElem_cons_zero])
  refine wpAnyT_done (by kernel_rfl) ?_ _
  have hcv : Hid (SRow B1 (.slice ao n oc) out T #[] w4) := hS
  clear hD hS
  go_wp2
  go_ret2
  exact ⟨_, B1, rfl, hcv.out, hB.out.trans ⟨b4.os, b4.tape, b4.output, b4.size, fun k hk => b4.block k (Nat.lt_of_lt_of_le hk hsz3.out)⟩⟩
end Go.Proofs.YtgkljcmjnphpeaaGreatDoor
namespace Go.Proofs.YtgkljcmjnphpeaaGreatDoor
open Go.RowKit
variable {w : World}
theorem lent_dat {W : World} {S : ByteArray} {g : Nat} (hg : W.heap[g]? = some (.cells (u8s (lentB S)).toArray 5 (0, 0))) : Dat W W.heap.size (some ⟨g, 0, none⟩) (bl S) :=
  fun i hi => ⟨g, 0, rfl, lt_of_block hg, lent_cells hg i hi⟩
theorem done_hex (S : ByteArray) (hS : S.size ≤ 200000) :
    Calls Tryz.prog 13 #[.int .i64 1, .string S] w fun e w' => ∃ v B, e = .returned (.tuple #[v, .bool true]) ∧ SRow B v (Fo.hexOf (bl S) ++ [62]) (strN (Fo.hexOf (bl S) ++ [62])) #[] w' ∧ Below w.heap.size w w' := by
  refine done_gen 1 (by omega) (by omega) S hS (fun W g b hg => ?_) (fun W => (rdo_hex S hS).mono ?_)
  · have h := encode1_ok (w := W) (cap := S.size + 8) (lent_dat hg) (Nat.le_refl _) (fun i hi => by rw [bl_len] at hi; exact bl_lt S i hi) (by rw [bl_len]; exact hS)
    rw [bl_len] at h
    refine h.mono ?_
    rintro e w' ⟨v, rfl, h1, h2⟩
    refine ⟨v, rfl, ?_, h2⟩
    have hl : (Fo.hexOf (bl S) ++ [62]).length = 2 * (bl S).length + 1 := by simp [Fo.hexOf_length]
    rw [hl]; exact h1
  · rintro x w' ⟨rfl, k⟩
    exact ⟨rfl, k.below (Nat.le_refl _) (by simp)⟩
/-- The document's example of filter 4. -/
def exD : List Nat := [120, 156, 75, 4, 0, 0, 98, 0, 98]
theorem ex_a : Fo.part Fo.fixedC 32768 9 ((Fo.bitsOf exD).drop 19) [] = .ok (true, (Fo.bitsOf exD).drop 27, [97]) := by kernel_rfl
theorem ex_b : Fo.part Fo.fixedC 32768 9 ((Fo.bitsOf exD).drop 27) [97] = .ok (false, (Fo.bitsOf exD).drop 34, [97]) := by kernel_rfl
theorem ex_undo : UndoTo 4 9 exD (.ok [97]) := by
  refine Or.inr (Or.inr (Or.inr ⟨rfl, Or.inr ⟨(Fo.bitsOf exD).drop 34, [97], Or.inr ⟨?_, ?_⟩, ?_⟩⟩))
  · exact ⟨by decide +kernel, by unfold Fo.headGood; decide +kernel⟩
  · have e : 2 ^ (Fo.val ((Fo.bitsOf exD).take 8) / 16 + 8) = 32768 := by decide +kernel
    rw [e]
    refine Fo.BlocksTo.stop (Or.inr (Or.inr (Or.inl ⟨by decide +kernel, by decide +kernel, ?_⟩))) (by decide +kernel)
    exact Fo.PartsTo.more ex_a (Fo.PartsTo.stop ex_b)
  · kernel_rfl
end Go.Proofs.YtgkljcmjnphpeaaGreatDoor
namespace Go.Proofs.YtgkljcmjnphpeaaGreatDoor
open Go.RowKit
variable {w : World}
theorem OrdW.below {w w' : World} (h : OrdW w) (hG : 1 < w.heap.size) (b : Below w.heap.size w w') : OrdW w' := fun i hi => by rw [b.cell (p := ⟨1, i, none⟩) hG]; exact h i hi
theorem ex_one : bl { data := #[72, 105] } = [72, 105] := by decide
theorem ex_oneS : strN (Fo.hexOf [72, 105] ++ [62]) = { data := #[52, 56, 54, 57, 62] } := by rfl
theorem ex_two : bl { data := #[120, 156, 75, 4, 0, 0, 98, 0, 98] } = exD := by decide
theorem ex_twoS : strN [97] = { data := #[97] } := by rfl
set_option maxRecDepth 100000 in
set_option maxHeartbeats 1000000 in
theorem lawOpened_ok (hord : OrdW w) (hG : 1 < w.heap.size) :
    Calls Tryz.prog 12 #[] w fun e w' => e = .returned (.bool true) ∧ Below w.heap.size w w' := by
  have HO := hide hord
  have HG := hide hG
  clear hord hG
  go_enter Tryz.func12, Tryz.ntmps12
  go_wp2_with fail
  refine (done_hex { data := #[72, 105] } (by decide)).mono ?_
  rintro e w1 ⟨v, B, rfl, s1, b1⟩
  rw [ex_one, ex_oneS] at s1
  have s1 := hide s1
  have HO1 : Hid (OrdW w1) := HO.out.below HG.out b1
  have HG1 : Hid (1 < w1.heap.size) := Nat.lt_of_lt_of_le HG.out b1.size
  have HU := hide (undone_right (w := w1) 4 9 (by omega) (by omega) (by omega) { data := #[120, 156, 75, 4, 0, 0, 98, 0, 98] } (by decide) HO1.out HG1.out (by rw [ex_two]; exact ex_undo))
  have B1 := hide b1
  clear b1 HO HG HO1 HG1
  go_wp2_with fail
  refine HU.out.mono ?_
  rintro e w2 ⟨v2, rfl, hc2, b2⟩
  have hc1 := (s1.out.below (L' := #[]) b2).conv
  rw [show resS (.ok [97]) = { data := #[97] } from ex_twoS] at hc2
  have HB := hide (B1.out.trans (b2.mono B1.out.size))
  clear s1 B1 b2 HU
  go_wp2
  go_ret
  exact ⟨rfl, HB.out⟩
theorem decodes_ok (f most : Int) (S : ByteArray) (hS : S.size ≤ 140737488351232) (hord : OrdW w) (hG : 1 < w.heap.size) :
    Calls Tryz.prog 4 #[.int .i64 f, .string S, .int .i64 most] w fun e w' => e = .returned (.bool true) ∧ Below w.heap.size w w' := by
  have HO := hide hord
  have HG := hide hG
  clear hord hG
  go_enter Tryz.func4, Tryz.ntmps4
  go_wp2_with fail
  refine (lawOpened_ok HO.out HG.out).mono ?_
  rintro e w1 ⟨rfl, b1⟩
  have HU := hide (undone_ok (w := w1) f most S hS (HO.out.below HG.out b1) (Nat.lt_of_lt_of_le HG.out b1.size))
  have B1 := hide b1
  clear b1 HO HG
  go_wp2_with fail
  refine HU.out.mono ?_
  rintro e w2 ⟨v2, rfl, b2⟩
  go_wp2
  go_ret
  exact ⟨rfl, B1.out.trans (b2.mono B1.out.size)⟩
end Go.Proofs.YtgkljcmjnphpeaaGreatDoor
namespace Go.Proofs.YtgkljcmjnphpeaaGreatDoor
open Go.ChangeShapes Go.WideShapes Go.ChangeAt Go.RowKit
theorem Tryz.own : ownKnob Tryz.prog.godebug = none := by kernel_rfl
theorem Tryz.gOrd : Tryz.prog.globalNamed "folio/filters.lengthOrder" = some 1 := by kernel_rfl
theorem Tryz.gOrdT : (Tryz.prog.globals[1]?).map (·.type) = some 285 := by kernel_rfl
theorem Tryz.cellsI : Tryz.prog.cellsOf 3 = 1 := by kernel_rfl
theorem Tryz.cellsO : Tryz.prog.cellsOf 285 = 19 := by kernel_rfl
/-- The listed variable, in memory. -/
theorem ord_of_laid {W : World} (hL : laidMetH Tryz.prog [("folio/filters.lengthOrder", Rows.laid_folio_filters_lengthOrder)] W) : OrdW W ∧ 1 < W.heap.size := by
  rw [MakeChecks.laidMetH_plain _ _ _ (by rfl)] at hL
  have hL' : laidMet Tryz.prog [("folio/filters.lengthOrder", Lib.tabData .i64 [16, 17, 18, 0, 8, 7, 9, 6, 10, 5, 11, 4, 12, 3, 13, 2, 14, 1, 15])] W := hL
  have hT := Lib.tabIs_of_head Tryz.gOrd Tryz.gOrdT Tryz.underlying285 Tryz.underlying3 Tryz.cellsI Tryz.cellsO hL'
  have hO : OrdW W := fun i hi => by
    rw [hT.cell Tryz.gOrd i hi]
    have key : ∀ j : Fin 19, ([16, 17, 18, 0, 8, 7, 9, 6, 10, 5, 11, 4, 12, 3, 13, 2, 14, 1, 15] : List Int).getD j.val 0 = (nth Fo.ordl j.val : Nat) := by decide
    rw [key ⟨i, hi⟩]
  exact ⟨hO, World.block_lt_of_cell? W _ (hO 0 (by omega))⟩
end Go.Proofs.YtgkljcmjnphpeaaGreatDoor
