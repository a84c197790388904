/- Arrays of a file. -/
import Derived.Test.YtgkljcmjnphpeaaGreatDoorK06
set_option linter.unusedVariables false
set_option linter.unusedSimpArgs false
namespace Go.Proofs.YtgkljcmjnphpeaaGreatDoor
open Go.RowKit
variable {w0 : World} {B bs cap K k : Nat} {ao : Option Addr} {data : List Nat} {x2 x3 x4 : Value} {w w' : World} {q r : List Nat} {iv kv : Value} {vs : List Value} {Vs : List (VT k)} {ks : List (List Nat)}
/-- What value comes to. -/
def VRes (B bs : Nat) (ao : Option Addr) (cap : Nat) (data : List Nat) (x2 x3 x4 : Value) (k : Nat) (o : Option (VT k × List Nat)) (w : World) (e : Ending) (w' : World) : Prop :=
  SRes B bs ao cap data x2 x3 x4 (fun w' V v => VIn (fun g => w.heap.size ≤ g) k w' v V) o w e w'
def ValueOk (B bs : Nat) (ao : Option Addr) (cap : Nat) (data : List Nat) (x2 x3 x4 : Value) (k : Nat) : Prop :=
  ∀ (W : World) (r : List Nat), ErrW B W → Sc B bs ao cap data x2 x3 x4 W r → Calls Tryz.prog 192 #[.pointer (some ⟨bs, 0, none⟩), .int .i64 (13 - k : Nat)] W (VRes B bs ao cap data x2 x3 x4 k (Fo.value k r) W)
/-- What has been read comes first. -/
def addV {α : Type} (Vs : List α) (o : Option (List α × List Nat)) : Option (List α × List Nat) := o.map fun x => (Vs ++ x.1, x.2)
theorem addV_cons {α : Type} (Vs : List α) (V : α) (o : Option (List α × List Nat)) : addV Vs (o.map fun x => (V :: x.1, x.2)) = addV (Vs ++ [V]) o := by
  cases o with
  | none => rfl
  | some x => simp [addV]
theorem Ar.start (h : Sc B bs ao cap data x2 x3 x4 w r) : Ar w B bs ao cap data x2 x3 x4 K k ((w.alloc (.cells zero7 67)).alloc (.cells #[.int .i64 (K : Int), .int .i64 0, .int .i64 0, .string { data := #[] }, .slice none 0 0, .slice none 0 0, .slice none 0 0] 67)) r (.slice none 0 0) [] [] (.slice none 0 0) [] := by
  have b : Below w.heap.size w ((w.alloc (.cells zero7 67)).alloc (.cells #[.int .i64 (K : Int), .int .i64 0, .int .i64 0, .string { data := #[] }, .slice none 0 0, .slice none 0 0, .slice none 0 0] 67)) := ((Below.refl _ _).alloc (Nat.le_refl _) _).alloc (by simp) _
  have hl := h.le
  have hn := h.len
  refine ⟨h.other b, .of_below b, h.lt, blk_alloc _ (blk_new _ _), ?_, World.ownsRow_nil _ _ _ _, World.ownsRow_nil _ _ _ _, rfl, fun i x y hx _ => by simp at hx, by simp only [List.length_nil]; omega, by simp only [List.length_nil]; omega⟩
  have := blk_new (w.alloc (.cells zero7 67)) (.cells #[.int .i64 (K : Int), .int .i64 0, .int .i64 0, .string { data := #[] }, .slice none 0 0, .slice none 0 0, .slice none 0 0] 67)
  simpa using this
theorem Ar.fin (h : Ar w0 B bs ao cap data x2 x3 x4 K k w q iv vs Vs kv ks) (o : Only w0.heap.size w w') :
    VIn (fun g => w0.heap.size ≤ g) (k + 1) w' (.agg #[.int .i64 (K : Int), .int .i64 0, .int .i64 0, .string { data := #[] }, iv, kv, .slice none 0 0]) (⟨K, 0, 0, [], Vs, ks, []⟩ : Node (VT k)) ∧ Sc B bs ao cap data x2 x3 x4 w' q ∧ Only bs w0 w' := by
  have hlt := h.lt
  have hsz := h.only.size
  have hBb := h.sc.hb
  have hrl := lt_of_block h.rb
  have hb : ∀ g, g < w.heap.size → g ≠ w0.heap.size → w'.heap[g]? = w.heap[g]? := fun g h1 h2 => o.block g h1 h2
  refine ⟨VIn.mono (k + 1) (VIn.keep (k + 1) h.val (fun g h1 h2 => hb g h2 (by omega))) (fun g h1 _ => by omega), ?_, ?_⟩
  · exact ⟨h.sc.hb, by rw [hb _ (by omega) (by omega)]; exact h.sc.blk, h.sc.dat.other (fun g hg => hb g (by omega) (by omega)), h.sc.byt, h.sc.len, h.sc.lc, h.sc.le, h.sc.suf, h.sc.ad⟩
  · exact ⟨o.os.trans h.only.os, o.tape.trans h.only.tape, o.output.trans h.only.output, Nat.le_trans hsz o.size, fun g h1 h2 => (hb g (by omega) (by omega)).trans (h.only.block g h1 h2)⟩
theorem getD_in {L : Array Bool} {i : Nat} (h : L.getD i true = false) : L.getD i false = false := by
  rcases Nat.lt_or_ge i L.size with c | c
  · simp [c] at h ⊢; exact h
  · simp [Nat.not_lt.2 c] at h
/-- What is known while an item comes up: where the list is. -/
def SItems (b : Nat) (iv : Value) (L : Array Bool) (W : World) : Prop := L.getD 9 false = false → W.cell? ⟨b, 4, none⟩ = some iv
theorem SItems.set {b i : Nat} {iv : Value} {L : Array Bool} {W : World} (hi : i ≠ 9) : SItems b iv L W ↔ SItems b iv (L.setIfInBounds i true) W := by
  unfold SItems
  rw [getD_set_ne false hi]
set_option maxRecDepth 100000 in
set_option maxHeartbeats 2000000 in
theorem sarray_ok (hk : k ≤ 11) (ih : ValueOk B bs ao cap data x2 x3 x4 k) (he : ErrW B w) (h : Sc B bs ao cap data x2 x3 x4 w r) :
    Calls Tryz.prog 252 #[.pointer (some ⟨bs, 0, none⟩), .int .i64 (12 - k : Nat)] w (VRes B bs ao cap data x2 x3 x4 (k + 1) ((Fo.arr (Fo.value k) (r.length + 1) r).map fun x => ((⟨6, 0, 0, [], x.1, [], []⟩ : Node (VT k)), x.2)) w) := by
  obtain ⟨i0, hi, hz0, hz1, hz2⟩ := info_parts infoValue
  have IH := hide ih
  have HE := hide he
  have H := hide h
  clear ih he h
  obtain ⟨R, hR⟩ : ∃ R, Fo.arr (Fo.value k) (r.length + 1) r = R := ⟨_, rfl⟩
  rw [hR]
  have HR : Hid (addV [] (Fo.arr (Fo.value k) (r.length + 1) r) = R) := by
    unfold Hid
    rw [← hR]; unfold addV
    cases Fo.arr (Fo.value k) (r.length + 1) r <;> simp
  clear hR
  go_enter Tryz.func252, Tryz.ntmps252
  go_wp2
  go_loopw [7] (fun _ wr => ∃ (m : Nat) (q : List Nat) (iv : Value) (vs : List Value) (Vs : List (VT k)), Hid (Ar w B bs ao cap data x2 x3 x4 6 k wr q iv vs Vs (.slice none 0 0) []) ∧ q.length < m ∧ Hid (addV Vs (Fo.arr (Fo.value k) m q) = R)) (fun _ wr => data.length - posS bs wr)
  case atStart => exact ⟨r.length + 1, r, .slice none 0 0, [], [], Ar.start H.out, by omega, HR⟩
  clear H HR
  case round =>
    obtain ⟨m, q, iv, vs, Vs, HA, hm, HR⟩ := hrel
    obtain ⟨m, rfl⟩ : ∃ m', m = m' + 1 := ⟨m - 1, by omega⟩
    have HPQ := hide HA.out.sc.posS
    have hqle := HA.out.sc.le
    have HM := hide (smark_ok HA.out.sc { data := #[93] } (by decide) (by decide))
    rw [bl_one, show (UInt8.toNat 93) = 93 from rfl] at HM
    have hsl := Fo.skip_len q
    cases ht : Fo.takes [93] (Fo.skip q) with
    | some q1 =>
      rw [ht] at HM
      have hq1 := (Fo.takes_len ht).1
      simp only [List.length_cons, List.length_nil] at hq1
      have HRE : Hid (R = some (Vs, q1)) := by unfold Hid; rw [← HR.out, Fo.arr, ht]; simp [addV]
      clear ht HR
      go_wp2_with fail
      refine HM.out.mono ?_
      rintro e w1 ⟨rfl, h1, k1⟩
      have H1 := hide (HA.out.step (show Sc B bs ao cap data x2 x3 x4 w1 q1 from h1) k1 (by omega))
      obtain ⟨ia, ic, hivs⟩ := own_slice H1.out.own
      subst hivs
      have hrb := H1.out.rb
      have hvb := H1.out.vb
      have v0 : w1.cell? ⟨w.heap.size + 1, 0, none⟩ = some (.int .i64 6) := by rw [cell_blk hvb]; rfl
      have v1 : w1.cell? ⟨w.heap.size + 1, 1, none⟩ = some (.int .i64 0) := by rw [cell_blk hvb]; rfl
      have v2 : w1.cell? ⟨w.heap.size + 1, 2, none⟩ = some (.int .i64 0) := by rw [cell_blk hvb]; rfl
      have v3 : w1.cell? ⟨w.heap.size + 1, 3, none⟩ = some (.string { data := #[] }) := by rw [cell_blk hvb]; rfl
      have v4 : w1.cell? ⟨w.heap.size + 1, 4, none⟩ = some (.slice ia vs.length ic) := by rw [cell_blk hvb]; rfl
      have v5 : w1.cell? ⟨w.heap.size + 1, 5, none⟩ = some (.slice none 0 0) := by rw [cell_blk hvb]; rfl
      have v6 : w1.cell? ⟨w.heap.size + 1, 6, none⟩ = some (.slice none 0 0) := by rw [cell_blk hvb]; rfl
      have r0 : w1.cell? ⟨w.heap.size, 0, none⟩ = some (.int .i64 0) := by rw [cell_blk hrb]; rfl
      have r1 : w1.cell? ⟨w.heap.size, 1, none⟩ = some (.int .i64 0) := by rw [cell_blk hrb]; rfl
      have r2 : w1.cell? ⟨w.heap.size, 2, none⟩ = some (.int .i64 0) := by rw [cell_blk hrb]; rfl
      have r3 : w1.cell? ⟨w.heap.size, 3, none⟩ = some (.string { data := #[] }) := by rw [cell_blk hrb]; rfl
      have r4 : w1.cell? ⟨w.heap.size, 4, none⟩ = some (.slice none 0 0) := by rw [cell_blk hrb]; rfl
      have r5 : w1.cell? ⟨w.heap.size, 5, none⟩ = some (.slice none 0 0) := by rw [cell_blk hrb]; rfl
      have r6 : w1.cell? ⟨w.heap.size, 6, none⟩ = some (.slice none 0 0) := by rw [cell_blk hrb]; rfl
      have f0 : w1.frozen? ⟨w.heap.size, 0, none⟩ = false := free_blk hrb
      have f1 : w1.frozen? ⟨w.heap.size, 1, none⟩ = false := free_blk hrb
      have f2 : w1.frozen? ⟨w.heap.size, 2, none⟩ = false := free_blk hrb
      have f3 : w1.frozen? ⟨w.heap.size, 3, none⟩ = false := free_blk hrb
      have f4 : w1.frozen? ⟨w.heap.size, 4, none⟩ = false := free_blk hrb
      have f5 : w1.frozen? ⟨w.heap.size, 5, none⟩ = false := free_blk hrb
      have f6 : w1.frozen? ⟨w.heap.size, 6, none⟩ = false := free_blk hrb
      have HF := hide (set7 hrb (.int .i64 6) (.int .i64 0) (.int .i64 0) (.string { data := #[] }) (.slice ia vs.length ic) (.slice none 0 0) (.slice none 0 0))
      have HO := hide (only7 w1 w.heap.size (.int .i64 6) (.int .i64 0) (.int .i64 0) (.string { data := #[] }) (.slice ia vs.length ic) (.slice none 0 0) (.slice none 0 0))
      clear h1 k1 HM hrb hvb
      go_wp2
      refine bodyPost_ret (v := .agg #[.int .i64 6, .int .i64 0, .int .i64 0, .string { data := #[] }, .slice ia vs.length ic, .slice none 0 0, .slice none 0 0]) ?_ rfl ?_
      · exact results_cell_row Tryz.results252 _ _ w.heap.size 67 _ _ _ rfl HF.out Tryz.underlying67 rfl (by kernel_rfl)
      obtain ⟨a1, a2, a3⟩ := H1.out.fin HO.out
      exact SRes.some_ (by rw [HRE.out]; rfl) a1 a2 a3
    | none =>
      rw [ht] at HM
      have HR1 : Hid (addV Vs (match Fo.value k (Fo.skip q) with | none => none | some (v, q) => (Fo.arr (Fo.value k) m q).map fun x => (v :: x.1, x.2)) = R) := by
        unfold Hid
        rw [← HR.out]
        conv => rhs; rw [Fo.arr, ht]
        cases Fo.value k (Fo.skip q) <;> rfl
      clear ht HR
      go_wp2_with fail
      refine HM.out.mono ?_
      rintro e w1 ⟨rfl, h1, k1⟩
      have H1 := hide (HA.out.step (show Sc B bs ao cap data x2 x3 x4 w1 (Fo.skip q) from h1) k1 hsl)
      clear h1 k1 HM
      have hvb := H1.out.vb
      have hcv : w1.cell? ⟨w.heap.size + 1, 4, none⟩ = some iv := by rw [cell_blk hvb]; rfl
      have HCV := hide hcv
      have HD1 : Hid (((12 - k : Nat) : Int) + 1 = ((13 - k : Nat) : Int)) := by unfold Hid; omega
      have h12 : 12 - k ≤ 12 := by omega
      have HV := hide (IH.out w1.drew (Fo.skip q) (HE.out.only HA.out.sc.hb (Nat.le_of_lt (Nat.lt_of_le_of_lt HA.out.sc.hb HA.out.lt)) (H1.out.drew.only)) H1.out.drew.sc)
      obtain ⟨ao1, c1, hiv⟩ := own_slice H1.out.own
      clear hcv hvb
      go_wp2_with fail
      refine wp_region_T (SItems (w.heap.size + 1) iv) (by kernel_rfl) ?_
      intro hD
      have hS : SItems (w.heap.size + 1) iv (Array.replicate 10 false) w1.drew := fun _ => HCV.out
      refine wpAnyT_take (i := 0) (v := ?_) rfl (by kernel_rfl) (by kernel_rfl) (by kernel_rfl) (fun _ _ _ h => h) (fun _ _ h => (SItems.set (by decide)).1 h) (fun _ _ h => (SItems.set (by decide)).2 h) hD (Or.inl ⟨by rfl, ?_⟩) hS ?_
      rotate_left
      · intro W hW; go_simp; try (with_reducible rfl)
      clear hD hS; intro hD hS; (try simp only [Act.put, List.setIfInBounds_toArray, List.set_cons_zero, List.set_cons_succ, List.getElem_toArray, List.getElem_cons_succ, List.getElem_cons_zero])
      refine wpAnyT_take (i := 1) (v := ?_) rfl (by kernel_rfl) (by kernel_rfl) (by kernel_rfl) (fun _ _ _ h => h) (fun _ _ h => (SItems.set (by decide)).1 h) (fun _ _ h => (SItems.set (by decide)).2 h) hD (Or.inl ⟨by rfl, ?_⟩) hS ?_
      rotate_left
      · intro W hW; obtain ⟨L, hDs, hL, hSL⟩ := hW; have hcl := hSL (by cases h9 : L.getD 9 false with | false => rfl | true => exact absurd (hDs.came 2 9 (by kernel_rfl) h9) (by rw [getD_in hL]; decide)); go_simp; try (with_reducible rfl)
      clear hD hS; intro hD hS; (try simp only [Act.put, List.setIfInBounds_toArray, List.set_cons_zero, List.set_cons_succ, List.getElem_toArray, List.getElem_cons_succ, List.getElem_cons_zero])
      refine wpAnyT_take (i := 2) (v := ?_) rfl (by kernel_rfl) (by kernel_rfl) (by kernel_rfl) (fun _ _ _ h => h) (fun _ _ h => (SItems.set (by decide)).1 h) (fun _ _ h => (SItems.set (by decide)).2 h) hD (Or.inl ⟨by rfl, ?_⟩) hS ?_
      rotate_left
      · intro W hW; go_simp; try (with_reducible rfl)
      clear hD hS; intro hD hS; (try simp only [Act.put, List.setIfInBounds_toArray, List.set_cons_zero, List.set_cons_succ, List.getElem_toArray, List.getElem_cons_succ, List.getElem_cons_zero])
      refine wpAnyT_take (i := 3) (v := ?_) rfl (by kernel_rfl) (by kernel_rfl) (by kernel_rfl) (fun _ _ _ h => h) (fun _ _ h => (SItems.set (by decide)).1 h) (fun _ _ h => (SItems.set (by decide)).2 h) hD (Or.inl ⟨by rfl, ?_⟩) hS ?_
      rotate_left
      · intro W hW; go_simp; try (with_reducible rfl)
      clear hD hS; intro hD hS; (try simp only [Act.put, List.setIfInBounds_toArray, List.set_cons_zero, List.set_cons_succ, List.getElem_toArray, List.getElem_cons_succ, List.getElem_cons_zero])
      refine wpAnyT_take (i := 4) (v := ?_) rfl (by kernel_rfl) (by kernel_rfl) (by kernel_rfl) (fun _ _ _ h => h) (fun _ _ h => (SItems.set (by decide)).1 h) (fun _ _ h => (SItems.set (by decide)).2 h) hD (Or.inl ⟨by rfl, ?_⟩) hS ?_
      rotate_left
      · intro W hW; go_simp; try (with_reducible rfl)
      clear hD hS; intro hD hS; (try simp only [Act.put, List.setIfInBounds_toArray, List.set_cons_zero, List.set_cons_succ, List.getElem_toArray, List.getElem_cons_succ, List.getElem_cons_zero])
      have HW1 : Hid (IntKind.i64.wrap (((12 - k : Nat) : Int) + 1) = ((13 - k : Nat) : Int)) := by unfold Hid; rw [IntKind.wrap_i64]; omega
      cases hv : Fo.value k (Fo.skip q) with
      | none =>
        rw [hv] at HV HR1
        have HE2 : Hid (R = none) := by unfold Hid; rw [← HR1.out]; rfl
        clear hv HR1
        refine wpAnyT_one (i := 5) (by kernel_rfl) rfl hD (fun K' hK => ?_)
        go_simp
        rw [HW1.out]
        refine HV.out.mono ?_
        rintro e w2 ⟨rfl, k2⟩
        exact ⟨rfl, SRes.none_ (by rw [HE2.out]; rfl) (H1.out.drew.only.trans k2)⟩
      | some x =>
        obtain ⟨V, q2⟩ := x
        rw [hv] at HV HR1
        have hqv := Fo.value_len hv
        have HR2 : Hid (addV (Vs ++ [V]) (Fo.arr (Fo.value k) m q2) = R) := by
          unfold Hid
          rw [← HR1.out]; exact (addV_cons _ _ _).symm
        clear hv HR1
        refine wpAnyT_one (i := 5) (by kernel_rfl) rfl hD (fun K' hK => ?_)
        go_simp
        rw [HW1.out]
        refine HV.out.mono ?_
        rintro e w2 ⟨v, rfl, hvi, h2, k2⟩
        have H2 := hide (H1.out.drew.step h2 k2 (by omega))
        have HC2 : Hid (w2.cell? ⟨w.heap.size + 1, 4, none⟩ = some iv) := by unfold Hid; rw [cell_blk H2.out.vb]; rfl
        have HVI := hide hvi
        have hVc := hvi.cells
        obtain ⟨a0, a1, a2, a3, a4, a5, a6, rfl⟩ : ∃ a0 a1 a2 a3 a4 a5 a6, v = .agg #[a0, a1, a2, a3, a4, a5, a6] := VIn.agg hvi
        have hs2 := h2.lt
        clear hvi h2 k2 HV
        refine hK.out _ _ (fun _ => HC2.out) (fun hD2 hS2 => ?_)
        clear hD hS hK K'
        have hD := hD2
        have hS := hS2
        clear hD2 hS2
        (try simp only [Act.put, List.setIfInBounds_toArray, List.set_cons_zero, List.set_cons_succ, List.getElem_toArray, List.getElem_cons_succ, List.getElem_cons_zero])
        refine wpAnyT_one (i := 6) (by kernel_rfl) rfl hD (fun K' hK => ?_)
        go_simp
        have H3 := hide (H2.out.alloc (.cells #[a0, a1, a2, a3, a4, a5, a6] 67))
        have HC3 : Hid ((w2.alloc (.cells #[a0, a1, a2, a3, a4, a5, a6] 67)).cell? ⟨w.heap.size + 1, 4, none⟩ = some iv) := by unfold Hid; rw [cell_blk H3.out.vb]; rfl
        refine hK.out _ _ (fun _ => HC3.out) (fun hD2 hS2 => ?_)
        clear hD hS hK K'
        have hD := hD2
        have hS := hS2
        clear hD2 hS2
        (try simp only [Act.put, List.setIfInBounds_toArray, List.set_cons_zero, List.set_cons_succ, List.getElem_toArray, List.getElem_cons_succ, List.getElem_cons_zero])
        refine wpAnyT_one (i := 7) (by kernel_rfl) rfl hD (fun K' hK => ?_)
        have hfew := H1.out.few
        have hsz := H2.out.only.size
        have hvl := lt_of_block H2.out.vb
        refine step_append_where rfl (.tmp 11) (.tmp 16) 29 rfl (w.heap.size + 2) 67 i0 _ 7 112 Tryz.underlying29 hi hz0 hz1 hz2 rfl (by decide) iv vs.length (vs.flatMap cellsOf) (by rw [hiv]; rfl) H3.out.own ⟨w2.heap.size, 0, none⟩ 1 1 [a0, a1, a2, a3, a4, a5, a6] rfl rfl ?hnews ?hone ?h63 ?hby ?hbs ?_
        case hnews =>
          intro j u hu
          rw [addr_add, cell_blk (blk_new w2 _)]
          simpa using hu
        case hone => exact hVc.2
        case h63 => unfold maxLen; omega
        case hby => omega
        case hbs => simp; omega
        intro v6 w6 own6 hg6 hw6
        have HX3 : Hid (VIn (fun g => w1.drew.heap.size ≤ g) k (w2.alloc (.cells #[a0, a1, a2, a3, a4, a5, a6] 67)) (.agg #[a0, a1, a2, a3, a4, a5, a6]) V) := VIn.keep k HVI.out (fun g _ hg => ((Below.refl w2.heap.size w2).alloc (Nat.le_refl _) _).block g hg)
        have H6 := hide (H3.out.item (S := w1.heap.size) (fun g hg => (H1.out.own.lt g hg).2) (fun g hg => by cases hg) (by have := lt_of_block H1.out.vb; omega) HX3.out own6 hg6 hw6 (by omega))
        have hv6 : w6.heap[w.heap.size + 1]? = some (.cells #[.int .i64 6, .int .i64 0, .int .i64 0, .string { data := #[] }, iv, .slice none 0 0, .slice none 0 0] 67 (0, 0)) := by
          rw [hg6.block _ (by have := lt_of_block H3.out.vb; exact this) (fun e => by have := (H3.out.own.lt _ e.symm).1; omega)]; exact H3.out.vb
        have hc6 : w6.cell? ⟨w.heap.size + 1, 4, none⟩ = some iv := by rw [cell_blk hv6]; rfl
        have hf6 : w6.frozen? ⟨w.heap.size + 1, 4, none⟩ = false := free_blk hv6
        obtain ⟨ao6, c6, hv6s⟩ := own_slice own6
        subst hv6s
        have HM6 := hide H6.out.sc.posS
        clear own6 hg6 hw6 hv6 H3 HX3 HVI HC3 HC2 H2 hVc
        refine hK.out _ _ (fun _ => hc6) (fun hD2 hS2 => ?_)
        clear hD hS hK K'
        have hD := hD2
        have hS := hS2
        clear hD2 hS2
        (try simp only [Act.put, List.setIfInBounds_toArray, List.set_cons_zero, List.set_cons_succ, List.getElem_toArray, List.getElem_cons_succ, List.getElem_cons_zero])
        refine wpAnyT_one (i := 8) (by kernel_rfl) rfl hD (fun K' hK => ?_)
        go_simp
        refine hK.out _ _ (fun _ => hc6) (fun hD2 hS2 => ?_)
        clear hD hS hK K'
        have hD := hD2
        have hS := hS2
        clear hD2 hS2
        (try simp only [Act.put, List.setIfInBounds_toArray, List.set_cons_zero, List.set_cons_succ, List.getElem_toArray, List.getElem_cons_succ, List.getElem_cons_zero])
        refine wpAnyT_one (i := 9) (by kernel_rfl) rfl hD (fun K' hK => ?_)
        go_simp
        refine hK.out _ _ (fun h9 => by cases h9) (fun hD2 hS2 => ?_)
        clear hD hS hK K'
        have hD := hD2
        have hS := hS2
        clear hD2 hS2
        (try simp only [Act.put, List.setIfInBounds_toArray, List.set_cons_zero, List.set_cons_succ, List.getElem_toArray, List.getElem_cons_succ, List.getElem_cons_zero])
        refine wpAnyT_done (by kernel_rfl) ?_ _
        clear hD hS hc6 hf6
        go_wp2
        go_roundw
        case rel => exact ⟨m, q2, _, _, _, H6, by omega, HR2⟩
        case measure =>
          rw [HPQ.out, HM6.out]
          omega
end Go.Proofs.YtgkljcmjnphpeaaGreatDoor
