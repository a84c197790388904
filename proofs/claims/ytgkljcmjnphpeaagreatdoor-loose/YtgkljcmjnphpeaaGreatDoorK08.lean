/- Numbers told in words: reals. -/
import Derived.Test.YtgkljcmjnphpeaaGreatDoorK07
import Derived.Test.YtgkljcmjnphpeaaGreatDoorK06
set_option linter.unusedVariables false
set_option linter.unusedSimpArgs false
namespace Go.Proofs.YtgkljcmjnphpeaaGreatDoor
open Go.RowKit
variable {w0 : World} {B bs cap K k : Nat} {ao : Option Addr} {data : List Nat} {x2 x3 x4 : Value} {w w' : World} {q r : List Nat} {iv kv : Value} {vs : List Value} {Vs : List (VT k)} {ks : List (List Nat)}
/-- One key more: appended, and stored. -/
theorem Ar.key (h : Ar w0 B bs ao cap data x2 x3 x4 K k w q iv vs Vs kv ks) {s : List Nat} {kv' : Value}
    (hown : w'.ownsRow (w0.heap.size + 2) 9 1 kv' (ks.length + 1) ((ks.map fun s => .string (strN s)) ++ [.string (strN s)])) (hg : w.grownBy w' kv.ownBlock) (hw : ∀ g, kv'.ownBlock = some g → kv.ownBlock = some g ∨ w.heap.size ≤ g) (hfew : ks.length + 1 + q.length ≤ 200000) :
    Ar w0 B bs ao cap data x2 x3 x4 K k (w'.setCell ⟨w0.heap.size + 1, 5, none⟩ kv') q iv vs Vs kv' (ks ++ [s]) := by
  have hlt := h.lt
  have hsz := h.only.size
  have hvb := lt_of_block h.vb
  have hBb := h.sc.hb
  have hiv : ∀ g, iv.ownBlock = some g → w0.heap.size + 2 ≤ g ∧ g < w.heap.size := h.own.lt
  have hkv : ∀ g, kv.ownBlock = some g → w0.heap.size + 2 ≤ g ∧ g < w.heap.size := h.ownk.lt
  have hoth : ∀ g, g < w.heap.size → kv.ownBlock ≠ some g → g ≠ w0.heap.size + 1 → (w'.setCell ⟨w0.heap.size + 1, 5, none⟩ kv').heap[g]? = w.heap[g]? := fun g h1 h2 h3 => by
    rw [blk_setCell_ne _ h3, hg.block g h1 (fun e => h2 e.symm)]
  have hlow : ∀ g, g < w0.heap.size + 1 → (w'.setCell ⟨w0.heap.size + 1, 5, none⟩ kv').heap[g]? = w.heap[g]? := fun g h1 => hoth g (by omega) (fun e => by have := hkv g e; omega) (by omega)
  have hvb' : w'.heap[w0.heap.size + 1]? = some (.cells #[.int .i64 (K : Int), .int .i64 0, .int .i64 0, .string { data := #[] }, iv, kv, .slice none 0 0] 67 (0, 0)) := by
    rw [hg.block _ hvb (fun e => by have := hkv _ e.symm; omega)]; exact h.vb
  refine ⟨⟨h.sc.hb, by rw [hlow _ (by omega)]; exact h.sc.blk, h.sc.dat.other (fun g hg => hlow g (by omega)), h.sc.byt, h.sc.len, h.sc.lc, h.sc.le, h.sc.suf, h.sc.ad⟩, ?_, h.lt, by rw [hlow _ (by omega)]; exact h.rb, ?_, ?_, ?_, h.len, ?_, h.few, by rw [List.length_append]; exact hfew⟩
  · exact ⟨hg.os.trans h.only.os, hg.tape.trans h.only.tape, hg.output.trans h.only.output, by have := hg.size; simp [World.setCell]; omega, fun g h1 h2 => (hlow g (by omega)).trans (h.only.block g h1 h2)⟩
  · rw [blk_setCell _ hvb']; rfl
  · have := h.own.kept hg (by
      cases hk : iv.ownBlock with
      | none => exact Or.inl rfl
      | some g =>
        refine Or.inr (fun e => ?_)
        exact own_apart h.own h.ownk (by decide) g hk e.symm)
    exact ownsRow_setCell_other this (fun e => absurd (this.lt (w0.heap.size + 1) e).1 (by omega)) kv'
  · rw [List.length_append, List.map_append]
    have := ownsRow_setCell_other (a := ⟨w0.heap.size + 1, 5, none⟩) hown (fun e => absurd (hown.lt (w0.heap.size + 1) e).1 (by omega)) kv'
    simpa using this
  · intro i x y hx hy
    have old : VIn (fun g => w0.heap.size + 2 ≤ g ∧ iv.ownBlock ≠ some g ∧ kv.ownBlock ≠ some g ∧ kv'.ownBlock ≠ some g) k w x y := by
      refine VIn.mono k (h.ch i x y hx hy) (fun g h1 h2 => ⟨h1.1, h1.2.1, h1.2.2, fun e => ?_⟩)
      rcases hw g e with c2 | c2
      · exact h1.2.2 c2
      · omega
    refine VIn.mono k (VIn.keep k old (fun g h1 h2 => hoth g h2 h1.2.2.1 (by omega))) (fun g h1 _ => ⟨h1.1, h1.2.1, h1.2.2.2⟩)
/-- What is known while something comes up: what a cell holds till an operation has come. -/
def SCell (fl b off : Nat) (v : Value) (L : Array Bool) (W : World) : Prop := L.getD fl false = false → W.cell? ⟨b, off, none⟩ = some v
theorem SCell.set {fl b off i : Nat} {v : Value} {L : Array Bool} {W : World} (hi : i ≠ fl) : SCell fl b off v L W ↔ SCell fl b off v (L.setIfInBounds i true) W := by
  unfold SCell
  rw [getD_set_ne false hi]
/-- What has been read comes first. -/
def addD {α : Type} (ks : List (List Nat)) (Vs : List α) (o : Option ((List (List Nat) × List α) × List Nat)) : Option ((List (List Nat) × List α) × List Nat) := o.map fun x => ((ks ++ x.1.1, Vs ++ x.1.2), x.2)
theorem addD_cons {α : Type} (ks : List (List Nat)) (Vs : List α) (s : List Nat) (V : α) (o : Option ((List (List Nat) × List α) × List Nat)) : addD ks Vs (o.map fun x => ((s :: x.1.1, V :: x.1.2), x.2)) = addD (ks ++ [s]) (Vs ++ [V]) o := by
  cases o with
  | none => rfl
  | some x => simp [addD]
set_option maxRecDepth 100000 in
set_option maxHeartbeats 4000000 in
theorem sdict_ok (hk : k ≤ 11) (ih : ValueOk B bs ao cap data x2 x3 x4 k) (he : ErrW B w) (h : Sc B bs ao cap data x2 x3 x4 w r) :
    Calls Tryz.prog 197 #[.pointer (some ⟨bs, 0, none⟩), .int .i64 (12 - k : Nat)] w (VRes B bs ao cap data x2 x3 x4 (k + 1) ((Fo.dic (Fo.value k) (r.length + 1) r).map fun x => ((⟨7, 0, 0, [], x.1.2, x.1.1, []⟩ : Node (VT k)), x.2)) w) := by
  obtain ⟨i0, hi, hz0, hz1, hz2⟩ := info_parts infoValue
  obtain ⟨j0, ji, jz0, jz1, jz2⟩ := info_parts infoString
  have IH := hide ih
  have HE := hide he
  have H := hide h
  clear ih he h
  obtain ⟨R, hR⟩ : ∃ R, Fo.dic (Fo.value k) (r.length + 1) r = R := ⟨_, rfl⟩
  rw [hR]
  have HR : Hid (addD [] [] (Fo.dic (Fo.value k) (r.length + 1) r) = R) := by
    unfold Hid
    rw [← hR]; unfold addD
    cases Fo.dic (Fo.value k) (r.length + 1) r <;> simp
  clear hR
  go_enter Tryz.func197, Tryz.ntmps197
  go_wp2
  go_loopw [7] (fun _ wr => ∃ (m : Nat) (q : List Nat) (iv : Value) (vs : List Value) (Vs : List (VT k)) (kv : Value) (ks : List (List Nat)), Hid (Ar w B bs ao cap data x2 x3 x4 7 k wr q iv vs Vs kv ks) ∧ q.length < m ∧ Hid (addD ks Vs (Fo.dic (Fo.value k) m q) = R)) (fun _ wr => data.length - posS bs wr)
  case atStart => exact ⟨r.length + 1, r, .slice none 0 0, [], [], .slice none 0 0, [], Ar.start H.out, by omega, HR⟩
  clear H HR
  case round =>
    obtain ⟨m, q, iv, vs, Vs, kv, ks, HA, hm, HR⟩ := hrel
    obtain ⟨m, rfl⟩ : ∃ m', m = m' + 1 := ⟨m - 1, by omega⟩
    have HPQ := hide HA.out.sc.posS
    have hqle := HA.out.sc.le
    have HM := hide (smark_ok HA.out.sc { data := #[62, 62] } (by decide) (by decide))
    rw [show bl { data := #[62, 62] } = [62, 62] from rfl] at HM
    have hsl := Fo.skip_len q
    cases ht : Fo.takes [62, 62] (Fo.skip q) with
    | some q1 =>
      rw [ht] at HM
      have hq1 := (Fo.takes_len ht).1
      simp only [List.length_cons, List.length_nil] at hq1
      have HRE : Hid (R = some ((ks, Vs), q1)) := by unfold Hid; rw [← HR.out, Fo.dic, ht]; simp [addD]
      clear ht HR
      go_wp2_with fail
      refine HM.out.mono ?_
      rintro e w1 ⟨rfl, h1, k1⟩
      have H1 := hide (HA.out.step (show Sc B bs ao cap data x2 x3 x4 w1 q1 from h1) k1 (by omega))
      obtain ⟨ia, ic, hivs⟩ := own_slice H1.out.own
      obtain ⟨ja, jc, hkvs⟩ := own_slice H1.out.ownk
      subst hivs
      subst hkvs
      have hrb := H1.out.rb
      have hvb := H1.out.vb
      have v0 : w1.cell? ⟨w.heap.size + 1, 0, none⟩ = some (.int .i64 7) := by rw [cell_blk hvb]; rfl
      have v1 : w1.cell? ⟨w.heap.size + 1, 1, none⟩ = some (.int .i64 0) := by rw [cell_blk hvb]; rfl
      have v2 : w1.cell? ⟨w.heap.size + 1, 2, none⟩ = some (.int .i64 0) := by rw [cell_blk hvb]; rfl
      have v3 : w1.cell? ⟨w.heap.size + 1, 3, none⟩ = some (.string { data := #[] }) := by rw [cell_blk hvb]; rfl
      have v4 : w1.cell? ⟨w.heap.size + 1, 4, none⟩ = some (.slice ia vs.length ic) := by rw [cell_blk hvb]; rfl
      have v5 : w1.cell? ⟨w.heap.size + 1, 5, none⟩ = some (.slice ja ks.length jc) := by rw [cell_blk hvb]; rfl
      have v6 : w1.cell? ⟨w.heap.size + 1, 6, none⟩ = some (.slice none 0 0) := by rw [cell_blk hvb]; rfl
      have r0 : w1.cell? ⟨w.heap.size, 0, none⟩ = some (.int .i64 0) := by rw [cell_blk hrb]; rfl
      have r1 : w1.cell? ⟨w.heap.size, 1, none⟩ = some (.int .i64 0) := by rw [cell_blk hrb]; rfl
      have r2 : w1.cell? ⟨w.heap.size, 2, none⟩ = some (.int .i64 0) := by rw [cell_blk hrb]; rfl
      have r3 : w1.cell? ⟨w.heap.size, 3, none⟩ = some (.string { data := #[] }) := by rw [cell_blk hrb]; rfl
      have r4 : w1.cell? ⟨w.heap.size, 4, none⟩ = some (.slice none 0 0) := by rw [cell_blk hrb]; rfl
      have r5 : w1.cell? ⟨w.heap.size, 5, none⟩ = some (.slice none 0 0) := by rw [cell_blk hrb]; rfl
      have r6 : w1.cell? ⟨w.heap.size, 6, none⟩ = some (.slice none 0 0) := by rw [cell_blk hrb]; rfl
      have f0 : w1.frozen? ⟨w.heap.size, 0, none⟩ = false := free_blk hrb
      have f1 : w1.frozen? ⟨w.heap.size, 1, none⟩ = false := free_blk hrb
      have f2 : w1.frozen? ⟨w.heap.size, 2, none⟩ = false := free_blk hrb
      have f3 : w1.frozen? ⟨w.heap.size, 3, none⟩ = false := free_blk hrb
      have f4 : w1.frozen? ⟨w.heap.size, 4, none⟩ = false := free_blk hrb
      have f5 : w1.frozen? ⟨w.heap.size, 5, none⟩ = false := free_blk hrb
      have f6 : w1.frozen? ⟨w.heap.size, 6, none⟩ = false := free_blk hrb
      have HF := hide (set7 hrb (.int .i64 7) (.int .i64 0) (.int .i64 0) (.string { data := #[] }) (.slice ia vs.length ic) (.slice ja ks.length jc) (.slice none 0 0))
      have HO := hide (only7 w1 w.heap.size (.int .i64 7) (.int .i64 0) (.int .i64 0) (.string { data := #[] }) (.slice ia vs.length ic) (.slice ja ks.length jc) (.slice none 0 0))
      clear h1 k1 HM hrb hvb
      go_wp2
      refine bodyPost_ret (v := .agg #[.int .i64 7, .int .i64 0, .int .i64 0, .string { data := #[] }, .slice ia vs.length ic, .slice ja ks.length jc, .slice none 0 0]) ?_ rfl ?_
      · exact results_cell_row Tryz.results197 _ _ w.heap.size 67 _ _ _ rfl HF.out Tryz.underlying67 rfl (by kernel_rfl)
      obtain ⟨a1, a2, a3⟩ := H1.out.fin HO.out
      exact SRes.some_ (by rw [HRE.out]; rfl) a1 a2 a3
    | none =>
      rw [ht] at HM
      go_wp2_with fail
      refine HM.out.mono ?_
      rintro e w1 ⟨rfl, h1, k1⟩
      have H1 := hide (HA.out.step (show Sc B bs ao cap data x2 x3 x4 w1 (Fo.skip q) from h1) k1 hsl)
      clear h1 k1 HM
      have HM2 := hide (smark_ok H1.out.sc { data := #[47] } (by decide) (by decide))
      rw [bl_one, show (UInt8.toNat 47) = 47 from rfl, Fo.skip_skip] at HM2
      cases h47 : Fo.takes [47] (Fo.skip q) with
      | none =>
        rw [h47] at HM2
        have HE2 : Hid (R = none) := by unfold Hid; rw [← HR.out, Fo.dic, ht, h47]; rfl
        clear ht HR h47
        go_wp2_with fail
        refine HM2.out.mono ?_
        rintro e w2 ⟨rfl, h2, k2⟩
        go_wp2_with fail
        refine (smust_no _).mono ?_
        rintro e w' ⟨rfl, rfl⟩
        exact ⟨rfl, SRes.none_ (by rw [HE2.out]; rfl) (H1.out.only.trans k2)⟩
      | some q1 =>
        rw [h47] at HM2
        have hq1 := (Fo.takes_len h47).1
        simp only [List.length_cons, List.length_nil] at hq1
        have HR1 : Hid (addD ks Vs (match Fo.name q1 with | none => none | some (s, q2) => match Fo.value k q2 with | none => none | some (v, q3) => (Fo.dic (Fo.value k) m q3).map fun x => ((s :: x.1.1, v :: x.1.2), x.2)) = R) := by
          unfold Hid
          rw [← HR.out]
          simp only [Fo.dic, ht, h47]
          cases Fo.name q1 with
          | none => rfl
          | some x =>
            obtain ⟨s, q2⟩ := x
            simp only []
            cases Fo.value k q2 <;> rfl
        clear ht HR h47
        go_wp2_with fail
        refine HM2.out.mono ?_
        rintro e w2 ⟨rfl, h2, k2⟩
        have H2 := hide (H1.out.step (show Sc B bs ao cap data x2 x3 x4 w2 q1 from h2) k2 (by omega))
        clear h2 k2 HM2 H1
        go_wp2_with fail
        refine (smust_yes _).mono ?_
        rintro e w' ⟨rfl, rfl⟩
        have hvb := H2.out.vb
        have HCV : Hid (w'.cell? ⟨w.heap.size + 1, 5, none⟩ = some kv) := by unfold Hid; rw [cell_blk hvb]; rfl
        have HN := hide (sname_ok H2.out.drew.sc)
        obtain ⟨ka, kc, hkv⟩ := own_slice H2.out.ownk
        clear hvb
        go_wp2_with fail
        refine wp_region_T (SCell 7 (w.heap.size + 1) 5 kv) (by kernel_rfl) ?_
        intro hD
        have hS : SCell 7 (w.heap.size + 1) 5 kv (Array.replicate 8 false) w'.drew := fun _ => HCV.out
        refine wpAnyT_take (i := 0) (v := ?_) rfl (by kernel_rfl) (by kernel_rfl) (by kernel_rfl) (fun _ _ _ h => h) (fun _ _ h => (SCell.set (by decide)).1 h) (fun _ _ h => (SCell.set (by decide)).2 h) hD (Or.inl ⟨by rfl, ?_⟩) hS ?_
        rotate_left
        · intro W hW; go_simp; try (with_reducible rfl)
        clear hD hS; intro hD hS; (try simp only [Act.put, List.setIfInBounds_toArray, List.set_cons_zero, List.set_cons_succ, List.getElem_toArray, List.getElem_cons_succ, List.getElem_cons_zero])
        refine wpAnyT_take (i := 1) (v := ?_) rfl (by kernel_rfl) (by kernel_rfl) (by kernel_rfl) (fun _ _ _ h => h) (fun _ _ h => (SCell.set (by decide)).1 h) (fun _ _ h => (SCell.set (by decide)).2 h) hD (Or.inl ⟨by rfl, ?_⟩) hS ?_
        rotate_left
        · intro W hW; obtain ⟨L, hDs, hL, hSL⟩ := hW; have hcl := hSL (by cases h9 : L.getD 7 false with | false => rfl | true => exact absurd (hDs.came 2 7 (by kernel_rfl) h9) (by rw [getD_in hL]; decide)); go_simp; try (with_reducible rfl)
        clear hD hS; intro hD hS; (try simp only [Act.put, List.setIfInBounds_toArray, List.set_cons_zero, List.set_cons_succ, List.getElem_toArray, List.getElem_cons_succ, List.getElem_cons_zero])
        refine wpAnyT_take (i := 2) (v := ?_) rfl (by kernel_rfl) (by kernel_rfl) (by kernel_rfl) (fun _ _ _ h => h) (fun _ _ h => (SCell.set (by decide)).1 h) (fun _ _ h => (SCell.set (by decide)).2 h) hD (Or.inl ⟨by rfl, ?_⟩) hS ?_
        rotate_left
        · intro W hW; go_simp; try (with_reducible rfl)
        clear hD hS; intro hD hS; (try simp only [Act.put, List.setIfInBounds_toArray, List.set_cons_zero, List.set_cons_succ, List.getElem_toArray, List.getElem_cons_succ, List.getElem_cons_zero])
        cases hnm : Fo.name q1 with
        | none =>
          rw [hnm] at HN HR1
          have HE2 : Hid (R = none) := by unfold Hid; rw [← HR1.out]; rfl
          clear hnm HR1
          refine wpAnyT_one (i := 3) (by kernel_rfl) rfl hD (fun K' hK => ?_)
          go_simp
          refine HN.out.mono ?_
          rintro e w3 ⟨rfl, k3⟩
          exact ⟨rfl, SRes.none_ (by rw [HE2.out]; rfl) (H2.out.drew.only.trans k3)⟩
        | some x =>
          obtain ⟨s, q2⟩ := x
          rw [hnm] at HN HR1
          have hqn := Fo.nameS_len q1 0 0 s q2 hnm
          clear hnm
          refine wpAnyT_one (i := 3) (by kernel_rfl) rfl hD (fun K' hK => ?_)
          go_simp
          refine HN.out.mono ?_
          rintro e w3 ⟨v, rfl, rfl, h3, k3⟩
          have H3 := hide (H2.out.drew.step h3 k3 hqn)
          have HC3 : Hid (w3.cell? ⟨w.heap.size + 1, 5, none⟩ = some kv) := by unfold Hid; rw [cell_blk H3.out.vb]; rfl
          clear h3 k3 HN
          refine hK.out _ _ (fun _ => HC3.out) (fun hD2 hS2 => ?_)
          clear hD hS hK K'
          have hD := hD2
          have hS := hS2
          clear hD2 hS2
          (try simp only [Act.put, List.setIfInBounds_toArray, List.set_cons_zero, List.set_cons_succ, List.getElem_toArray, List.getElem_cons_succ, List.getElem_cons_zero])
          refine wpAnyT_one (i := 4) (by kernel_rfl) rfl hD (fun K' hK => ?_)
          go_simp
          have H4 := hide (H3.out.alloc (.cells #[.string (strN s)] 9))
          have HC4 : Hid ((w3.alloc (.cells #[.string (strN s)] 9)).cell? ⟨w.heap.size + 1, 5, none⟩ = some kv) := by unfold Hid; rw [cell_blk H4.out.vb]; rfl
          refine hK.out _ _ (fun _ => HC4.out) (fun hD2 hS2 => ?_)
          clear hD hS hK K'
          have hD := hD2
          have hS := hS2
          clear hD2 hS2
          (try simp only [Act.put, List.setIfInBounds_toArray, List.set_cons_zero, List.set_cons_succ, List.getElem_toArray, List.getElem_cons_succ, List.getElem_cons_zero])
          refine wpAnyT_one (i := 5) (by kernel_rfl) rfl hD (fun K' hK => ?_)
          have hfewk := HA.out.fewk
          have hvl := lt_of_block H3.out.vb
          refine step_append_where rfl (.tmp 14) (.tmp 17) 38 rfl (w.heap.size + 2) 9 j0 _ 1 16 Tryz.underlying38 ji jz0 jz1 jz2 rfl (by decide) kv ks.length (ks.map fun s => .string (strN s)) (by rw [hkv]; rfl) H4.out.ownk ⟨w3.heap.size, 0, none⟩ 1 1 [.string (strN s)] rfl rfl ?hnews ?hone ?h63 ?hby ?hbs ?_
          case hnews =>
            intro j u hu
            rw [addr_add, cell_blk (blk_new w3 _)]
            simpa using hu
          case hone => intro u hu; simp at hu; subst hu; rfl
          case h63 => unfold maxLen; omega
          case hby => omega
          case hbs => simp; omega
          intro v6 w6 own6 hg6 hw6
          have H6 := hide (H4.out.key own6 hg6 hw6 (by omega))
          have hv6 : w6.heap[w.heap.size + 1]? = some (.cells #[.int .i64 7, .int .i64 0, .int .i64 0, .string { data := #[] }, iv, kv, .slice none 0 0] 67 (0, 0)) := by
            rw [hg6.block _ (lt_of_block H4.out.vb) (fun e => by have := (H4.out.ownk.lt _ e.symm).1; omega)]; exact H4.out.vb
          have hc6 : w6.cell? ⟨w.heap.size + 1, 5, none⟩ = some kv := by rw [cell_blk hv6]; rfl
          have hf6 : w6.frozen? ⟨w.heap.size + 1, 5, none⟩ = false := free_blk hv6
          obtain ⟨ao6, c6, hv6s⟩ := own_slice own6
          subst hv6s
          clear own6 hg6 hw6 hv6 H4 HC4 HC3 H3 H2 HCV
          refine hK.out _ _ (fun _ => hc6) (fun hD2 hS2 => ?_)
          clear hD hS hK K'
          have hD := hD2
          have hS := hS2
          clear hD2 hS2
          (try simp only [Act.put, List.setIfInBounds_toArray, List.set_cons_zero, List.set_cons_succ, List.getElem_toArray, List.getElem_cons_succ, List.getElem_cons_zero])
          refine wpAnyT_one (i := 6) (by kernel_rfl) rfl hD (fun K' hK => ?_)
          go_simp
          refine hK.out _ _ (fun _ => hc6) (fun hD2 hS2 => ?_)
          clear hD hS hK K'
          have hD := hD2
          have hS := hS2
          clear hD2 hS2
          (try simp only [Act.put, List.setIfInBounds_toArray, List.set_cons_zero, List.set_cons_succ, List.getElem_toArray, List.getElem_cons_succ, List.getElem_cons_zero])
          refine wpAnyT_one (i := 7) (by kernel_rfl) rfl hD (fun K' hK => ?_)
          go_simp
          refine hK.out _ _ (fun h9 => by cases h9) (fun hD2 hS2 => ?_)
          clear hD hS hK K'
          have hD := hD2
          have hS := hS2
          clear hD2 hS2
          (try simp only [Act.put, List.setIfInBounds_toArray, List.set_cons_zero, List.set_cons_succ, List.getElem_toArray, List.getElem_cons_succ, List.getElem_cons_zero])
          refine wpAnyT_done (by kernel_rfl) ?_ _
          clear hD hS hc6 hf6
          have hiv4 : (w6.setCell ⟨w.heap.size + 1, 5, none⟩ (.slice ao6 (ks.length + 1) c6)).cell? ⟨w.heap.size + 1, 4, none⟩ = some iv := by rw [cell_blk H6.out.vb]; rfl
          have H7 := H6
          clear H6
          generalize w6.setCell ⟨w.heap.size + 1, 5, none⟩ (.slice ao6 (ks.length + 1) c6) = w7 at *
          have HCV : Hid (w7.cell? ⟨w.heap.size + 1, 4, none⟩ = some iv) := hiv4
          have HD1 : Hid (((12 - k : Nat) : Int) + 1 = ((13 - k : Nat) : Int)) := by unfold Hid; omega
          have h12 : 12 - k ≤ 12 := by omega
          have HV := hide (IH.out w7.drew q2 (HE.out.only HA.out.sc.hb (Nat.le_of_lt (Nat.lt_of_le_of_lt HA.out.sc.hb HA.out.lt)) (H7.out.drew.only)) H7.out.drew.sc)
          obtain ⟨ao1, c1, hiv⟩ := own_slice H7.out.own
          clear hiv4
          go_wp2_with fail
          refine wp_region_T (SCell 9 (w.heap.size + 1) 4 iv) (by kernel_rfl) ?_
          intro hD
          have hS : SCell 9 (w.heap.size + 1) 4 iv (Array.replicate 10 false) w7.drew := fun _ => HCV.out
          refine wpAnyT_take (i := 0) (v := ?_) rfl (by kernel_rfl) (by kernel_rfl) (by kernel_rfl) (fun _ _ _ h => h) (fun _ _ h => (SCell.set (by decide)).1 h) (fun _ _ h => (SCell.set (by decide)).2 h) hD (Or.inl ⟨by rfl, ?_⟩) hS ?_
          rotate_left
          · intro W hW; go_simp; try (with_reducible rfl)
          clear hD hS; intro hD hS; (try simp only [Act.put, List.setIfInBounds_toArray, List.set_cons_zero, List.set_cons_succ, List.getElem_toArray, List.getElem_cons_succ, List.getElem_cons_zero])
          refine wpAnyT_take (i := 1) (v := ?_) rfl (by kernel_rfl) (by kernel_rfl) (by kernel_rfl) (fun _ _ _ h => h) (fun _ _ h => (SCell.set (by decide)).1 h) (fun _ _ h => (SCell.set (by decide)).2 h) hD (Or.inl ⟨by rfl, ?_⟩) hS ?_
          rotate_left
          · intro W hW; obtain ⟨L, hDs, hL, hSL⟩ := hW; have hcl := hSL (by cases h9 : L.getD 9 false with | false => rfl | true => exact absurd (hDs.came 2 9 (by kernel_rfl) h9) (by rw [getD_in hL]; decide)); go_simp; try (with_reducible rfl)
          clear hD hS; intro hD hS; (try simp only [Act.put, List.setIfInBounds_toArray, List.set_cons_zero, List.set_cons_succ, List.getElem_toArray, List.getElem_cons_succ, List.getElem_cons_zero])
          refine wpAnyT_take (i := 2) (v := ?_) rfl (by kernel_rfl) (by kernel_rfl) (by kernel_rfl) (fun _ _ _ h => h) (fun _ _ h => (SCell.set (by decide)).1 h) (fun _ _ h => (SCell.set (by decide)).2 h) hD (Or.inl ⟨by rfl, ?_⟩) hS ?_
          rotate_left
          · intro W hW; go_simp; try (with_reducible rfl)
          clear hD hS; intro hD hS; (try simp only [Act.put, List.setIfInBounds_toArray, List.set_cons_zero, List.set_cons_succ, List.getElem_toArray, List.getElem_cons_succ, List.getElem_cons_zero])
          refine wpAnyT_take (i := 3) (v := ?_) rfl (by kernel_rfl) (by kernel_rfl) (by kernel_rfl) (fun _ _ _ h => h) (fun _ _ h => (SCell.set (by decide)).1 h) (fun _ _ h => (SCell.set (by decide)).2 h) hD (Or.inl ⟨by rfl, ?_⟩) hS ?_
          rotate_left
          · intro W hW; go_simp; try (with_reducible rfl)
          clear hD hS; intro hD hS; (try simp only [Act.put, List.setIfInBounds_toArray, List.set_cons_zero, List.set_cons_succ, List.getElem_toArray, List.getElem_cons_succ, List.getElem_cons_zero])
          refine wpAnyT_take (i := 4) (v := ?_) rfl (by kernel_rfl) (by kernel_rfl) (by kernel_rfl) (fun _ _ _ h => h) (fun _ _ h => (SCell.set (by decide)).1 h) (fun _ _ h => (SCell.set (by decide)).2 h) hD (Or.inl ⟨by rfl, ?_⟩) hS ?_
          rotate_left
          · intro W hW; go_simp; try (with_reducible rfl)
          clear hD hS; intro hD hS; (try simp only [Act.put, List.setIfInBounds_toArray, List.set_cons_zero, List.set_cons_succ, List.getElem_toArray, List.getElem_cons_succ, List.getElem_cons_zero])
          have HW1 : Hid (IntKind.i64.wrap (((12 - k : Nat) : Int) + 1) = ((13 - k : Nat) : Int)) := by unfold Hid; rw [IntKind.wrap_i64]; omega
          cases hv : Fo.value k q2 with
          | none =>
            rw [hv] at HV HR1
            have HE2 : Hid (R = none) := by unfold Hid; rw [← HR1.out]; rfl
            clear hv HR1
            refine wpAnyT_one (i := 5) (by kernel_rfl) rfl hD (fun K' hK => ?_)
            go_simp
            rw [HW1.out]
            refine HV.out.mono ?_
            rintro e w8 ⟨rfl, k2⟩
            exact ⟨rfl, SRes.none_ (by rw [HE2.out]; rfl) (H7.out.drew.only.trans k2)⟩
          | some x =>
            obtain ⟨V, q3⟩ := x
            rw [hv] at HV HR1
            have hqv := Fo.value_len hv
            have HR2 : Hid (addD (ks ++ [s]) (Vs ++ [V]) (Fo.dic (Fo.value k) m q3) = R) := by
              unfold Hid
              rw [← HR1.out]; exact (addD_cons _ _ _ _ _).symm
            clear hv HR1
            refine wpAnyT_one (i := 5) (by kernel_rfl) rfl hD (fun K' hK => ?_)
            go_simp
            rw [HW1.out]
            refine HV.out.mono ?_
            rintro e w8 ⟨v, rfl, hvi, h2, k2⟩
            have H8 := hide (H7.out.drew.step h2 k2 (by omega))
            have HC2 : Hid (w8.cell? ⟨w.heap.size + 1, 4, none⟩ = some iv) := by unfold Hid; rw [cell_blk H8.out.vb]; rfl
            have HVI := hide hvi
            have hVc := hvi.cells
            obtain ⟨a0, a1, a2, a3, a4, a5, a6, rfl⟩ : ∃ a0 a1 a2 a3 a4 a5 a6, v = .agg #[a0, a1, a2, a3, a4, a5, a6] := VIn.agg hvi
            have hs2 := h2.lt
            clear hvi h2 k2 HV
            refine hK.out _ _ (fun _ => HC2.out) (fun hD2 hS2 => ?_)
            clear hD hS hK K'
            have hD := hD2
            have hS := hS2
            clear hD2 hS2
            (try simp only [Act.put, List.setIfInBounds_toArray, List.set_cons_zero, List.set_cons_succ, List.getElem_toArray, List.getElem_cons_succ, List.getElem_cons_zero])
            refine wpAnyT_one (i := 6) (by kernel_rfl) rfl hD (fun K' hK => ?_)
            go_simp
            have H9 := hide (H8.out.alloc (.cells #[a0, a1, a2, a3, a4, a5, a6] 67))
            have HC3 : Hid ((w8.alloc (.cells #[a0, a1, a2, a3, a4, a5, a6] 67)).cell? ⟨w.heap.size + 1, 4, none⟩ = some iv) := by unfold Hid; rw [cell_blk H9.out.vb]; rfl
            refine hK.out _ _ (fun _ => HC3.out) (fun hD2 hS2 => ?_)
            clear hD hS hK K'
            have hD := hD2
            have hS := hS2
            clear hD2 hS2
            (try simp only [Act.put, List.setIfInBounds_toArray, List.set_cons_zero, List.set_cons_succ, List.getElem_toArray, List.getElem_cons_succ, List.getElem_cons_zero])
            refine wpAnyT_one (i := 7) (by kernel_rfl) rfl hD (fun K' hK => ?_)
            have hfew := HA.out.few
            have hsz := H8.out.only.size
            have hvl := lt_of_block H8.out.vb
            refine step_append_where rfl (.tmp 21) (.tmp 26) 29 rfl (w.heap.size + 2) 67 i0 _ 7 112 Tryz.underlying29 hi hz0 hz1 hz2 rfl (by decide) iv vs.length (vs.flatMap cellsOf) (by rw [hiv]; rfl) H9.out.own ⟨w8.heap.size, 0, none⟩ 1 1 [a0, a1, a2, a3, a4, a5, a6] rfl rfl ?hnews ?hone ?h63 ?hby ?hbs ?_
            case hnews =>
              intro j u hu
              rw [addr_add, cell_blk (blk_new w8 _)]
              simpa using hu
            case hone => exact hVc.2
            case h63 => unfold maxLen; omega
            case hby => omega
            case hbs => simp; omega
            intro v9 w9 own9 hg9 hw9
            have HX3 : Hid (VIn (fun g => w7.drew.heap.size ≤ g) k (w8.alloc (.cells #[a0, a1, a2, a3, a4, a5, a6] 67)) (.agg #[a0, a1, a2, a3, a4, a5, a6]) V) := VIn.keep k HVI.out (fun g _ hg => ((Below.refl w8.heap.size w8).alloc (Nat.le_refl _) _).block g hg)
            have H10 := hide (H9.out.item (S := w7.heap.size) (fun g hg => (H7.out.own.lt g hg).2) (fun g hg => (H7.out.ownk.lt g hg).2) (by have := lt_of_block H7.out.vb; omega) HX3.out own9 hg9 hw9 (by omega))
            have hv9 : w9.heap[w.heap.size + 1]? = some (.cells #[.int .i64 7, .int .i64 0, .int .i64 0, .string { data := #[] }, iv, .slice ao6 (ks.length + 1) c6, .slice none 0 0] 67 (0, 0)) := by
              rw [hg9.block _ (by have := lt_of_block H9.out.vb; exact this) (fun e => by have := (H9.out.own.lt _ e.symm).1; omega)]; exact H9.out.vb
            have hc9 : w9.cell? ⟨w.heap.size + 1, 4, none⟩ = some iv := by rw [cell_blk hv9]; rfl
            have hf9 : w9.frozen? ⟨w.heap.size + 1, 4, none⟩ = false := free_blk hv9
            obtain ⟨ao9, c9, hv9s⟩ := own_slice own9
            subst hv9s
            have HM9 := hide H10.out.sc.posS
            clear own9 hg9 hw9 hv9 H9 HX3 HVI HC3 HC2 H8 hVc
            refine hK.out _ _ (fun _ => hc9) (fun hD2 hS2 => ?_)
            clear hD hS hK K'
            have hD := hD2
            have hS := hS2
            clear hD2 hS2
            (try simp only [Act.put, List.setIfInBounds_toArray, List.set_cons_zero, List.set_cons_succ, List.getElem_toArray, List.getElem_cons_succ, List.getElem_cons_zero])
            refine wpAnyT_one (i := 8) (by kernel_rfl) rfl hD (fun K' hK => ?_)
            go_simp
            refine hK.out _ _ (fun _ => hc9) (fun hD2 hS2 => ?_)
            clear hD hS hK K'
            have hD := hD2
            have hS := hS2
            clear hD2 hS2
            (try simp only [Act.put, List.setIfInBounds_toArray, List.set_cons_zero, List.set_cons_succ, List.getElem_toArray, List.getElem_cons_succ, List.getElem_cons_zero])
            refine wpAnyT_one (i := 9) (by kernel_rfl) rfl hD (fun K' hK => ?_)
            go_simp
            refine hK.out _ _ (fun h9 => by cases h9) (fun hD2 hS2 => ?_)
            clear hD hS hK K'
            have hD := hD2
            have hS := hS2
            clear hD2 hS2
            (try simp only [Act.put, List.setIfInBounds_toArray, List.set_cons_zero, List.set_cons_succ, List.getElem_toArray, List.getElem_cons_succ, List.getElem_cons_zero])
            refine wpAnyT_done (by kernel_rfl) ?_ _
            clear hD hS hc9 hf9
            go_wp2
            go_roundw
            case rel => exact ⟨m, q3, _, _, _, _, _, H10, by omega, HR2⟩
            case measure =>
              rw [HPQ.out, HM9.out]
              omega
end Go.Proofs.YtgkljcmjnphpeaaGreatDoor
namespace Go.Proofs.YtgkljcmjnphpeaaGreatDoor
open Go.RowKit
variable {B bs : Nat} {w w' : World}
theorem indexByte_eq (c : UInt8) : ∀ u : List UInt8, Lib.indexByte u c = if u.dropWhile (fun b => b != c) = [] then -1 else ((u.takeWhile fun b => b != c).length : Int)
  | [] => rfl
  | b :: l => by
    rw [Lib.indexByte, List.dropWhile_cons, List.takeWhile_cons, indexByte_eq c l]
    by_cases hb : b = c
    · subst hb; simp
    · have h1 : (b == c) = false := by simp [hb]
      have h2 : (b != c) = true := by simp [hb]
      rw [h1, h2]
      simp only [if_true]
      by_cases hd : l.dropWhile (fun b => b != c) = []
      · simp [hd]
      · rw [if_neg hd, if_neg hd]
        simp only [List.length_cons]
        rw [if_neg (by simp), if_neg (by simp)]
        omega
theorem cut_eq (u : List UInt8) : Lib.cut u [46] = match u.dropWhile (fun b => b != 46) with | [] => (u, [], false) | _ :: t => (u.takeWhile (fun b => b != 46), t, true) := by
  have hsp : u.takeWhile (fun b => b != 46) ++ u.dropWhile (fun b => b != 46) = u := List.takeWhile_append_dropWhile
  cases hd : u.dropWhile (fun b => b != 46) with
  | nil =>
    have e : Lib.index u [46] = -1 := by rw [Lib.index_one, indexByte_eq, if_pos hd]
    unfold Lib.cut
    rw [e, if_neg (by omega)]
  | cons x t =>
    have e : Lib.index u [46] = ((u.takeWhile fun b => b != 46).length : Int) := by rw [Lib.index_one, indexByte_eq, if_neg (by rw [hd]; simp)]
    unfold Lib.cut
    rw [e, if_pos (by omega), Int.toNat_natCast]
    rw [hd] at hsp
    have key : ∀ p : List UInt8, p ++ (x :: t) = u → u.take p.length = p ∧ u.drop (p.length + 1) = t := by
      rintro p rfl
      simp
    obtain ⟨k1, k2⟩ := key _ hsp
    rw [k1]
    simp only [List.length_cons, List.length_nil, Nat.zero_add]
    rw [k2]
theorem ne_toNat (b c : UInt8) : (b != c) = (b.toNat != c.toNat) := by
  rw [Bool.eq_iff_iff]; simp [UInt8.toNat_inj]
theorem map_takeWhile (c : UInt8) : ∀ u : List UInt8, (u.takeWhile fun b => b != c).map UInt8.toNat = (u.map UInt8.toNat).takeWhile fun b => b != c.toNat
  | [] => rfl
  | b :: l => by
    rw [List.takeWhile_cons, List.map_cons, List.takeWhile_cons, ← ne_toNat]
    cases h : (b != c)
    · rfl
    · simp only [if_true, List.map_cons]; rw [map_takeWhile c l]
theorem map_dropWhile (c : UInt8) : ∀ u : List UInt8, (u.dropWhile fun b => b != c).map UInt8.toNat = (u.map UInt8.toNat).dropWhile fun b => b != c.toNat
  | [] => rfl
  | b :: l => by
    rw [List.dropWhile_cons, List.map_cons, List.dropWhile_cons, ← ne_toNat]
    cases h : (b != c)
    · rfl
    · simp only [if_true]; rw [map_dropWhile c l]
theorem eq_toNat (b c : UInt8) : (b == c) = (b.toNat == c.toNat) := by
  rw [Bool.eq_iff_iff]; simp [UInt8.toNat_inj]
theorem map_dropEq (c : UInt8) : ∀ u : List UInt8, (u.dropWhile fun b => b == c).map UInt8.toNat = (u.map UInt8.toNat).dropWhile fun b => b == c.toNat
  | [] => rfl
  | b :: l => by
    rw [List.dropWhile_cons, List.map_cons, List.dropWhile_cons, ← eq_toNat]
    cases h : (b == c)
    · rfl
    · simp only [if_true]; rw [map_dropEq c l]
theorem bl_mk (l : List UInt8) : bl ⟨l.toArray⟩ = l.map UInt8.toNat := by simp [bl]
theorem trim_eq (S : ByteArray) : bl ⟨(Lib.trimRightB S.data.toList 48).toArray⟩ = Fo.trim0 (bl S) := by
  rw [bl_mk]
  unfold Lib.trimRightB Fo.trim0 bl
  rw [List.map_reverse, map_dropEq, List.map_reverse]
  rfl
theorem size_bl (S : ByteArray) : S.size = (bl S).length := (bl_len S).symm
theorem bl_append (a b : ByteArray) : bl (a ++ b) = bl a ++ bl b := by
  unfold bl
  rw [ByteArray.data_append]
  simp
end Go.Proofs.YtgkljcmjnphpeaaGreatDoor
