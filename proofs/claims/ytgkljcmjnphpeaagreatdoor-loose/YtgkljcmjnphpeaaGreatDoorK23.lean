/- reader.Document: where no object is a stream. -/
import Derived.Test.YtgkljcmjnphpeaaGreatDoorK22
set_option linter.unusedVariables false
set_option linter.unusedSimpArgs false
namespace Go.Proofs.YtgkljcmjnphpeaaGreatDoor
open Go.RowKit
variable {w w' : World} {w0 : World} {B bs cap : Nat} {ao : Option Addr} {data q : List Nat} {ov pv lv : Value} {vs : List Value} {Vs : List (VT 12)} {ps : List Value} {Ps : List (List Nat)} {pls : List Nat}
namespace Fo
/-- Objects, till the table comes: their values and bytes, and their places. -/
def objects (len : Nat) : Nat → Nat → List Nat → Option ((List (VT 12 × List Nat) × List Nat) × List Nat)
  | 0, _, _ => none
  | f + 1, n, r => if ([120, 114, 101, 102] : List Nat).isPrefixOf r = true then some (([], []), r) else match object (n + 1) r with
    | none => none
    | some (x, q) => (objects len f (n + 1) (skip q)).map fun z => ((x :: z.1.1, (len - r.length) :: z.1.2), z.2)
def document (data : List Nat) : Option (List (VT 12 × List Nat) × Int) := match takes [37, 80, 68, 70, 45, 49, 46, 52, 10] data with
  | none => none
  | some r => match objects data.length (r.length + 2) 0 (skip r) with
    | none => none
    | some z => match crossTable z.1.1.length z.1.2 z.2 with
      | none => none
      | some q2 => match trailer z.1.1.length q2 with
        | none => none
        | some y => match atEnd (data.length - z.2.length) y.2 with
          | none => none
          | some _ => some (z.1.1, y.1)
end Fo
/-- What has been read comes first. -/
def addO (Vs : List (VT 12)) (Ps : List (List Nat)) (pls : List Nat) (o : Option ((List (VT 12 × List Nat) × List Nat) × List Nat)) : Option ((List (VT 12) × List (List Nat) × List Nat) × List Nat) := o.map fun z => ((Vs ++ z.1.1.map Prod.fst, Ps ++ z.1.1.map Prod.snd, pls ++ z.1.2), z.2)
theorem addO_cons (x : VT 12 × List Nat) (p : Nat) (o : Option ((List (VT 12 × List Nat) × List Nat) × List Nat)) :
    addO Vs Ps pls (o.map fun z => ((x :: z.1.1, p :: z.1.2), z.2)) = addO (Vs ++ [x.1]) (Ps ++ [x.2]) (pls ++ [p]) o := by
  cases o with
  | none => rfl
  | some z => simp [addO]
/-- The result's block is written: the rest stays. -/
theorem Fi.rebase {w1 : World} {rb : Nat} (h : Fi w1 B bs ao cap data w' q ov pv lv vs Vs ps Ps pls) {W : World} (hrb : rb = w.heap.size) (h1 : w1.heap.size = w.heap.size + 1) (hw1 : Below w.heap.size w w1) (hlt : bs < w.heap.size) (o : Only rb w' W) : Fi w B bs ao cap data W q ov pv lv vs Vs ps Ps pls := by
  have hBb := h.sc.hb
  have hsz := h.only.size
  have hb : ∀ g, g < w'.heap.size → g ≠ rb → W.heap[g]? = w'.heap[g]? := fun g h1 h2 => o.block g h1 h2
  have rows : ∀ {e size n : Nat} {v : Value} {xs : List Value}, w'.ownsRow w1.heap.size e size v n xs → W.ownsRow w.heap.size e size v n xs := fun {e size n v xs} ho => by
    obtain ⟨k1, k2⟩ := ho
    refine ⟨k1, ?_⟩
    rcases k2 with k2 | ⟨g, c, cur, e1, e2, hh, hc⟩
    · exact Or.inl k2
    · exact Or.inr ⟨g, c, cur, e1, by omega, by rw [hb g (lt_of_block hh) (by omega)]; exact hh, hc⟩
  refine ⟨⟨h.sc.hb, by rw [hb bs (lt_of_block h.sc.blk) (by omega)]; exact h.sc.blk, h.sc.dat.other (fun g hg => hb g (by omega) (by omega)), h.sc.byt, h.sc.len, h.sc.lc, h.sc.le, h.sc.suf, h.sc.ad⟩, ?_, hlt, rows h.oo, rows h.op, rows h.ol, h.len, fun i x y hx hy => ?_, h.plen, fun i p l hp hl => (h.pk i p l hp hl).keep (fun g hg => hb g (by omega) (by omega))⟩
  · exact ⟨o.os.trans (h.only.os.trans hw1.os), o.tape.trans (h.only.tape.trans hw1.tape), o.output.trans (h.only.output.trans hw1.output), by have := o.size; omega, fun g k1 k2 => (hb g (by omega) (by omega)).trans ((h.only.block g (by omega) k2).trans (hw1.block g k1))⟩
  · exact VIn.mono 12 (VIn.keep 12 (h.ch i x y hx hy) (fun g hg hg2 => hb g hg2 (by omega))) (fun g hg _ => ⟨by omega, hg.2⟩)
/-- What document comes to. -/
def DocRes (w : World) (B bs : Nat) (ao : Option Addr) (cap : Nat) (data : List Nat) (o : Option (List (VT 12 × List Nat) × Int)) (e : Ending) (w' : World) : Prop :=
  match o with
  | some z => ∃ ov pv lv vs ps pls q, e = .returned (.agg #[ov, .int .i64 z.2]) ∧ Fi w B bs ao cap data w' q ov pv lv vs (z.1.map Prod.fst) ps (z.1.map Prod.snd) pls
  | none => e = gaveUp 4 ∧ Only bs w w'
theorem DocRes.none_ {o : Option (List (VT 12 × List Nat) × Int)} (h : o = none) (k : Only bs w w') : DocRes w B bs ao cap data o (gaveUp 4) w' := by subst h; exact ⟨rfl, k⟩
theorem DocRes.some_ {o : Option (List (VT 12 × List Nat) × Int)} {xs : List (VT 12 × List Nat)} {root : Int} (h : o = some (xs, root)) (k : Fi w B bs ao cap data w' q ov pv lv vs (xs.map Prod.fst) ps (xs.map Prod.snd) pls) : DocRes w B bs ao cap data o (.returned (.agg #[ov, .int .i64 root])) w' := by subst h; exact ⟨_, _, _, _, _, _, _, rfl, k⟩
theorem set2g {w : World} {b : Nat} {c0 c1 : Value} {T : TypeId} (h : w.heap[b]? = some (.cells #[c0, c1] T (0, 0))) (a0 a1 : Value) :
    ((w.setCell ⟨b, 0, none⟩ a0).setCell ⟨b, 1, none⟩ a1).heap[b]? = some (.cells #[a0, a1] T (0, 0)) := by
  rw [blk_setCell _ (blk_setCell _ h)]
  rfl
set_option maxRecDepth 100000 in
set_option maxHeartbeats 4000000 in
theorem document_ok (he : Env B w) (h : Sc B bs ao cap data (.slice none 0 0) (.slice none 0 0) (.slice none 0 0) w data) :
    Calls Tryz.prog 98 #[.pointer (some ⟨bs, 0, none⟩)] w (DocRes w B bs ao cap data (Fo.document data)) := by
  have hlt := h.lt
  have hBb := h.hb
  have hBw := h.env
  have hdl := h.len
  obtain ⟨R, hR⟩ : ∃ R, Fo.document data = R := ⟨_, rfl⟩
  rw [hR]
  have HR := hide hR
  unfold Fo.document at HR
  have b1 : Below w.heap.size w (w.alloc (.cells #[.slice none 0 0, .int .i64 0] 31)) := (Below.refl _ _).alloc (Nat.le_refl _) _
  have hs1 : (w.alloc (.cells #[.slice none 0 0, .int .i64 0] 31)).heap.size = w.heap.size + 1 := by simp
  have hx1 : (w.alloc (.cells #[.slice none 0 0, .int .i64 0] 31)).heap[w.heap.size]? = some (.cells #[.slice none 0 0, .int .i64 0] 31 (0, 0)) := blk_new _ _
  obtain ⟨w1, hw1⟩ : ∃ w1, w.alloc (.cells #[.slice none 0 0, .int .i64 0] 31) = w1 := ⟨_, rfl⟩
  rw [hw1] at b1 hs1 hx1
  have H1 : Hid (Fi w1 B bs ao cap data w1 data (.slice none 0 0) (.slice none 0 0) (.slice none 0 0) [] [] [] [] []) :=
    ⟨h.other b1, Only.refl _ _, by omega, World.ownsRow_nil _ _ _ _, World.ownsRow_nil _ _ _ _, World.ownsRow_nil _ _ _ _, rfl, fun i x y hx _ => by simp at hx, rfl, fun i p l hp _ => by simp at hp⟩
  have HE1 : Hid (Env B w1) := he.only (bs := bs) hBb hBw (.of_below b1)
  have HB1 := hide b1
  have HW1 := hide hw1
  have HX1 := hide hx1
  have HT := hide (stakes_ok H1.out.sc { data := #[37, 80, 68, 70, 45, 49, 46, 52, 10] } (by decide) (by decide))
  rw [show bl { data := #[37, 80, 68, 70, 45, 49, 46, 52, 10] } = [37, 80, 68, 70, 45, 49, 46, 52, 10] from rfl] at HT
  have HKO : Hid (∀ W : World, Only bs w1 W → Only bs w W) := fun W o => (Only.of_below b1).trans o
  clear h he hR b1 hx1 hw1
  cases e1 : Fo.takes [37, 80, 68, 70, 45, 49, 46, 52, 10] data with
  | none =>
    rw [e1] at HT HR
    have HRN : Hid (R = none) := HR.out.symm
    clear HR
    go_enter Tryz.func98, Tryz.ntmps98
    go_wp2_with fail
    rw [HW1.out]
    refine HT.out.mono ?_
    rintro e w2 ⟨rfl, h2, k2⟩
    have K2 := hide (HKO.out _ k2)
    clear h2 k2
    go_wp2_with fail
    refine (smust_no _).mono ?_
    rintro e w' ⟨rfl, hw⟩
    have hw := hw.symm
    subst hw
    exact ⟨rfl, .none_ HRN.out K2.out⟩
  | some r =>
    have hr := (Fo.takes_len e1).1
    rw [e1] at HT HR
    simp only [] at HR
    clear e1
    go_enter Tryz.func98, Tryz.ntmps98
    go_wp2_with fail
    rw [HW1.out]
    refine HT.out.mono ?_
    rintro e w2 ⟨rfl, h2, k2⟩
    have H2 := hide (H1.out.step (show Sc B bs ao cap data _ _ _ w2 r from h2) k2)
    have HSK := hide (sskip_ok H2.out.sc)
    clear h2 k2 HT H1
    go_wp2_with fail
    refine (smust_yes _).mono ?_
    rintro e w' ⟨rfl, hw⟩
    have hw := hw.symm
    subst hw
    go_wp2_with fail
    refine HSK.out.mono ?_
    rintro e w3 ⟨rfl, h3, k3⟩
    have H3 := hide (H2.out.step h3 k3)
    have hsl := Fo.skip_len r
    have HO0 : Hid (addO [] [] [] (Fo.objects data.length (r.length + 2) 0 (Fo.skip r)) = (Fo.objects data.length (r.length + 2) 0 (Fo.skip r)).map fun z => ((z.1.1.map Prod.fst, z.1.1.map Prod.snd, z.1.2), z.2)) := by
      unfold Hid addO
      cases Fo.objects data.length (r.length + 2) 0 (Fo.skip r) <;> simp
    obtain ⟨OB, hOB⟩ : ∃ OB, addO [] [] [] (Fo.objects data.length (r.length + 2) 0 (Fo.skip r)) = OB := ⟨_, rfl⟩
    rw [hOB] at HO0
    have HOB := hide hOB
    clear h3 k3 HSK H2 hOB
    go_wp2
    go_loopw [14] (fun _ wr => ∃ (f : Nat) (qq : List Nat) (ov pv lv : Value) (vs : List Value) (Vs : List (VT 12)) (ps : List Value) (Ps : List (List Nat)) (pls : List Nat), Hid (Fi w1 B bs ao cap data wr qq ov pv lv vs Vs ps Ps pls) ∧ qq.length < f ∧ pls.length + qq.length ≤ 200000 ∧ Hid (vs.length = pls.length ∧ ps.length = pls.length ∧ ∀ p ∈ pls, p ≤ 200000) ∧ Hid (addO Vs Ps pls (Fo.objects data.length f pls.length qq) = OB)) (fun _ wr => data.length - posS bs wr)
    case atStart => exact ⟨r.length + 2, Fo.skip r, _, _, _, _, _, _, _, _, H3, by omega, by simp only [List.length_nil]; omega, ⟨rfl, rfl, fun p hp => by cases hp⟩, HOB⟩
    clear H3 HOB
    case round =>
      obtain ⟨f, qq, ov, pv, lv, vs, Vs, ps, Ps, pls, HF, hf, hfew, HL, HOB⟩ := hrel
      obtain ⟨f, rfl⟩ : ∃ f', f = f' + 1 := ⟨f - 1, by omega⟩
      have HPQ := hide HF.out.sc.posS
      have hqd := HF.out.sc.le
      have HA := hide (sahead_ok HF.out.sc { data := #[120, 114, 101, 102] } (by decide) (by decide))
      rw [show bl { data := #[120, 114, 101, 102] } = [120, 114, 101, 102] from rfl] at HA
      cases hx : ([120, 114, 101, 102] : List Nat).isPrefixOf qq with
      | true =>
        rw [hx] at HA
        have hOB2 : OB = some ((Vs, Ps, pls), qq) := by
          rw [← HOB.out]
          unfold Fo.objects addO
          rw [if_pos hx]
          simp
        rw [hOB2] at HO0
        cases hz : Fo.objects data.length (r.length + 2) 0 (Fo.skip r) with
        | none => have := HO0.out; rw [hz] at this; cases this
        | some z =>
          obtain ⟨⟨xs, pz⟩, qz⟩ := z
          have hzz := HO0.out
          rw [hz] at hzz HR
          simp at hzz
          obtain ⟨⟨hV, hP, rfl⟩, rfl⟩ := hzz
          simp only [] at HR
          have HVP := hide (And.intro hV hP)
          have hxl : xs.length = vs.length := by have := HF.out.len; rw [this, hV, List.length_map]
          obtain ⟨n, hn⟩ : ∃ n, vs.length = n := ⟨_, rfl⟩
          rw [hxl, hn] at HR
          have hn2 : n ≤ 200000 := by have := HL.out.1; omega
          have HN := hide hn
          clear hz hx hOB2 HO0 HOB hxl hV hP hn
          go_wp2_with fail
          refine HA.out.mono ?_
          rintro e w4 ⟨rfl, m4, hw4⟩
          have H4 := hide (HF.out.below (show Below wr.heap.size wr w4 by rw [hw4]; exact below_drewN' _ _))
          clear hw4 HA HF HPQ
          obtain ⟨tb, htb⟩ : ∃ tb, data.length - qq.length = tb := ⟨_, rfl⟩
          rw [htb] at HR
          have c1 : w4.cell? ⟨bs, 1, none⟩ = some (.int .i64 (tb : Int)) := by rw [← htb]; exact H4.out.sc.c1
          have htb2 : tb ≤ 200000 := by omega
          obtain ⟨oa, oc, hov⟩ := own_slice H4.out.oo
          rw [HN.out] at hov
          have HEW : Hid (∀ W : World, Only bs w1 W → Env B W) := fun W o => HE1.out.only hBb (by omega) o
          have HCT := hide (crossTable_ok (HEW.out _ H4.out.only) H4.out.sc (n := n) hov hn2 HL.out.2.2 (by omega) H4.out.ol H4.out.lt)
          clear htb
          cases e5 : Fo.crossTable n pls qq with
          | none =>
            rw [e5] at HCT HR
            have HRN : Hid (R = none) := HR.out.symm
            clear HR
            go_wp2_with fail
            refine HCT.out.mono ?_
            rintro e w5 ⟨rfl, k5⟩
            exact ⟨rfl, .none_ HRN.out (HKO.out _ (H4.out.only.trans k5))⟩
          | some q2 =>
            rw [e5] at HCT HR
            simp only [] at HR
            go_wp2_with fail
            refine HCT.out.mono ?_
            rintro e w5 ⟨rfl, h5, k5⟩
            have H5 := hide (H4.out.step h5 k5)
            have HTR := hide (trailer_ok (HEW.out _ H5.out.only) H5.out.sc (n := n) hov hn2)
            clear h5 k5 HCT H4 c1 e5
            cases e6 : Fo.trailer n q2 with
            | none =>
              rw [e6] at HTR HR
              have HRN : Hid (R = none) := HR.out.symm
              clear HR
              go_wp2_with fail
              refine HTR.out.mono ?_
              rintro e w6 ⟨rfl, k6⟩
              exact ⟨rfl, .none_ HRN.out (HKO.out _ (H5.out.only.trans k6))⟩
            | some y =>
              obtain ⟨root, q3⟩ := y
              rw [e6] at HTR HR
              simp only [] at HR
              go_wp2_with fail
              refine HTR.out.mono ?_
              rintro e w6 ⟨_, rfl, hroot, h6, k6⟩
              unfold intV at hroot
              subst hroot
              have H6 := hide (H5.out.step h6 k6)
              have HEN := hide (fend_ok (HEW.out _ H6.out.only) H6.out.sc tb htb2)
              clear h6 k6 HTR H5 e6
              cases e7 : Fo.atEnd tb q3 with
              | none =>
                rw [e7] at HEN HR
                have HRN : Hid (R = none) := HR.out.symm
                clear HR
                go_wp2_with fail
                refine HEN.out.mono ?_
                rintro e w7 ⟨rfl, k7⟩
                exact ⟨rfl, .none_ HRN.out (HKO.out _ (H6.out.only.trans k7))⟩
              | some q4 =>
                rw [e7] at HEN HR
                simp only [] at HR
                go_wp2_with fail
                refine HEN.out.mono ?_
                rintro e w7 ⟨rfl, h7, k7⟩
                have H7 := hide (H6.out.step h7 k7)
                have hx7 : w7.heap[w.heap.size]? = some (.cells #[.slice none 0 0, .int .i64 0] 31 (0, 0)) := by
                  rw [H7.out.only.block _ (lt_of_block HX1.out) (by omega)]; exact HX1.out
                have c2 : w7.cell? ⟨bs, 2, none⟩ = some ov := H7.out.sc.c2
                have r0 : w7.cell? ⟨w.heap.size, 0, none⟩ = some (.slice none 0 0) := by rw [cell_blk hx7]; rfl
                have r1 : w7.cell? ⟨w.heap.size, 1, none⟩ = some (.int .i64 0) := by rw [cell_blk hx7]; rfl
                have f0 : w7.frozen? ⟨w.heap.size, 0, none⟩ = false := free_blk hx7
                have f1 : w7.frozen? ⟨w.heap.size, 1, none⟩ = false := free_blk hx7
                have HX7 := hide hx7
                subst hov
                clear h7 k7 HEN H6 e7 hx7 HX1
                go_wp2
                have hf := set2g HX7.out (.slice oa n oc) (.int .i64 root)
                have ho : Only w.heap.size w7 ((w7.setCell ⟨w.heap.size, 0, none⟩ (.slice oa n oc)).setCell ⟨w.heap.size, 1, none⟩ (.int .i64 root)) := ((Only.refl _ w7).setCell 0 _).setCell 1 _
                refine bodyPost_ret (v := .agg #[.slice oa n oc, .int .i64 root]) ?_ rfl ?_
                · exact results_cell_row Tryz.results98 _ _ w.heap.size 31 _ _ _ rfl hf Tryz.underlying31 rfl (by kernel_rfl)
                have hfin := H7.out.rebase (w := w) rfl hs1 HB1.out hlt ho
                rw [HVP.out.1, HVP.out.2] at hfin
                exact .some_ HR.out.symm hfin
      | false =>
        rw [hx] at HA
        have HOB2 : Hid (addO Vs Ps pls (match Fo.object (pls.length + 1) qq with | none => none | some (x, q) => (Fo.objects data.length f (pls.length + 1) (Fo.skip q)).map fun z => ((x :: z.1.1, (data.length - qq.length) :: z.1.2), z.2)) = OB) := by
          unfold Hid
          rw [← HOB.out]
          conv => rhs; rw [Fo.objects, if_neg (by rw [hx]; decide)]
        clear hx HOB
        go_wp2_with fail
        refine HA.out.mono ?_
        rintro e w4 ⟨rfl, m4, hw4⟩
        have H4 := hide (HF.out.below (show Below wr.heap.size wr w4 by rw [hw4]; exact below_drewN' _ _))
        clear hw4 HA HF
        have HB := hide (object_ok HE1.out H4.out hfew HL.out.1 HL.out.2.1)
        cases e5 : Fo.object (pls.length + 1) qq with
        | none =>
          rw [e5] at HB HOB2
          have HRN : Hid (R = none) := by
            unfold Hid
            have h1 : OB = none := HOB2.out.symm
            have h2 := HO0.out
            rw [h1] at h2
            cases hz : Fo.objects data.length (r.length + 2) 0 (Fo.skip r) with
            | none => rw [← HR.out, hz]
            | some z => rw [hz] at h2; cases h2
          go_wp2_with fail
          refine HB.out.mono ?_
          rintro e w5 ⟨rfl, k5⟩
          exact ⟨rfl, .none_ HRN.out (HKO.out _ k5)⟩
        | some x =>
          obtain ⟨x, q5⟩ := x
          have hq5 := Fo.object_len e5
          have hsk := Fo.skip_len q5
          rw [e5] at HB HOB2
          simp only [] at HOB2
          rw [addO_cons] at HOB2
          clear e5
          go_wp2_with fail
          refine HB.out.mono ?_
          rintro e w5 ⟨rfl, ov5, pv5, lv5, vs5, ps5, h5⟩
          have hvl5 : vs5.length = pls.length + 1 := by
            have a1 := h5.len
            have a2 := H4.out.len
            have a3 := HL.out.1
            rw [List.length_append] at a1
            simp at a1
            omega
          have hpl5 : ps5.length = pls.length + 1 := by
            have a1 := h5.plen
            have a2 := H4.out.plen
            have a3 := HL.out.2.1
            rw [List.length_append] at a1
            simp at a1
            omega
          have HSK := hide (sskip_ok h5.sc)
          have H5 := hide h5
          have HL5 : Hid (vs5.length = (pls ++ [data.length - qq.length]).length ∧ ps5.length = (pls ++ [data.length - qq.length]).length ∧ ∀ p ∈ pls ++ [data.length - qq.length], p ≤ 200000) := by
            refine ⟨by simp [hvl5], by simp [hpl5], fun p hp => ?_⟩
            rcases List.mem_append.1 hp with hp | hp
            · exact HL.out.2.2 p hp
            · simp at hp; omega
          have HOB3 : Hid (addO (Vs ++ [x.1]) (Ps ++ [x.2]) (pls ++ [data.length - qq.length]) (Fo.objects data.length f (pls ++ [data.length - qq.length]).length (Fo.skip q5)) = OB) := by
            unfold Hid
            rw [List.length_append]
            exact HOB2.out
          clear h5 hvl5 hpl5 HB H4 HOB2
          go_wp2_with fail
          refine HSK.out.mono ?_
          rintro e w6 ⟨rfl, h6, k6⟩
          have H6 := hide (H5.out.step h6 k6)
          have HM6 := hide h6.posS
          clear h6 k6 H5 HSK
          go_wp2
          go_roundw
          case rel => exact ⟨f, Fo.skip q5, _, _, _, _, _, _, _, _, H6, by omega, by simp only [List.length_append, List.length_cons, List.length_nil]; omega, HL5, HOB3⟩
          case measure =>
            rw [HPQ.out, HM6.out]
            omega
end Go.Proofs.YtgkljcmjnphpeaaGreatDoor
namespace Go.Proofs.YtgkljcmjnphpeaaGreatDoor
open Go.RowKit
theorem Made.fewf : ∀ {k : Nat} {V : VT k}, Made 200000 V → Fewf V
  | 0, _, _ => trivial
  | k + 1, V, h => ⟨h.1, h.2.1, by rw [h.2.2.2.2.1]; exact Nat.zero_le _, fun y hy => Made.fewf (h.2.2.2.2.2 y hy)⟩
namespace Fo
theorem filts_len : ∀ (l : List (Nat × List Nat)) (r : List Nat), filts l = some r → r.length ≤ l.length
  | [], r, h => by cases h; exact Nat.le_refl _
  | x :: l, r, h => by
    simp only [filts] at h
    split at h
    · cases e : filts l with
      | none => rw [e] at h; cases h
      | some r2 =>
        rw [e] at h
        cases h
        have := filts_len l r2 e
        simp only [List.length_cons]; omega
    · cases h
theorem streamOf_fewf {k : Nat} {V S : Node (VT k)} (hV : Made 200000 (k := k + 1) V) (h : streamOf V = some S) : Fewf (k := k + 1) S := by
  unfold streamOf at h
  cases e : filtersOf V with
  | none => rw [e] at h; cases h
  | some fs =>
    rw [e] at h
    cases h
    have hz : (keepZ (V.keys.zip V.items)).length ≤ 200000 := Nat.le_trans (keepZ_len _) (by rw [List.length_zip]; have h1 : V.items.length ≤ 200000 := hV.1; omega)
    refine ⟨by show ((keepZ (V.keys.zip V.items)).map Prod.snd).length ≤ _; rw [List.length_map]; exact hz, by show ((keepZ (V.keys.zip V.items)).map Prod.fst).length ≤ _; rw [List.length_map]; exact hz, ?_, ?_⟩
    · show fs.length ≤ 200000
      unfold filtersOf at e
      cases e2 : filterNames V with
      | none => rw [e2] at e; cases e
      | some l =>
        rw [e2] at e
        have h1 := filts_len l fs e
        have h2 := filterNames_len (Made.few (k := k + 1) hV) e2
        omega
    · intro y hy
      have hy2 : y ∈ ((keepZ (V.keys.zip V.items)).map Prod.snd) := hy
      obtain ⟨⟨a, b⟩, h1, rfl⟩ := List.mem_map.1 hy2
      have h3 := (List.of_mem_zip (List.mem_filter.1 h1).1).2
      exact Made.fewf (hV.2.2.2.2.2 _ h3)
theorem objVal_fewf {r q : List Nat} {x : VT 12 × List Nat} (h : objVal r = some (x, q)) (hr : r.length ≤ 200000) : Fewf x.1 := by
  unfold objVal at h
  split at h
  · cases h
  · next V q1 e1 =>
    have hm := value_made e1 hr
    split at h
    · split at h
      · next t e2 =>
        unfold stream at h
        split at h
        · cases h
        · split at h
          · cases h
          · split at h
            · split at h
              · cases h
              · split at h
                · split at h
                  · cases h
                  · next S e3 => cases h; exact streamOf_fewf (k := 11) hm e3
                · cases h
            · cases h
      · cases h; exact Made.fewf hm
    · cases h; exact Made.fewf hm
theorem object_fewf {n : Nat} {r q : List Nat} {x : VT 12 × List Nat} (h : object n r = some (x, q)) (hr : r.length ≤ 200000) : Fewf x.1 := by
  unfold object at h
  split at h
  · cases h
  · next q1 e1 =>
    split at h
    · cases h
    · next q2 e2 =>
      split at h
      · cases h
      · next q3 e3 =>
        split at h
        · cases h
        · next y q4 e4 =>
          split at h
          · cases h
          · cases h
            have := takesWord_len e1
            have := takesWord_len e2
            have := takesWord_len e3
            exact objVal_fewf e4 (by omega)
theorem objects_fewf (len : Nat) : ∀ (f n : Nat) (r : List Nat) (z : (List (VT 12 × List Nat) × List Nat) × List Nat), objects len f n r = some z → r.length ≤ 200000 → z.1.1.length + z.2.length ≤ r.length ∧ ∀ x ∈ z.1.1, Fewf x.1
  | 0, n, r, z, h, _ => by cases h
  | f + 1, n, r, z, h, hr => by
    rw [objects] at h
    split at h
    · cases h; exact ⟨by simp, fun x hx => by cases hx⟩
    · cases e : object (n + 1) r with
      | none => rw [e] at h; cases h
      | some y =>
        obtain ⟨x, q⟩ := y
        rw [e] at h
        simp only [] at h
        have h1 := object_len e
        have h2 := object_fewf e hr
        have h3 := skip_len q
        cases e2 : objects len f (n + 1) (skip q) with
        | none => rw [e2] at h; cases h
        | some z2 =>
          rw [e2] at h
          cases h
          have ih := objects_fewf len f (n + 1) (skip q) z2 e2 (by omega)
          refine ⟨by simp only [List.length_cons]; omega, fun y hy => ?_⟩
          rcases List.mem_cons.1 hy with rfl | hy
          · exact h2
          · exact ih.2 y hy
theorem document_fewf {data : List Nat} {z : List (VT 12 × List Nat) × Int} (h : document data = some z) (hd : data.length ≤ 200000) : z.1.length ≤ 200000 ∧ ∀ x ∈ z.1, Fewf x.1 := by
  unfold document at h
  split at h
  · cases h
  · next r e1 =>
    have h1 := (takes_len e1).1
    have h2 := skip_len r
    split at h
    · cases h
    · next z2 e2 =>
      have h3 := objects_fewf _ _ _ _ _ e2 (by omega)
      split at h
      · cases h
      · split at h
        · cases h
        · split at h
          · cases h
          · cases h
            exact ⟨by show z2.1.1.length ≤ 200000; omega, h3.2⟩
/-- A file, read: where no object is a stream. -/
def readPlain (data : List Nat) : Option (List (VT 12) × Int) := match document data with
  | none => none
  | some z => if isDoc (z.1.map Prod.fst) z.2 = true then some (z.1.map Prod.fst, z.2) else none
end Fo
end Go.Proofs.YtgkljcmjnphpeaaGreatDoor
namespace Go.Proofs.YtgkljcmjnphpeaaGreatDoor
open Go.RowKit
variable {w w' : World}
/-- What reader.Document comes to. -/
def RdRes (w : World) (o : Option (List (VT 12) × Int)) (e : Ending) (w' : World) : Prop :=
  Below w.heap.size w w' ∧ match o with
    | some z => ∃ ov, e = .returned (.agg #[ov, .int .i64 z.2]) ∧ Vals (fun g => w.heap.size ≤ g) 12 w.heap.size z.1 w' ov
    | none => e = gaveUp 4
theorem RdRes.none_ {o : Option (List (VT 12) × Int)} (b : Below w.heap.size w w') (h : o = none) : RdRes w o (gaveUp 4) w' := by subst h; exact ⟨b, rfl⟩
theorem RdRes.some_ {o : Option (List (VT 12) × Int)} {Vs : List (VT 12)} {root : Int} {ov : Value} (b : Below w.heap.size w w') (h : o = some (Vs, root)) (hv : Vals (fun g => w.heap.size ≤ g) 12 w.heap.size Vs w' ov) : RdRes w o (.returned (.agg #[ov, .int .i64 root])) w' := by subst h; exact ⟨b, _, rfl, hv⟩
/-- A value's kind, as its first cell. -/
theorem VIn.kindCell {P : Nat → Prop} {k : Nat} {v : Value} {V : VT k} (h : VIn P k w v V) : ∃ (k1 k2 : Int) (k3 : ByteArray) (ja : Option Addr) (jl jc : Nat) (ka : Option Addr) (kl kc : Nat) (fa : Option Addr) (fl fc : Nat), v = .agg #[.int .i64 (kindOf V : Int), .int .i64 k1, .int .i64 k2, .string k3, .slice ja jl jc, .slice ka kl kc, .slice fa fl fc] := by
  obtain ⟨pp, ia, il, ic, ka, kl, kc, fa, fl, fc, e⟩ := VIn.form2 h
  exact ⟨_, _, _, _, _, _, _, _, _, _, _, _, e⟩
set_option maxRecDepth 100000 in
set_option maxHeartbeats 4000000 in
theorem rdoc_ok {ao : Option Addr} {cap : Nat} {data : List Nat} {most : Int} (he : Env w.heap.size w) (hd : Dat w w.heap.size ao data) (byt : ∀ i, i < data.length → nth data i < 256) (len : data.length ≤ 200000) (lc : data.length ≤ cap ∧ cap ≤ 9223372036854775807) (ad : ∃ bd o, ao = some ⟨bd, o, none⟩ ∧ bd < w.heap.size)
    (hns : ∀ z, Fo.document data = some z → ∀ x ∈ z.1, kindOf x.1 ≠ 8) :
    Calls Tryz.prog 66 #[.slice ao data.length cap, .int .i64 most] w (RdRes w (Fo.readPlain data)) := by
  obtain ⟨R, hR⟩ : ∃ R, Fo.readPlain data = R := ⟨_, rfl⟩
  rw [hR]
  have HR := hide hR
  unfold Fo.readPlain at HR
  have b2 : Below w.heap.size w ((w.alloc (.cells #[.slice none 0 0, .int .i64 0] 31)).alloc (.cells #[.slice ao data.length cap, .int .i64 0, .slice none 0 0, .slice none 0 0, .slice none 0 0] 131)) := ((Below.refl _ _).alloc (Nat.le_refl _) _).alloc (by simp) _
  have hs2 : ((w.alloc (.cells #[.slice none 0 0, .int .i64 0] 31)).alloc (.cells #[.slice ao data.length cap, .int .i64 0, .slice none 0 0, .slice none 0 0, .slice none 0 0] 131)).heap.size = w.heap.size + 2 := by simp
  have hx0 : ((w.alloc (.cells #[.slice none 0 0, .int .i64 0] 31)).alloc (.cells #[.slice ao data.length cap, .int .i64 0, .slice none 0 0, .slice none 0 0, .slice none 0 0] 131)).heap[w.heap.size]? = some (.cells #[.slice none 0 0, .int .i64 0] 31 (0, 0)) := blk_alloc _ (blk_new _ _)
  have hx1 : ((w.alloc (.cells #[.slice none 0 0, .int .i64 0] 31)).alloc (.cells #[.slice ao data.length cap, .int .i64 0, .slice none 0 0, .slice none 0 0, .slice none 0 0] 131)).heap[w.heap.size + 1]? = some (.cells #[.slice ao data.length cap, .int .i64 0, .slice none 0 0, .slice none 0 0, .slice none 0 0] 131 (0, 0)) := by
    have := blk_new (w.alloc (.cells #[.slice none 0 0, .int .i64 0] 31)) (.cells #[.slice ao data.length cap, .int .i64 0, .slice none 0 0, .slice none 0 0, .slice none 0 0] 131)
    rw [World.size_alloc] at this
    exact this
  obtain ⟨w2, hw2⟩ : ∃ w2, (w.alloc (.cells #[.slice none 0 0, .int .i64 0] 31)).alloc (.cells #[.slice ao data.length cap, .int .i64 0, .slice none 0 0, .slice none 0 0, .slice none 0 0] 131) = w2 := ⟨_, rfl⟩
  rw [hw2] at b2 hs2 hx0 hx1
  have hsc : Sc w.heap.size (w.heap.size + 1) ao cap data (.slice none 0 0) (.slice none 0 0) (.slice none 0 0) w2 data :=
    ⟨Nat.le_succ _, by rw [hx1, Nat.sub_self]; rfl, hd.other (fun g hg => b2.block g hg), byt, len, lc, Nat.le_refl _, by rw [Nat.sub_self]; rfl, ad⟩
  have he2 : Env w.heap.size w2 := he.only (bs := w.heap.size + 1) (Nat.le_succ _) (Nat.le_refl _) (.of_below b2)
  have HD := hide (document_ok he2 hsc)
  have HB2 := hide b2
  have HW2 := hide hw2
  have HX0 := hide hx0
  have HFW := hide (fun z (hz : Fo.document data = some z) => Fo.document_fewf hz len)
  have HNS := hide hns
  have HBO : Hid (∀ W : World, Only (w.heap.size + 1) w2 W → Below w.heap.size w W) := fun W o => ⟨o.os.trans b2.os, o.tape.trans b2.tape, o.output.trans b2.output, by have := o.size; omega, fun g hg => (o.block g (by omega) (by omega)).trans (b2.block g hg)⟩
  clear hR hd byt lc ad hns he hsc he2 b2 hx0 hx1 hw2
  generalize hdl : data.length = dl at *
  clear hdl len
  cases e1 : Fo.document data with
  | none =>
    rw [e1] at HD HR
    have HRN : Hid (R = none) := HR.out.symm
    clear HR
    go_enter Tryz.func66, Tryz.ntmps66
    go_wp2_with fail
    rw [HW2.out]
    refine HD.out.mono ?_
    rintro e w3 ⟨rfl, k3⟩
    exact ⟨rfl, .none_ (HBO.out _ k3) HRN.out⟩
  | some z =>
    obtain ⟨xs, root⟩ := z
    have hfw := HFW.out _ e1
    have hns := HNS.out _ e1
    rw [e1] at HD HR
    simp only [] at HR hfw hns
    clear e1 HFW HNS
    go_enter Tryz.func66, Tryz.ntmps66
    go_wp2_with fail
    rw [HW2.out]
    refine HD.out.mono ?_
    rintro e w3 ⟨ov, pv, lv, vs, ps, pls, q, rfl, h3⟩
    have H3 := hide h3
    have hb3 := HBO.out _ h3.only
    obtain ⟨oa, oc, hov⟩ := own_slice h3.oo
    have hvl : vs.length = (xs.map Prod.fst).length := h3.len
    rw [hvl] at hov
    obtain ⟨n, hn⟩ : ∃ n, (xs.map Prod.fst).length = n := ⟨_, rfl⟩
    rw [hn] at hov
    have hn2 : n ≤ 200000 := by rw [← hn, List.length_map]; exact hfw.1
    have HV3 : Hid (Vals (fun g => w2.heap.size ≤ g) 12 w2.heap.size (xs.map Prod.fst) w3 ov) := ⟨vs, h3.oo, h3.len, fun i x y hx hy => VIn.mono 12 (h3.ch i x y hx hy) (fun g hg _ => hg.1)⟩
    have HKD : Hid (∀ y ∈ xs.map Prod.fst, kindOf y ≠ 8) := fun y hy => by
      obtain ⟨x, hx, rfl⟩ := List.mem_map.1 hy
      exact hns x hx
    have HFF : Hid (∀ y ∈ xs.map Prod.fst, Fewf y) := fun y hy => by
      obtain ⟨x, hx, rfl⟩ := List.mem_map.1 hy
      exact hfw.2 x hx
    have hx03 : w3.heap[w.heap.size]? = some (.cells #[.slice none 0 0, .int .i64 0] 31 (0, 0)) := by
      rw [h3.only.block _ (lt_of_block HX0.out) (by omega)]; exact HX0.out
    have hs3 := h3.only.size
    subst hov
    generalize xs.map Prod.fst = Vs at *
    have HN := hide hn
    have b4 : Below w3.heap.size w3 (w3.alloc (.cells #[.slice oa n oc, .int .i64 root] 31)) := (Below.refl _ _).alloc (Nat.le_refl _) _
    have hx4 : (w3.alloc (.cells #[.slice oa n oc, .int .i64 root] 31)).heap[w3.heap.size]? = some (.cells #[.slice oa n oc, .int .i64 root] 31 (0, 0)) := blk_new _ _
    have hx04 : (w3.alloc (.cells #[.slice oa n oc, .int .i64 root] 31)).heap[w.heap.size]? = some (.cells #[.slice none 0 0, .int .i64 0] 31 (0, 0)) := blk_alloc _ hx03
    have HB4 : Hid (Below w.heap.size w (w3.alloc (.cells #[.slice oa n oc, .int .i64 root] 31))) := hb3.trans (b4.mono hb3.size)
    have HV4 := hide (HV3.out.keep b4)
    have HIS := hide (is_ok (root := root) HV4.out.base HFF.out (by rw [HN.out]; exact hn2))
    obtain ⟨w4, hw4⟩ : ∃ w4, w3.alloc (.cells #[.slice oa n oc, .int .i64 root] 31) = w4 := ⟨_, rfl⟩
    rw [hw4] at hx4 hx04 HB4 HV4 HIS
    have HW4 := hide hw4
    have HX4 := hide hx4
    have HX04 := hide hx04
    have hs4 : w3.heap.size < w4.heap.size := lt_of_block hx4
    clear h3 H3 hb3 hvl hn hfw hns hx03 HD HV3 b4 hx4 hx04 hw4 HX0
    cases e2 : Fo.isDoc Vs root with
    | false =>
      rw [e2] at HIS HR
      have HRN : Hid (R = none) := HR.out.symm
      clear HR
      have d0 : w4.cell? ⟨w3.heap.size, 0, none⟩ = some (.slice oa n oc) := by rw [cell_blk HX4.out]; rfl
      have d1 : w4.cell? ⟨w3.heap.size, 1, none⟩ = some (.int .i64 root) := by rw [cell_blk HX4.out]; rfl
      go_wp2_with fail
      try rw [HW4.out]
      refine HIS.out.mono ?_
      rintro e w5 ⟨rfl, b5⟩
      have B5 := hide (HB4.out.trans (b5.mono HB4.out.size))
      clear b5
      go_wp2_with fail
      refine (smust_no _).mono ?_
      rintro e w' ⟨rfl, hw⟩
      have hw := hw.symm
      subst hw
      exact ⟨rfl, .none_ B5.out HRN.out⟩
    | true =>
      rw [e2] at HIS HR
      have HRS : Hid (R = some (Vs, root)) := HR.out.symm
      clear HR
      go_wp2_with fail
      try rw [HW4.out]
      refine HIS.out.mono ?_
      rintro e w5 ⟨rfl, b5⟩
      have B5 := hide (HB4.out.trans (b5.mono HB4.out.size))
      have HV5 := hide (HV4.out.keep b5)
      have HX5 : Hid (w5.heap[w3.heap.size]? = some (.cells #[.slice oa n oc, .int .i64 root] 31 (0, 0))) := by unfold Hid; rw [b5.block _ hs4]; exact HX4.out
      have HX05 : Hid (w5.heap[w.heap.size]? = some (.cells #[.slice none 0 0, .int .i64 0] 31 (0, 0))) := by unfold Hid; rw [b5.block _ (lt_of_block HX04.out)]; exact HX04.out
      have hs5 : w3.heap.size < w5.heap.size := lt_of_block HX5.out
      clear b5 HIS HB4 HV4 HX4 HX04 hs4
      go_wp2_with fail
      refine (smust_yes _).mono ?_
      rintro e w' ⟨rfl, hw⟩
      have hw := hw.symm
      subst hw
      have d0 : w5.cell? ⟨w3.heap.size, 0, none⟩ = some (.slice oa n oc) := by rw [cell_blk HX5.out]; rfl
      go_wp2
      go_loopw [21] (fun i wr => ∃ (m : Nat), m ≤ n ∧ i = .int .i64 m ∧ Hid (Below w5.heap.size w5 wr)) (fun i _ => n - (intOf i).toNat)
      case atStart => exact ⟨0, Nat.zero_le _, rfl, Below.refl _ _⟩
      case round =>
        obtain ⟨m, hm, rfl, HB⟩ := hrel
        rcases Nat.eq_or_lt_of_le hm with hm | hm
        · subst hm
          have hx6 : wr.heap[w3.heap.size]? = some (.cells #[.slice oa m oc, .int .i64 root] 31 (0, 0)) := by rw [HB.out.block _ hs5]; exact HX5.out
          have hx06 : wr.heap[w.heap.size]? = some (.cells #[.slice none 0 0, .int .i64 0] 31 (0, 0)) := by rw [HB.out.block _ (lt_of_block HX05.out)]; exact HX05.out
          have v0 : wr.cell? ⟨w3.heap.size, 0, none⟩ = some (.slice oa m oc) := by rw [cell_blk hx6]; rfl
          have v1 : wr.cell? ⟨w3.heap.size, 1, none⟩ = some (.int .i64 root) := by rw [cell_blk hx6]; rfl
          have r0 : wr.cell? ⟨w.heap.size, 0, none⟩ = some (.slice none 0 0) := by rw [cell_blk hx06]; rfl
          have r1 : wr.cell? ⟨w.heap.size, 1, none⟩ = some (.int .i64 0) := by rw [cell_blk hx06]; rfl
          have f0 : wr.frozen? ⟨w.heap.size, 0, none⟩ = false := free_blk hx06
          have f1 : wr.frozen? ⟨w.heap.size, 1, none⟩ = false := free_blk hx06
          have HX6 := hide hx06
          clear hx6 hx06
          go_wp2
          have hf := set2g HX6.out (.slice oa m oc) (.int .i64 root)
          have ho : Only w.heap.size wr ((wr.setCell ⟨w.heap.size, 0, none⟩ (.slice oa m oc)).setCell ⟨w.heap.size, 1, none⟩ (.int .i64 root)) := ((Only.refl _ wr).setCell 0 _).setCell 1 _
          refine bodyPost_ret (v := .agg #[.slice oa m oc, .int .i64 root]) ?_ rfl ?_
          · exact results_cell_row Tryz.results66 _ _ w.heap.size 31 _ _ _ rfl hf Tryz.underlying31 rfl (by kernel_rfl)
          have bw : Below w.heap.size w wr := B5.out.trans (HB.out.mono B5.out.size)
          refine .some_ ⟨ho.os.trans bw.os, ho.tape.trans bw.tape, ho.output.trans bw.output, Nat.le_trans bw.size ho.size, fun g hg => (ho.block g (by have := bw.size; omega) (by omega)).trans (bw.block g hg)⟩ HRS.out ?_
          obtain ⟨ys, k1, k2, k3⟩ := HV5.out.keep HB.out
          refine ⟨ys, ?_, k2, fun i x y hx hy => VIn.mono 12 (VIn.keep 12 (k3 i x y hx hy) (fun g hg hg2 => ho.block g hg2 (by omega))) (fun g hg _ => by omega)⟩
          obtain ⟨j1, j2⟩ := k1
          refine ⟨j1, ?_⟩
          rcases j2 with j2 | ⟨g, c, cur, e1, e2, hh, hc⟩
          · exact Or.inl j2
          · exact Or.inr ⟨g, c, cur, e1, by omega, by rw [ho.block g (lt_of_block hh) (by omega)]; exact hh, hc⟩
        · obtain ⟨y, hy⟩ : ∃ y, Vs[m]? = some y := ⟨_, List.getElem?_eq_getElem (by rw [HN.out]; exact hm)⟩
          obtain ⟨g, c, x, hge, _, _, hx, hxc⟩ := (HV5.out.keep HB.out).at hy
          rw [HN.out] at hge
          cases hge
          have hk8 := HKD.out y (List.mem_of_getElem? hy)
          obtain ⟨k1, k2, k3, ja, jl, jc, ka, kl, kc, fa, fl, fc, rfl⟩ := VIn.kindCell hx
          have e0 : wr.cell? ⟨g, m * 7, none⟩ = some (.int .i64 (kindOf y : Int)) := hxc 0 _ rfl
          have e1 : wr.cell? ⟨g, m * 7 + 1, none⟩ = some (.int .i64 k1) := hxc 1 _ rfl
          have e2 : wr.cell? ⟨g, m * 7 + 2, none⟩ = some (.int .i64 k2) := hxc 2 _ rfl
          have e3 : wr.cell? ⟨g, m * 7 + 3, none⟩ = some (.string k3) := hxc 3 _ rfl
          have e4 : wr.cell? ⟨g, m * 7 + 4, none⟩ = some (.slice ja jl jc) := hxc 4 _ rfl
          have e5 : wr.cell? ⟨g, m * 7 + 5, none⟩ = some (.slice ka kl kc) := hxc 5 _ rfl
          have e6 : wr.cell? ⟨g, m * 7 + 6, none⟩ = some (.slice fa fl fc) := hxc 6 _ rfl
          have t8 : ((kindOf y : Int) == 8) = false := by simp; omega
          have HB6 := hide (fun o : Obj => HB.out.alloc HB.out.size o)
          generalize (kindOf y : Int) = ky at *
          clear hx hxc hy hk8
          go_wp2
          go_roundw
          case rel => exact ⟨m + 1, by omega, by first | rfl | (congr 1), HB6.out _⟩
          case measure => simp [intOf]; omega
end Go.Proofs.YtgkljcmjnphpeaaGreatDoor
