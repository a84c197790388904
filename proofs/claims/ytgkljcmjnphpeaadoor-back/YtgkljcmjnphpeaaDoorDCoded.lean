/- coded: one block of the fixed codes. -/
import Derived.Test.YtgkljcmjnphpeaaDoorDPart
import Derived.Test.YtgkljcmjnphpeaaDoorTab
set_option linter.unusedVariables false
set_option linter.unusedSimpArgs false
namespace Go.Proofs.YtgkljcmjnphpeaaDoor
open Go.RowKit
variable {w : World} {B bw bm g1 g2 cap T : Nat} {data : List Nat} {ao : Option Addr} {bs : List Bool} {at_ : Nat} {rest : List Value}

theorem run_build71 (ao : Option Addr) (n c m a x1 x2 b y1 y2 : Nat) (W : World) : (Instr.build 71 #[(1, .slice ao n c), (3, .map (some m)), (4, .slice (some ⟨a, 0, none⟩) x1 x2), (5, .slice (some ⟨b, 0, none⟩) y1 y2)]).run Tryd.prog W = .ok (.agg #[.slice none 0 0, .int .i64 0, .slice ao n c, .int .i64 0, .map (some m), .slice (some ⟨a, 0, none⟩) x1 x2, .slice (some ⟨b, 0, none⟩) y1 y2]) W := by kernel_rfl

theorem wpList_build4 {P : Program} {w : World} {ops : Array Oper} {rest : List Oper} {o : Oper} {a : Act} {Q : Exit → Act → World → Prop} (hgd : o.guard = none) (t i j k l : Nat) (x y z u : Operand) (ho : o.op = .build t #[(i, x), (j, y), (k, z), (l, u)])
    (vx vy vz vu v : Value) (hx : a.eval x = vx) (hy : a.eval y = vy) (hz : a.eval z = vz) (hu : a.eval u = vu) (hrun : ∀ W, (Instr.build t #[(i, vx), (j, vy), (k, vz), (l, vu)]).run P W = .ok v W) (h : wpList P ops Q rest (a.put o.dst v) w) : wpList P ops Q (o :: rest) a w := by
  refine wpList_plain hgd fun K hK => ?_
  unfold Oper.wp
  simp [execOp, ho, hx, hy, hz, hu, hrun, Result.andThen]
  exact hK _ _ h

theorem IntRow.below {g : Nat} {l : List Nat} {w' : World} (h : IntRow w g l) (k : Below w.heap.size w w') : IntRow w' g l := by
  obtain ⟨c, fz, hb, hc⟩ := h
  exact ⟨c, fz, by rw [k.block _ (lt_of_block hb)]; exact hb, hc⟩
theorem IntRow.setCells {g b o : Nat} {l : List Nat} {vs : List Value} (h : IntRow w g l) (hne : g ≠ b) : IntRow (w.setCells b o vs) g l := by
  obtain ⟨c, fz, hb, hc⟩ := h
  exact ⟨c, fz, by rw [setCells_ne _ hne]; exact hb, hc⟩
theorem fixedCells_one (g1 g2 : Nat) : (fixedCells g1 g2).toArray.all (·.oneCell') = true := by
  unfold fixedCells ints
  simp [Value.oneCell']

set_option maxRecDepth 100000 in
set_option maxHeartbeats 2000000 in
theorem newDeflater_ok (hd : Dat w B ao data) (hB : B ≤ w.heap.size) (byt : ∀ i, i < data.length → nth data i < 256) (len : data.length ≤ 1000000) (lc : data.length ≤ cap ∧ cap ≤ 9223372036854775807) :
    Calls Tryd.prog 43 #[.slice ao data.length cap] w fun e w' => ∃ bw bm g1 g2, e = .returned (.pointer (some ⟨bw, 0, none⟩)) ∧ De w.heap.size bw bm g1 g2 cap data ao w' [] 0 ∧ Below w.heap.size w w' := by
  have hmm := @run_makeMap Tryd.prog
  have HD := hide hd
  have BYT := hide byt
  clear hd byt
  go_enter Tryd.func43, Tryd.ntmps43
  go_wp2_with fail
  refine fixedCodes_ok.mono ?_
  rintro e w1 ⟨q1, q2, rfl, i1, i2, b1, n1, n2⟩
  have hone := fixedCells_one q1 q2
  have hlen := fixedCells_length q1 q2
  generalize hF : fixedCells q1 q2 = F at *
  have HF := hide hF
  clear hF
  have hszA : F.toArray.size = 34 := List.size_toArray.trans hlen
  have hi34 : Hid ((Tryd.prog.info? 54).map (·.size) = some F.toArray.size) := by unfold Hid; rw [hszA]; kernel_rfl
  have ht34 : Hid ((w1.alloc zero34).there w1.heap.size 0 F.toArray.size) := by unfold Hid; rw [hszA]; exact there34 (blk_new _ _)
  have HW2 : Hid (∃ W2, (w1.alloc zero34).setCells w1.heap.size 0 F = W2) := ⟨_, rfl⟩
  have l1 : q1 < w1.heap.size := by obtain ⟨c, fz, hb, _⟩ := i1; exact lt_of_block hb
  have l2 : q2 < w1.heap.size := by obtain ⟨c, fz, hb, _⟩ := i2; exact lt_of_block hb
  have HC2 : Hid (CdF ((w1.alloc zero34).setCells w1.heap.size 0 F) w1.heap.size ∧ CdD ((w1.alloc zero34).setCells w1.heap.size 0 F) w1.heap.size) := by
    rw [← HF.out] at hlen ⊢
    have ba : Below w1.heap.size w1 (w1.alloc zero34) := (Below.refl _ _).alloc (Nat.le_refl _) _
    exact fixed_cd (setCells_whole (blk_new w1 zero34) (by rw [hlen]; rfl)) ((i1.below ba).setCells (by omega)) ((i2.below ba).setCells (by omega))
  have HB2 : Hid (Below w.heap.size w ((w1.alloc zero34).setCells w1.heap.size 0 F)) := setCells_below _ _ b1.size _ _ _ _ (b1.alloc b1.size _)
  clear i1 i2 b1 l1 l2 HF hlen hszA
  go_wp2_with (refine wpList_store_mid (by rfl) 54 (.tmp 3) (.tmp 4) (by rfl) w1.heap.size 0 F.toArray (by rfl) (by rfl) ht34.out hi34.out hone ?_)
  generalize hW2 : World.setCells (w1.alloc _) w1.heap.size 0 F = W2
  have HCF : Hid (CdF W2 w1.heap.size ∧ CdD W2 w1.heap.size) := by rw [← hW2]; exact HC2.out
  have HBW : Hid (Below w.heap.size w W2) := by rw [← hW2]; exact HB2.out
  clear hW2 HC2 HB2 HW2 ht34 hi34 hone
  have ba : Below W2.heap.size W2 (W2.alloc (.map #[] 0)) := (Below.refl _ _).alloc (Nat.le_refl _) _
  have hmap : (W2.alloc (.map #[] 0)).heap[W2.heap.size]? = some (.map #[] 0) := blk_new _ _
  have HCA := hide (HCF.out.1.below ba)
  have HCB := hide (HCF.out.2.below ba)
  have HBA := hide (HBW.out.trans (ba.mono HBW.out.size))
  have hlt2 : W2.heap.size < (W2.alloc (.map #[] 0)).heap.size := by simp
  have hle2 := HBW.out.size
  generalize hW3 : W2.alloc (.map #[] 0) = W3 at *
  generalize hbm : W2.heap.size = m at *
  clear hW3 hbm ba HCF HBW
  refine (bySymF _ HCA.out).mono ?_
  rintro e w3 ⟨rfl, r1, b3⟩
  have HCB3 := hide (HCB.out.below b3)
  have HB3 := hide (HBA.out.trans (b3.mono HBA.out.size))
  have hs3 := b3.size
  have hmap3 : w3.heap[m]? = some (.map #[] 0) := by rw [b3.block _ hlt2]; exact hmap
  have hA := HBA.out.size
  clear HCA HCB HBA b3 hmap
  have R1 := hide r1
  clear r1
  have lr1 : W3.heap.size < w3.heap.size := by obtain ⟨C, hb, _⟩ := R1.out; exact lt_of_block hb
  go_wp2_with fail
  refine (bySymD _ HCB3.out).mono ?_
  rintro e w4 ⟨rfl, r2, b4⟩
  have R2 := hide r2
  have HB4 := hide (HB3.out.trans (b4.mono HB3.out.size))
  have R14 := hide (R1.out.below' b4)
  have hmap4 := hide (show w4.heap[m]? = some (.map #[] 0) by rw [b4.block _ (by omega)]; exact hmap3)
  have hs4 := b4.size
  clear r2 b4 R1 HB3 hmap3 HCB3
  generalize W3.heap.size = gg1 at *
  generalize hgg2 : w3.heap.size = gg2 at *
  clear hgg2
  have hbuild := hide (run_build71 ao data.length cap m gg1 288 288 gg2 32 32)
  have tokb : True := trivial
  go_wp2_with (have _t := tokb; refine wpList_build4 (by rfl) 71 1 3 4 5 (.tmp 5) (.tmp 6) (.tmp 8) (.tmp 10) (by rfl) _ _ _ _ _ (by rfl) (by rfl) (by rfl) (by rfl) hbuild.out ?_; clear tokb)
  go_ret
  have ba : Below w4.heap.size w4 (w4.alloc (.cells #[.slice none 0 0, .int .i64 0, .slice ao data.length cap, .int .i64 0, .map (some m), .slice (some ⟨gg1, 0, none⟩) 288 288, .slice (some ⟨gg2, 0, none⟩) 32 32] 71)) := (Below.refl _ _).alloc (Nat.le_refl _) _
  refine ⟨w4.heap.size, m, gg1, gg2, rfl, ?_, HB4.out.trans (ba.mono HB4.out.size)⟩
  have hss := HB4.out.size
  refine ⟨⟨.slice none 0 0, [], 0, ⟨hss, by decide, blk_new _ _, World.ownsRow_nil _ _ _ _⟩, Fo.BW.nil⟩, ?_, BYT.out, len, lc, Nat.zero_le _, ?_, R14.out.below' ba, R2.out.below' ba, hle2⟩
  · intro i hi
    obtain ⟨b, o, e1, e2, e3⟩ := HD.out i hi
    exact ⟨b, o, e1, by omega, ((HB4.out.trans (ba.mono HB4.out.size)).cell (p := ⟨b, o + i, none⟩) (by show b < _; omega)).trans e3⟩
  · exact ⟨#[], 0, blk_alloc _ hmap4.out, by simp⟩
end Go.Proofs.YtgkljcmjnphpeaaDoor
namespace Go.Proofs.YtgkljcmjnphpeaaDoor
open Go.RowKit
variable {w : World} {B bw bm g1 g2 cap T : Nat} {data : List Nat} {ao : Option Addr} {bs : List Bool} {at_ : Nat} {rest : List Value}

/-- Where a deflater stands. -/
def atOf (bw : Nat) (w : World) : Nat := (intOf ((w.cell? ⟨bw, 3, none⟩).getD undef)).toNat
theorem De.atOf (h : De B bw bm g1 g2 cap data ao w bs at_) : atOf bw w = at_ := by unfold Go.Proofs.YtgkljcmjnphpeaaDoor.atOf; rw [h.cells.2.1]; simp [intOf]

/-- The bits of a block of the fixed codes. -/
def fixedBits (eb : List Bool) : List Bool := true :: (Fo.numBits 2 1 ++ (eb ++ Fo.codeBits Fo.tabF 256))

theorem code256 : tnth Fo.tabF 256 = (0, 7) := by decide +kernel
theorem fixedBits_eq (eb : List Bool) : (Fo.numBits 1 1 ++ Fo.numBits 2 1 ++ eb) ++ Fo.highBits 0 7 = fixedBits eb := by
  unfold fixedBits
  rw [codeBits_eq, code256, List.append_assoc, List.append_assoc]; rfl

set_option maxRecDepth 100000 in
set_option maxHeartbeats 2000000 in
theorem dcoded_ok (hd : Dat w B ao data) (hB : B ≤ w.heap.size) (byt : ∀ i, i < data.length → nth data i < 256) (len : data.length ≤ 1000000) (lc : data.length ≤ cap ∧ cap ≤ 9223372036854775807) :
    Calls Tryd.prog 27 #[.slice ao data.length cap] w fun e w' => ∃ (ov : Value) (out : List Nat) (used : Nat) (eb : List Bool), e = .returned ov ∧ w'.ownsRow w.heap.size 5 1 ov out.length (out.map fun x : Nat => .int .u8 (x : Int)) ∧ Below w.heap.size w w' ∧ Fo.BW out used (fixedBits eb) ∧ Fo.Enc data data.length eb ∧ eb.length ≤ 40 * data.length := by
  have HN := hide (newDeflater_ok hd hB byt len lc)
  clear hd byt
  go_enter Tryd.func27, Tryd.ntmps27
  go_wp2_with fail
  refine HN.out.mono ?_
  rintro e w1 ⟨bw, bm, g1, g2, rfl, h1, b1⟩
  have H1 := hide h1
  have B1 := hide b1
  clear h1 b1 HN
  go_wp2_with fail
  refine (wbits_ok H1.out.wx 1 1 (by omega) (by omega) (by simp)).mono ?_
  rintro e w2 ⟨rfl, hx2, k2⟩
  have H2 := hide (De.write H1.out k2 hx2)
  have K2 := hide k2
  clear H1 hx2 k2
  go_wp2_with fail
  refine (wbits_ok H2.out.wx 1 2 (by omega) (by omega) (by simp [Fo.numBits_length])).mono ?_
  rintro e w3 ⟨rfl, hx3, k3⟩
  have H3 := hide (De.write H2.out k3 hx3)
  have K3 := hide (show Kept 5 w.heap.size [bw, bm] w1 w3 from Kept.two (K2.out.trans k3))
  have hs1 := B1.out.size
  have hbwbm : w.heap.size ≤ bw ∧ w.heap.size ≤ bm := ⟨H2.out.cells.2.2.2.2.2.1, H2.out.hbm⟩
  clear H2 hx3 k3 K2
  go_wp2
  go_loopw [14] (fun _ wr => ∃ (a : Nat) (eb : List Bool), De w.heap.size bw bm g1 g2 cap data ao wr (Fo.numBits 1 1 ++ Fo.numBits 2 1 ++ eb) a ∧ Hid (Fo.Enc data a eb ∧ eb.length ≤ 40 * a) ∧ Kept 5 w.heap.size [bw, bm] w1 wr) (fun _ wr => data.length - atOf bw wr)
  case atStart => exact ⟨0, [], by simpa using H3.out, hide ⟨.nil, by simp⟩, K3.out⟩
  case round =>
    obtain ⟨a, eb, hf, HE, kk⟩ := hrel
    have HF := hide hf
    have KK := hide kk
    have hm := hide hf.atOf
    have hle := hf.hat
    obtain ⟨_, c3, _, c5, _, _, hbl, _⟩ := hf.cells
    clear hf kk
    have hebl := HE.out.2
    by_cases hlt : a < data.length
    · have hlt' : (a : Int) < data.length := by omega
      go_wp2_with fail
      refine (dpart_ok HF.out hlt (by simp only [List.length_append, Fo.numBits_length]; omega)).mono ?_
      rintro e w4 ⟨rfl, p, n, hn, hal, h4, henc, hpl, k4⟩
      have hm4 := hide h4.atOf
      go_wp2
      go_roundw
      case rel => exact ⟨a + n, eb ++ p, by simpa only [List.append_assoc] using h4, hide ⟨henc _ HE.out.1, by rw [List.length_append]; omega⟩, KK.out.trans k4⟩
      case measure => rw [hm.out, hm4.out]; omega
    · obtain rfl : a = data.length := by omega
      obtain ⟨q0, q1⟩ := HF.out.code1 256 0 7 (by omega) code256
      have HFd := hide HF.out.drew
      have HC := hide (wcode_ok (w := wr.drew) HFd.out.wx (0, 7) (by show 0 < _; omega) (by show 7 ≤ _; omega) (by simp only [List.length_append, Fo.numBits_length]; omega))
      unfold codeVal at HC
      simp only [] at HC
      rw [fixedBits_eq] at HC
      go_wp2_with fail
      go_region_with (go_at_call 46; refine HC.out.mono ?_; rintro e w4 ⟨rfl, hx4, k4⟩)
      all_goals (
        obtain ⟨ov, out, used, hq, hb⟩ := hx4
        have c0 := hq.c0
        go_wp2
        go_ret
        exact ⟨ov, out, used, eb, rfl, hq.own, B1.out.trans (((KK.out.drew).trans (Kept.two k4)).below hs1 (by simp; omega)), hb, HE.out.1, HE.out.2⟩)
end Go.Proofs.YtgkljcmjnphpeaaDoor
