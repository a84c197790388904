/- Filter 4 read, at every input: what the plain relation says. -/
import Derived.Test.YtgkljcmjnphpeaaGreatDoorK31
import Derived.Test.YtgkljcmjnphpeaaGreatDoorK32
set_option linter.unusedVariables false
set_option linter.unusedSimpArgs false
namespace Go.Proofs.YtgkljcmjnphpeaaGreatDoor
open Go.RowKit
variable {B br bf bd off cap : Nat} {d : List Nat} {most : Nat} {fixed : List Value} {w : World} {p held left window : Nat} {ov : Value} {out : List Nat}
theorem head_any (h : Bi B br bf bd off cap d most fixed w 0 held left window ov out) :
    Calls Tryz.prog 160 #[.pointer (some ⟨bf, 0, none⟩)] w (HdRes B br bf bd off cap d most fixed held left ov out w) := by
  by_cases c2 : 2 ≤ d.length
  · exact head_long h c2
  by_cases c0 : d.length = 0
  · exact (head_a h c0).mono fun e w' he => Or.inl ⟨fun hh => c2 hh.1, he⟩
  · exact (head_b h (by omega)).mono fun e w' he => Or.inl ⟨fun hh => c2 hh.1, he⟩
set_option maxRecDepth 100000 in
set_option maxHeartbeats 4000000 in
theorem decodeFlate_says (h : Rd B br bd off cap d most w 0 ov []) (hord : OrdW w) (hG : 1 < B) {res : Except Nat (List Nat)} (hf : Fo.FlateTo most (Fo.bitsOf d) res) :
    Calls Tryz.prog 116 #[.pointer (some ⟨br, 0, none⟩)] w fun e w' => DRes B br bd off cap d most w res e w' := by
  obtain ⟨r1, hO, HR⟩ : ∃ r1, Fo.OpenTo most (Fo.bitsOf d) r1 ∧ Hid ((∃ e, r1 = .error e ∧ res = .error e) ∨ (∃ r' o', r1 = .ok (r', o') ∧ res = Fo.sumDec r' o')) := by
    rcases hf with ⟨e, h, rfl⟩ | ⟨r', o, h, rfl⟩
    · exact ⟨_, h, Or.inl ⟨e, rfl, rfl⟩⟩
    · exact ⟨_, h, Or.inr ⟨r', o, rfl, rfl⟩⟩
  have HERR : Hid (∀ n, r1 = .error n → res = .error n) := fun n hn => by
    rcases HR.out with ⟨e, h1, h2⟩ | ⟨r', o', h1, _⟩
    · rw [h1] at hn; cases hn; exact h2
    · rw [h1] at hn; cases hn
  have HSUM : Hid (∀ r o, r1 = .ok (r, o) → res = Fo.sumDec r o) := fun r o hn => by
    rcases HR.out with ⟨e, h1, _⟩ | ⟨r', o', h1, h2⟩
    · rw [h1] at hn; cases hn
    · rw [h1] at hn; cases hn; exact h2
  have HOP := hide (openTo_bytes h.byt hO)
  have HBYT := hide h.byt
  have hbB := h.hB
  have hBb := h.hb
  have HORD := hide hord
  clear hO hf HR hord
  go_enter Tryz.func116, Tryz.ntmps116
  go_wp2_with fail
  refine fixedCodes_ok.mono ?_
  rintro e w1 ⟨g1, g2, rfl, i1, i2, b1, q1, q2⟩
  have hbuild := hide (fun W => list38 (fixedCells g1 g2) W br (fixedCells_length g1 g2))
  have tokb : True := trivial
  generalize hF : fixedCells g1 g2 = F at *
  have HF := hide hF
  clear hF
  go_wp2_with (have _t := tokb; refine wpList_build2 (by rfl) 167 0 2 (.tmp 4) (.tmp 5) (by rfl) _ _ _ (by rfl) (by rfl) hbuild.out ?_; clear tokb)
  have r1' := h.ofBelow b1
  have hbr := lt_of_block h.blk
  have hb2 := Bi.start (F := F) r1'
  have hx2 := Fix.start (br := br) i1 i2 (.cells (Value.pointer (some ⟨br, 0, none⟩) :: .int .u8 0 :: .int .i64 0 :: .int .i64 0 :: F).toArray 167 (0, 0)) (by omega) (by omega)
  rw [HF.out] at hx2
  have kk0 : Below w.heap.size w (w1.alloc (.cells (Value.pointer (some ⟨br, 0, none⟩) :: .int .u8 0 :: .int .i64 0 :: .int .i64 0 :: F).toArray 167 (0, 0))) := b1.alloc b1.size _
  have ho2 : OrdW (w1.alloc (.cells (Value.pointer (some ⟨br, 0, none⟩) :: .int .u8 0 :: .int .i64 0 :: .int .i64 0 :: F).toArray 167 (0, 0))) := fun i hi => by
    rw [kk0.cell (p := ⟨1, i, none⟩) (by show 1 < _; omega)]
    exact HORD.out i hi
  have hbs := b1.size
  have hGS : 1 ∉ [br, w1.heap.size] := by simp; omega
  clear i1 i2 r1' hbuild HF q1 q2 b1 HORD
  refine (head_any hb2).mono ?_
  intro e w2 hhd
  rcases hhd with ⟨hbad, rfl, kh⟩ | ⟨hgood, rfl, hb3, kh⟩
  · have hE : res = .error 5 := by
      rcases HOP.out with ⟨_, h1⟩ | ⟨h1, _⟩
      · exact HERR.out 5 h1
      · exact absurd h1 hbad
    refine ⟨rfl, ?_⟩
    rw [hE]
    exact ⟨rfl, kept_through kk0 kh hbs⟩
  have hBL : Fo.BlocksTo (2 ^ (nth d 0 / 16 + 8)) most (Fo.bitsOf (d.drop 2)) [] r1 := by
    rcases HOP.out with ⟨h1, _⟩ | ⟨_, h1⟩
    · exact absurd hgood h1
    · exact h1
  have hW32 : 2 ^ (nth d 0 / 16 + 8) ≤ 32768 := Nat.le_trans (Nat.pow_le_pow_right (by omega) (show nth d 0 / 16 + 8 ≤ 15 by have := hgood.2.2.1; omega)) (by decide)
  generalize 2 ^ (nth d 0 / 16 + 8) = WD at *
  have HBK := hide hBL
  have hx3 := hx2.kept kh
  have ho3 := ho2.kept kh hG hGS
  have hf3 : Fl B br w1.heap.size bd off cap d most F w2 (Fo.bitsOf (d.drop 2)) WD ov [] := ⟨2, 0, 0, hb3, by omega, by simp [bitsLeft, Fo.numBits]⟩
  clear hb2 hx2 hb3 hBL hgood HOP ho2
  go_wp2_with fail
  go_loopw [11] (fun _ wr => ∃ (rr : List Bool) (o : List Nat) (ov' : Value), Fl B br w1.heap.size bd off cap d most F wr rr WD ov' o ∧ Fix wr br w1.heap.size F ∧ OrdW wr ∧ Hid (Fo.BlocksTo WD most rr o r1) ∧ Hid (∀ x ∈ o, x < 256) ∧ Kept 5 B [br, w1.heap.size] w2 wr) (fun _ wr => bitsOf' br w1.heap.size d.length wr)
  case atStart => exact ⟨_, _, ov, hf3, hx3, ho3, HBK, (fun x hx => (by cases hx)), Kept.refl _ _ _ _⟩
  clear hf3 hx3 HBK ho3
  case round =>
    obtain ⟨rr, o, ov', hf, hx, hor, HB2, HBO, kk⟩ := hrel
    have hm := hide hf.measure
    rcases HB2.out.parted with ⟨n, hbt, hr1⟩ | ⟨r2, data, hbt, hl, hr1⟩ | ⟨r2, o2, hbt, hl, hB5⟩
    · have HC := hide (block_any hf hx hor hG hW32 hbt)
      have hE := HERR.out n hr1
      clear HB2 hbt hr1 hf hx
      go_wp2_with fail
      refine HC.out.mono ?_
      rintro e w3 ⟨rfl, k3⟩
      refine ⟨rfl, ?_⟩
      rw [hE]
      exact ⟨rfl, kept_through kk0 ((kh.trans kk).trans k3) hbs⟩
    · have HC := hide (block_any hf hx hor hG hW32 hbt)
      rw [hl] at HC
      have hdb0 := block_byte hbt HBO.out
      have hdb : ∀ i, i < data.length → nth data i < 256 := fun i hi => nth_byte hdb0 i hi
      have HS1 := hide (HSUM.out r2 data hr1)
      clear HB2 hbt hr1 hl hdb0 HBO HERR HSUM
      go_wp2_with fail
      refine HC.out.mono ?_
      rintro e w3 ⟨rfl, ov3, hf3, k3⟩
      have k23 := kk.trans k3
      clear kk k3 HC hf hx hor hm
      go_wp2_with fail
      refine (align_ok hf3).mono ?_
      rintro e w4 ⟨rfl, ⟨p4, held4, hb4, hq4⟩, k4⟩
      have k24 := k23.trans k4
      have hlp := hb4.rd.lp
      have HSD : Hid (res = if d.length = p4 + 4 ∧ (d.drop p4).take 4 = sum4 data then .ok data else .error 5) := by
        unfold Hid
        rw [HS1.out, sumDec_bytes HBYT.out hlp hq4]
      clear k23 k4 hf3 HS1 hq4
      have c0 := hb4.c0
      have c2 := hb4.rd.c2
      obtain ⟨ao, oc, hov, _⟩ := hb4.rd.datOut hdb
      subst hov
      have hl4 := hb4.rd.lm
      have hl5 := hb4.rd.lo
      by_cases hcl : d.length < p4 + 4
      · have hE := HSD.out
        rw [if_neg (fun h => by omega)] at hE
        go_wp2_with fail
        refine wp_region_T (Sfc w1.heap.size br (.pointer (some ⟨br, 0, none⟩)) (.slice ao data.length oc)) (by kernel_rfl) ?_
        intro hD
        have hS : Sfc w1.heap.size br (.pointer (some ⟨br, 0, none⟩)) (.slice ao data.length oc) (Array.replicate 19 false) w4.drew := ⟨(hb4.drewN 1).c0, (hb4.drewN 1).rd.c2⟩
        refine wpAnyT_take (i := 0) (v := ?_) rfl (by kernel_rfl) (by kernel_rfl) (by kernel_rfl) (fun _ _ _ h => h) (fun _ _ h => h) (fun _ _ h => h) hD (Or.inl ⟨by rfl, ?_⟩) hS ?_
        rotate_left
        · intro W hW; obtain ⟨_, _, _, f0, f1⟩ := hW; go_simp; try (with_reducible rfl)
        clear hD hS; intro hD hS; (try simp only [Act.put, List.setIfInBounds_toArray, List.set_cons_zero, List.set_cons_succ])
        refine wpAnyT_take (i := 1) (v := ?_) rfl (by kernel_rfl) (by kernel_rfl) (by kernel_rfl) (fun _ _ _ h => h) (fun _ _ h => h) (fun _ _ h => h) hD (Or.inl ⟨by rfl, ?_⟩) hS ?_
        rotate_left
        · intro W hW; obtain ⟨_, _, _, f0, f1⟩ := hW; go_simp; try (with_reducible rfl)
        clear hD hS; intro hD hS; (try simp only [Act.put, List.setIfInBounds_toArray, List.set_cons_zero, List.set_cons_succ])
        refine wpAnyT_take (i := 2) (v := ?_) rfl (by kernel_rfl) (by kernel_rfl) (by kernel_rfl) (fun _ _ _ h => h) (fun _ _ h => h) (fun _ _ h => h) hD (Or.inl ⟨by rfl, ?_⟩) hS ?_
        rotate_left
        · intro W hW; obtain ⟨_, _, _, f0, f1⟩ := hW; go_simp; try (with_reducible rfl)
        clear hD hS; intro hD hS; (try simp only [Act.put, List.setIfInBounds_toArray, List.set_cons_zero, List.set_cons_succ])
        refine wpAnyT_take (i := 3) (v := ?_) rfl (by kernel_rfl) (by kernel_rfl) (by kernel_rfl) (fun _ _ _ h => h) (fun _ _ h => h) (fun _ _ h => h) hD (Or.inl ⟨by rfl, ?_⟩) hS ?_
        rotate_left
        · intro W hW; obtain ⟨_, _, _, f0, f1⟩ := hW; go_simp; try (with_reducible rfl)
        clear hD hS; intro hD hS; (try simp only [Act.put, List.setIfInBounds_toArray, List.set_cons_zero, List.set_cons_succ])
        refine wpAnyT_take (i := 4) (v := ?_) rfl (by kernel_rfl) (by kernel_rfl) (by kernel_rfl) (fun _ _ _ h => h) (fun _ _ h => h) (fun _ _ h => h) hD (Or.inl ⟨by rfl, ?_⟩) hS ?_
        rotate_left
        · intro W hW; obtain ⟨_, _, _, f0, f1⟩ := hW; go_simp; try (with_reducible rfl)
        clear hD hS; intro hD hS; (try simp only [Act.put, List.setIfInBounds_toArray, List.set_cons_zero, List.set_cons_succ])
        refine wpAnyT_take (i := 8) (v := ?_) rfl (by kernel_rfl) (by kernel_rfl) (by kernel_rfl) (fun _ _ _ h => h) (fun _ _ h => h) (fun _ _ h => h) hD (Or.inl ⟨by rfl, ?_⟩) hS ?_
        rotate_left
        · intro W hW; obtain ⟨_, _, _, f0, f1⟩ := hW; go_simp; try (with_reducible rfl)
        clear hD hS; intro hD hS; (try simp only [Act.put, List.setIfInBounds_toArray, List.set_cons_zero, List.set_cons_succ])
        refine wpAnyT_take (i := 9) (v := ?_) rfl (by kernel_rfl) (by kernel_rfl) (by kernel_rfl) (fun _ _ _ h => h) (fun _ _ h => h) (fun _ _ h => h) hD (Or.inl ⟨by rfl, ?_⟩) hS ?_
        rotate_left
        · intro W hW; obtain ⟨_, _, _, f0, f1⟩ := hW; go_simp; try (with_reducible rfl)
        clear hD hS; intro hD hS; (try simp only [Act.put, List.setIfInBounds_toArray, List.set_cons_zero, List.set_cons_succ])
        refine wpAnyT_take (i := 10) (v := ?_) rfl (by kernel_rfl) (by kernel_rfl) (by kernel_rfl) (fun _ _ _ h => h) (fun _ _ h => h) (fun _ _ h => h) hD (Or.inl ⟨by rfl, ?_⟩) hS ?_
        rotate_left
        · intro W hW; obtain ⟨_, _, _, f0, f1⟩ := hW; go_simp; try (with_reducible rfl)
        clear hD hS; intro hD hS; (try simp only [Act.put, List.setIfInBounds_toArray, List.set_cons_zero, List.set_cons_succ])
        refine wpAnyT_take (i := 11) (v := ?_) rfl (by kernel_rfl) (by kernel_rfl) (by kernel_rfl) (fun _ _ _ h => h) (fun _ _ h => h) (fun _ _ h => h) hD (Or.inl ⟨by rfl, ?_⟩) hS ?_
        rotate_left
        · intro W hW; obtain ⟨_, _, _, f0, f1⟩ := hW; go_simp; try (with_reducible rfl)
        clear hD hS; intro hD hS; (try simp only [Act.put, List.setIfInBounds_toArray, List.set_cons_zero, List.set_cons_succ])
        refine wpAnyT_take (i := 12) (v := ?_) rfl (by kernel_rfl) (by kernel_rfl) (by kernel_rfl) (fun _ _ _ h => h) (fun _ _ h => h) (fun _ _ h => h) hD (Or.inl ⟨by rfl, ?_⟩) hS ?_
        rotate_left
        · intro W hW; obtain ⟨_, _, _, f0, f1⟩ := hW; go_simp; try (with_reducible rfl)
        clear hD hS; intro hD hS; (try simp only [Act.put, List.setIfInBounds_toArray, List.set_cons_zero, List.set_cons_succ])
        refine wpAnyT_take (i := 13) (v := ?_) rfl (by kernel_rfl) (by kernel_rfl) (by kernel_rfl) (fun _ _ _ h => h) (fun _ _ h => h) (fun _ _ h => h) hD (Or.inl ⟨by rfl, ?_⟩) hS ?_
        rotate_left
        · intro W hW; obtain ⟨_, _, _, f0, f1⟩ := hW; go_simp; try (with_reducible rfl)
        clear hD hS; intro hD hS; (try simp only [Act.put, List.setIfInBounds_toArray, List.set_cons_zero, List.set_cons_succ])
        refine wpAnyT_take (i := 14) (v := ?_) rfl (by kernel_rfl) (by kernel_rfl) (by kernel_rfl) (fun _ _ _ h => h) (fun _ _ h => h) (fun _ _ h => h) hD (Or.inl ⟨by rfl, ?_⟩) hS ?_
        rotate_left
        · intro W hW; obtain ⟨_, _, _, f0, f1⟩ := hW; go_simp; try (with_reducible rfl)
        clear hD hS; intro hD hS; (try simp only [Act.put, List.setIfInBounds_toArray, List.set_cons_zero, List.set_cons_succ])
        refine wpAnyT_take (i := 15) (v := ?_) rfl (by kernel_rfl) (by kernel_rfl) (by kernel_rfl) (fun _ _ _ h => h) (fun _ _ h => h) (fun _ _ h => h) hD (Or.inl ⟨by rfl, ?_⟩) hS ?_
        rotate_left
        · intro W hW; obtain ⟨_, _, _, f0, f1⟩ := hW; go_simp; try (with_reducible rfl)
        clear hD hS; intro hD hS; (try simp only [Act.put, List.setIfInBounds_toArray, List.set_cons_zero, List.set_cons_succ])
        refine wpAnyT_one (i := 5) (by kernel_rfl) rfl hD (fun K' hK => ?_)
        go_simp
        refine (take_no (hb4.rd.drewN 1) 4 (by omega) hcl).mono ?_
        rintro e w5 ⟨rfl, q, rfl⟩
        refine ⟨rfl, ?_⟩
        rw [hE]
        exact ⟨rfl, kept_through kk0 (((kh.trans k24).drewN 1).drewN q) hbs⟩
      · have z1 : p4 + 4 ≤ d.length := by omega
        have ht4 : ((d.drop p4).take 4).length = 4 := by rw [List.length_take, List.length_drop]; omega
        have hny : ∀ i, i < 4 → nth ((d.drop p4).take 4) i = nth d (p4 + i) := fun i hi => by simp [nth, List.getElem?_take, List.getElem?_drop, hi]
        have htb : ∀ i, i < 4 → nth ((d.drop p4).take 4) i < 256 := fun i hi => by rw [hny i hi]; exact HBYT.out _ (by omega)
        have Y : Hid (nth d p4 = nth ((d.drop p4).take 4) 0 ∧ nth d (p4 + 1) = nth ((d.drop p4).take 4) 1 ∧ nth d (p4 + 2) = nth ((d.drop p4).take 4) 2 ∧ nth d (p4 + 3) = nth ((d.drop p4).take 4) 3) := ⟨(hny 0 (by omega)).symm, (hny 1 (by omega)).symm, (hny 2 (by omega)).symm, (hny 3 (by omega)).symm⟩
        clear hny
        by_cases ct : (d.drop p4).take 4 = sum4 data
        · have hl6 : data.length ≤ 1000000000 := by omega
          have haa := run_arrayAt4 bd (off + p4) (cap - p4)
          have heq := eq_yes (nth d p4) (nth d (p4 + 1)) (nth d (p4 + 2)) (nth d (p4 + 3)) data ((d.drop p4).take 4) ht4 htb Y.out.1 Y.out.2.1 Y.out.2.2.1 Y.out.2.2.2 ct
          go_wp2_with fail
          refine wp_region_T (Sfl w1.heap.size br bd (off + p4) (.pointer (some ⟨br, 0, none⟩)) (.slice ao data.length oc) d p4) (by kernel_rfl) ?_
          intro hD
          have hS : Sfl w1.heap.size br bd (off + p4) (.pointer (some ⟨br, 0, none⟩)) (.slice ao data.length oc) d p4 (Array.replicate 19 false) w4.drew := sfl (hb4.drewN 1) z1
          refine wpAnyT_take (i := 0) (v := ?_) rfl (by kernel_rfl) (by kernel_rfl) (by kernel_rfl) (fun _ _ _ h => h) (fun _ _ h => h) (fun _ _ h => h) hD (Or.inl ⟨by rfl, ?_⟩) hS ?_
          rotate_left
          · intro W hW; obtain ⟨_, _, _, f0, f1, f2, f3, f4, f5⟩ := hW; go_simp; try (with_reducible rfl)
          clear hD hS; intro hD hS; (try simp only [Act.put, List.setIfInBounds_toArray, List.set_cons_zero, List.set_cons_succ])
          refine wpAnyT_take (i := 1) (v := ?_) rfl (by kernel_rfl) (by kernel_rfl) (by kernel_rfl) (fun _ _ _ h => h) (fun _ _ h => h) (fun _ _ h => h) hD (Or.inl ⟨by rfl, ?_⟩) hS ?_
          rotate_left
          · intro W hW; obtain ⟨_, _, _, f0, f1, f2, f3, f4, f5⟩ := hW; go_simp; try (with_reducible rfl)
          clear hD hS; intro hD hS; (try simp only [Act.put, List.setIfInBounds_toArray, List.set_cons_zero, List.set_cons_succ])
          refine wpAnyT_take (i := 2) (v := ?_) rfl (by kernel_rfl) (by kernel_rfl) (by kernel_rfl) (fun _ _ _ h => h) (fun _ _ h => h) (fun _ _ h => h) hD (Or.inl ⟨by rfl, ?_⟩) hS ?_
          rotate_left
          · intro W hW; obtain ⟨_, _, _, f0, f1, f2, f3, f4, f5⟩ := hW; go_simp; try (with_reducible rfl)
          clear hD hS; intro hD hS; (try simp only [Act.put, List.setIfInBounds_toArray, List.set_cons_zero, List.set_cons_succ])
          refine wpAnyT_take (i := 3) (v := ?_) rfl (by kernel_rfl) (by kernel_rfl) (by kernel_rfl) (fun _ _ _ h => h) (fun _ _ h => h) (fun _ _ h => h) hD (Or.inl ⟨by rfl, ?_⟩) hS ?_
          rotate_left
          · intro W hW; obtain ⟨_, _, _, f0, f1, f2, f3, f4, f5⟩ := hW; go_simp; try (with_reducible rfl)
          clear hD hS; intro hD hS; (try simp only [Act.put, List.setIfInBounds_toArray, List.set_cons_zero, List.set_cons_succ])
          refine wpAnyT_take (i := 4) (v := ?_) rfl (by kernel_rfl) (by kernel_rfl) (by kernel_rfl) (fun _ _ _ h => h) (fun _ _ h => h) (fun _ _ h => h) hD (Or.inl ⟨by rfl, ?_⟩) hS ?_
          rotate_left
          · intro W hW; obtain ⟨_, _, _, f0, f1, f2, f3, f4, f5⟩ := hW; go_simp; try (with_reducible rfl)
          clear hD hS; intro hD hS; (try simp only [Act.put, List.setIfInBounds_toArray, List.set_cons_zero, List.set_cons_succ])
          refine wpAnyT_take (i := 8) (v := ?_) rfl (by kernel_rfl) (by kernel_rfl) (by kernel_rfl) (fun _ _ _ h => h) (fun _ _ h => h) (fun _ _ h => h) hD (Or.inl ⟨by rfl, ?_⟩) hS ?_
          rotate_left
          · intro W hW; obtain ⟨_, _, _, f0, f1, f2, f3, f4, f5⟩ := hW; go_simp; try (with_reducible rfl)
          clear hD hS; intro hD hS; (try simp only [Act.put, List.setIfInBounds_toArray, List.set_cons_zero, List.set_cons_succ])
          refine wpAnyT_take (i := 9) (v := ?_) rfl (by kernel_rfl) (by kernel_rfl) (by kernel_rfl) (fun _ _ _ h => h) (fun _ _ h => h) (fun _ _ h => h) hD (Or.inl ⟨by rfl, ?_⟩) hS ?_
          rotate_left
          · intro W hW; obtain ⟨_, _, _, f0, f1, f2, f3, f4, f5⟩ := hW; go_simp; try (with_reducible rfl)
          clear hD hS; intro hD hS; (try simp only [Act.put, List.setIfInBounds_toArray, List.set_cons_zero, List.set_cons_succ])
          refine wpAnyT_take (i := 10) (v := ?_) rfl (by kernel_rfl) (by kernel_rfl) (by kernel_rfl) (fun _ _ _ h => h) (fun _ _ h => h) (fun _ _ h => h) hD (Or.inl ⟨by rfl, ?_⟩) hS ?_
          rotate_left
          · intro W hW; obtain ⟨_, _, _, f0, f1, f2, f3, f4, f5⟩ := hW; go_simp; try (with_reducible rfl)
          clear hD hS; intro hD hS; (try simp only [Act.put, List.setIfInBounds_toArray, List.set_cons_zero, List.set_cons_succ])
          refine wpAnyT_take (i := 11) (v := ?_) rfl (by kernel_rfl) (by kernel_rfl) (by kernel_rfl) (fun _ _ _ h => h) (fun _ _ h => h) (fun _ _ h => h) hD (Or.inl ⟨by rfl, ?_⟩) hS ?_
          rotate_left
          · intro W hW; obtain ⟨_, _, _, f0, f1, f2, f3, f4, f5⟩ := hW; go_simp; try (with_reducible rfl)
          clear hD hS; intro hD hS; (try simp only [Act.put, List.setIfInBounds_toArray, List.set_cons_zero, List.set_cons_succ])
          refine wpAnyT_take (i := 12) (v := ?_) rfl (by kernel_rfl) (by kernel_rfl) (by kernel_rfl) (fun _ _ _ h => h) (fun _ _ h => h) (fun _ _ h => h) hD (Or.inl ⟨by rfl, ?_⟩) hS ?_
          rotate_left
          · intro W hW; obtain ⟨_, _, _, f0, f1, f2, f3, f4, f5⟩ := hW; go_simp; try (with_reducible rfl)
          clear hD hS; intro hD hS; (try simp only [Act.put, List.setIfInBounds_toArray, List.set_cons_zero, List.set_cons_succ])
          refine wpAnyT_take (i := 13) (v := ?_) rfl (by kernel_rfl) (by kernel_rfl) (by kernel_rfl) (fun _ _ _ h => h) (fun _ _ h => h) (fun _ _ h => h) hD (Or.inl ⟨by rfl, ?_⟩) hS ?_
          rotate_left
          · intro W hW; obtain ⟨_, _, _, f0, f1, f2, f3, f4, f5⟩ := hW; go_simp; try (with_reducible rfl)
          clear hD hS; intro hD hS; (try simp only [Act.put, List.setIfInBounds_toArray, List.set_cons_zero, List.set_cons_succ])
          refine wpAnyT_take (i := 14) (v := ?_) rfl (by kernel_rfl) (by kernel_rfl) (by kernel_rfl) (fun _ _ _ h => h) (fun _ _ h => h) (fun _ _ h => h) hD (Or.inl ⟨by rfl, ?_⟩) hS ?_
          rotate_left
          · intro W hW; obtain ⟨_, _, _, f0, f1, f2, f3, f4, f5⟩ := hW; go_simp; try (with_reducible rfl)
          clear hD hS; intro hD hS; (try simp only [Act.put, List.setIfInBounds_toArray, List.set_cons_zero, List.set_cons_succ])
          refine wpAnyT_take (i := 15) (v := ?_) rfl (by kernel_rfl) (by kernel_rfl) (by kernel_rfl) (fun _ _ _ h => h) (fun _ _ h => h) (fun _ _ h => h) hD (Or.inl ⟨by rfl, ?_⟩) hS ?_
          rotate_left
          · intro W hW; obtain ⟨_, _, _, f0, f1, f2, f3, f4, f5⟩ := hW; go_simp; try (with_reducible rfl)
          clear hD hS; intro hD hS; (try simp only [Act.put, List.setIfInBounds_toArray, List.set_cons_zero, List.set_cons_succ])
          refine wpAnyT_one (i := 5) (by kernel_rfl) rfl hD (fun K' hK => ?_)
          go_simp
          refine (take_ok (hb4.rd.drewN 1) 4 (by omega) z1).mono ?_
          rintro e w5 ⟨rfl, r5, k5⟩
          have h5 := hb4.rdKept r5 (((Kept.refl _ _ _ _).drewN 1).trans k5)
          refine hK.out _ _ (sfl h5 z1) (fun hD2 hS2 => ?_)
          clear hD hS hK K'
          have hD := hD2
          have hS := hS2
          clear hD2 hS2
          (try simp only [Act.put, List.setIfInBounds_toArray, List.set_cons_zero, List.set_cons_succ])
          refine wpAnyT_take (i := 6) (v := ?_) rfl (by kernel_rfl) (by kernel_rfl) (by kernel_rfl) (fun _ _ _ h => h) (fun _ _ h => h) (fun _ _ h => h) hD (Or.inl ⟨by rfl, ?_⟩) hS ?_
          rotate_left
          · intro W hW; obtain ⟨_, _, _, f0, f1, f2, f3, f4, f5⟩ := hW; go_simp; try (with_reducible rfl)
          clear hD hS; intro hD hS; (try simp only [Act.put, List.setIfInBounds_toArray, List.set_cons_zero, List.set_cons_succ])
          refine wpAnyT_take (i := 7) (v := ?_) rfl (by kernel_rfl) (by kernel_rfl) (by kernel_rfl) (fun _ _ _ h => h) (fun _ _ h => h) (fun _ _ h => h) hD (Or.inl ⟨by rfl, ?_⟩) hS ?_
          rotate_left
          · intro W hW; obtain ⟨_, _, _, f0, f1, f2, f3, f4, f5⟩ := hW; go_simp; try (with_reducible rfl)
          clear hD hS; intro hD hS; (try simp only [Act.put, List.setIfInBounds_toArray, List.set_cons_zero, List.set_cons_succ])
          refine wpAnyT_one (i := 16) (by kernel_rfl) rfl hD (fun K' hK => ?_)
          go_simp
          refine (sum_ok (B := w5.heap.size) (w := w5) ao oc data (Nat.le_refl _) (Rd.datOut' r5) hl6 hdb).mono ?_
          rintro e w6 ⟨rfl, o6, rfl⟩
          refine hK.out _ _ (sfl (h5.alloc o6) z1) (fun hD2 hS2 => ?_)
          clear hD hS hK K'
          have hD := hD2
          have hS := hS2
          clear hD2 hS2
          unfold sumVal
          (try simp only [Act.put, List.setIfInBounds_toArray, List.set_cons_zero, List.set_cons_succ])
          refine wpAnyT_take (i := 17) (v := ?_) rfl (by kernel_rfl) (by kernel_rfl) (by kernel_rfl) (fun _ _ _ h => h) (fun _ _ h => h) (fun _ _ h => h) hD (Or.inl ⟨by rfl, ?_⟩) hS ?_
          rotate_left
          · intro W hW; obtain ⟨_, _, _, f0, f1, f2, f3, f4, f5⟩ := hW; go_simp; try (with_reducible rfl)
          clear hD hS; intro hD hS; (try simp only [Act.put, List.setIfInBounds_toArray, List.set_cons_zero, List.set_cons_succ])
          refine wpAnyT_one (i := 18) (by kernel_rfl) rfl hD (fun K' hK => ?_)
          go_simp
          refine (must_yes _).mono ?_
          rintro e w7 ⟨rfl, rfl⟩
          refine hK.out _ _ (sfl (h5.alloc o6) z1) (fun hD2 hS2 => ?_)
          clear hD hS hK K' hD2 hS2
          refine wpAnyT_done (by kernel_rfl) ?_ _
          have h6 := h5.alloc o6
          have g0 := h6.c0
          have r6 := h6.rd
          have HK6 := hide (kept_through kk0 (((kh.trans k24).drewN 1).trans ((k5.mono (by simp)).alloc o6)) hbs)
          clear h5 r5 k5 haa heq c0 c2 hb4 kh k24 h h6
          by_cases cend : d.length = p4 + 4
          · have hE := HSD.out
            rw [if_pos ⟨cend, ct⟩] at hE
            rw [← cend] at r6
            go_wp2_with fail
            refine (end_ok r6).mono ?_
            rintro e w7 ⟨rfl, q, rfl⟩
            go_wp2
            go_end0
            rw [hE]
            exact ⟨rfl, _, r6.drewN q, HK6.out.drewN q⟩
          · have hE := HSD.out
            rw [if_neg (fun h => cend h.1)] at hE
            go_wp2_with fail
            refine (end_no r6 (by omega)).mono ?_
            rintro e w7 ⟨rfl, q, rfl⟩
            refine ⟨rfl, ?_⟩
            rw [hE]
            exact ⟨rfl, HK6.out.drewN q⟩
        · have hE := HSD.out
          rw [if_neg (fun h => ct h.2)] at hE
          have hl6 : data.length ≤ 1000000000 := by omega
          have haa := run_arrayAt4 bd (off + p4) (cap - p4)
          have heq := eq_no (nth d p4) (nth d (p4 + 1)) (nth d (p4 + 2)) (nth d (p4 + 3)) data ((d.drop p4).take 4) ht4 htb Y.out.1 Y.out.2.1 Y.out.2.2.1 Y.out.2.2.2 ct
          go_wp2_with fail
          refine wp_region_T (Sfl w1.heap.size br bd (off + p4) (.pointer (some ⟨br, 0, none⟩)) (.slice ao data.length oc) d p4) (by kernel_rfl) ?_
          intro hD
          have hS : Sfl w1.heap.size br bd (off + p4) (.pointer (some ⟨br, 0, none⟩)) (.slice ao data.length oc) d p4 (Array.replicate 19 false) w4.drew := sfl (hb4.drewN 1) z1
          refine wpAnyT_take (i := 0) (v := ?_) rfl (by kernel_rfl) (by kernel_rfl) (by kernel_rfl) (fun _ _ _ h => h) (fun _ _ h => h) (fun _ _ h => h) hD (Or.inl ⟨by rfl, ?_⟩) hS ?_
          rotate_left
          · intro W hW; obtain ⟨_, _, _, f0, f1, f2, f3, f4, f5⟩ := hW; go_simp; try (with_reducible rfl)
          clear hD hS; intro hD hS; (try simp only [Act.put, List.setIfInBounds_toArray, List.set_cons_zero, List.set_cons_succ])
          refine wpAnyT_take (i := 1) (v := ?_) rfl (by kernel_rfl) (by kernel_rfl) (by kernel_rfl) (fun _ _ _ h => h) (fun _ _ h => h) (fun _ _ h => h) hD (Or.inl ⟨by rfl, ?_⟩) hS ?_
          rotate_left
          · intro W hW; obtain ⟨_, _, _, f0, f1, f2, f3, f4, f5⟩ := hW; go_simp; try (with_reducible rfl)
          clear hD hS; intro hD hS; (try simp only [Act.put, List.setIfInBounds_toArray, List.set_cons_zero, List.set_cons_succ])
          refine wpAnyT_take (i := 2) (v := ?_) rfl (by kernel_rfl) (by kernel_rfl) (by kernel_rfl) (fun _ _ _ h => h) (fun _ _ h => h) (fun _ _ h => h) hD (Or.inl ⟨by rfl, ?_⟩) hS ?_
          rotate_left
          · intro W hW; obtain ⟨_, _, _, f0, f1, f2, f3, f4, f5⟩ := hW; go_simp; try (with_reducible rfl)
          clear hD hS; intro hD hS; (try simp only [Act.put, List.setIfInBounds_toArray, List.set_cons_zero, List.set_cons_succ])
          refine wpAnyT_take (i := 3) (v := ?_) rfl (by kernel_rfl) (by kernel_rfl) (by kernel_rfl) (fun _ _ _ h => h) (fun _ _ h => h) (fun _ _ h => h) hD (Or.inl ⟨by rfl, ?_⟩) hS ?_
          rotate_left
          · intro W hW; obtain ⟨_, _, _, f0, f1, f2, f3, f4, f5⟩ := hW; go_simp; try (with_reducible rfl)
          clear hD hS; intro hD hS; (try simp only [Act.put, List.setIfInBounds_toArray, List.set_cons_zero, List.set_cons_succ])
          refine wpAnyT_take (i := 4) (v := ?_) rfl (by kernel_rfl) (by kernel_rfl) (by kernel_rfl) (fun _ _ _ h => h) (fun _ _ h => h) (fun _ _ h => h) hD (Or.inl ⟨by rfl, ?_⟩) hS ?_
          rotate_left
          · intro W hW; obtain ⟨_, _, _, f0, f1, f2, f3, f4, f5⟩ := hW; go_simp; try (with_reducible rfl)
          clear hD hS; intro hD hS; (try simp only [Act.put, List.setIfInBounds_toArray, List.set_cons_zero, List.set_cons_succ])
          refine wpAnyT_take (i := 8) (v := ?_) rfl (by kernel_rfl) (by kernel_rfl) (by kernel_rfl) (fun _ _ _ h => h) (fun _ _ h => h) (fun _ _ h => h) hD (Or.inl ⟨by rfl, ?_⟩) hS ?_
          rotate_left
          · intro W hW; obtain ⟨_, _, _, f0, f1, f2, f3, f4, f5⟩ := hW; go_simp; try (with_reducible rfl)
          clear hD hS; intro hD hS; (try simp only [Act.put, List.setIfInBounds_toArray, List.set_cons_zero, List.set_cons_succ])
          refine wpAnyT_take (i := 9) (v := ?_) rfl (by kernel_rfl) (by kernel_rfl) (by kernel_rfl) (fun _ _ _ h => h) (fun _ _ h => h) (fun _ _ h => h) hD (Or.inl ⟨by rfl, ?_⟩) hS ?_
          rotate_left
          · intro W hW; obtain ⟨_, _, _, f0, f1, f2, f3, f4, f5⟩ := hW; go_simp; try (with_reducible rfl)
          clear hD hS; intro hD hS; (try simp only [Act.put, List.setIfInBounds_toArray, List.set_cons_zero, List.set_cons_succ])
          refine wpAnyT_take (i := 10) (v := ?_) rfl (by kernel_rfl) (by kernel_rfl) (by kernel_rfl) (fun _ _ _ h => h) (fun _ _ h => h) (fun _ _ h => h) hD (Or.inl ⟨by rfl, ?_⟩) hS ?_
          rotate_left
          · intro W hW; obtain ⟨_, _, _, f0, f1, f2, f3, f4, f5⟩ := hW; go_simp; try (with_reducible rfl)
          clear hD hS; intro hD hS; (try simp only [Act.put, List.setIfInBounds_toArray, List.set_cons_zero, List.set_cons_succ])
          refine wpAnyT_take (i := 11) (v := ?_) rfl (by kernel_rfl) (by kernel_rfl) (by kernel_rfl) (fun _ _ _ h => h) (fun _ _ h => h) (fun _ _ h => h) hD (Or.inl ⟨by rfl, ?_⟩) hS ?_
          rotate_left
          · intro W hW; obtain ⟨_, _, _, f0, f1, f2, f3, f4, f5⟩ := hW; go_simp; try (with_reducible rfl)
          clear hD hS; intro hD hS; (try simp only [Act.put, List.setIfInBounds_toArray, List.set_cons_zero, List.set_cons_succ])
          refine wpAnyT_take (i := 12) (v := ?_) rfl (by kernel_rfl) (by kernel_rfl) (by kernel_rfl) (fun _ _ _ h => h) (fun _ _ h => h) (fun _ _ h => h) hD (Or.inl ⟨by rfl, ?_⟩) hS ?_
          rotate_left
          · intro W hW; obtain ⟨_, _, _, f0, f1, f2, f3, f4, f5⟩ := hW; go_simp; try (with_reducible rfl)
          clear hD hS; intro hD hS; (try simp only [Act.put, List.setIfInBounds_toArray, List.set_cons_zero, List.set_cons_succ])
          refine wpAnyT_take (i := 13) (v := ?_) rfl (by kernel_rfl) (by kernel_rfl) (by kernel_rfl) (fun _ _ _ h => h) (fun _ _ h => h) (fun _ _ h => h) hD (Or.inl ⟨by rfl, ?_⟩) hS ?_
          rotate_left
          · intro W hW; obtain ⟨_, _, _, f0, f1, f2, f3, f4, f5⟩ := hW; go_simp; try (with_reducible rfl)
          clear hD hS; intro hD hS; (try simp only [Act.put, List.setIfInBounds_toArray, List.set_cons_zero, List.set_cons_succ])
          refine wpAnyT_take (i := 14) (v := ?_) rfl (by kernel_rfl) (by kernel_rfl) (by kernel_rfl) (fun _ _ _ h => h) (fun _ _ h => h) (fun _ _ h => h) hD (Or.inl ⟨by rfl, ?_⟩) hS ?_
          rotate_left
          · intro W hW; obtain ⟨_, _, _, f0, f1, f2, f3, f4, f5⟩ := hW; go_simp; try (with_reducible rfl)
          clear hD hS; intro hD hS; (try simp only [Act.put, List.setIfInBounds_toArray, List.set_cons_zero, List.set_cons_succ])
          refine wpAnyT_take (i := 15) (v := ?_) rfl (by kernel_rfl) (by kernel_rfl) (by kernel_rfl) (fun _ _ _ h => h) (fun _ _ h => h) (fun _ _ h => h) hD (Or.inl ⟨by rfl, ?_⟩) hS ?_
          rotate_left
          · intro W hW; obtain ⟨_, _, _, f0, f1, f2, f3, f4, f5⟩ := hW; go_simp; try (with_reducible rfl)
          clear hD hS; intro hD hS; (try simp only [Act.put, List.setIfInBounds_toArray, List.set_cons_zero, List.set_cons_succ])
          refine wpAnyT_one (i := 5) (by kernel_rfl) rfl hD (fun K' hK => ?_)
          go_simp
          refine (take_ok (hb4.rd.drewN 1) 4 (by omega) z1).mono ?_
          rintro e w5 ⟨rfl, r5, k5⟩
          have h5 := hb4.rdKept r5 (((Kept.refl _ _ _ _).drewN 1).trans k5)
          refine hK.out _ _ (sfl h5 z1) (fun hD2 hS2 => ?_)
          clear hD hS hK K'
          have hD := hD2
          have hS := hS2
          clear hD2 hS2
          (try simp only [Act.put, List.setIfInBounds_toArray, List.set_cons_zero, List.set_cons_succ])
          refine wpAnyT_take (i := 6) (v := ?_) rfl (by kernel_rfl) (by kernel_rfl) (by kernel_rfl) (fun _ _ _ h => h) (fun _ _ h => h) (fun _ _ h => h) hD (Or.inl ⟨by rfl, ?_⟩) hS ?_
          rotate_left
          · intro W hW; obtain ⟨_, _, _, f0, f1, f2, f3, f4, f5⟩ := hW; go_simp; try (with_reducible rfl)
          clear hD hS; intro hD hS; (try simp only [Act.put, List.setIfInBounds_toArray, List.set_cons_zero, List.set_cons_succ])
          refine wpAnyT_take (i := 7) (v := ?_) rfl (by kernel_rfl) (by kernel_rfl) (by kernel_rfl) (fun _ _ _ h => h) (fun _ _ h => h) (fun _ _ h => h) hD (Or.inl ⟨by rfl, ?_⟩) hS ?_
          rotate_left
          · intro W hW; obtain ⟨_, _, _, f0, f1, f2, f3, f4, f5⟩ := hW; go_simp; try (with_reducible rfl)
          clear hD hS; intro hD hS; (try simp only [Act.put, List.setIfInBounds_toArray, List.set_cons_zero, List.set_cons_succ])
          refine wpAnyT_one (i := 16) (by kernel_rfl) rfl hD (fun K' hK => ?_)
          go_simp
          refine (sum_ok (B := w5.heap.size) (w := w5) ao oc data (Nat.le_refl _) (Rd.datOut' r5) hl6 hdb).mono ?_
          rintro e w6 ⟨rfl, o6, rfl⟩
          refine hK.out _ _ (sfl (h5.alloc o6) z1) (fun hD2 hS2 => ?_)
          clear hD hS hK K'
          have hD := hD2
          have hS := hS2
          clear hD2 hS2
          unfold sumVal
          (try simp only [Act.put, List.setIfInBounds_toArray, List.set_cons_zero, List.set_cons_succ])
          refine wpAnyT_take (i := 17) (v := ?_) rfl (by kernel_rfl) (by kernel_rfl) (by kernel_rfl) (fun _ _ _ h => h) (fun _ _ h => h) (fun _ _ h => h) hD (Or.inl ⟨by rfl, ?_⟩) hS ?_
          rotate_left
          · intro W hW; obtain ⟨_, _, _, f0, f1, f2, f3, f4, f5⟩ := hW; go_simp; try (with_reducible rfl)
          clear hD hS; intro hD hS; (try simp only [Act.put, List.setIfInBounds_toArray, List.set_cons_zero, List.set_cons_succ])
          refine wpAnyT_one (i := 18) (by kernel_rfl) rfl hD (fun K' hK => ?_)
          go_simp
          refine (must_no _).mono ?_
          rintro e w7 ⟨rfl, rfl⟩
          refine ⟨rfl, ?_⟩
          rw [hE]
          exact ⟨rfl, kept_through kk0 (((kh.trans k24).drewN 1).trans ((k5.mono (by simp)).alloc o6)) hbs⟩
    · have HC := hide (block_any hf hx hor hG hW32 hbt)
      rw [hl] at HC
      have hsh := hbt.shorter.1
      have HB5 := hide hB5
      have HBO2 := hide (block_byte hbt HBO.out)
      clear HB2 hbt hB5 hl HBO
      go_wp2_with fail
      refine HC.out.mono ?_
      rintro e w3 ⟨rfl, ov3, hf3, k3⟩
      have hm2 := hide hf3.measure
      have hx3 := hx.kept k3
      have ho3 := hor.kept k3 hG hGS
      go_wp2
      go_roundw
      case rel => exact ⟨_, _, ov3, hf3, hx3, ho3, HB5, HBO2, kk.trans k3⟩
      case measure => rw [hm.out, hm2.out]; exact hsh
end Go.Proofs.YtgkljcmjnphpeaaGreatDoor
