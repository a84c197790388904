/- The document's answer: filter 4: a block of sort 0. -/
import Derived.Test.YtgkljcmjnphpeaaGreatDoorK19
set_option linter.unusedVariables false
set_option linter.unusedSimpArgs false
namespace Go.Proofs.YtgkljcmjnphpeaaGreatDoor
open Go.RowKit
variable {B b : Nat} {S : ByteArray} {most : Nat} {w : World} {p : Nat} {ov : Value} {out : List Nat} {e : Nat}
theorem repeat_to (lv : Value) (L R : List Nat) (own : w.ownsRow B 3 1 lv L.length (ints L)) (hB : B ≤ w.heap.size) (n x : Nat) (hR : L ++ List.replicate n x = R) (hn : n ≤ 1000) (hL : L.length ≤ 10000) :
    Calls Tryz.prog 207 #[lv, .int .i64 n, .int .i64 x] w fun y w' => ∃ v', y = .returned v' ∧ w'.ownsRow B 3 1 v' R.length (ints R) ∧ Kept 3 B [] w w' := by
  subst hR
  rw [List.length_append, List.length_replicate]
  exact repeat_ok lv L own hB n x hn hL
theorem own_ints {B' : Nat} {v : Value} {L : List Nat} {n : Nat} (h : w.ownsRow B' 3 1 v n (ints L)) (hn : n = L.length) (h0 : 0 < L.length) : ∃ g c, v = .slice (some ⟨g, 0, none⟩) L.length c ∧ g < w.heap.size ∧ (∀ i, i < L.length → w.cell? ⟨g, 0 + i, none⟩ = some (.int .i64 (nth L i : Nat))) ∧ L.length ≤ c ∧ c ≤ 9223372036854775807 := by
  subst hn
  obtain ⟨g, c, rfl, hg⟩ := own_form h h0
  rcases h.2 with ⟨e1, _⟩ | ⟨g', c', cur, e1, _, hh, hc, hm, _⟩
  · cases e1
  cases e1
  refine ⟨g, c, rfl, lt_of_block hh, fun i hi => ?_, hc, by unfold maxLen at hm; omega⟩
  rw [Nat.zero_add, h.cellAt i (by omega)]
  simp [ints, nth, hi]
set_option maxRecDepth 100000 in
set_option maxHeartbeats 2000000 in
theorem rfixed_gen (A1 A2 A3 L1 L2 : List Nat) (hl1 : L1.length = 288) (hl2 : L2.length = 32) (ha1 : A1.length ≤ 1000) (ha2 : A2.length ≤ 1000) (ha3 : A3.length ≤ 1000) (hA1 : Hid ([] ++ List.replicate 144 8 = A1)) (hA2 : Hid (A1 ++ List.replicate 112 9 = A2)) (hA3 : Hid (A2 ++ List.replicate 24 7 = A3)) (HL1 : Hid (A3 ++ List.replicate 8 8 = L1)) (HL2 : Hid ([] ++ List.replicate 32 5 = L2)) (hs1 : ∀ i, i < L1.length → nth L1 i < 16) (hs2 : ∀ i, i < L2.length → nth L2 i < 16)
    (hk1 : Fo.kr (fun k => L1.count k) 15 ≤ 32768) (hk2 : Fo.kr (fun k => L2.count k) 15 ≤ 32768) (hc1 : ∀ r s r', Fo.sym (cz L1) (Fo.ssOf L1) r = some (s, r') → s ≤ 1000) (hc2 : ∀ r s r', Fo.sym (cz L2) (Fo.ssOf L2) r = some (s, r') → s ≤ 32)
    (h : RIn B b S most w p ov out 0) {window : Nat} (hw : window ≤ 32768) {res : Except Nat (List Bool × List Nat)} (hst : PSt S ⟨cz L1, Fo.ssOf L1, cz L2, Fo.ssOf L2⟩ window most res p out 0) :
    Calls Tryz.prog 152 #[.pointer (some ⟨b, 0, none⟩), .int .i64 window] w fun x w' => x = .returned (.tuple #[]) ∧ ∃ q ov' o e, RIn B b S most w' q ov' o e ∧ BRes S res q o e ∧ Kept 5 B [b] w w' := by
  have N1 := hide hl1
  have N2 := hide hl2
  have n1 : L1.length ≤ 320 ∧ 0 < L1.length := by omega
  have n2 : L2.length ≤ 320 ∧ 0 < L2.length := by omega
  clear hl1 hl2
  have HC1 := hide hc1
  have HC2 := hide hc2
  have HST := hide hst
  have HK1 := hide hk1
  have HK2 := hide hk2
  have HS1 := hide hs1
  have HS2 := hide hs2
  clear hc1 hc2 hst hk1 hk2 hs1 hs2
  go_enter Tryz.func152, Tryz.ntmps152
  go_wp2_with fail
  refine (repeat_to (B := w.heap.size) (.slice none 0 0) [] A1 (World.ownsRow_nil _ _ _ _) (Nat.le_refl _) 144 8 hA1.out (by omega) (by simp)).mono ?_
  rintro x w1 ⟨v1, rfl, o1, k1⟩
  have z1 := k1.size
  go_wp2_with fail
  refine (repeat_to v1 A1 A2 o1 z1 112 9 hA2.out (by omega) (by omega)).mono ?_
  rintro x w2 ⟨v2, rfl, o2, k2⟩
  have z2 := k2.size
  go_wp2_with fail
  refine (repeat_to v2 A2 A3 o2 (Nat.le_trans z1 z2) 24 7 hA3.out (by omega) (by omega)).mono ?_
  rintro x w3 ⟨v3, rfl, o3, k3⟩
  have z3 := k3.size
  go_wp2_with fail
  refine (repeat_to v3 A3 L1 o3 (Nat.le_trans z1 (Nat.le_trans z2 z3)) 8 8 HL1.out (by omega) (by omega)).mono ?_
  rintro x w4 ⟨v4, rfl, o4, k4⟩
  have B4 := hide ((((k1.trans k2).trans k3).trans k4).below (Nat.le_refl _) (by simp))
  have O4 := hide o4
  have z4 : w.heap.size ≤ w4.heap.size := B4.out.size
  clear o1 o2 o3 o4 k1 k2 k3 k4 z1 z2 z3
  go_wp2_with fail
  refine (repeat_to (B := w4.heap.size) (.slice none 0 0) [] L2 (World.ownsRow_nil _ _ _ _) (Nat.le_refl _) 32 5 HL2.out (by omega) (by simp)).mono ?_
  rintro x w5 ⟨v5, rfl, o5, k5⟩
  have b5 := k5.below (Nat.le_refl _) (by simp)
  obtain ⟨g1, c1, hv4, hg1, hcell1, hc1a, hc1b⟩ := own_ints (RIn.ofBelow.own_below' O4.out b5) rfl (by omega)
  obtain ⟨g2, c2, hv5, hg2, hcell2, hc2a, hc2b⟩ := own_ints o5 rfl (by omega)
  subst hv4 hv5
  have B5 := hide (B4.out.trans (b5.mono z4))
  have G1 := hide (grown_ok g1 0 c1 L1 HS1.out (by omega) hg1 hcell1 ⟨hc1a, hc1b⟩)
  have HC2L := hide hcell2
  clear o5 k5 b5 O4 B4 hcell1 hcell2
  go_wp2_with fail
  refine G1.out.mono ?_
  rintro x w6 ⟨bt1, T1, f1, rfl, t1, hb1, b6, gt1⟩
  have T1K := hide (gt1.ok t1 HK1.out)
  have B6 := hide (B5.out.trans (b6.mono B5.out.size))
  have G2 := hide (grown_ok (w := w6) g2 0 c2 L2 HS2.out (by omega) (Nat.lt_of_lt_of_le hg2 b6.size) (fun i hi => by rw [b6.cell (p := ⟨g2, 0 + i, none⟩) hg2]; exact HC2L.out i hi) ⟨hc2a, hc2b⟩)
  clear t1 b6 gt1 G1 HC2L B5
  go_wp2_with fail
  refine G2.out.mono ?_
  rintro x w7 ⟨bt2, T2, f2, rfl, t2, hb2, b7, gt2⟩
  have T2K := gt2.ok t2 HK2.out
  have T1K7 := T1K.out.below b7
  have B7 := hide (B6.out.trans (b7.mono B6.out.size))
  have R7 := h.ofBelow B7.out
  rw [N2.out] at T2K
  have HSY := hide (rsymbols_ok R7 (c := ⟨cz L1, Fo.ssOf L1, cz L2, Fo.ssOf L2⟩) (M := L1.length) (by omega) hw T1K7 T2K HC1.out HC2.out HST.out)
  clear t2 b7 gt2 G2 T2K T1K7 T1K R7
  go_wp2_with fail
  refine HSY.out.mono ?_
  rintro x w8 ⟨rfl, q, ov8, o8, e8, r8, br8, k8⟩
  go_wp2
  go_end0
  refine ⟨rfl, q, ov8, o8, e8, r8, br8, ?_⟩
  have B7' := B7.out
  exact Kept.trans ⟨B7'.os, B7'.tape, B7'.output, B7'.size, fun i o _ ho _ => by rw [B7'.block i (lt_of_block ho)]; exact ho⟩ k8
theorem rfixed_ok (h : RIn B b S most w p ov out 0) {window : Nat} (hw : window ≤ 32768) {res : Except Nat (List Bool × List Nat)} (hst : PSt S Fo.fixedC window most res p out 0) :
    Calls Tryz.prog 152 #[.pointer (some ⟨b, 0, none⟩), .int .i64 window] w fun x w' => x = .returned (.tuple #[]) ∧ ∃ q ov' o e, RIn B b S most w' q ov' o e ∧ BRes S res q o e ∧ Kept 5 B [b] w w' := by
  have e1 : Fo.ssOf Fo.lensFixed = Fo.ssF := by
    unfold Fo.ssOf; rw [lens_len]; exact fixed_cz.2.1
  have e2 : Fo.ssOf Fo.distFixed = Fo.sdF := by
    unfold Fo.ssOf; rw [dist_len]; exact fixed_cz.2.2.2
  refine rfixed_gen _ _ _ Fo.lensFixed Fo.distFixed lens_len dist_len (by simp only [List.length_append, List.length_replicate, List.length_nil]; omega) (by simp only [List.length_append, List.length_replicate, List.length_nil]; omega) (by simp only [List.length_append, List.length_replicate, List.length_nil]; omega) rfl rfl rfl fixed_lens.1 fixed_lens.2 (fun i hi => fixed_small.1 i (by rw [lens_len] at hi; exact hi)) (fun i hi => fixed_small.2 i (by rw [dist_len] at hi; exact hi)) (by rw [fixed_kr.1]; omega) (by rw [fixed_kr.2]; omega) ?_ ?_ h hw ?_
  · rw [e1]; exact fun r s r' hs => Nat.le_trans (sym_mem fixed_ss.1 r s r' hs) (by omega)
  · rw [e2]; exact fun r s r' hs => sym_mem fixed_ss.2 r s r' hs
  · rw [e1, e2, fixed_cz.1, fixed_cz.2.2.1]; exact hst
end Go.Proofs.YtgkljcmjnphpeaaGreatDoor
namespace Go.Proofs.YtgkljcmjnphpeaaGreatDoor.Fo
/-- Bytes in bits. -/
def bytesAt (r : List Bool) (n : Nat) : List Nat := (List.range n).map fun i => val ((r.drop (8 * i)).take 8)
/-- A block of sort 0: what comes of it. -/
def storedDec (most : Nat) (r : List Bool) (o : List Nat) : Except Nat (List Bool × List Nat) :=
  if (r.drop (r.length % 8)).length < 32 then .error 5
  else if val ((r.drop (r.length % 8)).take 16) + val (((r.drop (r.length % 8)).drop 16).take 16) ≠ 65535 ∨ ((r.drop (r.length % 8)).drop 32).length < 8 * val ((r.drop (r.length % 8)).take 16) then .error 5
  else if o.length + val ((r.drop (r.length % 8)).take 16) ≤ most then .ok (((r.drop (r.length % 8)).drop 32).drop (8 * val ((r.drop (r.length % 8)).take 16)), o ++ bytesAt ((r.drop (r.length % 8)).drop 32) (val ((r.drop (r.length % 8)).take 16)))
  else .error 6
end Go.Proofs.YtgkljcmjnphpeaaGreatDoor.Fo
namespace Go.Proofs.YtgkljcmjnphpeaaGreatDoor
open Go.RowKit
variable {B b : Nat} {S : ByteArray} {most : Nat} {w : World} {p : Nat} {ov : Value} {out : List Nat} {e : Nat}
theorem rest4_byte (S : ByteArray) (k : Nat) (h : k < S.size) : Fo.val ((rest4 S (8 * k)).take 8) = nth (bl S) k := by
  have e1 : ∀ j, j ≤ 8 → (rest4 S (8 * k)).take j = (Fo.bits8 (nth (bl S) k)).take j := by
    intro j
    induction j with
    | zero => intro _; rfl
    | succ j ih =>
      intro hj
      rw [take_rest4 S (8 * k) j (by omega), ih (by omega)]
      have d1 : (8 * k + j) / 8 = k := by omega
      have d2 : (8 * k + j) % 8 = j := by omega
      rw [d1, d2]
      have hl : j < (Fo.bits8 (nth (bl S) k)).length := by rw [Fo.bits8_length]; omega
      rw [List.take_succ_eq_append_getElem hl]
      congr 2
      match j, hj with
      | 0, _ => rfl
      | 1, _ => rfl
      | 2, _ => rfl
      | 3, _ => rfl
      | 4, _ => rfl
      | 5, _ => rfl
      | 6, _ => rfl
      | 7, _ => rfl
  rw [e1 8 (Nat.le_refl _), List.take_of_length_le (by rw [Fo.bits8_length]; exact Nat.le_refl _)]
  exact Fo.val_bits8 _ (bl_lt S k h)
theorem bytesAt_eq (S : ByteArray) (K n : Nat) (h : K + n ≤ S.size) : Fo.bytesAt (rest4 S (8 * K)) n = ((bl S).drop K).take n := by
  have hl : (((bl S).drop K).take n).length = n := by rw [List.length_take, List.length_drop, bl_len]; omega
  apply List.ext_getElem
  · rw [hl]; simp [Fo.bytesAt]
  · intro i h1 h2
    rw [hl] at h2
    have e : (Fo.bytesAt (rest4 S (8 * K)) n)[i] = Fo.val (((rest4 S (8 * K)).drop (8 * i)).take 8) := by simp [Fo.bytesAt]
    rw [e, rest4_drop, show 8 * K + 8 * i = 8 * (K + i) by omega, rest4_byte S (K + i) (by omega), List.getElem_take, List.getElem_drop]
    simp [nth, List.getElem?_eq_getElem (show K + i < (bl S).length by rw [bl_len]; omega)]
set_option maxRecDepth 100000 in
set_option maxHeartbeats 2000000 in
theorem rplain_ok (h : RIn B b S most w p ov out 0) (hp : p ≤ 8 * S.size) (hby : ∀ x ∈ out, x < 256) {res : Except Nat (List Bool × List Nat)} (hres : Fo.storedDec most (rest4 S p) out = res) :
    Calls Tryz.prog 151 #[.pointer (some ⟨b, 0, none⟩)] w fun x w' => x = .returned (.tuple #[]) ∧ ∃ q ov' o e, RIn B b S most w' q ov' o e ∧ BRes S res q o e ∧ Kept 5 B [b] w w' := by
  obtain ⟨K, hK⟩ : ∃ K, (p + 7) / 8 = K := ⟨_, rfl⟩
  have ls := h.ls
  have hK8 : 8 * K ≤ 8 * S.size := by omega
  have hal : (rest4 S p).drop ((rest4 S p).length % 8) = rest4 S (8 * K) := by
    rw [rest4_drop, rest4_len]; congr 1; omega
  unfold Fo.storedDec at hres
  rw [hal] at hres
  have HRES := hide hres
  have c1 := h.c1
  have f1 := h.fz 1
  have R0 := hide (h.set1 (8 * K) (by omega))
  have K0 := hide ((Kept.refl 5 B [b] w).setCell (p := ⟨b, 1, none⟩) (by simp) (.int .i64 ((8 * K : Nat) : Int)))
  have eK : ((8 * K : Nat) : Int) = ((p : Int) + 7) / 8 * 8 := by omega
  rw [eK] at R0 K0
  have HBY := hide hby
  have HK := hide hK
  clear hres hal h hby hK eK
  go_enter Tryz.func151, Tryz.ntmps151
  go_wp2_with fail
  refine (rbits_any R0.out 16 (by omega)).mono ?_
  rintro x w2 ⟨n, q2, e2, rfl, r2, B2, hn2, k2⟩
  have hn16 : n < 65536 := by simpa using hn2
  go_wp2_with fail
  refine (rbits_any r2 16 (by omega)).mono ?_
  rintro x w3 ⟨m, q3, e3, rfl, r3, B3, hm3, k3⟩
  have hm16 : m < 65536 := by simpa using hm3
  have K3 := hide ((K0.out.trans k2).trans k3)
  have R3 := hide r3
  have d0 := r3.c0
  have d1 := r3.c1
  have d4 := r3.c4
  have lp3 := r3.lp
  have le3 := r3.le
  clear K0 k2 k3 r2 r3 R0 c1 f1 hn2 hm3
  have hend : ∀ (W : World) (E : Nat), E = 5 → Hid (RIn B b S most W q3 ov out E) → Hid (res = .error 5) → Hid (Kept 5 B [b] w W) → ∃ q ov' o e, RIn B b S most W q ov' o e ∧ BRes S res q o e ∧ Kept 5 B [b] w W := by
    intro W E hE hr hx hk
    subst hE
    exact ⟨q3, ov, out, 5, hr.out, by rw [hx.out]; exact ⟨rfl, by omega⟩, hk.out⟩
  have HEND := hide hend
  clear hend
  by_cases h3 : e3 = 0
  · have hval : n = Fo.val ((rest4 S (8 * K)).take 16) ∧ m = Fo.val (((rest4 S (8 * K)).drop 16).take 16) ∧ q3 = 8 * K + 32 ∧ 8 * K + 32 ≤ 8 * S.size := by
      rcases B2.out with ⟨h0, _⟩ | ⟨_, hb2, hn, hq2, he2⟩ | ⟨_, hb2, hn, hq2, he2⟩
      · exact absurd rfl h0
      · rcases B3.out with ⟨h0, _⟩ | ⟨_, hb3, hm, hq3, h5⟩ | ⟨_, hb3, _, _, h5⟩
        · exact absurd he2 h0
        · rw [hq2, ← rest4_drop] at hm
          exact ⟨hn, hm, by omega, by omega⟩
        · omega
      · rcases B3.out with ⟨_, _, _, h5⟩ | ⟨h0, _⟩ | ⟨h0, _⟩ <;> omega
    obtain ⟨hn, hm, hq3, hlen⟩ := hval
    have hr := HRES.out
    rw [if_neg (by rw [rest4_len]; omega), ← hn, ← hm, rest4_drop, rest4_len] at hr
    have HR := hide hr
    have HQ3 := hide hq3
    subst h3
    clear hr hn hm B2 B3 HRES
    by_cases cs : n + m = 65535
    · have cs' : (n : Int) + (m : Int) = 65535 := by omega
      by_cases cl : 8 * S.size < q3 + 8 * n
      · have cl' : decide (8 * (S.size : Int) < (q3 : Int) + 8 * (n : Int)) = true := by simp; omega
        have HR5 : Hid (res = .error 5) := by
          have h1 := HR.out
          rw [if_pos (Or.inr (by omega))] at h1
          exact h1.symm
        clear hq3
        go_wp2_with fail
        go_quiet (fail)
        go_wp2_with fail
        refine (rno_ok (R3.out.drewN nq) 5 (by omega)).mono ?_
        rintro x W4 ⟨rfl, r4, k4'⟩
        rw [rno_zero] at r4
        have k4 := (K3.out.drewN nq).trans k4'
        have g4 := r4.c4
        go_wp2
        go_loopw [4] (fun i wr => i = .int .i64 0 ∧ wr = W4) (fun _ _ => 0)
        case atStart => exact ⟨rfl, rfl⟩
        case round =>
          obtain ⟨rfl, rfl⟩ := hrel
          by_cases cn : 0 < n
          · have cn' : (0 : Int) < n := by omega
            go_wp2
            go_end0
            exact ⟨rfl, HEND.out _ _ rfl r4 HR5 k4⟩
          · have cn' : ¬ (0 : Int) < n := by omega
            go_wp2
            go_end0
            exact ⟨rfl, HEND.out _ _ rfl r4 HR5 k4⟩
      · have cl' : decide (8 * (S.size : Int) < (q3 : Int) + 8 * (n : Int)) = false := by simp; omega
        have HR2 : Hid ((if out.length + n ≤ most then Except.ok ((rest4 S (8 * K + 32)).drop (8 * n), out ++ Fo.bytesAt (rest4 S (8 * K + 32)) n) else Except.error 6) = res) := by
          have h1 := HR.out
          rw [if_neg (by omega)] at h1
          exact h1
        obtain ⟨D0, hD0⟩ : ∃ D0, K + 4 = D0 := ⟨_, rfl⟩
        have hfit : D0 + n ≤ S.size := by omega
        have HB : Hid (out.length + n ≤ most → BRes S res (8 * (D0 + n)) (out ++ ((bl S).drop D0).take n) 0) := by
          intro hroom
          have h1 := HR2.out
          rw [if_pos hroom, show 8 * K + 32 = 8 * D0 by omega, rest4_drop, bytesAt_eq S D0 n hfit] at h1
          rw [← h1]
          refine ⟨rfl, rfl, by congr 1; omega, by omega, fun y hy => ?_⟩
          rcases List.mem_append.1 hy with hy | hy
          · exact HBY.out y hy
          · have hy2 := List.mem_of_mem_drop (List.mem_of_mem_take hy)
            obtain ⟨i, hi, rfl⟩ := List.getElem_of_mem hy2
            rw [bl_len] at hi
            have := bl_lt S i hi
            simpa [nth, bl_len, hi] using this
        have HB6 : Hid (most < out.length + n → res = .error 6) := fun hf => by
          have h1 := HR2.out
          rw [if_neg (by omega)] at h1
          exact h1.symm
        have hQ0 : q3 = 8 * (D0 + 0) := by omega
        have lo := R3.out.lo
        clear HR HR2
        go_wp2_with fail
        go_quiet (fail)
        obtain ⟨W4, hW4⟩ : ∃ W, w3.drewN nq = W := ⟨_, rfl⟩
        have R4 := hide (R3.out.drewN nq)
        have K4 := hide (K3.out.drewN nq)
        rw [hW4] at R4 K4 ⊢
        rw [hQ0] at R4
        go_wp2
        clear hW4 R3 K3 hq3 HQ3 cl cl' cs cs' hQ0 d0 d1 d4 hD0 lp3
        go_loopw [4] (fun i wr => ∃ (j e' : Nat) (ov' : Value) (o' : List Nat), i = .int .i64 j ∧ j ≤ n ∧ RIn B b S most wr (8 * (D0 + j)) ov' o' e' ∧ Hid ((out.length + j ≤ most ∧ o' = out ++ ((bl S).drop D0).take j ∧ e' = 0) ∨ (most < out.length + n ∧ e' = 6)) ∧ Kept 5 B [b] w wr) (fun i _ => n - (intOf i).toNat)
        case atStart => exact ⟨0, 0, ov, out, rfl, Nat.zero_le _, R4.out, Or.inl ⟨by omega, by simp, rfl⟩, K4.out⟩
        clear R4 K4
        case round =>
          obtain ⟨j, e', ov', o', rfl, hj, r, HC, kk⟩ := hrel
          have d4 := r.c4
          by_cases cj : j < n
          · have cj' : (j : Int) < n := by omega
            rcases HC.out with ⟨hr1, ho, rfl⟩ | ⟨hr1, rfl⟩
            · have hol : o'.length = out.length + j := by
                rw [ho, List.length_append, List.length_take, List.length_drop, bl_len]; omega
              have HT := hide (take_next (bl S) D0 j (by rw [bl_len]; omega))
              have hdl : D0 + j < S.size := by omega
              have hX := bl_lt S (D0 + j) hdl
              have hx0 := bl_nth S (D0 + j) hdl
              have HO := hide ho
              have HOL := hide hol
              obtain ⟨DJ, hDJ⟩ : ∃ DJ, D0 + j = DJ := ⟨_, rfl⟩
              obtain ⟨Q, hQ⟩ : ∃ Q, 8 * (D0 + j) = Q := ⟨_, rfl⟩
              have hQ2 : 8 * (D0 + (j + 1)) = Q + 8 := by omega
              have HQ2 := hide hQ2
              have HQ := hide hQ
              have d0 := r.c0
              have d1 := r.c1
              have f1 := r.fz 1
              rw [hQ] at d1
              have wq : IntKind.i64.wrap ((Q : Int) / 8) = (DJ : Int) := by rw [IntKind.wrap_i64]; omega
              have hDl : (DJ : Int) < S.size := by omega
              have hQb : Q ≤ 100000000 := by omega
              have R := hide r
              have KK := hide kk
              rw [hDJ] at hX HT
              have hx1 : ∀ hh, (S[DJ]'hh).toNat = nth (bl S) DJ := fun hh => bl_nth S DJ hh
              have hDJS : DJ < S.size := by omega
              have hx2 := hx1 hDJS
              generalize nth (bl S) DJ = X at *
              clear r kk ho hol HC hx0 hQ hQ2 hDJ hdl
              go_wp2_with fail
              go_region_with (go_at_call 108; refine (rput_any (R.out.drewN 1) _ X (by first | rfl | (rw [hx1]) | omega) hX).mono ?_; rintro x w3 ⟨rfl, ov3, r3, k3⟩)
              all_goals
                have g1 := r3.c1
                have g2 := r3.fz 1
                rw [HQ.out] at g1
                have R4 := hide (r3.set1 (8 * (D0 + (j + 1))) (by omega))
                have K4 := hide (((KK.out.drewN 1).trans k3).setCell (p := ⟨b, 1, none⟩) (by simp) (.int .i64 ((8 * (D0 + (j + 1)) : Nat) : Int)))
                have eQ : ((8 * (D0 + (j + 1)) : Nat) : Int) = (Q : Int) + 8 := by have := HQ2.out; omega
                rw [eQ] at R4 K4
                have HR3 : Hid (((out.length + (j + 1) ≤ most ∧ (rput most X (o', 0)).1 = out ++ ((bl S).drop D0).take (j + 1) ∧ (rput most X (o', 0)).2 = 0) ∨ (most < out.length + n ∧ (rput most X (o', 0)).2 = 6))) := (by
                  have h1 := HOL.out
                  by_cases cr : o'.length + 1 ≤ most
                  · rw [rput_room cr, HT.out, ← List.append_assoc, ← HO.out]; exact Or.inl ⟨by omega, rfl, rfl⟩
                  · rw [rput_full cr]; exact Or.inr ⟨by omega, rfl⟩)
                clear r3 k3 eQ
                go_wp2
                go_roundw
                case rel => exact ⟨j + 1, _, ov3, _, by go_num, by omega, R4.out, HR3, K4.out⟩
                case measure => simp [intOf]; omega
            · have he' : ((6 : Int) == 0) = false := by decide
              go_wp2
              go_end0
              exact ⟨rfl, _, ov', o', 6, r, by rw [HB6.out hr1]; exact ⟨rfl, by omega⟩, kk⟩
          · obtain rfl : j = n := by omega
            have cj' : ¬ (j : Int) < j := by omega
            go_wp2
            go_end0
            rcases HC.out with ⟨hr1, rfl, rfl⟩ | ⟨hr1, rfl⟩
            · exact ⟨rfl, _, ov', _, 0, r, HB.out hr1, kk⟩
            · exact ⟨rfl, _, ov', o', 6, r, by rw [HB6.out hr1]; exact ⟨rfl, by omega⟩, kk⟩
    · obtain ⟨Tn, hTn⟩ : ∃ Tn, n + m = Tn := ⟨_, rfl⟩
      have ws : IntKind.i64.wrap ((n : Int) + (m : Int)) = (Tn : Int) := by rw [IntKind.wrap_i64]; omega
      have cs' : ((Tn : Int) != 65535) = true := by simp; omega
      clear hTn
      have HR5 : Hid (res = .error 5) := by
        have h1 := HR.out
        rw [if_pos (Or.inl cs)] at h1
        exact h1.symm
      clear hq3
      go_wp2_with fail
      go_quiet (fail)
      go_wp2_with fail
      refine (rno_ok (R3.out.drewN nq) 5 (by omega)).mono ?_
      rintro x W4 ⟨rfl, r4, k4'⟩
      rw [rno_zero] at r4
      have k4 := (K3.out.drewN nq).trans k4'
      have g4 := r4.c4
      go_wp2
      go_loopw [4] (fun i wr => i = .int .i64 0 ∧ wr = W4) (fun _ _ => 0)
      case atStart => exact ⟨rfl, rfl⟩
      case round =>
        obtain ⟨rfl, rfl⟩ := hrel
        by_cases cn : 0 < n
        · have cn' : (0 : Int) < n := by omega
          go_wp2
          go_end0
          exact ⟨rfl, HEND.out _ _ rfl r4 HR5 k4⟩
        · have cn' : ¬ (0 : Int) < n := by omega
          go_wp2
          go_end0
          exact ⟨rfl, HEND.out _ _ rfl r4 HR5 k4⟩
  · have he5 : e3 = 5 ∧ res = .error 5 := by
      have hr := HRES.out
      rcases B2.out with ⟨h0, _⟩ | ⟨_, hb2, hn, hq2, he2⟩ | ⟨_, hb2, hn, hq2, he2⟩
      · exact absurd rfl h0
      · rcases B3.out with ⟨h0, _⟩ | ⟨_, _, _, _, h5⟩ | ⟨_, hb3, _, _, h5⟩
        · exact absurd he2 h0
        · exact absurd h5 h3
        · rw [if_pos (by rw [rest4_len]; omega)] at hr
          exact ⟨h5, hr.symm⟩
      · rcases B3.out with ⟨_, _, _, h5⟩ | ⟨h0, _⟩ | ⟨h0, _⟩
        · rw [if_pos (by rw [rest4_len]; omega)] at hr
          exact ⟨by omega, hr.symm⟩
        · omega
        · omega
    obtain ⟨rfl, hr5⟩ := he5
    have HR5 := hide hr5
    have n0 : ((5 : Int) == 0) = false := by decide
    clear hr5 h3
    by_cases cs : n + m = 65535
    · have cs' : (n : Int) + (m : Int) = 65535 := by omega
      by_cases cl : 8 * S.size < q3 + 8 * n
      · have cl' : decide (8 * (S.size : Int) < (q3 : Int) + 8 * (n : Int)) = true := by simp; omega
        go_wp2_with fail
        go_quiet (fail)
        go_wp2_with fail
        refine (rno_ok (R3.out.drewN nq) 5 (by omega)).mono ?_
        rintro x W4 ⟨rfl, r4, k4'⟩
        rw [rno_err (by omega)] at r4
        have k4 := (K3.out.drewN nq).trans k4'
        have g4 := r4.c4
        go_wp2
        go_loopw [4] (fun i wr => i = .int .i64 0 ∧ wr = W4) (fun _ _ => 0)
        case atStart => exact ⟨rfl, rfl⟩
        case round =>
          obtain ⟨rfl, rfl⟩ := hrel
          by_cases cn : 0 < n
          · have cn' : (0 : Int) < n := by omega
            go_wp2
            go_end0
            exact ⟨rfl, HEND.out _ _ rfl r4 HR5 k4⟩
          · have cn' : ¬ (0 : Int) < n := by omega
            go_wp2
            go_end0
            exact ⟨rfl, HEND.out _ _ rfl r4 HR5 k4⟩
      · have cl' : decide (8 * (S.size : Int) < (q3 : Int) + 8 * (n : Int)) = false := by simp; omega
        go_wp2_with fail
        go_quiet (fail)
        obtain ⟨W4, hW4⟩ : ∃ W, w3.drewN nq = W := ⟨_, rfl⟩
        have r4 := R3.out.drewN nq
        have k4 := K3.out.drewN nq
        rw [hW4] at r4 k4 ⊢
        have g4 := r4.c4
        clear hW4
        go_wp2
        go_loopw [4] (fun i wr => i = .int .i64 0 ∧ wr = W4) (fun _ _ => 0)
        case atStart => exact ⟨rfl, rfl⟩
        case round =>
          obtain ⟨rfl, rfl⟩ := hrel
          by_cases cn : 0 < n
          · have cn' : (0 : Int) < n := by omega
            go_wp2
            go_end0
            exact ⟨rfl, HEND.out _ _ rfl r4 HR5 k4⟩
          · have cn' : ¬ (0 : Int) < n := by omega
            go_wp2
            go_end0
            exact ⟨rfl, HEND.out _ _ rfl r4 HR5 k4⟩
    · obtain ⟨Tn, hTn⟩ : ∃ Tn, n + m = Tn := ⟨_, rfl⟩
      have ws : IntKind.i64.wrap ((n : Int) + (m : Int)) = (Tn : Int) := by rw [IntKind.wrap_i64]; omega
      have cs' : ((Tn : Int) != 65535) = true := by simp; omega
      clear hTn
      go_wp2_with fail
      go_quiet (fail)
      go_wp2_with fail
      refine (rno_ok (R3.out.drewN nq) 5 (by omega)).mono ?_
      rintro x W4 ⟨rfl, r4, k4'⟩
      rw [rno_err (by omega)] at r4
      have k4 := (K3.out.drewN nq).trans k4'
      have g4 := r4.c4
      go_wp2
      go_loopw [4] (fun i wr => i = .int .i64 0 ∧ wr = W4) (fun _ _ => 0)
      case atStart => exact ⟨rfl, rfl⟩
      case round =>
        obtain ⟨rfl, rfl⟩ := hrel
        by_cases cn : 0 < n
        · have cn' : (0 : Int) < n := by omega
          go_wp2
          go_end0
          exact ⟨rfl, HEND.out _ _ rfl r4 HR5 k4⟩
        · have cn' : ¬ (0 : Int) < n := by omega
          go_wp2
          go_end0
          exact ⟨rfl, HEND.out _ _ rfl r4 HR5 k4⟩
end Go.Proofs.YtgkljcmjnphpeaaGreatDoor
