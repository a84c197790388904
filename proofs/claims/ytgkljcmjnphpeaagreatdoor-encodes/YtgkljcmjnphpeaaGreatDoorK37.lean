/- Strings out of rows of bytes. -/
import Derived.Test.YtgkljcmjnphpeaaGreatDoorK30
import Derived.Test.YtgkljcmjnphpeaaGreatDoorK07
import Derived.Test.YtgkljcmjnphpeaaGreatDoorK08
import Derived.Laws.BytesString
import Derived.Laws.Cells
set_option linter.unusedVariables false
set_option linter.unusedSimpArgs false
namespace Go.Proofs.YtgkljcmjnphpeaaGreatDoor
open Go.RowKit
variable {B b : Nat} {S : ByteArray} {most : Nat} {w : World} {p : Nat} {ov : Value} {out : List Nat} {e : Nat}
set_option maxRecDepth 100000 in
set_option maxHeartbeats 2000000 in
theorem rflate_ok (h : RIn B b S most w 0 ov [] 0) {res : Except Nat (List Nat)} (hres : Fo.FlateTo most (rest4 S 0) res) :
    Calls Tryz.prog 77 #[.pointer (some ⟨b, 0, none⟩)] w fun x w' => x = .returned (.tuple #[]) ∧ ∃ q ov' o e, RIn B b S most w' q ov' o e ∧ URes res o e ∧ Kept 5 B [b] w w' := by
  obtain ⟨r1, hO, HR⟩ : ∃ r1, Fo.OpenTo most (rest4 S 0) r1 ∧ Hid ((∃ e, r1 = .error e ∧ res = .error e) ∨ (∃ r' o', r1 = .ok (r', o') ∧ res = Fo.sumDec r' o')) := by
    rcases hres with ⟨e, h, rfl⟩ | ⟨r', o, h, rfl⟩
    · exact ⟨_, h, Or.inl ⟨e, rfl, rfl⟩⟩
    · exact ⟨_, h, Or.inr ⟨r', o, rfl, rfl⟩⟩
  have HO := hide (ropen_ok h hO)
  clear hO hres h
  go_enter Tryz.func77, Tryz.ntmps77
  go_wp2_with fail
  refine HO.out.mono ?_
  rintro x w1 ⟨rfl, q, ov1, o, e1, R1, br1, k1⟩
  clear HO
  have BR := hide br1
  have c1 := R1.c1
  have f1 := R1.fz 1
  have ls := R1.ls
  have lp := R1.lp
  have lo := R1.lo
  have lm := R1.lm
  obtain ⟨K, hK⟩ : ∃ K, (q + 7) / 8 = K := ⟨_, rfl⟩
  have R0 := R1.set1 (8 * K) (by omega)
  have K0 := k1.setCell (p := ⟨b, 1, none⟩) (by simp) (.int .i64 ((8 * K : Nat) : Int))
  have eK : ((8 * K : Nat) : Int) = ((q : Int) + 7) / 8 * 8 := by omega
  rw [eK] at R0 K0
  have K0 := hide K0
  have HK := hide hK
  have hK9 : 8 * K ≤ 8 * S.size + 8 := by omega
  clear hK eK br1 k1
  obtain ⟨ao, oc, hov⟩ := own_slice R0.own
  subst hov
  by_cases ce : e1 = 0
  · have hby : ∀ x ∈ o, x < 256 := by
      have := BR.out
      unfold BRes at this
      subst ce
      cases r1 with
      | error n => exact absurd this.1.symm this.2
      | ok x => exact this.2.2.2.2
    have HBY := hide hby
    have hq8 : q ≤ 8 * S.size := by
      have := BR.out
      unfold BRes at this
      subst ce
      cases r1 with
      | error n => exact absurd this.1.symm this.2
      | ok x => exact this.2.2.2.1
    have hK8 : 8 * K ≤ 8 * S.size := by have := HK.out; omega
    clear hby
    go_wp2
    obtain ⟨W, hW⟩ : ∃ W, w1.setCell ⟨b, 1, none⟩ (.int .i64 (((q : Int) + 7) / 8 * 8)) = W := ⟨_, rfl⟩
    rw [hW] at R0 K0 ⊢
    have d2 := R0.c2
    clear hW R1 c1 f1
    go_loopw [2, 3, 4] (fun a c i wr => ∃ k : Nat, k ≤ o.length ∧ i = .int .i64 k ∧ a = .int .i64 (sumAB (o.take k)).1 ∧ c = .int .i64 (sumAB (o.take k)).2 ∧ wr = W) (fun _ _ i _ => o.length - (intOf i).toNat)
    case atStart => exact ⟨0, Nat.zero_le _, rfl, rfl, rfl, rfl⟩
    case round =>
      obtain ⟨k, hk, rfl, rfl, rfl, rfl⟩ := hrel
      have hs := sumAB_lt (o.take k)
      by_cases hlt : k < o.length
      · have hlt' : (k : Int) < o.length := by omega
        obtain ⟨g, oc', hov', _⟩ := own_form R0.own (by omega)
        simp only [Value.slice.injEq] at hov'
        obtain ⟨rfl, _, rfl⟩ := hov'
        have hx := R0.own.cellAt k (by omega)
        rw [List.getElem?_map, List.getElem?_eq_getElem hlt] at hx
        simp only [Option.map_some] at hx
        have hXb : o[k] < 256 := HBY.out _ (List.getElem_mem hlt)
        have hsn := hide (sumAB_snoc (o.take k) o[k])
        have hts : Hid (o.take (k + 1) = o.take k ++ [o[k]]) := by rw [List.take_succ_eq_append_getElem hlt]; exact rfl
        generalize hX : o[k] = X at *
        generalize hA : (sumAB (o.take k)).1 = A at *
        generalize hBB : (sumAB (o.take k)).2 = BB at *
        have HX := hide hX
        have HA := hide hA
        have HB := hide hBB
        clear hA hBB hX
        go_wp2
        go_roundw
        case rel =>
          refine ⟨k + 1, by omega, by go_num, ?_, ?_, trivial⟩
          · rw [hts.out, hsn.out]
            simp
          · rw [hts.out, hsn.out]
            simp
        case measure => simp [intOf]; omega
      · have hlt' : ¬ (k : Int) < o.length := by omega
        obtain rfl : k = o.length := by omega
        rw [List.take_length] at hs ⊢
        generalize hA : (sumAB o).1 = A at *
        generalize hBB : (sumAB o).2 = BB at *
        have HA := hide hA
        have HB := hide hBB
        clear hA hBB
        go_wp2
        go_loopw [5, 6] (fun vs vj wr => ∃ (j sum qq e : Nat), vs = .int .i64 sum ∧ vj = .int .i64 j ∧ j ≤ 4 ∧ sum < 256 ^ j ∧ RIn B b S most wr qq (.slice ao o.length oc) o e ∧ Hid (SmSt S (8 * K) e1 j sum qq e) ∧ Kept 5 B [b] w wr) (fun _ vj _ => 4 - (intOf vj).toNat)
        case atStart => exact ⟨0, 0, 8 * K, e1, rfl, rfl, by omega, by decide, R0, Or.inr (Or.inl ⟨ce, ce, by omega, hK8, by simp [Fo.beN]⟩), K0.out⟩
        clear R0 K0 d2
        case round =>
          obtain ⟨j, sum, qq, e, rfl, rfl, hj, hsum, r, HS, kk⟩ := hrel
          have hpow : 256 ^ j ≤ 256 ^ 4 := Nat.pow_le_pow_right (by omega) hj
          have h44 : (256 : Nat) ^ 4 = 4294967296 := by decide
          rw [h44] at hpow
          clear h44
          by_cases cj : j < 4
          · have cj' : (j : Int) < 4 := by omega
            have HP := hide (Nat.pow_succ 256 j)
            have HS1 : Hid (sum < 256 ^ j) := hsum
            have hs4 : sum < 4294967296 := by omega
            clear hsum hpow
            go_wp2_with fail
            refine (rbits_any r 8 (by omega)).mono ?_
            rintro x w4 ⟨v, q4, e4, rfl, r4, B4, hv4, k4⟩
            have hv : v < 256 := by simpa using hv4
            have HST := hide (HS.out.step cj B4.out)
            clear hv4 B4 HS
            go_wp2
            go_roundw
            case rel =>
              refine ⟨j + 1, 256 * sum + v, q4, e4, by go_num, by go_num, by omega, ?_, r4, HST, kk.trans k4⟩
              have := HS1.out
              rw [HP.out]; omega
            case measure => simp [intOf]; omega
          · have cj' : ¬ (j : Int) < 4 := by omega
            obtain rfl : j = 4 := by omega
            have hs4 : sum < 4294967296 := by omega
            clear hsum hpow
            have d0 := r.c0
            have d1 := r.c1
            have lq := r.lp
            have HE := hide (fun e2 (he : e2 = if sum = 65536 * (sumAB o).2 + (sumAB o).1 ∧ qq = 8 * S.size then e else rno 5 e) => smSt_end BR.out (q0 := 8 * K) (by have := HK.out; omega) HR.out HS.out he)
            have R := hide r
            have KK := hide kk
            have HE0 : Hid (e1 ≠ 0 → e ≠ 0) := fun h => by
              rcases HS.out with ⟨h1, h2⟩ | ⟨h1, _⟩ | ⟨h1, _⟩
              · omega
              · exact absurd h1 h
              · exact absurd h1 h
            clear r kk HS
            rw [HA.out, HB.out] at HE
            by_cases t1 : sum = 65536 * BB + A
            · have t1' : ((sum : Int) != 65536 * (BB : Int) + (A : Int)) = false := by simp; omega
              by_cases t2 : qq = 8 * S.size
              · have t2' : ((qq : Int) != 8 * (S.size : Int)) = false := by simp; omega
                have HE2 := hide (HE.out e (by rw [if_pos ⟨t1, t2⟩]))
                clear t1 t2
                go_wp2_with fail
                go_quiet (fail)
                go_wp2
                go_end0
                exact ⟨rfl, _, _, _, _, R.out.drewN nq, HE2.out, KK.out.drewN nq⟩
              · have t2' : ((qq : Int) != 8 * (S.size : Int)) = true := by simp; omega
                have HE2 := hide (HE.out (rno 5 e) (by rw [if_neg (fun h => t2 h.2)]))
                clear t1 t2
                go_wp2_with fail
                go_quiet (fail)
                go_wp2_with fail
                refine (rno_ok (R.out.drewN nq) 5 (by omega)).mono ?_
                rintro x w5 ⟨rfl, r5, k5⟩
                go_wp2
                go_end0
                exact ⟨rfl, _, _, _, _, r5, HE2.out, (KK.out.drewN nq).trans k5⟩
            · have t1' : ((sum : Int) != 65536 * (BB : Int) + (A : Int)) = true := by simp; omega
              have HE2 := hide (HE.out (rno 5 e) (by rw [if_neg (fun h => t1 h.1)]))
              clear t1
              go_wp2_with fail
              go_quiet (fail)
              go_wp2_with fail
              refine (rno_ok (R.out.drewN nq) 5 (by omega)).mono ?_
              rintro x w5 ⟨rfl, r5, k5⟩
              go_wp2
              go_end0
              exact ⟨rfl, _, _, _, _, r5, HE2.out, (KK.out.drewN nq).trans k5⟩
  · go_wp2
    obtain ⟨W, hW⟩ : ∃ W, w1.setCell ⟨b, 1, none⟩ (.int .i64 (((q : Int) + 7) / 8 * 8)) = W := ⟨_, rfl⟩
    rw [hW] at R0 K0 ⊢
    have d2 := R0.c2
    clear hW R1 c1 f1
    go_loopw [2, 3, 4] (fun a c i wr => ∃ (k : Nat) (P Q : Int), k ≤ o.length ∧ i = .int .i64 k ∧ a = .int .i64 P ∧ c = .int .i64 Q ∧ (-65521 < P ∧ P < 65521 ∧ -65521 < Q ∧ Q < 65521) ∧ wr = W) (fun _ _ i _ => o.length - (intOf i).toNat)
    case atStart => exact ⟨0, 1, 0, Nat.zero_le _, rfl, rfl, rfl, by omega, rfl⟩
    case round =>
      obtain ⟨k, P, Q, hk, rfl, rfl, rfl, hb, rfl⟩ := hrel
      by_cases hlt : k < o.length
      · have hlt' : (k : Int) < o.length := by omega
        obtain ⟨g, oc', hov', _⟩ := own_form R0.own (by omega)
        simp only [Value.slice.injEq] at hov'
        obtain ⟨rfl, _, rfl⟩ := hov'
        have hx := R0.own.cellAt k (by omega)
        rw [List.getElem?_map, List.getElem?_eq_getElem hlt] at hx
        simp only [Option.map_some] at hx
        generalize o[k] = X at *
        go_wp2
        go_roundw
        case rel =>
          refine ⟨k + 1, _, _, by omega, by go_num, rfl, rfl, ?_, trivial⟩
          exact ⟨Int.lt_tmod_of_pos _ (by decide), Int.tmod_lt_of_pos _ (by decide), Int.lt_tmod_of_pos _ (by decide), Int.tmod_lt_of_pos _ (by decide)⟩
        case measure => simp [intOf]; omega
      · have hlt' : ¬ (k : Int) < o.length := by omega
        obtain rfl : k = o.length := by omega
        go_wp2
        go_loopw [5, 6] (fun vs vj wr => ∃ (j sum qq e : Nat), vs = .int .i64 sum ∧ vj = .int .i64 j ∧ j ≤ 4 ∧ sum < 256 ^ j ∧ RIn B b S most wr qq (.slice ao o.length oc) o e ∧ Hid (SmSt S (8 * K) e1 j sum qq e) ∧ Kept 5 B [b] w wr) (fun _ vj _ => 4 - (intOf vj).toNat)
        case atStart => exact ⟨0, 0, 8 * K, e1, rfl, rfl, by omega, by decide, R0, Or.inl ⟨ce, rfl⟩, K0.out⟩
        clear R0 K0 d2
        case round =>
          obtain ⟨j, sum, qq, e, rfl, rfl, hj, hsum, r, HS, kk⟩ := hrel
          have hpow : 256 ^ j ≤ 256 ^ 4 := Nat.pow_le_pow_right (by omega) hj
          have h44 : (256 : Nat) ^ 4 = 4294967296 := by decide
          rw [h44] at hpow
          clear h44
          by_cases cj : j < 4
          · have cj' : (j : Int) < 4 := by omega
            have HP := hide (Nat.pow_succ 256 j)
            have HS1 : Hid (sum < 256 ^ j) := hsum
            have hs4 : sum < 4294967296 := by omega
            clear hsum hpow
            go_wp2_with fail
            refine (rbits_any r 8 (by omega)).mono ?_
            rintro x w4 ⟨v, q4, e4, rfl, r4, B4, hv4, k4⟩
            have hv : v < 256 := by simpa using hv4
            have HST := hide (HS.out.step cj B4.out)
            clear hv4 B4 HS
            go_wp2
            go_roundw
            case rel =>
              refine ⟨j + 1, 256 * sum + v, q4, e4, by go_num, by go_num, by omega, ?_, r4, HST, kk.trans k4⟩
              have := HS1.out
              rw [HP.out]; omega
            case measure => simp [intOf]; omega
          · have cj' : ¬ (j : Int) < 4 := by omega
            obtain rfl : j = 4 := by omega
            have hs4 : sum < 4294967296 := by omega
            clear hsum hpow
            have d0 := r.c0
            have d1 := r.c1
            have lq := r.lp
            have HE := hide (fun e2 (he : e2 = if sum = 65536 * (sumAB o).2 + (sumAB o).1 ∧ qq = 8 * S.size then e else rno 5 e) => smSt_end BR.out (q0 := 8 * K) (by have := HK.out; omega) HR.out HS.out he)
            have R := hide r
            have KK := hide kk
            have HE0 : Hid (e1 ≠ 0 → e ≠ 0) := fun h => by
              rcases HS.out with ⟨h1, h2⟩ | ⟨h1, _⟩ | ⟨h1, _⟩
              · omega
              · exact absurd h1 h
              · exact absurd h1 h
            clear r kk HS
            have he0 : e ≠ 0 := HE0.out ce
            have HE2 : Hid (URes res o e) := HE.out e (by unfold rno; rw [if_neg he0, ite_self])
            have hno : rno 5 e = e := by simp [rno, he0]
            by_cases t1 : (sum : Int) = 65536 * Q + P
            · have t1' : ((sum : Int) != 65536 * Q + P) = false := by simp; omega
              by_cases t2 : qq = 8 * S.size
              · have t2' : ((qq : Int) != 8 * (S.size : Int)) = false := by simp; omega
                clear t1 t2
                go_wp2_with fail
                go_quiet (fail)
                go_wp2
                go_end0
                exact ⟨rfl, _, _, _, _, R.out.drewN nq, HE2.out, KK.out.drewN nq⟩
              · have t2' : ((qq : Int) != 8 * (S.size : Int)) = true := by simp; omega
                clear t1 t2
                go_wp2_with fail
                go_quiet (fail)
                go_wp2_with fail
                refine (rno_ok (R.out.drewN nq) 5 (by omega)).mono ?_
                rintro x w5 ⟨rfl, r5, k5⟩
                rw [hno] at r5
                go_wp2
                go_end0
                exact ⟨rfl, _, _, _, _, r5, HE2.out, (KK.out.drewN nq).trans k5⟩
            · have t1' : ((sum : Int) != 65536 * Q + P) = true := by simp; omega
              clear t1
              go_wp2_with fail
              go_quiet (fail)
              go_wp2_with fail
              refine (rno_ok (R.out.drewN nq) 5 (by omega)).mono ?_
              rintro x w5 ⟨rfl, r5, k5⟩
              rw [hno] at r5
              go_wp2
              go_end0
              exact ⟨rfl, _, _, _, _, r5, HE2.out, (KK.out.drewN nq).trans k5⟩
end Go.Proofs.YtgkljcmjnphpeaaGreatDoor
namespace Go.Proofs.YtgkljcmjnphpeaaGreatDoor
open Go.RowKit
variable {B : Nat} {w : World}
/-- The string of bytes. -/
def strN (l : List Nat) : ByteArray := ⟨(l.map UInt8.ofNat).toArray⟩
theorem foldl_strN : ∀ (l : List Nat) (r : ByteArray), (l.map (fun x : Nat => (x : Int))).foldl (fun r n => r.push (UInt8.ofNat n.toNat)) r = ⟨r.data ++ (l.map UInt8.ofNat).toArray⟩
  | [], r => by simp
  | b :: l, r => by
    simp only [List.map_cons, List.foldl_cons]
    rw [foldl_strN l]
    simp [ByteArray.push]
theorem string_cells (a : Addr) (cap : Nat) (l : List Nat) (hc : ∀ j, j < l.length → w.cell? (a.add j) = some (.int .u8 (nth l j : Nat))) :
    (convert 23 9 (.slice (some a) l.length cap)).run Tryz.prog w = .ok (.string (strN l)) w := by
  rw [run_convert_bytes_string w 23 9 5 (some a) l.length cap Tryz.underlying23 Tryz.underlying5 Tryz.underlying9]
  have hl := run_loadCells_list (P := Tryz.prog) w a ((l.map (fun b : Nat => (b : Int))).map (Value.int .u8)) (fun j v hj => by
    have hj' : j < l.length := by
      have := (List.getElem?_eq_some_iff.1 hj).1
      simpa using this
    rw [hc j hj']
    simp [List.getElem?_eq_getElem hj'] at hj
    rw [← hj]
    simp [nth, List.getElem?_eq_getElem hj'])
  simp only [List.length_map] at hl
  rw [run_bytesToString w a l.length cap _ hl, foldl_strN]
  have he0 : ByteArray.empty.data = #[] := rfl
  rw [he0]
  simp [strN]
theorem string_own {v : Value} {l : List Nat} (h : w.ownsRow B 5 1 v l.length (l.map fun x : Nat => .int .u8 (x : Int))) :
    (convert 23 9 v).run Tryz.prog w = .ok (.string (strN l)) w := by
  rcases Nat.eq_zero_or_pos l.length with h0 | h0
  · obtain ⟨ao, c, rfl⟩ := own_slice h
    have hl : l = [] := List.length_eq_zero_iff.1 h0
    subst hl
    cases ao with
    | none =>
      show (convert 23 9 (.slice none 0 c)).run Tryz.prog w = _
      rw [run_convert_bytes_string w 23 9 5 none 0 c Tryz.underlying23 Tryz.underlying5 Tryz.underlying9]
      rfl
    | some a => exact string_cells a c [] (fun j hj => by cases hj)
  · obtain ⟨g, c, rfl, _⟩ := own_form h h0
    refine string_cells ⟨g, 0, none⟩ c l (fun j hj => ?_)
    have hx := h.cellAt j (by omega)
    rw [List.getElem?_map, List.getElem?_eq_getElem hj] at hx
    simp only [Option.map_some] at hx
    rw [addr_add]
    rw [show nth l j = l[j] by simp [nth, List.getElem?_eq_getElem hj]]
    simpa using hx
end Go.Proofs.YtgkljcmjnphpeaaGreatDoor
