/- foliokeep.Turned. -/
import Derived.Test.YtgkljcmjnphpeaaDoorTurnD
import Derived.BigRegion
set_option linter.unusedVariables false
set_option linter.unusedSimpArgs false
namespace Go.Proofs.YtgkljcmjnphpeaaDoor
open Go.RowKit
variable {w : World} {B g c n : Nat}

theorem own_cell {l : List Nat} (h : w.ownsRow B 5 1 (.slice (some ⟨g, 0, none⟩) n c) n (l.map fun x : Nat => .int .u8 (x : Int))) (i : Nat) (hi : i < l.length) : w.cell? ⟨g, i, none⟩ = some (.int .u8 (nth l i : Nat)) := by
  have hl : l.length = n := by have := h.1; simpa using this
  rw [h.cellAt i (by omega)]
  simp [nth, hi]
theorem own_cap {xs : List Value} (h : w.ownsRow B 5 1 (.slice (some ⟨g, 0, none⟩) n c) n xs) : n ≤ c ∧ c ≤ 9223372036854775807 := by
  rcases h.2 with ⟨h0, _⟩ | ⟨g', cap, cur, hv, _, _, h1, h2, _⟩
  · cases h0
  · cases hv
    exact ⟨h1, by unfold maxLen at h2; omega⟩
theorem own_set {l : List Nat} (h : w.ownsRow B 5 1 (.slice (some ⟨g, 0, none⟩) n c) n (l.map fun x : Nat => .int .u8 (x : Int))) (k y : Nat) : (w.setCell ⟨g, k, none⟩ (.int .u8 (y : Int))).ownsRow B 5 1 (.slice (some ⟨g, 0, none⟩) n c) n ((l.set k y).map fun x : Nat => .int .u8 (x : Int)) := by
  have := (h.stored k (.int .u8 (y : Int))).1
  rw [List.map_set]; exact this

theorem str_dat {ao : Option Addr} {l : List Nat} {N cap : Nat} (h : Dat w B ao l) (hl : l.length = N) (hp : 0 < N) : (convert 22 9 (.slice ao N cap)).run Tryd.prog w = .ok (.string (strOf l)) w := by
  obtain ⟨b, o, rfl, _, hcd⟩ := h.at (by omega)
  refine run_convert_bytes_arg w 22 5 Tryd.underlying22 Tryd.underlying5 b o N cap _ (by rw [List.length_map]; exact hl) (fun i hi => ?_) 9 Tryd.underlying9
  rw [hcd i (by omega)]
  simp [nth, show i < l.length by omega]
theorem pow8 : ∀ j : Fin 8, (2 : Int) ^ j.val % 256 = 2 ^ j.val := by decide
theorem strOf_inj {a b : List Nat} (ha : ∀ i, i < a.length → nth a i < 256) (hb : ∀ i, i < b.length → nth b i < 256) (hl : a.length = b.length) (h : (strOf a).toList = (strOf b).toList) : a = b := by
  have h1 : (strOf a).data.toList = (strOf b).data.toList := by rw [ByteArray.toList_eq, ByteArray.toList_eq] at h; exact h
  unfold strOf at h1
  rw [strOfNums_data, strOfNums_data, List.map_map, List.map_map] at h1
  apply List.ext_getElem hl
  intro i h1' h2'
  have := congrArg (fun l => l[i]?) h1
  simp only [List.getElem?_map, List.getElem?_eq_getElem h1', List.getElem?_eq_getElem h2', Option.map_some, Option.some.injEq, Function.comp] at this
  have x1 := ha i h1'
  have x2 := hb i h2'
  simp only [nth, List.getD_eq_getElem?_getD, List.getElem?_eq_getElem h1', List.getElem?_eq_getElem h2', Option.getD_some] at x1 x2
  have e := congrArg UInt8.toNat this
  simpa [Nat.mod_eq_of_lt x1, Nat.mod_eq_of_lt x2] using e

set_option maxRecDepth 100000 in
set_option maxHeartbeats 4000000 in
theorem turned_small {ao : Option Addr} {L cap : Nat} {data : List Nat} (hL : data.length = L) (hsm : L ≤ 2000) (hd : Dat w w.heap.size ao data) (byt : ∀ i, i < data.length → nth data i < 256) (hcp : L ≤ cap ∧ cap ≤ 9223372036854775807) (hn : ao = none → cap = 0) (z : Int) (hz1 : -9223372036854775808 ≤ z) (hz2 : z ≤ 9223372036854775807) :
    Calls Tryd.prog 4 #[.slice ao L cap, .int .i64 z] w fun e w' => e = .returned (.bool true) ∧ Below w.heap.size w w' := by
  have HD := hide hd
  have BYT := hide byt
  have HL := hide hL
  have hbig : ¬ (2000 : Int) < L := by omega
  clear hd byt hL
  go_enter Tryd.func4, Tryd.ntmps4
  go_wp2_with fail
  refine (opened_ok w).mono ?_
  rintro e w1 ⟨rfl, b1⟩
  have B1 := hide b1
  have hs1 := b1.size
  clear b1
  have HE4 := hide (encode4_ok (cap := cap) (HD.out.below B1.out) hs1 BYT.out (by have := HL.out; omega) (by rw [HL.out]; exact hcp) hn)
  rw [HL.out] at HE4
  go_wp2_with fail
  refine HE4.out.mono ?_
  rintro e w2 ⟨v, rfl, bl, own2, b2, hP, hlo, hhi, hbb⟩
  rw [flOut_len] at own2
  obtain ⟨g, cc, rfl, hg⟩ := own_form own2 (by omega)
  have hcap := own_cap own2
  have hgl := (own2.lt g rfl).2
  have B2 := hide (B1.out.trans (b2.mono hs1))
  have HP := hide (And.intro hP hbb)
  have OWN := hide own2
  obtain ⟨m, hm⟩ : ∃ m, m = bl.length + 2 := ⟨_, rfl⟩
  have hm4 : bl.length + 6 = m + 4 := by omega
  rw [hm4] at OWN hcap ⊢
  have HM := hide hm
  have hmb : 4 ≤ m ∧ m ≤ 2010 := by have := HL.out; omega
  clear own2 b2 hP hbb hm hm4 hlo hhi HE4 B1
  go_wp2_with fail
  refine (pick_ok z hz1 hz2 32 (by omega) (by omega) _).mono ?_
  rintro e w' ⟨k, hk, rfl, rfl⟩
  obtain ⟨q, hq⟩ : ∃ q, q = k / 8 := ⟨_, rfl⟩
  obtain ⟨j, hj⟩ : ∃ j, j = k % 8 := ⟨_, rfl⟩
  have hq4 : q < 4 := by omega
  have hj8 : j < 8 := by omega
  have eq : (k : Int) / 8 = (q : Int) := by omega
  have ej : (k : Int) % 8 = (j : Int) := by omega
  have hx0 := own_cell OWN.out (m + q) (by rw [flOut_len]; have := HM.out; omega)
  have fz0 := OWN.out.frozenAt (m + q)
  have hXs : nth (flOut data bl) (m + q) = nth (sum4 data) q := by
    rw [show m + q = bl.length + 2 + q by have := HM.out; omega]
    exact flOut_nth data bl q hq4
  have hxb : nth (sum4 data) q < 256 := sum4_lt data _ (nth_mem (by simp [sum4]; exact hq4))
  rw [hXs] at hx0
  obtain ⟨hY1, hY2, hY3⟩ := xor_byte ⟨nth (sum4 data) q, hxb⟩ ⟨j, hj8⟩
  simp only [] at hY1 hY2 hY3
  rw [← pow8 ⟨j, hj8⟩] at hY1
  simp only [] at hY1
  have HNE := hide hY3
  generalize hX : nth (sum4 data) q = X at *
  generalize X ^^^ 2 ^ j = Y at *
  have HX := hide hX
  have hk' : (k : Int) < 32 := by omega
  clear hX hq hj hXs hY3
  go_wp2_with fail
  go_region
  have B3 := hide ((B2.out.setCell (p := ⟨g, m + q, none⟩) (show w.heap.size ≤ g by omega) (.int .u8 (Y : Int))).drew)
  have O3 := World.ownsRow.drew (own_set OWN.out (m + q) Y)
  rw [show (flOut data bl).set (m + q) Y = [120, 156] ++ (bl ++ (sum4 data).set q Y) by
    rw [show m + q = bl.length + 2 + q by have := HM.out; omega]
    exact flOut_set data bl q Y hq4] at O3
  have hs4 : (sum4 data).length = 4 := rfl
  have HDC := hide (dec4_turned (w := (w'.setCell ⟨g, m + q, none⟩ (.int .u8 (Y : Int))).drew) (g := g) (c := cc) data bl ((sum4 data).set q Y) HP.out.1 (by rw [List.length_set]; rfl) (fun x hx => by
      rcases List.mem_or_eq_of_mem_set hx with h | h
      · exact sum4_lt data x h
      · omega) (set_ne (by rw [hs4]; exact hq4) (by rw [HX.out]; exact HNE.out)) BYT.out HP.out.2 (by have := HL.out; omega) (by have := HM.out; omega) (by simpa using hgl) (fun i hi => own_cell O3 i hi) (by have := HM.out; omega) hcap.2)
  rw [HL.out, show bl.length + 6 = m + 4 by have := HM.out; omega] at HDC
  clear O3 OWN B2 hx0 fz0 hY1 HX HNE eq ej
  generalize (w'.setCell ⟨g, m + q, none⟩ (.int .u8 (Y : Int))).drew = w3 at *
  go_wp2_with fail
  refine HDC.out.mono ?_
  rintro e w4 ⟨rfl, b4⟩
  have hs3 := B3.out.size
  have B4 := hide (B3.out.trans (b4.mono hs3))
  have HD4 := hide (HD.out.below B4.out)
  have hs4' := B4.out.size
  have HE1 := hide (encode1_ok (cap := cap) HD4.out hs4' BYT.out (by have := HL.out; omega))
  rw [HL.out] at HE1
  clear b4 B3 HDC
  go_wp2_with fail
  refine HE1.out.mono ?_
  rintro e w5 ⟨v, rfl, own5, b5⟩
  rw [HL.out] at own5
  obtain ⟨g5, c5, rfl, hg5⟩ := own_form own5 (by omega)
  have hcap5 := own_cap own5
  have hgl5 := (own5.lt g5 rfl).2
  have O5 := hide own5
  have B5 := hide (B4.out.trans (b5.mono hs4'))
  clear own5 b5 HE1 B4
  by_cases h0 : L = 0
  · subst h0
    go_wp2
    go_ret
    exact ⟨rfl, B5.out⟩
  have hne0 : ((L : Int) == 0) = false := by simp; omega
  go_wp2_with fail
  rw [show (2 : Int) * (L : Int) = ((2 * L : Nat) : Int) by omega]
  refine (pick_ok z hz1 hz2 (2 * L) (by omega) (by omega) _).mono ?_
  rintro e w' ⟨i, hi, rfl, rfl⟩
  have hi2 : i < 2 * data.length := by have := HL.out; omega
  have hx5 := own_cell O5.out i (by rw [List.length_append, Fo.hexOf_length]; simp; omega)
  rw [hex_nth data i hi2] at hx5
  have fz5 := O5.out.frozenAt i
  have hx16 := nib_lt data i hi2 BYT.out
  have HPo := hide (position_ok (nib data i) hx16)
  obtain ⟨y, hy⟩ : ∃ y, y = (nib data i + 1) % 16 := ⟨_, rfl⟩
  have hy16 : y < 16 := by omega
  have hyn : y ≠ nib data i := by omega
  have ey : ((nib data i : Int) + 1) % 16 = (y : Int) := by omega
  have hlit := hexLit y hy16 (by show y < 16; exact hy16)
  have HSet := hide (hex_set data i y hi2 hy16 (nth_lt_mem BYT.out))
  have HNe := hide (nibSet_ne data i y hi2 hy16 hyn)
  have HLt := hide (nibSet_lt data i y hy16 BYT.out)
  have hnl := nibSet_len data i y
  generalize nib data i = x at *
  generalize nibSet data i y = data' at *
  generalize Fo.hexDig x = DX at *
  generalize Fo.hexDig y = DY at *
  clear hy hyn
  go_wp2_with fail
  refine (HPo.out _).mono ?_
  rintro e w'' ⟨rfl, rfl⟩
  have B6 := hide (B5.out.setCell (p := ⟨g5, i, none⟩) (show w.heap.size ≤ g5 by omega) (.int .u8 (DY : Int)))
  have O6 := own_set O5.out i DY
  rw [HSet.out] at O6
  have hle : data'.length = L := by rw [hnl]; exact HL.out
  have HDC := hide (dec1_other (w := w''.setCell ⟨g5, i, none⟩ (.int .u8 (DY : Int))) (g := g5) (c := c5) data' HLt.out (by omega) (by simpa using hgl5) (fun i hi => own_cell O6 i hi) (by rw [hle]; exact hcap5.1) hcap5.2)
  rw [hle] at HDC
  have Hle := hide hle
  clear hle hnl O6 O5 B5 HSet HPo HD4
  go_wp2_with fail
  refine HDC.out.mono ?_
  rintro e w7 ⟨v, rfl, own7, b7⟩
  obtain ⟨g7, c7, rfl, hg7⟩ := own_form own7 (by omega)
  have hs6 := B6.out.size
  have B7 := hide (B6.out.trans (b7.mono hs6))
  have HD7 := hide (HD.out.below B7.out)
  have s1 := str_own own7
  have s2 := str_dat (cap := cap) HD7.out HL.out (by omega)
  have hsn : ((strOf data').toList == (strOf data).toList) = false := by
    rw [beq_eq_false_iff_ne]
    exact fun h => HNe.out (strOf_inj HLt.out BYT.out (by rw [Hle.out, HL.out]) h)
  generalize strOf data' = S1 at *
  generalize strOf data = S2 at *

  clear own7 b7 HDC B6 HD7
  go_wp2
  go_ret
  exact ⟨rfl, B7.out⟩

set_option maxRecDepth 100000 in
set_option maxHeartbeats 4000000 in
theorem turned_big {b0 o0 : Nat} {L cap : Nat} {data : List Nat} (hL : data.length = 2000) (hsm : 2000 < L) (hd : Dat w w.heap.size (some ⟨b0, o0, none⟩) data) (byt : ∀ i, i < data.length → nth data i < 256) (hcl : L ≤ cap) (hcm : cap ≤ 9223372036854775807) (z : Int) (hz1 : -9223372036854775808 ≤ z) (hz2 : z ≤ 9223372036854775807) :
    Calls Tryd.prog 4 #[.slice (some ⟨b0, o0, none⟩) L cap, .int .i64 z] w fun e w' => e = .returned (.bool true) ∧ Below w.heap.size w w' := by
  have hcp : 2000 ≤ cap ∧ cap ≤ 9223372036854775807 := ⟨by omega, hcm⟩
  have hn : (some ⟨b0, o0, none⟩ : Option Addr) = none → cap = 0 := by intro h; cases h
  have HD := hide hd
  have BYT := hide byt
  have HL := hide hL
  have hbig : (2000 : Int) < L := by omega
  have hc2 : (2000 : Int) ≤ cap := by omega
  clear hd byt hL
  go_enter Tryd.func4, Tryd.ntmps4
  go_wp2_with fail
  refine (opened_ok w).mono ?_
  rintro e w1 ⟨rfl, b1⟩
  have B1 := hide b1
  have hs1 := b1.size
  clear b1
  have HE4 := hide (encode4_ok (cap := cap) (HD.out.below B1.out) hs1 BYT.out (by have := HL.out; omega) (by rw [HL.out]; exact hcp) hn)
  rw [HL.out] at HE4
  go_wp2_with fail
  refine HE4.out.mono ?_
  rintro e w2 ⟨v, rfl, bl, own2, b2, hP, hlo, hhi, hbb⟩
  rw [flOut_len] at own2
  obtain ⟨g, cc, rfl, hg⟩ := own_form own2 (by omega)
  have hcap := own_cap own2
  have hgl := (own2.lt g rfl).2
  have B2 := hide (B1.out.trans (b2.mono hs1))
  have HP := hide (And.intro hP hbb)
  have OWN := hide own2
  obtain ⟨m, hm⟩ : ∃ m, m = bl.length + 2 := ⟨_, rfl⟩
  have hm4 : bl.length + 6 = m + 4 := by omega
  rw [hm4] at OWN hcap ⊢
  have HM := hide hm
  have hmb : 4 ≤ m ∧ m ≤ 2010 := by have := HL.out; omega
  clear own2 b2 hP hbb hm hm4 hlo hhi HE4 B1
  go_wp2_with fail
  refine (pick_ok z hz1 hz2 32 (by omega) (by omega) _).mono ?_
  rintro e w' ⟨k, hk, rfl, rfl⟩
  obtain ⟨q, hq⟩ : ∃ q, q = k / 8 := ⟨_, rfl⟩
  obtain ⟨j, hj⟩ : ∃ j, j = k % 8 := ⟨_, rfl⟩
  have hq4 : q < 4 := by omega
  have hj8 : j < 8 := by omega
  have eq : (k : Int) / 8 = (q : Int) := by omega
  have ej : (k : Int) % 8 = (j : Int) := by omega
  have hx0 := own_cell OWN.out (m + q) (by rw [flOut_len]; have := HM.out; omega)
  have fz0 := OWN.out.frozenAt (m + q)
  have hXs : nth (flOut data bl) (m + q) = nth (sum4 data) q := by
    rw [show m + q = bl.length + 2 + q by have := HM.out; omega]
    exact flOut_nth data bl q hq4
  have hxb : nth (sum4 data) q < 256 := sum4_lt data _ (nth_mem (by simp [sum4]; exact hq4))
  rw [hXs] at hx0
  obtain ⟨hY1, hY2, hY3⟩ := xor_byte ⟨nth (sum4 data) q, hxb⟩ ⟨j, hj8⟩
  simp only [] at hY1 hY2 hY3
  rw [← pow8 ⟨j, hj8⟩] at hY1
  simp only [] at hY1
  have HNE := hide hY3
  generalize hX : nth (sum4 data) q = X at *
  generalize X ^^^ 2 ^ j = Y at *
  have HX := hide hX
  have hk' : (k : Int) < 32 := by omega
  clear hX hq hj hXs hY3
  go_wp2_with fail
  go_region
  have B3 := hide ((B2.out.setCell (p := ⟨g, m + q, none⟩) (show w.heap.size ≤ g by omega) (.int .u8 (Y : Int))).drew)
  have O3 := World.ownsRow.drew (own_set OWN.out (m + q) Y)
  rw [show (flOut data bl).set (m + q) Y = [120, 156] ++ (bl ++ (sum4 data).set q Y) by
    rw [show m + q = bl.length + 2 + q by have := HM.out; omega]
    exact flOut_set data bl q Y hq4] at O3
  have hs4 : (sum4 data).length = 4 := rfl
  have HDC := hide (dec4_turned (w := (w'.setCell ⟨g, m + q, none⟩ (.int .u8 (Y : Int))).drew) (g := g) (c := cc) data bl ((sum4 data).set q Y) HP.out.1 (by rw [List.length_set]; rfl) (fun x hx => by
      rcases List.mem_or_eq_of_mem_set hx with h | h
      · exact sum4_lt data x h
      · omega) (set_ne (by rw [hs4]; exact hq4) (by rw [HX.out]; exact HNE.out)) BYT.out HP.out.2 (by have := HL.out; omega) (by have := HM.out; omega) (by simpa using hgl) (fun i hi => own_cell O3 i hi) (by have := HM.out; omega) hcap.2)
  rw [HL.out, show bl.length + 6 = m + 4 by have := HM.out; omega] at HDC
  clear O3 OWN B2 hx0 fz0 hY1 HX HNE eq ej
  generalize (w'.setCell ⟨g, m + q, none⟩ (.int .u8 (Y : Int))).drew = w3 at *
  go_wp2_with fail
  refine HDC.out.mono ?_
  rintro e w4 ⟨rfl, b4⟩
  have hs3 := B3.out.size
  have B4 := hide (B3.out.trans (b4.mono hs3))
  have HD4 := hide (HD.out.below B4.out)
  have hs4' := B4.out.size
  have HE1 := hide (encode1_ok (cap := cap) HD4.out hs4' BYT.out (by have := HL.out; omega))
  rw [HL.out] at HE1
  clear b4 B3 HDC
  go_wp2_with fail
  refine HE1.out.mono ?_
  rintro e w5 ⟨v, rfl, own5, b5⟩
  rw [HL.out] at own5
  obtain ⟨g5, c5, rfl, hg5⟩ := own_form own5 (by omega)
  have hcap5 := own_cap own5
  have hgl5 := (own5.lt g5 rfl).2
  have O5 := hide own5
  have B5 := hide (B4.out.trans (b5.mono hs4'))
  clear own5 b5 HE1 B4
  have hne0 : ((2000 : Int) == 0) = false := by decide
  go_wp2_with fail
  have htwo : True := trivial
  refine (pick_ok z hz1 hz2 (4000) (by omega) (by omega) _).mono ?_
  rintro e w' ⟨i, hi, rfl, rfl⟩
  have hi2 : i < 2 * data.length := by have := HL.out; omega
  have hx5 := own_cell O5.out i (by rw [List.length_append, Fo.hexOf_length]; simp; omega)
  rw [hex_nth data i hi2] at hx5
  have fz5 := O5.out.frozenAt i
  have hx16 := nib_lt data i hi2 BYT.out
  have HPo := hide (position_ok (nib data i) hx16)
  obtain ⟨y, hy⟩ : ∃ y, y = (nib data i + 1) % 16 := ⟨_, rfl⟩
  have hy16 : y < 16 := by omega
  have hyn : y ≠ nib data i := by omega
  have ey : ((nib data i : Int) + 1) % 16 = (y : Int) := by omega
  have hlit := hexLit y hy16 (by show y < 16; exact hy16)
  have HSet := hide (hex_set data i y hi2 hy16 (nth_lt_mem BYT.out))
  have HNe := hide (nibSet_ne data i y hi2 hy16 hyn)
  have HLt := hide (nibSet_lt data i y hy16 BYT.out)
  have hnl := nibSet_len data i y
  generalize nib data i = x at *
  generalize nibSet data i y = data' at *
  generalize Fo.hexDig x = DX at *
  generalize Fo.hexDig y = DY at *
  clear hy hyn
  go_wp2_with fail
  refine (HPo.out _).mono ?_
  rintro e w'' ⟨rfl, rfl⟩
  have B6 := hide (B5.out.setCell (p := ⟨g5, i, none⟩) (show w.heap.size ≤ g5 by omega) (.int .u8 (DY : Int)))
  have O6 := own_set O5.out i DY
  rw [HSet.out] at O6
  have hle : data'.length = 2000 := by rw [hnl]; exact HL.out
  have HDC := hide (dec1_other (w := w''.setCell ⟨g5, i, none⟩ (.int .u8 (DY : Int))) (g := g5) (c := c5) data' HLt.out (by omega) (by simpa using hgl5) (fun i hi => own_cell O6 i hi) (by rw [hle]; exact hcap5.1) hcap5.2)
  rw [hle] at HDC
  have Hle := hide hle
  clear hle hnl O6 O5 B5 HSet HPo HD4
  go_wp2_with fail
  refine HDC.out.mono ?_
  rintro e w7 ⟨v, rfl, own7, b7⟩
  obtain ⟨g7, c7, rfl, hg7⟩ := own_form own7 (by omega)
  have hs6 := B6.out.size
  have B7 := hide (B6.out.trans (b7.mono hs6))
  have HD7 := hide (HD.out.below B7.out)
  have s1 := str_own own7
  have s2 := str_dat (cap := cap) HD7.out HL.out (by omega)
  have hsn : ((strOf data').toList == (strOf data).toList) = false := by
    rw [beq_eq_false_iff_ne]
    exact fun h => HNe.out (strOf_inj HLt.out BYT.out (by rw [Hle.out, HL.out]) h)
  generalize strOf data' = S1 at *
  generalize strOf data = S2 at *

  clear own7 b7 HDC B6 HD7
  go_wp2
  go_ret
  exact ⟨rfl, B7.out⟩
end Go.Proofs.YtgkljcmjnphpeaaDoor
