/- What the row of foliokeep's law says of the program's text. -/
import Derived.Test.YtgkljcmjnphpeaaGreatDoorK29
import Derived.Test.YtgkljcmjnphpeaaGreatDoorK32
import Derived.Deep.CutRange
import Derived.Test.YtgkljcmjnphpeaaGreatDoorRows
import Derived.ProofKit
import Derived.LaidMore
import Derived.OpenShut
import Derived.Stop.Joined
import Derived.Stop.LaidErr
import Derived.SizedLaws
import Derived.ChangeMaps5
import Derived.Lib.LaidTab
import Derived.MakeChecks
import Derived.Shelf.Vars
import Derived.Handed
import Derived.Test.YtgkljcmjnphpeaaGreatDoorCards
import Derived.SevenTiedAt
set_option linter.unusedVariables false
set_option linter.unusedSimpArgs false
namespace Go.Proofs.YtgkljcmjnphpeaaGreatDoor
open Go.RowKit
variable {w w' w0 : World}
/-- Numbers in memory. -/
def DatJ (w : World) (B : Nat) (ao : Option Addr) (l : List Int) : Prop := ∀ i, i < l.length → ∃ b o, ao = some ⟨b, o, none⟩ ∧ b < B ∧ w.cell? ⟨b, o + i, none⟩ = some (.int .i64 (l.getD i 0))
theorem hex_ok (c : Nat) (hc : c < 256) (g : Bool) (w : World) : Calls Tryz.prog 31 #[.int .u8 (c : Int), .bool g] w fun e w' => e = .returned (.string (strN (Fo.hexD c g))) ∧ Below w.heap.size w w' := by
  cases g
  · exact hex_small c hc w
  · exact hex_great c hc w
theorem strN_wayA (s : List Nat) (zs : List (Nat × Nat)) (z : Nat × Nat) : strN (s ++ (zs ++ [z]).flatMap Fo.wayA) = strN (s ++ zs.flatMap Fo.wayA) ++ strN (Fo.octalD z.1) ++ strN (if z.2 = 1 then [92, 13, 10] else []) := by
  rw [List.flatMap_append, List.flatMap_cons, List.flatMap_nil, List.append_nil, Fo.wayA, strN_append, strN_append]
  simp only [List.append_assoc]
theorem strN_wayB (s : List Nat) (zs : List (Nat × Nat)) (z : Nat × Nat) : strN (s ++ (zs ++ [z]).flatMap Fo.wayB) = strN (s ++ zs.flatMap Fo.wayB) ++ strN (Fo.hexD z.1 (decide (3 < z.2))) ++ strN (if z.2 % 4 = 1 then [32, 10] else []) := by
  rw [List.flatMap_append, List.flatMap_cons, List.flatMap_nil, List.append_nil, Fo.wayB, strN_append, strN_append]
  simp only [List.append_assoc]
theorem strN_wayC (s : List Nat) (cs : List (Nat × Bool)) (y : Nat × Bool) : strN (s ++ (cs ++ [y]).flatMap Fo.wayC) = strN (s ++ cs.flatMap Fo.wayC) ++ { data := #[35] } ++ strN (Fo.hexD y.1 y.2) := by
  rw [List.flatMap_append, List.flatMap_cons, List.flatMap_nil, List.append_nil, Fo.wayC, show ({ data := #[35] } : ByteArray) = strN [35] from rfl, strN_append, strN_append]
  simp only [List.append_assoc, List.cons_append, List.nil_append]
theorem newsX {w : World} {a : Nat} : ∀ j u, ([a].map fun x : Nat => Value.int .u8 (x : Int))[j]? = some u → (w.alloc (.cells #[.int .u8 (a : Nat)] 5)).cell? ((⟨w.heap.size, 0, none⟩ : Addr).add j) = some u := by
  intro j u h
  match j, h with
  | 0, h => cases h; rw [addr_add, cell_blk (blk_new w _)]; rfl
  | j + 1, h => simp at h
set_option maxRecDepth 100000 in
set_option maxHeartbeats 8000000 in
theorem strings_rest (hb0 : Below w0.heap.size w0 w) (HE : Hid (Env w.heap.size w)) {ao : Option Addr} {cap : Nat} {xs : List Nat} (HD : Hid (Dat w w.heap.size ao xs)) (hx60 : xs.length ≤ 60) (HXB : Hid (∀ x ∈ xs, x < 256)) (hcap : xs.length ≤ cap) {fo : Option Addr} {zl fcap : Nat} {ws : List Int} (hzl : ws.length = zl) (HW : Hid (DatJ w w.heap.size fo ws)) (HWR : Hid (∀ i, i < ws.length → -9223372036854775808 ≤ ws.getD i 0 ∧ ws.getD i 0 ≤ 9223372036854775807)) (hfc : zl ≤ fcap) (hfc2 : fcap ≤ 9223372036854775807) (t19 t20 t21 t22 t23 t24 : Value) :
    Code.wp Tryz.prog (restK 4 (Tryz.f10.body.getD .skip)) (bodyPost Tryz.prog Tryz.f10 fun e w' => e = .returned (.bool true) ∧ Below w0.heap.size w0 w') { tmps := #[.slice ao xs.length cap, .slice fo zl fcap, undef, undef, .bool false, .bool true, .string { data := #[40] }, undef, undef, undef, undef, undef, undef, undef, undef, undef, undef, undef, undef, t19, t20, t21, t22, t23, t24, undef, undef, undef, undef, undef, undef, undef, undef, undef, undef, undef, undef, undef, undef, undef, undef, undef, undef, undef, undef, undef, undef, undef, undef, undef, undef, undef, undef, undef, undef, undef, undef, undef, undef, undef, undef, undef, undef, undef, undef, undef, undef, undef, undef, undef, undef, undef, undef, undef, undef, undef, undef, undef, undef, undef, undef, undef, undef, undef, undef, undef, undef, undef, undef, undef, undef, undef, undef, undef, undef, undef, undef, undef, undef, undef, undef, undef, undef, undef, undef, undef, undef, undef, undef, undef, undef, undef, undef, undef, undef, undef, undef, undef, undef, undef, undef, undef, undef, undef, undef, undef, undef, undef, undef], defers := [] } w := by
  obtain ⟨i1, gi, gz0, gz1, gz2⟩ := info_parts Tryz.infoByte
  have HB0 := hide hb0
  have HZL := hide hzl
  clear hb0 hzl
  obtain ⟨n, hn⟩ : ∃ n, xs.length = n := ⟨_, rfl⟩
  have HN := hide hn
  rw [hn] at hx60 hcap ⊢
  clear hn
  conv => arg 2; simp only [Tryz.f10, Option.getD_some, restK]
  go_wp2_with fail
  go_loopw [6, 7, 8, 9, 10, 11, 12] (fun av bv cv nv iv _ _ wr => ∃ (m : Nat) (zs : List (Nat × Nat)) (cs : List (Nat × Bool)), m ≤ n ∧ iv = .int .i64 (m : Int) ∧ av = .string (strN ([40] ++ zs.flatMap Fo.wayA)) ∧ bv = .string (strN ([60] ++ zs.flatMap Fo.wayB)) ∧ cv = .string (strN ([47] ++ cs.flatMap Fo.wayC)) ∧ zs.length = m ∧ cs.length ≤ 50 ∧ Hid (zs.map Prod.fst = xs.take m ∧ (∀ z ∈ zs, z.1 < 256) ∧ ∀ y ∈ cs, 0 < y.1 ∧ y.1 < 256) ∧ Hid (wr.ownsRow w.heap.size 5 1 nv (cs.map Prod.fst).length ((cs.map Prod.fst).map fun x : Nat => .int .u8 (x : Int))) ∧ Hid (Below w.heap.size w wr)) (fun _ _ _ _ iv _ _ _ => n - (intOf iv).toNat)
  case atStart => exact ⟨0, [], [], Nat.zero_le _, rfl, rfl, rfl, rfl, rfl, by simp, ⟨rfl, (fun z hz => by cases hz), (fun z hz => by cases hz)⟩, World.ownsRow_nil _ _ _ _, Below.refl _ _⟩
  case round =>
    obtain ⟨m, zs, cs, hm, rfl, rfl, rfl, rfl, hzm, hc50, HZ, HO, HB⟩ := hrel
    rcases Nat.eq_or_lt_of_le hm with hm | hm
    · subst hm
      have HAF := hide (fun t1 t4 t10 t11 t12 => strings_after (w := wr) (w0 := w0) (ao := ao) (cap := cap) (xs := xs) (zs := zs) (cs := cs) (HB0.out.trans (HB.out.mono HB0.out.size)) (HE.out.up (Nat.le_refl _) HB.out) (HD.out.up (Nat.le_refl _) HB.out) (by rw [HZ.out.1, ← HN.out, List.take_length]) (by omega) HZ.out.2.1 hc50 HZ.out.2.2 HO t1 t4 t10 t11 t12)
      rw [HN.out] at HAF
      go_upto_region 24 with fail
      go_step
      go_step
      go_step
      go_step
      go_step
      go_step
      refine ‹∀ (a : Act) (w : World), Code.wp Tryz.prog _ _ a w → _› _ _ ?_
      exact HAF.out _ _ _ _ _ _ _ _ _ _ _ _ _ _ _ _ _ _ _ _ _ _ _ _ _ _ _ _ _ _ _ _ _ _ _ _ _ _ _ _ _ _ _ _ _ _ _ _ _ _ _ _ _ _ _ _ _ _ _ _ _ _ _ _ _ _ _
    · obtain ⟨x, hx⟩ : ∃ x, xs[m]? = some x := ⟨_, List.getElem?_eq_getElem (by rw [HN.out]; exact hm)⟩
      have hxlt := HXB.out x (List.mem_of_getElem? hx)
      obtain ⟨bd, od, rfl, hbd, hxc⟩ := HD.out m (by rw [HN.out]; exact hm)
      rw [show nth xs m = x by simp [nth, hx]] at hxc
      have hc : wr.cell? ⟨bd, od + m, none⟩ = some (.int .u8 (x : Int)) := by rw [HB.out.cell hbd]; exact hxc
      have hla : (strN ([40] ++ zs.flatMap Fo.wayA)).size ≤ 1500 := by
        rw [strN_sz]; have := Fo.ways_len (zs := zs) (by omega) hc50; unfold Fo.waysText at this; simp only [List.length_append, List.length_cons, List.length_nil] at this ⊢; omega
      have hlb : (strN ([60] ++ zs.flatMap Fo.wayB)).size ≤ 1500 := by
        rw [strN_sz]; have := Fo.ways_len (zs := zs) (by omega) hc50; unfold Fo.waysText at this; simp only [List.length_append, List.length_cons, List.length_nil] at this ⊢; omega
      have hlc : (strN ([47] ++ cs.flatMap Fo.wayC)).size ≤ 1500 := by
        rw [strN_sz]; have := Fo.ways_len (zs := zs) (by omega) hc50; unfold Fo.waysText at this; simp only [List.length_append, List.length_cons, List.length_nil] at this ⊢; omega
      have HTK : Hid (xs.take (m + 1) = xs.take m ++ [x]) := by unfold Hid; rw [List.take_add_one, hx]; rfl
      have HSA := hide (fun z => strN_wayA [40] zs z)
      have HSB := hide (fun z => strN_wayB [60] zs z)
      have HSC := hide (fun y => strN_wayC [47] cs y)
      generalize strN ([40] ++ zs.flatMap Fo.wayA) = sa at *
      generalize strN ([60] ++ zs.flatMap Fo.wayB) = sb at *
      generalize hscc : strN ([47] ++ cs.flatMap Fo.wayC) = sc at HSC hlc ⊢
      have HSC0 := hide hscc
      clear hscc
      have HZM := hide hzm
      clear hx hxc hzm
      obtain ⟨na, nc, rfl⟩ := own_slice HO.out
      rw [List.length_map] at HO ⊢
      go_upto_if 34 with fail
      go_cut [11] from 25 to 80 (fun wv wx => ∃ r : Nat, r < 8 ∧ wv = .int .i64 (r : Int) ∧ wx = wr)
      case first =>
        by_cases hmw : m < zl
        · obtain ⟨bw, ow, rfl, hbw, hwc⟩ := HW.out m (by rw [HZL.out]; exact hmw)
          obtain ⟨hr1, hr2⟩ := HWR.out m (by rw [HZL.out]; exact hmw)
          have hcw : wr.cell? ⟨bw, ow + m, none⟩ = some (.int .i64 (ws.getD m 0)) := by rw [HB.out.cell hbw]; exact hwc
          generalize ws.getD m 0 = wz at *
          go_wp2_with fail
          refine (pick_ok wz hr1 hr2 8 (by decide) (by decide) _).mono ?_
          rintro e w1 ⟨r, hr, rfl, hw⟩
          have hw := hw.symm
          subst hw
          go_wp2
          go_meet
          case rel => exact ⟨r, hr, rfl, rfl⟩
        · go_wp2
          go_meet
          case rel => exact ⟨0, by decide, rfl, rfl⟩
      case rest =>
        obtain ⟨r, hr, rfl, rfl⟩ := hcut
        have HOC := hide (fun W : World => octal_ok x hxlt W)
        have hol : (strN (Fo.octalD x)).size = 4 := rfl
        have HSA2 := hide (HSA.out (x, r))
        have HSB2 := hide (HSB.out (x, r))
        clear HSA HSB HW HWR
        simp only [] at HSA2 HSB2
        generalize strN (Fo.octalD x) = od8 at *
        go_wp2_with fail
        refine (HOC.out _).mono ?_
        rintro e w2 ⟨rfl, b2⟩
        have B2 := hide b2
        clear b2 HOC
        go_upto_if 49 with fail
        go_cut [6] from 25 to 80 (fun av wx => ∃ sa2 : ByteArray, av = .string sa2 ∧ sa2.size ≤ 1600 ∧ Hid (strN ([40] ++ (zs ++ [(x, r)]).flatMap Fo.wayA) = sa2) ∧ wx = w2)
        case first =>
          by_cases hr1 : r = 1
          · have t1 : ((r : Int) == 1) = true := by simp; omega
            have HS3 := hide (HSA2.out.trans (by rw [if_pos hr1]; rfl : _ = sa ++ od8 ++ { data := #[92, 13, 10] }))
            clear hr1
            go_wp2
            go_meet
            case rel => exact ⟨_, rfl, by simp only [ByteArray.size_append', ByteArray.size_mk']; simp; omega, HS3.out, rfl⟩
          · have t1 : ((r : Int) == 1) = false := by simp; omega
            have HS3 := hide (HSA2.out.trans (by rw [if_neg hr1]; exact ByteArray.append_empty .. : _ = sa ++ od8))
            clear hr1
            go_wp2
            go_meet
            case rel => exact ⟨_, rfl, by simp only [ByteArray.size_append']; omega, HS3.out, rfl⟩
        case rest =>
          obtain ⟨sa2, rfl, hsa2, HS3, rfl⟩ := hcut
          clear hol HSA2
          have HHX := hide (fun (g : Bool) (W : World) => hex_ok x hxlt g W)
          have hxl : ∀ g, (strN (Fo.hexD x g)).size = 2 := fun g => by cases g <;> rfl
          obtain ⟨gb, hgb⟩ : ∃ gb, decide (3 < r) = gb := ⟨_, rfl⟩
          have hg1 : decide ((3 : Int) < (r : Int)) = gb := by rw [← hgb]; by_cases h : 3 < r <;> simp [h] <;> omega
          have hg2 : decide ((r : Int) > 3) = gb := hg1
          rw [hgb] at HSB2
          obtain ⟨r4, hr4⟩ : ∃ r4, r % 4 = r4 := ⟨_, rfl⟩
          have hm4 : (r : Int).tmod 4 = (r4 : Int) := by rw [Int.tmod_eq_emod_of_nonneg (by omega), ← hr4]; rfl
          have hm5 : (r : Int) % 4 = (r4 : Int) := by rw [← hr4]; rfl
          have hm6 : r4 < 4 := by omega
          rw [hr4] at HSB2
          clear hr4
          have HX2 := hide (HHX.out gb)
          have hxl2 := hxl gb
          have HSC2 := hide (HSC.out (x, gb))
          simp only [] at HSC2
          clear HHX hxl hgb HSC
          generalize strN (Fo.hexD x gb) = hd at *
          go_wp2_with fail
          refine (HX2.out _).mono ?_
          rintro e w3 ⟨rfl, b3⟩
          have B3 := hide (B2.out.trans (b3.mono B2.out.size))
          clear b3 B2
          go_upto_if 60 with fail
          go_cut [7] from 25 to 80 (fun bv wx => ∃ sb2 : ByteArray, bv = .string sb2 ∧ sb2.size ≤ 1600 ∧ Hid (strN ([60] ++ (zs ++ [(x, r)]).flatMap Fo.wayB) = sb2) ∧ wx = w3)
          case first =>
            by_cases hr1 : r4 = 1
            · have t1 : ((r4 : Int) == 1) = true := by simp; omega
              have HS4 := hide (HSB2.out.trans (by rw [if_pos hr1]; rfl : _ = sb ++ hd ++ { data := #[32, 10] }))
              clear hr1
              go_wp2
              go_meet
              case rel => exact ⟨_, rfl, by simp only [ByteArray.size_append', ByteArray.size_mk']; simp; omega, HS4.out, rfl⟩
            · have t1 : ((r4 : Int) == 1) = false := by simp; omega
              have HS4 := hide (HSB2.out.trans (by rw [if_neg hr1]; exact ByteArray.append_empty .. : _ = sb ++ hd))
              clear hr1
              go_wp2
              go_meet
              case rel => exact ⟨_, rfl, by simp only [ByteArray.size_append']; omega, HS4.out, rfl⟩
          case rest =>
            obtain ⟨sb2, rfl, hsb2, HS4, rfl⟩ := hcut
            clear HSB2 hm4 hm5
            have HZ2 : Hid ((zs ++ [(x, r)]).map Prod.fst = xs.take (m + 1) ∧ ∀ z ∈ zs ++ [(x, r)], z.1 < 256) := ⟨by rw [List.map_append, HZ.out.1, HTK.out]; rfl, fun z hz => by
              rcases List.mem_append.1 hz with h | h
              · exact HZ.out.2.1 z h
              · simp at h; subst h; exact hxlt⟩
            have HZL2 : Hid ((zs ++ [(x, r)]).length = m + 1) := by unfold Hid; rw [List.length_append, HZM.out]; rfl
            have hs3 : w.heap.size ≤ wc.heap.size := Nat.le_trans HB.out.size B3.out.size
            have HB5 : Hid (Below w.heap.size w wc) := HB.out.trans (B3.out.mono HB.out.size)
            have HO5 := hide (own_belowW HO.out B3.out)
            have hm1 : IntKind.i64.wrap ((m : Int) + 1) = ((m + 1 : Nat) : Int) := by rw [IntKind.wrap_i64]; omega
            by_cases hap : 0 < x ∧ cs.length < 50
            · have t1 : decide ((x : Int) > 0) = true := by simp; omega
              have t2 : decide ((0 : Int) < (x : Int)) = true := by simp; omega
              have t3 : decide ((cs.length : Int) < 50) = true := by simp; omega
              have hx0 : 0 < x := hap.1
              have hcl : cs.length < 50 := hap.2
              clear hap
              go_wp2_with (at_builtin; refine wpList_append_own _ rfl (.tmp 70) (.tmp 72) 23 rfl w.heap.size 5 i1 (.int .u8 0) 1 1 Tryz.underlying23 gi gz0 gz1 gz2 rfl (by decide) _ cs.length _ rfl (HO5.out.alloc _) ⟨wc.heap.size, 0, none⟩ 1 1 ([x].map fun x : Nat => .int .u8 (x : Int)) rfl rfl ?hnews ?hone ?h63 ?hby ?hbs ?_)
              case hnews => exact newsX
              case hone => intro u hu; simp at hu; subst hu; rfl
              case h63 => unfold maxLen; omega
              case hby => omega
              case hbs => simp; omega
              intro l6 w6 own6 hg6 _
              have HO6 : Hid (w6.ownsRow w.heap.size 5 1 l6 ((cs ++ [(x, gb)]).map Prod.fst).length (((cs ++ [(x, gb)]).map Prod.fst).map fun x : Nat => .int .u8 (x : Int))) := by
                unfold Hid
                rw [show ((cs ++ [(x, gb)]).map Prod.fst).length = cs.length + 1 by simp]
                simpa using own6
              have b6 : Below w.heap.size w w6 := (HB5.out.alloc hs3 _).grown hg6 (by simp; omega) (fun k hk => (HO5.out.lt k hk).1)
              obtain ⟨la, lc6, hl6⟩ := own_slice own6
              subst hl6
              have HB6 := hide b6
              clear own6 hg6 b6
              go_wp2_with fail
              refine (HX2.out _).mono ?_
              rintro e w7 ⟨rfl, b7⟩
              have HB7 : Hid (Below w.heap.size w w7) := HB6.out.trans (b7.mono HB6.out.size)
              have HO7 := hide (own_belowW HO6.out b7)
              clear b7
              go_wp2
              go_roundw
              case rel =>
                exact ⟨m + 1, zs ++ [(x, r)], cs ++ [(x, gb)], by omega, by first | rfl | (congr 1), by rw [HS3.out], by rw [HS4.out], by rw [HSC2.out], HZL2.out, by rw [List.length_append]; simp; omega, ⟨HZ2.out.1, HZ2.out.2, fun y hy => (List.mem_append.1 hy).elim (HZ.out.2.2 y) (fun h => by simp at h; subst h; exact ⟨hx0, hxlt⟩)⟩, HO7.out, HB7.out⟩
              case measure => simp [intOf]; omega
            · have HR9 : Hid (∃ (m_1 : Nat) (zs_1 : List (Nat × Nat)) (cs_1 : List (Nat × Bool)), m_1 = m + 1 ∧ zs_1 = zs ++ [(x, r)] ∧ cs_1 = cs) := ⟨_, _, _, rfl, rfl, rfl⟩
              by_cases hx0 : 0 < x
              · have t1 : decide ((x : Int) > 0) = true := by simp; omega
                have t2 : decide ((0 : Int) < (x : Int)) = true := by simp; omega
                have t3 : decide ((cs.length : Int) < 50) = false := by simp; omega
                clear hap
                go_wp2
                go_roundw
                case rel => exact ⟨m + 1, zs ++ [(x, r)], cs, by omega, by first | rfl | (congr 1), by rw [HS3.out], by rw [HS4.out], by rw [HSC0.out], HZL2.out, hc50, ⟨HZ2.out.1, HZ2.out.2, HZ.out.2.2⟩, by rw [List.length_map]; exact HO5.out, HB5.out⟩
                case measure => simp [intOf]; omega
              · have t1 : decide ((x : Int) > 0) = false := by simp; omega
                have t2 : decide ((0 : Int) < (x : Int)) = false := by simp; omega
                clear hap
                go_wp2
                go_roundw
                case rel => exact ⟨m + 1, zs ++ [(x, r)], cs, by omega, by first | rfl | (congr 1), by rw [HS3.out], by rw [HS4.out], by rw [HSC0.out], HZL2.out, hc50, ⟨HZ2.out.1, HZ2.out.2, HZ.out.2.2⟩, by rw [List.length_map]; exact HO5.out, HB5.out⟩
                case measure => simp [intOf]; omega
/-- What Strings does at every input. -/
def StringsDoes : Prop := ∀ (W : World) (ao : Option Addr) (L cap : Nat) (xs : List Nat), Env W.heap.size W → xs.length = L → Dat W W.heap.size ao xs → (∀ i, i < xs.length → nth xs i < 256) → L ≤ cap → cap ≤ 9223372036854775807 → (ao = none → cap = 0) →
  ∀ (fo : Option Addr) (zs : List Int) (fcap : Nat), DatJ W W.heap.size fo zs → (∀ i, i < zs.length → -9223372036854775808 ≤ zs.getD i 0 ∧ zs.getD i 0 ≤ 9223372036854775807) → zs.length ≤ fcap → fcap ≤ 9223372036854775807 →
  Calls Tryz.prog 10 #[.slice ao L cap, .slice fo zs.length fcap] W fun e w' => e = .returned (.bool true) ∧ Below W.heap.size W w'
set_option maxRecDepth 100000 in
set_option maxHeartbeats 8000000 in
theorem strings_ok : StringsDoes := by
  intro W ao L cap xs he hL hd byt hcp hcm hnone fo zs fcap hz hzr hzl hfm
  have HOP := hide (opened_ok W)
  have HX : Hid (∀ x ∈ xs, x < 256) := fun x hx => by
    obtain ⟨i, hi, rfl⟩ := List.getElem_of_mem hx
    have := byt i hi
    simpa [nth, List.getElem?_eq_getElem hi] using this
  obtain ⟨zl, hzz⟩ : ∃ zl, zs.length = zl := ⟨_, rfl⟩
  rw [hzz] at hzl ⊢
  by_cases hbig : 60 < L
  · have hb1 : decide ((60 : Int) < (L : Int)) = true := by simp; omega
    have hb2 : decide ((L : Int) > 60) = true := by simp; omega
    have hl60 : (xs.take 60).length = 60 := by rw [List.length_take]; omega
    have hcp60 : 60 ≤ cap := by omega
    obtain ⟨b0, o0, rfl, _, _⟩ := hd 0 (by omega)
    have HD : Hid (Dat W W.heap.size (some ⟨b0, o0, none⟩) (xs.take 60)) := fun i hi => by
      rw [hl60] at hi
      obtain ⟨b, o, e, h1, h2⟩ := hd i (by omega)
      exact ⟨b, o, e, h1, by rw [h2]; simp [nth, List.getElem?_take, hi]⟩
    have HR := hide (fun w2 (b2 : Below W.heap.size W w2) => strings_rest (w := w2) (w0 := W) (ao := some ⟨b0, o0, none⟩) (cap := cap) (xs := xs.take 60) (fo := fo) (zl := zl) (fcap := fcap) (ws := zs) b2 (he.up (Nat.le_refl _) b2) (HD.out.up (Nat.le_refl _) b2) (by rw [hl60]; omega) (fun x hx => HX.out x (List.mem_of_mem_take hx)) (by rw [hl60]; exact hcp60) hzz (fun i hi => by
      obtain ⟨b, o, e, h1, h2⟩ := hz i hi
      exact ⟨b, o, e, Nat.lt_of_lt_of_le h1 b2.size, by rw [b2.cell h1]; exact h2⟩) hzr hzl hfm)
    rw [hl60] at HR
    clear he hd byt hz hzr hbig hL HX HD hzz hnone
    go_enter Tryz.func10, Tryz.ntmps10
    go_wp2_with fail
    refine HOP.out.mono ?_
    rintro e w2 ⟨rfl, b2⟩
    have HR2 := hide (HR.out w2 b2)
    clear HR HOP b2
    go_upto_region 4 with fail
    go_step
    go_step
    go_step
    go_step
    go_step
    go_step
    refine ‹∀ (a : Act) (w : World), Code.wp Tryz.prog _ _ a w → _› _ _ ?_
    exact HR2.out _ _ _ _ _ _
  · have hb1 : decide ((60 : Int) < (L : Int)) = false := by simp; omega
    have hb2 : decide ((L : Int) > 60) = false := by simp; omega
    have HR := hide (fun w2 (b2 : Below W.heap.size W w2) => strings_rest (w := w2) (w0 := W) (ao := ao) (cap := cap) (xs := xs) (fo := fo) (zl := zl) (fcap := fcap) (ws := zs) b2 (he.up (Nat.le_refl _) b2) (hd.up (Nat.le_refl _) b2) (by omega) HX.out (by omega) hzz (fun i hi => by
      obtain ⟨b, o, e, h1, h2⟩ := hz i hi
      exact ⟨b, o, e, Nat.lt_of_lt_of_le h1 b2.size, by rw [b2.cell h1]; exact h2⟩) hzr hzl hfm)
    rw [hL] at HR
    clear he hd byt hz hzr hbig hL HX hzz hnone
    go_enter Tryz.func10, Tryz.ntmps10
    go_wp2_with fail
    refine HOP.out.mono ?_
    rintro e w2 ⟨rfl, b2⟩
    have HR2 := hide (HR.out w2 b2)
    clear HR HOP b2
    go_upto_region 4 with fail
    go_step
    go_step
    go_step
    go_step
    go_step
    go_step
    refine ‹∀ (a : Act) (w : World), Code.wp Tryz.prog _ _ a w → _› _ _ ?_
    exact HR2.out _ _ _ _ _ _
end Go.Proofs.YtgkljcmjnphpeaaGreatDoor
namespace Go.Proofs.YtgkljcmjnphpeaaGreatDoor
open Go.ChangeShapes Go.WideShapes Go.ChangeAt Go.RowKit
theorem Tryz.laidOutE : laidOutB Tryz.prog = true := by kernel_rfl
theorem Tryz.ownE : ownKnob Tryz.prog.godebug = none := by kernel_rfl
theorem Tryz.cellsB : Tryz.prog.cellsOf 5 = 1 := by kernel_rfl
theorem Tryz.bytesB : Tryz.prog.bytesOf 5 = 1 := by kernel_rfl
theorem Tryz.cellsN : Tryz.prog.cellsOf 3 = 1 := by kernel_rfl
theorem Tryz.bytesN : Tryz.prog.bytesOf 3 = 8 := by kernel_rfl
theorem Tryz.cellsU : Tryz.prog.cellsOf 234 = 1 := by kernel_rfl
theorem Tryz.gPowT : (Tryz.prog.globals[0]?).map (·.type) = some 275 := by kernel_rfl
theorem Tryz.cellsP : Tryz.prog.cellsOf 275 = 20 := by kernel_rfl
theorem Tryz.gSyn : Tryz.prog.globalNamed "strconv.ErrSyntax" = some 5 := by kernel_rfl
theorem Tryz.gRng : Tryz.prog.globalNamed "strconv.ErrRange" = some 6 := by kernel_rfl
theorem Tryz.gSynT : (Tryz.prog.globals[5]?).map (·.type) = some 230 := by kernel_rfl
theorem Tryz.gRngT : (Tryz.prog.globals[6]?).map (·.type) = some 230 := by kernel_rfl
theorem Tryz.cellsES : Tryz.prog.cellsOf 324 = 1 := by kernel_rfl
theorem Tryz.cellsS : Tryz.prog.cellsOf 9 = 1 := by kernel_rfl
theorem star_es : "*" ++ "errors.errorString" = "*errors.errorString" := by decide
theorem Tryz.rowES (u : TypeId) (h : Tryz.prog.typeName? 3 u = some "*errors.errorString") : u = 322 :=
  typeName_ptr_named (nm := "errors.errorString") (by rw [star_es]; kernel_rfl) (by kernel_rfl) (by decide) u (by rw [star_es]; exact h)
theorem max_of_shape {W : World} (h : W.ShapedOpen Tryz.prog) : ∃ m, W.cell? ⟨2, 0, none⟩ = some (.int .i64 m) :=
  cell_of_shapedOpen_int h (t := 3) (zero := #[.int .i64 0]) (of_decide_eq_true (by kernel_rfl)) (by kernel_rfl) rfl (by kernel_rfl) (by kernel_rfl) Tryz.underlying3
/-- What the library's functions read, at the start. -/
theorem env_of_laid {W : World} {d32 d64 acc ord fst : DataW Unit} (hL : laidMet Tryz.prog [("math/bits.deBruijn32tab", d32), ("math/bits.deBruijn64tab", d64), ("internal/strconv.uint64pow10", Rows.laid_internal_strconv_uint64pow10), ("unicode/utf8.acceptRanges", acc), ("strconv.ErrRange", Rows.laid_strconv_ErrRange), ("strconv.ErrSyntax", Rows.laid_strconv_ErrSyntax), ("folio/filters.lengthOrder", ord), ("unicode/utf8.first", fst)] W) (hS : W.ShapedOpen Tryz.prog) : Env W.heap.size W := by
  have h2 : laidMet Tryz.prog (("internal/strconv.uint64pow10", Lib.tabData .u64 Lib.pow10Tab) :: [("unicode/utf8.acceptRanges", acc), ("strconv.ErrRange", Rows.laid_strconv_ErrRange), ("strconv.ErrSyntax", Rows.laid_strconv_ErrSyntax), ("folio/filters.lengthOrder", ord), ("unicode/utf8.first", fst)]) W := hL.tail.tail
  have hT := Lib.tabIs_of_head Tryz.gPow Tryz.gPowT Tryz.underlying275 Tryz.underlying234 Tryz.cellsU Tryz.cellsP h2
  obtain ⟨a1, s1, v1, _⟩ := laid_sentinel h2.tail.tail Tryz.gRng Tryz.gRngT Tryz.underlying230 Tryz.rowES Tryz.underlying322 Tryz.underlying324 rfl rfl Tryz.underlying9 Tryz.cellsES Tryz.cellsS
  obtain ⟨a2, s2, v2, _⟩ := laid_sentinel h2.tail.tail.tail Tryz.gSyn Tryz.gSynT Tryz.underlying230 Tryz.rowES Tryz.underlying322 Tryz.underlying324 rfl rfl Tryz.underlying9 Tryz.cellsES Tryz.cellsS
  have c1 : W.cell? ⟨6, 0, none⟩ = some (.iface 322 (.pointer (some a1))) := by simpa using World.var?_cell Tryz.gRng v1 0
  have c2 : W.cell? ⟨5, 0, none⟩ = some (.iface 322 (.pointer (some a2))) := by simpa using World.var?_cell Tryz.gSyn v2 0
  obtain ⟨m, hm⟩ := max_of_shape hS
  have hp := hT.cell Tryz.gPow 0 (by decide)
  exact ⟨⟨⟨_, c2, Or.inr ⟨_, _, rfl⟩⟩, ⟨_, c1, Or.inr ⟨_, _, rfl⟩⟩, ⟨m, hm⟩, World.block_lt_of_cell? W _ c2, World.block_lt_of_cell? W _ c1, World.block_lt_of_cell? W _ hm⟩, hT, World.block_lt_of_cell? W _ hp⟩
/-- The wrap of a row with listed variables, the world's shape kept for the contract. -/
theorem handed_shaped {H : Type} {enc : TypeId × Value → H} {a : Assume} {C : Checked} {os : Os} {f : FuncId} {fn : Func} {s : ChangeSpec} {apart fresh handsOn again : Bool} {X : World → Array Value → Prop}
    (hX : ∀ (w w' : World) (args : Array Value), w.heap = w'.heap → X w args → X w' args) (own : ownKnob C.prog.godebug = none) (started : os.Started) (noInit : C.prog.inits.idxOf? f = none) (hfn : C.prog.funcs[f]? = some fn)
    (witness : ∃ (w : World) (tape : Tape) (i : Input), w.os = os ∧ (w.forCall tape i).Shaped C.prog ∧ i.vars = [] ∧ Input.okWide C.prog (w.forCall tape i) .any w.heap.size f i ∧ ((s.pre enc C.prog fn [] apart (w.forCall tape i).memory i.args ∧ X (w.forCall tape i).memory i.args) ∧ sizedMet enc C.prog fn (OpenSpec.ofChange s) apart (w.forCall tape i).memory i.args) ∧ a.holds C.prog (lone (Frame.enter C.prog f i.args .normal) [] (w.forCall tape i)))
    (does : ∀ (W : World) (base : Nat) (args : Array Value) (ds gs : List (DataW H)) (before : List MemPlace), (∀ (j : Nat) t v, fn.params[j]? = some t → args[j]? = some v → Value.okWide C.prog W .any base t v) → DataW.Whole enc C.prog fn.params.toList s.vars apart W args.toList ds gs before →
      (DataW.weightsEach C.prog (fn.params.toList ++ s.plain.varTypes C.prog) (ds ++ gs)).all (· ≤ reachBytes) = true → X W args → W.ShapedOpen C.prog → Calls C.prog f args W fun e W' => ∃ v, e = .returned v ∧ s.post enc C.prog fn apart fresh handsOn again W args v W') :
    ReturnsInHanded a C os f .any (fun w args => (s.pre enc C.prog fn [] apart w args ∧ X w args) ∧ sizedMet enc C.prog fn (OpenSpec.ofChange s) apart w args) (s.post enc C.prog fn apart fresh handsOn again) := by
  apply returnsInHanded_of_calls own started noInit witness
  intro w tape i _ shape _ fits pre _
  obtain ⟨⟨⟨ds, gs, before, whole, _⟩, listed⟩, sizes⟩ := pre
  have whole2 : DataW.Whole enc C.prog fn.params.toList s.vars apart (w.forCall tape i) i.args.toList ds gs before := DataW.Whole.of_heap (by rfl) whole
  have vals : ∀ (j : Nat) t v, fn.params[j]? = some t → i.args[j]? = some v → Value.okWide C.prog (w.forCall tape i) .any w.heap.size t v := by
    obtain ⟨_, _, _, fn2, hfn2, _, _, _, _, hv⟩ := fits
    rw [hfn] at hfn2
    cases hfn2
    exact hv
  refine (does _ _ _ _ _ _ vals whole2 (sizes.weights whole) (hX _ _ _ (by rfl) listed) shape).mono fun e W' h => ?_
  obtain ⟨v, rfl, h⟩ := h
  exact ChangeSpec.post_blind h
theorem byte_wfE {n : Int} (h : (Lit.int .u8 n).wf = true) : 0 ≤ n ∧ n < 256 := by
  simp [Lit.wf, IntKind.min, IntKind.max, IntKind.signed, IntKind.bits] at h
  omega
theorem int_wfE {n : Int} (h : (Lit.int .i64 n).wf = true) : -9223372036854775808 ≤ n ∧ n ≤ 9223372036854775807 := by
  simp [Lit.wf, IntKind.min, IntKind.max, IntKind.signed, IntKind.bits] at h
  omega
/-- An argument of type []byte, opened. -/
theorem open_dataE {H : Type} {enc : TypeId × Value → H} {W : World} {a0 : Option Addr} {len cap : Nat} {d0 : DataW H} {p : List MemPlace}
    (h0 : DataW.Trod enc Tryz.prog W 0 (fun _ => true) true 23 (.slice a0 len cap) d0 p) :
    ∃ xs : List Nat, xs.length = len ∧ Dat W W.heap.size a0 xs ∧ (∀ i, i < xs.length → nth xs i < 256) ∧ len ≤ cap ∧ (a0 = none → cap = 0) ∧ (cap = 0 ∨ ∃ el sp, d0 = .slice el sp ∧ el.length + sp.length = cap) := by
  obtain ⟨fuel, hf⟩ := h0
  rcases open_ints Tryz.underlying23 Tryz.underlying5 Tryz.cellsB hf with ⟨hcs, hx⟩ | ⟨a, len', cap', zs, hcs, _, hl, hm, hz, hx, hcell, hwz⟩
  · simp [Value.cells] at hcs
    obtain ⟨rfl, rfl, rfl⟩ := hcs
    exact ⟨[], rfl, fun i hi => by simp at hi, fun i hi => by simp at hi, Nat.le_refl _, fun _ => rfl, Or.inl rfl⟩
  · simp [Value.cells] at hcs
    obtain ⟨rfl, rfl, rfl⟩ := hcs
    simp only [Prod.mk.injEq] at hx
    obtain ⟨rfl, rfl⟩ := hx
    simp only [if_true] at hz
    have hb : ∀ i, i < zs.length → 0 ≤ zs.getD i 0 ∧ zs.getD i 0 < 256 := fun i hi => by
      have hmem : zs.getD i 0 ∈ zs := by
        rw [List.getD_eq_getElem?_getD, List.getElem?_eq_getElem hi]; exact List.getElem_mem hi
      exact byte_wfE (hwz _ hmem)
    have hn : ∀ i, i < len → nth ((zs.take len).map Int.toNat) i = (zs.getD i 0).toNat := fun i hi => by
      simp [nth, List.getElem?_take, hi, List.getElem?_eq_getElem (show i < zs.length by omega)]
    refine ⟨(zs.take len).map Int.toNat, by simp; omega, ?_, ?_, hl, (fun h => by cases h), Or.inr ⟨_, _, rfl, by simp [lits]; omega⟩⟩
    · intro i hi
      have hi' : i < len := by simp at hi; omega
      obtain ⟨b, off, rfl, hc⟩ := ints_at hcell (by omega)
      have hci := hc i (by omega)
      refine ⟨b, off, rfl, World.block_lt_of_cell? W _ hci, ?_⟩
      rw [hci, hn i hi']
      have := hb i (by omega)
      congr 2
      omega
    · intro i hi
      have hi' : i < len := by simp at hi; omega
      have := hb i (by omega)
      rw [hn i hi']; omega
/-- An argument of type []int, opened. -/
theorem open_numbersE {H : Type} {enc : TypeId × Value → H} {W : World} {a0 : Option Addr} {len cap : Nat} {d0 : DataW H} {p : List MemPlace}
    (h0 : DataW.Trod enc Tryz.prog W 0 (fun _ => true) true 52 (.slice a0 len cap) d0 p) :
    ∃ zs : List Int, zs.length = len ∧ DatJ W W.heap.size a0 zs ∧ (∀ i, i < zs.length → -9223372036854775808 ≤ zs.getD i 0 ∧ zs.getD i 0 ≤ 9223372036854775807) ∧ len ≤ cap ∧ (cap = 0 ∨ ∃ el sp, d0 = .slice el sp ∧ el.length + sp.length = cap) := by
  obtain ⟨fuel, hf⟩ := h0
  rcases open_ints Tryz.underlying52 Tryz.underlying3 Tryz.cellsN hf with ⟨hcs, hx⟩ | ⟨a, len', cap', zs, hcs, _, hl, hm, hz, hx, hcell, hwz⟩
  · simp [Value.cells] at hcs
    obtain ⟨rfl, rfl, rfl⟩ := hcs
    exact ⟨[], rfl, fun i hi => by simp at hi, fun i hi => by simp at hi, Nat.le_refl _, Or.inl rfl⟩
  · simp [Value.cells] at hcs
    obtain ⟨rfl, rfl, rfl⟩ := hcs
    simp only [Prod.mk.injEq] at hx
    obtain ⟨rfl, rfl⟩ := hx
    simp only [if_true] at hz
    have hb : ∀ i, i < zs.length → -9223372036854775808 ≤ zs.getD i 0 ∧ zs.getD i 0 ≤ 9223372036854775807 := fun i hi => by
      have hmem : zs.getD i 0 ∈ zs := by
        rw [List.getD_eq_getElem?_getD, List.getElem?_eq_getElem hi]; exact List.getElem_mem hi
      exact int_wfE (hwz _ hmem)
    have hn : ∀ i, i < len → (zs.take len).getD i 0 = zs.getD i 0 := fun i hi => by
      simp [List.getElem?_take, hi]
    refine ⟨zs.take len, by simp; omega, ?_, ?_, hl, Or.inr ⟨_, _, rfl, by simp [lits]; omega⟩⟩
    · intro i hi
      have hi' : i < len := by simp at hi; omega
      obtain ⟨b, off, rfl, hc⟩ := ints_at hcell (by omega)
      have hci := hc i (by omega)
      refine ⟨b, off, rfl, World.block_lt_of_cell? W _ hci, ?_⟩
      rw [hci, hn i hi']
    · intro i hi
      have hi' : i < len := by simp at hi; omega
      rw [hn i hi']; exact hb i (by omega)
end Go.Proofs.YtgkljcmjnphpeaaGreatDoor
namespace Go.Proofs.YtgkljcmjnphpeaaGreatDoor
open Go.ChangeShapes Go.WideShapes Go.ChangeAt Go.ChangeMaps Go.RowKit
set_option maxRecDepth 100000 in
set_option maxHeartbeats 8000000 in
theorem strings_facts : joinedFacts Tryz.pinned.checked.prog 10 Tryz.f10 Rows.stringsSpec Rows.stringsRow = true := by
  unfold joinedFacts
  simp only [Bool.and_eq_true]
  repeat' (with_reducible apply And.intro)
  all_goals as_aux_lemma => kernel_rfl
theorem strings_named : Tryz.pinned.checked.prog.funcNamed Rows.stringsRow.func = some 10 := by kernel_rfl
theorem strings_inst : Tryz.f10.isInstance Tryz.pinned.checked.prog Rows.stringsRow.origin Rows.stringsRow.targs := of_decide_eq_true (by kernel_rfl)
theorem strings_wrap : Tryz.f10.isWrapper Tryz.pinned.checked.prog Rows.stringsRow.wrapper Rows.stringsRow.mainSum := by
  unfold Func.isWrapper
  first | (rw [if_pos (by decide +kernel)]; kernel_rfl) | (rw [if_neg (by decide +kernel)]; exact ⟨rfl, rfl⟩)
end Go.Proofs.YtgkljcmjnphpeaaGreatDoor
namespace Go.Proofs.YtgkljcmjnphpeaaGreatDoor
open Go
theorem strings_wf : Rows.stringsRow.wfByText (OpenSpec.ofChange Rows.stringsSpec) = true := by kernel_rfl
theorem strings_main : Tryz.pinned.checked.prog.mainIs = some (Rows.stringsCard.stood.harness.1, Rows.stringsCard.stood.harness.2.toList) := by kernel_rfl
theorem strings_looks : true = Tryz.pinned.checked.prog.looks [] := by kernel_rfl
theorem strings_goes : false = Rows.stringsRow.goesBy Tryz.pinned.checked.prog := by kernel_rfl
end Go.Proofs.YtgkljcmjnphpeaaGreatDoor
