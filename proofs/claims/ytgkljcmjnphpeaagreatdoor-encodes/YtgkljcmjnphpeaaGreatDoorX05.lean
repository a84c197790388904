/- The filter of 85 digits, written: a85Digits, appendGroup. -/
import Derived.Test.YtgkljcmjnphpeaaGreatDoorX04
import Derived.WalkKit
import Derived.Laws.BitsAllLaws
import Derived.BigRegion
import Derived.StillTailTactics
import Derived.Deep.MidRow
import Derived.MapKept
import Derived.Laws.AppendOwnNone
import Derived.Deep.AppendSrc
set_option linter.unusedVariables false
set_option linter.unusedSimpArgs false
namespace Go.Proofs.YtgkljcmjnphpeaaGreatDoor
open Go.RowKit
variable {w : World} {B cap : Nat} {ao : Option Addr} {data : List Nat}
theorem runGo_same {f : Nat} {l : List Nat} (h0 : 0 < l.length) (h : 1 < Fo.sameN l) : Fo.runGo (f + 1) l = (257 - Fo.sameN l) :: nth l 0 :: Fo.runGo f (l.drop (Fo.sameN l)) := by
  rw [Fo.runGo, if_neg (by omega), if_pos h]
theorem runGo_mix {f : Nat} {l : List Nat} (h0 : 0 < l.length) (h : ¬ 1 < Fo.sameN l) : Fo.runGo (f + 1) l = (Fo.mixN l - 1) :: (l.take (Fo.mixN l) ++ Fo.runGo f (l.drop (Fo.mixN l))) := by
  rw [Fo.runGo, if_neg (by omega), if_neg h]
theorem runGo_end {f : Nat} {l : List Nat} (h0 : l.length = 0) : Fo.runGo f l = [128] := by
  cases f with
  | zero => rfl
  | succ f => rw [Fo.runGo, if_pos h0]
def sliceLen : Value → Nat
  | .slice _ n _ => n
  | _ => 0
theorem news1 {w : World} {a : Nat} {x : Int} (ex : x = a) : ∀ j u, ([a].map fun x : Nat => Value.int .u8 (x : Int))[j]? = some u → (w.alloc (.cells #[.int .u8 x] 5)).cell? ((⟨w.heap.size, 0, none⟩ : Addr).add j) = some u := by
  subst ex
  intro j u hu
  match j, hu with
  | 0, hu => rw [addr_add, World.cell?_alloc_new]; exact hu
  | j + 1, hu => simp at hu
theorem news2 {w : World} {a b : Nat} {x y : Int} (ex : x = a) (ey : y = b) : ∀ j u, ([a, b].map fun x : Nat => Value.int .u8 (x : Int))[j]? = some u → (w.alloc (.cells #[.int .u8 x, .int .u8 y] 5)).cell? ((⟨w.heap.size, 0, none⟩ : Addr).add j) = some u := by
  subst ex ey
  intro j u hu
  match j, hu with
  | 0, hu => rw [addr_add, World.cell?_alloc_new]; exact hu
  | 1, hu => rw [addr_add, World.cell?_alloc_new]; exact hu
  | j + 2, hu => simp at hu
/-- What is left of bytes in memory, from a place on. -/
theorem Dat.drop {l : List Nat} {b o : Nat} (h : Dat w B (some ⟨b, o, none⟩) l) (p : Nat) : Dat w B (some ⟨b, o + p, none⟩) (l.drop p) := by
  intro i hi
  rw [List.length_drop] at hi
  obtain ⟨b', o', e1, e2, e3⟩ := h (p + i) (by omega)
  cases e1
  refine ⟨b, o + p, rfl, e2, ?_⟩
  rw [Nat.add_assoc, e3]
  simp [nth, List.getElem?_drop]
theorem Dat.news {l : List Nat} {b o : Nat} (h : Dat w B (some ⟨b, o, none⟩) l) (n : Nat) (hn : n ≤ l.length) : ∀ j u, ((l.take n).map fun x : Nat => Value.int .u8 (x : Int))[j]? = some u → w.cell? ((⟨b, o, none⟩ : Addr).add j) = some u := by
  intro j u hu
  obtain ⟨hj, rfl⟩ := List.getElem?_eq_some_iff.1 hu
  rw [List.length_map, List.length_take] at hj
  obtain ⟨b', o', e1, _, e3⟩ := h j (by omega)
  cases e1
  rw [addr_add2, e3]
  simp [nth, List.getElem?_eq_getElem (show j < l.length by omega)]
set_option maxRecDepth 100000 in
set_option maxHeartbeats 2000000 in
theorem encodeRun_some {b o : Nat} (hd : Dat w B (some ⟨b, o, none⟩) data) (hB : B ≤ w.heap.size) (byt : ∀ i, i < data.length → nth data i < 256) (len : data.length ≤ 200000) (lc : data.length ≤ cap ∧ cap ≤ 9223372036854775807) :
    Calls Tryz.prog 103 #[.slice (some ⟨b, o, none⟩) data.length cap] w fun e w' => ∃ v, e = .returned v ∧ w'.ownsRow B 5 1 v (Fo.encRun data).length ((Fo.encRun data).map fun x : Nat => .int .u8 (x : Int)) ∧ Kept 5 B [] w w' := by
  obtain ⟨i0, hi, hz0, hz1, hz2⟩ := info_parts Tryz.infoByte
  have HR : Hid (Fo.runGo (data.length + 1) (data.drop 0) = Fo.encRun data) := hide rfl
  have HD := hide hd
  have BYT := hide byt
  generalize Fo.encRun data = R at *
  clear hd byt
  go_enter Tryz.func103, Tryz.ntmps103
  go_wp2
  go_loopw [0, 3] (fun d v wr => ∃ (p f : Nat) (out : List Nat) (pt : Addr), p ≤ data.length ∧ data.length - p < f ∧ d = .slice (some pt) (data.length - p) (cap - p) ∧ (p < data.length → pt = ⟨b, o + p, none⟩) ∧ Hid (out ++ Fo.runGo f (data.drop p) = R) ∧ out.length ≤ 2 * p ∧ wr.ownsRow B 5 1 v out.length (out.map fun x : Nat => .int .u8 (x : Int)) ∧ Kept 5 B [] w wr) (fun d _ _ => sliceLen d)
  case atStart => exact ⟨0, data.length + 1, [], ⟨b, o, none⟩, by omega, by omega, rfl, fun _ => rfl, HR, by simp, World.ownsRow_nil _ _ _ _, Kept.refl _ _ _ _⟩
  clear HR
  case round =>
    obtain ⟨p, f, out, pt, hp, hf, rfl, hpt, HRR, hol, hr, kk⟩ := hrel
    obtain ⟨a0, c0, rfl⟩ := own_slice hr
    have HO := hide hr
    have KK := hide kk
    have hsz := kk.size
    clear hr kk
    by_cases hz : p < data.length
    · obtain ⟨f', rfl⟩ : ∃ f', f = f' + 1 := ⟨f - 1, by omega⟩
      obtain rfl := hpt hz
      have HDw := hide ((HD.out.kept KK.out (by simp)).drop p)
      have HBl : Hid (∀ i, i < (data.drop p).length → nth (data.drop p) i < 256) := by
        intro i hi
        rw [List.length_drop] at hi
        have := BYT.out (p + i) (by omega)
        simpa [nth, List.getElem?_drop] using this
      have hll : data.length - p = (data.drop p).length := by rw [List.length_drop]
      have HDR : Hid (∀ n, (data.drop p).drop n = data.drop (p + n)) := fun n => by rw [List.drop_drop]
      rw [hll]
      generalize data.drop p = l at *
      have HLL := hide hll
      have h0 : 0 < l.length := by omega
      have h0' : (0 : Int) < l.length := by omega
      have hll1 : l.length ≤ 200000 := by omega
      have hcap : l.length ≤ cap - p := by omega
      clear hll
      have HSN := hide (Fo.sameN_le l h0)
      have HSm := hide (sameAhead_ok (cap := cap - p) HDw.out (by omega) (by omega) h0)
      have HE1 : Hid (1 < Fo.sameN l → Fo.runGo (f' + 1) l = (257 - Fo.sameN l) :: nth l 0 :: Fo.runGo f' (l.drop (Fo.sameN l))) := fun h => runGo_same h0 h
      have HE2 : Hid (¬ 1 < Fo.sameN l → (1 ≤ Fo.mixN l ∧ Fo.mixN l ≤ 128 ∧ Fo.mixN l ≤ l.length) ∧ Fo.runGo (f' + 1) l = (Fo.mixN l - 1) :: (l.take (Fo.mixN l) ++ Fo.runGo f' (l.drop (Fo.mixN l)))) := fun h => ⟨Fo.mixN_le l h0 h, runGo_mix h0 h⟩
      generalize Fo.sameN l = S at *
      go_wp2_with fail
      refine HSm.out.mono ?_
      rintro e w1 ⟨rfl, b1⟩
      have HO1 := hide (own_below HO.out b1)
      have HD1 := hide (HDw.out.below b1)
      have K1 := hide (Kept.thenBelow KK.out b1)
      have hsz1 : B ≤ w1.heap.size := by have := b1.size; omega
      clear HO KK b1 HSm HDw
      by_cases hs : 1 < S
      · have hs' : (1 : Int) < S := by omega
        obtain ⟨s1, s2, s3⟩ := HSN.out
        have HE := hide (HE1.out hs)
        have d0 : w1.cell? ⟨b, o + p, none⟩ = some (.int .u8 (nth l 0 : Nat)) := by
          obtain ⟨b', o', e1, _, e3⟩ := HD1.out 0 h0
          cases e1
          exact e3
        have hx := HBl.out 0 h0
        clear HE1 HE2 HSN
        generalize nth l 0 = X at *
        go_wp2_with (at_builtin; refine wpList_append_own _ rfl (.tmp 12) (.tmp 19) 23 rfl B 5 i0 (.int .u8 0) 1 1 Tryz.underlying23 hi hz0 hz1 hz2 rfl (by decide) (.slice a0 out.length c0) out.length _ rfl (HO1.out.alloc _) ⟨w1.heap.size, 0, none⟩ 2 2 ([257 - S, X].map fun x : Nat => .int .u8 (x : Int)) rfl rfl ?hnews ?hone ?h63 ?hby ?hbs ?_)
        case hnews => exact news2 (by omega) rfl
        case hone => intro u hu; simp at hu; rcases hu with rfl | rfl <;> rfl
        case h63 => unfold maxLen; omega
        case hby => omega
        case hbs => simp; omega
        intro v' w2 hr2 hg2 _
        have K2 := hide ((K1.out.alloc _).grown hg2 (own_row (HO1.out.alloc _)))
        have HR2 := hide hr2
        obtain ⟨a2, c2, rfl⟩ := own_slice hr2
        clear hr2 hg2 HO1 K1
        go_wp2
        go_roundw
        case rel =>
          have hL := HLL.out
          refine ⟨p + S, f', out ++ [257 - S, X], if cap - p = S then ⟨b, o + p, none⟩ else ⟨b, o + p + S, none⟩, by omega, by omega, ?_, ?_, ?_, ?_, ?_, K2.out⟩
          · rw [show data.length - (p + S) = l.length - S by omega, show cap - (p + S) = cap - p - S by omega]
            split <;> rfl
          · intro hlt
            rw [if_neg (by omega), Nat.add_assoc]
          · rw [← HDR.out, ← HRR.out, HE.out, List.append_assoc]; rfl
          · rw [List.length_append]; show _ + 2 ≤ _; omega
          · rw [List.map_append, List.length_append]; exact HR2.out
        case measure => simp [sliceLen]; omega
      · have hs' : ¬ (1 : Int) < S := by omega
        obtain ⟨⟨m1, m2, m3⟩, hE⟩ := HE2.out hs
        have HE := hide hE
        have HMx := hide (mixedAhead_ok (cap := cap - p) HD1.out (by omega) hsz1)
        clear HE1 HE2 hE
        generalize Fo.mixN l = M at *
        go_wp2_with fail
        refine HMx.out.mono ?_
        rintro e w2 ⟨rfl, b2⟩
        have HO2 := hide (own_below HO1.out b2)
        have HD2 := hide (HD1.out.below b2)
        have K2 := hide (Kept.thenBelow K1.out b2)
        have hsz2 : B ≤ w2.heap.size := by have := b2.size; omega
        clear HO1 K1 b2 HMx HD1
        have tok : True := trivial
        go_wp2_with (at_builtin; have _t := tok; refine wpList_append_own _ rfl (.tmp 23) (.tmp 27) 23 rfl B 5 i0 (.int .u8 0) 1 1 Tryz.underlying23 hi hz0 hz1 hz2 rfl (by decide) (.slice a0 out.length c0) out.length _ rfl (HO2.out.alloc _) ⟨w2.heap.size, 0, none⟩ 1 1 ([M - 1].map fun x : Nat => .int .u8 (x : Int)) rfl rfl ?hnews ?hone ?h63 ?hby ?hbs ?_; clear tok)
        case hnews => exact news1 (by omega)
        case hone => intro u hu; simp at hu; subst hu; rfl
        case h63 => unfold maxLen; omega
        case hby => omega
        case hbs => simp; omega
        intro v' w3 hr3 hg3 _
        have K3 := hide ((K2.out.alloc _).grown hg3 (own_row (HO2.out.alloc _)))
        have HD3 := hide ((HD2.out.below ((Below.refl _ _).alloc (Nat.le_refl _) _)).kept ((Kept.refl 5 B [] _).grown hg3 (own_row (HO2.out.alloc _))) (by simp))
        have HR3 := hide hr3
        obtain ⟨a3, c3, rfl⟩ := own_slice hr3
        have hsz3 : B ≤ w3.heap.size := by have := hg3.size; simp at this; omega
        clear hr3 hg3 HO2 K2
        go_wp2_with (at_builtin; refine wpList_append_own _ rfl (.tmp 29) (.tmp 32) 23 rfl B 5 i0 (.int .u8 0) 1 1 Tryz.underlying23 hi hz0 hz1 hz2 rfl (by decide) (.slice a3 (out.length + 1) c3) (out.length + 1) _ rfl HR3.out ⟨b, o + p, none⟩ M (cap - p) ((l.take M).map fun x : Nat => .int .u8 (x : Int)) rfl (by rw [List.length_map, List.length_take]; omega) ?hnews ?hone ?h63 ?hby ?hbs ?_)
        case hnews => exact HD3.out.news M m3
        case hone => intro u hu; obtain ⟨x, _, rfl⟩ := List.mem_map.1 hu; rfl
        case h63 => unfold maxLen; omega
        case hby => omega
        case hbs => omega
        intro v' w4 hr4 hg4 _
        have K4 := hide (K3.out.grown hg4 (own_row HR3.out))
        have HR4 := hide hr4
        obtain ⟨a4, c4, rfl⟩ := own_slice hr4
        clear hr4 hg4 HR3 K3
        go_wp2
        go_roundw
        case rel =>
          have hL := HLL.out
          refine ⟨p + M, f', out ++ [M - 1] ++ l.take M, if cap - p = M then ⟨b, o + p, none⟩ else ⟨b, o + p + M, none⟩, by omega, by omega, ?_, ?_, ?_, ?_, ?_, K4.out⟩
          · rw [show data.length - (p + M) = l.length - M by omega, show cap - (p + M) = cap - p - M by omega]
            split <;> rfl
          · intro hlt
            rw [if_neg (by omega), Nat.add_assoc]
          · rw [← HDR.out, ← HRR.out, HE.out, List.append_assoc, List.append_assoc]; rfl
          · rw [List.length_append, List.length_append, List.length_take]; show _ + 1 + _ ≤ _; omega
          · have := HR4.out
            rw [List.map_append, List.map_append, List.length_append, List.length_append, List.length_take, Nat.min_eq_left m3, List.map_take, List.append_assoc]; exact this
        case measure => simp [sliceLen]; omega
    · obtain rfl : p = data.length := by omega
      have hfin : Fo.runGo f (data.drop data.length) = [128] := runGo_end (by simp)
      rw [hfin] at HRR
      rw [Nat.sub_self]
      go_wp2_with (at_builtin; refine wpList_append_own _ rfl (.tmp 37) (.tmp 38) 23 rfl B 5 i0 (.int .u8 0) 1 1 Tryz.underlying23 hi hz0 hz1 hz2 rfl (by decide) (.slice a0 out.length c0) out.length _ rfl (HO.out.alloc _) ⟨wr.heap.size, 0, none⟩ 1 1 ([128].map fun x : Nat => .int .u8 (x : Int)) rfl rfl ?hnews ?hone ?h63 ?hby ?hbs ?_)
      case hnews => exact news1 rfl
      case hone => intro u hu; simp at hu; subst hu; rfl
      case h63 => unfold maxLen; omega
      case hby => omega
      case hbs => simp; omega
      intro v' w2 hr2 hg2 _
      have k2 := (KK.out.alloc _).grown hg2 (own_row (HO.out.alloc _))
      clear hg2
      go_wp2
      go_ret
      refine ⟨v', rfl, ?_, k2⟩
      rw [← HRR.out, List.map_append, List.length_append]
      exact hr2
end Go.Proofs.YtgkljcmjnphpeaaGreatDoor
namespace Go.Proofs.YtgkljcmjnphpeaaGreatDoor
open Go.RowKit
variable {w : World} {B cap : Nat} {ao : Option Addr} {data : List Nat}
theorem or_val (b0 b1 b2 b3 : Nat) (h0 : b0 < 256) (h1 : b1 < 256) (h2 : b2 < 256) (h3 : b3 < 256) :
    bits .or .u32 (bits .or .u32 (bits .or .u32 ((b0 * 16777216 : Nat) : Int) ((b1 * 65536 : Nat) : Int)) ((b2 * 256 : Nat) : Int)) ((b3 : Nat) : Int) = ((val4 b0 b1 b2 b3 : Nat) : Int) := by
  rw [u32_or_nat _ _ (by omega) (by omega)]
  have e1 : b0 * 16777216 ||| b1 * 65536 = b0 * 16777216 + b1 * 65536 := by
    have := or_low (b1 * 65536) b0 24 (by omega)
    rw [Nat.or_comm, show b0 * 16777216 = b0 * 2 ^ 24 by omega, this]; omega
  rw [e1, u32_or_nat _ _ (by omega) (by omega)]
  have e2 : (b0 * 16777216 + b1 * 65536) ||| b2 * 256 = b0 * 16777216 + b1 * 65536 + b2 * 256 := by
    have := or_low (b2 * 256) (b0 * 256 + b1) 16 (by omega)
    rw [Nat.or_comm, show b0 * 16777216 + b1 * 65536 = (b0 * 256 + b1) * 2 ^ 16 by omega, this]; omega
  rw [e2, u32_or_nat _ _ (by omega) (by omega)]
  have e3 : (b0 * 16777216 + b1 * 65536 + b2 * 256) ||| b3 = b0 * 16777216 + b1 * 65536 + b2 * 256 + b3 := by
    have := or_low b3 (b0 * 65536 + b1 * 256 + b2) 8 (by omega)
    rw [Nat.or_comm, show b0 * 16777216 + b1 * 65536 + b2 * 256 = (b0 * 65536 + b1 * 256 + b2) * 2 ^ 8 by omega, this]; omega
  rw [e3]; rfl
/-- Digits from the last on. -/
def digAt (V : Nat) : Nat → List Nat
  | 0 => [0, 0, 0, 0, 0]
  | k + 1 => (digAt V k).set (4 - k) (33 + V / 85 ^ k % 85)
theorem digAt_five {V : Nat} (h : V ≤ 4294967295) : digAt V 5 = dig5 V := by
  have : V / 52200625 % 85 = V / 52200625 := by omega
  show [33 + V / 85 ^ 4 % 85, 33 + V / 85 ^ 3 % 85, 33 + V / 85 ^ 2 % 85, 33 + V / 85 ^ 1 % 85, 33 + V / 85 ^ 0 % 85] = dig5 V
  unfold dig5
  simp only [show (85 : Nat) ^ 4 = 52200625 from rfl, show (85 : Nat) ^ 3 = 614125 from rfl, show (85 : Nat) ^ 2 = 7225 from rfl, show (85 : Nat) ^ 1 = 85 from rfl, show (85 : Nat) ^ 0 = 1 from rfl, Nat.div_one, this]
theorem digAt_len (V k : Nat) : (digAt V k).length = 5 := by
  induction k with
  | zero => rfl
  | succ k ih => simp [digAt, ih]
set_option maxRecDepth 100000 in
set_option maxHeartbeats 1000000 in
theorem a85Digits_ok (b0 b1 b2 b3 : Nat) (h0 : b0 < 256) (h1 : b1 < 256) (h2 : b2 < 256) (h3 : b3 < 256) (w : World) :
    Calls Tryz.prog 200 #[.agg #[.int .u8 b0, .int .u8 b1, .int .u8 b2, .int .u8 b3]] w fun e w' => e = .returned (.agg (byteVals (dig5 (val4 b0 b1 b2 b3))).toArray) ∧ Below w.heap.size w w' := by
  have hor := or_val b0 b1 b2 b3 h0 h1 h2 h3
  have hvl := val4_lt h0 h1 h2 h3
  have HDF := hide (digAt_five hvl)
  generalize val4 b0 b1 b2 b3 = V at *
  have hor' : bits .or .u32 (bits .or .u32 (bits .or .u32 ((b0 : Int) * 16777216) ((b1 : Int) * 65536)) ((b2 : Int) * 256)) (b3 : Int) = (V : Int) := by
    rw [show (b0 : Int) * 16777216 = ((b0 * 16777216 : Nat) : Int) by omega, show (b1 : Int) * 65536 = ((b1 * 65536 : Nat) : Int) by omega, show (b2 : Int) * 256 = ((b2 * 256 : Nat) : Int) by omega]
    exact hor
  clear hor
  go_enter Tryz.func200, Tryz.ntmps200
  go_wp2
  generalize hW : World.alloc (World.alloc (World.alloc w _) _) _ = W
  have hbW : Below w.heap.size w W := by rw [← hW]; exact ((((Below.refl _ _).alloc (Nat.le_refl _) _).alloc (by simp) _).alloc (by simp; omega) _)
  have hblk0 : W.heap[w.heap.size + 1 + 1]? = some (.cells #[.int .u8 0, .int .u8 0, .int .u8 0, .int .u8 0, .int .u8 0] 184 (0, 0)) := by
    rw [← hW]
    have := blk_new ((w.alloc (.cells #[.int .u8 b0, .int .u8 b1, .int .u8 b2, .int .u8 b3] 153)).alloc (.cells #[.int .u8 0, .int .u8 0, .int .u8 0, .int .u8 0, .int .u8 0] 184 (0, 0))) (.cells #[.int .u8 0, .int .u8 0, .int .u8 0, .int .u8 0, .int .u8 0] 184 (0, 0))
    simpa using this
  have hblk : W.heap[w.heap.size + 1 + 1]? = some (.cells (byteVals (digAt V 0)).toArray 184 (0, 0)) := hblk0
  have hblk2 : W.heap[w.heap.size + 1]? = some (.cells #[.int .u8 0, .int .u8 0, .int .u8 0, .int .u8 0, .int .u8 0] 184 (0, 0)) := by
    rw [← hW]
    have := blk_alloc (.cells #[.int .u8 0, .int .u8 0, .int .u8 0, .int .u8 0, .int .u8 0] 184 (0, 0)) (blk_new (w.alloc (.cells #[.int .u8 b0, .int .u8 b1, .int .u8 b2, .int .u8 b3] 153)) (.cells #[.int .u8 0, .int .u8 0, .int .u8 0, .int .u8 0, .int .u8 0] 184 (0, 0)))
    simpa using this
  have HBW := hide hbW
  have HBK := hide hblk
  have HB2 := hide hblk2
  clear hW hbW hblk hblk0 hblk2 hor' h0 h1 h2 h3
  go_loopw [3, 5] (fun n i wr => ∃ k : Nat, k ≤ 5 ∧ i = .int .i64 (4 - (k : Int)) ∧ n = .int .u32 (V / 85 ^ k : Nat) ∧ wr.heap[w.heap.size + 1 + 1]? = some (.cells (byteVals (digAt V k)).toArray 184 (0, 0)) ∧ wr.heap[w.heap.size + 1]? = some (.cells #[.int .u8 0, .int .u8 0, .int .u8 0, .int .u8 0, .int .u8 0] 184 (0, 0)) ∧ Below w.heap.size w wr) (fun _ i _ => (intOf i + 1).toNat)
  case atStart => exact ⟨0, by omega, rfl, by rw [Nat.pow_zero, Nat.div_one], HBK.out, HB2.out, HBW.out⟩
  case round =>
    obtain ⟨k, hk, rfl, rfl, hb, hb2, bl⟩ := hrel
    have HST : Hid (∀ D, D = 33 + V / 85 ^ k % 85 → digAt V (k + 1) = (digAt V k).set (4 - k) D) := fun D hD => by rw [hD]; rfl
    have HQ : Hid (V / 85 ^ (k + 1) = V / 85 ^ k / 85) := by
      unfold Hid
      rw [Nat.div_div_eq_div_mul, Nat.pow_succ]
    have hX : V / 85 ^ k ≤ 4294967295 := Nat.le_trans (Nat.div_le_self _ _) hvl
    generalize V / 85 ^ k = X at *
    have hln := digAt_len V k
    by_cases hk5 : k < 5
    · obtain ⟨i, hi⟩ : ∃ i, i = 4 - k := ⟨_, rfl⟩
      have ei : (4 : Int) - k = (i : Int) := by omega
      rw [ei]
      have hi5 : i < 5 := by omega
      obtain ⟨x, hx⟩ : ∃ x, wr.cell? ⟨w.heap.size + 1 + 1, i, none⟩ = some x := by
        rw [cell_blk hb]
        exact ⟨_, Array.getElem?_eq_getElem (by simp [byteVals, hln]; omega)⟩
      have fx : wr.frozen? ⟨w.heap.size + 1 + 1, i, none⟩ = false := free_blk hb
      have HN : Hid ((wr.setCell ⟨w.heap.size + 1 + 1, i, none⟩ (.int .u8 (33 + (X : Int) % 85))).heap[w.heap.size + 1 + 1]? = some (.cells (byteVals (digAt V (k + 1))).toArray 184 (0, 0))) := by
        unfold Hid
        rw [show (33 + (X : Int) % 85) = ((33 + X % 85 : Nat) : Int) by omega, HST.out (33 + X % 85) rfl, blk_setCell _ hb, ← hi]
        exact congrArg (fun C => some (Obj.cells C 184 (0, 0))) (byteVals_set (digAt V k) i (33 + X % 85))
      have HN2 : Hid ((wr.setCell ⟨w.heap.size + 1 + 1, i, none⟩ (.int .u8 (33 + (X : Int) % 85))).heap[w.heap.size + 1]? = some (.cells #[.int .u8 0, .int .u8 0, .int .u8 0, .int .u8 0, .int .u8 0] 184 (0, 0))) := by
        unfold Hid
        rw [blk_setCell_ne _ (by omega)]; exact hb2
      have HBL := hide (bl.setCell (p := ⟨w.heap.size + 1 + 1, i, none⟩) (show w.heap.size ≤ w.heap.size + 1 + 1 by omega) (.int .u8 (33 + (X : Int) % 85)))
      have Hki := hide hi
      clear hb hb2 bl HST hln ei hi
      go_wp2
      go_roundw
      case rel => exact ⟨k + 1, by omega, by have := Hki.out; congr 1; omega, by rw [HQ.out]; exact congrArg (Value.int .u32) (show ((X : Int) / 85) = ((X / 85 : Nat) : Int) by omega), HN.out, HN2.out, HBL.out⟩
      case measure => simp [intOf]
    · obtain rfl : k = 5 := by omega
      have hm1 : (4 : Int) - ((5 : Nat) : Int) = -1 := by omega
      rw [hm1]
      rw [HDF.out] at hb
      have hlen5 : (byteVals (dig5 V)).length = 5 := by unfold byteVals; rw [List.length_map]; rfl
      have hcs := range_of_blk hb
      have hi5 : Hid ((Tryz.prog.info? 184).map (·.size) = some (byteVals (dig5 V)).length) := by unfold Hid; rw [hlen5]; kernel_rfl
      have hszA : (byteVals (dig5 V)).toArray.size = 5 := List.size_toArray.trans hlen5
      have hi5' : Hid ((Tryz.prog.info? 184).map (·.size) = some (byteVals (dig5 V)).toArray.size) := by unfold Hid; rw [hszA]; kernel_rfl
      have ht5 : Hid (wr.there (w.heap.size + 1) 0 (byteVals (dig5 V)).toArray.size) := by
        unfold Hid
        rw [hszA]
        intro j hj
        refine ⟨?_, free_blk hb2⟩
        rw [cell_blk hb2, Nat.zero_add, Array.getElem?_eq_getElem (by simpa using hj)]; rfl
      have hone : (byteVals (dig5 V)).toArray.all (·.oneCell') = true := by simp [byteVals, Value.oneCell']
      have hz5 : (#[Value.int .u8 0, .int .u8 0, .int .u8 0, .int .u8 0, .int .u8 0] : Array Value).size = 5 := rfl
      have hfin := hide (setCells_whole (vs := byteVals (dig5 V)) hb2 (hz5.trans hlen5.symm))
      have hbel := hide (setCells_below (w.heap.size + 1) w.heap.size (by omega) (byteVals (dig5 V)) 0 _ _ bl)
      clear hb hb2 bl HST HQ hX hln hm1
      generalize hBV : byteVals (dig5 V) = BV at *
      have HBV := hide hBV
      clear hBV
      go_wp2_with (first | (refine wpList_load_mid rfl 184 (.tmp 4) rfl (w.heap.size + 1 + 1) 0 rfl _ _ hcs.out Tryz.underlying184 rfl hi5.out ?_) | (refine wpList_store_mid rfl 184 (.tmp 2) (.tmp 36) rfl (w.heap.size + 1) 0 BV.toArray rfl rfl ht5.out hi5'.out hone ?_))
      refine bodyPost_ret (v := .agg BV.toArray) ?_ rfl ⟨by rw [HBV.out], hbel.out⟩
      exact results_cell_row Tryz.results200 _ _ (w.heap.size + 1) 184 _ _ _ rfl hfin.out Tryz.underlying184 rfl hi5'.out
theorem ownB {B : Nat} {e : TypeId} {k : Nat} {v : Value} {n : Nat} {xs : List Value} {w w' : World} (h : w.ownsRow B e k v n xs) (b : Below w.heap.size w w') : w'.ownsRow B e k v n xs := by
  obtain ⟨h1, h2⟩ := h
  refine ⟨h1, ?_⟩
  rcases h2 with h2 | ⟨g, c, cur, e1, e2, hh, hc⟩
  · exact Or.inl h2
  · exact Or.inr ⟨g, c, cur, e1, e2, by rw [b.block _ (lt_of_block hh)]; exact hh, hc⟩
theorem Kept.thenB {e B : Nat} {S : List Nat} {a b c : World} (h : Kept e B S a b) (k : Below b.heap.size b c) : Kept e B S a c :=
  h.trans ⟨k.os, k.tape, k.output, k.size, fun i o _ ho _ => by rw [k.block i (lt_of_block ho)]; exact ho⟩
/-- What is written for a group. -/
def part85 (b0 b1 b2 b3 n : Nat) : List Nat := if n = 4 ∧ b0 = 0 ∧ b1 = 0 ∧ b2 = 0 ∧ b3 = 0 then [122] else (dig5 (val4 b0 b1 b2 b3)).take (n + 1)
theorem run_build43 (W : World) : (Instr.build 153 #[]).run Tryz.prog W = .ok (.agg #[.int .u8 0, .int .u8 0, .int .u8 0, .int .u8 0]) W := by kernel_rfl
theorem run_slice61_2 (b : Nat) (W : World) : (Instr.sliceAt 184 (.pointer (some ⟨b, 0, none⟩)) none (some (.int .i64 2)) none).run Tryz.prog W = .ok (.slice (some ⟨b, 0, none⟩) 2 5) W := by kernel_rfl
theorem run_slice61_3 (b : Nat) (W : World) : (Instr.sliceAt 184 (.pointer (some ⟨b, 0, none⟩)) none (some (.int .i64 3)) none).run Tryz.prog W = .ok (.slice (some ⟨b, 0, none⟩) 3 5) W := by kernel_rfl
theorem run_slice61_4 (b : Nat) (W : World) : (Instr.sliceAt 184 (.pointer (some ⟨b, 0, none⟩)) none (some (.int .i64 4)) none).run Tryz.prog W = .ok (.slice (some ⟨b, 0, none⟩) 4 5) W := by kernel_rfl
theorem run_slice61_5 (b : Nat) (W : World) : (Instr.sliceAt 184 (.pointer (some ⟨b, 0, none⟩)) none (some (.int .i64 5)) none).run Tryz.prog W = .ok (.slice (some ⟨b, 0, none⟩) 5 5) W := by kernel_rfl
theorem run_slice61 (b n : Nat) (hn : 1 ≤ n) (hn2 : n ≤ 4) (W : World) : (Instr.sliceAt 184 (.pointer (some ⟨b, 0, none⟩)) none (some (.int .i64 ((n : Int) + 1))) none).run Tryz.prog W = .ok (.slice (some ⟨b, 0, none⟩) (n + 1) 5) W := by
  obtain rfl | rfl | rfl | rfl : n = 1 ∨ n = 2 ∨ n = 3 ∨ n = 4 := by omega
  · exact run_slice61_2 b W
  · exact run_slice61_3 b W
  · exact run_slice61_4 b W
  · exact run_slice61_5 b W
theorem eq_zero4 (b0 b1 b2 b3 : Nat) (h0 : b0 < 256) (h1 : b1 < 256) (h2 : b2 < 256) (h3 : b3 < 256) (t : Bool) (ht : decide (b0 = 0 ∧ b1 = 0 ∧ b2 = 0 ∧ b3 = 0) = t) (W : World) :
    (Op.equalIn 10000 153 (.agg #[.int .u8 (b0 : Int), .int .u8 (b1 : Int), .int .u8 (b2 : Int), .int .u8 (b3 : Int)]) (.agg #[.int .u8 0, .int .u8 0, .int .u8 0, .int .u8 0])).run Tryz.prog W = .ok t W := by
  have := run_eq4 b0 b1 b2 b3 0 0 0 0 h0 h1 h2 h3 (by omega) (by omega) (by omega) (by omega) W
  have e : decide ([b0, b1, b2, b3] = [0, 0, 0, 0]) = t := by rw [← ht]; simp
  rw [e] at this
  exact this
theorem news1w {w : World} : ∀ j u, ([122].map fun x : Nat => Value.int .u8 (x : Int))[j]? = some u → (w.alloc (.cells #[.int .u8 122] 5)).cell? ((⟨w.heap.size, 0, none⟩ : Addr).add j) = some u := by
  intro j u hu
  match j, hu with
  | 0, hu => rw [addr_add, World.cell?_alloc_new]; exact hu
  | j + 1, hu => simp at hu
set_option maxRecDepth 100000 in
set_option maxHeartbeats 1000000 in
theorem appendGroup_ok (v : Value) (xs : List Nat) (hown : w.ownsRow B 5 1 v xs.length (xs.map fun x : Nat => .int .u8 (x : Int))) (hB : B ≤ w.heap.size) (hx : xs.length ≤ 1000000) (b0 b1 b2 b3 n : Nat) (h0 : b0 < 256) (h1 : b1 < 256) (h2 : b2 < 256) (h3 : b3 < 256) (hn : 1 ≤ n) (hn2 : n ≤ 4) :
    Calls Tryz.prog 144 #[v, .agg #[.int .u8 b0, .int .u8 b1, .int .u8 b2, .int .u8 b3], .int .i64 n] w fun e w' => ∃ v', e = .returned v' ∧ w'.ownsRow B 5 1 v' (xs ++ part85 b0 b1 b2 b3 n).length ((xs ++ part85 b0 b1 b2 b3 n).map fun x : Nat => .int .u8 (x : Int)) ∧ Kept 5 B [] w w' := by
  obtain ⟨i0, hi, hz0, hz1, hz2⟩ := info_parts Tryz.infoByte
  obtain ⟨a0, c0, rfl⟩ := own_slice hown
  have hbd := run_build43
  have HO := hide hown
  clear hown
  by_cases hz : n = 4 ∧ b0 = 0 ∧ b1 = 0 ∧ b2 = 0 ∧ b3 = 0
  · have hp : part85 b0 b1 b2 b3 n = [122] := by unfold part85; rw [if_pos hz]
    rw [hp]
    obtain ⟨rfl, rfl, rfl, rfl, rfl⟩ := hz
    have heq : ∀ W, (Op.equalIn 10000 153 (.agg #[.int .u8 0, .int .u8 0, .int .u8 0, .int .u8 0]) (.agg #[.int .u8 0, .int .u8 0, .int .u8 0, .int .u8 0])).run Tryz.prog W = .ok true W := eq_zero4 0 0 0 0 h0 h1 h2 h3 true (by decide)
    go_enter Tryz.func144, Tryz.ntmps144
    go_wp2_with (at_builtin; refine wpList_append_own _ rfl (.tmp 15) (.tmp 16) 23 rfl B 5 i0 (.int .u8 0) 1 1 Tryz.underlying23 hi hz0 hz1 hz2 rfl (by decide) (.slice a0 xs.length c0) xs.length _ rfl ((HO.out.alloc _).alloc _) ⟨w.heap.size + 1, 0, none⟩ 1 1 ([122].map fun x : Nat => .int .u8 (x : Int)) rfl rfl ?hnews ?hone ?h63 ?hby ?hbs ?_)
    case hnews =>
      have e : w.heap.size + 1 = (w.alloc (.cells #[.int .u8 0, .int .u8 0, .int .u8 0, .int .u8 0] 153)).heap.size := by simp
      rw [e]
      exact news1w
    case hone => intro u hu; simp at hu; subst hu; rfl
    case h63 => unfold maxLen; omega
    case hby => omega
    case hbs => simp; omega
    intro v' w2 hr2 hg2 _
    have K2 := (((Kept.refl 5 B [] w).alloc _).alloc _).grown hg2 (own_row ((HO.out.alloc _).alloc _))
    clear hg2
    go_wp2
    go_ret
    refine ⟨v', rfl, ?_, K2⟩
    rw [List.map_append, List.length_append]; exact hr2
  · have hp : part85 b0 b1 b2 b3 n = (dig5 (val4 b0 b1 b2 b3)).take (n + 1) := by unfold part85; rw [if_neg hz]
    rw [hp]
    have hlt : ((dig5 (val4 b0 b1 b2 b3)).take (n + 1)).length = n + 1 := by rw [List.length_take]; show min (n + 1) 5 = _; omega
    have HDG := hide (a85Digits_ok b0 b1 b2 b3 h0 h1 h2 h3)
    have hDG : (dig5 (val4 b0 b1 b2 b3)).length = 5 := rfl
    generalize dig5 (val4 b0 b1 b2 b3) = DG at *
    clear hp
    by_cases hn4 : n = 4
    · have heq := eq_zero4 b0 b1 b2 b3 h0 h1 h2 h3 false (decide_eq_false (fun h => hz ⟨hn4, h⟩))
      have e4 : ((n : Int) == 4) = true := by simp; omega
      clear hn4 hz
      go_enter Tryz.func144, Tryz.ntmps144
      go_wp2_with fail
      refine HDG.out _ |>.mono ?_
      rintro e w1 ⟨rfl, b1'⟩
      have O1 := hide (ownB (HO.out.alloc (.cells #[.int .u8 (b0 : Int), .int .u8 (b1 : Int), .int .u8 (b2 : Int), .int .u8 (b3 : Int)] 153)) b1')
      have K1 := hide (Kept.thenB ((Kept.refl 5 B [] w).alloc (.cells #[.int .u8 (b0 : Int), .int .u8 (b1 : Int), .int .u8 (b2 : Int), .int .u8 (b3 : Int)] 153)) b1')
      have hs1 : B ≤ w1.heap.size := by have := b1'.size; simp at this; omega
      clear b1' HO HDG
      have hone : (byteVals DG).toArray.all (·.oneCell') = true := by simp [byteVals, Value.oneCell']
      have hszA : (byteVals DG).toArray.size = 5 := by simp [byteVals, hDG]
      have hi5' : Hid ((Tryz.prog.info? 184).map (·.size) = some (byteVals DG).toArray.size) := by unfold Hid; rw [hszA]; kernel_rfl
      have hnew : (w1.alloc (.cells #[.int .u8 0, .int .u8 0, .int .u8 0, .int .u8 0, .int .u8 0] 184 (0, 0))).heap[w1.heap.size]? = some (.cells #[.int .u8 0, .int .u8 0, .int .u8 0, .int .u8 0, .int .u8 0] 184 (0, 0)) := blk_new _ _
      have ht5 : Hid ((w1.alloc (.cells #[.int .u8 0, .int .u8 0, .int .u8 0, .int .u8 0, .int .u8 0] 184 (0, 0))).there w1.heap.size 0 (byteVals DG).toArray.size) := by
        unfold Hid
        rw [hszA]
        intro j hj
        refine ⟨?_, free_blk hnew⟩
        rw [cell_blk hnew, Nat.zero_add, Array.getElem?_eq_getElem (by simpa using hj)]; rfl
      have hfin := hide (setCells_whole (vs := byteVals DG) hnew (by simp [byteVals, hDG]))
      have hoth : Hid (∀ k, k < w1.heap.size → ((w1.alloc (.cells #[.int .u8 0, .int .u8 0, .int .u8 0, .int .u8 0, .int .u8 0] 184 (0, 0))).setCells w1.heap.size 0 (byteVals DG)).heap[k]? = w1.heap[k]?) := fun k hk => by
        rw [setCells_ne _ (by omega)]
        show (w1.heap.push _)[k]? = _
        rw [Array.getElem?_push, if_neg (by omega)]
      have hsz2 : Hid (((w1.alloc (.cells #[.int .u8 0, .int .u8 0, .int .u8 0, .int .u8 0, .int .u8 0] 184 (0, 0))).setCells w1.heap.size 0 (byteVals DG)).heap.size = w1.heap.size + 1) := by
        unfold Hid
        rw [setCells_size]; simp
      have BK2 : Hid (Below w1.heap.size w1 ((w1.alloc (.cells #[.int .u8 0, .int .u8 0, .int .u8 0, .int .u8 0, .int .u8 0] 184 (0, 0))).setCells w1.heap.size 0 (byteVals DG))) := hide (setCells_below _ _ (Nat.le_refl _) _ _ _ _ ((Below.refl _ _).alloc (Nat.le_refl _) _))
      clear hnew hszA
      have hsl := run_slice61 w1.heap.size n hn hn2
      have O2 : Hid (∀ W2, (w1.alloc (.cells #[.int .u8 0, .int .u8 0, .int .u8 0, .int .u8 0, .int .u8 0] 184 (0, 0))).setCells w1.heap.size 0 (byteVals DG) = W2 → W2.ownsRow B 5 1 (.slice a0 xs.length c0) xs.length (xs.map fun x : Nat => .int .u8 (x : Int)) ∧ W2.heap[w1.heap.size]? = some (.cells (byteVals DG).toArray 184 (0, 0)) ∧ Kept 5 B [] w W2 ∧ W2.heap.size = w1.heap.size + 1) := by
        intro W2 hW
        subst hW
        exact ⟨ownB O1.out BK2.out, hfin.out, Kept.thenB K1.out BK2.out, hsz2.out⟩
      clear hfin hoth hsz2 BK2 O1 K1
      go_wp2_with (first | (refine wpList_store_mid rfl 184 (.tmp 7) (.tmp 19) rfl w1.heap.size 0 (byteVals DG).toArray rfl rfl ht5.out hi5'.out hone ?_; generalize hW2 : World.setCells (w1.alloc _) w1.heap.size 0 (byteVals DG) = W2; obtain ⟨o2, bk2, kp2, sz2⟩ := O2.out W2 hW2; have OO := hide o2; have BK := hide bk2; have KP := hide kp2; have SZ := hide sz2; clear hW2 o2 bk2 kp2 sz2 O2 ht5 hi5' hone) | (at_builtin; refine wpList_append_own _ rfl (.tmp 20) (.tmp 23) 23 rfl B 5 i0 (.int .u8 0) 1 1 Tryz.underlying23 hi hz0 hz1 hz2 rfl (by decide) (.slice a0 xs.length c0) xs.length _ rfl OO.out ⟨w1.heap.size, 0, none⟩ (n + 1) 5 (byteVals (DG.take (n + 1))) rfl (by unfold byteVals; rw [List.length_map, hlt, Nat.mul_one]) ?hnews ?hone ?h63 ?hby ?hbs ?_))
      case hnews =>
        intro j u hu
        rw [addr_add, cell_blk BK.out]
        unfold byteVals at hu ⊢
        rw [List.map_take, List.getElem?_take] at hu
        split at hu
        · simpa using hu
        · cases hu
      case hone => intro u hu; obtain ⟨x, _, rfl⟩ := List.mem_map.1 hu; rfl
      case h63 => unfold maxLen; omega
      case hby => omega
      case hbs => have := SZ.out; omega
      intro v' w2 hr2 hg2 _
      have K2 := hide (KP.out.grown hg2 (own_row OO.out))
      have R2 := hide hr2
      clear hg2 hr2
      go_wp2
      go_ret
      refine ⟨v', rfl, ?_, K2.out⟩
      rw [List.map_append, List.length_append, hlt]; exact R2.out
    · have e4 : ((n : Int) == 4) = false := by simp; omega
      clear hz
      go_enter Tryz.func144, Tryz.ntmps144
      go_wp2_with fail
      refine HDG.out _ |>.mono ?_
      rintro e w1 ⟨rfl, b1'⟩
      have O1 := hide (ownB (HO.out.alloc (.cells #[.int .u8 (b0 : Int), .int .u8 (b1 : Int), .int .u8 (b2 : Int), .int .u8 (b3 : Int)] 153)) b1')
      have K1 := hide (Kept.thenB ((Kept.refl 5 B [] w).alloc (.cells #[.int .u8 (b0 : Int), .int .u8 (b1 : Int), .int .u8 (b2 : Int), .int .u8 (b3 : Int)] 153)) b1')
      have hs1 : B ≤ w1.heap.size := by have := b1'.size; simp at this; omega
      clear b1' HO HDG
      have hone : (byteVals DG).toArray.all (·.oneCell') = true := by simp [byteVals, Value.oneCell']
      have hszA : (byteVals DG).toArray.size = 5 := by simp [byteVals, hDG]
      have hi5' : Hid ((Tryz.prog.info? 184).map (·.size) = some (byteVals DG).toArray.size) := by unfold Hid; rw [hszA]; kernel_rfl
      have hnew : (w1.alloc (.cells #[.int .u8 0, .int .u8 0, .int .u8 0, .int .u8 0, .int .u8 0] 184 (0, 0))).heap[w1.heap.size]? = some (.cells #[.int .u8 0, .int .u8 0, .int .u8 0, .int .u8 0, .int .u8 0] 184 (0, 0)) := blk_new _ _
      have ht5 : Hid ((w1.alloc (.cells #[.int .u8 0, .int .u8 0, .int .u8 0, .int .u8 0, .int .u8 0] 184 (0, 0))).there w1.heap.size 0 (byteVals DG).toArray.size) := by
        unfold Hid
        rw [hszA]
        intro j hj
        refine ⟨?_, free_blk hnew⟩
        rw [cell_blk hnew, Nat.zero_add, Array.getElem?_eq_getElem (by simpa using hj)]; rfl
      have hfin := hide (setCells_whole (vs := byteVals DG) hnew (by simp [byteVals, hDG]))
      have hoth : Hid (∀ k, k < w1.heap.size → ((w1.alloc (.cells #[.int .u8 0, .int .u8 0, .int .u8 0, .int .u8 0, .int .u8 0] 184 (0, 0))).setCells w1.heap.size 0 (byteVals DG)).heap[k]? = w1.heap[k]?) := fun k hk => by
        rw [setCells_ne _ (by omega)]
        show (w1.heap.push _)[k]? = _
        rw [Array.getElem?_push, if_neg (by omega)]
      have hsz2 : Hid (((w1.alloc (.cells #[.int .u8 0, .int .u8 0, .int .u8 0, .int .u8 0, .int .u8 0] 184 (0, 0))).setCells w1.heap.size 0 (byteVals DG)).heap.size = w1.heap.size + 1) := by
        unfold Hid
        rw [setCells_size]; simp
      have BK2 : Hid (Below w1.heap.size w1 ((w1.alloc (.cells #[.int .u8 0, .int .u8 0, .int .u8 0, .int .u8 0, .int .u8 0] 184 (0, 0))).setCells w1.heap.size 0 (byteVals DG))) := hide (setCells_below _ _ (Nat.le_refl _) _ _ _ _ ((Below.refl _ _).alloc (Nat.le_refl _) _))
      clear hnew hszA
      have hsl := run_slice61 w1.heap.size n hn hn2
      have O2 : Hid (∀ W2, (w1.alloc (.cells #[.int .u8 0, .int .u8 0, .int .u8 0, .int .u8 0, .int .u8 0] 184 (0, 0))).setCells w1.heap.size 0 (byteVals DG) = W2 → W2.ownsRow B 5 1 (.slice a0 xs.length c0) xs.length (xs.map fun x : Nat => .int .u8 (x : Int)) ∧ W2.heap[w1.heap.size]? = some (.cells (byteVals DG).toArray 184 (0, 0)) ∧ Kept 5 B [] w W2 ∧ W2.heap.size = w1.heap.size + 1) := by
        intro W2 hW
        subst hW
        exact ⟨ownB O1.out BK2.out, hfin.out, Kept.thenB K1.out BK2.out, hsz2.out⟩
      clear hfin hoth hsz2 BK2 O1 K1
      go_wp2_with (first | (refine wpList_store_mid rfl 184 (.tmp 7) (.tmp 19) rfl w1.heap.size 0 (byteVals DG).toArray rfl rfl ht5.out hi5'.out hone ?_; generalize hW2 : World.setCells (w1.alloc _) w1.heap.size 0 (byteVals DG) = W2; obtain ⟨o2, bk2, kp2, sz2⟩ := O2.out W2 hW2; have OO := hide o2; have BK := hide bk2; have KP := hide kp2; have SZ := hide sz2; clear hW2 o2 bk2 kp2 sz2 O2 ht5 hi5' hone) | (at_builtin; refine wpList_append_own _ rfl (.tmp 20) (.tmp 23) 23 rfl B 5 i0 (.int .u8 0) 1 1 Tryz.underlying23 hi hz0 hz1 hz2 rfl (by decide) (.slice a0 xs.length c0) xs.length _ rfl OO.out ⟨w1.heap.size, 0, none⟩ (n + 1) 5 (byteVals (DG.take (n + 1))) rfl (by unfold byteVals; rw [List.length_map, hlt, Nat.mul_one]) ?hnews ?hone ?h63 ?hby ?hbs ?_))
      case hnews =>
        intro j u hu
        rw [addr_add, cell_blk BK.out]
        unfold byteVals at hu ⊢
        rw [List.map_take, List.getElem?_take] at hu
        split at hu
        · simpa using hu
        · cases hu
      case hone => intro u hu; obtain ⟨x, _, rfl⟩ := List.mem_map.1 hu; rfl
      case h63 => unfold maxLen; omega
      case hby => omega
      case hbs => have := SZ.out; omega
      intro v' w2 hr2 hg2 _
      have K2 := hide (KP.out.grown hg2 (own_row OO.out))
      have R2 := hide hr2
      clear hg2 hr2
      go_wp2
      go_ret
      refine ⟨v', rfl, ?_, K2.out⟩
      rw [List.map_append, List.length_append, hlt]; exact R2.out
end Go.Proofs.YtgkljcmjnphpeaaGreatDoor
