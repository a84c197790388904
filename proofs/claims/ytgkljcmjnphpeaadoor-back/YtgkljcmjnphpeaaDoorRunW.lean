/- encodeRun. -/
import Derived.Test.YtgkljcmjnphpeaaDoorRunA
import Derived.Test.YtgkljcmjnphpeaaDoorStep
import Derived.Test.YtgkljcmjnphpeaaDoorSBlk
set_option linter.unusedVariables false
set_option linter.unusedSimpArgs false
namespace Go.Proofs.YtgkljcmjnphpeaaDoor
open Go.RowKit
variable {w : World} {B cap : Nat} {ao : Option Addr} {data : List Nat}

theorem runGo_same {f : Nat} {l : List Nat} (h0 : 0 < l.length) (h : 1 < Fo.sameN l) : Fo.runGo (f + 1) l = (257 - Fo.sameN l) :: nth l 0 :: Fo.runGo f (l.drop (Fo.sameN l)) := by
  rw [Fo.runGo, if_neg (by omega), if_pos h]
theorem runGo_mix {f : Nat} {l : List Nat} (h0 : 0 < l.length) (h : ¬ 1 < Fo.sameN l) : Fo.runGo (f + 1) l = (Fo.mixN l - 1) :: (l.take (Fo.mixN l) ++ Fo.runGo f (l.drop (Fo.mixN l))) := by
  rw [Fo.runGo, if_neg (by omega), if_neg h]
theorem runGo_end {f : Nat} {l : List Nat} (h0 : l.length = 0) : Fo.runGo f l = [128] := by
  cases f with
  | zero => rfl
  | succ f => rw [Fo.runGo, if_pos h0]

def sliceLen : Value → Nat
  | .slice _ n _ => n
  | _ => 0

theorem news1 {w : World} {a : Nat} {x : Int} (ex : x = a) : ∀ j u, ([a].map fun x : Nat => Value.int .u8 (x : Int))[j]? = some u → (w.alloc (.cells #[.int .u8 x] 5)).cell? ((⟨w.heap.size, 0, none⟩ : Addr).add j) = some u := by
  subst ex
  intro j u hu
  match j, hu with
  | 0, hu => rw [addr_add, World.cell?_alloc_new]; exact hu
  | j + 1, hu => simp at hu
theorem news2 {w : World} {a b : Nat} {x y : Int} (ex : x = a) (ey : y = b) : ∀ j u, ([a, b].map fun x : Nat => Value.int .u8 (x : Int))[j]? = some u → (w.alloc (.cells #[.int .u8 x, .int .u8 y] 5)).cell? ((⟨w.heap.size, 0, none⟩ : Addr).add j) = some u := by
  subst ex ey
  intro j u hu
  match j, hu with
  | 0, hu => rw [addr_add, World.cell?_alloc_new]; exact hu
  | 1, hu => rw [addr_add, World.cell?_alloc_new]; exact hu
  | j + 2, hu => simp at hu

/-- What is left of bytes in memory, from a place on. -/
theorem Dat.drop {l : List Nat} {b o : Nat} (h : Dat w B (some ⟨b, o, none⟩) l) (p : Nat) : Dat w B (some ⟨b, o + p, none⟩) (l.drop p) := by
  intro i hi
  rw [List.length_drop] at hi
  obtain ⟨b', o', e1, e2, e3⟩ := h (p + i) (by omega)
  cases e1
  refine ⟨b, o + p, rfl, e2, ?_⟩
  rw [Nat.add_assoc, e3]
  simp [nth, List.getElem?_drop]
theorem Dat.news {l : List Nat} {b o : Nat} (h : Dat w B (some ⟨b, o, none⟩) l) (n : Nat) (hn : n ≤ l.length) : ∀ j u, ((l.take n).map fun x : Nat => Value.int .u8 (x : Int))[j]? = some u → w.cell? ((⟨b, o, none⟩ : Addr).add j) = some u := by
  intro j u hu
  obtain ⟨hj, rfl⟩ := List.getElem?_eq_some_iff.1 hu
  rw [List.length_map, List.length_take] at hj
  obtain ⟨b', o', e1, _, e3⟩ := h j (by omega)
  cases e1
  rw [addr_add2, e3]
  simp [nth, List.getElem?_eq_getElem (show j < l.length by omega)]

set_option maxRecDepth 100000 in
set_option maxHeartbeats 2000000 in
theorem encodeRun_some {b o : Nat} (hd : Dat w B (some ⟨b, o, none⟩) data) (hB : B ≤ w.heap.size) (byt : ∀ i, i < data.length → nth data i < 256) (len : data.length ≤ 200000) (lc : data.length ≤ cap ∧ cap ≤ 9223372036854775807) :
    Calls Tryd.prog 17 #[.slice (some ⟨b, o, none⟩) data.length cap] w fun e w' => ∃ v, e = .returned v ∧ w'.ownsRow B 5 1 v (Fo.encRun data).length ((Fo.encRun data).map fun x : Nat => .int .u8 (x : Int)) ∧ Kept 5 B [] w w' := by
  obtain ⟨i0, hi, hz0, hz1, hz2⟩ := info_parts Tryd.infoByte
  have HR : Hid (Fo.runGo (data.length + 1) (data.drop 0) = Fo.encRun data) := hide rfl
  have HD := hide hd
  have BYT := hide byt
  generalize Fo.encRun data = R at *
  clear hd byt
  go_enter Tryd.func17, Tryd.ntmps17
  go_wp2
  go_loopw [0, 3] (fun d v wr => ∃ (p f : Nat) (out : List Nat) (pt : Addr), p ≤ data.length ∧ data.length - p < f ∧ d = .slice (some pt) (data.length - p) (cap - p) ∧ (p < data.length → pt = ⟨b, o + p, none⟩) ∧ Hid (out ++ Fo.runGo f (data.drop p) = R) ∧ out.length ≤ 2 * p ∧ wr.ownsRow B 5 1 v out.length (out.map fun x : Nat => .int .u8 (x : Int)) ∧ Kept 5 B [] w wr) (fun d _ _ => sliceLen d)
  case atStart => exact ⟨0, data.length + 1, [], ⟨b, o, none⟩, by omega, by omega, rfl, fun _ => rfl, HR, by simp, World.ownsRow_nil _ _ _ _, Kept.refl _ _ _ _⟩
  clear HR
  case round =>
    obtain ⟨p, f, out, pt, hp, hf, rfl, hpt, HRR, hol, hr, kk⟩ := hrel
    obtain ⟨a0, c0, rfl⟩ := own_slice hr
    have HO := hide hr
    have KK := hide kk
    have hsz := kk.size
    clear hr kk
    by_cases hz : p < data.length
    · obtain ⟨f', rfl⟩ : ∃ f', f = f' + 1 := ⟨f - 1, by omega⟩
      obtain rfl := hpt hz
      have HDw := hide ((HD.out.kept KK.out (by simp)).drop p)
      have HBl : Hid (∀ i, i < (data.drop p).length → nth (data.drop p) i < 256) := by
        intro i hi
        rw [List.length_drop] at hi
        have := BYT.out (p + i) (by omega)
        simpa [nth, List.getElem?_drop] using this
      have hll : data.length - p = (data.drop p).length := by rw [List.length_drop]
      have HDR : Hid (∀ n, (data.drop p).drop n = data.drop (p + n)) := fun n => by rw [List.drop_drop]
      rw [hll]
      generalize data.drop p = l at *
      have HLL := hide hll
      have h0 : 0 < l.length := by omega
      have h0' : (0 : Int) < l.length := by omega
      have hll1 : l.length ≤ 200000 := by omega
      have hcap : l.length ≤ cap - p := by omega
      clear hll
      have HSN := hide (Fo.sameN_le l h0)
      have HSm := hide (sameAhead_ok (cap := cap - p) HDw.out (by omega) (by omega) h0)
      have HE1 : Hid (1 < Fo.sameN l → Fo.runGo (f' + 1) l = (257 - Fo.sameN l) :: nth l 0 :: Fo.runGo f' (l.drop (Fo.sameN l))) := fun h => runGo_same h0 h
      have HE2 : Hid (¬ 1 < Fo.sameN l → (1 ≤ Fo.mixN l ∧ Fo.mixN l ≤ 128 ∧ Fo.mixN l ≤ l.length) ∧ Fo.runGo (f' + 1) l = (Fo.mixN l - 1) :: (l.take (Fo.mixN l) ++ Fo.runGo f' (l.drop (Fo.mixN l)))) := fun h => ⟨Fo.mixN_le l h0 h, runGo_mix h0 h⟩
      generalize Fo.sameN l = S at *
      go_wp2_with fail
      refine HSm.out.mono ?_
      rintro e w1 ⟨rfl, b1⟩
      have HO1 := hide (own_below HO.out b1)
      have HD1 := hide (HDw.out.below b1)
      have K1 := hide (Kept.thenBelow KK.out b1)
      have hsz1 : B ≤ w1.heap.size := by have := b1.size; omega
      clear HO KK b1 HSm HDw
      by_cases hs : 1 < S
      · have hs' : (1 : Int) < S := by omega
        obtain ⟨s1, s2, s3⟩ := HSN.out
        have HE := hide (HE1.out hs)
        have d0 : w1.cell? ⟨b, o + p, none⟩ = some (.int .u8 (nth l 0 : Nat)) := by
          obtain ⟨b', o', e1, _, e3⟩ := HD1.out 0 h0
          cases e1
          exact e3
        have hx := HBl.out 0 h0
        clear HE1 HE2 HSN
        generalize nth l 0 = X at *
        go_wp2_with (at_builtin; refine wpList_append_own _ rfl (.tmp 12) (.tmp 19) 22 rfl B 5 i0 (.int .u8 0) 1 1 Tryd.underlying22 hi hz0 hz1 hz2 rfl (by decide) (.slice a0 out.length c0) out.length _ rfl (HO1.out.alloc _) ⟨w1.heap.size, 0, none⟩ 2 2 ([257 - S, X].map fun x : Nat => .int .u8 (x : Int)) rfl rfl ?hnews ?hone ?h63 ?hby ?hbs ?_)
        case hnews => exact news2 (by omega) rfl
        case hone => intro u hu; simp at hu; rcases hu with rfl | rfl <;> rfl
        case h63 => unfold maxLen; omega
        case hby => omega
        case hbs => simp; omega
        intro v' w2 hr2 hg2 _
        have K2 := hide ((K1.out.alloc _).grown hg2 (own_row (HO1.out.alloc _)))
        have HR2 := hide hr2
        obtain ⟨a2, c2, rfl⟩ := own_slice hr2
        clear hr2 hg2 HO1 K1
        go_wp2
        go_roundw
        case rel =>
          have hL := HLL.out
          refine ⟨p + S, f', out ++ [257 - S, X], if cap - p = S then ⟨b, o + p, none⟩ else ⟨b, o + p + S, none⟩, by omega, by omega, ?_, ?_, ?_, ?_, ?_, K2.out⟩
          · rw [show data.length - (p + S) = l.length - S by omega, show cap - (p + S) = cap - p - S by omega]
            split <;> rfl
          · intro hlt
            rw [if_neg (by omega), Nat.add_assoc]
          · rw [← HDR.out, ← HRR.out, HE.out, List.append_assoc]; rfl
          · rw [List.length_append]; show _ + 2 ≤ _; omega
          · rw [List.map_append, List.length_append]; exact HR2.out
        case measure => simp [sliceLen]; omega
      · have hs' : ¬ (1 : Int) < S := by omega
        obtain ⟨⟨m1, m2, m3⟩, hE⟩ := HE2.out hs
        have HE := hide hE
        have HMx := hide (mixedAhead_ok (cap := cap - p) HD1.out (by omega) hsz1)
        clear HE1 HE2 hE
        generalize Fo.mixN l = M at *
        go_wp2_with fail
        refine HMx.out.mono ?_
        rintro e w2 ⟨rfl, b2⟩
        have HO2 := hide (own_below HO1.out b2)
        have HD2 := hide (HD1.out.below b2)
        have K2 := hide (Kept.thenBelow K1.out b2)
        have hsz2 : B ≤ w2.heap.size := by have := b2.size; omega
        clear HO1 K1 b2 HMx HD1
        have tok : True := trivial
        go_wp2_with (at_builtin; have _t := tok; refine wpList_append_own _ rfl (.tmp 23) (.tmp 27) 22 rfl B 5 i0 (.int .u8 0) 1 1 Tryd.underlying22 hi hz0 hz1 hz2 rfl (by decide) (.slice a0 out.length c0) out.length _ rfl (HO2.out.alloc _) ⟨w2.heap.size, 0, none⟩ 1 1 ([M - 1].map fun x : Nat => .int .u8 (x : Int)) rfl rfl ?hnews ?hone ?h63 ?hby ?hbs ?_; clear tok)
        case hnews => exact news1 (by omega)
        case hone => intro u hu; simp at hu; subst hu; rfl
        case h63 => unfold maxLen; omega
        case hby => omega
        case hbs => simp; omega
        intro v' w3 hr3 hg3 _
        have K3 := hide ((K2.out.alloc _).grown hg3 (own_row (HO2.out.alloc _)))
        have HD3 := hide ((HD2.out.below ((Below.refl _ _).alloc (Nat.le_refl _) _)).kept ((Kept.refl 5 B [] _).grown hg3 (own_row (HO2.out.alloc _))) (by simp))
        have HR3 := hide hr3
        obtain ⟨a3, c3, rfl⟩ := own_slice hr3
        have hsz3 : B ≤ w3.heap.size := by have := hg3.size; simp at this; omega
        clear hr3 hg3 HO2 K2
        go_wp2_with (at_builtin; refine wpList_append_own _ rfl (.tmp 29) (.tmp 32) 22 rfl B 5 i0 (.int .u8 0) 1 1 Tryd.underlying22 hi hz0 hz1 hz2 rfl (by decide) (.slice a3 (out.length + 1) c3) (out.length + 1) _ rfl HR3.out ⟨b, o + p, none⟩ M (cap - p) ((l.take M).map fun x : Nat => .int .u8 (x : Int)) rfl (by rw [List.length_map, List.length_take]; omega) ?hnews ?hone ?h63 ?hby ?hbs ?_)
        case hnews => exact HD3.out.news M m3
        case hone => intro u hu; obtain ⟨x, _, rfl⟩ := List.mem_map.1 hu; rfl
        case h63 => unfold maxLen; omega
        case hby => omega
        case hbs => omega
        intro v' w4 hr4 hg4 _
        have K4 := hide (K3.out.grown hg4 (own_row HR3.out))
        have HR4 := hide hr4
        obtain ⟨a4, c4, rfl⟩ := own_slice hr4
        clear hr4 hg4 HR3 K3
        go_wp2
        go_roundw
        case rel =>
          have hL := HLL.out
          refine ⟨p + M, f', out ++ [M - 1] ++ l.take M, if cap - p = M then ⟨b, o + p, none⟩ else ⟨b, o + p + M, none⟩, by omega, by omega, ?_, ?_, ?_, ?_, ?_, K4.out⟩
          · rw [show data.length - (p + M) = l.length - M by omega, show cap - (p + M) = cap - p - M by omega]
            split <;> rfl
          · intro hlt
            rw [if_neg (by omega), Nat.add_assoc]
          · rw [← HDR.out, ← HRR.out, HE.out, List.append_assoc, List.append_assoc]; rfl
          · rw [List.length_append, List.length_append, List.length_take]; show _ + 1 + _ ≤ _; omega
          · have := HR4.out
            rw [List.map_append, List.map_append, List.length_append, List.length_append, List.length_take, Nat.min_eq_left m3, List.map_take, List.append_assoc]; exact this
        case measure => simp [sliceLen]; omega
    · obtain rfl : p = data.length := by omega
      have hfin : Fo.runGo f (data.drop data.length) = [128] := runGo_end (by simp)
      rw [hfin] at HRR
      rw [Nat.sub_self]
      go_wp2_with (at_builtin; refine wpList_append_own _ rfl (.tmp 37) (.tmp 38) 22 rfl B 5 i0 (.int .u8 0) 1 1 Tryd.underlying22 hi hz0 hz1 hz2 rfl (by decide) (.slice a0 out.length c0) out.length _ rfl (HO.out.alloc _) ⟨wr.heap.size, 0, none⟩ 1 1 ([128].map fun x : Nat => .int .u8 (x : Int)) rfl rfl ?hnews ?hone ?h63 ?hby ?hbs ?_)
      case hnews => exact news1 rfl
      case hone => intro u hu; simp at hu; subst hu; rfl
      case h63 => unfold maxLen; omega
      case hby => omega
      case hbs => simp; omega
      intro v' w2 hr2 hg2 _
      have k2 := (KK.out.alloc _).grown hg2 (own_row (HO.out.alloc _))
      clear hg2
      go_wp2
      go_ret
      refine ⟨v', rfl, ?_, k2⟩
      rw [← HRR.out, List.map_append, List.length_append]
      exact hr2
end Go.Proofs.YtgkljcmjnphpeaaDoor
