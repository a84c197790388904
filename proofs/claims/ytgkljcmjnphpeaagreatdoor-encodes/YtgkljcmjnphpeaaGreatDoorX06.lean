/- The laws' own hands: done at every input; Encodes. -/
import Derived.Test.YtgkljcmjnphpeaaGreatDoorX05
import Derived.WalkKit
import Derived.Laws.BitsAllLaws
import Derived.BigRegion
import Derived.StillTailTactics
import Derived.Deep.MidRow
import Derived.MapKept
import Derived.Laws.AppendOwnNone
import Derived.Deep.AppendSrc
import Derived.Laws.CopyOwn
import Derived.Laws.BytesArg
import Derived.Lib.SlBytesConst
set_option linter.unusedVariables false
set_option linter.unusedSimpArgs false
namespace Go.Proofs.YtgkljcmjnphpeaaGreatDoor
open Go.RowKit
variable {w : World} {B cap : Nat} {ao : Option Addr} {data : List Nat}
theorem enc85_step (l : List Nat) (h : 0 < l.length) : enc85 l = part85 (nth l 0) (nth l 1) (nth l 2) (nth l 3) (min l.length 4) ++ enc85 (l.drop (min l.length 4)) := by
  match l, h with
  | [b0], _ => rfl
  | [b0, b1], _ => rfl
  | [b0, b1, b2], _ => rfl
  | b0 :: b1 :: b2 :: b3 :: l, _ =>
    have e : min (b0 :: b1 :: b2 :: b3 :: l).length 4 = 4 := by simp
    rw [e]
    show (if b0 = 0 ∧ b1 = 0 ∧ b2 = 0 ∧ b3 = 0 then [122] else dig5 (val4 b0 b1 b2 b3)) ++ enc85 l = part85 b0 b1 b2 b3 4 ++ enc85 l
    congr 1
    unfold part85
    by_cases c : b0 = 0 ∧ b1 = 0 ∧ b2 = 0 ∧ b3 = 0
    · rw [if_pos c, if_pos ⟨rfl, c⟩]
    · rw [if_neg c, if_neg (fun h => c h.2)]; rfl
theorem part85_len (b0 b1 b2 b3 n : Nat) (hn : 1 ≤ n) (hn2 : n ≤ 4) : (part85 b0 b1 b2 b3 n).length ≤ n + 1 := by
  unfold part85
  split
  · simp <;> omega
  · rw [List.length_take]; omega
theorem group_cells (l : List Nat) (h : 0 < l.length) : ((byteVals (l.take 4)) ++ ([Value.int .u8 0, .int .u8 0, .int .u8 0, .int .u8 0] : List Value).drop (byteVals (l.take 4)).length) = [.int .u8 (nth l 0 : Nat), .int .u8 (nth l 1 : Nat), .int .u8 (nth l 2 : Nat), .int .u8 (nth l 3 : Nat)] := by
  match l, h with
  | [b0], _ => rfl
  | [b0, b1], _ => rfl
  | [b0, b1, b2], _ => rfl
  | b0 :: b1 :: b2 :: b3 :: l, _ => rfl
theorem nth_lt {l : List Nat} (h : ∀ i, i < l.length → nth l i < 256) (i : Nat) : nth l i < 256 := by
  by_cases c : i < l.length
  · exact h i c
  · have : nth l i = 0 := by simp [nth, List.getElem?_eq_none (show l.length ≤ i by omega)]
    omega
set_option maxRecDepth 100000 in
set_option maxHeartbeats 2000000 in
theorem encodeA85_some {b o : Nat} (hd : Dat w B (some ⟨b, o, none⟩) data) (hB : B ≤ w.heap.size) (byt : ∀ i, i < data.length → nth data i < 256) (len : data.length ≤ 200000) (lc : data.length ≤ cap ∧ cap ≤ 9223372036854775807) :
    Calls Tryz.prog 102 #[.slice (some ⟨b, o, none⟩) data.length cap] w fun e w' => ∃ v, e = .returned v ∧ w'.ownsRow B 5 1 v (enc85 data).length ((enc85 data).map fun x : Nat => .int .u8 (x : Int)) ∧ Kept 5 B [] w w' := by
  obtain ⟨i0, hi, hz0, hz1, hz2⟩ := info_parts Tryz.infoByte
  have HR : Hid (enc85 (data.drop 0) = enc85 data) := hide rfl
  have HD := hide hd
  have BYT := hide byt
  generalize enc85 data = R at *
  clear hd byt
  go_enter Tryz.func102, Tryz.ntmps102
  go_wp2
  go_loopw [0, 3] (fun d v wr => ∃ (p : Nat) (out : List Nat) (pt : Addr), p ≤ data.length ∧ d = .slice (some pt) (data.length - p) (cap - p) ∧ (p < data.length → pt = ⟨b, o + p, none⟩) ∧ Hid (out ++ enc85 (data.drop p) = R) ∧ out.length ≤ 2 * p ∧ wr.ownsRow B 5 1 v out.length (out.map fun x : Nat => .int .u8 (x : Int)) ∧ Kept 5 B [] w wr) (fun d _ _ => sliceLen d)
  case atStart => exact ⟨0, [], ⟨b, o, none⟩, by omega, rfl, fun _ => rfl, HR, by simp, World.ownsRow_nil _ _ _ _, Kept.refl _ _ _ _⟩
  clear HR
  case round =>
    obtain ⟨p, out, pt, hp, rfl, hpt, HRR, hol, hr, kk⟩ := hrel
    obtain ⟨a0, c0, rfl⟩ := own_slice hr
    have HO := hide hr
    have KK := hide kk
    have hsz := kk.size
    clear hr kk
    by_cases hz : p < data.length
    · obtain rfl := hpt hz
      have HDw := hide ((HD.out.kept KK.out (by simp)).drop p)
      have HBl : Hid (∀ i, i < (data.drop p).length → nth (data.drop p) i < 256) := by
        intro i hi
        rw [List.length_drop] at hi
        have := BYT.out (p + i) (by omega)
        simpa [nth, List.getElem?_drop] using this
      have hll : data.length - p = (data.drop p).length := by rw [List.length_drop]
      have HDR : Hid (∀ n, (data.drop p).drop n = data.drop (p + n)) := fun n => by rw [List.drop_drop]
      rw [hll]
      generalize data.drop p = l at *
      have HLL := hide hll
      have h0 : 0 < l.length := by omega
      have h0' : (0 : Int) < l.length := by omega
      have hll1 : l.length ≤ 200000 := by omega
      have hcap : l.length ≤ cap - p := by omega
      clear hll
      have HST := hide (enc85_step l h0)
      have HGC := hide (group_cells l h0)
      obtain ⟨n, hn⟩ : ∃ n, n = min l.length 4 := ⟨_, rfl⟩
      have hnb : (byteVals (l.take 4)).length = n := by unfold byteVals; rw [List.length_map, List.length_take, Nat.min_comm]; exact hn.symm
      rw [← hn] at HST
      have hn1 : 1 ≤ n ∧ n ≤ 4 ∧ n ≤ l.length := by omega
      have q0 := nth_lt HBl.out 0
      have q1 := nth_lt HBl.out 1
      have q2 := nth_lt HBl.out 2
      have q3 := nth_lt HBl.out 3
      have hnew : (wr.alloc (.cells #[.int .u8 0, .int .u8 0, .int .u8 0, .int .u8 0] 153 (0, 0))).heap[wr.heap.size]? = some (.cells #[.int .u8 0, .int .u8 0, .int .u8 0, .int .u8 0] 153 (0, 0)) := blk_new _ _
      have hsrc : Hid (∀ j v, (byteVals (l.take 4))[j]? = some v → (wr.alloc (.cells #[.int .u8 0, .int .u8 0, .int .u8 0, .int .u8 0] 153 (0, 0))).cell? ((⟨b, o + p, none⟩ : Addr).add j) = some v) := by
        have hda : Dat (wr.alloc (.cells #[.int .u8 0, .int .u8 0, .int .u8 0, .int .u8 0] 153 (0, 0))) B (some ⟨b, o + p, none⟩) l := HDw.out.below ((Below.refl _ _).alloc (Nat.le_refl _) _)
        intro j v hv
        obtain ⟨hj, rfl⟩ := List.getElem?_eq_some_iff.1 hv
        rw [hnb] at hj
        obtain ⟨b', o', e1, _, e3⟩ := hda j (by omega)
        cases e1
        rw [addr_add2, e3]
        simp [byteVals, nth, List.getElem?_eq_getElem (show j < l.length by omega)]
      have hW2 : Hid (∀ W2, (wr.alloc (.cells #[.int .u8 0, .int .u8 0, .int .u8 0, .int .u8 0] 153 (0, 0))).setRow wr.heap.size (List.take 0 (#[Value.int .u8 0, .int .u8 0, .int .u8 0, .int .u8 0] : Array Value).toList ++ (byteVals (l.take 4) ++ List.drop (0 + (byteVals (l.take 4)).length) (#[Value.int .u8 0, .int .u8 0, .int .u8 0, .int .u8 0] : Array Value).toList)).toArray = W2 →
          W2.heap[wr.heap.size]? = some (.cells #[.int .u8 (nth l 0 : Nat), .int .u8 (nth l 1 : Nat), .int .u8 (nth l 2 : Nat), .int .u8 (nth l 3 : Nat)] 153 (0, 0)) ∧ Below wr.heap.size wr W2) := by
        intro W2 hW
        subst hW
        refine ⟨?_, below_setRow ((Below.refl _ _).alloc (Nat.le_refl _) _) (Nat.le_refl _) _⟩
        rw [setRow_heap _ _ _ _ _ _ hnew]
        have e : (List.take 0 (#[Value.int .u8 0, .int .u8 0, .int .u8 0, .int .u8 0] : Array Value).toList ++ (byteVals (l.take 4) ++ List.drop (0 + (byteVals (l.take 4)).length) (#[Value.int .u8 0, .int .u8 0, .int .u8 0, .int .u8 0] : Array Value).toList)) = [.int .u8 (nth l 0 : Nat), .int .u8 (nth l 1 : Nat), .int .u8 (nth l 2 : Nat), .int .u8 (nth l 3 : Nat)] := by
          rw [List.take_zero, List.nil_append, Nat.zero_add]; exact HGC.out
        rw [e]
      have hcp0 := run_copy_row (P := Tryz.prog) (wr.alloc (.cells #[.int .u8 0, .int .u8 0, .int .u8 0, .int .u8 0] 153 (0, 0))) 23 23 3 5 wr.heap.size 0 4 4 ⟨b, o + p, none⟩ l.length (cap - p) #[.int .u8 0, .int .u8 0, .int .u8 0, .int .u8 0] 153 (byteVals (l.take 4)) Tryz.underlying23 (by rw [hi]; simp [hz1]) hnew (by rw [hnb]; exact hn) hsrc.out (by rw [hnb]; show 0 + n ≤ 4; omega) (by intro v hv; obtain ⟨x, _, rfl⟩ := List.mem_map.1 hv; rfl)
      generalize hW : World.setRow _ wr.heap.size _ = W2 at hcp0
      obtain ⟨bk2, bl2⟩ := hW2.out W2 hW
      rw [hnb] at hcp0
      have hcp : (Builtin.copy_ #[23, 23] 3 #[.slice (some ⟨wr.heap.size, 0, none⟩) 4 4, .slice (some ⟨b, o + p, none⟩) l.length (cap - p)]).run Tryz.prog (wr.alloc (.cells #[.int .u8 0, .int .u8 0, .int .u8 0, .int .u8 0] 153)) = .ok (.int .i64 (n : Int)) W2 := hcp0
      have OO := hide (own_below HO.out bl2)
      have K2 := hide (Kept.thenBelow KK.out bl2)
      have hs2 : B ≤ W2.heap.size := by have := bl2.size; omega
      have g0 : W2.cell? ⟨wr.heap.size, 0, none⟩ = some (.int .u8 (nth l 0 : Nat)) := by rw [cell_blk bk2]; rfl
      have g1 : W2.cell? ⟨wr.heap.size, 1, none⟩ = some (.int .u8 (nth l 1 : Nat)) := by rw [cell_blk bk2]; rfl
      have g2 : W2.cell? ⟨wr.heap.size, 2, none⟩ = some (.int .u8 (nth l 2 : Nat)) := by rw [cell_blk bk2]; rfl
      have g3 : W2.cell? ⟨wr.heap.size, 3, none⟩ = some (.int .u8 (nth l 3 : Nat)) := by rw [cell_blk bk2]; rfl
      have HL2 := hide (part85_len (nth l 0) (nth l 1) (nth l 2) (nth l 3) n (by omega) (by omega))
      have HAG := hide (appendGroup_ok (B := B) (.slice a0 out.length c0) out OO.out hs2 (by omega) (nth l 0) (nth l 1) (nth l 2) (nth l 3) n q0 q1 q2 q3 (by omega) (by omega))
      have hnn : 1 ≤ n ∧ n ≤ 4 ∧ n ≤ l.length := hn1
      clear hnew HGC hcp0 hW hW2 hsrc bk2 bl2 HO KK hn hnb HDw
      generalize nth l 0 = x0 at *
      generalize nth l 1 = x1 at *
      generalize nth l 2 = x2 at *
      generalize nth l 3 = x3 at *
      go_wp2_with fail
      refine HAG.out.mono ?_
      rintro e w3 ⟨v3, rfl, own3, k3⟩
      have O3 := hide own3
      obtain ⟨a3, c3, rfl⟩ := own_slice own3
      clear own3
      go_wp2
      go_roundw
      case rel =>
        have hL := HLL.out
        have hp85 := HL2.out
        refine ⟨p + n, out ++ part85 x0 x1 x2 x3 n, if cap - p = n then ⟨b, o + p, none⟩ else ⟨b, o + p + n, none⟩, by omega, ?_, ?_, ?_, ?_, by have := O3.out; rw [List.length_append] at this ⊢; exact this, K2.out.trans k3⟩
        · rw [show data.length - (p + n) = l.length - n by omega, show cap - (p + n) = cap - p - n by omega]
          split <;> rfl
        · intro hlt
          rw [if_neg (by omega), Nat.add_assoc]
        · rw [← HDR.out, ← HRR.out, HST.out, List.append_assoc]; exact hide rfl
        · rw [List.length_append]; omega
      case measure => simp [sliceLen]; omega
    · obtain rfl : p = data.length := by omega
      have hfin : enc85 (data.drop data.length) = [126, 62] := by rw [List.drop_length]; rfl
      rw [hfin] at HRR
      rw [Nat.sub_self]
      have hsr := hide (Src.ofString (P := Tryz.prog) wr (tx := 9) Tryz.underlying9 { data := #[126, 62] })
      go_wp2_with (at_builtin; refine wpList_append_own_src rfl (.tmp 19) (.const (.string { data := #[126, 62] })) 23 9 rfl B 5 i0 (.int .u8 0) 1 Tryz.underlying23 hi hz0 hz1 hz2 rfl (.slice a0 out.length c0) out.length _ rfl HO.out (.string { data := #[126, 62] }) 2 (byteVals [126, 62]) rfl (by rw [hz1]; exact hsr.out) (by omega) (by unfold maxLen; omega) (by omega) (by omega) ?_)
      intro v' w2 hr2 hg2
      have k2 := KK.out.grown hg2 (own_row HO.out)
      clear hg2
      go_wp2
      go_ret
      refine ⟨v', rfl, ?_, k2⟩
      rw [← HRR.out, List.map_append, List.length_append]
      exact hr2
end Go.Proofs.YtgkljcmjnphpeaaGreatDoor
namespace Go.Proofs.YtgkljcmjnphpeaaGreatDoor
open Go.RowKit
variable {B br bd off cap : Nat} {d : List Nat} {most : Nat} {w : World} {p : Nat} {ov : Value} {out : List Nat}
theorem fenc3 {ao : Option Addr} {n : Nat} {P : Value → World → Prop} (hc : Calls Tryz.prog 103 #[.slice ao n cap] w fun e w' => ∃ v, e = .returned v ∧ P v w') :
    Calls Tryz.prog 70 #[.int .i64 3, .slice ao n cap] w fun e w' => ∃ v, e = .returned v ∧ P v w' := by
  have HC := hide hc
  clear hc
  go_enter Tryz.func70, Tryz.ntmps70
  go_wp2_with fail
  refine HC.out.mono ?_
  rintro e w1 ⟨v, rfl, hp⟩
  go_wp2
  go_ret
  exact ⟨v, rfl, hp⟩
end Go.Proofs.YtgkljcmjnphpeaaGreatDoor
namespace Go.Proofs.YtgkljcmjnphpeaaGreatDoor
open Go.RowKit
variable {w : World} {B : Nat}
end Go.Proofs.YtgkljcmjnphpeaaGreatDoor
namespace Go.Proofs.YtgkljcmjnphpeaaGreatDoor
open Go.RowKit
variable {w : World} {B cap : Nat} {ao : Option Addr} {data : List Nat}
/-- Bytes in memory as a slice holds them. -/
structure Mem (w : World) (bd off cap : Nat) (d : List Nat) : Prop where
  lt : bd < w.heap.size
  cell : ∀ i, i < d.length → w.cell? ⟨bd, off + i, none⟩ = some (.int .u8 (nth d i : Nat))
  byt : ∀ i, i < d.length → nth d i < 256
  cp : d.length ≤ cap
  lc : cap ≤ 9223372036854775807
theorem Mem.below {w' : World} {bd off cap : Nat} {d : List Nat} (h : Mem w bd off cap d) (b : Below w.heap.size w w') : Mem w' bd off cap d :=
  ⟨Nat.lt_of_lt_of_le h.lt b.size, fun i hi => by rw [b.cell (p := ⟨bd, off + i, none⟩) h.lt]; exact h.cell i hi, h.byt, h.cp, h.lc⟩
theorem Mem.cut {bd off cap : Nat} {d : List Nat} (h : Mem w bd off cap d) : Mem w bd off cap d.dropLast := by
  have hl : d.dropLast.length = d.length - 1 := List.length_dropLast
  have hn : ∀ i, i < d.dropLast.length → nth d.dropLast i = nth d i := fun i hi => by
    simp only [nth, List.getD_eq_getElem?_getD]
    rw [List.getElem?_eq_getElem hi, List.getElem?_eq_getElem (by omega), List.getElem_dropLast]
  exact ⟨h.lt, fun i hi => by rw [hn i hi]; exact h.cell i (by omega), fun i hi => by rw [hn i hi]; exact h.byt i (by omega), by have := h.cp; omega, h.lc⟩
/-- What is encoded of data: how it is decoded. -/
structure FOk (f : Nat) (data enc : List Nat) : Prop where
  pos : 0 < enc.length
  len : enc.length ≤ 2 * data.length + 20
  byt : ∀ x ∈ enc, x < 256
  ok : ∀ (w : World) (bd off cap most : Nat), Mem w bd off cap enc → most ≤ 1000000 → data.length ≤ most → Calls Tryz.prog 80 #[.int .i64 f, .slice (some ⟨bd, off, none⟩) enc.length cap, .int .i64 most] w fun e w' => ∃ v, e = .returned v ∧ w'.ownsRow w.heap.size 5 1 v data.length (data.map fun x : Nat => .int .u8 (x : Int)) ∧ Below w.heap.size w w'
  cap : ∀ (w : World) (bd off cap most : Nat), Mem w bd off cap enc → most < data.length → most ≤ 1000000 → Calls Tryz.prog 80 #[.int .i64 f, .slice (some ⟨bd, off, none⟩) enc.length cap, .int .i64 most] w fun e w' => e = gaveUp 6 ∧ Below w.heap.size w w'
  cut : ∀ (w : World) (bd off cap most : Nat), Mem w bd off cap enc.dropLast → most ≤ 1000000 → data.length ≤ most → Calls Tryz.prog 80 #[.int .i64 f, .slice (some ⟨bd, off, none⟩) enc.dropLast.length cap, .int .i64 most] w fun e w' => e = gaveUp 5 ∧ Below w.heap.size w w'
theorem Mem.rd {w : World} {bd off cap most : Nat} {d : List Nat} (h : Mem w bd off cap d) (hm : most ≤ 1000000) :
    Rd w.heap.size w.heap.size bd off cap d most (w.alloc (.cells #[.slice (some ⟨bd, off, none⟩) d.length cap, .int .i64 0, .slice none 0 0, .int .i64 most] 141 (0, 0))) 0 (.slice none 0 0) [] :=
  Rd.start (most := most) h.lt h.cell h.byt h.cp h.lc hm
theorem fenc2 {n : Nat} {P : Value → World → Prop} (hc : Calls Tryz.prog 102 #[.slice ao n cap] w fun e w' => ∃ v, e = .returned v ∧ P v w') :
    Calls Tryz.prog 70 #[.int .i64 2, .slice ao n cap] w fun e w' => ∃ v, e = .returned v ∧ P v w' := by
  have HC := hide hc
  clear hc
  go_enter Tryz.func70, Tryz.ntmps70
  go_wp2_with fail
  refine HC.out.mono ?_
  rintro e w1 ⟨v, rfl, hp⟩
  go_wp2
  go_ret
  exact ⟨v, rfl, hp⟩
/-- Of nothing. -/
theorem encodeRun_nil (cap : Nat) : Calls Tryz.prog 103 #[.slice ao 0 cap] w fun e w' => ∃ v, e = .returned v ∧ w'.ownsRow w.heap.size 5 1 v 1 ([128].map fun x : Nat => .int .u8 (x : Int)) ∧ Kept 5 w.heap.size [] w w' := by
  obtain ⟨i0, hi, hz0, hz1, hz2⟩ := info_parts Tryz.infoByte
  go_enter Tryz.func103, Tryz.ntmps103
  go_wp2
  go_loopw [0, 3] (fun d v wr => d = .slice ao 0 cap ∧ v = .slice none 0 0 ∧ wr = w) (fun _ _ _ => 0)
  case atStart => exact ⟨rfl, rfl, rfl⟩
  case round =>
    obtain ⟨rfl, rfl, rfl⟩ := hrel
    go_wp2_with (at_builtin; refine wpList_append_own _ rfl (.tmp 37) (.tmp 38) 23 rfl wr.heap.size 5 i0 (.int .u8 0) 1 1 Tryz.underlying23 hi hz0 hz1 hz2 rfl (by decide) (.slice none 0 0) 0 [] rfl (World.ownsRow_nil _ _ _ _) ⟨wr.heap.size, 0, none⟩ 1 1 ([128].map fun x : Nat => .int .u8 (x : Int)) rfl rfl ?hnews ?hone ?h63 ?hby ?hbs ?_)
    case hnews => exact news1 rfl
    case hone => intro u hu; simp at hu; subst hu; rfl
    case h63 => unfold maxLen; omega
    case hby => omega
    case hbs => simp
    intro v' w2 hr2 hg2 _
    have k2 := ((Kept.refl 5 wr.heap.size [] wr).alloc _).grown hg2 (fun g hg => by simp [Value.ownBlock] at hg)
    clear hg2
    go_wp2
    go_ret
    exact ⟨v', rfl, hr2, k2⟩
theorem encodeA85_nil (cap : Nat) : Calls Tryz.prog 102 #[.slice ao 0 cap] w fun e w' => ∃ v, e = .returned v ∧ w'.ownsRow w.heap.size 5 1 v 2 ([126, 62].map fun x : Nat => .int .u8 (x : Int)) ∧ Kept 5 w.heap.size [] w w' := by
  obtain ⟨i0, hi, hz0, hz1, hz2⟩ := info_parts Tryz.infoByte
  go_enter Tryz.func102, Tryz.ntmps102
  go_wp2
  go_loopw [0, 3] (fun d v wr => d = .slice ao 0 cap ∧ v = .slice none 0 0 ∧ wr = w) (fun _ _ _ => 0)
  case atStart => exact ⟨rfl, rfl, rfl⟩
  case round =>
    obtain ⟨rfl, rfl, rfl⟩ := hrel
    have hsr := hide (Src.ofString (P := Tryz.prog) wr (tx := 9) Tryz.underlying9 { data := #[126, 62] })
    go_wp2_with (at_builtin; refine wpList_append_own_src rfl (.tmp 19) (.const (.string { data := #[126, 62] })) 23 9 rfl wr.heap.size 5 i0 (.int .u8 0) 1 Tryz.underlying23 hi hz0 hz1 hz2 rfl (.slice none 0 0) 0 _ rfl (World.ownsRow_nil _ _ _ _) (.string { data := #[126, 62] }) 2 (byteVals [126, 62]) rfl (by rw [hz1]; exact hsr.out) (by omega) (by unfold maxLen; omega) (by omega) (by omega) ?_)
    intro v' w2 hr2 hg2
    have k2 := (Kept.refl 5 wr.heap.size [] wr).grown hg2 (fun g hg => by simp [Value.ownBlock] at hg)
    clear hg2
    go_wp2
    go_ret
    exact ⟨v', rfl, hr2, k2⟩
end Go.Proofs.YtgkljcmjnphpeaaGreatDoor
namespace Go.Proofs.YtgkljcmjnphpeaaGreatDoor
open Go.RowKit
variable {w : World}
theorem done_85 (S : ByteArray) (hS : S.size ≤ 200000) :
    Calls Tryz.prog 13 #[.int .i64 2, .string S] w fun e w' => ∃ v B, e = .returned (.tuple #[v, .bool true]) ∧ SRow B v (enc85 (bl S)) (strN (enc85 (bl S))) #[] w' ∧ Below w.heap.size w w' := by
  refine done_gen 2 (by omega) (by omega) S hS (fun W g b hg => ?_) (fun W => (rdo_85 S hS).mono ?_)
  · have h := face_encode (w := W) (ao := some ⟨g, 0, none⟩) (n := (bl S).length) (cap := S.size + 8) (P := fun v w' => w'.ownsRow W.heap.size 5 1 v (enc85 (bl S)).length ((enc85 (bl S)).map fun x : Nat => .int .u8 (x : Int)) ∧ Below W.heap.size W w') 2 (by omega) (by rw [bl_len]; exact hS) (fenc2 (by
      by_cases h0 : 0 < (bl S).length
      · refine (encodeA85_some (lent_dat hg) (Nat.le_refl _) (fun i hi => by rw [bl_len] at hi; exact bl_lt S i hi) (by rw [bl_len]; exact hS) (by rw [bl_len]; omega)).mono ?_
        rintro e w' ⟨v, rfl, h1, h2⟩
        exact ⟨v, rfl, h1, h2.below (Nat.le_refl _) (by simp)⟩
      · have hz : bl S = [] := List.eq_nil_of_length_eq_zero (by omega)
        rw [hz]
        refine (encodeA85_nil _).mono ?_
        rintro e w' ⟨v, rfl, h1, h2⟩
        exact ⟨v, rfl, h1, h2.below (Nat.le_refl _) (by simp)⟩))
    rw [bl_len] at h
    exact h
  · rintro x w' ⟨rfl, k⟩
    exact ⟨rfl, k.below (Nat.le_refl _) (by simp)⟩
theorem done_run (S : ByteArray) (hS : S.size ≤ 200000) :
    Calls Tryz.prog 13 #[.int .i64 3, .string S] w fun e w' => ∃ v B, e = .returned (.tuple #[v, .bool true]) ∧ SRow B v (Fo.encRun (bl S)) (strN (Fo.encRun (bl S))) #[] w' ∧ Below w.heap.size w w' := by
  refine done_gen 3 (by omega) (by omega) S hS (fun W g b hg => ?_) (fun W => (rdo_run S hS).mono ?_)
  · have h := face_encode (w := W) (ao := some ⟨g, 0, none⟩) (n := (bl S).length) (cap := S.size + 8) (P := fun v w' => w'.ownsRow W.heap.size 5 1 v (Fo.encRun (bl S)).length ((Fo.encRun (bl S)).map fun x : Nat => .int .u8 (x : Int)) ∧ Below W.heap.size W w') 3 (by omega) (by rw [bl_len]; exact hS) (fenc3 (by
      by_cases h0 : 0 < (bl S).length
      · refine (encodeRun_some (lent_dat hg) (Nat.le_refl _) (fun i hi => by rw [bl_len] at hi; exact bl_lt S i hi) (by rw [bl_len]; exact hS) (by rw [bl_len]; omega)).mono ?_
        rintro e w' ⟨v, rfl, h1, h2⟩
        exact ⟨v, rfl, h1, h2.below (Nat.le_refl _) (by simp)⟩
      · have hz : bl S = [] := List.eq_nil_of_length_eq_zero (by omega)
        rw [hz]
        refine (encodeRun_nil _).mono ?_
        rintro e w' ⟨v, rfl, h1, h2⟩
        exact ⟨v, rfl, h1, h2.below (Nat.le_refl _) (by simp)⟩))
    rw [bl_len] at h
    exact h
  · rintro x w' ⟨rfl, k⟩
    exact ⟨rfl, k.below (Nat.le_refl _) (by simp)⟩
end Go.Proofs.YtgkljcmjnphpeaaGreatDoor
namespace Go.Proofs.YtgkljcmjnphpeaaGreatDoor
open Go.RowKit
variable {w : World}
/-- Bytes that came out: none, or their own. -/
def OutRow (v : Value) (w : World) : Prop := v = .slice none 0 0 ∨ ∃ B out, SRow B v out (strN out) #[] w
theorem done_ok (f : Int) (S : ByteArray) (hS : S.size ≤ 140737488351232) :
    Calls Tryz.prog 13 #[.int .i64 f, .string S] w fun e w' => ∃ v, e = .returned (.tuple #[v, .bool true]) ∧ OutRow v w' ∧ Below w.heap.size w w' := by
  by_cases hf : f < 1 ∨ 4 < f
  · exact (done_no f hf S hS).mono fun e w' ⟨h1, h2⟩ => ⟨_, h1, Or.inl rfl, h2⟩
  · by_cases hl : 200000 < S.size
    · exact (done_long f (by omega) (by omega) S hS hl).mono fun e w' ⟨h1, h2⟩ => ⟨_, h1, Or.inl rfl, h2⟩
    · have h4 : f = 1 ∨ f = 2 ∨ f = 3 ∨ f = 4 := by omega
      rcases h4 with rfl | rfl | rfl | rfl
      · exact (done_hex S (by omega)).mono fun e w' ⟨v, B, h1, h2, h3⟩ => ⟨v, h1, Or.inr ⟨B, _, h2⟩, h3⟩
      · exact (done_85 S (by omega)).mono fun e w' ⟨v, B, h1, h2, h3⟩ => ⟨v, h1, Or.inr ⟨B, _, h2⟩, h3⟩
      · exact (done_run S (by omega)).mono fun e w' ⟨v, B, h1, h2, h3⟩ => ⟨v, h1, Or.inr ⟨B, _, h2⟩, h3⟩
      · exact (done_flate S (by omega)).mono fun e w' ⟨v, B, out, h1, h2, h3⟩ => ⟨v, h1, Or.inr ⟨B, _, h2⟩, h3⟩
theorem encodes_ok (f : Int) (S : ByteArray) (hS : S.size ≤ 140737488351232) (hord : OrdW w) (hG : 1 < w.heap.size) :
    Calls Tryz.prog 3 #[.int .i64 f, .string S] w fun e w' => e = .returned (.bool true) ∧ Below w.heap.size w w' := by
  have HO := hide hord
  have HG := hide hG
  clear hord hG
  go_enter Tryz.func3, Tryz.ntmps3
  go_wp2_with fail
  refine (lawOpened_ok HO.out HG.out).mono ?_
  rintro e w1 ⟨rfl, b1⟩
  have B1 := hide b1
  clear b1 HO HG
  go_wp2_with fail
  refine (done_ok f S hS).mono ?_
  rintro e w2 ⟨v2, rfl, _, b2⟩
  go_wp2
  go_ret
  exact ⟨rfl, B1.out.trans (b2.mono B1.out.size)⟩
end Go.Proofs.YtgkljcmjnphpeaaGreatDoor
