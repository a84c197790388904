/- A block of what filter 4 has packed: inflater.block. -/
import Derived.Test.YtgkljcmjnphpeaaGreatDoorK24
import Derived.Test.YtgkljcmjnphpeaaGreatDoorK25
import Derived.Test.YtgkljcmjnphpeaaGreatDoorK28
import Derived.Laws.IdiomStrings
import Derived.Test.YtgkljcmjnphpeaaGreatDoorK01
import Derived.Test.YtgkljcmjnphpeaaGreatDoorK00
import Derived.WalkKit
import Derived.Laws.BitsAllLaws
set_option linter.unusedVariables false
set_option linter.unusedSimpArgs false
namespace Go.Proofs.YtgkljcmjnphpeaaGreatDoor
open Go.RowKit
variable {w w' w0 : World}
/-- What comes behind the first parts of a code. -/
def restK : Nat → Code → Code
  | 0, c => c
  | n + 1, .seq _ b => restK n b
  | _ + 1, c => c
/-- A string's bytes, in memory of their own. -/
theorem conv_bytes (l : List Nat) (hb : ∀ x ∈ l, x < 256) (hl : l.length ≤ 1000000) (w : World) : ∃ cap W', l.length ≤ cap ∧ cap ≤ 9223372036854775807 ∧ (convert 9 23 (.string (strN l))).run Tryz.prog w = .ok (.slice (some ⟨w.heap.size, 0, none⟩) l.length cap) W' ∧ Below w.heap.size w W' ∧ Dat W' W'.heap.size (some ⟨w.heap.size, 0, none⟩) l ∧ w.heap.size < W'.heap.size := by
  have hr := run_bytes_of_string (P := Tryz.prog) w 9 23 5 (strN l) Tryz.underlying9 Tryz.underlying23 Tryz.underlying5
  have h1 := grownCap_ge w (strN l).size 0 5
  have h2 := grownCap_le_maxLen w (strN l).size 0 5 (by rw [strN_sz]; unfold maxLen; omega)
  generalize grownCap w (strN l).size 0 5 = cap at *
  rw [strN_sz] at hr h1
  refine ⟨cap, _, h1, h2, hr, (Below.refl _ _).drew.alloc (Nat.le_refl _) _, ?_, by simp⟩
  intro i hi
  refine ⟨w.heap.size, 0, rfl, by simp, ?_⟩
  have hnw : (w.drew.alloc (.cells (bytesRow (strN l) cap) 5 ((bytesRow (strN l) cap).size, (bytesRow (strN l) cap).size + 1))).heap[w.heap.size]? = some (.cells (bytesRow (strN l) cap) 5 ((bytesRow (strN l) cap).size, (bytesRow (strN l) cap).size + 1)) := blk_new w.drew _
  rw [Nat.zero_add, cell_blk hnw]
  unfold bytesRow
  rw [Array.getElem?_append_left (by simp [strN]; exact hi)]
  simp [strN, nth, List.getElem?_eq_getElem hi]
  have := hb l[i] (List.getElem_mem hi)
  omega
theorem conv_dat {B : Nat} {ao : Option Addr} {xs : List Nat} {cap : Nat} (h : Dat w B ao xs) : (convert 23 9 (.slice ao xs.length cap)).run Tryz.prog w = .ok (.string (strN xs)) w := by
  rcases Nat.eq_zero_or_pos xs.length with h0 | h0
  · have hl : xs = [] := List.length_eq_zero_iff.1 h0
    subst hl
    exact conv_empty ao cap w
  · obtain ⟨b, o, rfl, _, _⟩ := h 0 h0
    refine string_cells ⟨b, o, none⟩ cap xs (fun j hj => ?_)
    obtain ⟨b', o', e, _, hc⟩ := h j hj
    cases e
    unfold Addr.add
    split
    · next h => subst h; simpa using hc
    · exact hc
theorem Dat.up {B : Nat} {ao : Option Addr} {xs : List Nat} (h : Dat w B ao xs) (hB : B ≤ w.heap.size) (b : Below w.heap.size w w') : Dat w' w'.heap.size ao xs := fun i hi => by
  obtain ⟨b', o, e, h1, h2⟩ := h i hi
  have := b.size
  exact ⟨b', o, e, by omega, by rw [b.cell (by show b' < _; omega)]; exact h2⟩
theorem Env.up {B : Nat} (h : Env B w) (hB : B ≤ w.heap.size) (b : Below w.heap.size w w') : Env w'.heap.size w' := by
  have h2 := h.below hB b
  have := b.size
  exact ⟨⟨h2.err.syn, h2.err.rng, h2.err.mx, by have := h2.err.ls; omega, by have := h2.err.lr; omega, by have := h2.err.lm; omega⟩, h2.pow, by have := h2.lp; omega⟩
theorem ways_keys (zs : List (Nat × Nat)) (cs : List (Nat × Bool)) : KeysOk (k := 12) (Fo.waysV zs cs) := by
  refine ⟨Or.inr (Nat.le_refl 6), fun y hy => ?_⟩
  have hy2 : y ∈ Fo.waysItems zs cs := hy
  have leaf : ∀ (kd : Nat) (n : Int) (p : Nat) (t : List Nat), KeysOk (k := 11) (leafN (VT 10) kd n p t) := fun kd n p t => ⟨Or.inl rfl, fun z hz => by cases hz⟩
  unfold Fo.waysItems at hy2
  rcases List.mem_cons.1 hy2 with rfl | hy2
  · exact leaf _ _ _ _
  rcases List.mem_cons.1 hy2 with rfl | hy2
  · exact leaf _ _ _ _
  rcases List.mem_cons.1 hy2 with rfl | hy2
  · exact leaf _ _ _ _
  rcases List.mem_cons.1 hy2 with rfl | hy2
  · exact leaf _ _ _ _
  rcases List.mem_cons.1 hy2 with rfl | hy2
  · exact leaf _ _ _ _
  rcases List.mem_cons.1 hy2 with rfl | hy2
  · exact leaf _ _ _ _
  cases hy2
set_option maxRecDepth 100000 in
set_option maxHeartbeats 8000000 in
theorem strings_after (hb0 : Below w0.heap.size w0 w) (HE : Hid (Env w.heap.size w)) {ao : Option Addr} {cap : Nat} {xs : List Nat} (HD : Hid (Dat w w.heap.size ao xs)) {zs : List (Nat × Nat)} {cs : List (Nat × Bool)} (hz : zs.map Prod.fst = xs) (hz60 : zs.length ≤ 60) (hz2 : ∀ z ∈ zs, z.1 < 256) (hc50 : cs.length ≤ 50) (hc2 : ∀ y ∈ cs, 0 < y.1 ∧ y.1 < 256)
    {nv : Value} {B : Nat} (HN : Hid (w.ownsRow B 5 1 nv (cs.map Prod.fst).length ((cs.map Prod.fst).map fun x : Nat => .int .u8 (x : Int)))) (t1 t4 t10 t11 t12 t19 t20 t21 t22 t23 t24 t25 t26 t27 t28 t29 t30 t31 t32 t33 t34 t35 t36 t37 t38 t39 t40 t41 t42 t43 t44 t45 t46 t47 t48 t49 t50 t51 t52 t53 t54 t55 t56 t57 t58 t59 t60 t61 t62 t63 t64 t65 t66 t67 t68 t69 t70 t71 t72 t73 t74 t75 t76 t77 t78 t79 t80 : Value) :
    Code.wp Tryz.prog (restK 9 (Tryz.f10.body.getD .skip)) (bodyPost Tryz.prog Tryz.f10 fun e w' => e = .returned (.bool true) ∧ Below w0.heap.size w0 w') { tmps := #[.slice ao xs.length cap, t1, undef, undef, t4, .bool true, .string (strN ([40] ++ zs.flatMap Fo.wayA)), .string (strN ([60] ++ zs.flatMap Fo.wayB)), .string (strN ([47] ++ cs.flatMap Fo.wayC)), nv, t10, t11, t12, .string { data := #[40, 40, 41, 40, 97, 40, 98, 41, 41, 92, 40, 92, 41, 41] }, undef, undef, undef, undef, undef, t19, t20, t21, t22, t23, t24, t25, t26, t27, t28, t29, t30, t31, t32, t33, t34, t35, t36, t37, t38, t39, t40, t41, t42, t43, t44, t45, t46, t47, t48, t49, t50, t51, t52, t53, t54, t55, t56, t57, t58, t59, t60, t61, t62, t63, t64, t65, t66, t67, t68, t69, t70, t71, t72, t73, t74, t75, t76, t77, t78, t79, t80, undef, undef, undef, undef, undef, undef, undef, undef, undef, undef, undef, undef, undef, undef, undef, undef, undef, undef, undef, undef, undef, undef, undef, undef, undef, undef, undef, undef, undef, undef, undef, undef, undef, undef, undef, undef, undef, undef, undef, undef, undef, undef, undef, undef, undef, undef, undef, undef], defers := [] } w := by
  have HB0 := hide hb0
  have hla : (strN ([40] ++ zs.flatMap Fo.wayA)).size ≤ 1500 := by
    rw [strN_sz]; have := Fo.ways_len hz60 hc50; unfold Fo.waysText at this; simp only [List.length_append, List.length_cons, List.length_nil] at this ⊢; omega
  have hlb : (strN ([60] ++ zs.flatMap Fo.wayB)).size ≤ 1500 := by
    rw [strN_sz]; have := Fo.ways_len hz60 hc50; unfold Fo.waysText at this; simp only [List.length_append, List.length_cons, List.length_nil] at this ⊢; omega
  have hlc : (strN ([47] ++ cs.flatMap Fo.wayC)).size ≤ 1500 := by
    rw [strN_sz]; have := Fo.ways_len hz60 hc50; unfold Fo.waysText at this; simp only [List.length_append, List.length_cons, List.length_nil] at this ⊢; omega
  have HTX : Hid (({ data := #[60, 60, 47, 65, 32] } : ByteArray) ++ strN ([40] ++ zs.flatMap Fo.wayA) ++ { data := #[41, 47, 66] } ++ strN ([60] ++ zs.flatMap Fo.wayB) ++ { data := #[62, 47, 67] } ++ strN ([47] ++ cs.flatMap Fo.wayC) ++ { data := #[47, 68] } ++ { data := #[40, 40, 41, 40, 97, 40, 98, 41, 41, 92, 40, 92, 41, 41] } ++ { data := #[47, 69, 40, 13, 10, 13, 10, 92, 110, 41, 47, 70, 60, 52, 62, 62, 62] } = strN (Fo.waysText zs cs)) := by
    unfold Hid Fo.waysText
    rw [← strN_append (a := [60, 60, 47, 65, 32]), ← strN_append (a := [40] ++ zs.flatMap Fo.wayA), ← strN_append (a := [41, 47, 66]), ← strN_append (a := [60] ++ zs.flatMap Fo.wayB), ← strN_append (a := [62, 47, 67]), ← strN_append (a := [47] ++ cs.flatMap Fo.wayC), ← strN_append (a := [47, 68]), ← strN_append (a := [40, 40, 41, 40, 97, 40, 98, 41, 41, 92, 40, 92, 41, 41])]
    simp only [ByteArray.append_assoc]
    rfl
  generalize strN ([40] ++ zs.flatMap Fo.wayA) = sa at *
  generalize strN ([60] ++ zs.flatMap Fo.wayB) = sb at *
  generalize strN ([47] ++ cs.flatMap Fo.wayC) = sc at *
  have HTL := hide (Fo.ways_len hz60 hc50)
  obtain ⟨V, hV⟩ : ∃ V : VT 12, V = Fo.waysV zs cs := ⟨_, rfl⟩
  have HRD : Hid (Fo.document (Fo.made [Fo.waysText zs cs] [] 0 (-1)) = some ([(V, [])], 1) ∧ Fo.readPlain (Fo.made [Fo.waysText zs cs] [] 0 (-1)) = some ([V], 1)) := by rw [hV]; exact Fo.ways_read hz60 hz2 hc50 hc2
  have HVE := hide hV
  have hV8 : kindOf V ≠ 8 := by rw [hV]; exact (by decide : (7 : Nat) ≠ 8)
  clear hV
  conv => arg 2; simp only [Tryz.f10, Option.getD_some, restK]
  have HSM := hide (Fo.ways_small hz2 hc2)
  have HXZ := hide hz
  clear hz2 hc2 hz
  go_wp2_with fail
  rw [HTX.out]
  have bx : Below w.heap.size w (w.alloc (.cells #[.string (strN (Fo.waysText zs cs))] 9)) := (Below.refl _ _).alloc (Nat.le_refl _) _
  have HMD := hide (made_ok (w := w.alloc (.cells #[.string (strN (Fo.waysText zs cs))] 9)) (b := w.heap.size) (cap := 1) (texts := [Fo.waysText zs cs]) (G := []) (off := 0) (k := -1) (by simp) (fun i x hx => by
    match i, hx with
    | 0, hx => cases hx; rw [cell_blk (blk_new w _)]; rfl
    | i + 1, hx => simp at hx) (fun x hx => by simp at hx; rw [hx]; exact HTL.out) (by simp) (by simp) (by simp) ⟨by omega, by omega⟩ ⟨by omega, by omega⟩)
  rw [show ([Fo.waysText zs cs] : List (List Nat)).length = 1 from rfl, show strN [] = { data := #[] } from rfl] at HMD
  have HBX := hide bx
  generalize w.alloc (.cells #[.string (strN (Fo.waysText zs cs))] 9) = w1 at *
  clear bx HTX hla hlb hlc
  refine HMD.out.mono ?_
  rintro e w2 ⟨rfl, b2⟩
  have HB2 : Hid (Below w.heap.size w w2) := HBX.out.trans (b2.mono HBX.out.size)
  have HML : Hid ((Fo.made [Fo.waysText zs cs] [] 0 (-1)).length ≤ 20000) := Fo.made_len 0 (-1) (by simp) (by simp) (fun x hx => by simp at hx; rw [hx]; exact HTL.out)
  have HMS : Hid (Fo.Small (Fo.made [Fo.waysText zs cs] [] 0 (-1))) := Fo.made_small 0 (-1) (fun x hx => by cases hx) (fun x hx => by simp at hx; rw [hx]; exact HSM.out)
  clear b2 HBX HMD HSM HTL
  generalize Fo.made [Fo.waysText zs cs] [] 0 (-1) = file at *
  obtain ⟨fcap, w3, hf1, hf2, hfc, hf3, hf4, hf5⟩ := conv_bytes file HMS.out (Nat.le_trans HML.out (by decide)) w2
  have HB3 : Hid (Below w.heap.size w w3) := HB2.out.trans (hf3.mono HB2.out.size)
  have HRK := hide (read_ok (w := w3) (most := 0) (cap := fcap) (by omega) (HE.out.up (Nat.le_refl _) HB3.out) hf4 (fun i hi => by
    have := HMS.out file[i] (List.getElem_mem hi)
    simpa [nth, List.getElem?_eq_getElem hi] using this) (Nat.le_trans HML.out (by decide)) ⟨hf1, hf2⟩ ⟨_, _, rfl, hf5⟩ (fun z hz x hx => by
      rw [HRD.out.1] at hz
      cases hz
      rcases List.mem_cons.1 hx with rfl | hx
      · exact hV8
      · cases hx))
  rw [HRD.out.2] at HRK
  have hfl := HML.out
  generalize file.length = fl at *
  generalize strN file = fs at *
  clear HML HMS hf3 hf4 HB2 HRD
  go_wp2_with fail
  refine HRK.out.mono ?_
  rintro e w4 ⟨b4, ov, rfl, hv⟩
  have HB4 : Hid (Below w.heap.size w w4) := HB3.out.trans (b4.mono HB3.out.size)
  obtain ⟨oa, oc, hov⟩ := hv.len
  have HV := hide hv
  rw [show ([V] : List (VT 12)).length = 1 from rfl] at hov
  subst hov
  have HCD := hide (fun W (b : Below w4.heap.size w4 W) => conv_dat (cap := cap) ((HD.out.up (Nat.le_refl _) HB4.out).up (Nat.le_refl _) b))
  have HCN := hide (fun W (b : Below w4.heap.size w4 W) => string_own (own_belowW (own_belowW HN.out HB4.out) b))
  clear b4 hv hfc hf1 hf2 hf5 HRK
  have hx4 : (w4.alloc (.cells #[.slice oa 1 oc, .int .i64 1] 31)).heap[w4.heap.size]? = some (.cells #[.slice oa 1 oc, .int .i64 1] 31 (0, 0)) := blk_new _ _
  have b5 : Below w4.heap.size w4 ((w4.alloc (.cells #[.slice oa 1 oc, .int .i64 1] 31)).alloc (.cells #[.string { data := #[65] }, .string { data := #[66] }, .string { data := #[67] }, .string { data := #[68] }, .string { data := #[69] }, .string { data := #[70] }] 9)) := ((Below.refl _ _).alloc (Nat.le_refl _) _).alloc (by simp) _
  have hcd := HCD.out _ b5
  have hcn := HCN.out _ b5
  clear HCD HCN
  have HX4 := hide hx4
  go_wp2_with fail
  have bz : Below w4.heap.size w4 (((((w4.alloc (.cells #[.slice oa 1 oc, .int .i64 1] 31)).alloc (.cells #[.string { data := #[65] }, .string { data := #[66] }, .string { data := #[67] }, .string { data := #[68] }, .string { data := #[69] }, .string { data := #[70] }] 9)).alloc (.cells #[.int .i64 5, .int .i64 0, .int .i64 0, .string (strN xs), .slice none 0 0, .slice none 0 0, .slice none 0 0, .int .i64 5, .int .i64 0, .int .i64 0, .string (strN xs), .slice none 0 0, .slice none 0 0, .slice none 0 0, .int .i64 4, .int .i64 0, .int .i64 0, .string (strN (List.map Prod.fst cs)), .slice none 0 0, .slice none 0 0, .slice none 0 0, .int .i64 5, .int .i64 0, .int .i64 0, .string { data := #[40, 41, 40, 97, 40, 98, 41, 41, 40, 41] }, .slice none 0 0, .slice none 0 0, .slice none 0 0, .int .i64 5, .int .i64 0, .int .i64 0, .string { data := #[10, 10, 10] }, .slice none 0 0, .slice none 0 0, .slice none 0 0, .int .i64 5, .int .i64 0, .int .i64 0, .string { data := #[64] }, .slice none 0 0, .slice none 0 0, .slice none 0 0] 67)).alloc (.cells #[.int .i64 7, .int .i64 0, .int .i64 0, .string { data := #[] }, .slice (some ⟨w4.heap.size + 1 + 1, 0, none⟩) 6 6, .slice (some ⟨w4.heap.size + 1, 0, none⟩) 6 6, .slice none 0 0] 67)).alloc (.cells #[.int .i64 7, .int .i64 0, .int .i64 0, .string { data := #[] }, .slice (some ⟨w4.heap.size + 1 + 1, 0, none⟩) 6 6, .slice (some ⟨w4.heap.size + 1, 0, none⟩) 6 6, .slice none 0 0] 67)) := ((((Below.refl _ _).alloc (Nat.le_refl _) _).alloc (by simp) _).alloc (by simp; omega) _).alloc (by simp; omega) _ |>.alloc (by simp; omega) _
  have z1 : (((((w4.alloc (.cells #[.slice oa 1 oc, .int .i64 1] 31)).alloc (.cells #[.string { data := #[65] }, .string { data := #[66] }, .string { data := #[67] }, .string { data := #[68] }, .string { data := #[69] }, .string { data := #[70] }] 9)).alloc (.cells #[.int .i64 5, .int .i64 0, .int .i64 0, .string (strN xs), .slice none 0 0, .slice none 0 0, .slice none 0 0, .int .i64 5, .int .i64 0, .int .i64 0, .string (strN xs), .slice none 0 0, .slice none 0 0, .slice none 0 0, .int .i64 4, .int .i64 0, .int .i64 0, .string (strN (List.map Prod.fst cs)), .slice none 0 0, .slice none 0 0, .slice none 0 0, .int .i64 5, .int .i64 0, .int .i64 0, .string { data := #[40, 41, 40, 97, 40, 98, 41, 41, 40, 41] }, .slice none 0 0, .slice none 0 0, .slice none 0 0, .int .i64 5, .int .i64 0, .int .i64 0, .string { data := #[10, 10, 10] }, .slice none 0 0, .slice none 0 0, .slice none 0 0, .int .i64 5, .int .i64 0, .int .i64 0, .string { data := #[64] }, .slice none 0 0, .slice none 0 0, .slice none 0 0] 67)).alloc (.cells #[.int .i64 7, .int .i64 0, .int .i64 0, .string { data := #[] }, .slice (some ⟨w4.heap.size + 1 + 1, 0, none⟩) 6 6, .slice (some ⟨w4.heap.size + 1, 0, none⟩) 6 6, .slice none 0 0] 67)).alloc (.cells #[.int .i64 7, .int .i64 0, .int .i64 0, .string { data := #[] }, .slice (some ⟨w4.heap.size + 1 + 1, 0, none⟩) 6 6, .slice (some ⟨w4.heap.size + 1, 0, none⟩) 6 6, .slice none 0 0] 67)).heap[w4.heap.size + 1]? = some (.cells #[.string { data := #[65] }, .string { data := #[66] }, .string { data := #[67] }, .string { data := #[68] }, .string { data := #[69] }, .string { data := #[70] }] 9 (0, 0)) := by
    refine blk_alloc _ (blk_alloc _ (blk_alloc _ ?_))
    have := blk_new (w4.alloc (.cells #[.slice oa 1 oc, .int .i64 1] 31)) (.cells #[.string { data := #[65] }, .string { data := #[66] }, .string { data := #[67] }, .string { data := #[68] }, .string { data := #[69] }, .string { data := #[70] }] 9)
    rw [World.size_alloc] at this
    exact this
  have z2 : (((((w4.alloc (.cells #[.slice oa 1 oc, .int .i64 1] 31)).alloc (.cells #[.string { data := #[65] }, .string { data := #[66] }, .string { data := #[67] }, .string { data := #[68] }, .string { data := #[69] }, .string { data := #[70] }] 9)).alloc (.cells #[.int .i64 5, .int .i64 0, .int .i64 0, .string (strN xs), .slice none 0 0, .slice none 0 0, .slice none 0 0, .int .i64 5, .int .i64 0, .int .i64 0, .string (strN xs), .slice none 0 0, .slice none 0 0, .slice none 0 0, .int .i64 4, .int .i64 0, .int .i64 0, .string (strN (List.map Prod.fst cs)), .slice none 0 0, .slice none 0 0, .slice none 0 0, .int .i64 5, .int .i64 0, .int .i64 0, .string { data := #[40, 41, 40, 97, 40, 98, 41, 41, 40, 41] }, .slice none 0 0, .slice none 0 0, .slice none 0 0, .int .i64 5, .int .i64 0, .int .i64 0, .string { data := #[10, 10, 10] }, .slice none 0 0, .slice none 0 0, .slice none 0 0, .int .i64 5, .int .i64 0, .int .i64 0, .string { data := #[64] }, .slice none 0 0, .slice none 0 0, .slice none 0 0] 67)).alloc (.cells #[.int .i64 7, .int .i64 0, .int .i64 0, .string { data := #[] }, .slice (some ⟨w4.heap.size + 1 + 1, 0, none⟩) 6 6, .slice (some ⟨w4.heap.size + 1, 0, none⟩) 6 6, .slice none 0 0] 67)).alloc (.cells #[.int .i64 7, .int .i64 0, .int .i64 0, .string { data := #[] }, .slice (some ⟨w4.heap.size + 1 + 1, 0, none⟩) 6 6, .slice (some ⟨w4.heap.size + 1, 0, none⟩) 6 6, .slice none 0 0] 67)).heap[w4.heap.size + 1 + 1]? = some (.cells #[.int .i64 5, .int .i64 0, .int .i64 0, .string (strN xs), .slice none 0 0, .slice none 0 0, .slice none 0 0, .int .i64 5, .int .i64 0, .int .i64 0, .string (strN xs), .slice none 0 0, .slice none 0 0, .slice none 0 0, .int .i64 4, .int .i64 0, .int .i64 0, .string (strN (List.map Prod.fst cs)), .slice none 0 0, .slice none 0 0, .slice none 0 0, .int .i64 5, .int .i64 0, .int .i64 0, .string { data := #[40, 41, 40, 97, 40, 98, 41, 41, 40, 41] }, .slice none 0 0, .slice none 0 0, .slice none 0 0, .int .i64 5, .int .i64 0, .int .i64 0, .string { data := #[10, 10, 10] }, .slice none 0 0, .slice none 0 0, .slice none 0 0, .int .i64 5, .int .i64 0, .int .i64 0, .string { data := #[64] }, .slice none 0 0, .slice none 0 0, .slice none 0 0] 67 (0, 0)) := by
    refine blk_alloc _ (blk_alloc _ ?_)
    have := blk_new ((w4.alloc (.cells #[.slice oa 1 oc, .int .i64 1] 31)).alloc (.cells #[.string { data := #[65] }, .string { data := #[66] }, .string { data := #[67] }, .string { data := #[68] }, .string { data := #[69] }, .string { data := #[70] }] 9)) (.cells #[.int .i64 5, .int .i64 0, .int .i64 0, .string (strN xs), .slice none 0 0, .slice none 0 0, .slice none 0 0, .int .i64 5, .int .i64 0, .int .i64 0, .string (strN xs), .slice none 0 0, .slice none 0 0, .slice none 0 0, .int .i64 4, .int .i64 0, .int .i64 0, .string (strN (List.map Prod.fst cs)), .slice none 0 0, .slice none 0 0, .slice none 0 0, .int .i64 5, .int .i64 0, .int .i64 0, .string { data := #[40, 41, 40, 97, 40, 98, 41, 41, 40, 41] }, .slice none 0 0, .slice none 0 0, .slice none 0 0, .int .i64 5, .int .i64 0, .int .i64 0, .string { data := #[10, 10, 10] }, .slice none 0 0, .slice none 0 0, .slice none 0 0, .int .i64 5, .int .i64 0, .int .i64 0, .string { data := #[64] }, .slice none 0 0, .slice none 0 0, .slice none 0 0] 67)
    rw [World.size_alloc, World.size_alloc] at this
    exact this
  have z4 : (((((w4.alloc (.cells #[.slice oa 1 oc, .int .i64 1] 31)).alloc (.cells #[.string { data := #[65] }, .string { data := #[66] }, .string { data := #[67] }, .string { data := #[68] }, .string { data := #[69] }, .string { data := #[70] }] 9)).alloc (.cells #[.int .i64 5, .int .i64 0, .int .i64 0, .string (strN xs), .slice none 0 0, .slice none 0 0, .slice none 0 0, .int .i64 5, .int .i64 0, .int .i64 0, .string (strN xs), .slice none 0 0, .slice none 0 0, .slice none 0 0, .int .i64 4, .int .i64 0, .int .i64 0, .string (strN (List.map Prod.fst cs)), .slice none 0 0, .slice none 0 0, .slice none 0 0, .int .i64 5, .int .i64 0, .int .i64 0, .string { data := #[40, 41, 40, 97, 40, 98, 41, 41, 40, 41] }, .slice none 0 0, .slice none 0 0, .slice none 0 0, .int .i64 5, .int .i64 0, .int .i64 0, .string { data := #[10, 10, 10] }, .slice none 0 0, .slice none 0 0, .slice none 0 0, .int .i64 5, .int .i64 0, .int .i64 0, .string { data := #[64] }, .slice none 0 0, .slice none 0 0, .slice none 0 0] 67)).alloc (.cells #[.int .i64 7, .int .i64 0, .int .i64 0, .string { data := #[] }, .slice (some ⟨w4.heap.size + 1 + 1, 0, none⟩) 6 6, .slice (some ⟨w4.heap.size + 1, 0, none⟩) 6 6, .slice none 0 0] 67)).alloc (.cells #[.int .i64 7, .int .i64 0, .int .i64 0, .string { data := #[] }, .slice (some ⟨w4.heap.size + 1 + 1, 0, none⟩) 6 6, .slice (some ⟨w4.heap.size + 1, 0, none⟩) 6 6, .slice none 0 0] 67)).heap[w4.heap.size + 1 + 1 + 1 + 1]? = some (.cells #[.int .i64 7, .int .i64 0, .int .i64 0, .string { data := #[] }, .slice (some ⟨w4.heap.size + 1 + 1, 0, none⟩) 6 6, .slice (some ⟨w4.heap.size + 1, 0, none⟩) 6 6, .slice none 0 0] 67 (0, 0)) := by
    have := blk_new ((((w4.alloc (.cells #[.slice oa 1 oc, .int .i64 1] 31)).alloc (.cells #[.string { data := #[65] }, .string { data := #[66] }, .string { data := #[67] }, .string { data := #[68] }, .string { data := #[69] }, .string { data := #[70] }] 9)).alloc (.cells #[.int .i64 5, .int .i64 0, .int .i64 0, .string (strN xs), .slice none 0 0, .slice none 0 0, .slice none 0 0, .int .i64 5, .int .i64 0, .int .i64 0, .string (strN xs), .slice none 0 0, .slice none 0 0, .slice none 0 0, .int .i64 4, .int .i64 0, .int .i64 0, .string (strN (List.map Prod.fst cs)), .slice none 0 0, .slice none 0 0, .slice none 0 0, .int .i64 5, .int .i64 0, .int .i64 0, .string { data := #[40, 41, 40, 97, 40, 98, 41, 41, 40, 41] }, .slice none 0 0, .slice none 0 0, .slice none 0 0, .int .i64 5, .int .i64 0, .int .i64 0, .string { data := #[10, 10, 10] }, .slice none 0 0, .slice none 0 0, .slice none 0 0, .int .i64 5, .int .i64 0, .int .i64 0, .string { data := #[64] }, .slice none 0 0, .slice none 0 0, .slice none 0 0] 67)).alloc (.cells #[.int .i64 7, .int .i64 0, .int .i64 0, .string { data := #[] }, .slice (some ⟨w4.heap.size + 1 + 1, 0, none⟩) 6 6, .slice (some ⟨w4.heap.size + 1, 0, none⟩) 6 6, .slice none 0 0] 67)) (.cells #[.int .i64 7, .int .i64 0, .int .i64 0, .string { data := #[] }, .slice (some ⟨w4.heap.size + 1 + 1, 0, none⟩) 6 6, .slice (some ⟨w4.heap.size + 1, 0, none⟩) 6 6, .slice none 0 0] 67)
    rw [World.size_alloc, World.size_alloc, World.size_alloc, World.size_alloc] at this
    exact this
  generalize (((((w4.alloc (.cells #[.slice oa 1 oc, .int .i64 1] 31)).alloc (.cells #[.string { data := #[65] }, .string { data := #[66] }, .string { data := #[67] }, .string { data := #[68] }, .string { data := #[69] }, .string { data := #[70] }] 9)).alloc (.cells #[.int .i64 5, .int .i64 0, .int .i64 0, .string (strN xs), .slice none 0 0, .slice none 0 0, .slice none 0 0, .int .i64 5, .int .i64 0, .int .i64 0, .string (strN xs), .slice none 0 0, .slice none 0 0, .slice none 0 0, .int .i64 4, .int .i64 0, .int .i64 0, .string (strN (List.map Prod.fst cs)), .slice none 0 0, .slice none 0 0, .slice none 0 0, .int .i64 5, .int .i64 0, .int .i64 0, .string { data := #[40, 41, 40, 97, 40, 98, 41, 41, 40, 41] }, .slice none 0 0, .slice none 0 0, .slice none 0 0, .int .i64 5, .int .i64 0, .int .i64 0, .string { data := #[10, 10, 10] }, .slice none 0 0, .slice none 0 0, .slice none 0 0, .int .i64 5, .int .i64 0, .int .i64 0, .string { data := #[64] }, .slice none 0 0, .slice none 0 0, .slice none 0 0] 67)).alloc (.cells #[.int .i64 7, .int .i64 0, .int .i64 0, .string { data := #[] }, .slice (some ⟨w4.heap.size + 1 + 1, 0, none⟩) 6 6, .slice (some ⟨w4.heap.size + 1, 0, none⟩) 6 6, .slice none 0 0] 67)).alloc (.cells #[.int .i64 7, .int .i64 0, .int .i64 0, .string { data := #[] }, .slice (some ⟨w4.heap.size + 1 + 1, 0, none⟩) 6 6, .slice (some ⟨w4.heap.size + 1, 0, none⟩) 6 6, .slice none 0 0] 67)) = wz at bz z1 z2 z4 ⊢
  have hwant : Vals (fun _ => True) 12 0 [V] wz (.slice (some ⟨w4.heap.size + 1 + 1 + 1 + 1, 0, none⟩) 1 1) := by
    rw [HVE.out]
    refine lit_vals (xs := [nodeVal (Fo.waysV zs cs) (.slice (some ⟨w4.heap.size + 1 + 1, 0, none⟩) 6 6) (.slice (some ⟨w4.heap.size + 1, 0, none⟩) 6 6) (.slice none 0 0)]) z4 (by decide) (by decide) rfl rfl rfl ⟨?_, trivial⟩
    refine lit_in (vs := [.agg #[.int .i64 5, .int .i64 0, .int .i64 0, .string (strN xs), .slice none 0 0, .slice none 0 0, .slice none 0 0], .agg #[.int .i64 5, .int .i64 0, .int .i64 0, .string (strN xs), .slice none 0 0, .slice none 0 0, .slice none 0 0], .agg #[.int .i64 4, .int .i64 0, .int .i64 0, .string (strN (List.map Prod.fst cs)), .slice none 0 0, .slice none 0 0, .slice none 0 0], .agg #[.int .i64 5, .int .i64 0, .int .i64 0, .string { data := #[40, 41, 40, 97, 40, 98, 41, 41, 40, 41] }, .slice none 0 0, .slice none 0 0, .slice none 0 0], .agg #[.int .i64 5, .int .i64 0, .int .i64 0, .string { data := #[10, 10, 10] }, .slice none 0 0, .slice none 0 0, .slice none 0 0], .agg #[.int .i64 5, .int .i64 0, .int .i64 0, .string { data := #[64] }, .slice none 0 0, .slice none 0 0, .slice none 0 0]]) rfl (lit_row z2 (by decide) (by decide) rfl rfl) ?_ (lit_row z1 (by decide) (by decide) rfl rfl) (World.ownsRow_nil _ _ _ _)
    rw [← HXZ.out]
    exact ⟨VIn.leaf 10 5 0 0 _, VIn.leaf 10 5 0 0 _, VIn.leaf 10 4 0 0 _, VIn.leaf 10 5 0 0 [40, 41, 40, 97, 40, 98, 41, 41, 40, 41], VIn.leaf 10 5 0 0 [10, 10, 10], VIn.leaf 10 5 0 0 [64], trivial⟩
  have HAL := hide (alike_yes (root := 1) (HV.out.keep bz) hwant (fun y hy => by
    rcases List.mem_cons.1 hy with rfl | hy
    · rw [HVE.out]; exact ways_keys zs cs
    · cases hy))
  have HBZ : Hid (Below w0.heap.size w0 wz) := (HB0.out.trans (HB4.out.mono HB0.out.size)).trans (bz.mono (Nat.le_trans HB0.out.size HB4.out.size))
  clear bz z1 z2 z4 hwant hcd hcn HX4 b5 hx4
  refine HAL.out.mono ?_
  rintro e w9 ⟨rfl, b9⟩
  have HB9 : Hid (Below w0.heap.size w0 w9) := HBZ.out.trans (b9.mono HBZ.out.size)
  clear b9
  go_wp2
  go_ret
  exact ⟨rfl, HB9.out⟩
end Go.Proofs.YtgkljcmjnphpeaaGreatDoor
namespace Go.Proofs.YtgkljcmjnphpeaaGreatDoor
open Go.RowKit
theorem ret_intP {k : IntKind} {a b : Int} (h : a = b) : Ending.returned (.int k a) = .returned (.int k b) := by rw [h]
theorem pick_ok (c : Int) (h1 : -9223372036854775808 ≤ c) (h2 : c ≤ 9223372036854775807) (n : Nat) (hn : 0 < n) (hn2 : n ≤ 1000000) (w : World) : Calls Tryz.prog 27 #[.int .i64 c, .int .i64 n] w fun e w' => ∃ r : Nat, r < n ∧ e = .returned (.int .i64 r) ∧ w' = w := by
  have key : ∀ a : Int, 0 ≤ a → a ≤ 9223372036854775807 → ∃ r : Nat, r < n ∧ Int.tmod a n = r ∧ a % n = r := by
    intro a ha hb
    obtain ⟨m, rfl⟩ := Int.eq_ofNat_of_zero_le ha
    refine ⟨m % n, Nat.mod_lt _ hn, ?_, ?_⟩
    · rw [Int.tmod_eq_emod_of_nonneg (by omega)]; rfl
    · rfl
  by_cases hc : c < 0
  · obtain ⟨r, r1, r2, r3⟩ := key (-(c + 1)) (by omega) (by omega)
    have R := hide r2
    have R3 := hide r3
    clear key r2 r3
    go_enter Tryz.func27, Tryz.ntmps27
    go_wp2
    go_ret
    have e := R.out
    rw [Int.neg_tmod] at e
    exact ⟨r, r1, ret_intP e, rfl⟩
  · obtain ⟨r, r1, r2, r3⟩ := key c (by omega) (by omega)
    have R := hide r2
    have R3 := hide r3
    clear key r2 r3
    go_enter Tryz.func27, Tryz.ntmps27
    go_wp2
    go_ret
    exact ⟨r, r1, ret_intP R3.out, rfl⟩
end Go.Proofs.YtgkljcmjnphpeaaGreatDoor
namespace Go.Proofs.YtgkljcmjnphpeaaGreatDoor
open Go.RowKit
/-- An inflater in memory: its block bf, its reader; the bits that are left of the byte that was begun. -/
structure Bi (B br bf bd off cap : Nat) (d : List Nat) (most : Nat) (fixed : List Value) (w : World) (p held left window : Nat) (ov : Value) (out : List Nat) : Prop where
  rd : Rd B br bd off cap d most w p ov out
  hbf : B ≤ bf
  blk : w.heap[bf]? = some (.cells (Value.pointer (some ⟨br, 0, none⟩) :: .int .u8 held :: .int .i64 left :: .int .i64 window :: fixed).toArray 167 (0, 0))
  hh : held < 256
  hl : left ≤ 8
variable {B br bf bd off cap : Nat} {d : List Nat} {most : Nat} {fixed : List Value} {w : World} {p held left window : Nat} {ov : Value} {out : List Nat}
/-- The bits that are still to be read. -/
def bitsLeft (d : List Nat) (p held left : Nat) : List Bool := Fo.numBits left held ++ Fo.bitsOf (d.drop p)
theorem Bi.c0 (h : Bi B br bf bd off cap d most fixed w p held left window ov out) : w.cell? ⟨bf, 0, none⟩ = some (.pointer (some ⟨br, 0, none⟩)) := by rw [cell_blk h.blk]; simp
theorem Bi.c1 (h : Bi B br bf bd off cap d most fixed w p held left window ov out) : w.cell? ⟨bf, 1, none⟩ = some (.int .u8 held) := by rw [cell_blk h.blk]; simp
theorem Bi.c2 (h : Bi B br bf bd off cap d most fixed w p held left window ov out) : w.cell? ⟨bf, 2, none⟩ = some (.int .i64 left) := by rw [cell_blk h.blk]; simp
theorem Bi.c3 (h : Bi B br bf bd off cap d most fixed w p held left window ov out) : w.cell? ⟨bf, 3, none⟩ = some (.int .i64 window) := by rw [cell_blk h.blk]; simp
theorem Bi.fz (h : Bi B br bf bd off cap d most fixed w p held left window ov out) (i : Nat) : w.frozen? ⟨bf, i, none⟩ = false := free_blk h.blk
theorem Bi.ne (h : Bi B br bf bd off cap d most fixed w p held left window ov out) : bf ≠ br := by
  intro e; have h1 := h.blk; rw [e, h.rd.blk] at h1; simp at h1
theorem Bi.drewN (h : Bi B br bf bd off cap d most fixed w p held left window ov out) (n : Nat) : Bi B br bf bd off cap d most fixed (w.drewN n) p held left window ov out := ⟨h.rd.drewN n, h.hbf, h.blk, h.hh, h.hl⟩
theorem Rd.setOther {w : World} {p : Nat} {ov : Value} {out : List Nat} (h : Rd B br bd off cap d most w p ov out) {a : Addr} (v : Value) (h1 : B ≤ a.block) (h2 : a.block ≠ br) (h3 : ov.ownBlock ≠ some a.block) : Rd B br bd off cap d most (w.setCell a v) p ov out := by
  have hB := h.hB
  refine ⟨h.hB, h.hb, ?_, ?_, ?_, h.byt, h.cp, h.lc, h.lm, h.lo, h.lp⟩
  · rw [Below.heap_setCell _ _ _ _ (fun e => h2 e.symm)]; exact h.blk
  · intro i hi; rw [cell_ne _ (by show a.block ≠ bd; omega)]; exact h.dat i hi
  · exact ownsRow_setCell_other h.own h3 _
theorem Bi.own_ne (h : Bi B br bf bd off cap d most fixed w p held left window ov out) : ov.ownBlock ≠ some bf := Go.own_ne h.rd.own h.blk (by decide)
theorem Bi.set1 (h : Bi B br bf bd off cap d most fixed w p held left window ov out) (x : Nat) (hx : x < 256) : Bi B br bf bd off cap d most fixed (w.setCell ⟨bf, 1, none⟩ (.int .u8 x)) p x left window ov out := by
  refine ⟨h.rd.setOther _ h.hbf h.ne h.own_ne, h.hbf, ?_, hx, h.hl⟩
  rw [blk_setCell _ h.blk]; simp
/-- An inflater in memory with these bits still to be read. -/
def Fl (B br bf bd off cap : Nat) (d : List Nat) (most : Nat) (fixed : List Value) (w : World) (rest : List Bool) (window : Nat) (ov : Value) (out : List Nat) : Prop :=
  ∃ p held left, Bi B br bf bd off cap d most fixed w p held left window ov out ∧ left < 8 ∧ bitsLeft d p held left = rest
theorem Fl.drewN {rest : List Bool} (h : Fl B br bf bd off cap d most fixed w rest window ov out) (n : Nat) : Fl B br bf bd off cap d most fixed (w.drewN n) rest window ov out := by
  obtain ⟨p, held, left, hb, hl, hr⟩ := h
  exact ⟨p, held, left, hb.drewN n, hl, hr⟩
theorem Fl.alloc {rest : List Bool} (h : Fl B br bf bd off cap d most fixed w rest window ov out) (o : Obj) : Fl B br bf bd off cap d most fixed (w.alloc o) rest window ov out := by
  obtain ⟨p, held, left, hb, hl, hr⟩ := h
  exact ⟨p, held, left, ⟨hb.rd.alloc o, hb.hbf, blk_alloc _ hb.blk, hb.hh, hb.hl⟩, hl, hr⟩
theorem Fl.lt {rest : List Bool} (h : Fl B br bf bd off cap d most fixed w rest window ov out) : B ≤ br ∧ B ≤ bf ∧ br < w.heap.size ∧ bf < w.heap.size := by
  obtain ⟨p, held, left, hb, hl, hr⟩ := h
  exact ⟨hb.rd.hb, hb.hbf, lt_of_block hb.rd.blk, lt_of_block hb.blk⟩
theorem Fl.drew {rest : List Bool} (h : Fl B br bf bd off cap d most fixed w rest window ov out) : Fl B br bf bd off cap d most fixed w.drew rest window ov out := h.drewN 1
end Go.Proofs.YtgkljcmjnphpeaaGreatDoor
namespace Go.Proofs.YtgkljcmjnphpeaaGreatDoor
open Go.RowKit
variable {B br bf bd off cap : Nat} {d : List Nat} {most : Nat} {fixed : List Value} {w : World} {p held left window : Nat} {ov : Value} {out : List Nat}
/-- Codes in memory: how many there are of each length; the symbols in the order of their codes. -/
def Cd (w : World) (bc oc : Nat) (cs ss : List Nat) : Prop :=
  (∀ i, i < 16 → w.cell? ⟨bc, oc + i, none⟩ = some (.int .i64 (nth cs i : Nat))) ∧
  ∃ g c, w.cell? ⟨bc, oc + 16, none⟩ = some (.slice (some ⟨g, 0, none⟩) ss.length c) ∧ ∀ i, i < ss.length → w.cell? ⟨g, i, none⟩ = some (.int .i64 (nth ss i : Nat))
def psum (cs : List Nat) : Nat → Nat
  | 0 => 0
  | k + 1 => psum cs k + nth cs (k + 1)
end Go.Proofs.YtgkljcmjnphpeaaGreatDoor
namespace Go.Proofs.YtgkljcmjnphpeaaGreatDoor
open Go.RowKit
variable {B br bf bd off cap : Nat} {d : List Nat} {most : Nat} {fixed : List Value} {w : World} {p held left window : Nat} {ov : Value} {out : List Nat}
theorem ret_int {k : IntKind} {a b : Int} (h : a = b) : Ending.returned (.int k a) = .returned (.int k b) := by rw [h]
end Go.Proofs.YtgkljcmjnphpeaaGreatDoor
namespace Go.Proofs.YtgkljcmjnphpeaaGreatDoor
open Go.RowKit
variable {B br bf bd off cap : Nat} {d : List Nat} {most : Nat} {fixed : List Value} {w : World} {p held left window : Nat} {ov : Value} {out : List Nat}
theorem Bi.alloc (h : Bi B br bf bd off cap d most fixed w p held left window ov out) (o : Obj) : Bi B br bf bd off cap d most fixed (w.alloc o) p held left window ov out := ⟨h.rd.alloc o, h.hbf, blk_alloc _ h.blk, h.hh, h.hl⟩
theorem Bi.q0 (h : Bi B br bf bd off cap d most fixed w p held left window ov out) {w1 : World} (hg : w.grownBy w1 ov.ownBlock) : w1.cell? ⟨bf, 0, none⟩ = some (.pointer (some ⟨br, 0, none⟩)) :=
  hg.cell h.c0 (fun c => h.own_ne c.symm)
/-- What the operations of the round read, till append has come up. -/
def Sag (bf br g idx : Nat) (ptr old x : Value) (L : Array Bool) (W : World) : Prop :=
  W.cell? ⟨bf, 0, none⟩ = some ptr ∧ (L.getD 35 false = false → W.cell? ⟨br, 2, none⟩ = some old ∧ W.cell? ⟨g, idx, none⟩ = some x)
theorem Sag.s1 {bf br g idx : Nat} {ptr old x : Value} {L : Array Bool} {W : World} {i : Nat} (hi : i ≠ 35) (h : Sag bf br g idx ptr old x L W) : Sag bf br g idx ptr old x (L.setIfInBounds i true) W :=
  ⟨h.1, fun hl => h.2 (by rwa [getD_set_ne false hi] at hl)⟩
theorem Sag.s2 {bf br g idx : Nat} {ptr old x : Value} {L : Array Bool} {W : World} {i : Nat} (hi : i ≠ 35) (h : Sag bf br g idx ptr old x (L.setIfInBounds i true) W) : Sag bf br g idx ptr old x L W :=
  ⟨h.1, fun hl => h.2 (by rwa [getD_set_ne false hi])⟩
end Go.Proofs.YtgkljcmjnphpeaaGreatDoor
namespace Go.Proofs.YtgkljcmjnphpeaaGreatDoor
open Go.RowKit
variable {B br bf bd off cap : Nat} {d : List Nat} {most : Nat} {fixed : List Value} {w : World} {p held left window : Nat} {ov : Value} {out : List Nat}
/-- The codes that a block goes by stand where bc, oc says, whatever the reading of it does. -/
def Codes4 (B br bf bd off cap : Nat) (d : List Nat) (most : Nat) (fixed : List Value) (window : Nat) (bc oc : Nat) (c : Fo.Codes) (w : World) : Prop :=
  ∀ w' r ov out, Fl B br bf bd off cap d most fixed w' r window ov out → Kept 5 B [br, bf] w w' → Cd w' bc oc c.cs c.ss ∧ Cd w' bc (oc + 17) c.cd c.sd
theorem Codes4.kept {bc oc : Nat} {c : Fo.Codes} {w' : World} (h : Codes4 B br bf bd off cap d most fixed window bc oc c w) (k : Kept 5 B [br, bf] w w') : Codes4 B br bf bd off cap d most fixed window bc oc c w' :=
  fun w'' r ov out hf kk => h w'' r ov out hf (k.trans kk)
structure CodesOk (c : Fo.Codes) : Prop where
  s1 : psum c.cs 15 ≤ c.ss.length
  l1 : c.ss.length ≤ 1000
  s2 : psum c.cd 15 ≤ c.sd.length
  l2 : c.sd.length ≤ 1000
end Go.Proofs.YtgkljcmjnphpeaaGreatDoor
namespace Go.Proofs.YtgkljcmjnphpeaaGreatDoor
open Go.RowKit
variable {B br bf bd off cap : Nat} {d : List Nat} {most : Nat} {fixed : List Value} {w : World} {p held left window : Nat} {ov : Value} {out : List Nat}
/-- How many bits an inflater has still to read: what goes down from part to part. -/
def bitsOf' (br bf : Nat) (n : Nat) (w : World) : Nat := 8 * (n - posOf br w) + (intOf ((w.cell? ⟨bf, 2, none⟩).getD undef)).toNat
theorem Fl.measure {rest : List Bool} (h : Fl B br bf bd off cap d most fixed w rest window ov out) : bitsOf' br bf d.length w = rest.length := by
  obtain ⟨p, held, left, hb, hl, hr⟩ := h
  have := hb.rd.lp
  rw [← hr, bitsLeft, List.length_append, Fo.numBits_length, Fo.bitsOf_length, List.length_drop, bitsOf', hb.rd.posOf, hb.c2]
  simp [intOf]; omega
end Go.Proofs.YtgkljcmjnphpeaaGreatDoor
namespace Go.Proofs.YtgkljcmjnphpeaaGreatDoor
open Go.RowKit
variable {B br bf bd off cap : Nat} {d : List Nat} {most : Nat} {fixed : List Value} {w : World} {p held left window : Nat} {ov : Value} {out : List Nat}
theorem bits8_inj (a b : Nat) (ha : a < 256) (hb : b < 256) (h : Fo.bits8 a = Fo.bits8 b) : a = b := by
  rw [← Fo.val_bits8 a ha, ← Fo.val_bits8 b hb, h]
theorem bitsOf_inj : ∀ (a b : List Nat), a.length = b.length → (∀ i, i < a.length → nth a i < 256) → (∀ i, i < b.length → nth b i < 256) → Fo.bitsOf a = Fo.bitsOf b → a = b
  | [], [], _, _, _, _ => rfl
  | [], _ :: _, h, _, _, _ => by simp at h
  | _ :: _, [], h, _, _, _ => by simp at h
  | x :: a, y :: b, hl, h1, h2, h => by
    rw [Fo.bitsOf_cons, Fo.bitsOf_cons] at h
    have h3 := List.append_inj h rfl
    have e1 : x = y := bits8_inj x y (h1 0 (by simp)) (h2 0 (by simp)) h3.1
    have e2 : a = b := bitsOf_inj a b (by simpa using hl) (fun i hi => h1 (i + 1) (by simpa using hi)) (fun i hi => h2 (i + 1) (by simpa using hi)) h3.2
    rw [e1, e2]
theorem addr_add2 (b o i : Nat) : (⟨b, o, none⟩ : Addr).add i = ⟨b, o + i, none⟩ := by unfold Addr.add; split <;> simp_all
/-- At whole bytes, bytes D ahead: they are the data's. -/
theorem Bi.bytes (h : Bi B br bf bd off cap d most fixed w p held 0 window ov out) (D : List Nat) (hD : ∀ i, i < D.length → nth D i < 256) (rest : List Bool) (hr : Fo.bitsOf (d.drop p) = Fo.bitsOf D ++ rest) :
    p + D.length ≤ d.length ∧ (∀ i, i < D.length → nth d (p + i) = nth D i) ∧ Fo.bitsOf (d.drop (p + D.length)) = rest := by
  have hp := h.rd.lp
  have hl : p + D.length ≤ d.length := by
    have := congrArg List.length hr
    rw [Fo.bitsOf_length, List.length_append, Fo.bitsOf_length, List.length_drop] at this
    omega
  have e : d.drop p = (d.drop p).take D.length ++ d.drop (p + D.length) := by
    rw [← List.drop_drop, List.take_append_drop]
  rw [e, Fo.bitsOf_append] at hr
  have hlen : (Fo.bitsOf ((d.drop p).take D.length)).length = (Fo.bitsOf D).length := by
    rw [Fo.bitsOf_length, Fo.bitsOf_length, List.length_take, List.length_drop]; omega
  have h2 := List.append_inj hr hlen
  have e3 : (d.drop p).take D.length = D := by
    refine bitsOf_inj _ _ (by rw [List.length_take, List.length_drop]; omega) ?_ hD h2.1
    intro i hi
    rw [List.length_take, List.length_drop] at hi
    have := h.rd.byt (p + i) (by omega)
    simpa [nth, List.getElem?_take, List.getElem?_drop, show i < D.length by omega] using this
  refine ⟨hl, ?_, h2.2⟩
  intro i hi
  rw [← e3]
  simp [nth, List.getElem?_take, List.getElem?_drop, hi]
theorem Fl.whole {rest : List Bool} (h : Fl B br bf bd off cap d most fixed w rest window ov out) (h8 : rest.length % 8 = 0) : ∃ p held, Bi B br bf bd off cap d most fixed w p held 0 window ov out ∧ Fo.bitsOf (d.drop p) = rest := by
  obtain ⟨p, held, left, hb, hl, hr⟩ := h
  have : left = 0 := by
    rw [← hr, bitsLeft, List.length_append, Fo.numBits_length, Fo.bitsOf_length] at h8; omega
  subst this
  exact ⟨p, held, hb, by rw [← hr]; simp [bitsLeft, Fo.numBits]⟩
end Go.Proofs.YtgkljcmjnphpeaaGreatDoor
namespace Go.Proofs.YtgkljcmjnphpeaaGreatDoor
open Go.RowKit
variable {B br bf bd off cap : Nat} {d : List Nat} {most : Nat} {fixed : List Value} {w : World} {p held left window : Nat} {ov : Value} {out : List Nat}
def ints (l : List Nat) : List Value := l.map fun x : Nat => .int .i64 (x : Int)
/-- A row of ints in memory. -/
def IntRow (w : World) (g : Nat) (l : List Nat) : Prop := ∃ c fz, w.heap[g]? = some (.cells c 3 fz) ∧ ∀ i, i < l.length → c[i]? = some (.int .i64 (nth l i : Nat))
theorem IntRow.kept {g : Nat} {l : List Nat} {w' : World} {S : List Nat} (h : IntRow w g l) (k : Kept 5 B S w w') (hS : g ∉ S) : IntRow w' g l := by
  obtain ⟨c, fz, hb, hc⟩ := h
  exact ⟨c, fz, k.block g _ hS hb (Or.inr (by intro c' fz' e; simp at e)), hc⟩
theorem IntRow.cell {g : Nat} {l : List Nat} (h : IntRow w g l) (i : Nat) (hi : i < l.length) : w.cell? ⟨g, i, none⟩ = some (.int .i64 (nth l i : Nat)) := by
  obtain ⟨c, fz, hb, hc⟩ := h
  rw [cell_blk hb]; exact hc i hi
/-- The fixed codes as an inflater holds them. -/
structure Fix (w : World) (br bf : Nat) (fixed : List Value) : Prop where
  ex : ∃ g1 c1 g2 c2, fixed = ints Fo.csF ++ (.slice (some ⟨g1, 0, none⟩) Fo.ssF.length c1 :: (ints Fo.cdF ++ [.slice (some ⟨g2, 0, none⟩) Fo.sdF.length c2])) ∧ IntRow w g1 Fo.ssF ∧ IntRow w g2 Fo.sdF ∧ g1 ≠ br ∧ g1 ≠ bf ∧ g2 ≠ br ∧ g2 ≠ bf
theorem csF_len : Fo.csF.length = 16 := by decide +kernel
theorem cdF_len : Fo.cdF.length = 16 := by decide +kernel
theorem ints_get (l : List Nat) (i : Nat) (h : i < l.length) : (ints l)[i]? = some (.int .i64 (nth l i : Nat)) := by
  simp [ints, nth, h]
theorem Fix.codes (h : Fix w br bf fixed) : Codes4 B br bf bd off cap d most fixed window bf 4 Fo.fixedC w := by
  intro w' r ov out hf k
  obtain ⟨g1, c1, g2, c2, he, i1, i2, n1, n2, n3, n4⟩ := h.ex
  obtain ⟨p, held, left, hb, hl, hr⟩ := hf
  have j1 := i1.kept k (by simp [n1, n2])
  have j2 := i2.kept k (by simp [n3, n4])
  have hcell : ∀ i v, fixed[i]? = some v → w'.cell? ⟨bf, 4 + i, none⟩ = some v := by
    intro i v hv
    rw [cell_blk hb.blk, Nat.add_comm 4 i]
    simpa using hv
  have l1 := csF_len
  have l2 := cdF_len
  have li1 : (ints Fo.csF).length = 16 := by simpa [ints] using l1
  have li2 : (ints Fo.cdF).length = 16 := by simpa [ints] using l2
  rw [Fo.fixedC_cs, Fo.fixedC_ss, Fo.fixedC_cd, Fo.fixedC_sd]
  generalize Fo.csF = CS at *
  generalize Fo.ssF = SS at *
  generalize Fo.cdF = CD at *
  generalize Fo.sdF = SD at *
  refine ⟨⟨?_, g1, c1, ?_, j1.cell⟩, ⟨?_, g2, c2, ?_, j2.cell⟩⟩
  · intro i hi
    refine hcell i _ ?_
    rw [he, List.getElem?_append_left (by omega)]; exact ints_get _ _ (by omega)
  · refine hcell 16 _ ?_
    rw [he, List.getElem?_append_right (by omega), li1]; rfl
  · intro i hi
    rw [show 4 + 17 + i = 4 + (17 + i) by omega]
    refine hcell (17 + i) _ ?_
    rw [he, List.getElem?_append_right (by omega), li1, show 17 + i - 16 = i + 1 by omega, List.getElem?_cons_succ, List.getElem?_append_left (by omega)]; exact ints_get _ _ (by omega)
  · rw [show 4 + 17 + 16 = 4 + 33 by omega]
    refine hcell 33 _ ?_
    rw [he, List.getElem?_append_right (by omega), li1, show 33 - 16 = 16 + 1 by omega, List.getElem?_cons_succ, List.getElem?_append_right (by omega), li2]; rfl
end Go.Proofs.YtgkljcmjnphpeaaGreatDoor
