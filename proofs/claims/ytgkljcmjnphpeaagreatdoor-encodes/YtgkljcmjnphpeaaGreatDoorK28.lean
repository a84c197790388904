/- The document's answer: filter 4: a block's own codes: the walk. -/
import Derived.Test.YtgkljcmjnphpeaaGreatDoorK22
set_option linter.unusedVariables false
set_option linter.unusedSimpArgs false
namespace Go.Proofs.YtgkljcmjnphpeaaGreatDoor.Fo
/-- A block of sort 2: what comes of it. -/
def OwnTo (window most : Nat) (r : List Bool) (o : List Nat) (res : Except Nat (List Bool × List Nat)) : Prop :=
  (ownHead r = none → res = .error 5) ∧ ∀ r' L, ownHead r = some (r', L) → (¬ ownGood L (headA r) → res = .error 5) ∧ (ownGood L (headA r) → PartsTo ⟨cz (L.take (headA r)), ssOf (L.take (headA r)), cz (L.drop (headA r)), ssOf (L.drop (headA r))⟩ window most r' o res)
end Go.Proofs.YtgkljcmjnphpeaaGreatDoor.Fo
namespace Go.Proofs.YtgkljcmjnphpeaaGreatDoor
open Go.RowKit
variable {B b : Nat} {S : ByteArray} {most : Nat} {w : World} {p : Nat} {ov : Value} {out : List Nat} {e : Nat}
def ordO : Obj := .cells (ints Fo.ordl).toArray 3 (0, 0)
/-- The two rows of the lengths' lengths. -/
structure Ow (w wr : World) (go gl : Nat) (l : List Nat) : Prop where
  h1 : w.heap.size ≤ go
  h2 : w.heap.size ≤ gl
  ne : go ≠ gl
  ord : wr.heap[go]? = some ordO
  row : wr.heap[gl]? = some (.cells (ints l).toArray 3 (0, 0))
  len : l.length = 19
  sm : ∀ i, i < l.length → nth l i < 16
theorem Ow.kept {wr w' : World} {go gl : Nat} {l : List Nat} {q : Nat} (h : Ow w wr go gl l) (r : RIn B b S most wr q ov out e) (k : Kept 5 B [b] wr w') : Ow w w' go gl l := by
  have hne : ∀ g c, wr.heap[g]? = some (.cells c 3 (0, 0)) → g ∉ [b] := fun g c hh hg => by
    obtain ⟨c', fz, h3⟩ := r.isIn g hg
    rw [h3] at hh
    simp at hh
  exact ⟨h.h1, h.h2, h.ne, k.block _ _ (hne _ _ h.ord) h.ord (Or.inr (by intro c fz e; simp [ordO] at e)), k.block _ _ (hne _ _ h.row) h.row (Or.inr (by intro c fz e; simp at e)), h.len, h.sm⟩
theorem Ow.drewN {wr : World} {go gl : Nat} {l : List Nat} (h : Ow w wr go gl l) (n : Nat) : Ow w (wr.drewN n) go gl l := ⟨h.h1, h.h2, h.ne, h.ord, h.row, h.len, h.sm⟩
theorem Ow.cellO {wr : World} {go gl : Nat} {l : List Nat} (h : Ow w wr go gl l) (i : Nat) (hi : i < 19) : wr.cell? ⟨go, i, none⟩ = some (.int .i64 (nth Fo.ordl i : Nat)) := by
  rw [cell_blk h.ord]
  have : i < Fo.ordl.length := hi
  simp [ints, nth, this]
theorem Ow.cell {wr : World} {go gl : Nat} {l : List Nat} (h : Ow w wr go gl l) (i : Nat) (hi : i < 19) : wr.cell? ⟨gl, i, none⟩ = some (.int .i64 (nth l i : Nat)) := by
  rw [cell_blk h.row]
  have := h.len
  simp [ints, nth, this, hi]
theorem Ow.set {wr : World} {go gl : Nat} {l : List Nat} (h : Ow w wr go gl l) (i x : Nat) (hi : i < 19) (hx : x < 16) : Ow w (wr.setCell ⟨gl, i, none⟩ (.int .i64 x)) go gl (l.set i x) := by
  refine ⟨h.h1, h.h2, h.ne, ?_, ?_, by simp [h.len], fun j hj => ?_⟩
  · rw [blk_setCell_ne _ h.ne]; exact h.ord
  · rw [blk_setCell _ h.row]; simp [ints, List.map_set]
  · have hs := h.sm j (by simpa using hj)
    unfold nth at hs ⊢
    rw [List.getD_eq_getElem?_getD, List.getElem?_set] at *
    by_cases c : i = j
    · subst c; simp only [if_true]; rw [if_pos (by rw [h.len]; exact hi)]; exact hx
    · rw [if_neg c]; exact hs
theorem kept_setI {g j B' : Nat} {c : Array Value} {fz : Nat × Nat} {u : Value} (hg : w.heap[g]? = some (.cells c 3 fz)) (hB : B' ≤ g) : Kept 3 B' [] w (w.setCell ⟨g, j, none⟩ u) :=
  ⟨rfl, rfl, rfl, by simp [World.setCell], fun k o _ ho hc => by
    rw [Below.heap_setCell _ _ _ _ (fun e => by
      have e' : k = g := e
      subst e'
      rw [hg] at ho
      rcases hc with hc | hc
      · omega
      · exact hc c fz (Option.some.inj ho).symm)]
    exact ho⟩
theorem walk_le {T : List (Int × Int)} {M : Nat} (h : Fo.EB T M) : ∀ (v : List Bool) (a s : Nat) (r : List Bool), Fo.walk T a v = some (s, r) → s ≤ M
  | [], _, _, _, e => by simp [Fo.walk] at e
  | x :: v, a, s, r, e => by
    simp only [Fo.walk] at e
    split at e
    · simp only [Option.some.injEq, Prod.mk.injEq] at e
      have := h a x
      omega
    split at e
    · cases e
    · exact walk_le h v _ s r e
theorem TreeOk.le {bt M : Nat} {cs ss : List Nat} (h : TreeOk w bt cs ss M) {r r' : List Bool} {s : Nat} (hs : Fo.sym cs ss r = some (s, r')) : s ≤ M := by
  obtain ⟨T, m, _, _, h3, h4⟩ := h.ex
  rw [← h4] at hs
  exact walk_le h3 r 0 s r' hs
theorem nth_small {L : List Nat} (h : ∀ x ∈ L, x < 16) (i : Nat) (hi : i < L.length) : nth L i < 16 := by
  have : nth L i = L[i] := by simp [nth, hi]
  rw [this]; exact h _ (List.getElem_mem hi)
theorem nth_take {L : List Nat} {a i : Nat} (hi : i < a) : nth (L.take a) i = nth L i := by
  simp [nth, List.getElem?_take, hi]
theorem nth_drop {L : List Nat} {a i : Nat} : nth (L.drop a) i = nth L (a + i) := by
  simp [nth, List.getElem?_drop]
theorem GrownTo.full {l : List Nat} {T : List (Int × Int)} {full : Nat} (h : GrownTo l T full) (k : Nat) (hk : k ≤ 32768) : full = k ↔ Fo.fullOf l = k := by
  rcases h with ⟨g1, _⟩ | ⟨g1, g2⟩
  · rw [g1]; exact Iff.rfl
  · unfold Fo.fullOf; constructor <;> intro h <;> omega
theorem TreeOk.more {bt M M' : Nat} {cs ss : List Nat} (h : TreeOk w bt cs ss M) (hM : M ≤ M') : TreeOk w bt cs ss M' := by
  obtain ⟨T, m, h1, h2, h3, h4⟩ := h.ex
  exact ⟨T, m, h1, h2, fun a x => by have := h3 a x; omega, h4⟩
/-- Whether the copies' code is one code of one bit. -/
def OneSt (L : List Nat) (a f i : Nat) (o : Bool) : Prop := o = true ↔ (f = 16384 ∧ ∀ j, a ≤ j → j < i → nth L j < 2)
theorem OneSt.start (L : List Nat) (a f : Nat) : OneSt L a f a ((f : Int) == 16384) := by
  unfold OneSt
  simp only [beq_iff_eq]
  constructor
  · intro h; exact ⟨by omega, fun j h1 h2 => by omega⟩
  · intro h; omega
theorem OneSt.step {L : List Nat} {a f i : Nat} (h : OneSt L a f i true) (ha : a ≤ i) : OneSt L a f (i + 1) (decide ((nth L i : Int) < 2)) := by
  obtain ⟨h1, h2⟩ := h.1 rfl
  unfold OneSt
  simp only [decide_eq_true_eq]
  constructor
  · intro hx
    refine ⟨h1, fun j hj1 hj2 => ?_⟩
    by_cases c : j = i
    · subst c; omega
    · exact h2 j hj1 (by omega)
  · intro hx
    have := hx.2 i ha (by omega)
    omega
theorem OneSt.fin {L : List Nat} {a f i : Nat} {o : Bool} (h : OneSt L a f i o) (hi : i ≤ L.length) (he : o = true → i = L.length) : o = true ↔ (f = 16384 ∧ ∀ x ∈ L.drop a, x < 2) := by
  constructor
  · intro ho
    obtain ⟨h1, h2⟩ := h.1 ho
    refine ⟨h1, fun x hx => ?_⟩
    obtain ⟨j, hj, rfl⟩ := List.getElem_of_mem hx
    have hj' : a + j < L.length := by rw [List.length_drop] at hj; omega
    have := h2 (a + j) (by omega) (by rw [he ho]; exact hj')
    rw [List.getElem_drop]
    simpa [nth, hj'] using this
  · intro hx
    refine h.2 ⟨hx.1, fun j h1 h2 => ?_⟩
    have hj' : j < L.length := by omega
    have hm : L[j] ∈ L.drop a := by
      rw [List.mem_iff_getElem]
      exact ⟨j - a, by rw [List.length_drop]; omega, by rw [List.getElem_drop]; congr 1; omega⟩
    have := hx.2 _ hm
    simpa [nth, hj'] using this
theorem bit_err {q v q' e' : Nat} (h : BitRes S 3 q 5 v q' e') : e' = 5 := by
  rcases h with ⟨_, _, _, h⟩ | ⟨h, _⟩ | ⟨h, _⟩
  · exact h
  · omega
  · omega
theorem zero_lt : ∀ i : Fin 19, nth (List.replicate 19 0) i.val < 16 := by decide +kernel
theorem ord_lt : ∀ i : Fin 19, nth Fo.ordl i.val < 19 := by decide +kernel
set_option maxRecDepth 100000 in
set_option maxHeartbeats 2000000 in
theorem rown_ok (h : RIn B b S most w p ov out 0) (hp : p ≤ 8 * S.size) (hby : ∀ x ∈ out, x < 256) {window : Nat} (hw : window ≤ 32768) {res : Except Nat (List Bool × List Nat)} (hres : Fo.OwnTo window most (rest4 S p) out res) :
    Calls Tryz.prog 153 #[.pointer (some ⟨b, 0, none⟩), .int .i64 window] w fun x w' => x = .returned (.tuple #[]) ∧ ∃ q ov' o e, RIn B b S most w' q ov' o e ∧ BRes S res q o e ∧ Kept 5 B [b] w w' := by
  have HBY := hide hby
  have HRES := hide hres
  clear hby hres
  go_enter Tryz.func153, Tryz.ntmps153
  go_wp2_with fail
  refine (rbits_any h 5 (by omega)).mono ?_
  rintro x w1 ⟨va, q1, e1, rfl, r1, B1, hv1, k1⟩
  have hva : va < 32 := by simpa using hv1
  go_wp2_with fail
  refine (rbits_any r1 5 (by omega)).mono ?_
  rintro x w2 ⟨vb, q2, e2, rfl, r2, B2, hv2, k2⟩
  have hvb : vb < 32 := by simpa using hv2
  go_wp2_with fail
  refine (rbits_any r2 4 (by omega)).mono ?_
  rintro x w3 ⟨vc, q3, e3, rfl, r3, B3, hv3, k3⟩
  have hvc : vc < 16 := by simpa using hv3
  have K3 := hide ((k1.trans k2).trans k3)
  have HA := hide (fun e4 h4 => ownA_of (e4 := e4) B1.out B2.out B3.out h4)
  clear r1 r2 k1 k2 k3 hv1 hv2 hv3 B1 B2 B3 h
  obtain ⟨i0, hi, hz0, hz1, hz2⟩ := info_parts Tryz.infoInt
  by_cases c : 286 < 257 + va ∨ 30 < 1 + vb
  · by_cases c0 : 286 < 257 + va
    · have c1 : (286 : Int) < 257 + va := by omega
      go_wp2_with fail
      refine (rno_ok r3 5 (by omega)).mono ?_
      rintro x w4 ⟨rfl, r4, k4⟩
      have hA5 := HA.out (rno 5 e3) (by rw [if_pos c])
      have h5 : rno 5 e3 = 5 ∧ Fo.ownHead (rest4 S p) = none := by
        rcases hA5 with ⟨_, _, _, _, _, _, h1, h2⟩ | h
        · omega
        · exact h
      have g1 : Hid (Fo.ownHead (rest4 S p) = none) := h5.2
      rw [h5.1] at r4 hA5
      have HA4 := hide hA5
      have R4 := hide r4
      have K4 := hide (K3.out.trans k4)
      have z4 : w.heap.size ≤ w4.heap.size := K4.out.size
      clear HA r3 r4 k4 hA5 h5 K3
      go_wp2_with (at_make; refine wpList_make_full _ rfl _ _ 52 rfl (w4.heap.size + 1) 3 i0 (.int .i64 0) 1 Tryz.underlying52 hi hz0 hz1 .i64 .i64 _ _ 19 rfl rfl (by omega) (by omega) (by rw [hz2]; omega) (by unfold maxLen; omega) (by simp) ?_; intro w5 hown5 hg5; have hrow := row_made hown5)
      have ho5 : w5.heap[w4.heap.size]? = some ordO := by
        rw [hg5.block _ (by simp) (by simp)]; exact blk_new _ _
      have B5 : Below w4.heap.size w4 w5 := ((Below.refl _ _).alloc (Nat.le_refl _) _).grown hg5 (by simp) (fun k h => by cases h)
      obtain ⟨gl, hgl⟩ : ∃ gl, w4.heap.size + 1 = gl := ⟨_, rfl⟩
      simp only [World.size_alloc, hgl] at hrow ⊢
      have OW5 : Ow w w5 w4.heap.size gl (List.replicate 19 0) := ⟨z4, by omega, by omega, ho5, hrow, by simp, fun i hi => zero_lt ⟨i, by simpa using hi⟩⟩
      have K5 : Kept 5 B [b] w w5 := K4.out.trans ⟨B5.os, B5.tape, B5.output, B5.size, fun i o _ ho _ => by rw [B5.block i (lt_of_block ho)]; exact ho⟩
      have R5 := R4.out.ofBelow B5
      obtain ⟨go, hgo⟩ : ∃ go, w4.heap.size = go := ⟨_, rfl⟩
      rw [hgo] at OW5
      simp only [hgo]
      have HB5 := hide HA4.out.toB
      clear hgo hgl hrow hg5 hown5 ho5 B5 R4 K4 HA4 z4
      go_loopw [9] (fun vi wr => ∃ (i : Nat) (l : List Nat) (q e : Nat), vi = .int .i64 i ∧ i ≤ 4 + vc ∧ RIn B b S most wr q ov out e ∧ Ow w wr go gl l ∧ Hid (OwnB S p va vb (4 + vc) i l q e) ∧ Kept 5 B [b] w wr ∧ e = 5) (fun vi _ => 4 + vc - (intOf vi).toNat)
      case atStart => exact ⟨0, _, _, _, rfl, Nat.zero_le _, R5, OW5, HB5, K5, rfl⟩
      clear R5 OW5 HB5 K5
      case round =>
        obtain ⟨i, l, q, e, rfl, hic, r, ow, HB, kk, rfl⟩ := hrel
        by_cases ci : i < 4 + vc
        · have ci' : (i : Int) < 4 + vc := by omega
          have hx := ow.cellO i (by omega)
          have hOl := ord_lt ⟨i, by omega⟩
          simp only [] at hOl
          have HST := hide (fun v q' e' => HB.out.step (v := v) (q' := q') (e' := e') ci)
          have HOX : ∀ w', Ow w w' go gl l → w'.cell? ⟨go, i, none⟩ = some (.int .i64 (nth Fo.ordl i : Nat)) := fun w' o => o.cellO i (by omega)
          generalize nth Fo.ordl i = O at *
          have i19 : (i : Int) < 19 := by omega
          have O19 : (O : Int) < 19 := by omega
          go_wp2_with fail
          go_region_with (go_at_call 112; refine (rbits_any (r.drewN 1) 3 (by omega)).mono ?_; rintro x w6 ⟨v, q6, e6, rfl, r6, B6, hv6, k6⟩; have ow6 := (ow.drewN 1).kept (r.drewN 1) k6; have hx6 : w6.cell? ⟨go, i, none⟩ = some (.int .i64 (O : Nat)) := HOX w6 ow6; have hc6 := ow6.cell O hOl; have f6 : w6.frozen? ⟨gl, O, none⟩ = false := free_blk ow6.row)
          all_goals have KI : Hid (Kept 3 w.heap.size [] w6 (w6.setCell ⟨gl, O, none⟩ (.int .i64 (v : Nat)))) := kept_setI ow6.row ow6.h2
          all_goals have hv16 : v < 16 := (by have : v < 8 := (by simpa using hv6); omega)
          all_goals go_wp2
          all_goals go_roundw
          all_goals first | exact ⟨i + 1, l.set O v, q6, e6, by go_num, by omega, r6.keptI KI.out, ow6.set O v hOl hv16, HST.out v q6 e6 B6.out, Kept.new ((kk.drewN 1).trans k6) KI.out, bit_err B6.out⟩ | (simp [intOf]; omega)
        · obtain rfl : i = 4 + vc := by omega
          have ci' : ¬ (((4 + vc : Nat) : Int) < 4 + vc) := by omega
          have hgl : gl < wr.heap.size := lt_of_block ow.row
          have HG := hide (grown_ok gl 0 19 l ow.sm (by rw [ow.len]; omega) hgl (fun i hi => by rw [Nat.zero_add]; exact ow.cell i (by rw [ow.len] at hi; exact hi)) (by rw [ow.len]; omega))
          rw [ow.len] at HG
          have HR := hide r
          have HOW := hide ow
          have HK := hide kk
          clear r ow kk
          go_wp2_with fail
          refine HG.out.mono ?_
          rintro x w6 ⟨bt, T, full, rfl, tin, hbt, b6, gt⟩
          have R6 := hide (HR.out.ofBelow b6)
          have K6 := hide (HK.out.trans ⟨b6.os, b6.tape, b6.output, b6.size, fun i o _ ho _ => by rw [b6.block i (lt_of_block ho)]; exact ho⟩)
          have en : ((257 + va + (1 + vb) : Nat) : Int) = 257 + (va : Int) + (1 + (vb : Int)) := by omega
          have TIN := hide tin
          have GT := hide gt
          clear HG HR HK b6 tin gt hbt
          have HNONE := hide g1
          by_cases cf : full = 32768
          · subst cf
            have HL := hide (rlengths_err (bt := bt) (n := 257 + va + (1 + vb)) R6.out (by omega) (by omega) (by omega))
            rw [en] at HL
            go_wp2_with fail
            refine HL.out.mono ?_
            rintro x w7 ⟨v7, rfl, r7, k7⟩
            have c7 := r7.c4
            have HE5 : Hid (res = .error 5) := HRES.out.1 HNONE.out.out
            go_wp2
            refine bodyPost_ret (v := .tuple #[]) (by simp [results, Tryz.results153, go_sem]) rfl ?_
            exact ⟨rfl, _, _, _, _, r7, by rw [HE5.out]; exact ⟨rfl, by omega⟩, K6.out.trans k7⟩
          · have cf' : ((full : Int) != 32768) = true := by simp; omega
            go_wp2_with fail
            refine (rno_ok R6.out 5 (by omega)).mono ?_
            rintro x w7 ⟨rfl, r7, k7⟩
            rw [rno_err (by omega)] at r7
            have HL := hide (rlengths_err (bt := bt) (n := 257 + va + (1 + vb)) r7 (by omega) (by omega) (by omega))
            rw [en] at HL
            clear r7
            go_wp2_with fail
            refine HL.out.mono ?_
            rintro x w8 ⟨v8, rfl, r8, k8⟩
            have c8 := r8.c4
            have HE5 : Hid (res = .error 5) := HRES.out.1 HNONE.out.out
            go_wp2
            refine bodyPost_ret (v := .tuple #[]) (by simp [results, Tryz.results153, go_sem]) rfl ?_
            exact ⟨rfl, _, _, _, _, r8, by rw [HE5.out]; exact ⟨rfl, by omega⟩, (K6.out.trans k7).trans k8⟩
    · have c1 : ¬ (286 : Int) < 257 + va := by omega
      have c2 : (30 : Int) < 1 + vb := by omega
      go_wp2_with fail
      refine (rno_ok r3 5 (by omega)).mono ?_
      rintro x w4 ⟨rfl, r4, k4⟩
      have hA5 := HA.out (rno 5 e3) (by rw [if_pos c])
      have h5 : rno 5 e3 = 5 ∧ Fo.ownHead (rest4 S p) = none := by
        rcases hA5 with ⟨_, _, _, _, _, _, h1, h2⟩ | h
        · omega
        · exact h
      have g1 : Hid (Fo.ownHead (rest4 S p) = none) := h5.2
      rw [h5.1] at r4 hA5
      have HA4 := hide hA5
      have R4 := hide r4
      have K4 := hide (K3.out.trans k4)
      have z4 : w.heap.size ≤ w4.heap.size := K4.out.size
      clear HA r3 r4 k4 hA5 h5 K3
      go_wp2_with (at_make; refine wpList_make_full _ rfl _ _ 52 rfl (w4.heap.size + 1) 3 i0 (.int .i64 0) 1 Tryz.underlying52 hi hz0 hz1 .i64 .i64 _ _ 19 rfl rfl (by omega) (by omega) (by rw [hz2]; omega) (by unfold maxLen; omega) (by simp) ?_; intro w5 hown5 hg5; have hrow := row_made hown5)
      have ho5 : w5.heap[w4.heap.size]? = some ordO := by
        rw [hg5.block _ (by simp) (by simp)]; exact blk_new _ _
      have B5 : Below w4.heap.size w4 w5 := ((Below.refl _ _).alloc (Nat.le_refl _) _).grown hg5 (by simp) (fun k h => by cases h)
      obtain ⟨gl, hgl⟩ : ∃ gl, w4.heap.size + 1 = gl := ⟨_, rfl⟩
      simp only [World.size_alloc, hgl] at hrow ⊢
      have OW5 : Ow w w5 w4.heap.size gl (List.replicate 19 0) := ⟨z4, by omega, by omega, ho5, hrow, by simp, fun i hi => zero_lt ⟨i, by simpa using hi⟩⟩
      have K5 : Kept 5 B [b] w w5 := K4.out.trans ⟨B5.os, B5.tape, B5.output, B5.size, fun i o _ ho _ => by rw [B5.block i (lt_of_block ho)]; exact ho⟩
      have R5 := R4.out.ofBelow B5
      obtain ⟨go, hgo⟩ : ∃ go, w4.heap.size = go := ⟨_, rfl⟩
      rw [hgo] at OW5
      simp only [hgo]
      have HB5 := hide HA4.out.toB
      clear hgo hgl hrow hg5 hown5 ho5 B5 R4 K4 HA4 z4
      go_loopw [9] (fun vi wr => ∃ (i : Nat) (l : List Nat) (q e : Nat), vi = .int .i64 i ∧ i ≤ 4 + vc ∧ RIn B b S most wr q ov out e ∧ Ow w wr go gl l ∧ Hid (OwnB S p va vb (4 + vc) i l q e) ∧ Kept 5 B [b] w wr ∧ e = 5) (fun vi _ => 4 + vc - (intOf vi).toNat)
      case atStart => exact ⟨0, _, _, _, rfl, Nat.zero_le _, R5, OW5, HB5, K5, rfl⟩
      clear R5 OW5 HB5 K5
      case round =>
        obtain ⟨i, l, q, e, rfl, hic, r, ow, HB, kk, rfl⟩ := hrel
        by_cases ci : i < 4 + vc
        · have ci' : (i : Int) < 4 + vc := by omega
          have hx := ow.cellO i (by omega)
          have hOl := ord_lt ⟨i, by omega⟩
          simp only [] at hOl
          have HST := hide (fun v q' e' => HB.out.step (v := v) (q' := q') (e' := e') ci)
          have HOX : ∀ w', Ow w w' go gl l → w'.cell? ⟨go, i, none⟩ = some (.int .i64 (nth Fo.ordl i : Nat)) := fun w' o => o.cellO i (by omega)
          generalize nth Fo.ordl i = O at *
          have i19 : (i : Int) < 19 := by omega
          have O19 : (O : Int) < 19 := by omega
          go_wp2_with fail
          go_region_with (go_at_call 112; refine (rbits_any (r.drewN 1) 3 (by omega)).mono ?_; rintro x w6 ⟨v, q6, e6, rfl, r6, B6, hv6, k6⟩; have ow6 := (ow.drewN 1).kept (r.drewN 1) k6; have hx6 : w6.cell? ⟨go, i, none⟩ = some (.int .i64 (O : Nat)) := HOX w6 ow6; have hc6 := ow6.cell O hOl; have f6 : w6.frozen? ⟨gl, O, none⟩ = false := free_blk ow6.row)
          all_goals have KI : Hid (Kept 3 w.heap.size [] w6 (w6.setCell ⟨gl, O, none⟩ (.int .i64 (v : Nat)))) := kept_setI ow6.row ow6.h2
          all_goals have hv16 : v < 16 := (by have : v < 8 := (by simpa using hv6); omega)
          all_goals go_wp2
          all_goals go_roundw
          all_goals first | exact ⟨i + 1, l.set O v, q6, e6, by go_num, by omega, r6.keptI KI.out, ow6.set O v hOl hv16, HST.out v q6 e6 B6.out, Kept.new ((kk.drewN 1).trans k6) KI.out, bit_err B6.out⟩ | (simp [intOf]; omega)
        · obtain rfl : i = 4 + vc := by omega
          have ci' : ¬ (((4 + vc : Nat) : Int) < 4 + vc) := by omega
          have hgl : gl < wr.heap.size := lt_of_block ow.row
          have HG := hide (grown_ok gl 0 19 l ow.sm (by rw [ow.len]; omega) hgl (fun i hi => by rw [Nat.zero_add]; exact ow.cell i (by rw [ow.len] at hi; exact hi)) (by rw [ow.len]; omega))
          rw [ow.len] at HG
          have HR := hide r
          have HOW := hide ow
          have HK := hide kk
          clear r ow kk
          go_wp2_with fail
          refine HG.out.mono ?_
          rintro x w6 ⟨bt, T, full, rfl, tin, hbt, b6, gt⟩
          have R6 := hide (HR.out.ofBelow b6)
          have K6 := hide (HK.out.trans ⟨b6.os, b6.tape, b6.output, b6.size, fun i o _ ho _ => by rw [b6.block i (lt_of_block ho)]; exact ho⟩)
          have en : ((257 + va + (1 + vb) : Nat) : Int) = 257 + (va : Int) + (1 + (vb : Int)) := by omega
          have TIN := hide tin
          have GT := hide gt
          clear HG HR HK b6 tin gt hbt
          have HNONE := hide g1
          by_cases cf : full = 32768
          · subst cf
            have HL := hide (rlengths_err (bt := bt) (n := 257 + va + (1 + vb)) R6.out (by omega) (by omega) (by omega))
            rw [en] at HL
            go_wp2_with fail
            refine HL.out.mono ?_
            rintro x w7 ⟨v7, rfl, r7, k7⟩
            have c7 := r7.c4
            have HE5 : Hid (res = .error 5) := HRES.out.1 HNONE.out.out
            go_wp2
            refine bodyPost_ret (v := .tuple #[]) (by simp [results, Tryz.results153, go_sem]) rfl ?_
            exact ⟨rfl, _, _, _, _, r7, by rw [HE5.out]; exact ⟨rfl, by omega⟩, K6.out.trans k7⟩
          · have cf' : ((full : Int) != 32768) = true := by simp; omega
            go_wp2_with fail
            refine (rno_ok R6.out 5 (by omega)).mono ?_
            rintro x w7 ⟨rfl, r7, k7⟩
            rw [rno_err (by omega)] at r7
            have HL := hide (rlengths_err (bt := bt) (n := 257 + va + (1 + vb)) r7 (by omega) (by omega) (by omega))
            rw [en] at HL
            clear r7
            go_wp2_with fail
            refine HL.out.mono ?_
            rintro x w8 ⟨v8, rfl, r8, k8⟩
            have c8 := r8.c4
            have HE5 : Hid (res = .error 5) := HRES.out.1 HNONE.out.out
            go_wp2
            refine bodyPost_ret (v := .tuple #[]) (by simp [results, Tryz.results153, go_sem]) rfl ?_
            exact ⟨rfl, _, _, _, _, r8, by rw [HE5.out]; exact ⟨rfl, by omega⟩, (K6.out.trans k7).trans k8⟩
  · have HA4 := hide (HA.out e3 (by rw [if_neg c]))
    have c1 : ¬ (286 : Int) < 257 + va := by omega
    have c2 : ¬ (30 : Int) < 1 + vb := by omega
    have R4 := hide r3
    have z3 : w.heap.size ≤ w3.heap.size := K3.out.size
    clear HA r3 c
    go_wp2_with (at_make; refine wpList_make_full _ rfl _ _ 52 rfl (w3.heap.size + 1) 3 i0 (.int .i64 0) 1 Tryz.underlying52 hi hz0 hz1 .i64 .i64 _ _ 19 rfl rfl (by omega) (by omega) (by rw [hz2]; omega) (by unfold maxLen; omega) (by simp) ?_; intro w5 hown5 hg5; have hrow := row_made hown5)
    have ho5 : w5.heap[w3.heap.size]? = some ordO := by
      rw [hg5.block _ (by simp) (by simp)]; exact blk_new _ _
    have B5 : Below w3.heap.size w3 w5 := ((Below.refl _ _).alloc (Nat.le_refl _) _).grown hg5 (by simp) (fun k h => by cases h)
    obtain ⟨gl, hgl⟩ : ∃ gl, w3.heap.size + 1 = gl := ⟨_, rfl⟩
    simp only [World.size_alloc, hgl] at hrow ⊢
    have OW5 : Ow w w5 w3.heap.size gl (List.replicate 19 0) := ⟨z3, by omega, by omega, ho5, hrow, by simp, fun i hi => zero_lt ⟨i, by simpa using hi⟩⟩
    have K5 : Kept 5 B [b] w w5 := K3.out.trans ⟨B5.os, B5.tape, B5.output, B5.size, fun i o _ ho _ => by rw [B5.block i (lt_of_block ho)]; exact ho⟩
    have R5 := R4.out.ofBelow B5
    obtain ⟨go, hgo⟩ : ∃ go, w3.heap.size = go := ⟨_, rfl⟩
    rw [hgo] at OW5
    simp only [hgo]
    have HB5 := hide HA4.out.toB
    clear hgo hgl hrow hg5 hown5 ho5 B5 R4 K3 HA4 z3
    go_loopw [9] (fun vi wr => ∃ (i : Nat) (l : List Nat) (q e : Nat), vi = .int .i64 i ∧ i ≤ 4 + vc ∧ RIn B b S most wr q ov out e ∧ Ow w wr go gl l ∧ Hid (OwnB S p va vb (4 + vc) i l q e) ∧ Kept 5 B [b] w wr) (fun vi _ => 4 + vc - (intOf vi).toNat)
    case atStart => exact ⟨0, _, _, _, rfl, Nat.zero_le _, R5, OW5, HB5, K5⟩
    clear R5 OW5 HB5 K5
    case round =>
      obtain ⟨i, l, q, e, rfl, hic, r, ow, HB, kk⟩ := hrel
      by_cases ci : i < 4 + vc
      · have ci' : (i : Int) < 4 + vc := by omega
        have hx := ow.cellO i (by omega)
        have hOl := ord_lt ⟨i, by omega⟩
        simp only [] at hOl
        have HST := hide (fun v q' e' => HB.out.step (v := v) (q' := q') (e' := e') ci)
        have HOX : ∀ w', Ow w w' go gl l → w'.cell? ⟨go, i, none⟩ = some (.int .i64 (nth Fo.ordl i : Nat)) := fun w' o => o.cellO i (by omega)
        generalize nth Fo.ordl i = O at *
        have i19 : (i : Int) < 19 := by omega
        have O19 : (O : Int) < 19 := by omega
        go_wp2_with fail
        go_region_with (go_at_call 112; refine (rbits_any (r.drewN 1) 3 (by omega)).mono ?_; rintro x w6 ⟨v, q6, e6, rfl, r6, B6, hv6, k6⟩; have ow6 := (ow.drewN 1).kept (r.drewN 1) k6; have hx6 : w6.cell? ⟨go, i, none⟩ = some (.int .i64 (O : Nat)) := HOX w6 ow6; have hc6 := ow6.cell O hOl; have f6 : w6.frozen? ⟨gl, O, none⟩ = false := free_blk ow6.row)
        all_goals have KI : Hid (Kept 3 w.heap.size [] w6 (w6.setCell ⟨gl, O, none⟩ (.int .i64 (v : Nat)))) := kept_setI ow6.row ow6.h2
        all_goals have hv16 : v < 16 := (by have : v < 8 := (by simpa using hv6); omega)
        all_goals go_wp2
        all_goals go_roundw
        all_goals first | exact ⟨i + 1, l.set O v, q6, e6, by go_num, by omega, r6.keptI KI.out, ow6.set O v hOl hv16, HST.out v q6 e6 B6.out, Kept.new ((kk.drewN 1).trans k6) KI.out⟩ | (simp [intOf]; omega)
      · obtain rfl : i = 4 + vc := by omega
        have ci' : ¬ (((4 + vc : Nat) : Int) < 4 + vc) := by omega
        have hgl : gl < wr.heap.size := lt_of_block ow.row
        have HG := hide (grown_ok gl 0 19 l ow.sm (by rw [ow.len]; omega) hgl (fun i hi => by rw [Nat.zero_add]; exact ow.cell i (by rw [ow.len] at hi; exact hi)) (by rw [ow.len]; omega))
        rw [ow.len] at HG
        have HR := hide r
        have HOW := hide ow
        have HK := hide kk
        clear r ow kk
        go_wp2_with fail
        refine HG.out.mono ?_
        rintro x w6 ⟨bt, T, full, rfl, tin, hbt, b6, gt⟩
        have R6 := hide (HR.out.ofBelow b6)
        have K6 := hide (HK.out.trans ⟨b6.os, b6.tape, b6.output, b6.size, fun i o _ ho _ => by rw [b6.block i (lt_of_block ho)]; exact ho⟩)
        have en : ((257 + va + (1 + vb) : Nat) : Int) = 257 + (va : Int) + (1 + (vb : Int)) := by omega
        have TIN := hide tin
        have GT := hide gt
        clear HG HR HK b6 tin gt hbt
        by_cases cf : full = 32768
        · subst cf
          have HC := hide (HB.out.toC GT.out (e' := e) (by rw [if_pos rfl]))
          rcases HC.out with ⟨rfl, g1, g2, g3, g4, g5, g6⟩ | ⟨rfl, g1⟩
          · have TK := hide (GT.out.ok TIN.out (by have := g5; unfold Fo.fullOf at this; omega))
            have hlen19 := HOW.out.len
            have HL := hide (rlengths_ok (n := 257 + va + (1 + vb)) (M := l.length) R6.out g2 (by omega) (by omega) TK.out (fun r s r' h => Nat.le_trans (TK.out.le h) (by omega)) g6)
            rw [en] at HL
            have G1 := hide g1
            have G6 := hide g6
            clear hlen19 g5 g6 g1
            go_wp2_with fail
            refine HL.out.mono ?_
            rintro x w7 ⟨v7, L, q7, e7, rfl, r7, LR, own7, t7, k7⟩
            have K7 := hide (K6.out.trans k7)
            have c7 := r7.c4
            have R7 := hide r7
            clear HL TK t7 k7 r7
            rcases hH : Fo.ownHead (rest4 S p) with _ | ⟨r', L'⟩
            · rw [hH] at LR
              obtain rfl : e7 = 5 := LR
              have HE5 : Hid (res = .error 5) := HRES.out.1 hH
              go_wp2
              refine bodyPost_ret (v := .tuple #[]) (by simp [results, Tryz.results153, go_sem]) rfl ?_
              exact ⟨rfl, _, _, _, _, R7.out, by rw [HE5.out]; exact ⟨rfl, by omega⟩, K7.out⟩
            · rw [hH] at LR
              obtain ⟨rfl, rfl, hr7, hq7⟩ := LR
              have hLs := Fo.lensDec_small (G6.out.trans hH)
              have HRS := hide (HRES.out.2 _ _ hH)
              rw [← G1.out, ← hr7] at HRS
              obtain ⟨g, cp, hv7, hg7, hcell, hcp1, hcp2⟩ := own_ints (own7 rfl) rfl (by omega)
              subst hv7
              have hLl := hLs.1
              have HSM := hide hLs.2
              have HCE := hide hcell
              rw [hLl] at hcp1 ⊢
              have HN := hide hLl
              have l1 : (L.take (257 + va)).length = 257 + va := by rw [List.length_take, hLl]; omega
              have l2 : (L.drop (257 + va)).length = 1 + vb := by rw [List.length_drop, hLl]; omega
              have s1 : (257 : Int) + va ≤ cp := by omega
              have s0 : (0 : Int) ≤ 257 + va := by omega
              have GA := hide (grown_ok g 0 cp (L.take (257 + va)) (nth_small fun x hx => HSM.out x (List.mem_of_mem_take hx)) (by omega) hg7 (fun i hi => by rw [nth_take (by omega)]; exact HCE.out i (by rw [HN.out]; omega)) (by omega))
              have GB : Hid (∀ w', Below w7.heap.size w7 w' → _) := fun w' bl => grown_ok (w := w') g (257 + va) (cp - (257 + va)) (L.drop (257 + va)) (nth_small fun x hx => HSM.out x (List.mem_of_mem_drop hx)) (by omega) (Nat.lt_of_lt_of_le hg7 bl.size) (fun i hi => by rw [nth_drop, bl.cell (p := ⟨g, 257 + va + i, none⟩) hg7]; have := HCE.out (257 + va + i) (by rw [HN.out]; omega); rw [Nat.zero_add] at this; exact this) (by omega)
              rw [l1] at GA
              rw [l2] at GB
              clear hLs hcell own7 hH hr7 hLl l1 l2
              go_wp2_with fail
              refine GA.out.mono ?_
              rintro x w8 ⟨b1, T1, f1, rfl, t1, hb1, b8, gt1⟩
              have GT1 := hide gt1
              have TI1 := hide t1
              have B8 := hide b8
              clear gt1 t1 b8 GA
              go_wp2_with fail
              refine (GB.out w8 B8.out).mono ?_
              rintro x w9 ⟨b2, T2, f2, rfl, t2, hb2, b9, gt2⟩
              have R9 := hide ((R7.out.ofBelow B8.out).ofBelow b9)
              have K9 : Hid (Kept 5 B [b] w w9) := K7.out.trans (Kept.trans (b := w8) ⟨B8.out.os, B8.out.tape, B8.out.output, B8.out.size, fun i o _ ho _ => by rw [B8.out.block i (lt_of_block ho)]; exact ho⟩ ⟨b9.os, b9.tape, b9.output, b9.size, fun i o _ ho _ => by rw [b9.block i (lt_of_block ho)]; exact ho⟩)
              have HC9 : Hid (∀ i, i < 257 + va + (1 + vb) → w9.cell? ⟨g, i, none⟩ = some (.int .i64 (nth L i : Nat))) := fun i hi => by
                have h8 : g < w8.heap.size := Nat.lt_of_lt_of_le hg7 B8.out.size
                rw [b9.cell (p := ⟨g, i, none⟩) h8, B8.out.cell (p := ⟨g, i, none⟩) hg7]
                have := HCE.out i (by rw [HN.out]; exact hi)
                rw [Nat.zero_add] at this; exact this
              have HF1 : Hid (∀ k, k ≤ 32768 → (f1 = k ↔ Fo.fullOf (L.take (257 + va)) = k)) := GT1.out.full
              have HF2 : Hid (∀ k, k ≤ 32768 → (f2 = k ↔ Fo.fullOf (L.drop (257 + va)) = k)) := gt2.full
              have hx256 := HC9.out 256 (by omega)
              have i256 : (256 : Int) < 257 + va + (1 + vb) := by omega
              have HST0 := hide (OneSt.start L (257 + va) f2)
              have HT1 : Hid (Fo.fullOf (L.take (257 + va)) ≤ 32768 → TreeOk w9 b1 (cz (L.take (257 + va))) (Fo.ssOf (L.take (257 + va))) 300) := fun hk => ((GT1.out.ok TI1.out hk).below b9).more (by rw [List.length_take]; omega)
              have HT2 : Hid (Fo.fullOf (L.drop (257 + va)) ≤ 32768 → TreeOk w9 b2 (cz (L.drop (257 + va))) (Fo.ssOf (L.drop (257 + va))) 32) := fun hk => (gt2.ok t2 hk).more (by rw [List.length_drop, HN.out]; omega)
              clear B8 b9 gt2 GT1 TI1 t2 GB hb1 hb2 HCE R7 K7 c7
              obtain ⟨Z, hZ⟩ : ∃ Z, nth L 256 = Z := ⟨_, rfl⟩
              rw [hZ] at hx256
              have HZ := hide hZ
              have HBAD := hide HRS.out.1
              have HSYM : Hid (Fo.ownGood L (257 + va) → Calls Tryz.prog 209 #[.pointer (some ⟨b, 0, none⟩), .pointer (some ⟨b1, 0, none⟩), .pointer (some ⟨b2, 0, none⟩), .int .i64 window] w9 fun x w' => x = .returned (.tuple #[]) ∧ ∃ q ov' o e, RIn B b S most w' q ov' o e ∧ BRes S res q o e ∧ Kept 5 B [b] w9 w') := fun hg => by
                have u1 := HT1.out (by rw [hg.1]; omega)
                have u2 := HT2.out (by rcases hg.2.2 with h | h | h <;> omega)
                exact rsymbols_ok R9.out (c := ⟨cz (L.take (257 + va)), Fo.ssOf (L.take (257 + va)), cz (L.drop (257 + va)), Fo.ssOf (L.drop (257 + va))⟩) (M := 300) (by omega) hw u1 u2 (fun r s r' h => Nat.le_trans (u1.le h) (by omega)) (fun r s r' h => u2.le h) (Or.inl ⟨rfl, hq7, HRS.out.2 hg, HBY.out⟩)
              clear hZ HRS HT1 HT2
              go_wp2
              go_loopw [15, 16] (fun vo vi wr => ∃ (i : Nat) (o : Bool), vo = .bool o ∧ vi = .int .i64 i ∧ 257 + va ≤ i ∧ i ≤ 257 + va + (1 + vb) ∧ wr = w9 ∧ Hid (OneSt L (257 + va) f2 i o)) (fun _ vi _ => 257 + va + (1 + vb) - (intOf vi).toNat)
              case atStart => exact ⟨257 + va, _, rfl, by go_num, Nat.le_refl _, by omega, rfl, HST0⟩
              clear HST0
              case round =>
                obtain ⟨i, o, rfl, rfl, hi1, hi2, hwr, HO⟩ := hrel
                subst hwr
                cases o with
                | true =>
                  by_cases ci : i < 257 + va + (1 + vb)
                  · have ci' : (i : Int) < 257 + va + (1 + vb) := by omega
                    have hxi := HC9.out i ci
                    have HO2 := hide (HO.out.step hi1)
                    generalize nth L i = X at *
                    go_wp2
                    go_roundw
                    case rel => exact ⟨i + 1, _, rfl, by go_num, by omega, by omega, trivial, HO2⟩
                    case measure => simp [intOf]; omega
                  · have ci' : ¬ (i : Int) < 257 + va + (1 + vb) := by omega
                    have HONE := hide (HO.out.fin (by rw [HN.out]; omega) (by intro _; rw [HN.out]; omega))
                    by_cases cA : f1 = 32768
                    · subst cA
                      by_cases cB : Z = 0
                      · subst cB
                        have HE5 : Hid (res = .error 5) := HBAD.out (fun hg => hg.2.1 HZ.out)
                        go_wp2_with fail
                        refine (rno_ok R9.out 5 (by omega)).mono ?_
                        rintro x wx ⟨rfl, rx, kx⟩
                        rw [rno_zero] at rx
                        have HX := hide (rsymbols_err (window := window) (b1 := b1) (b2 := b2) rx (by omega))
                        clear rx
                        go_wp2_with fail
                        refine HX.out.mono ?_
                        rintro x wy ⟨rfl, ry, ky⟩
                        go_wp2
                        go_end0
                        exact ⟨rfl, _, _, _, _, ry, by rw [HE5.out]; exact ⟨rfl, by omega⟩, (K9.out.trans kx).trans ky⟩
                      · have cB' : ((Z : Int) == 0) = false := by simp; omega
                        by_cases cC : f2 = 32768
                        · subst cC
                          have HX := hide (HSYM.out ⟨(HF1.out 32768 (by omega)).1 rfl, (by rw [HZ.out]; exact cB), Or.inl ((HF2.out 32768 (by omega)).1 rfl)⟩)
                          go_wp2_with fail
                          refine HX.out.mono ?_
                          rintro x wy ⟨rfl, qy, ovy, oy, ey, ry, bry, ky⟩
                          go_wp2
                          go_end0
                          exact ⟨rfl, _, _, _, _, ry, bry, K9.out.trans ky⟩
                        · have cC' : ((f2 : Int) != 32768) = true := by simp; omega
                          by_cases cD : f2 = 0
                          · subst cD
                            have HX := hide (HSYM.out ⟨(HF1.out 32768 (by omega)).1 rfl, (by rw [HZ.out]; exact cB), Or.inr (Or.inl ((HF2.out 0 (by omega)).1 rfl))⟩)
                            go_wp2_with fail
                            refine HX.out.mono ?_
                            rintro x wy ⟨rfl, qy, ovy, oy, ey, ry, bry, ky⟩
                            go_wp2
                            go_end0
                            exact ⟨rfl, _, _, _, _, ry, bry, K9.out.trans ky⟩
                          · have cD' : ((f2 : Int) == 0) = false := by simp; omega
                            have HX := hide (HSYM.out ⟨(HF1.out 32768 (by omega)).1 rfl, (by rw [HZ.out]; exact cB), Or.inr (Or.inr ⟨(HF2.out 16384 (by omega)).1 (HONE.out.1 rfl).1, (HONE.out.1 rfl).2⟩)⟩)
                            go_wp2_with fail
                            refine HX.out.mono ?_
                            rintro x wy ⟨rfl, qy, ovy, oy, ey, ry, bry, ky⟩
                            go_wp2
                            go_end0
                            exact ⟨rfl, _, _, _, _, ry, bry, K9.out.trans ky⟩
                    · have cA' : ((f1 : Int) != 32768) = true := by simp; omega
                      have HE5 : Hid (res = .error 5) := HBAD.out (fun hg => cA ((HF1.out 32768 (by omega)).2 hg.1))
                      go_wp2_with fail
                      refine (rno_ok R9.out 5 (by omega)).mono ?_
                      rintro x wx ⟨rfl, rx, kx⟩
                      rw [rno_zero] at rx
                      have HX := hide (rsymbols_err (window := window) (b1 := b1) (b2 := b2) rx (by omega))
                      clear rx
                      go_wp2_with fail
                      refine HX.out.mono ?_
                      rintro x wy ⟨rfl, ry, ky⟩
                      go_wp2
                      go_end0
                      exact ⟨rfl, _, _, _, _, ry, by rw [HE5.out]; exact ⟨rfl, by omega⟩, (K9.out.trans kx).trans ky⟩
                | false =>
                  have HONE := hide (HO.out.fin (by rw [HN.out]; omega) (by intro h; cases h))
                  by_cases ci : i < 257 + va + (1 + vb)
                  · have ci' : (i : Int) < 257 + va + (1 + vb) := by omega
                    by_cases cA : f1 = 32768
                    · subst cA
                      by_cases cB : Z = 0
                      · subst cB
                        have HE5 : Hid (res = .error 5) := HBAD.out (fun hg => hg.2.1 HZ.out)
                        go_wp2_with fail
                        refine (rno_ok R9.out 5 (by omega)).mono ?_
                        rintro x wx ⟨rfl, rx, kx⟩
                        rw [rno_zero] at rx
                        have HX := hide (rsymbols_err (window := window) (b1 := b1) (b2 := b2) rx (by omega))
                        clear rx
                        go_wp2_with fail
                        refine HX.out.mono ?_
                        rintro x wy ⟨rfl, ry, ky⟩
                        go_wp2
                        go_end0
                        exact ⟨rfl, _, _, _, _, ry, by rw [HE5.out]; exact ⟨rfl, by omega⟩, (K9.out.trans kx).trans ky⟩
                      · have cB' : ((Z : Int) == 0) = false := by simp; omega
                        by_cases cC : f2 = 32768
                        · subst cC
                          have HX := hide (HSYM.out ⟨(HF1.out 32768 (by omega)).1 rfl, (by rw [HZ.out]; exact cB), Or.inl ((HF2.out 32768 (by omega)).1 rfl)⟩)
                          go_wp2_with fail
                          refine HX.out.mono ?_
                          rintro x wy ⟨rfl, qy, ovy, oy, ey, ry, bry, ky⟩
                          go_wp2
                          go_end0
                          exact ⟨rfl, _, _, _, _, ry, bry, K9.out.trans ky⟩
                        · have cC' : ((f2 : Int) != 32768) = true := by simp; omega
                          by_cases cD : f2 = 0
                          · subst cD
                            have HX := hide (HSYM.out ⟨(HF1.out 32768 (by omega)).1 rfl, (by rw [HZ.out]; exact cB), Or.inr (Or.inl ((HF2.out 0 (by omega)).1 rfl))⟩)
                            go_wp2_with fail
                            refine HX.out.mono ?_
                            rintro x wy ⟨rfl, qy, ovy, oy, ey, ry, bry, ky⟩
                            go_wp2
                            go_end0
                            exact ⟨rfl, _, _, _, _, ry, bry, K9.out.trans ky⟩
                          · have cD' : ((f2 : Int) == 0) = false := by simp; omega
                            have HE5 : Hid (res = .error 5) := HBAD.out (fun hg => by
                                                          rcases hg.2.2 with h | h | h
                                                          · exact cC ((HF2.out 32768 (by omega)).2 h)
                                                          · exact cD ((HF2.out 0 (by omega)).2 h)
                                                          · exact Bool.noConfusion (HONE.out.2 ⟨(HF2.out 16384 (by omega)).2 h.1, h.2⟩))
                            go_wp2_with fail
                            refine (rno_ok R9.out 5 (by omega)).mono ?_
                            rintro x wx ⟨rfl, rx, kx⟩
                            rw [rno_zero] at rx
                            have HX := hide (rsymbols_err (window := window) (b1 := b1) (b2 := b2) rx (by omega))
                            clear rx
                            go_wp2_with fail
                            refine HX.out.mono ?_
                            rintro x wy ⟨rfl, ry, ky⟩
                            go_wp2
                            go_end0
                            exact ⟨rfl, _, _, _, _, ry, by rw [HE5.out]; exact ⟨rfl, by omega⟩, (K9.out.trans kx).trans ky⟩
                    · have cA' : ((f1 : Int) != 32768) = true := by simp; omega
                      have HE5 : Hid (res = .error 5) := HBAD.out (fun hg => cA ((HF1.out 32768 (by omega)).2 hg.1))
                      go_wp2_with fail
                      refine (rno_ok R9.out 5 (by omega)).mono ?_
                      rintro x wx ⟨rfl, rx, kx⟩
                      rw [rno_zero] at rx
                      have HX := hide (rsymbols_err (window := window) (b1 := b1) (b2 := b2) rx (by omega))
                      clear rx
                      go_wp2_with fail
                      refine HX.out.mono ?_
                      rintro x wy ⟨rfl, ry, ky⟩
                      go_wp2
                      go_end0
                      exact ⟨rfl, _, _, _, _, ry, by rw [HE5.out]; exact ⟨rfl, by omega⟩, (K9.out.trans kx).trans ky⟩
                  · have ci' : ¬ (i : Int) < 257 + va + (1 + vb) := by omega
                    by_cases cA : f1 = 32768
                    · subst cA
                      by_cases cB : Z = 0
                      · subst cB
                        have HE5 : Hid (res = .error 5) := HBAD.out (fun hg => hg.2.1 HZ.out)
                        go_wp2_with fail
                        refine (rno_ok R9.out 5 (by omega)).mono ?_
                        rintro x wx ⟨rfl, rx, kx⟩
                        rw [rno_zero] at rx
                        have HX := hide (rsymbols_err (window := window) (b1 := b1) (b2 := b2) rx (by omega))
                        clear rx
                        go_wp2_with fail
                        refine HX.out.mono ?_
                        rintro x wy ⟨rfl, ry, ky⟩
                        go_wp2
                        go_end0
                        exact ⟨rfl, _, _, _, _, ry, by rw [HE5.out]; exact ⟨rfl, by omega⟩, (K9.out.trans kx).trans ky⟩
                      · have cB' : ((Z : Int) == 0) = false := by simp; omega
                        by_cases cC : f2 = 32768
                        · subst cC
                          have HX := hide (HSYM.out ⟨(HF1.out 32768 (by omega)).1 rfl, (by rw [HZ.out]; exact cB), Or.inl ((HF2.out 32768 (by omega)).1 rfl)⟩)
                          go_wp2_with fail
                          refine HX.out.mono ?_
                          rintro x wy ⟨rfl, qy, ovy, oy, ey, ry, bry, ky⟩
                          go_wp2
                          go_end0
                          exact ⟨rfl, _, _, _, _, ry, bry, K9.out.trans ky⟩
                        · have cC' : ((f2 : Int) != 32768) = true := by simp; omega
                          by_cases cD : f2 = 0
                          · subst cD
                            have HX := hide (HSYM.out ⟨(HF1.out 32768 (by omega)).1 rfl, (by rw [HZ.out]; exact cB), Or.inr (Or.inl ((HF2.out 0 (by omega)).1 rfl))⟩)
                            go_wp2_with fail
                            refine HX.out.mono ?_
                            rintro x wy ⟨rfl, qy, ovy, oy, ey, ry, bry, ky⟩
                            go_wp2
                            go_end0
                            exact ⟨rfl, _, _, _, _, ry, bry, K9.out.trans ky⟩
                          · have cD' : ((f2 : Int) == 0) = false := by simp; omega
                            have HE5 : Hid (res = .error 5) := HBAD.out (fun hg => by
                                                          rcases hg.2.2 with h | h | h
                                                          · exact cC ((HF2.out 32768 (by omega)).2 h)
                                                          · exact cD ((HF2.out 0 (by omega)).2 h)
                                                          · exact Bool.noConfusion (HONE.out.2 ⟨(HF2.out 16384 (by omega)).2 h.1, h.2⟩))
                            go_wp2_with fail
                            refine (rno_ok R9.out 5 (by omega)).mono ?_
                            rintro x wx ⟨rfl, rx, kx⟩
                            rw [rno_zero] at rx
                            have HX := hide (rsymbols_err (window := window) (b1 := b1) (b2 := b2) rx (by omega))
                            clear rx
                            go_wp2_with fail
                            refine HX.out.mono ?_
                            rintro x wy ⟨rfl, ry, ky⟩
                            go_wp2
                            go_end0
                            exact ⟨rfl, _, _, _, _, ry, by rw [HE5.out]; exact ⟨rfl, by omega⟩, (K9.out.trans kx).trans ky⟩
                    · have cA' : ((f1 : Int) != 32768) = true := by simp; omega
                      have HE5 : Hid (res = .error 5) := HBAD.out (fun hg => cA ((HF1.out 32768 (by omega)).2 hg.1))
                      go_wp2_with fail
                      refine (rno_ok R9.out 5 (by omega)).mono ?_
                      rintro x wx ⟨rfl, rx, kx⟩
                      rw [rno_zero] at rx
                      have HX := hide (rsymbols_err (window := window) (b1 := b1) (b2 := b2) rx (by omega))
                      clear rx
                      go_wp2_with fail
                      refine HX.out.mono ?_
                      rintro x wy ⟨rfl, ry, ky⟩
                      go_wp2
                      go_end0
                      exact ⟨rfl, _, _, _, _, ry, by rw [HE5.out]; exact ⟨rfl, by omega⟩, (K9.out.trans kx).trans ky⟩
          · have HL := hide (rlengths_err (bt := bt) (n := 257 + va + (1 + vb)) R6.out (by omega) (by omega) (by omega))
            rw [en] at HL
            go_wp2_with fail
            refine HL.out.mono ?_
            rintro x w7 ⟨v7, rfl, r7, k7⟩
            have c7 := r7.c4
            have HE5 : Hid (res = .error 5) := HRES.out.1 g1
            go_wp2
            refine bodyPost_ret (v := .tuple #[]) (by simp [results, Tryz.results153, go_sem]) rfl ?_
            exact ⟨rfl, _, _, _, _, r7, by rw [HE5.out]; exact ⟨rfl, by omega⟩, K6.out.trans k7⟩
        · have cf' : ((full : Int) != 32768) = true := by simp; omega
          have HC := hide (HB.out.toC GT.out (e' := rno 5 e) (by rw [if_neg cf]))
          have hr5 : rno 5 e = 5 ∧ Fo.ownHead (rest4 S p) = none := by
            rcases HC.out with ⟨h0, _⟩ | h
            · unfold rno at h0; split at h0 <;> omega
            · exact h
          go_wp2_with fail
          refine (rno_ok R6.out 5 (by omega)).mono ?_
          rintro x w7 ⟨rfl, r7, k7⟩
          rw [hr5.1] at r7
          have HL := hide (rlengths_err (bt := bt) (n := 257 + va + (1 + vb)) r7 (by omega) (by omega) (by omega))
          rw [en] at HL
          clear r7
          go_wp2_with fail
          refine HL.out.mono ?_
          rintro x w8 ⟨v8, rfl, r8, k8⟩
          have c8 := r8.c4
          have HE5 : Hid (res = .error 5) := HRES.out.1 hr5.2
          go_wp2
          refine bodyPost_ret (v := .tuple #[]) (by simp [results, Tryz.results153, go_sem]) rfl ?_
          exact ⟨rfl, _, _, _, _, r8, by rw [HE5.out]; exact ⟨rfl, by omega⟩, (K6.out.trans k7).trans k8⟩
end Go.Proofs.YtgkljcmjnphpeaaGreatDoor
