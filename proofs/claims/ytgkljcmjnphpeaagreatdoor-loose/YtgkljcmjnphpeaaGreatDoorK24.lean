/- Values and documents that are the same are told so (package foliokeep). -/
import Derived.Test.YtgkljcmjnphpeaaGreatDoorK23
import Derived.Defers
import Derived.Recover
import Derived.Laws.Pointers
import Derived.Test.YtgkljcmjnphpeaaGreatDoorK04
import Derived.BigQuiet
set_option linter.unusedVariables false
set_option linter.unusedSimpArgs false
namespace Go.Proofs.YtgkljcmjnphpeaaGreatDoor
open Go.RowKit
variable {w : World}
theorem rrun_assert (n : Int) (w : World) : (Instr.typeAssert (.iface 58 (.int .i64 n)) 20 58 true).run Tryz.prog w = .ok (.tuple #[.int .i64 n, .bool true]) w := by kernel_rfl
set_option maxRecDepth 100000 in
theorem rtold_ok (n k : Int) (w : World) : Calls Tryz.prog 65 #[.iface 58 (.int .i64 n), .int .i64 k] w fun e w' => e = .returned (.int .i64 n) ∧ w' = w := by
  have ha := rrun_assert n
  go_enter Tryz.func65, Tryz.ntmps65
  go_wp2
  go_ret
  exact ⟨rfl, rfl⟩
theorem rcatch_idle (p q : Addr) (w : World) :
    CallsD Tryz.prog 64 #[.pointer (some p), .pointer (some q)] .returning w fun e u' w' => e = .returned (.tuple #[]) ∧ u' = .returning ∧ w' = w := by
  refine callsD_of_wpS Tryz.func64 rfl fun c₀ cs hu => ?_
  apply wpS_seq
  apply wpS_region
  simp [wpOpsS, go_sem, recoverD, hu, Tryz.ntmps64, Exit.thenS, Array.replicate]
  refine wpS_of_wp ?_
  go_wp2
  cases c₀
  simp_all [bodyPostS, results, Tryz.results64]
theorem rcatch_panicking (b : Nat) (n : Int) (older : List PanicEntry) (w : World) (v0 v1 v2 : Value) (h0 : w.cell? ⟨b, 0, none⟩ = some v0) (h1 : w.cell? ⟨b, 1, none⟩ = some v1) (h2 : w.cell? ⟨b + 1, 0, none⟩ = some v2) (f0 : w.frozen? ⟨b, 0, none⟩ = false) (f1 : w.frozen? ⟨b, 1, none⟩ = false) (f2 : w.frozen? ⟨b + 1, 0, none⟩ = false) :
    CallsD Tryz.prog 64 #[.pointer (some ⟨b, 0, none⟩), .pointer (some ⟨b + 1, 0, none⟩)] (.panicking ({ v := .iface 58 (.int .i64 n), recovered := false } :: older)) w fun e u' w' =>
      e = .returned (.tuple #[]) ∧ u' = .panicking ({ v := .iface 58 (.int .i64 n), recovered := true } :: older) ∧ w' = ((w.setCell ⟨b, 0, none⟩ (.slice none 0 0)).setCell ⟨b, 1, none⟩ (.int .i64 0)).setCell ⟨b + 1, 0, none⟩ (.int .i64 n) := by
  refine callsD_of_wpS Tryz.func64 rfl fun c₀ cs hu => ?_
  apply wpS_seq
  apply wpS_region
  simp [wpOpsS, go_sem, recoverD, hu, Tryz.ntmps64, Exit.thenS, Array.replicate]
  refine wpS_of_wp ?_
  go_wp2_with (go_at_call 65; refine (rtold_ok _ _ _).mono ?_; rintro e w' ⟨rfl, rfl⟩)
  simp [bodyPostS, results, Tryz.results64]
/-- What folio.Read comes to: a document in memory that is its own, or none and what is wrong. -/
def ReadRes (w : World) (o : Option (List (VT 12) × Int)) (e : Ending) (w' : World) : Prop :=
  Below w.heap.size w w' ∧ match o with
    | some z => ∃ ov, e = .returned (.tuple #[.agg #[ov, .int .i64 z.2], .int .i64 0]) ∧ Vals (fun g => w.heap.size ≤ g) 12 w.heap.size z.1 w' ov
    | none => e = .returned (.tuple #[.agg #[.slice none 0 0, .int .i64 0], .int .i64 4])
set_option maxHeartbeats 2000000 in
theorem read_returns (ao : Option Addr) (cap dl : Nat) (most : Nat) (hm : most ≤ 1000000) (hd : dl ≤ 200000) (Vs : List (VT 12)) (root : Int)
    (hc : ∀ W : World, Below w.heap.size w W → Calls Tryz.prog 66 #[.slice ao dl cap, .int .i64 most] W (RdRes W (some (Vs, root)))) :
    Calls Tryz.prog 25 #[.slice ao dl cap, .int .i64 most] w (ReadRes w (some (Vs, root))) := by
  have hmf : ∀ (fn : Fn) (first cap : Array Value) (w : World), (Instr.makeFunc fn first cap).run Tryz.prog w = .ok (.func fn first cap) w := fun _ _ _ _ => rfl
  have b0 : Below w.heap.size w ((w.alloc (.cells #[.slice none 0 0, .int .i64 0] 31)).alloc (.cells #[.int .i64 0] 58)) := ((Below.refl _ _).alloc (Nat.le_refl _) _).alloc (by simp) _
  have HC := hide (hc _ b0)
  have HB0 := hide b0
  clear hc b0
  go_enter_defers Tryz.func25, Tryz.ntmps25
  go_wp2_with (go_at_call 63; refine (within_int_yes _ _ _ _ (by omega) (by omega)).mono ?_; rintro e w' ⟨rfl, rfl⟩)
  refine HC.out.mono ?_
  rintro e w1 ⟨hb, ov, rfl, hv⟩
  obtain ⟨oa, oc, rfl⟩ := hv.len
  have x0 : w1.heap[w.heap.size]? = some (.cells #[.slice none 0 0, .int .i64 0] 31 (0, 0)) := by
    rw [hb.block _ (by simp; omega)]; exact blk_alloc _ (blk_new _ _)
  have x1 : w1.heap[w.heap.size + 1]? = some (.cells #[.int .i64 0] 58 (0, 0)) := by
    rw [hb.block _ (by simp)]
    have := blk_new (w.alloc (.cells #[.slice none 0 0, .int .i64 0] 31)) (.cells #[.int .i64 0] 58)
    rw [World.size_alloc] at this
    exact this
  have c0 : w1.cell? ⟨w.heap.size, 0, none⟩ = some (.slice none 0 0) := by rw [cell_blk x0]; rfl
  have c1 : w1.cell? ⟨w.heap.size, 1, none⟩ = some (.int .i64 0) := by rw [cell_blk x0]; rfl
  have c2 : w1.cell? ⟨w.heap.size + 1, 0, none⟩ = some (.int .i64 0) := by rw [cell_blk x1]; rfl
  have f0 : w1.frozen? ⟨w.heap.size, 0, none⟩ = false := free_blk x0
  have f1 : w1.frozen? ⟨w.heap.size, 1, none⟩ = false := free_blk x0
  have f2 : w1.frozen? ⟨w.heap.size + 1, 0, none⟩ = false := free_blk x1
  have HV := hide hv
  have HB := hide hb
  clear hv hb x0 x1
  generalize Vs.length = n at *
  go_wp2
  refine leaves_cons (f := 64) (args := #[.pointer (some ⟨w.heap.size, 0, none⟩), .pointer (some ⟨w.heap.size + 1, 0, none⟩)]) (by simp) (by simp [go_sem]) ?_
  refine (rcatch_idle ⟨w.heap.size, 0, none⟩ ⟨w.heap.size + 1, 0, none⟩ _).mono ?_
  rintro e u' w'' ⟨rfl, rfl, rfl⟩
  simp [Leaves, settle, results, Tryz.results25, go_sem, c0, c1, c2, f0, f1, f2]
  have hs0 : ((w.alloc (.cells #[.slice none 0 0, .int .i64 0] 31)).alloc (.cells #[.int .i64 0] 58)).heap.size = w.heap.size + 2 := by simp
  have hb := HB.out
  have hv := HV.out
  rw [hs0] at hb hv
  have bw : Below w.heap.size w w1 := HB0.out.trans (HB.out.mono (by omega))
  have hoth : ∀ g, w.heap.size + 2 ≤ g → (((w1.setCell ⟨w.heap.size, 0, none⟩ (.slice oa n oc)).setCell ⟨w.heap.size, 1, none⟩ (.int .i64 root)).setCell ⟨w.heap.size + 1, 0, none⟩ (.int .i64 0)).heap[g]? = w1.heap[g]? := fun g hg => by
    rw [blk_setCell_ne _ (by show g ≠ w.heap.size + 1; omega), blk_setCell_ne _ (by show g ≠ w.heap.size; omega), blk_setCell_ne _ (by show g ≠ w.heap.size; omega)]
  refine ⟨((bw.setCell (by simp) _).setCell (by simp) _).setCell (by simp) _, _, rfl, ?_⟩
  obtain ⟨ys, k1, k2, k3⟩ := hv
  refine ⟨ys, ?_, k2, fun i x y hx hy => VIn.mono 12 (VIn.keep 12 (k3 i x y hx hy) (fun g hg _ => hoth g hg)) (fun g hg _ => by omega)⟩
  obtain ⟨j1, j2⟩ := k1
  refine ⟨j1, ?_⟩
  rcases j2 with j2 | ⟨g, c, cur, e1, e2, hh, hc⟩
  · exact Or.inl j2
  · exact Or.inr ⟨g, c, cur, e1, by omega, by rw [hoth g e2]; exact hh, hc⟩
set_option maxHeartbeats 2000000 in
theorem read_panics (ao : Option Addr) (cap dl : Nat) (most : Nat) (hm : most ≤ 1000000) (hd : dl ≤ 200000)
    (hc : ∀ W : World, Below w.heap.size w W → Calls Tryz.prog 66 #[.slice ao dl cap, .int .i64 most] W (RdRes W none)) :
    Calls Tryz.prog 25 #[.slice ao dl cap, .int .i64 most] w (ReadRes w none) := by
  have hmf : ∀ (fn : Fn) (first cap : Array Value) (w : World), (Instr.makeFunc fn first cap).run Tryz.prog w = .ok (.func fn first cap) w := fun _ _ _ _ => rfl
  have b0 : Below w.heap.size w ((w.alloc (.cells #[.slice none 0 0, .int .i64 0] 31)).alloc (.cells #[.int .i64 0] 58)) := ((Below.refl _ _).alloc (Nat.le_refl _) _).alloc (by simp) _
  have HC := hide (hc _ b0)
  have HB0 := hide b0
  clear hc b0
  go_enter_defers Tryz.func25, Tryz.ntmps25
  go_wp2_with (go_at_call 63; refine (within_int_yes _ _ _ _ (by omega) (by omega)).mono ?_; rintro e w' ⟨rfl, rfl⟩)
  refine HC.out.mono ?_
  rintro e w1 ⟨hb, rfl⟩
  have x0 : w1.heap[w.heap.size]? = some (.cells #[.slice none 0 0, .int .i64 0] 31 (0, 0)) := by
    rw [hb.block _ (by simp; omega)]; exact blk_alloc _ (blk_new _ _)
  have x1 : w1.heap[w.heap.size + 1]? = some (.cells #[.int .i64 0] 58 (0, 0)) := by
    rw [hb.block _ (by simp)]
    have := blk_new (w.alloc (.cells #[.slice none 0 0, .int .i64 0] 31)) (.cells #[.int .i64 0] 58)
    rw [World.size_alloc] at this
    exact this
  have c0 : w1.cell? ⟨w.heap.size, 0, none⟩ = some (.slice none 0 0) := by rw [cell_blk x0]; rfl
  have c1 : w1.cell? ⟨w.heap.size, 1, none⟩ = some (.int .i64 0) := by rw [cell_blk x0]; rfl
  have c2 : w1.cell? ⟨w.heap.size + 1, 0, none⟩ = some (.int .i64 0) := by rw [cell_blk x1]; rfl
  have f0 : w1.frozen? ⟨w.heap.size, 0, none⟩ = false := free_blk x0
  have f1 : w1.frozen? ⟨w.heap.size, 1, none⟩ = false := free_blk x0
  have f2 : w1.frozen? ⟨w.heap.size + 1, 0, none⟩ = false := free_blk x1
  refine leaves_cons (f := 64) (args := #[.pointer (some ⟨w.heap.size, 0, none⟩), .pointer (some ⟨w.heap.size + 1, 0, none⟩)]) (by simp) (by simp [go_sem]) ?_
  refine (rcatch_panicking w.heap.size 4 [] _ _ _ _ c0 c1 c2 f0 f1 f2).mono ?_
  rintro e u' w'' ⟨rfl, rfl, rfl⟩
  simp [Leaves, settle, results, Tryz.results25, go_sem, c0, c1, c2, f0, f1, f2]
  have bw : Below w.heap.size w w1 := HB0.out.trans (hb.mono (by simp; omega))
  exact ⟨((bw.setCell (by simp) _).setCell (by simp) _).setCell (by simp) _, rfl⟩
/-- folio.Read of a file with no stream. -/
theorem read_ok {ao : Option Addr} {cap : Nat} {data : List Nat} {most : Nat} (hm : most ≤ 1000000) (he : Env w.heap.size w) (hd : Dat w w.heap.size ao data) (byt : ∀ i, i < data.length → nth data i < 256) (len : data.length ≤ 200000) (lc : data.length ≤ cap ∧ cap ≤ 9223372036854775807) (ad : ∃ bd o, ao = some ⟨bd, o, none⟩ ∧ bd < w.heap.size)
    (hns : ∀ z, Fo.document data = some z → ∀ x ∈ z.1, kindOf x.1 ≠ 8) :
    Calls Tryz.prog 25 #[.slice ao data.length cap, .int .i64 most] w (ReadRes w (Fo.readPlain data)) := by
  have hc : ∀ W : World, Below w.heap.size w W → Calls Tryz.prog 66 #[.slice ao data.length cap, .int .i64 most] W (RdRes W (Fo.readPlain data)) := fun W b => by
    have heW : Env w.heap.size W := he.only (bs := w.heap.size) (Nat.le_refl _) (Nat.le_refl _) (.of_below b)
    have h1 := b.size
    refine rdoc_ok ⟨⟨heW.err.syn, heW.err.rng, heW.err.mx, Nat.lt_of_lt_of_le heW.err.ls h1, Nat.lt_of_lt_of_le heW.err.lr h1, Nat.lt_of_lt_of_le heW.err.lm h1⟩, heW.pow, Nat.lt_of_lt_of_le heW.lp h1⟩ (fun i hi => ?_) byt len lc ?_ hns
    · obtain ⟨bd, o, e1, e2, e3⟩ := hd.other (fun g hg => b.block g hg) i hi
      exact ⟨bd, o, e1, by omega, e3⟩
    · obtain ⟨bd, o, e1, e2⟩ := ad
      exact ⟨bd, o, e1, by omega⟩
  cases hR : Fo.readPlain data with
  | none => rw [hR] at hc; exact read_panics ao cap data.length most hm len hc
  | some z => rw [hR] at hc; exact read_returns ao cap data.length most hm len z.1 z.2 hc
end Go.Proofs.YtgkljcmjnphpeaaGreatDoor
namespace Go.Proofs.YtgkljcmjnphpeaaGreatDoor
open Go.RowKit
variable {w w' : World}
/-- A value's keys are none, or as many as its items. -/
def KeysOk : {k : Nat} → VT k → Prop
  | 0, _ => True
  | k + 1, V => ((Node.keys V).length = 0 ∨ (Node.items V).length ≤ (Node.keys V).length) ∧ ∀ y ∈ Node.items V, KeysOk (k := k) y
theorem VIn.split {P : Nat → Prop} {k : Nat} {v : Value} {V : Node (VT k)} (h : VIn P (k + 1) w v V) : ∃ (ia : Option Addr) (ic : Nat) (ka : Option Addr) (kc : Nat) (fa : Option Addr) (fc : Nat), v = .agg #[.int .i64 (V.kind : Int), .int .i64 V.n, .int .i64 (V.places : Int), .string (strN V.text), .slice ia V.items.length ic, .slice ka V.keys.length kc, .slice fa V.filters.length fc] ∧
      Vals P k 0 V.items w (.slice ia V.items.length ic) ∧ w.ownsRow 0 9 1 (.slice ka V.keys.length kc) V.keys.length (V.keys.map fun s => .string (strN s)) ∧ w.ownsRow 0 3 1 (.slice fa V.filters.length fc) V.filters.length (V.filters.map fun f : Nat => .int .i64 (f : Int)) := by
  obtain ⟨iv, kv, fv, vs, rfl, hl, hi, hc, hk, hf⟩ := h.parts
  obtain ⟨a1, c1, rfl⟩ := own_slice hi.1
  obtain ⟨a2, c2, rfl⟩ := own_slice hk.1
  obtain ⟨a3, c3, rfl⟩ := own_slice hf.1
  have hi1 := hi.1
  rw [hl] at hi1
  exact ⟨a1, c1, a2, c2, a3, c3, by rw [hl]; rfl, ⟨vs, by rw [hl]; exact hi1, hl, hc⟩, hk.1, hf.1⟩
theorem own_lens {b e size n m c : Nat} {a : Option Addr} {xs : List Value} (h : w.ownsRow b e size (.slice a m c) n xs) : n ≤ 9223372036854775807 := by
  rcases h.2 with ⟨_, rfl⟩ | ⟨g, c, cur, e1, _, hh, hc1, hc2, _⟩
  · omega
  · simp only [maxLen] at hc2; omega
theorem belowQ {B : Nat} {a w : World} (h : Below B a w) (n : Nat) : Below B a (w.drewN n) := h.trans ⟨rfl, rfl, rfl, Nat.le_refl _, fun _ _ => rfl⟩
/-- What same says. -/
def SameOk (w : World) (a b : Value) : Prop := Calls Tryz.prog 67 #[a, b] w fun e w' => e = .returned (.bool true) ∧ Below w.heap.size w w'
set_option maxRecDepth 100000 in
set_option maxHeartbeats 8000000 in
theorem same_step {k : Nat} (ih : ∀ (P Q : Nat → Prop) (w : World) (a b : Value) (V : VT k), VIn P k w a V → VIn Q k w b V → KeysOk V → SameOk w a b)
    {P Q : Nat → Prop} {a b : Value} {V : Node (VT k)} (ha : VIn P (k + 1) w a V) (hb : VIn Q (k + 1) w b V) (hV : KeysOk (k := k + 1) V) : SameOk w a b := by
  unfold SameOk
  obtain ⟨ia, ic, ka, kc, fa, fc, rfl, hai, hak, haf⟩ := ha.split
  obtain ⟨ib, jc, kb, lc, fb, gc, rfl, hbi, hbk, hbf⟩ := hb.split
  have hil : V.items.length ≤ 9223372036854775807 := by obtain ⟨xs, h1, h2, _⟩ := hai; rw [← h2]; exact own_lens h1
  have hfl := own_lens haf
  have hkl := own_lens hak
  have HAI := hide hai
  have HBI := hide hbi
  have HAK := hide hak
  have HBK := hide hbk
  have HAF := hide haf
  have HBF := hide hbf
  have hkk : V.keys.length = 0 ∨ V.items.length ≤ V.keys.length := hV.1
  have HKY : Hid (∀ y ∈ V.items, KeysOk y) := hV.2
  have IH := hide ih
  generalize hni : V.items.length = ni at *
  generalize hnk : V.keys.length = nk at *
  generalize hnf : V.filters.length = nf at *
  have HNI := hide hni
  have HNK := hide hnk
  have HNF := hide hnf
  clear ha hb hV hai hbi hak hbk haf hbf ih hni hnk hnf
  generalize (V.kind : Int) = kd at *
  generalize V.n = nn at *
  generalize (V.places : Int) = pp at *
  generalize strN V.text = tx at *
  go_enter Tryz.func67, Tryz.ntmps67
  go_wp2
  have b2 : Below w.heap.size w ((w.alloc (.cells #[.int .i64 kd, .int .i64 nn, .int .i64 pp, .string tx, .slice ia ni ic, .slice ka nk kc, .slice fa nf fc] 67)).alloc (.cells #[.int .i64 kd, .int .i64 nn, .int .i64 pp, .string tx, .slice ib ni jc, .slice kb nk lc, .slice fb nf gc] 67)) := ((Below.refl _ _).alloc (Nat.le_refl _) _).alloc (by simp) _
  have hx0 : ((w.alloc (.cells #[.int .i64 kd, .int .i64 nn, .int .i64 pp, .string tx, .slice ia ni ic, .slice ka nk kc, .slice fa nf fc] 67)).alloc (.cells #[.int .i64 kd, .int .i64 nn, .int .i64 pp, .string tx, .slice ib ni jc, .slice kb nk lc, .slice fb nf gc] 67)).heap[w.heap.size]? = some (.cells #[.int .i64 kd, .int .i64 nn, .int .i64 pp, .string tx, .slice ia ni ic, .slice ka nk kc, .slice fa nf fc] 67 (0, 0)) := blk_alloc _ (blk_new _ _)
  have hx1 : ((w.alloc (.cells #[.int .i64 kd, .int .i64 nn, .int .i64 pp, .string tx, .slice ia ni ic, .slice ka nk kc, .slice fa nf fc] 67)).alloc (.cells #[.int .i64 kd, .int .i64 nn, .int .i64 pp, .string tx, .slice ib ni jc, .slice kb nk lc, .slice fb nf gc] 67)).heap[w.heap.size + 1]? = some (.cells #[.int .i64 kd, .int .i64 nn, .int .i64 pp, .string tx, .slice ib ni jc, .slice kb nk lc, .slice fb nf gc] 67 (0, 0)) := by
    have := blk_new (w.alloc (.cells #[.int .i64 kd, .int .i64 nn, .int .i64 pp, .string tx, .slice ia ni ic, .slice ka nk kc, .slice fa nf fc] 67)) (.cells #[.int .i64 kd, .int .i64 nn, .int .i64 pp, .string tx, .slice ib ni jc, .slice kb nk lc, .slice fb nf gc] 67)
    rw [World.size_alloc] at this
    exact this
  generalize (w.alloc (.cells #[.int .i64 kd, .int .i64 nn, .int .i64 pp, .string tx, .slice ia ni ic, .slice ka nk kc, .slice fa nf fc] 67)).alloc (.cells #[.int .i64 kd, .int .i64 nn, .int .i64 pp, .string tx, .slice ib ni jc, .slice kb nk lc, .slice fb nf gc] 67) = w2 at b2 hx0 hx1 ⊢
  have HB2 := hide b2
  have HX0 := hide hx0
  have HX1 := hide hx1
  have hs2 : w.heap.size + 1 < w2.heap.size := lt_of_block hx1
  clear b2 hx0 hx1
  go_loopw [5] (fun i wr => ∃ (m : Nat), m ≤ nf ∧ i = .int .i64 m ∧ Hid (Below w2.heap.size w2 wr)) (fun i _ => nf - (intOf i).toNat)
  case atStart => exact ⟨0, Nat.zero_le _, rfl, Below.refl _ _⟩
  case round =>
    obtain ⟨m, hm, rfl, HB⟩ := hrel
    have c6 : wr.cell? ⟨w.heap.size, 6, none⟩ = some (.slice fa nf fc) := by rw [HB.out.cell (by show w.heap.size < _; omega), cell_blk HX0.out]; rfl
    have e6 : wr.cell? ⟨w.heap.size + 1, 6, none⟩ = some (.slice fb nf gc) := by rw [HB.out.cell hs2, cell_blk HX1.out]; rfl
    rcases Nat.eq_or_lt_of_le hm with hm | hm
    · subst hm
      go_wp2
      have HB3 := HB
      clear HB c6 e6
      generalize wr = w3 at *
      go_loopw [6, 7] (fun i _ wr => ∃ (m : Nat), m ≤ ni ∧ i = .int .i64 m ∧ Hid (Below w2.heap.size w2 wr)) (fun i _ _ => ni - (intOf i).toNat)
      case atStart => exact ⟨0, Nat.zero_le _, rfl, HB3.out⟩
      case round =>
        obtain ⟨j, hj, rfl, HB⟩ := hrel
        have c4 : wr.cell? ⟨w.heap.size, 4, none⟩ = some (.slice ia ni ic) := by rw [HB.out.cell (by show w.heap.size < _; omega), cell_blk HX0.out]; rfl
        have e4 : wr.cell? ⟨w.heap.size + 1, 4, none⟩ = some (.slice ib ni jc) := by rw [HB.out.cell hs2, cell_blk HX1.out]; rfl
        have c5 : wr.cell? ⟨w.heap.size, 5, none⟩ = some (.slice ka nk kc) := by rw [HB.out.cell (by show w.heap.size < _; omega), cell_blk HX0.out]; rfl
        have e5 : wr.cell? ⟨w.heap.size + 1, 5, none⟩ = some (.slice kb nk lc) := by rw [HB.out.cell hs2, cell_blk HX1.out]; rfl
        rcases Nat.eq_or_lt_of_le hj with hj | hj
        · subst hj
          go_wp2
          go_ret
          exact ⟨rfl, HB2.out.trans (HB.out.mono (by omega))⟩
        · obtain ⟨y, hy⟩ : ∃ y, V.items[j]? = some y := ⟨_, List.getElem?_eq_getElem (by rw [HNI.out]; exact hj)⟩
          obtain ⟨g, c, x, hge, _, _, hx, hxc⟩ := HAI.out.at hy
          obtain ⟨g2, c2, x2, hge2, _, _, hx2, hxc2⟩ := HBI.out.at hy
          rw [HNI.out] at hge hge2
          cases hge
          cases hge2
          have hw3 : Below w.heap.size w wr := HB2.out.trans (HB.out.mono (by omega))
          have hyk := HKY.out y (List.mem_of_getElem? hy)
          obtain ⟨k0, k1, k2, k3, ja, jl, jcc, ka2, kl, kc2, fa2, fl, fc2, hxf⟩ := VIn.form hx
          obtain ⟨l0, l1, l2, l3, la, ll, lcc, lb2, ml, mc2, ga2, gl, gc2, hxg⟩ := VIn.form hx2
          have HD : Hid (∀ W, Below w2.heap.size w2 W → W.cell? ⟨g, j * 7, none⟩ = some (.int .i64 k0) ∧ W.cell? ⟨g, j * 7 + 1, none⟩ = some (.int .i64 k1) ∧ W.cell? ⟨g, j * 7 + 2, none⟩ = some (.int .i64 k2) ∧ W.cell? ⟨g, j * 7 + 3, none⟩ = some (.string k3) ∧ W.cell? ⟨g, j * 7 + 4, none⟩ = some (.slice ja jl jcc) ∧ W.cell? ⟨g, j * 7 + 5, none⟩ = some (.slice ka2 kl kc2) ∧ W.cell? ⟨g, j * 7 + 6, none⟩ = some (.slice fa2 fl fc2)) := fun W hW => by
            have hold : ∀ {j : Nat} {u : Value}, w.cell? ⟨g, j, none⟩ = some u → W.cell? ⟨g, j, none⟩ = some u := fun {j u} h => by rw [(HB2.out.trans (hW.mono (by omega))).cell (World.block_lt_of_cell? w _ h)]; exact h
            exact ⟨hold (hxc 0 _ (by rw [hxf]; rfl)), hold (hxc 1 _ (by rw [hxf]; rfl)), hold (hxc 2 _ (by rw [hxf]; rfl)), hold (hxc 3 _ (by rw [hxf]; rfl)), hold (hxc 4 _ (by rw [hxf]; rfl)), hold (hxc 5 _ (by rw [hxf]; rfl)), hold (hxc 6 _ (by rw [hxf]; rfl))⟩
          have HE : Hid (∀ W, Below w2.heap.size w2 W → W.cell? ⟨g2, j * 7, none⟩ = some (.int .i64 l0) ∧ W.cell? ⟨g2, j * 7 + 1, none⟩ = some (.int .i64 l1) ∧ W.cell? ⟨g2, j * 7 + 2, none⟩ = some (.int .i64 l2) ∧ W.cell? ⟨g2, j * 7 + 3, none⟩ = some (.string l3) ∧ W.cell? ⟨g2, j * 7 + 4, none⟩ = some (.slice la ll lcc) ∧ W.cell? ⟨g2, j * 7 + 5, none⟩ = some (.slice lb2 ml mc2) ∧ W.cell? ⟨g2, j * 7 + 6, none⟩ = some (.slice ga2 gl gc2)) := fun W hW => by
            have hold : ∀ {j : Nat} {u : Value}, w.cell? ⟨g2, j, none⟩ = some u → W.cell? ⟨g2, j, none⟩ = some u := fun {j u} h => by rw [(HB2.out.trans (hW.mono (by omega))).cell (World.block_lt_of_cell? w _ h)]; exact h
            exact ⟨hold (hxc2 0 _ (by rw [hxg]; rfl)), hold (hxc2 1 _ (by rw [hxg]; rfl)), hold (hxc2 2 _ (by rw [hxg]; rfl)), hold (hxc2 3 _ (by rw [hxg]; rfl)), hold (hxc2 4 _ (by rw [hxg]; rfl)), hold (hxc2 5 _ (by rw [hxg]; rfl)), hold (hxc2 6 _ (by rw [hxg]; rfl))⟩
          have HC4 : Hid (∀ W, Below w2.heap.size w2 W → W.cell? ⟨w.heap.size, 4, none⟩ = some (.slice (some ⟨g, 0, none⟩) ni ic) ∧ W.cell? ⟨w.heap.size + 1, 4, none⟩ = some (.slice (some ⟨g2, 0, none⟩) ni jc)) := fun W hW => ⟨by rw [hW.cell (by show w.heap.size < _; omega), cell_blk HX0.out]; rfl, by rw [hW.cell hs2, cell_blk HX1.out]; rfl⟩
          have HCALL : Hid (∀ W, Below w2.heap.size w2 W → SameOk W x x2) := fun W hW => by
            have hbw := HB2.out.trans (hW.mono (by omega))
            exact IH.out P Q W x x2 y (VIn.keep k hx (fun g _ hg => hbw.block g hg)) (VIn.keep k hx2 (fun g _ hg => hbw.block g hg)) hyk
          unfold SameOk at HCALL
          subst hxf
          subst hxg
          have hjl : IntKind.i64.wrap ((j : Int) + 1) = ((j + 1 : Nat) : Int) := by rw [IntKind.wrap_i64]; omega
          clear hx hx2 hxc hxc2 hyk hw3
          rcases hkk with hkk | hkk
          · have hnk0 : decide ((nk : Int) > 0) = false := by simp; omega
            have hnk1 : decide ((0 : Int) < (nk : Int)) = false := by simp; omega
            have hnk2 : ¬ 0 < nk := by omega
            clear hkk
            go_wp2
            go_quiet (fail)
            go_wp2
            have HBq := hide (belowQ HB.out nq)
            generalize wr.drewN nq = wq at *
            clear c4 e4 c5 e5
            refine wp_region_T (fun _ W => Below w2.heap.size w2 W) (by kernel_rfl) ?_
            intro hD
            have hS : Below w2.heap.size w2 wq.drew := HBq.out.drew
            refine wpAnyT_take (i := 0) (v := ?_) rfl (by kernel_rfl) (by kernel_rfl) (by kernel_rfl) (fun _ _ _ h => h) (fun _ _ h => h) (fun _ _ h => h) hD (Or.inl ⟨by rfl, ?_⟩) hS ?_
            rotate_left
            · intro W hW; go_simp; try (with_reducible rfl)
            clear hD hS; intro hD hS; (try simp only [Act.put, List.setIfInBounds_toArray, List.set_cons_zero, List.set_cons_succ, List.getElem_toArray, List.getElem_cons_succ, List.getElem_cons_zero])
            refine wpAnyT_take (i := 1) (v := ?_) rfl (by kernel_rfl) (by kernel_rfl) (by kernel_rfl) (fun _ _ _ h => h) (fun _ _ h => h) (fun _ _ h => h) hD (Or.inl ⟨by rfl, ?_⟩) hS ?_
            rotate_left
            · intro W hW; obtain ⟨_, _, _, hb⟩ := hW; obtain ⟨q4, r4⟩ := HC4.out W hb; go_simp; try (with_reducible rfl)
            clear hD hS; intro hD hS; (try simp only [Act.put, List.setIfInBounds_toArray, List.set_cons_zero, List.set_cons_succ, List.getElem_toArray, List.getElem_cons_succ, List.getElem_cons_zero])
            refine wpAnyT_take (i := 2) (v := ?_) rfl (by kernel_rfl) (by kernel_rfl) (by kernel_rfl) (fun _ _ _ h => h) (fun _ _ h => h) (fun _ _ h => h) hD (Or.inl ⟨by rfl, ?_⟩) hS ?_
            rotate_left
            · intro W hW; go_simp; try (with_reducible rfl)
            clear hD hS; intro hD hS; (try simp only [Act.put, List.setIfInBounds_toArray, List.set_cons_zero, List.set_cons_succ, List.getElem_toArray, List.getElem_cons_succ, List.getElem_cons_zero])
            refine wpAnyT_take (i := 3) (v := ?_) rfl (by kernel_rfl) (by kernel_rfl) (by kernel_rfl) (fun _ _ _ h => h) (fun _ _ h => h) (fun _ _ h => h) hD (Or.inl ⟨by rfl, ?_⟩) hS ?_
            rotate_left
            · intro W hW; go_simp; try (with_reducible rfl)
            clear hD hS; intro hD hS; (try simp only [Act.put, List.setIfInBounds_toArray, List.set_cons_zero, List.set_cons_succ, List.getElem_toArray, List.getElem_cons_succ, List.getElem_cons_zero])
            refine wpAnyT_take (i := 4) (v := ?_) rfl (by kernel_rfl) (by kernel_rfl) (by kernel_rfl) (fun _ _ _ h => h) (fun _ _ h => h) (fun _ _ h => h) hD (Or.inl ⟨by rfl, ?_⟩) hS ?_
            rotate_left
            · intro W hW; obtain ⟨_, _, _, hb⟩ := hW; obtain ⟨q0, q1, q2, q3, q4, q5, q6⟩ := HD.out W hb; go_simp; try (with_reducible rfl)
            clear hD hS; intro hD hS; (try simp only [Act.put, List.setIfInBounds_toArray, List.set_cons_zero, List.set_cons_succ, List.getElem_toArray, List.getElem_cons_succ, List.getElem_cons_zero])
            refine wpAnyT_take (i := 5) (v := ?_) rfl (by kernel_rfl) (by kernel_rfl) (by kernel_rfl) (fun _ _ _ h => h) (fun _ _ h => h) (fun _ _ h => h) hD (Or.inl ⟨by rfl, ?_⟩) hS ?_
            rotate_left
            · intro W hW; go_simp; try (with_reducible rfl)
            clear hD hS; intro hD hS; (try simp only [Act.put, List.setIfInBounds_toArray, List.set_cons_zero, List.set_cons_succ, List.getElem_toArray, List.getElem_cons_succ, List.getElem_cons_zero])
            refine wpAnyT_take (i := 6) (v := ?_) rfl (by kernel_rfl) (by kernel_rfl) (by kernel_rfl) (fun _ _ _ h => h) (fun _ _ h => h) (fun _ _ h => h) hD (Or.inl ⟨by rfl, ?_⟩) hS ?_
            rotate_left
            · intro W hW; obtain ⟨_, _, _, hb⟩ := hW; obtain ⟨q4, r4⟩ := HC4.out W hb; go_simp; try (with_reducible rfl)
            clear hD hS; intro hD hS; (try simp only [Act.put, List.setIfInBounds_toArray, List.set_cons_zero, List.set_cons_succ, List.getElem_toArray, List.getElem_cons_succ, List.getElem_cons_zero])
            refine wpAnyT_take (i := 7) (v := ?_) rfl (by kernel_rfl) (by kernel_rfl) (by kernel_rfl) (fun _ _ _ h => h) (fun _ _ h => h) (fun _ _ h => h) hD (Or.inl ⟨by rfl, ?_⟩) hS ?_
            rotate_left
            · intro W hW; go_simp; try (with_reducible rfl)
            clear hD hS; intro hD hS; (try simp only [Act.put, List.setIfInBounds_toArray, List.set_cons_zero, List.set_cons_succ, List.getElem_toArray, List.getElem_cons_succ, List.getElem_cons_zero])
            refine wpAnyT_take (i := 8) (v := ?_) rfl (by kernel_rfl) (by kernel_rfl) (by kernel_rfl) (fun _ _ _ h => h) (fun _ _ h => h) (fun _ _ h => h) hD (Or.inl ⟨by rfl, ?_⟩) hS ?_
            rotate_left
            · intro W hW; go_simp; try (with_reducible rfl)
            clear hD hS; intro hD hS; (try simp only [Act.put, List.setIfInBounds_toArray, List.set_cons_zero, List.set_cons_succ, List.getElem_toArray, List.getElem_cons_succ, List.getElem_cons_zero])
            refine wpAnyT_take (i := 9) (v := ?_) rfl (by kernel_rfl) (by kernel_rfl) (by kernel_rfl) (fun _ _ _ h => h) (fun _ _ h => h) (fun _ _ h => h) hD (Or.inl ⟨by rfl, ?_⟩) hS ?_
            rotate_left
            · intro W hW; obtain ⟨_, _, _, hb⟩ := hW; obtain ⟨q0, q1, q2, q3, q4, q5, q6⟩ := HE.out W hb; go_simp; try (with_reducible rfl)
            clear hD hS; intro hD hS; (try simp only [Act.put, List.setIfInBounds_toArray, List.set_cons_zero, List.set_cons_succ, List.getElem_toArray, List.getElem_cons_succ, List.getElem_cons_zero])
            refine wpAnyT_one (i := 10) (by kernel_rfl) rfl hD (fun K' hK => ?_)
            go_simp
            refine (HCALL.out _ HBq.out.drew).mono ?_
            rintro e w4 ⟨rfl, b4⟩
            have HB4 : Hid (Below w2.heap.size w2 w4) := HBq.out.drew.trans (b4.mono (by simpa using HBq.out.size))
            clear b4
            refine hK.out _ _ HB4.out (fun hD2 hS2 => ?_)
            clear hD hS hK K'
            have hD := hD2
            have hS := hS2
            clear hD2 hS2
            (try simp only [Act.put, List.setIfInBounds_toArray, List.set_cons_zero, List.set_cons_succ, List.getElem_toArray, List.getElem_cons_succ, List.getElem_cons_zero])
            refine wpAnyT_one (i := 11) (by kernel_rfl) rfl hD (fun K' hK => ?_)
            go_simp
            refine hK.out _ _ HB4.out (fun hD2 hS2 => ?_)
            clear hD hS hK K'
            have hD := hD2
            have hS := hS2
            clear hD2 hS2
            (try simp only [Act.put, List.setIfInBounds_toArray, List.set_cons_zero, List.set_cons_succ, List.getElem_toArray, List.getElem_cons_succ, List.getElem_cons_zero])
            refine wpAnyT_done (by kernel_rfl) ?_ _
            clear hD hS
            go_wp2
            go_roundw
            case rel => exact ⟨j + 1, by omega, by first | rfl | (congr 1), HB4.out⟩
            case measure => simp [intOf]; omega
          · obtain ⟨s, hs⟩ : ∃ s, V.keys[j]? = some s := ⟨_, List.getElem?_eq_getElem (by rw [HNK.out]; omega)⟩
            have hsm : (V.keys.map fun s => Value.string (strN s))[j]? = some (.string (strN s)) := by rw [List.getElem?_map, hs]; rfl
            obtain ⟨g3, c3, hge3, hgc3⟩ := row_one HAK.out hsm
            obtain ⟨g4, c4', hge4, hgc4⟩ := row_one HBK.out hsm
            cases hge3
            cases hge4
            have hw3 : Below w.heap.size w wr := HB2.out.trans (HB.out.mono (by omega))
            have y1 : wr.cell? ⟨g3, j, none⟩ = some (.string (strN s)) := by rw [hw3.cell (World.block_lt_of_cell? w _ hgc3)]; exact hgc3
            have y2 : wr.cell? ⟨g4, j, none⟩ = some (.string (strN s)) := by rw [hw3.cell (World.block_lt_of_cell? w _ hgc4)]; exact hgc4
            generalize strN s = sb at *
            have hnk0 : decide ((nk : Int) > 0) = true := by simp; omega
            have hnk1 : decide ((0 : Int) < (nk : Int)) = true := by simp; omega
            have hnk2 : 0 < nk := by omega
            clear hsm hs hgc3 hgc4 hw3
            go_wp2
            go_quiet (fail)
            go_wp2
            have HBq := hide (belowQ HB.out nq)
            generalize wr.drewN nq = wq at *
            clear c4 e4 c5 e5 y1 y2
            refine wp_region_T (fun _ W => Below w2.heap.size w2 W) (by kernel_rfl) ?_
            intro hD
            have hS : Below w2.heap.size w2 wq.drew := HBq.out.drew
            refine wpAnyT_take (i := 0) (v := ?_) rfl (by kernel_rfl) (by kernel_rfl) (by kernel_rfl) (fun _ _ _ h => h) (fun _ _ h => h) (fun _ _ h => h) hD (Or.inl ⟨by rfl, ?_⟩) hS ?_
            rotate_left
            · intro W hW; go_simp; try (with_reducible rfl)
            clear hD hS; intro hD hS; (try simp only [Act.put, List.setIfInBounds_toArray, List.set_cons_zero, List.set_cons_succ, List.getElem_toArray, List.getElem_cons_succ, List.getElem_cons_zero])
            refine wpAnyT_take (i := 1) (v := ?_) rfl (by kernel_rfl) (by kernel_rfl) (by kernel_rfl) (fun _ _ _ h => h) (fun _ _ h => h) (fun _ _ h => h) hD (Or.inl ⟨by rfl, ?_⟩) hS ?_
            rotate_left
            · intro W hW; obtain ⟨_, _, _, hb⟩ := hW; obtain ⟨q4, r4⟩ := HC4.out W hb; go_simp; try (with_reducible rfl)
            clear hD hS; intro hD hS; (try simp only [Act.put, List.setIfInBounds_toArray, List.set_cons_zero, List.set_cons_succ, List.getElem_toArray, List.getElem_cons_succ, List.getElem_cons_zero])
            refine wpAnyT_take (i := 2) (v := ?_) rfl (by kernel_rfl) (by kernel_rfl) (by kernel_rfl) (fun _ _ _ h => h) (fun _ _ h => h) (fun _ _ h => h) hD (Or.inl ⟨by rfl, ?_⟩) hS ?_
            rotate_left
            · intro W hW; go_simp; try (with_reducible rfl)
            clear hD hS; intro hD hS; (try simp only [Act.put, List.setIfInBounds_toArray, List.set_cons_zero, List.set_cons_succ, List.getElem_toArray, List.getElem_cons_succ, List.getElem_cons_zero])
            refine wpAnyT_take (i := 3) (v := ?_) rfl (by kernel_rfl) (by kernel_rfl) (by kernel_rfl) (fun _ _ _ h => h) (fun _ _ h => h) (fun _ _ h => h) hD (Or.inl ⟨by rfl, ?_⟩) hS ?_
            rotate_left
            · intro W hW; go_simp; try (with_reducible rfl)
            clear hD hS; intro hD hS; (try simp only [Act.put, List.setIfInBounds_toArray, List.set_cons_zero, List.set_cons_succ, List.getElem_toArray, List.getElem_cons_succ, List.getElem_cons_zero])
            refine wpAnyT_take (i := 4) (v := ?_) rfl (by kernel_rfl) (by kernel_rfl) (by kernel_rfl) (fun _ _ _ h => h) (fun _ _ h => h) (fun _ _ h => h) hD (Or.inl ⟨by rfl, ?_⟩) hS ?_
            rotate_left
            · intro W hW; obtain ⟨_, _, _, hb⟩ := hW; obtain ⟨q0, q1, q2, q3, q4, q5, q6⟩ := HD.out W hb; go_simp; try (with_reducible rfl)
            clear hD hS; intro hD hS; (try simp only [Act.put, List.setIfInBounds_toArray, List.set_cons_zero, List.set_cons_succ, List.getElem_toArray, List.getElem_cons_succ, List.getElem_cons_zero])
            refine wpAnyT_take (i := 5) (v := ?_) rfl (by kernel_rfl) (by kernel_rfl) (by kernel_rfl) (fun _ _ _ h => h) (fun _ _ h => h) (fun _ _ h => h) hD (Or.inl ⟨by rfl, ?_⟩) hS ?_
            rotate_left
            · intro W hW; go_simp; try (with_reducible rfl)
            clear hD hS; intro hD hS; (try simp only [Act.put, List.setIfInBounds_toArray, List.set_cons_zero, List.set_cons_succ, List.getElem_toArray, List.getElem_cons_succ, List.getElem_cons_zero])
            refine wpAnyT_take (i := 6) (v := ?_) rfl (by kernel_rfl) (by kernel_rfl) (by kernel_rfl) (fun _ _ _ h => h) (fun _ _ h => h) (fun _ _ h => h) hD (Or.inl ⟨by rfl, ?_⟩) hS ?_
            rotate_left
            · intro W hW; obtain ⟨_, _, _, hb⟩ := hW; obtain ⟨q4, r4⟩ := HC4.out W hb; go_simp; try (with_reducible rfl)
            clear hD hS; intro hD hS; (try simp only [Act.put, List.setIfInBounds_toArray, List.set_cons_zero, List.set_cons_succ, List.getElem_toArray, List.getElem_cons_succ, List.getElem_cons_zero])
            refine wpAnyT_take (i := 7) (v := ?_) rfl (by kernel_rfl) (by kernel_rfl) (by kernel_rfl) (fun _ _ _ h => h) (fun _ _ h => h) (fun _ _ h => h) hD (Or.inl ⟨by rfl, ?_⟩) hS ?_
            rotate_left
            · intro W hW; go_simp; try (with_reducible rfl)
            clear hD hS; intro hD hS; (try simp only [Act.put, List.setIfInBounds_toArray, List.set_cons_zero, List.set_cons_succ, List.getElem_toArray, List.getElem_cons_succ, List.getElem_cons_zero])
            refine wpAnyT_take (i := 8) (v := ?_) rfl (by kernel_rfl) (by kernel_rfl) (by kernel_rfl) (fun _ _ _ h => h) (fun _ _ h => h) (fun _ _ h => h) hD (Or.inl ⟨by rfl, ?_⟩) hS ?_
            rotate_left
            · intro W hW; go_simp; try (with_reducible rfl)
            clear hD hS; intro hD hS; (try simp only [Act.put, List.setIfInBounds_toArray, List.set_cons_zero, List.set_cons_succ, List.getElem_toArray, List.getElem_cons_succ, List.getElem_cons_zero])
            refine wpAnyT_take (i := 9) (v := ?_) rfl (by kernel_rfl) (by kernel_rfl) (by kernel_rfl) (fun _ _ _ h => h) (fun _ _ h => h) (fun _ _ h => h) hD (Or.inl ⟨by rfl, ?_⟩) hS ?_
            rotate_left
            · intro W hW; obtain ⟨_, _, _, hb⟩ := hW; obtain ⟨q0, q1, q2, q3, q4, q5, q6⟩ := HE.out W hb; go_simp; try (with_reducible rfl)
            clear hD hS; intro hD hS; (try simp only [Act.put, List.setIfInBounds_toArray, List.set_cons_zero, List.set_cons_succ, List.getElem_toArray, List.getElem_cons_succ, List.getElem_cons_zero])
            refine wpAnyT_one (i := 10) (by kernel_rfl) rfl hD (fun K' hK => ?_)
            go_simp
            refine (HCALL.out _ HBq.out.drew).mono ?_
            rintro e w4 ⟨rfl, b4⟩
            have HB4 : Hid (Below w2.heap.size w2 w4) := HBq.out.drew.trans (b4.mono (by simpa using HBq.out.size))
            clear b4
            refine hK.out _ _ HB4.out (fun hD2 hS2 => ?_)
            clear hD hS hK K'
            have hD := hD2
            have hS := hS2
            clear hD2 hS2
            (try simp only [Act.put, List.setIfInBounds_toArray, List.set_cons_zero, List.set_cons_succ, List.getElem_toArray, List.getElem_cons_succ, List.getElem_cons_zero])
            refine wpAnyT_one (i := 11) (by kernel_rfl) rfl hD (fun K' hK => ?_)
            go_simp
            refine hK.out _ _ HB4.out (fun hD2 hS2 => ?_)
            clear hD hS hK K'
            have hD := hD2
            have hS := hS2
            clear hD2 hS2
            (try simp only [Act.put, List.setIfInBounds_toArray, List.set_cons_zero, List.set_cons_succ, List.getElem_toArray, List.getElem_cons_succ, List.getElem_cons_zero])
            refine wpAnyT_done (by kernel_rfl) ?_ _
            clear hD hS
            go_wp2
            go_roundw
            case rel => exact ⟨j + 1, by omega, by first | rfl | (congr 1), HB4.out⟩
            case measure => simp [intOf]; omega
    · obtain ⟨f, hf⟩ : ∃ f, V.filters[m]? = some f := ⟨_, List.getElem?_eq_getElem (by rw [HNF.out]; exact hm)⟩
      have hfm : (V.filters.map fun f : Nat => Value.int .i64 (f : Int))[m]? = some (.int .i64 (f : Int)) := by rw [List.getElem?_map, hf]; rfl
      obtain ⟨g, c, hge, hgc⟩ := row_one HAF.out hfm
      obtain ⟨g2, c2, hge2, hgc2⟩ := row_one HBF.out hfm
      cases hge
      cases hge2
      have HB3 : Below w.heap.size w wr := HB2.out.trans (HB.out.mono (by omega))
      have y1 : wr.cell? ⟨g, m, none⟩ = some (.int .i64 (f : Int)) := by rw [HB3.cell (World.block_lt_of_cell? w _ hgc)]; exact hgc
      have y2 : wr.cell? ⟨g2, m, none⟩ = some (.int .i64 (f : Int)) := by rw [HB3.cell (World.block_lt_of_cell? w _ hgc2)]; exact hgc2
      clear hfm hf hgc hgc2 HB3
      go_wp2
      go_quiet (fail)
      go_wp2
      go_roundw
      case rel => exact ⟨m + 1, by omega, by first | rfl | (congr 1), belowQ HB.out _⟩
      case measure => simp [intOf]; omega
theorem same_yes : ∀ (k : Nat) (P Q : Nat → Prop) (w : World) (a b : Value) (V : VT k), VIn P k w a V → VIn Q k w b V → KeysOk V → SameOk w a b
  | 0, P, Q, w, a, b, V, h, _, _ => h.elim
  | k + 1, P, Q, w, a, b, V, ha, hb, hV => same_step (same_yes k) ha hb hV
end Go.Proofs.YtgkljcmjnphpeaaGreatDoor
