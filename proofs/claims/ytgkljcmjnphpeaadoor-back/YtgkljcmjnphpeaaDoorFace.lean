/- folio.Decode: the face, where what a reader gave up with is caught. -/
import Derived.Test.YtgkljcmjnphpeaaDoorFlate
import Derived.Test.YtgkljcmjnphpeaaDoorHexE
import Derived.Defers
import Derived.Recover
import Derived.Laws.Pointers
set_option linter.unusedVariables false
set_option linter.unusedSimpArgs false
namespace Go.Proofs.YtgkljcmjnphpeaaDoor
open Go.RowKit
variable {B br bf bd off cap : Nat} {d : List Nat} {most : Nat} {w : World}

theorem Rd.start (hbd : bd < w.heap.size) (hd : ∀ i, i < d.length → w.cell? ⟨bd, off + i, none⟩ = some (.int .u8 (nth d i : Nat))) (hb : ∀ i, i < d.length → nth d i < 256) (hc : d.length ≤ cap) (hl : cap ≤ 9223372036854775807) (hm : most ≤ 1000000) :
    Rd w.heap.size w.heap.size bd off cap d most (w.alloc (.cells #[.slice (some ⟨bd, off, none⟩) d.length cap, .int .i64 0, .slice none 0 0, .int .i64 most] 41 (0, 0))) 0 (.slice none 0 0) [] :=
  ⟨hbd, Nat.le_refl _, blk_new _ _, fun i hi => by rw [World.cell?_alloc_lt _ _ _ hbd]; exact hd i hi, World.ownsRow_nil _ _ _ _, hb, hc, hl, hm, Nat.zero_le _, Nat.zero_le _⟩

theorem keptBelowNew {e : Nat} {w w' : World} {o : Obj} (k : Kept e w.heap.size [w.heap.size] (w.alloc o) w') : Below w.heap.size w w' :=
  ((Below.refl _ _).alloc (Nat.le_refl _) o).trans (k.below (by simp) (by simp))

theorem fdec4_bad (hbd : bd < w.heap.size) (hd : ∀ i, i < d.length → w.cell? ⟨bd, off + i, none⟩ = some (.int .u8 (nth d i : Nat))) (hb : ∀ i, i < d.length → nth d i < 256) (hc : d.length ≤ cap) (hlc : cap ≤ 9223372036854775807) (hm : most ≤ 1000000)
    (hl : 2 ≤ d.length) (d0 : nth d 0 = 120) (d1 : nth d 1 = 156) {r : List Bool} {data : List Nat}
    (hbk : Blocks 32768 most (Fo.bitsOf (d.drop 2)) [] r data) (t : List Nat) (ht4 : t.length = 4) (htb : ∀ i, i < 4 → nth t i < 256) (hr : r.drop (r.length % 8) = Fo.bitsOf t) (hne : t ≠ sum4 data) (hdb : ∀ i, i < data.length → nth data i < 256) :
    Calls Tryd.prog 14 #[.int .i64 4, .slice (some ⟨bd, off, none⟩) d.length cap, .int .i64 most] w fun e w' => e = .panicked [{ v := .iface 26 (.int .i64 5), recovered := false }] ∧ Below w.heap.size w w' := by
  have R := Rd.start hbd hd hb hc hlc hm
  have HC := hide (decodeFlate_bad R hl d0 d1 hbk t ht4 htb hr hne hdb)
  clear R hbk hr hne hdb htb hd hb d0 d1
  go_enter Tryd.func14, Tryd.ntmps14
  go_wp2_with fail
  refine HC.out.mono ?_
  rintro e w1 ⟨rfl, k1⟩
  exact ⟨rfl, rfl, keptBelowNew k1⟩

theorem fdec1_ok (hbd : bd < w.heap.size) (hd : ∀ i, i < d.length → w.cell? ⟨bd, off + i, none⟩ = some (.int .u8 (nth d i : Nat))) (hb : ∀ i, i < d.length → nth d i < 256) (hc : d.length ≤ cap) (hlc : cap ≤ 9223372036854775807) (hm : most ≤ 1000000)
    (l : List Nat) (hl : ∀ i, i < l.length → nth l i < 256) (he : d = Fo.hexOf l ++ [62]) (hlm : l.length ≤ most) :
    Calls Tryd.prog 14 #[.int .i64 1, .slice (some ⟨bd, off, none⟩) d.length cap, .int .i64 most] w fun e w' => ∃ v, e = .returned v ∧ w'.ownsRow w.heap.size 5 1 v l.length (l.map fun x : Nat => .int .u8 (x : Int)) ∧ Below w.heap.size w w' := by
  have R := Rd.start hbd hd hb hc hlc hm
  have HC := hide (decodeHex_ok l hl he R hlm)
  clear R hd hb he hl
  go_enter Tryd.func14, Tryd.ntmps14
  go_wp2_with fail
  refine HC.out.mono ?_
  rintro e w1 ⟨rfl, ov, r1, k1⟩
  have c2 := r1.c2
  go_wp2
  go_ret
  exact ⟨ov, rfl, r1.own, keptBelowNew k1⟩
end Go.Proofs.YtgkljcmjnphpeaaDoor
namespace Go.Proofs.YtgkljcmjnphpeaaDoor
open Go.RowKit
variable {w : World}

theorem run_assert (n : Int) (w : World) : (Instr.typeAssert (.iface 26 (.int .i64 n)) 20 26 true).run Tryd.prog w = .ok (.tuple #[.int .i64 n, .bool true]) w := by kernel_rfl

theorem own_base {w : World} {B B' e n size : Nat} {v : Value} {xs : List Value} (h : w.ownsRow B e size v n xs) (hb : B' ≤ B) : w.ownsRow B' e size v n xs := by
  obtain ⟨h1, h2⟩ := h
  refine ⟨h1, ?_⟩
  rcases h2 with h2 | ⟨g, cap, cur, hv, hg, r⟩
  · exact Or.inl h2
  · exact Or.inr ⟨g, cap, cur, hv, by omega, r⟩
theorem own_far {w : World} {B e n size k : Nat} {v : Value} {xs : List Value} (h : w.ownsRow B e size v n xs) (hk : k < B) : v.ownBlock ≠ some k := by
  intro he; have := (h.lt k he).1; omega

set_option maxRecDepth 100000 in
theorem told_ok (n k : Int) (w : World) : Calls Tryd.prog 13 #[.iface 26 (.int .i64 n), .int .i64 k] w fun e w' => e = .returned (.int .i64 n) ∧ w' = w := by
  have ha := run_assert n
  go_enter Tryd.func13, Tryd.ntmps13
  go_wp2
  go_ret
  exact ⟨rfl, rfl⟩

theorem catch_idle (p q : Addr) (w : World) :
    CallsD Tryd.prog 12 #[.pointer (some p), .pointer (some q)] .returning w fun e u' w' => e = .returned (.tuple #[]) ∧ u' = .returning ∧ w' = w := by
  refine callsD_of_wpS Tryd.func12 rfl fun c₀ cs hu => ?_
  apply wpS_seq
  apply wpS_region
  simp [wpOpsS, go_sem, recoverD, hu, Tryd.ntmps12, Exit.thenS, Array.replicate]
  refine wpS_of_wp ?_
  go_wp2
  cases c₀
  simp_all [bodyPostS, results, Tryd.results12]

theorem catch_panicking (p q : Addr) (n : Int) (older : List PanicEntry) (w : World) (v1 v2 : Value) (hpq : p ≠ q) (h1 : w.cell? p = some v1) (h2 : w.cell? q = some v2) (f1 : w.frozen? p = false) (f2 : w.frozen? q = false) :
    CallsD Tryd.prog 12 #[.pointer (some p), .pointer (some q)] (.panicking ({ v := .iface 26 (.int .i64 n), recovered := false } :: older)) w fun e u' w' =>
      e = .returned (.tuple #[]) ∧ u' = .panicking ({ v := .iface 26 (.int .i64 n), recovered := true } :: older) ∧ w' = (w.setCell p (.slice none 0 0)).setCell q (.int .i64 n) := by
  refine callsD_of_wpS Tryd.func12 rfl fun c₀ cs hu => ?_
  apply wpS_seq
  apply wpS_region
  simp [wpOpsS, go_sem, recoverD, hu, Tryd.ntmps12, Exit.thenS, Array.replicate]
  refine wpS_of_wp ?_
  go_wp2_with (go_at_call 13; refine (told_ok _ _ _).mono ?_; rintro e w' ⟨rfl, rfl⟩)
  simp [bodyPostS, results, Tryd.results12]

/-- The face, where the reader returns. -/
theorem decode_returns (f : Nat) (hf : 1 ≤ f ∧ f ≤ 4) (bd off cap : Nat) (d : List Nat) (most : Nat) (hm : most ≤ 1000000) (hd : d.length ≤ 200000) (l : List Nat)
    (hc : ∀ W : World, Below w.heap.size w W → w.heap.size ≤ W.heap.size → Calls Tryd.prog 14 #[.int .i64 f, .slice (some ⟨bd, off, none⟩) d.length cap, .int .i64 most] W fun e w' => ∃ v, e = .returned v ∧ w'.ownsRow W.heap.size 5 1 v l.length (l.map fun x : Nat => .int .u8 (x : Int)) ∧ Below W.heap.size W w') :
    Calls Tryd.prog 8 #[.int .i64 f, .slice (some ⟨bd, off, none⟩) d.length cap, .int .i64 most] w fun e w' => ∃ v, e = .returned (.tuple #[v, .int .i64 0]) ∧ w'.ownsRow w.heap.size 5 1 v l.length (l.map fun x : Nat => .int .u8 (x : Int)) ∧ Below w.heap.size w w' := by
  have hmf : ∀ (fn : Fn) (first cap : Array Value) (w : World), (Instr.makeFunc fn first cap).run Tryd.prog w = .ok (.func fn first cap) w := fun _ _ _ _ => rfl
  have HC := hide hc
  clear hc
  go_enter_defers Tryd.func8, Tryd.ntmps8
  go_wp2_with (go_at_call 10; refine (within_int_yes _ _ _ _ (by omega) (by omega)).mono ?_; rintro e w' ⟨rfl, rfl⟩)
  refine (HC.out _ (((Below.refl _ _).alloc (Nat.le_refl _) _).alloc (by simp) _) (by simp; omega)).mono ?_
  rintro e w1 ⟨v, rfl, hown, hb⟩
  obtain ⟨ao, oc, rfl⟩ := own_slice hown
  have c1 : w1.cell? ⟨w.heap.size, 0, none⟩ = some (.slice none 0 0) := by
    rw [hb.cell (p := ⟨w.heap.size, 0, none⟩) (by simp; omega), World.cell?_alloc_lt _ _ _ (by simp), World.cell?_alloc_new]; rfl
  have c2 : w1.cell? ⟨w.heap.size + 1, 0, none⟩ = some (.int .i64 0) := by
    rw [hb.cell (p := ⟨w.heap.size + 1, 0, none⟩) (by simp)]
    simp
  have f1 : w1.frozen? ⟨w.heap.size, 0, none⟩ = false := by
    rw [hb.frozen (p := ⟨w.heap.size, 0, none⟩) (by simp; omega), World.frozen?_alloc_old _ _ _ (by simp), World.frozen?_alloc_new]
  have f2 : w1.frozen? ⟨w.heap.size + 1, 0, none⟩ = false := by
    rw [hb.frozen (p := ⟨w.heap.size + 1, 0, none⟩) (by simp)]
    simp
  go_wp2
  refine leaves_cons (f := 12) (args := #[.pointer (some ⟨w.heap.size, 0, none⟩), .pointer (some ⟨w.heap.size + 1, 0, none⟩)]) (by simp) (by simp [go_sem]) ?_
  refine (catch_idle ⟨w.heap.size, 0, none⟩ ⟨w.heap.size + 1, 0, none⟩ _).mono ?_
  rintro e u' w'' ⟨rfl, rfl, rfl⟩
  simp [Leaves, settle, results, Tryd.results8, go_sem, c1, c2, f1, f2]
  simp only [World.size_alloc] at hown hb
  refine ⟨own_base (ownsRow_setCell_other (ownsRow_setCell_other hown (own_far hown (by simp; omega)) _) (own_far hown (by simp)) _) (by omega), ?_⟩
  exact (((((Below.refl _ _).alloc (Nat.le_refl _) _).alloc (by simp) _).trans (hb.mono (by omega))).setCell (by simp) _).setCell (by simp) _

/-- The face, where the reader gave up. -/
theorem decode_panics (f : Nat) (hf : 1 ≤ f ∧ f ≤ 4) (bd off cap : Nat) (d : List Nat) (most : Nat) (hm : most ≤ 1000000) (hd : d.length ≤ 200000) (n : Int)
    (hc : ∀ W : World, Below w.heap.size w W → w.heap.size ≤ W.heap.size → Calls Tryd.prog 14 #[.int .i64 f, .slice (some ⟨bd, off, none⟩) d.length cap, .int .i64 most] W fun e w' => e = .panicked [{ v := .iface 26 (.int .i64 n), recovered := false }] ∧ Below W.heap.size W w') :
    Calls Tryd.prog 8 #[.int .i64 f, .slice (some ⟨bd, off, none⟩) d.length cap, .int .i64 most] w fun e w' => e = .returned (.tuple #[.slice none 0 0, .int .i64 n]) ∧ Below w.heap.size w w' := by
  have hmf : ∀ (fn : Fn) (first cap : Array Value) (w : World), (Instr.makeFunc fn first cap).run Tryd.prog w = .ok (.func fn first cap) w := fun _ _ _ _ => rfl
  have HC := hide hc
  clear hc
  go_enter_defers Tryd.func8, Tryd.ntmps8
  go_wp2_with (go_at_call 10; refine (within_int_yes _ _ _ _ (by omega) (by omega)).mono ?_; rintro e w' ⟨rfl, rfl⟩)
  refine (HC.out _ (((Below.refl _ _).alloc (Nat.le_refl _) _).alloc (by simp) _) (by simp; omega)).mono ?_
  rintro e w1 ⟨rfl, hb⟩
  have c1 : w1.cell? ⟨w.heap.size, 0, none⟩ = some (.slice none 0 0) := by
    rw [hb.cell (p := ⟨w.heap.size, 0, none⟩) (by simp; omega), World.cell?_alloc_lt _ _ _ (by simp), World.cell?_alloc_new]; rfl
  have c2 : w1.cell? ⟨w.heap.size + 1, 0, none⟩ = some (.int .i64 0) := by
    rw [hb.cell (p := ⟨w.heap.size + 1, 0, none⟩) (by simp)]
    simp
  have f1 : w1.frozen? ⟨w.heap.size, 0, none⟩ = false := by
    rw [hb.frozen (p := ⟨w.heap.size, 0, none⟩) (by simp; omega), World.frozen?_alloc_old _ _ _ (by simp), World.frozen?_alloc_new]
  have f2 : w1.frozen? ⟨w.heap.size + 1, 0, none⟩ = false := by
    rw [hb.frozen (p := ⟨w.heap.size + 1, 0, none⟩) (by simp)]
    simp
  refine leaves_cons (f := 12) (args := #[.pointer (some ⟨w.heap.size, 0, none⟩), .pointer (some ⟨w.heap.size + 1, 0, none⟩)]) (by simp) (by simp [go_sem]) ?_
  refine (catch_panicking ⟨w.heap.size, 0, none⟩ ⟨w.heap.size + 1, 0, none⟩ n [] _ _ _ (by simp) c1 c2 f1 f2).mono ?_
  rintro e u' w'' ⟨rfl, rfl, rfl⟩
  simp [Leaves, settle, results, Tryd.results8, go_sem, c1, c2]
  simp only [World.size_alloc] at hb
  exact (((((Below.refl _ _).alloc (Nat.le_refl _) _).alloc (by simp) _).trans (hb.mono (by omega))).setCell (by simp) _).setCell (by simp) _
end Go.Proofs.YtgkljcmjnphpeaaDoor
