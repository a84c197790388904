/- filters.Decode by filters 1 and 4. -/
import Derived.Test.YtgkljcmjnphpeaaDoorFlate
import Derived.Test.YtgkljcmjnphpeaaDoorHexE
namespace Go.Proofs.YtgkljcmjnphpeaaDoor
open Go.RowKit
variable {B br bf bd off cap : Nat} {d : List Nat} {most : Nat} {w : World}

theorem Rd.start (hbd : bd < w.heap.size) (hd : ∀ i, i < d.length → w.cell? ⟨bd, off + i, none⟩ = some (.int .u8 (nth d i : Nat))) (hb : ∀ i, i < d.length → nth d i < 256) (hc : d.length ≤ cap) (hl : cap ≤ 9223372036854775807) (hm : most ≤ 1000000) :
    Rd w.heap.size w.heap.size bd off cap d most (w.alloc (.cells #[.slice (some ⟨bd, off, none⟩) d.length cap, .int .i64 0, .slice none 0 0, .int .i64 most] 41 (0, 0))) 0 (.slice none 0 0) [] :=
  ⟨hbd, Nat.le_refl _, blk_new _ _, fun i hi => by rw [World.cell?_alloc_lt _ _ _ hbd]; exact hd i hi, World.ownsRow_nil _ _ _ _, hb, hc, hl, hm, Nat.zero_le _, Nat.zero_le _⟩

theorem keptBelowNew {e : Nat} {w w' : World} {o : Obj} (k : Kept e w.heap.size [w.heap.size] (w.alloc o) w') : Below w.heap.size w w' :=
  ((Below.refl _ _).alloc (Nat.le_refl _) o).trans (k.below (by simp) (by simp))

theorem fdec4_bad (hbd : bd < w.heap.size) (hd : ∀ i, i < d.length → w.cell? ⟨bd, off + i, none⟩ = some (.int .u8 (nth d i : Nat))) (hb : ∀ i, i < d.length → nth d i < 256) (hc : d.length ≤ cap) (hlc : cap ≤ 9223372036854775807) (hm : most ≤ 1000000)
    (hl : 2 ≤ d.length) (d0 : nth d 0 = 120) (d1 : nth d 1 = 156) {r : List Bool} {data : List Nat}
    (hbk : Blocks 32768 most (Fo.bitsOf (d.drop 2)) [] r data) (t : List Nat) (ht4 : t.length = 4) (htb : ∀ i, i < 4 → nth t i < 256) (hr : r.drop (r.length % 8) = Fo.bitsOf t) (hne : t ≠ sum4 data) (hdb : ∀ i, i < data.length → nth data i < 256) :
    Calls Tryd.prog 14 #[.int .i64 4, .slice (some ⟨bd, off, none⟩) d.length cap, .int .i64 most] w fun e w' => e = .panicked [{ v := .iface 26 (.int .i64 5), recovered := false }] ∧ Below w.heap.size w w' := by
  have R := Rd.start hbd hd hb hc hlc hm
  have HC := hide (decodeFlate_bad R hl d0 d1 hbk t ht4 htb hr hne hdb)
  clear R hbk hr hne hdb htb hd hb d0 d1
  go_enter Tryd.func14, Tryd.ntmps14
  go_wp2_with fail
  refine HC.out.mono ?_
  rintro e w1 ⟨rfl, k1⟩
  exact ⟨rfl, rfl, keptBelowNew k1⟩

theorem fdec1_ok (hbd : bd < w.heap.size) (hd : ∀ i, i < d.length → w.cell? ⟨bd, off + i, none⟩ = some (.int .u8 (nth d i : Nat))) (hb : ∀ i, i < d.length → nth d i < 256) (hc : d.length ≤ cap) (hlc : cap ≤ 9223372036854775807) (hm : most ≤ 1000000)
    (l : List Nat) (hl : ∀ i, i < l.length → nth l i < 256) (he : d = Fo.hexOf l ++ [62]) (hlm : l.length ≤ most) :
    Calls Tryd.prog 14 #[.int .i64 1, .slice (some ⟨bd, off, none⟩) d.length cap, .int .i64 most] w fun e w' => ∃ v, e = .returned v ∧ w'.ownsRow w.heap.size 5 1 v l.length (l.map fun x : Nat => .int .u8 (x : Int)) ∧ Below w.heap.size w w' := by
  have R := Rd.start hbd hd hb hc hlc hm
  have HC := hide (decodeHex_ok l hl he R hlm)
  clear R hd hb he hl
  go_enter Tryd.func14, Tryd.ntmps14
  go_wp2_with fail
  refine HC.out.mono ?_
  rintro e w1 ⟨rfl, ov, r1, k1⟩
  have c2 := r1.c2
  go_wp2
  go_ret
  exact ⟨ov, rfl, r1.own, keptBelowNew k1⟩
end Go.Proofs.YtgkljcmjnphpeaaDoor
