/- Four bytes against four bytes. -/
import Derived.Test.YtgkljcmjnphpeaaDoorProg
import Derived.WalkKit
import Derived.Stop.BytesEq
namespace Go.Proofs.YtgkljcmjnphpeaaDoor
open Go.RowKit

theorem size_byte (W : World) : (sizeOf 5).run Tryd.prog W = .ok 1 W := by kernel_rfl

theorem run_eq4 (a0 a1 a2 a3 b0 b1 b2 b3 : Nat) (h0 : a0 < 256) (h1 : a1 < 256) (h2 : a2 < 256) (h3 : a3 < 256) (k0 : b0 < 256) (k1 : b1 < 256) (k2 : b2 < 256) (k3 : b3 < 256) (W : World) :
    (Op.equalIn 10000 43 (.agg #[.int .u8 (a0 : Int), .int .u8 (a1 : Int), .int .u8 (a2 : Int), .int .u8 (a3 : Int)]) (.agg #[.int .u8 (b0 : Int), .int .u8 (b1 : Int), .int .u8 (b2 : Int), .int .u8 (b3 : Int)])).run Tryd.prog W = .ok (decide ([a0, a1, a2, a3] = [b0, b1, b2, b3])) W := by
  have h := run_equalIn_bytes (P := Tryd.prog) W 9998 43 5 4 Tryd.underlying43 Tryd.underlying5 size_byte [UInt8.ofNat a0, UInt8.ofNat a1, UInt8.ofNat a2, UInt8.ofNat a3] [UInt8.ofNat b0, UInt8.ofNat b1, UInt8.ofNat b2, UInt8.ofNat b3] rfl rfl
  have e : ∀ n : Nat, n < 256 → (UInt8.ofNat n).toNat = n := fun n hn => by simp [Nat.mod_eq_of_lt hn]
  have inj : ∀ m n : Nat, m < 256 → n < 256 → (UInt8.ofNat m = UInt8.ofNat n ↔ m = n) := fun m n hm hn => ⟨fun h => by rw [← e m hm, ← e n hn, h], fun h => by rw [h]⟩
  have hb : ([UInt8.ofNat a0, UInt8.ofNat a1, UInt8.ofNat a2, UInt8.ofNat a3] == [UInt8.ofNat b0, UInt8.ofNat b1, UInt8.ofNat b2, UInt8.ofNat b3]) = decide ([a0, a1, a2, a3] = [b0, b1, b2, b3]) := by
    rw [Bool.eq_iff_iff, beq_iff_eq, decide_eq_true_iff]
    simp only [List.cons.injEq, and_true, inj a0 b0 h0 k0, inj a1 b1 h1 k1, inj a2 b2 h2 k2, inj a3 b3 h3 k3]
  rw [hb] at h
  simp only [List.map_cons, List.map_nil, Extern.Stop.cell, e _ h0, e _ h1, e _ h2, e _ h3, e _ k0, e _ k1, e _ k2, e _ k3] at h
  rw [show (9998 + 2 : Nat) = 10000 from rfl] at h
  exact h
end Go.Proofs.YtgkljcmjnphpeaaDoor
