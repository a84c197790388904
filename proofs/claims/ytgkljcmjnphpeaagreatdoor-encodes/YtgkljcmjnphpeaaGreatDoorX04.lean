/- The document's answer: Do, filter 3. -/
import Derived.Test.YtgkljcmjnphpeaaGreatDoorX03
import Derived.WalkKit
import Derived.Laws.BitsAllLaws
import Derived.BigRegion
import Derived.StillTailTactics
import Derived.Deep.MidRow
import Derived.MapKept
import Derived.Laws.AppendOwnNone
import Derived.Deep.AppendSrc
set_option linter.unusedVariables false
set_option linter.unusedSimpArgs false
namespace Go.Proofs.YtgkljcmjnphpeaaGreatDoor
open Go.RowKit
variable {w : World} {B cap : Nat} {ao : Option Addr}
namespace Fo
/-- How many bytes at the beginning are like the first, as far as one run goes. -/
def sameGo (l : List Nat) : Nat → Nat → Nat
  | 0, n => n
  | f + 1, n => if n < l.length ∧ n < 128 ∧ nth l n = nth l 0 then sameGo l f (n + 1) else n
def sameN (l : List Nat) : Nat := sameGo l 128 1
/-- How many bytes there are ahead of the first two that are the same. -/
def mixGo (l : List Nat) : Nat → Nat → Nat
  | 0, n => n
  | f + 1, n => if n < l.length ∧ n < 128 ∧ ¬ (n + 1 < l.length ∧ nth l n = nth l (n + 1)) then mixGo l f (n + 1) else n
def mixN (l : List Nat) : Nat := mixGo l 129 0
def runGo : Nat → List Nat → List Nat
  | 0, _ => [128]
  | f + 1, l => if l.length = 0 then [128] else if 1 < sameN l then (257 - sameN l) :: nth l 0 :: runGo f (l.drop (sameN l)) else (mixN l - 1) :: (l.take (mixN l) ++ runGo f (l.drop (mixN l)))
def encRun (l : List Nat) : List Nat := runGo (l.length + 1) l
theorem sameGo_le (l : List Nat) : ∀ f n, n ≤ 128 → n ≤ l.length → n ≤ sameGo l f n ∧ sameGo l f n ≤ 128 ∧ sameGo l f n ≤ l.length
  | 0, n, h1, h2 => ⟨Nat.le_refl _, h1, h2⟩
  | f + 1, n, h1, h2 => by
    unfold sameGo
    split
    · rename_i c
      have := sameGo_le l f (n + 1) (by omega) (by omega)
      omega
    · exact ⟨Nat.le_refl _, h1, h2⟩
theorem mixGo_le (l : List Nat) : ∀ f n, n ≤ 128 → n ≤ l.length → n ≤ mixGo l f n ∧ mixGo l f n ≤ 128 ∧ mixGo l f n ≤ l.length
  | 0, n, h1, h2 => ⟨Nat.le_refl _, h1, h2⟩
  | f + 1, n, h1, h2 => by
    unfold mixGo
    split
    · rename_i c
      have := mixGo_le l f (n + 1) (by omega) (by omega)
      omega
    · exact ⟨Nat.le_refl _, h1, h2⟩
theorem sameN_le (l : List Nat) (h : 0 < l.length) : 1 ≤ sameN l ∧ sameN l ≤ 128 ∧ sameN l ≤ l.length := sameGo_le l 128 1 (by omega) h
theorem mixN_le (l : List Nat) (h : 0 < l.length) (hs : ¬ 1 < sameN l) : 1 ≤ mixN l ∧ mixN l ≤ 128 ∧ mixN l ≤ l.length := by
  have h1 : ¬ (0 + 1 < l.length ∧ nth l 0 = nth l (0 + 1)) := by
    rintro ⟨a, b⟩
    apply hs
    unfold sameN
    rw [sameGo, if_pos ⟨by omega, by omega, b.symm⟩]
    have := sameGo_le l 127 (1 + 1) (by omega) (by omega)
    omega
  unfold mixN
  rw [mixGo, if_pos ⟨h, by omega, h1⟩]
  have := mixGo_le l 128 (0 + 1) (by omega) (by omega)
  omega
end Fo
def pairOf (l : List Nat) (n : Nat) : Prop := n + 1 < l.length ∧ nth l n = nth l (n + 1)
theorem pairAt_yes {l : List Nat} (hd : Dat w B ao l) (hl : l.length ≤ 1000000) (n : Nat) (hp : pairOf l n) :
    Calls Tryz.prog 201 #[.slice ao l.length cap, .int .i64 n] w fun e w' => e = .returned (.bool true) ∧ ∃ q, w' = w.drewN q := by
  obtain ⟨h1, h2⟩ := hp
  obtain ⟨b, o, rfl, _, hc⟩ := hd.at (by omega)
  have d1 := hc n (by omega)
  have d2 := hc (n + 1) h1
  rw [h2] at d1
  have t1 : decide ((n : Int) + 1 < l.length) = true := by simp; omega
  generalize nth l (n + 1) = X at *
  clear hc hd h2
  go_enter Tryz.func201, Tryz.ntmps201
  go_wp2_with fail
  go_quiet (fail)
  go_wp2
  go_ret
  exact ⟨rfl, nq, rfl⟩
theorem pairAt_no {l : List Nat} (hd : Dat w B ao l) (hl : l.length ≤ 1000000) (n : Nat) (hn : n < l.length) (hp : ¬ pairOf l n) :
    Calls Tryz.prog 201 #[.slice ao l.length cap, .int .i64 n] w fun e w' => e = .returned (.bool false) ∧ ∃ q, w' = w.drewN q := by
  by_cases h1 : n + 1 < l.length
  · have h2 : nth l n ≠ nth l (n + 1) := fun e => hp ⟨h1, e⟩
    obtain ⟨b, o, rfl, _, hc⟩ := hd.at (by omega)
    have d1 := hc n (by omega)
    have d2 := hc (n + 1) h1
    have t1 : decide ((n : Int) + 1 < l.length) = true := by simp; omega
    have t2 : ((nth l n : Int) == (nth l (n + 1) : Int)) = false := by simp; omega
    generalize nth l (n + 1) = X at *
    generalize nth l n = Y at *
    clear hc hd h2 hp
    go_enter Tryz.func201, Tryz.ntmps201
    go_wp2_with fail
    go_quiet (fail)
    go_wp2
    go_ret
    exact ⟨rfl, nq, rfl⟩
  · have t1 : decide ((n : Int) + 1 < l.length) = false := by simp; omega
    go_enter Tryz.func201, Tryz.ntmps201
    go_wp2_with fail
    go_quiet (fail)
    go_wp2
    go_ret
    exact ⟨rfl, nq, rfl⟩
end Go.Proofs.YtgkljcmjnphpeaaGreatDoor
namespace Go.Proofs.YtgkljcmjnphpeaaGreatDoor
open Go.RowKit
variable {w : World} {B cap : Nat} {ao : Option Addr}
theorem sameGo_on {l : List Nat} {k : Nat} (hk : k ≤ 128) (h : k < l.length ∧ k < 128 ∧ nth l k = nth l 0) : Fo.sameGo l (129 - k) k = Fo.sameGo l (129 - (k + 1)) (k + 1) := by
  rw [show 129 - k = (129 - (k + 1)) + 1 by omega, Fo.sameGo, if_pos h]
theorem sameGo_off {l : List Nat} {k : Nat} (hk : k ≤ 128) (h : ¬ (k < l.length ∧ k < 128 ∧ nth l k = nth l 0)) : Fo.sameGo l (129 - k) k = k := by
  rw [show 129 - k = (128 - k) + 1 by omega, Fo.sameGo, if_neg h]
theorem mixGo_on {l : List Nat} {k : Nat} (hk : k ≤ 128) (h : k < l.length ∧ k < 128 ∧ ¬ pairOf l k) : Fo.mixGo l (129 - k) k = Fo.mixGo l (129 - (k + 1)) (k + 1) := by
  unfold pairOf at h
  rw [show 129 - k = (129 - (k + 1)) + 1 by omega, Fo.mixGo, if_pos h]
theorem mixGo_off {l : List Nat} {k : Nat} (hk : k ≤ 128) (h : ¬ (k < l.length ∧ k < 128 ∧ ¬ pairOf l k)) : Fo.mixGo l (129 - k) k = k := by
  unfold pairOf at h
  rw [show 129 - k = (128 - k) + 1 by omega, Fo.mixGo, if_neg h]
set_option maxRecDepth 100000 in
set_option maxHeartbeats 1000000 in
theorem sameAhead_ok {l : List Nat} (hd : Dat w B ao l) (hl : l.length ≤ 1000000) (hB : B ≤ w.heap.size) (h0 : 0 < l.length) :
    Calls Tryz.prog 145 #[.slice ao l.length cap] w fun e w' => e = .returned (.int .i64 (Fo.sameN l : Nat)) ∧ Below w.heap.size w w' := by
  have HR : Hid (Fo.sameGo l (129 - 1) 1 = Fo.sameN l) := hide rfl
  generalize Fo.sameN l = R at *
  obtain ⟨b, o, rfl, hbB, hc⟩ := hd.at h0
  have HC := hide hc
  clear hc hd
  go_enter Tryz.func145, Tryz.ntmps145
  go_wp2
  go_loopw [3] (fun n wr => ∃ k : Nat, 1 ≤ k ∧ k ≤ 128 ∧ k ≤ l.length ∧ n = .int .i64 k ∧ Hid (Fo.sameGo l (129 - k) k = R) ∧ Below w.heap.size w wr) (fun n _ => 128 - (intOf n).toNat)
  case atStart => exact ⟨1, by omega, by omega, h0, rfl, HR, Below.refl _ _⟩
  clear HR
  case round =>
    obtain ⟨k, k1, k2, k3, rfl, HK, bl⟩ := hrel
    by_cases t1 : k < l.length
    · have t1' : decide ((k : Int) < l.length) = true := by simp; omega
      by_cases t2 : k < 128
      · have t2' : decide ((k : Int) < 128) = true := by simp; omega
        have d1 := (bl.cell (p := ⟨b, o + k, none⟩) (by show b < _; omega)).trans (HC.out k t1)
        have d2 : wr.cell? ⟨b, o, none⟩ = some (.int .u8 (nth l 0 : Nat)) := (bl.cell (p := ⟨b, o, none⟩) (by show b < _; omega)).trans (HC.out 0 h0)
        by_cases t3 : nth l k = nth l 0
        · have HN := hide ((sameGo_on k2 ⟨t1, t2, t3⟩).symm.trans HK.out)
          have t3' : ((nth l k : Int) == (nth l 0 : Int)) = true := by simp [t3]
          generalize nth l k = X at d1 t3'
          generalize nth l 0 = Y at d2 t3'
          clear t3 HK
          go_wp2_with fail
          go_quiet (fail)
          go_wp2
          go_roundw
          case rel => exact ⟨k + 1, by omega, by omega, by omega, by go_num, HN, below_drewN bl _⟩
          case measure => simp [intOf]; omega
        · have HN := hide ((sameGo_off k2 (fun c => t3 c.2.2)).symm.trans HK.out)
          have t3' : ((nth l k : Int) == (nth l 0 : Int)) = false := by simp; omega
          generalize nth l k = X at d1 t3'
          generalize nth l 0 = Y at d2 t3'
          clear t3 HK
          go_wp2_with fail
          go_quiet (fail)
          go_wp2
          go_ret
          exact ⟨ret_int (by rw [HN.out]), below_drewN bl _⟩
      · have HN := hide ((sameGo_off k2 (fun c => t2 c.2.1)).symm.trans HK.out)
        have t2' : decide ((k : Int) < 128) = false := by simp; omega
        clear HK
        go_wp2_with fail
        go_quiet (fail)
        go_wp2
        go_ret
        exact ⟨ret_int (by rw [HN.out]), below_drewN bl _⟩
    · have HN := hide ((sameGo_off k2 (fun c => t1 c.1)).symm.trans HK.out)
      have t1' : decide ((k : Int) < l.length) = false := by simp; omega
      clear HK
      go_wp2_with fail
      go_quiet (fail)
      go_wp2
      go_ret
      exact ⟨ret_int (by rw [HN.out]), below_drewN bl _⟩
set_option maxRecDepth 100000 in
set_option maxHeartbeats 1000000 in
theorem mixedAhead_ok {l : List Nat} (hd : Dat w B ao l) (hl : l.length ≤ 1000000) (hB : B ≤ w.heap.size) :
    Calls Tryz.prog 146 #[.slice ao l.length cap] w fun e w' => e = .returned (.int .i64 (Fo.mixN l : Nat)) ∧ Below w.heap.size w w' := by
  have HR : Hid (Fo.mixGo l (129 - 0) 0 = Fo.mixN l) := hide rfl
  generalize Fo.mixN l = R at *
  have HD := hide hd
  clear hd
  go_enter Tryz.func146, Tryz.ntmps146
  go_wp2
  go_loopw [3] (fun n wr => ∃ k : Nat, k ≤ 128 ∧ k ≤ l.length ∧ n = .int .i64 k ∧ Hid (Fo.mixGo l (129 - k) k = R) ∧ Below w.heap.size w wr) (fun n _ => 128 - (intOf n).toNat)
  case atStart => exact ⟨0, by omega, by omega, rfl, HR, Below.refl _ _⟩
  clear HR
  case round =>
    obtain ⟨k, k2, k3, rfl, HK, bl⟩ := hrel
    have HD2 := hide (HD.out.below bl)
    by_cases t1 : k < l.length
    · have t1' : (k : Int) < l.length := by omega
      by_cases t2 : k < 128
      · have t2' : (k : Int) < 128 := by omega
        by_cases t3 : pairOf l k
        · have HN := hide ((mixGo_off k2 (fun c => c.2.2 t3)).symm.trans HK.out)
          have T3 := hide t3
          clear t3 HK
          go_wp2_with fail
          refine (pairAt_yes HD2.out hl k T3.out).mono ?_
          rintro e w1 ⟨rfl, q, rfl⟩
          go_wp2
          go_ret
          exact ⟨ret_int (by rw [HN.out]), below_drewN bl _⟩
        · have HN := hide ((mixGo_on k2 ⟨t1, t2, t3⟩).symm.trans HK.out)
          have T3 := hide t3
          clear t3 HK
          go_wp2_with fail
          refine (pairAt_no HD2.out hl k t1 T3.out).mono ?_
          rintro e w1 ⟨rfl, q, rfl⟩
          go_wp2
          go_roundw
          case rel => exact ⟨k + 1, by omega, by omega, by go_num, HN, below_drewN bl _⟩
          case measure => simp [intOf]; omega
      · have HN := hide ((mixGo_off k2 (fun c => t2 c.2.1)).symm.trans HK.out)
        have t2' : ¬ (k : Int) < 128 := by omega
        clear HK
        go_wp2
        go_ret
        exact ⟨ret_int (by rw [HN.out]), bl⟩
    · have HN := hide ((mixGo_off k2 (fun c => t1 c.1)).symm.trans HK.out)
      have t1' : ¬ (k : Int) < l.length := by omega
      clear HK
      go_wp2
      go_ret
      exact ⟨ret_int (by rw [HN.out]), bl⟩
end Go.Proofs.YtgkljcmjnphpeaaGreatDoor
namespace Go.Proofs.YtgkljcmjnphpeaaGreatDoor
open Go.RowKit
variable {w : World}
theorem sameN_start (l : List Nat) (h : 0 < l.length) : Fo.sameGo l (129 - 0) 0 = Fo.sameN l := sameGo_on (by omega) ⟨h, by omega, rfl⟩
set_option maxRecDepth 100000 in
set_option maxHeartbeats 1000000 in
theorem ahead_ok (X : ByteArray) (h0 : 0 < X.size) (hX : X.size ≤ 200000) :
    Calls Tryz.prog 72 #[.string X] w fun e w' => e = .returned (.int .i64 (Fo.sameN (bl X) : Nat)) ∧ Below w.heap.size w w' := by
  have hl := hide (bl_len X)
  have HST := hide (sameN_start (bl X) (by rw [bl_len]; exact h0))
  generalize hR : Fo.sameN (bl X) = R at *
  clear hR
  go_enter Tryz.func72, Tryz.ntmps72
  go_wp2
  go_loopw [3] (fun i wr => ∃ k : Nat, k ≤ 128 ∧ k ≤ X.size ∧ i = .int .i64 k ∧ Hid (Fo.sameGo (bl X) (129 - k) k = R) ∧ Below w.heap.size w wr) (fun i _ => 128 - (intOf i).toNat)
  case atStart => exact ⟨0, by omega, by omega, rfl, HST, Below.refl _ _⟩
  clear HST
  case round =>
    obtain ⟨k, hk, hkX, rfl, HG, bb⟩ := hrel
    by_cases t1 : k < X.size
    · have t1' : decide ((k : Int) < X.size) = true := by simp; omega
      by_cases t2 : k < 128
      · have t2' : decide ((k : Int) < 128) = true := by simp; omega
        have hx := bl_nth X k t1
        have hx0 := bl_nth X 0 h0
        have t1I : (k : Int) < X.size := by omega
        have h0I : (0 : Int) < X.size := by omega
        by_cases t3 : nth (bl X) k = nth (bl X) 0
        · have hst := HG.out
          rw [sameGo_on hk ⟨by rw [hl.out]; exact t1, t2, t3⟩] at hst
          have HG2 := hide hst
          have t3' : ((nth (bl X) k : Int) == (nth (bl X) 0 : Int)) = true := by simp [t3]
          generalize nth (bl X) k = a at *
          generalize nth (bl X) 0 = b at *
          clear t3 hst HG
          go_wp2_with fail
          go_quiet (fail)
          go_wp2
          go_roundw
          case rel => exact ⟨k + 1, by omega, by omega, by go_num, HG2, below_drewN bb _⟩
          case measure => simp [intOf]; omega
        · have hst := HG.out
          rw [sameGo_off hk (fun h => t3 h.2.2)] at hst
          have HG2 := hide hst
          have t3' : ((nth (bl X) k : Int) == (nth (bl X) 0 : Int)) = false := by simp; omega
          generalize nth (bl X) k = a at *
          generalize nth (bl X) 0 = b at *
          clear t3 hst HG
          go_wp2_with fail
          go_quiet (fail)
          go_wp2
          go_ret
          exact ⟨by rw [HG2.out]; rfl, below_drewN bb _⟩
      · have t2' : decide ((k : Int) < 128) = false := by simp; omega
        have hst := HG.out
        rw [sameGo_off hk (fun h => t2 h.2.1)] at hst
        have HG2 := hide hst
        clear hst HG
        go_wp2_with fail
        go_quiet (fail)
        go_wp2
        go_ret
        exact ⟨by rw [HG2.out]; rfl, below_drewN bb _⟩
    · have t1' : decide ((k : Int) < X.size) = false := by simp; omega
      have hst := HG.out
      rw [sameGo_off hk (fun h => t1 (by have := h.1; rw [hl.out] at this; exact this))] at hst
      have HG2 := hide hst
      clear hst HG
      go_wp2_with fail
      go_quiet (fail)
      go_wp2
      go_ret
      exact ⟨by rw [HG2.out]; rfl, below_drewN bb _⟩
set_option maxRecDepth 100000 in
set_option maxHeartbeats 1000000 in
theorem apart_ok (X : ByteArray) (hX : X.size ≤ 200000) :
    Calls Tryz.prog 73 #[.string X] w fun e w' => e = .returned (.int .i64 (Fo.mixN (bl X) : Nat)) ∧ Below w.heap.size w w' := by
  have hl := hide (bl_len X)
  have HST : Hid (Fo.mixGo (bl X) (129 - 0) 0 = Fo.mixN (bl X)) := rfl
  generalize hR : Fo.mixN (bl X) = R at *
  clear hR
  go_enter Tryz.func73, Tryz.ntmps73
  go_wp2
  go_loopw [3] (fun i wr => ∃ k : Nat, k ≤ 128 ∧ k ≤ X.size ∧ i = .int .i64 k ∧ Hid (Fo.mixGo (bl X) (129 - k) k = R) ∧ Below w.heap.size w wr) (fun i _ => 128 - (intOf i).toNat)
  case atStart => exact ⟨0, by omega, by omega, rfl, HST, Below.refl _ _⟩
  clear HST
  case round =>
    obtain ⟨k, hk, hkX, rfl, HG, bb⟩ := hrel
    by_cases t1 : k < X.size
    · have t1I : (k : Int) < X.size := by omega
      by_cases t2 : k = 128
      · have hst := HG.out
        rw [mixGo_off hk (fun h => by omega)] at hst
        have HG2 := hide hst
        have t2' : ((k : Int) == 128) = true := by simp; omega
        clear hst HG t2
        go_wp2_with fail
        go_quiet (fail)
        go_wp2
        go_ret
        exact ⟨by rw [HG2.out]; rfl, below_drewN bb _⟩
      · have t2' : ((k : Int) == 128) = false := by simp; omega
        have hw : IntKind.i64.wrap ((k : Int) + 1) = (k : Int) + 1 := by rw [IntKind.wrap_i64]; omega
        by_cases t3 : k + 1 < X.size
        · have t3' : decide ((k : Int) + 1 < X.size) = true := by simp; omega
          have t3I : (k : Int) + 1 < X.size := by omega
          have t0I : (0 : Int) ≤ (k : Int) + 1 := by omega
          have hx2 := bl_nth X (k + 1) t3
          have hx := bl_nth X k t1
          have hx1 : ∀ h, (X[((k : Int) + 1).toNat]'h).toNat = nth (bl X) (k + 1) := fun h => bl_nthI X _ _ (by omega) h
          by_cases t4 : nth (bl X) k = nth (bl X) (k + 1)
          · have hst := HG.out
            rw [mixGo_off hk (fun h => h.2.2 ⟨by rw [hl.out]; exact t3, t4⟩)] at hst
            have HG2 := hide hst
            have t4' : ((nth (bl X) k : Int) == (nth (bl X) (k + 1) : Int)) = true := by simp [t4]
            generalize nth (bl X) (k + 1) = b at *
            generalize nth (bl X) k = a at *
            clear t4 hst HG
            go_wp2_with fail
            go_quiet (fail)
            go_wp2
            go_ret
            exact ⟨by rw [HG2.out]; rfl, below_drewN bb _⟩
          · have hst := HG.out
            rw [mixGo_on hk ⟨by rw [hl.out]; exact t1, by omega, fun h => t4 h.2⟩] at hst
            have HG2 := hide hst
            have t4' : ((nth (bl X) k : Int) == (nth (bl X) (k + 1) : Int)) = false := by simp; omega
            generalize nth (bl X) (k + 1) = b at *
            generalize nth (bl X) k = a at *
            clear t4 hst HG
            go_wp2_with fail
            go_quiet (fail)
            go_wp2
            go_roundw
            case rel => exact ⟨k + 1, by omega, by omega, by go_num, HG2, below_drewN bb _⟩
            case measure => simp [intOf]; omega
        · have t3' : decide ((k : Int) + 1 < X.size) = false := by simp; omega
          have hst := HG.out
          rw [mixGo_on hk ⟨by rw [hl.out]; exact t1, by omega, fun h => t3 (by have := h.1; rw [hl.out] at this; exact this)⟩] at hst
          have HG2 := hide hst
          clear hst HG
          go_wp2_with fail
          go_quiet (fail)
          go_wp2
          go_roundw
          case rel => exact ⟨k + 1, by omega, by omega, by go_num, HG2, below_drewN bb _⟩
          case measure => simp [intOf]; omega
    · have t1I : ¬ (k : Int) < X.size := by omega
      obtain rfl : k = X.size := by omega
      have hst := HG.out
      rw [mixGo_off hk (fun h => by have := h.1; rw [hl.out] at this; exact t1 this)] at hst
      have HG2 := hide hst
      clear hst HG
      go_wp2
      go_ret
      exact ⟨by rw [HG2.out]; rfl, bb⟩
end Go.Proofs.YtgkljcmjnphpeaaGreatDoor
namespace Go
open Go.RowKit
variable {P : Program} {w : World}
theorem run_append_own_src (base : Nat) (t tx ty e : TypeId) (i : TypeInfo) (z : Value) (bytes : Nat) (ht : P.underlying t = some (.slice e)) (hi : P.info? e = some i) (hz : i.zero = some z)
    (hsize : i.size = 1) (hby : i.bytes = bytes) (hzs : z.cells.size = 1) (v : Value) (n : Nat) (xs : List Value) (hown : w.ownsRow base e 1 v n xs)
    (x : Value) (m : Nat) (news : List Value) (hs : Src P i.size tx x m news w) (hm : 0 < m) (h63 : n + m ≤ maxLen) (hbytes : (n + m) * bytes ≤ 140737488355328) (hbase : base ≤ w.heap.size) :
    ∃ v' w', (Builtin.append_ #[t, tx] ty #[v, x]).run P w = .ok v' w' ∧ w'.ownsRow base e 1 v' (n + m) (xs ++ news) ∧ w.grownBy w' v.ownBlock := by
  subst hby
  have hl : news.length = m := by have := hs.newsLen; rw [hsize] at this; omega
  have hx : xs.length = n := by have := hown.1; omega
  have hsmall : n + m ≤ 9223372036854775807 := by simp only [maxLen] at h63; omega
  have hlen : (xs ++ news).length = (n + m) * 1 := by rw [List.length_append, hx, hl]; omega
  have grown : ∀ (old : Nat), old < n + m → ∀ (row : Option Nat),
      (w.drew.alloc (.cells ((xs ++ news).toArray ++ Builtin.zeroCells z.cells (grownCap w (n + m) old e - (n + m))) e)).ownsRow base e 1
        (.slice (some ⟨w.heap.size, 0, none⟩) (n + m) (grownCap w (n + m) old e)) (n + m) (xs ++ news) ∧
      w.grownBy (w.drew.alloc (.cells ((xs ++ news).toArray ++ Builtin.zeroCells z.cells (grownCap w (n + m) old e - (n + m))) e)) row := by
    intro old ho row
    have hge := grownCap_ge w (n + m) old e
    have hcm : grownCap w (n + m) old e ≤ maxLen := grownCap_le_maxLen w (n + m) old e h63
    refine ⟨⟨hlen, .inr ⟨w.heap.size, _, _, rfl, hbase, heap_alloc_new w.drew _, hge, hcm, ?_, ?_⟩⟩, ⟨rfl, rfl, rfl, by simp, fun k hk _ => Below.heap_alloc w.drew _ k hk⟩⟩
    · simp only [Array.size_append, List.size_toArray, size_zeroCells, hzs, hlen]
      omega
    · simp only [Array.toList_append]
      rw [← hlen]
      exact List.take_left
  rcases hown.2 with ⟨rfl, rfl⟩ | ⟨g, cap, cur, rfl, hbg, hg, hnc, hcm, hcs, htake⟩
  · obtain rfl : xs = [] := List.eq_nil_of_length_eq_zero hx
    have hr := run_append_grow_src (P := P) w t tx ty e i z ht hi hz none 0 0 [] (run_firstCells_none w.drew i.size 0 0 0) x m news hs (by omega) (by omega) (growslice_fits (by omega) hbytes)
    have hgr := grown 0 (by omega) (Value.ownBlock (.slice none 0 0))
    exact ⟨_, _, hr, hgr.1, hgr.2⟩
  · by_cases hroom : n + m ≤ cap
    · have hcz : cur.size = cap := by omega
      have hsome : ∀ j, j < news.length → (w.cell? ⟨g, 0 + n * i.size + j, none⟩).isSome = true := fun j hj => by
        rw [cell_blk hg, hsize, Array.getElem?_eq_getElem (by omega)]; rfl
      have hr := run_append_room_src (P := P) w t tx ty e i ht hi g 0 n cap x m news hs hroom hsome (fun j hj => free_blk hg)
      obtain ⟨R, h1, h2, h3⟩ := setCells_blk g e (0, 0) news (0 + n * i.size) w cur hg
      refine ⟨_, _, hr, ⟨hlen, .inr ⟨g, cap, R, rfl, hbg, h1, hroom, hcm, by omega, ?_⟩⟩, ⟨?_, ?_, ?_, by rw [setCells_size]; exact Nat.le_refl _, fun k _ hk => setCells_ne g (fun e => hk (by simp [Value.ownBlock, e])) news _ w⟩⟩
      · apply List.ext_getElem?
        intro j
        have hj := h3 j
        rw [hsize] at hj
        rw [List.getElem?_take]
        by_cases c : j < (n + m) * 1
        · rw [if_pos c, Array.getElem?_toList, hj]
          by_cases c2 : n ≤ j
          · rw [if_pos ⟨by omega, by omega, by omega⟩, List.getElem?_append_right (by omega), hx]
            congr 1; omega
          · rw [if_neg (by omega), List.getElem?_append_left (by omega), ← htake, List.getElem?_take, if_pos (by omega), Array.getElem?_toList]
        · rw [if_neg c, List.getElem?_eq_none (by omega)]
      · exact (setCells_below g 0 (Nat.zero_le _) news _ w w (Below.refl 0 w)).os
      · exact (setCells_below g 0 (Nat.zero_le _) news _ w w (Below.refl 0 w)).tape
      · exact (setCells_below g 0 (Nat.zero_le _) news _ w w (Below.refl 0 w)).output
    · have holds : ∀ j u, xs[j]? = some u → w.cell? ((⟨g, 0, none⟩ : Addr).add j) = some u := hown.cells (g := g) rfl
      have hf := run_firstCells_some (P := P) w.drew i.size n ⟨g, 0, none⟩ n cap xs (by rw [hsize]; omega) (by simpa using holds)
      have hr := run_append_grow_src (P := P) w t tx ty e i z ht hi hz (some ⟨g, 0, none⟩) n cap xs hf x m news hs (by omega) (by omega) (growslice_fits (by omega) hbytes)
      have hgr := grown cap (by omega) (Value.ownBlock (.slice (some ⟨g, 0, none⟩) n cap))
      exact ⟨_, _, hr, hgr.1, hgr.2⟩
theorem wpList_append_own_src {ops : Array Oper} {rest : List Oper} {o : Oper} {a : Act} {Q : Exit → Act → World → Prop} (hgd : o.guard = none) (s x : Operand) (t tx : TypeId)
    (ho : o.op = .call { callee := .builtin .append, args := #[s, x], argTypes := #[t, tx] })
    (base : Nat) (e : TypeId) (i : TypeInfo) (z : Value) (bytes : Nat) (ht : P.underlying t = some (.slice e)) (hi : P.info? e = some i) (hz : i.zero = some z)
    (hsize : i.size = 1) (hby : i.bytes = bytes) (hzs : z.cells.size = 1) (v : Value) (n : Nat) (xs : List Value) (hv : a.eval s = v) (hown : w.ownsRow base e 1 v n xs)
    (xv : Value) (m : Nat) (news : List Value) (hx : a.eval x = xv) (hs : Src P i.size tx xv m news w) (hm : 0 < m) (h63 : n + m ≤ maxLen) (hbytes : (n + m) * bytes ≤ 140737488355328) (hbase : base ≤ w.heap.size)
    (h : ∀ v' w', w'.ownsRow base e 1 v' (n + m) (xs ++ news) → w.grownBy w' v.ownBlock → wpList P ops Q rest (a.put o.dst v') w') : wpList P ops Q (o :: rest) a w := by
  refine wpList_plain hgd fun K hK => ?_
  obtain ⟨v', w', hrun, r1, r2⟩ := run_append_own_src (P := P) base t tx o.type e i z bytes ht hi hz hsize hby hzs v n xs hown xv m news hs hm h63 hbytes hbase
  unfold Oper.wp
  simp [execOp, ho, resolve, invoke, builtin, hv, hx, hrun, Result.andThen]
  exact hK _ _ (h v' w' r1 r2)
end Go
namespace Go.Proofs.YtgkljcmjnphpeaaGreatDoor
open Go.RowKit
variable {w : World}
theorem runGo_more : ∀ (f f' : Nat) (l : List Nat), l.length < f → l.length < f' → Fo.runGo f l = Fo.runGo f' l
  | 0, _, _, h, _ => by omega
  | _, 0, _, _, h => by omega
  | f + 1, f' + 1, l, h, h' => by
    unfold Fo.runGo
    by_cases c : l.length = 0
    · rw [if_pos c, if_pos c]
    · rw [if_neg c, if_neg c]
      by_cases c2 : 1 < Fo.sameN l
      · have := Fo.sameN_le l (by omega)
        rw [if_pos c2, if_pos c2, runGo_more f f' _ (by rw [List.length_drop]; omega) (by rw [List.length_drop]; omega)]
      · have := Fo.mixN_le l (by omega) c2
        rw [if_neg c2, if_neg c2, runGo_more f f' _ (by rw [List.length_drop]; omega) (by rw [List.length_drop]; omega)]
theorem encRun_same (l : List Nat) (h : 0 < l.length) (c : 1 < Fo.sameN l) : Fo.encRun l = [257 - Fo.sameN l, nth l 0] ++ Fo.encRun (l.drop (Fo.sameN l)) := by
  have := Fo.sameN_le l h
  unfold Fo.encRun
  rw [show Fo.runGo (l.length + 1) l = _ from rfl]
  conv => lhs; unfold Fo.runGo
  rw [if_neg (by omega), if_pos c, runGo_more l.length ((l.drop (Fo.sameN l)).length + 1) _ (by rw [List.length_drop]; omega) (by omega)]
  rfl
theorem encRun_mix (l : List Nat) (h : 0 < l.length) (c : ¬ 1 < Fo.sameN l) : Fo.encRun l = [Fo.mixN l - 1] ++ (l.take (Fo.mixN l) ++ Fo.encRun (l.drop (Fo.mixN l))) := by
  have := Fo.mixN_le l h c
  unfold Fo.encRun
  conv => lhs; unfold Fo.runGo
  rw [if_neg (by omega), if_neg c, runGo_more l.length ((l.drop (Fo.mixN l)).length + 1) _ (by rw [List.length_drop]; omega) (by omega)]
  rfl
theorem bl_part (S : ByteArray) (k n : Nat) (h : k + n ≤ S.size) : bl (S.extract k (k + n)) = ((bl S).drop k).take n := by
  unfold bl
  rw [ByteArray.data_extract, Array.toList_extract, List.extract_eq_take_drop, List.map_take, List.map_drop]
  rw [show k + n - k = n by omega]
theorem size_part (S : ByteArray) (k n : Nat) (h : k + n ≤ S.size) : (S.extract k (k + n)).size = n := by
  rw [← bl_len, bl_part S k n h, List.length_take, List.length_drop, bl_len]; omega
theorem cellOne {w : World} {x : Int} : ∀ (j : Nat) (u : Value), ([.int .u8 x] : List Value)[j]? = some u → (w.alloc (.cells #[.int .u8 x] 5)).cell? ((⟨w.heap.size, 0, none⟩ : Addr).add j) = some u := by
  intro j u hu
  match j, hu with
  | 0, hu =>
    show (w.alloc _).cell? ⟨w.heap.size, 0 + 0, none⟩ = _
    rw [World.cell?_alloc_new]; exact hu
  | j + 1, hu => simp at hu
set_option maxRecDepth 100000 in
set_option maxHeartbeats 1000000 in
theorem rdo_run (S : ByteArray) (hS : S.size ≤ 200000) :
    Calls Tryz.prog 36 #[.int .i64 3, .string S] w fun x w' => x = .returned (.string (strN (Fo.encRun (bl S)))) ∧ Kept 5 w.heap.size [] w w' := by
  obtain ⟨i0, hi, hz0, hz1, hz2⟩ := info_parts Tryz.infoByte
  have hl := hide (bl_len S)
  obtain ⟨B, hB⟩ : ∃ B, w.heap.size = B := ⟨_, rfl⟩
  rw [hB]
  have HB := hide hB
  clear hB
  go_enter Tryz.func36, Tryz.ntmps36
  go_wp2
  go_loopw [5, 8] (fun v i wr => ∃ (k : Nat) (o : List Nat), k ≤ S.size ∧ i = .int .i64 k ∧ wr.ownsRow B 5 1 v o.length (o.map fun x : Nat => .int .u8 (x : Int)) ∧ Hid (o.length ≤ 2 * k ∧ o ++ Fo.encRun ((bl S).drop k) = Fo.encRun (bl S)) ∧ Kept 5 B [] w wr) (fun _ i _ => S.size - (intOf i).toNat)
  case atStart => exact ⟨0, [], Nat.zero_le _, rfl, World.ownsRow_nil _ _ _ _, ⟨by simp, by simp⟩, Kept.refl _ _ _ _⟩
  case round =>
    obtain ⟨k, o, hk, rfl, hr, HO, kk⟩ := hrel
    have hsz := kk.size
    have hszB : Hid (B ≤ wr.heap.size) := by have := HB.out; unfold Hid; omega
    by_cases hlt : k < S.size
    · have hlt' : (k : Int) < S.size := by omega
      have hlt2 : (k : Int) ≤ S.size := by omega
      have hld : 0 < ((bl S).drop k).length := by rw [List.length_drop, hl.out]; omega
      have hld2 : Hid (((bl S).drop k).length = S.size - k) := by unfold Hid; rw [List.length_drop, hl.out]
      have hsN := Fo.sameN_le ((bl S).drop k) hld
      rw [hld2.out] at hsN
      have HA := hide (ahead_ok (w := wr) (S.extract k S.size) (by rw [size_tail]; omega) (by rw [size_tail]; omega))
      rw [bl_tail] at HA
      have HSM := hide (encRun_same ((bl S).drop k) hld)
      have HMX := hide (encRun_mix ((bl S).drop k) hld)
      have hmN : Hid (¬ 1 < Fo.sameN ((bl S).drop k) → 1 ≤ Fo.mixN ((bl S).drop k) ∧ Fo.mixN ((bl S).drop k) ≤ 128 ∧ Fo.mixN ((bl S).drop k) ≤ S.size - k) := fun c => by have := Fo.mixN_le _ hld c; rw [hld2.out] at this; exact this
      have hn0 : nth ((bl S).drop k) 0 = nth (bl S) k := by simp [nth]
      have hx := bl_nth S k hlt
      have hb := bl_lt S k hlt
      rw [hn0] at HSM
      generalize nth (bl S) k = b at *
      obtain ⟨n, hn⟩ : ∃ n, Fo.sameN ((bl S).drop k) = n := ⟨_, rfl⟩
      rw [hn] at hsN HA HSM HMX hmN
      clear hn hn0 hld
      go_wp2_with fail
      refine HA.out.mono ?_
      rintro e w1 ⟨rfl, b1⟩
      have hr1 := own_below hr b1
      have k1 := Kept.thenBelow kk b1
      have hszB1 : Hid (B ≤ w1.heap.size) := by have := hszB.out; have := b1.size; unfold Hid; omega
      clear hr kk b1 HA
      by_cases c1 : 1 < n
      · have c1' : (1 : Int) < n := by omega
        have gw : IntKind.u8.wrap (257 - (n : Int)) = ((257 - n : Nat) : Int) := by rw [IntKind.wrap_u8]; omega
        have hst := HSM.out c1
        rw [List.drop_drop] at hst
        have HST := hide hst
        clear HSM HMX hmN hst
        go_wp2_with (at_builtin; refine wpList_append_own _ rfl (.tmp 64) (.tmp 71) 23 rfl B 5 i0 (.int .u8 0) 1 1 Tryz.underlying23 hi hz0 hz1 hz2 rfl (by decide) _ _ _ rfl (hr1.alloc _) ⟨w1.heap.size, 0, none⟩ 2 2 ([257 - n, b].map fun x : Nat => .int .u8 (x : Int)) rfl rfl hexTwo ?c2 ?c3 ?c4 ?c5 ?_)
        case c2 => intro u hu; simp at hu; rcases hu with rfl | rfl <;> rfl
        case c3 => have := HO.out.1; unfold maxLen; omega
        case c4 => have := HO.out.1; omega
        case c5 => have := hszB1.out; simp; omega
        intro v' w2 hr2 hg2 _
        have k2 := (k1.alloc _).grown hg2 (own_row (hr1.alloc _))
        have hr3 : w2.ownsRow B 5 1 v' (o ++ [257 - n, b]).length ((o ++ [257 - n, b]).map fun x : Nat => .int .u8 (x : Int)) := by
          rw [List.map_append, List.length_append]; exact hr2
        have hR : Hid ((o ++ [257 - n, b]).length ≤ 2 * (k + n) ∧ (o ++ [257 - n, b]) ++ Fo.encRun ((bl S).drop (k + n)) = Fo.encRun (bl S)) := by
          refine ⟨by have := HO.out.1; rw [List.length_append]; simp; omega, ?_⟩
          rw [← HO.out.2, HST.out, List.append_assoc]
        clear hg2 hr1 hr2 k1 HO
        go_wp2
        go_roundw
        case rel => exact ⟨k + n, _, by omega, by go_num, hr3, hR, k2⟩
        case measure => simp [intOf]; omega
      · have c1' : ¬ (1 : Int) < n := by omega
        have HAP := hide (apart_ok (w := w1) (S.extract k S.size) (by rw [size_tail]; omega))
        rw [bl_tail] at HAP
        obtain ⟨m1, m2, m3⟩ := hmN.out c1
        have hst := HMX.out c1
        rw [List.drop_drop] at hst
        obtain ⟨m, hm⟩ : ∃ m, Fo.mixN ((bl S).drop k) = m := ⟨_, rfl⟩
        rw [hm] at HAP m1 m2 m3 hst
        have HST := hide hst
        have gw : IntKind.u8.wrap ((m : Int) - 1) = ((m - 1 : Nat) : Int) := by rw [IntKind.wrap_u8]; omega
        clear HSM HMX hmN hst hm
        go_wp2_with fail
        refine HAP.out.mono ?_
        rintro e w2 ⟨rfl, b2⟩
        have hr2 := own_below hr1 b2
        have k2 := Kept.thenBelow k1 b2
        have hszB2 : Hid (B ≤ w2.heap.size) := by have := hszB1.out; have := b2.size; unfold Hid; omega
        clear hr1 k1 b2 HAP
        have tok : True := trivial
        go_wp2_with (at_builtin; have _t := tok; refine wpList_append_own _ rfl (.tmp 77) (.tmp 81) 23 rfl B 5 i0 (.int .u8 0) 1 1 Tryz.underlying23 hi hz0 hz1 hz2 rfl (by decide) _ _ _ rfl (hr2.alloc _) ⟨w2.heap.size, 0, none⟩ 1 1 ([m - 1].map fun x : Nat => .int .u8 (x : Int)) rfl rfl ?c1 ?c2 ?c3 ?c4 ?c5 ?_; clear tok)
        case c1 => exact cellOne
        case c2 => intro u hu; simp at hu; subst hu; rfl
        case c3 => have := HO.out.1; unfold maxLen; omega
        case c4 => have := HO.out.1; omega
        case c5 => have := hszB2.out; simp; omega
        intro v' w3 hr3 hg3 _
        have k3 := (k2.alloc _).grown hg3 (own_row (hr2.alloc _))
        have hszB3 : Hid (B ≤ w3.heap.size) := by have := hszB2.out; have := hg3.size; unfold Hid; simp at this; omega
        have q1 : (k : Int) + m ≤ S.size := by omega
        have q2 : (k : Int) ≤ (k : Int) + m := by omega
        have q3 : ((k : Int) + (m : Int)).toNat = k + m := by omega
        clear hg3 hr2 k2
        have hsr : Hid (∀ W : World, Src Tryz.prog 1 9 (.string (S.extract k (k + m))) m (u8s (((bl S).drop k).take m)) W) := fun W => by
          have h := Src.ofString (w := W) Tryz.underlying9 (S.extract k (k + m))
          rw [size_part S k m (by omega), byteCells_bl, bl_part S k m (by omega)] at h
          exact h
        have htl : Hid ((((bl S).drop k).take m).length = m) := by unfold Hid; rw [List.length_take, List.length_drop, hl.out]; omega
        generalize ((bl S).drop k).take m = T at *
        go_wp2_with (at_builtin; refine wpList_append_own_src rfl (.tmp 83) (.tmp 89) 23 9 rfl B 5 i0 (.int .u8 0) 1 Tryz.underlying23 hi hz0 hz1 hz2 rfl _ _ _ rfl hr3 (.string (S.extract k (k + m))) m (u8s T) rfl (by rw [hz1]; exact hsr.out _) (by omega) ?h63 ?hby ?hbs ?_)
        case h63 => have := HO.out.1; unfold maxLen; omega
        case hby => have := HO.out.1; omega
        case hbs => exact hszB3.out
        intro v4 w4 hr4 hg4
        have k4 := k3.grown hg4 (own_row hr3)
        have hr5 : w4.ownsRow B 5 1 v4 (o ++ [m - 1] ++ T).length ((o ++ [m - 1] ++ T).map fun x : Nat => .int .u8 (x : Int)) := by
          rw [List.map_append, List.map_append, List.length_append, List.length_append, htl.out, List.append_assoc]; exact hr4
        have hR : Hid ((o ++ [m - 1] ++ T).length ≤ 2 * (k + m) ∧ (o ++ [m - 1] ++ T) ++ Fo.encRun ((bl S).drop (k + m)) = Fo.encRun (bl S)) := by
          refine ⟨by have := HO.out.1; rw [List.length_append, List.length_append, htl.out]; simp; omega, ?_⟩
          rw [← HO.out.2, HST.out, List.append_assoc, List.append_assoc]
        clear hg4 hr3 hr4 k3 HO
        go_wp2
        go_roundw
        case rel => exact ⟨k + m, _, by omega, by go_num, hr5, hR, k4⟩
        case measure => simp [intOf]; omega
    · have hlt' : ¬ (k : Int) < S.size := by omega
      have hE : Hid (o ++ [128] = Fo.encRun (bl S)) := by
        have := HO.out.2
        rw [List.drop_of_length_le (by rw [hl.out]; omega)] at this
        exact this
      have hlo : Hid (o.length ≤ 2 * k) := HO.out.1
      go_wp2_with (at_builtin; refine wpList_append_own _ rfl (.tmp 94) (.tmp 95) 23 rfl B 5 i0 (.int .u8 0) 1 1 Tryz.underlying23 hi hz0 hz1 hz2 rfl (by decide) _ _ _ rfl (hr.alloc _) ⟨wr.heap.size, 0, none⟩ 1 1 [.int .u8 128] rfl rfl ?c1 ?c2 ?c3 ?c4 ?c5 ?_)
      case c2 => rfl
      case c3 => have := hlo.out; unfold maxLen; omega
      case c4 => have := hlo.out; omega
      case c5 => have := hszB.out; simp; omega
      intro v' w2 hr2 hg2 _
      have k2 := (kk.alloc _).grown hg2 (own_row (hr.alloc _))
      have hr3 : w2.ownsRow B 5 1 v' (o ++ [128]).length ((o ++ [128]).map fun x : Nat => .int .u8 (x : Int)) := by
        rw [List.map_append, List.length_append]; exact hr2
      rw [hE.out] at hr3
      have hcv := string_own hr3
      clear hg2 hr hr2 hr3
      go_wp2
      go_ret
      exact ⟨rfl, k2⟩
end Go.Proofs.YtgkljcmjnphpeaaGreatDoor
