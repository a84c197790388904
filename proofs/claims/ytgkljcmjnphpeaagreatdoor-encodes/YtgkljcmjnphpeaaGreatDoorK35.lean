/- decodeA85 at every input: what a digit may come to, plain; and parts one behind another. -/
import Derived.Test.YtgkljcmjnphpeaaGreatDoorK32
import Derived.Test.YtgkljcmjnphpeaaGreatDoorK34
import Derived.Test.YtgkljcmjnphpeaaGreatDoorK12
import Derived.Test.YtgkljcmjnphpeaaGreatDoorK07
set_option linter.unusedVariables false
set_option linter.unusedSimpArgs false
namespace Go.Proofs.YtgkljcmjnphpeaaGreatDoor
open Go.RowKit
variable {B br bd off cap : Nat} {d : List Nat} {most : Nat} {w : World} {p : Nat} {ov : Value} {out : List Nat}
theorem within_u64_no (n a b : Int) (w : World) (h : n < a ∨ b < n) : Calls Tryz.prog 277 #[.int .u64 n, .int .u64 a, .int .u64 b] w fun e w' => e = .returned (.bool false) ∧ w' = w := by
  go_enter Tryz.func277, Tryz.ntmps277
  rcases h with h | h
  · have h' : ¬ a ≤ n := by omega
    go_wp2
    go_ret
    exact ⟨rfl, rfl⟩
  · have h' : ¬ n ≤ b := by omega
    go_wp2
    all_goals (go_ret; exact ⟨rfl, rfl⟩)
set_option maxRecDepth 100000 in
set_option maxHeartbeats 1000000 in
theorem a85Bytes_no (g0 g1 g2 g3 g4 : Nat) (h0 : 33 ≤ g0 ∧ g0 ≤ 117) (h1 : 33 ≤ g1 ∧ g1 ≤ 117) (h2 : 33 ≤ g2 ∧ g2 ≤ 117) (h3 : 33 ≤ g3 ∧ g3 ≤ 117) (h4 : 33 ≤ g4 ∧ g4 ≤ 117) (V : Nat) (hV : a85V [g0, g1, g2, g3, g4] 0 = V) (hm : 4294967295 < V) (w : World) :
    Calls Tryz.prog 217 #[.agg #[.int .u8 g0, .int .u8 g1, .int .u8 g2, .int .u8 g3, .int .u8 g4]] w fun e w' => e = gaveUp 5 ∧ Below w.heap.size w w' := by
  obtain ⟨P1, e1⟩ : ∃ P1, P1 = g0 - 33 := ⟨_, rfl⟩
  obtain ⟨P2, e2⟩ : ∃ P2, P2 = P1 * 85 + (g1 - 33) := ⟨_, rfl⟩
  obtain ⟨P3, e3⟩ : ∃ P3, P3 = P2 * 85 + (g2 - 33) := ⟨_, rfl⟩
  obtain ⟨P4, e4⟩ : ∃ P4, P4 = P3 * 85 + (g3 - 33) := ⟨_, rfl⟩
  have e5 : V = P4 * 85 + (g4 - 33) := by
    rw [e4, e3, e2, e1, ← hV]
    show ((((0 * 85 + (g0 - 33)) * 85 + (g1 - 33)) * 85 + (g2 - 33)) * 85 + (g3 - 33)) * 85 + (g4 - 33) = _
    rw [Nat.zero_mul, Nat.zero_add]
  have b1 : P1 ≤ 84 := by omega
  have b2 : P2 ≤ 7224 := by omega
  have b3 : P3 ≤ 614124 := by omega
  have b4 : P4 ≤ 52200624 := by omega
  have E := hide (And.intro e1 (And.intro e2 (And.intro e3 (And.intro e4 e5))))
  clear hV e1 e2 e3 e4 e5
  go_enter Tryz.func217, Tryz.ntmps217
  go_wp2
  generalize hW : World.alloc (World.alloc w _) _ = W
  have hbW : Below w.heap.size w W := by rw [← hW]; exact (((Below.refl _ _).alloc (Nat.le_refl _) _).alloc (by simp) _)
  have hblk : W.heap[w.heap.size + 1]? = some (.cells #[.int .u8 0, .int .u8 0, .int .u8 0, .int .u8 0] 153 (0, 0)) := by
    rw [← hW]
    have := blk_new (w.alloc (.cells #[.int .u8 g0, .int .u8 g1, .int .u8 g2, .int .u8 g3, .int .u8 g4] 184)) (.cells #[.int .u8 0, .int .u8 0, .int .u8 0, .int .u8 0] 153 (0, 0))
    simpa using this
  have HBW := hide hbW
  have HBK := hide hblk
  clear hW hbW hblk
  go_loopw [3, 7] (fun n i wr => ∃ k : Nat, k ≤ 5 ∧ i = .int .i64 k ∧ n = .int .u64 (pv P1 P2 P3 P4 V k : Nat) ∧ wr = W) (fun _ i _ => 5 - (intOf i).toNat)
  case atStart => exact ⟨0, by omega, rfl, rfl, rfl⟩
  case round =>
    obtain ⟨k, hk, rfl, rfl, rfl⟩ := hrel
    obtain rfl | rfl | rfl | rfl | rfl | rfl : k = 0 ∨ k = 1 ∨ k = 2 ∨ k = 3 ∨ k = 4 ∨ k = 5 := by omega
    · have hix := run_index5_0 g0 g1 g2 g3 g4
      simp only [pv]
      go_wp2
      go_roundw
      case rel =>
        refine ⟨1, by omega, rfl, ?_, trivial⟩
        show Value.int .u64 _ = Value.int .u64 (P1 : Nat)
        congr 1
        have := E.out
        omega
      case measure => simp [intOf]
    · have hix := run_index5_1 g0 g1 g2 g3 g4
      simp only [pv]
      go_wp2
      go_roundw
      case rel =>
        refine ⟨2, by omega, rfl, ?_, trivial⟩
        show Value.int .u64 _ = Value.int .u64 (P2 : Nat)
        congr 1
        have := E.out
        omega
      case measure => simp [intOf]
    · have hix := run_index5_2 g0 g1 g2 g3 g4
      simp only [pv]
      go_wp2
      go_roundw
      case rel =>
        refine ⟨3, by omega, rfl, ?_, trivial⟩
        show Value.int .u64 _ = Value.int .u64 (P3 : Nat)
        congr 1
        have := E.out
        omega
      case measure => simp [intOf]
    · have hix := run_index5_3 g0 g1 g2 g3 g4
      simp only [pv]
      go_wp2
      go_roundw
      case rel =>
        refine ⟨4, by omega, rfl, ?_, trivial⟩
        show Value.int .u64 _ = Value.int .u64 (P4 : Nat)
        congr 1
        have := E.out
        omega
      case measure => simp [intOf]
    · have hix := run_index5_4 g0 g1 g2 g3 g4
      simp only [pv]
      go_wp2
      go_roundw
      case rel =>
        refine ⟨5, by omega, rfl, ?_, trivial⟩
        show Value.int .u64 _ = Value.int .u64 (V : Nat)
        congr 1
        have := E.out
        omega
      case measure => simp [intOf]
    · simp only [pv]
      have hV64 : V < 18446744073709551616 := by have := E.out; omega
      go_wp2_with fail
      refine (within_u64_no _ _ _ _ (Or.inr (by omega))).mono ?_
      rintro e w' ⟨rfl, rfl⟩
      go_wp2_with fail
      refine (must_nob _ rfl _).mono ?_
      rintro e w' ⟨rfl, rfl⟩
      exact ⟨rfl, rfl, HBW.out⟩
set_option maxRecDepth 100000 in
set_option maxHeartbeats 1000000 in
theorem putShort_big (h : Rd B br bd off cap d most w p ov out) (g0 g1 g2 g3 g4 n : Nat) (hn : 2 ≤ n) (hn2 : n ≤ 4) (h0 : 33 ≤ g0 ∧ g0 ≤ 117) (h1 : 33 ≤ g1 ∧ g1 ≤ 117) (h2 : 33 ≤ (if n ≤ 2 then 117 else g2) ∧ (if n ≤ 2 then 117 else g2) ≤ 117) (h3 : 33 ≤ (if n ≤ 3 then 117 else g3) ∧ (if n ≤ 3 then 117 else g3) ≤ 117)
    (V : Nat) (hV : a85V [g0, g1, if n ≤ 2 then 117 else g2, if n ≤ 3 then 117 else g3, 117] 0 = V) (hm : 4294967295 < V) :
    Calls Tryz.prog 215 #[.pointer (some ⟨br, 0, none⟩), .agg (byteVals [g0, g1, g2, g3, g4]).toArray, .int .i64 n] w fun e w' => e = gaveUp 5 ∧ Kept 5 B [br] w w' := by
  have HF := hide (fill5_eq g0 g1 g2 g3 g4 n hn hn2)
  have HB : Hid (∀ W : World, Calls Tryz.prog 217 #[.agg (byteVals [g0, g1, if n ≤ 2 then 117 else g2, if n ≤ 3 then 117 else g3, 117]).toArray] W fun e w' => e = gaveUp 5 ∧ Below W.heap.size W w') := fun W => a85Bytes_no g0 g1 _ _ 117 h0 h1 h2 h3 (by omega) V hV hm W
  clear h0 h1 h2 h3 hV
  generalize hR : [g0, g1, if n ≤ 2 then 117 else g2, if n ≤ 3 then 117 else g3, 117] = R at *
  have hR5 : R.length = 5 := by rw [← hR]; rfl
  have HR := hide hR
  have hbox : (w.alloc (.cells (byteVals [g0, g1, g2, g3, g4]).toArray 184)).heap[w.heap.size]? = some (.cells (byteVals [g0, g1, g2, g3, g4]).toArray 184 (0, 0)) := blk_new _ _
  have h5 : [g0, g1, g2, g3, g4].length = 5 := rfl
  generalize [g0, g1, g2, g3, g4] = D at *
  clear hR
  have hne0 : ((n : Int) == 0) = false := by simp; omega
  have hn1 : (1 : Int) < n := by omega
  go_enter Tryz.func215, Tryz.ntmps215
  go_wp2_with (go_at_call 163; refine (must_yes _).mono ?_; rintro e w' ⟨rfl, rfl⟩)
  go_loopw [6] (fun i wr => ∃ (k : Nat) (E : List Nat), n ≤ k ∧ k ≤ 5 ∧ i = .int .i64 k ∧ E.length = 5 ∧ Hid (fill5 E (5 - k) k = R) ∧ wr.heap[w.heap.size]? = some (.cells (byteVals E).toArray 184 (0, 0)) ∧ Below w.heap.size w wr) (fun i _ => 5 - (intOf i).toNat)
  case atStart => exact ⟨n, D, Nat.le_refl _, by omega, rfl, h5, HF, hbox, (Below.refl _ _).alloc (Nat.le_refl _) _⟩
  clear hbox HF
  case round =>
    obtain ⟨k, E, k1, k2, rfl, hE, HK, hb, bl⟩ := hrel
    by_cases hk : k < 5
    · obtain ⟨x, hx⟩ : ∃ x, wr.cell? ⟨w.heap.size, k, none⟩ = some x := by
        rw [cell_blk hb]
        exact ⟨_, Array.getElem?_eq_getElem (by simp [byteVals, hE]; omega)⟩
      have fx : wr.frozen? ⟨w.heap.size, k, none⟩ = false := free_blk hb
      have hk' : (k : Int) < 5 := by omega
      have HB2 : Hid ((wr.setCell ⟨w.heap.size, k, none⟩ (.int .u8 117)).heap[w.heap.size]? = some (.cells (byteVals (E.set k 117)).toArray 184 (0, 0))) := by
        unfold Hid
        rw [blk_setCell _ hb]
        exact congrArg (fun C => some (Obj.cells C 184 (0, 0))) (byteVals_set E k 117)
      have HBL := hide bl
      clear hb bl
      go_wp2
      go_roundw
      case rel =>
        refine ⟨k + 1, E.set k 117, by omega, by omega, by go_num, by rw [List.length_set]; exact hE, ?_, HB2.out, HBL.out.setCell (Nat.le_refl _) _⟩
        have := HK.out
        rw [show 5 - k = (5 - (k + 1)) + 1 by omega, fill5] at this
        exact this
      case measure => simp [intOf]; omega
    · obtain rfl : k = 5 := by omega
      obtain rfl : E = R := HK.out
      have hcs : Hid (wr.rangeAt w.heap.size 0 (byteVals E)) := by
        intro j v hj
        rw [cell_blk hb, Nat.zero_add]
        simpa using hj
      have hi5 : Hid ((Tryz.prog.info? 184).map (·.size) = some (byteVals E).length) := by
        unfold Hid byteVals; rw [List.length_map, hE]; kernel_rfl
      have HBL := hide bl
      have hsz := bl.size
      clear hb bl HK
      go_wp2_with (refine wpList_load_mid rfl 184 (.tmp 4) rfl w.heap.size 0 rfl _ _ hcs.out Tryz.underlying184 rfl hi5.out ?_)
      refine (HB.out _).mono ?_
      rintro e w1 ⟨rfl, b1⟩
      have K1 := hide (HBL.out.trans (b1.mono hsz))
      exact ⟨rfl, rfl, ⟨K1.out.os, K1.out.tape, K1.out.output, K1.out.size, fun i o _ ho _ => by rw [K1.out.block i (lt_of_block ho)]; exact ho⟩⟩
theorem putShort_part_big (h : Rd B br bd off cap d most w p ov out) (G : List Nat) (hG : G.length = 5) (n : Nat) (hn : 2 ≤ n) (hn2 : n ≤ 4) (hg : ∀ i, i < n → 33 ≤ nth G i ∧ nth G i ≤ 117) (V : Nat) (hV : shortV (nth G 0) (nth G 1) (nth G 2) (nth G 3) n = V) (hm : 4294967295 < V) :
    Calls Tryz.prog 215 #[.pointer (some ⟨br, 0, none⟩), .agg (byteVals (partly G n)).toArray, .int .i64 n] w fun e w' => e = gaveUp 5 ∧ Kept 5 B [br] w w' := by
  match G, hG with
  | [g0, g1, g2, g3, g4], _ =>
    have k0 := hg 0 (by omega)
    have k1 := hg 1 (by omega)
    obtain rfl | rfl | rfl : n = 2 ∨ n = 3 ∨ n = 4 := by omega
    · exact putShort_big h g0 g1 0 0 0 2 (by omega) (by omega) k0 k1 (by simp) (by simp) V hV hm
    · have k2 := hg 2 (by omega)
      exact putShort_big h g0 g1 g2 0 0 3 (by omega) (by omega) k0 k1 k2 (by simp) V hV hm
    · have k2 := hg 2 (by omega)
      have k3 := hg 3 (by omega)
      exact putShort_big h g0 g1 g2 g3 0 4 (by omega) (by omega) k0 k1 k2 k3 V hV hm
theorem putShort_one {A : List Nat} (w : World) : Calls Tryz.prog 215 #[.pointer (some ⟨br, 0, none⟩), .agg (byteVals A).toArray, .int .i64 (1 : Nat)] w fun e w' => e = gaveUp 5 ∧ Kept 5 B [br] w w' := by
  go_enter Tryz.func215, Tryz.ntmps215
  go_wp2_with fail
  refine (must_nob _ rfl _).mono ?_
  rintro e w' ⟨rfl, rfl⟩
  exact ⟨rfl, rfl, (Kept.refl _ _ _ _).alloc _⟩
end Go.Proofs.YtgkljcmjnphpeaaGreatDoor
namespace Go.Proofs.YtgkljcmjnphpeaaGreatDoor
open Go.RowKit
variable {B br bd off cap : Nat} {d : List Nat} {most : Nat} {w : World} {p : Nat} {ov : Value} {out : List Nat}
/-- Where the reading of a group stands: so many digits have come. -/
def ASt (d : List Nat) (most : Nat) (out : List Nat) (R : Except Nat (List Nat)) (D : List Nat) (q f : Nat) : Prop :=
  d.length - q < f ∧ (D.length < 5 → a85Dec d most f q D.length (a85V D 0) out = R) ∧
    (D.length = 5 → R = if 4294967296 ≤ a85V D 0 then .error 5 else if out.length + 4 ≤ most then a85Dec d most f q 0 0 (out ++ a85Out (a85V D 0)) else .error 6)
theorem a85V_snoc (D : List Nat) (c : Nat) : ∀ n, a85V (D ++ [c]) n = a85V D n * 85 + (c - 33) := by
  induction D with
  | nil => intro n; rfl
  | cons x D ih => intro n; exact ih _
/-- What the next byte may come to. -/
def ACase (d : List Nat) (most : Nat) (out : List Nat) (R : Except Nat (List Nat)) (D : List Nat) (q : Nat) : Prop :=
  (d.length ≤ skipW d q ∧ R = .error 5) ∨ (skipW d q < d.length ∧ (
    (nth d (skipW d q) = 122 ∧ D.length = 0 ∧ out.length + 4 ≤ most ∧ ∃ f, d.length - (skipW d q + 1) < f ∧ a85Dec d most f (skipW d q + 1) 0 0 (out ++ [0, 0, 0, 0]) = R) ∨
    (nth d (skipW d q) = 122 ∧ D.length = 0 ∧ most < out.length + 4 ∧ R = .error 6) ∨
    (33 ≤ nth d (skipW d q) ∧ nth d (skipW d q) ≤ 117 ∧ ∃ f, ASt d most out R (D ++ [nth d (skipW d q)]) (skipW d q + 1) f) ∨
    (nth d (skipW d q) = 126 ∧ d.length ≤ skipW d q + 1 ∧ R = .error 5) ∨
    (nth d (skipW d q) = 126 ∧ skipW d q + 1 < d.length ∧ nth d (skipW d q + 1) ≠ 62 ∧ R = .error 5) ∨
    (nth d (skipW d q) = 126 ∧ skipW d q + 1 < d.length ∧ nth d (skipW d q + 1) = 62 ∧ (
      (D.length = 0 ∧ R = restW d (skipW d q + 2) out) ∨ (D.length = 1 ∧ R = .error 5) ∨ (2 ≤ D.length ∧ 4294967295 < pad85 (a85V D 0) D.length ∧ R = .error 5) ∨
      (2 ≤ D.length ∧ pad85 (a85V D 0) D.length ≤ 4294967295 ∧ out.length + (D.length - 1) ≤ most ∧ R = restW d (skipW d q + 2) (out ++ (a85Out (pad85 (a85V D 0) D.length)).take (D.length - 1))) ∨
      (2 ≤ D.length ∧ pad85 (a85V D 0) D.length ≤ 4294967295 ∧ most < out.length + (D.length - 1) ∧ R = .error 6))) ∨
    (nth d (skipW d q) ≠ 126 ∧ (nth d (skipW d q) < 33 ∨ 117 < nth d (skipW d q)) ∧ ¬ (nth d (skipW d q) = 122 ∧ D.length = 0) ∧ R = .error 5)))
theorem ASt.case {D : List Nat} {q f : Nat} {R : Except Nat (List Nat)} (h : ASt d most out R D q f) (hD : D.length < 5) (hq : q ≤ d.length) : ACase d most out R D q := by
  obtain ⟨hf, h1, _⟩ := h
  have hR := h1 hD
  obtain ⟨f, rfl⟩ : ∃ k, f = k + 1 := ⟨f - 1, by omega⟩
  unfold a85Dec at hR
  have g0 := skipW_ge d q
  by_cases c1 : d.length ≤ skipW d q
  · rw [if_pos c1] at hR; exact Or.inl ⟨c1, hR.symm⟩
  rw [if_neg c1] at hR
  refine Or.inr ⟨by omega, ?_⟩
  generalize hs : skipW d q = s at *
  generalize hc : nth d s = c at *
  by_cases c2 : c = 122 ∧ D.length = 0
  · rw [if_pos c2] at hR
    by_cases ho : out.length + 4 ≤ most
    · rw [if_pos ho] at hR
      exact Or.inl ⟨c2.1, c2.2, ho, f, by omega, hR⟩
    · rw [if_neg ho] at hR
      exact Or.inr (Or.inl ⟨c2.1, c2.2, by omega, hR.symm⟩)
  rw [if_neg c2] at hR
  refine Or.inr (Or.inr ?_)
  by_cases c3 : 33 ≤ c ∧ c ≤ 117
  · rw [if_pos c3] at hR
    refine Or.inl ⟨c3.1, c3.2, f, by omega, fun hl => ?_, fun hl => ?_⟩
    · rw [List.length_append] at hl
      simp only [List.length_cons, List.length_nil] at hl
      rw [if_neg (by omega)] at hR
      rw [List.length_append, a85V_snoc]
      exact hR
    · rw [List.length_append] at hl
      simp only [List.length_cons, List.length_nil] at hl
      rw [if_pos (by omega)] at hR
      rw [a85V_snoc]
      exact hR.symm
  rw [if_neg c3] at hR
  refine Or.inr ?_
  by_cases c4 : c = 126
  · by_cases c5 : s + 1 < d.length
    · refine Or.inr ?_
      by_cases c6 : nth d (s + 1) = 62
      · refine Or.inr (Or.inl ⟨c4, c5, c6, ?_⟩)
        by_cases c7 : D.length = 1
        · rw [if_neg (fun h => h.2.2.2 c7)] at hR
          exact Or.inr (Or.inl ⟨c7, hR.symm⟩)
        rw [if_pos ⟨c4, c5, c6, c7⟩] at hR
        by_cases c8 : D.length = 0
        · rw [if_pos c8] at hR
          exact Or.inl ⟨c8, hR.symm⟩
        rw [if_neg c8] at hR
        refine Or.inr (Or.inr ?_)
        by_cases c9 : 4294967296 ≤ pad85 (a85V D 0) D.length
        · rw [if_pos c9] at hR
          exact Or.inl ⟨by omega, by omega, hR.symm⟩
        rw [if_neg c9] at hR
        refine Or.inr ?_
        by_cases c10 : out.length + (D.length - 1) ≤ most
        · rw [if_pos c10] at hR
          exact Or.inl ⟨by omega, by omega, c10, hR.symm⟩
        · rw [if_neg c10] at hR
          exact Or.inr ⟨by omega, by omega, by omega, hR.symm⟩
      · rw [if_neg (fun h => c6 h.2.2.1)] at hR
        exact Or.inl ⟨c4, c5, c6, hR.symm⟩
    · rw [if_neg (fun h => c5 h.2.1)] at hR
      exact Or.inl ⟨c4, by omega, hR.symm⟩
  · rw [if_neg (fun h => c4 h.1)] at hR
    exact Or.inr (Or.inr (Or.inr ⟨c4, by omega, c2, hR.symm⟩))
/-- Digits with noughts behind them. -/
def pad5 (D : List Nat) : List Nat := D ++ List.replicate (5 - D.length) 0
theorem pad5_len {D : List Nat} (h : D.length ≤ 5) : (pad5 D).length = 5 := by simp [pad5]; omega
theorem pad5_step {D : List Nat} (h : D.length < 5) (c : Nat) : (pad5 D).set D.length c = pad5 (D ++ [c]) := by
  obtain ⟨k, hk⟩ : ∃ k, 5 - D.length = k + 1 := ⟨5 - D.length - 1, by omega⟩
  unfold pad5
  rw [List.length_append, hk, show 5 - (D.length + [c].length) = k by simp; omega, List.set_append_right _ _ (Nat.le_refl _), Nat.sub_self, List.replicate_succ, List.set_cons_zero, List.append_assoc]
  rfl
theorem pad5_nth {D : List Nat} {i : Nat} (h : i < D.length) : nth (pad5 D) i = nth D i := by simp [pad5, nth, List.getElem?_append_left h]
theorem pad5_partly {D : List Nat} (h : D.length ≤ 5) : partly (pad5 D) D.length = pad5 D := by
  apply List.ext_getElem
  · rw [partly_length]
  · intro i h1 h2
    rw [partly_length, pad5_len h] at h1
    simp only [partly, List.getElem_map, List.getElem_range]
    split
    · simp [nth, List.getElem?_eq_getElem h2]
    · rename_i hi
      simp [pad5, List.getElem_append_right (show D.length ≤ i by omega)]
theorem pad5_short {D : List Nat} (h2 : 2 ≤ D.length) (h4 : D.length ≤ 4) : shortV (nth (pad5 D) 0) (nth (pad5 D) 1) (nth (pad5 D) 2) (nth (pad5 D) 3) D.length = pad85 (a85V D 0) D.length := by
  match D, h2, h4 with
  | [a, b], _, _ => rfl
  | [a, b, c], _, _ => rfl
  | [a, b, c, e], _, _ => rfl
/-- What a part has come to. -/
def PAny (B br bd off cap : Nat) (d : List Nat) (most : Nat) (J : Nat → List Nat → Except Nat (List Nat) → Prop) (E : Nat → List Nat → Except Nat (List Nat)) (R : Except Nat (List Nat)) (q : Nat) (w : World) (e : Ending) (w' : World) : Prop :=
  (e = .returned (.bool true) ∧ ∃ q' o' ov', q < q' ∧ J q' o' R ∧ Rd B br bd off cap d most w' q' ov' o' ∧ Kept 5 B [br] w w') ∨ (e = .returned (.bool false) ∧ ∃ q' o' ov', R = E q' o' ∧ Rd B br bd off cap d most w' q' ov' o' ∧ Kept 5 B [br] w w') ∨ (∃ n : Nat, R = .error n ∧ e = gaveUp n ∧ Kept 5 B [br] w w')
set_option maxHeartbeats 1000000 in
theorem decodeA85_dyn {J : Nat → List Nat → Except Nat (List Nat) → Prop} {R : Except Nat (List Nat)} (hs : ∀ q o w ov, J q o R → Rd B br bd off cap d most w q ov o → Calls Tryz.prog 157 #[.pointer (some ⟨br, 0, none⟩)] w (PAny B br bd off cap d most J (restW d) R q w)) (h0 : J p out R) (h : Rd B br bd off cap d most w p ov out) :
    Calls Tryz.prog 114 #[.pointer (some ⟨br, 0, none⟩)] w fun e w' => DRes B br bd off cap d most w R e w' := by
  have HS := hide hs
  clear hs
  go_enter Tryz.func114, Tryz.ntmps114
  go_wp2
  go_loopw [2] (fun _ wr => ∃ (q : Nat) (o : List Nat) (ov' : Value), Hid (J q o R) ∧ Rd B br bd off cap d most wr q ov' o ∧ Kept 5 B [br] w wr) (fun _ wr => d.length - posOf br wr)
  case atStart => exact ⟨p, out, ov, h0, h, Kept.refl _ _ _ _⟩
  clear h h0
  case round =>
    obtain ⟨q, o, ov', HI, r, kk⟩ := hrel
    have mr := hide r.posOf
    have HG := hide (HS.out q o wr ov' HI.out r)
    go_wp2_with fail
    refine HG.out.mono ?_
    rintro e w1 (⟨rfl, q', o', ov2, hup, hI', r2, k2⟩ | ⟨rfl, q', o', ov2, hE, r2, k2⟩ | ⟨n, hE, rfl, k2⟩)
    · have HI' := hide hI'
      have m2 := hide r2.posOf
      have lp := r2.lp
      clear hI'
      go_wp2
      go_roundw
      case rel => exact ⟨q', o', ov2, HI', r2, kk.trans k2⟩
      case measure => rw [mr.out, m2.out]; omega
    · have HE := hide hE
      clear hE
      go_wp2_with fail
      refine (skipWhite_any r2).mono ?_
      rintro e w2 ⟨rfl, r3, k3⟩
      have lp3 := r3.lp
      by_cases c : skipW d q' < d.length
      · go_wp2_with fail
        refine (end_no r3 (by omega)).mono ?_
        rintro e w3 ⟨rfl, z, rfl⟩
        refine ⟨rfl, ?_⟩
        rw [HE.out, restW, if_pos c]
        exact ⟨rfl, ((kk.trans k2).trans k3).drewN z⟩
      · obtain ⟨N, hN⟩ : ∃ N, skipW d q' = N := ⟨_, rfl⟩
        have HN := hide hN
        rw [hN] at r3 c lp3
        clear hN
        obtain rfl : N = d.length := by omega
        go_wp2_with fail
        refine (end_ok r3).mono ?_
        rintro e w3 ⟨rfl, z, rfl⟩
        go_wp2
        go_end0
        rw [HE.out, restW, HN.out, if_neg (Nat.lt_irrefl _)]
        exact ⟨rfl, ov2, r3.drewN z, ((kk.trans k2).trans k3).drewN z⟩
    · have HE := hide hE
      clear hE
      refine ⟨rfl, ?_⟩
      rw [HE.out]
      exact ⟨rfl, kk.trans k2⟩
end Go.Proofs.YtgkljcmjnphpeaaGreatDoor
