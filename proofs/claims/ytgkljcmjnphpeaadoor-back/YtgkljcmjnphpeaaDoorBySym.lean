/- codes.bySymbol: the codes laid out by their symbols. -/
import Derived.Test.YtgkljcmjnphpeaaDoorFixedC
import Derived.Deep.MidRow
import Derived.StillTailTactics
set_option linter.unusedVariables false
set_option linter.unusedSimpArgs false
namespace Go.Proofs.YtgkljcmjnphpeaaDoor
open Go.RowKit
variable {w : World}

def tnth (t : List (Nat × Nat)) (i : Nat) : Nat × Nat := t.getD i (0, 0)

/-- Codes in memory, by their symbols. -/
def CodeRow (w : World) (g : Nat) (t : List (Nat × Nat)) : Prop :=
  ∃ C : Array Value, w.heap[g]? = some (.cells C 74 (0, 0)) ∧ C.size = 2 * t.length ∧ ∀ i, i < t.length → C[i * 2]? = some (.int .i64 ((tnth t i).1 : Nat)) ∧ C[i * 2 + 1]? = some (.int .i64 ((tnth t i).2 : Nat))

theorem CodeRow.set {g : Nat} {t : List (Nat × Nat)} (h : CodeRow w g t) (s : Nat) (x : Nat × Nat) :
    CodeRow ((w.setCell ⟨g, s * 2, none⟩ (.int .i64 (x.1 : Nat))).setCell ⟨g, s * 2 + 1, none⟩ (.int .i64 (x.2 : Nat))) g (t.set s x) := by
  obtain ⟨C, h1, h2, h3⟩ := h
  refine ⟨_, blk_setCell _ (blk_setCell _ h1), by simp [h2], fun i hi => ?_⟩
  rw [List.length_set] at hi
  obtain ⟨e1, e2⟩ := h3 i hi
  by_cases c : s = i
  · subst c
    have e : tnth (t.set s x) s = x := by simp [tnth, hi]
    rw [e]
    constructor
    · rw [Array.getElem?_setIfInBounds_ne (by omega), Array.getElem?_setIfInBounds_self_of_lt (by omega)]
    · rw [Array.getElem?_setIfInBounds_self_of_lt (by simp; omega)]
  · have e : tnth (t.set s x) i = tnth t i := by simp [tnth, List.getElem?_set_ne c]
    rw [e]
    constructor
    · rw [Array.getElem?_setIfInBounds_ne (by omega), Array.getElem?_setIfInBounds_ne (by omega)]; exact e1
    · rw [Array.getElem?_setIfInBounds_ne (by omega), Array.getElem?_setIfInBounds_ne (by omega)]; exact e2

theorem CodeRow.there {g : Nat} {t : List (Nat × Nat)} (h : CodeRow w g t) (s : Nat) (hs : s < t.length) : w.there g (s * 2) 2 := by
  obtain ⟨C, h1, h2, h3⟩ := h
  intro j hj
  refine ⟨?_, free_blk h1⟩
  rw [cell_blk h1, Array.getElem?_eq_getElem (by omega)]; rfl

theorem CodeRow.range {g : Nat} {t : List (Nat × Nat)} (h : CodeRow w g t) (s : Nat) (hs : s < t.length) : w.rangeAt g (s * 2) [.int .i64 ((tnth t s).1 : Nat), .int .i64 ((tnth t s).2 : Nat)] := by
  obtain ⟨C, h1, h2, h3⟩ := h
  intro j v hj
  obtain ⟨e1, e2⟩ := h3 s hs
  rw [cell_blk h1]
  match j, hj with
  | 0, hj => simp at hj; subst hj; exact e1
  | 1, hj => simp at hj; subst hj; exact e2

theorem CodeRow.made {w1 : World} {B g N : Nat} (h : w1.ownsRow B 74 2 (.slice (some ⟨g, 0, none⟩) N N) N (madeCells #[.int .i64 0, .int .i64 0] (N * 2)).toList) : CodeRow w1 g (List.replicate N (0, 0)) := by
  rcases h.2 with ⟨h0, _⟩ | ⟨g', cap, cur, hv, _, hh, _, _, hcs, ht⟩
  · cases h0
  cases hv
  have e : cur.toList = (madeCells #[.int .i64 0, .int .i64 0] (N * 2)).toList := by
    rw [← ht, List.take_of_length_le (by rw [Array.length_toList, hcs]; omega)]
  have e' : cur = madeCells #[.int .i64 0, .int .i64 0] (N * 2) := Array.toList_inj.1 e
  refine ⟨cur, hh, by rw [hcs]; simp; omega, fun i hi => ?_⟩
  rw [List.length_replicate] at hi
  have t0 : tnth (List.replicate N (0, 0)) i = (0, 0) := by simp [tnth, hi]
  rw [t0, e', madeCells]
  constructor
  · rw [Array.getElem?_map, Array.getElem?_range, if_pos (by omega)]; simp
  · rw [Array.getElem?_map, Array.getElem?_range, if_pos (by omega)]
    simp [show (i * 2 + 1) % 2 = 1 by omega]

theorem CodeRow.kept {e B : Nat} {S : List Nat} {w' : World} {g : Nat} {t : List (Nat × Nat)} (h : CodeRow w g t) (k : Kept 5 B S w w') (hS : g ∉ S) : CodeRow w' g t := by
  obtain ⟨C, h1, h2⟩ := h
  exact ⟨C, k.block g _ hS h1 (Or.inr (by intro c fz e; simp at e)), h2⟩
theorem CodeRow.below {B : Nat} {w' : World} {g : Nat} {t : List (Nat × Nat)} (h : CodeRow w g t) (k : Below B w w') (hg : g < B) : CodeRow w' g t := by
  obtain ⟨C, h1, h2⟩ := h
  exact ⟨C, by rw [k.block g hg]; exact h1, h2⟩

/-- What is laid by the codes of one length. -/
def laid (ss : List Nat) (t : List (Nat × Nat)) (len V P : Nat) : Nat → List (Nat × Nat)
  | 0 => t
  | i + 1 => (laid ss t len V P i).set (nth ss (P + i)) (V + i, len)
def valAt (cs : List Nat) : Nat → Nat
  | 0 => 0
  | k + 1 => 2 * valAt cs k + nth cs (k + 1)
def tabAt (cs ss : List Nat) (n : Nat) : Nat → List (Nat × Nat)
  | 0 => List.replicate n (0, 0)
  | k + 1 => laid ss (tabAt cs ss n k) (k + 1) (2 * valAt cs k) (psum cs k) (nth cs (k + 1))
theorem laid_length (ss : List Nat) (t : List (Nat × Nat)) (len V P i : Nat) : (laid ss t len V P i).length = t.length := by
  induction i with
  | zero => rfl
  | succ i ih => simp [laid, ih]
theorem tabAt_length (cs ss : List Nat) (n k : Nat) : (tabAt cs ss n k).length = n := by
  induction k with
  | zero => simp [tabAt]
  | succ k ih => rw [tabAt, laid_length, ih]

theorem tabF_at : tabAt Fo.csF Fo.ssF 288 15 = Fo.tabF := by decide +kernel
theorem tadF_at : tabAt Fo.cdF Fo.sdF 32 15 = Fo.tadF := by decide +kernel
theorem Tryd.infoCode : (Tryd.prog.info? 74).map (fun i => (i.zero, i.size, i.bytes)) = some (some (.agg #[.int .i64 0, .int .i64 0]), 2, 16) := by kernel_rfl
theorem info_parts2 {z : Value} {s b : Nat} {t : TypeId} (h : (Tryd.prog.info? t).map (fun i => (i.zero, i.size, i.bytes)) = some (some z, s, b)) : ∃ i, Tryd.prog.info? t = some i ∧ i.zero = some z ∧ i.size = s ∧ i.bytes = b := by
  cases hi : Tryd.prog.info? t with
  | none => rw [hi] at h; simp at h
  | some i => rw [hi] at h; simp at h; exact ⟨i, rfl, h.1, h.2.1, h.2.2⟩

theorem Cd.below {bc oc B : Nat} {cs ss : List Nat} {w' : World} (h : Cd w bc oc cs ss) (k : Below B w w') (hb : bc < B) (hs : ∀ g c, w.cell? ⟨bc, oc + 16, none⟩ = some (.slice (some ⟨g, 0, none⟩) ss.length c) → g < B) : Cd w' bc oc cs ss := by
  obtain ⟨h1, g, c, h2, h3⟩ := h
  have := hs g c h2
  exact ⟨fun i hi => (k.cell (p := ⟨bc, oc + i, none⟩) hb).trans (h1 i hi), g, c, (k.cell (p := ⟨bc, oc + 16, none⟩) hb).trans h2, fun i hi => (k.cell (p := ⟨g, i, none⟩) this).trans (h3 i hi)⟩

set_option maxRecDepth 100000 in
set_option maxHeartbeats 1000000 in
theorem bySymbol_ok (bc oc n : Nat) (cs ss : List Nat) (hC : Cd w bc oc cs ss) (hn : n ≤ 300) (hsum : psum cs 15 ≤ ss.length) (hss : ss.length ≤ 1000) (hs : ∀ i, i < ss.length → nth ss i < n) (hv : ∀ k, k ≤ 15 → valAt cs k ≤ 100000) :
    Calls Tryd.prog 63 #[.pointer (some ⟨bc, oc, none⟩), .int .i64 n] w fun e w' => e = .returned (.slice (some ⟨w.heap.size, 0, none⟩) n n) ∧ CodeRow w' w.heap.size (tabAt cs ss n 15) ∧ Below w.heap.size w w' := by
  obtain ⟨i0, hi, hz0, hz1, hz2⟩ := info_parts2 Tryd.infoCode
  obtain ⟨h1, g, c, h2, h3⟩ := hC
  have hbc : bc < w.heap.size := World.block_lt_of_cell? w _ h2
  go_enter Tryd.func63, Tryd.ntmps63
  go_wp2_with (at_make; refine wpList_make_full _ rfl _ _ 69 rfl w.heap.size 74 i0 (.agg #[.int .i64 0, .int .i64 0]) 2 Tryd.underlying69 hi hz0 hz1 .i64 .i64 _ _ n rfl rfl (by omega) (by omega) (by rw [hz2]; omega) (by unfold maxLen; omega) (Nat.le_refl _) ?_; intro w1 hown1 hg1; have hrow := CodeRow.made hown1)
  have hbl : Below w.heap.size w w1 := ⟨hg1.os, hg1.tape, hg1.output, hg1.size, fun k hk => hg1.block k hk (by simp)⟩
  clear hown1 hg1 hz0 hz1 hz2 hi
  have H1 := hide h1
  have H3 := hide h3
  have HS := hide hs
  have HV := hide hv
  have HSS := hide (And.intro hsum hss)
  have hgl : g < w.heap.size ∨ ss.length = 0 := by
    rcases Nat.eq_zero_or_pos ss.length with h0 | h0
    · exact Or.inr h0
    · exact Or.inl (World.block_lt_of_cell? w _ (h3 0 h0))
  have HGL := hide hgl
  clear h1 h3 hs hv hsum hss hgl
  go_loopw [6, 7, 8] (fun v pl l wr => ∃ k : Nat, k ≤ 15 ∧ l = .int .i64 (k + 1 : Nat) ∧ v = .int .i64 (valAt cs k : Nat) ∧ pl = .int .i64 (psum cs k : Nat) ∧ CodeRow wr w.heap.size (tabAt cs ss n k) ∧ Below w.heap.size w wr) (fun _ _ l _ => 16 - (intOf l).toNat)
  case atStart => exact ⟨0, by omega, rfl, rfl, rfl, hrow, hbl⟩
  clear hrow hbl
  case round =>
    obtain ⟨k, hk, rfl, rfl, rfl, hrow, hbl⟩ := hrel
    by_cases hlt : k < 15
    · have hcc := (hbl.cell (p := ⟨bc, oc + (k + 1), none⟩) hbc).trans (H1.out (k + 1) (by omega))
      have hv0 := HV.out k hk
      have hv1 := HV.out (k + 1) hlt
      have hpm := psum_mono cs (k + 1) 15 (by omega)
      have hps : psum cs (k + 1) = psum cs k + nth cs (k + 1) := rfl
      have hva : valAt cs (k + 1) = 2 * valAt cs k + nth cs (k + 1) := rfl
      have hl1 := HSS.out
      have HTB : Hid (∀ i, i < nth cs (k + 1) → nth ss (psum cs k + i) < n ∧ psum cs k + i < ss.length ∧ g < w.heap.size) := by
        intro i hi
        have hgl := HGL.out
        exact ⟨HS.out _ (by omega), by omega, by omega⟩
      have hN : nth cs (k + 1) ≤ 1000 := by omega
      have hP : psum cs k ≤ 1000 := by omega
      have HPS := hide hps
      have HVA := hide hva
      have HT : Hid (tabAt cs ss n (k + 1) = laid ss (tabAt cs ss n k) (k + 1) (2 * valAt cs k) (psum cs k) (nth cs (k + 1))) := rfl
      clear hps hva hpm hv1 hl1
      generalize hNN : nth cs (k + 1) = N at *
      generalize hPP : psum cs k = P at *
      generalize hVV : valAt cs k = V at *
      generalize hTT : tabAt cs ss n k = tb at *
      have htb : tb.length = n := by rw [← hTT, tabAt_length]
      clear hNN hPP hVV hTT
      go_wp2
      go_loopw [6, 7, 23] (fun v pl i wr => ∃ j : Nat, j ≤ N ∧ i = .int .i64 (j : Nat) ∧ v = .int .i64 (2 * V + j : Nat) ∧ pl = .int .i64 (P + j : Nat) ∧ CodeRow wr w.heap.size (laid ss tb (k + 1) (2 * V) P j) ∧ Below w.heap.size w wr) (fun _ _ i _ => N - (intOf i).toNat)
      case atStart => exact ⟨0, by omega, rfl, by go_num, by go_num, hrow, hbl⟩
      clear hrow hbl hcc
      case round =>
        obtain ⟨j, hj, rfl, rfl, rfl, hrow, hbl⟩ := hrel
        by_cases hjl : j < N
        · obtain ⟨t1, t2, t3⟩ := HTB.out j hjl
          have d2 := (hbl.cell (p := ⟨bc, oc + 16, none⟩) hbc).trans h2
          have d3 := (hbl.cell (p := ⟨g, P + j, none⟩) t3).trans (H3.out (P + j) t2)
          obtain ⟨hth0, f4⟩ := hrow.there (nth ss (P + j)) (by rw [laid_length, htb]; exact t1) 0 (by omega)
          obtain ⟨hth1, f5⟩ := hrow.there (nth ss (P + j)) (by rw [laid_length, htb]; exact t1) 1 (by omega)
          obtain ⟨u4, d4⟩ := Option.isSome_iff_exists.1 hth0
          obtain ⟨u5, d5⟩ := Option.isSome_iff_exists.1 hth1
          simp only [Nat.add_zero] at d4 f4
          clear hth0 hth1
          have hst := hide (hrow.set (nth ss (P + j)) (2 * V + j, k + 1))
          have HL : Hid (laid ss tb (k + 1) (2 * V) P (j + 1) = (laid ss tb (k + 1) (2 * V) P j).set (nth ss (P + j)) (2 * V + j, k + 1)) := rfl
          clear hrow
          generalize hSS : nth ss (P + j) = S at *
          clear hSS
          have hb2 := hide ((hbl.setCell (p := ⟨w.heap.size, S * 2, none⟩) (Nat.le_refl _) (.int .i64 (2 * V + j : Nat))).setCell (p := ⟨w.heap.size, S * 2 + 1, none⟩) (Nat.le_refl _) (.int .i64 (k + 1 : Nat)))
          go_wp2
          go_roundw
          case rel => exact ⟨j + 1, by omega, by go_num, by go_num, by go_num, by rw [HL.out]; exact hst.out, hb2.out⟩
          case measure => simp [intOf]; omega
        · obtain rfl : j = N := by omega
          go_wp2
          go_roundw
          case rel => exact ⟨k + 1, by omega, by go_num, by rw [HVA.out], by rw [HPS.out], by rw [HT.out]; exact hrow, hbl⟩
          case measure => simp [intOf]; omega
    · obtain rfl : k = 15 := by omega
      go_wp2
      go_ret
      exact ⟨rfl, hrow, hbl⟩
end Go.Proofs.YtgkljcmjnphpeaaDoor
