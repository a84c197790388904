/- The filter of 85 digits, read: its end, too little room, no end. -/
import Derived.Test.YtgkljcmjnphpeaaGreatDoorK32
import Derived.Test.YtgkljcmjnphpeaaGreatDoorK07
import Derived.Test.YtgkljcmjnphpeaaGreatDoorK02
import Derived.Test.YtgkljcmjnphpeaaGreatDoorK04
import Derived.Test.YtgkljcmjnphpeaaGreatDoorK12
set_option linter.unusedVariables false
set_option linter.unusedSimpArgs false
namespace Go.Proofs.YtgkljcmjnphpeaaGreatDoor
open Go.RowKit
variable {B br bd off cap : Nat} {d : List Nat} {most : Nat} {w : World} {p : Nat} {ov : Value} {out : List Nat}
theorem hexDigit_no (c : Nat) (w : World) (h : Fo.hexVal c = none) : Calls Tryz.prog 275 #[.int .u8 c] w fun e w' => ∃ v, e = .returned (.tuple #[.int .u8 v, .bool false]) ∧ w' = w := by
  unfold Fo.hexVal at h
  by_cases h1 : 48 ≤ c ∧ c ≤ 57
  · rw [if_pos h1] at h; cases h
  rw [if_neg h1] at h
  by_cases h2 : 97 ≤ c ∧ c ≤ 102
  · rw [if_pos h2] at h; cases h
  rw [if_neg h2] at h
  by_cases h3 : 65 ≤ c ∧ c ≤ 70
  · rw [if_pos h3] at h; cases h
  have n1 : (decide ((48 : Int) ≤ (c : Int)) && decide ((c : Int) ≤ 57)) = false := by simp; omega
  have n2 : (decide ((97 : Int) ≤ (c : Int)) && decide ((c : Int) ≤ 102)) = false := by simp; omega
  have n3 : (decide ((65 : Int) ≤ (c : Int)) && decide ((c : Int) ≤ 70)) = false := by simp; omega
  clear h h1 h2 h3
  go_enter Tryz.func275, Tryz.ntmps275
  go_wp2_with (go_at_call 216; refine (within_byte _ _ _ _).mono ?_; rintro e w' ⟨rfl, rfl⟩)
  go_ret2
  exact ⟨_, rfl, rfl⟩
theorem hexValue_no (c : Nat) (w : World) (h : Fo.hexVal c = none) : Calls Tryz.prog 212 #[.int .u8 c] w fun e w' => e = gaveUp 5 ∧ w' = w := by
  have H : Hid (Fo.hexVal c = none) := h
  clear h
  go_enter Tryz.func212, Tryz.ntmps212
  go_wp2_with fail
  refine (hexDigit_no _ _ H.out).mono ?_
  rintro e w' ⟨v, rfl, rfl⟩
  go_wp2_with fail
  refine (must_nob _ rfl _).mono ?_
  rintro e w' ⟨rfl, rfl⟩
  exact ⟨rfl, rfl, rfl⟩
theorem hexVal_lt16 {c a : Nat} (h : Fo.hexVal c = some a) : a < 16 := by
  unfold Fo.hexVal at h
  split at h
  · cases h; omega
  split at h
  · cases h; omega
  split at h
  · cases h; omega
  · cases h
theorem hp_none (h1 : d.length ≤ skipW d p) : PNo 154 B br bd off cap d most p out (5 : Nat) := by
  intro w ov h
  have HN := hide (nextInk_none h h1)
  go_enter Tryz.func154, Tryz.ntmps154
  go_wp2_with fail
  refine HN.out.mono ?_
  rintro e w1 ⟨rfl, k1⟩
  exact ⟨rfl, rfl, k1⟩
theorem hp_end (h1 : skipW d p < d.length) (h2 : nth d (skipW d p) = 62) : PGo 154 B br bd off cap d most p out false (skipW d p + 1) out := by
  intro w ov h
  have HN := hide (nextInk_at h h1)
  have e1 : ((nth d (skipW d p) : Int) == 62) = true := by rw [h2]; rfl
  generalize nth d (skipW d p) = C at *
  clear h2
  go_enter Tryz.func154, Tryz.ntmps154
  go_wp2_with fail
  refine HN.out.mono ?_
  rintro e w1 ⟨rfl, r1, k1⟩
  go_wp2
  go_ret
  exact ⟨rfl, _, r1, k1⟩
theorem hp_bad1 (h1 : skipW d p < d.length) (h2 : nth d (skipW d p) ≠ 62) (h3 : Fo.hexVal (nth d (skipW d p)) = none) : PNo 154 B br bd off cap d most p out (5 : Nat) := by
  intro w ov h
  have HN := hide (nextInk_at h h1)
  have e1 : ((nth d (skipW d p) : Int) == 62) = false := by simp; omega
  have H3 := hide h3
  generalize nth d (skipW d p) = C at *
  clear h2 h3
  go_enter Tryz.func154, Tryz.ntmps154
  go_wp2_with fail
  refine HN.out.mono ?_
  rintro e w1 ⟨rfl, r1, k1⟩
  go_wp2_with fail
  refine (hexValue_no _ _ H3.out).mono ?_
  rintro e w2 ⟨rfl, rfl⟩
  exact ⟨rfl, rfl, k1⟩
section two
variable {a : Nat}
theorem hp_none2 (h1 : skipW d p < d.length) (h2 : nth d (skipW d p) ≠ 62) (h3 : Fo.hexVal (nth d (skipW d p)) = some a) (g1 : d.length ≤ skipW d (skipW d p + 1)) : PNo 154 B br bd off cap d most p out (5 : Nat) := by
  intro w ov h
  have HN := hide (nextInk_at h h1)
  have e1 : ((nth d (skipW d p) : Int) == 62) = false := by simp; omega
  have H3 := hide h3
  generalize nth d (skipW d p) = C at *
  clear h2 h3
  go_enter Tryz.func154, Tryz.ntmps154
  go_wp2_with fail
  refine HN.out.mono ?_
  rintro e w1 ⟨rfl, r1, k1⟩
  have HN2 := hide (nextInk_none r1 g1)
  go_wp2_with fail
  refine (hexValue_ok _ _ _ H3.out).mono ?_
  rintro e w2 ⟨rfl, rfl⟩
  go_wp2_with fail
  refine HN2.out.mono ?_
  rintro e w2 ⟨rfl, k2⟩
  exact ⟨rfl, rfl, k1.trans k2⟩
theorem hp_end2 (h1 : skipW d p < d.length) (h2 : nth d (skipW d p) ≠ 62) (h3 : Fo.hexVal (nth d (skipW d p)) = some a) (g1 : skipW d (skipW d p + 1) < d.length) (g2 : nth d (skipW d (skipW d p + 1)) = 62) (ho : out.length + 1 ≤ most) : PGo 154 B br bd off cap d most p out false (skipW d (skipW d p + 1) + 1) (out ++ [16 * a]) := by
  intro w ov h
  have ha := hexVal_lt16 h3
  have HN := hide (nextInk_at h h1)
  have e1 : ((nth d (skipW d p) : Int) == 62) = false := by simp; omega
  have e2 : ((nth d (skipW d (skipW d p + 1)) : Int) == 62) = true := by rw [g2]; rfl
  have H3 := hide h3
  generalize nth d (skipW d p) = C at *
  clear h2 h3 g2
  go_enter Tryz.func154, Tryz.ntmps154
  go_wp2_with fail
  refine HN.out.mono ?_
  rintro e w1 ⟨rfl, r1, k1⟩
  have HN2 := hide (nextInk_at r1 g1)
  generalize nth d (skipW d (skipW d p + 1)) = C2 at *
  go_wp2_with fail
  refine (hexValue_ok _ _ _ H3.out).mono ?_
  rintro e w2 ⟨rfl, rfl⟩
  go_wp2_with fail
  refine HN2.out.mono ?_
  rintro e w2 ⟨rfl, r2, k2⟩
  go_wp2_with fail
  refine (put1_ok r2 (16 * a) _ (by omega) ho).mono ?_
  rintro e w3 ⟨rfl, ov', r3, k3⟩
  go_wp2
  go_ret
  exact ⟨rfl, ov', r3, (k1.trans k2).trans k3⟩
theorem hp_end2_no (h1 : skipW d p < d.length) (h2 : nth d (skipW d p) ≠ 62) (h3 : Fo.hexVal (nth d (skipW d p)) = some a) (g1 : skipW d (skipW d p + 1) < d.length) (g2 : nth d (skipW d (skipW d p + 1)) = 62) (ho : most < out.length + 1) : PNo 154 B br bd off cap d most p out (6 : Nat) := by
  intro w ov h
  have ha := hexVal_lt16 h3
  have HN := hide (nextInk_at h h1)
  have e1 : ((nth d (skipW d p) : Int) == 62) = false := by simp; omega
  have e2 : ((nth d (skipW d (skipW d p + 1)) : Int) == 62) = true := by rw [g2]; rfl
  have H3 := hide h3
  generalize nth d (skipW d p) = C at *
  clear h2 h3 g2
  go_enter Tryz.func154, Tryz.ntmps154
  go_wp2_with fail
  refine HN.out.mono ?_
  rintro e w1 ⟨rfl, r1, k1⟩
  have HN2 := hide (nextInk_at r1 g1)
  generalize nth d (skipW d (skipW d p + 1)) = C2 at *
  go_wp2_with fail
  refine (hexValue_ok _ _ _ H3.out).mono ?_
  rintro e w2 ⟨rfl, rfl⟩
  go_wp2_with fail
  refine HN2.out.mono ?_
  rintro e w2 ⟨rfl, r2, k2⟩
  go_wp2_with fail
  refine (put_no (r2.alloc _) 1 _ 1 (by omega) ho).mono ?_
  rintro e w3 ⟨rfl, q, rfl⟩
  exact ⟨rfl, rfl, ((k1.trans k2).alloc _).drewN q⟩
theorem hp_bad2 (h1 : skipW d p < d.length) (h2 : nth d (skipW d p) ≠ 62) (h3 : Fo.hexVal (nth d (skipW d p)) = some a) (g1 : skipW d (skipW d p + 1) < d.length) (g2 : nth d (skipW d (skipW d p + 1)) ≠ 62) (g3 : Fo.hexVal (nth d (skipW d (skipW d p + 1))) = none) : PNo 154 B br bd off cap d most p out (5 : Nat) := by
  intro w ov h
  have HN := hide (nextInk_at h h1)
  have e1 : ((nth d (skipW d p) : Int) == 62) = false := by simp; omega
  have e2 : ((nth d (skipW d (skipW d p + 1)) : Int) == 62) = false := by simp; omega
  have H3 := hide h3
  have G3 := hide g3
  generalize nth d (skipW d p) = C at *
  clear h2 h3 g2 g3
  go_enter Tryz.func154, Tryz.ntmps154
  go_wp2_with fail
  refine HN.out.mono ?_
  rintro e w1 ⟨rfl, r1, k1⟩
  have HN2 := hide (nextInk_at r1 g1)
  generalize nth d (skipW d (skipW d p + 1)) = C2 at *
  go_wp2_with fail
  refine (hexValue_ok _ _ _ H3.out).mono ?_
  rintro e w2 ⟨rfl, rfl⟩
  go_wp2_with fail
  refine HN2.out.mono ?_
  rintro e w2 ⟨rfl, r2, k2⟩
  go_wp2_with fail
  refine (hexValue_no _ _ G3.out).mono ?_
  rintro e w3 ⟨rfl, rfl⟩
  exact ⟨rfl, rfl, k1.trans k2⟩
variable {b : Nat}
theorem hp_go (h1 : skipW d p < d.length) (h2 : nth d (skipW d p) ≠ 62) (h3 : Fo.hexVal (nth d (skipW d p)) = some a) (g1 : skipW d (skipW d p + 1) < d.length) (g2 : nth d (skipW d (skipW d p + 1)) ≠ 62) (g3 : Fo.hexVal (nth d (skipW d (skipW d p + 1))) = some b) (ho : out.length + 1 ≤ most) : PGo 154 B br bd off cap d most p out true (skipW d (skipW d p + 1) + 1) (out ++ [16 * a + b]) := by
  intro w ov h
  have ha := hexVal_lt16 h3
  have hb := hexVal_lt16 g3
  have HN := hide (nextInk_at h h1)
  have e1 : ((nth d (skipW d p) : Int) == 62) = false := by simp; omega
  have e2 : ((nth d (skipW d (skipW d p + 1)) : Int) == 62) = false := by simp; omega
  have H3 := hide h3
  have G3 := hide g3
  generalize nth d (skipW d p) = C at *
  clear h2 h3 g2 g3
  go_enter Tryz.func154, Tryz.ntmps154
  go_wp2_with fail
  refine HN.out.mono ?_
  rintro e w1 ⟨rfl, r1, k1⟩
  have HN2 := hide (nextInk_at r1 g1)
  generalize nth d (skipW d (skipW d p + 1)) = C2 at *
  go_wp2_with fail
  refine (hexValue_ok _ _ _ H3.out).mono ?_
  rintro e w2 ⟨rfl, rfl⟩
  go_wp2_with fail
  refine HN2.out.mono ?_
  rintro e w2 ⟨rfl, r2, k2⟩
  go_wp2_with fail
  refine (hexValue_ok _ _ _ G3.out).mono ?_
  rintro e w' ⟨rfl, rfl⟩
  go_wp2_with fail
  refine (put1_ok r2 (16 * a + b) _ ?_ ho).mono ?_
  · have := u8_or_nat (a * 16) b (by omega) (by omega)
    rw [join16 a b ha hb] at this
    simp only [Int.natCast_mul, Int.natCast_add] at this ⊢
    rw [show ((16 : Nat) : Int) = 16 from rfl] at this ⊢
    rw [this]; omega
  rintro e w3 ⟨rfl, ov', r3, k3⟩
  go_wp2
  go_ret
  exact ⟨rfl, ov', r3, (k1.trans k2).trans k3⟩
theorem hp_go_no (h1 : skipW d p < d.length) (h2 : nth d (skipW d p) ≠ 62) (h3 : Fo.hexVal (nth d (skipW d p)) = some a) (g1 : skipW d (skipW d p + 1) < d.length) (g2 : nth d (skipW d (skipW d p + 1)) ≠ 62) (g3 : Fo.hexVal (nth d (skipW d (skipW d p + 1))) = some b) (ho : most < out.length + 1) : PNo 154 B br bd off cap d most p out (6 : Nat) := by
  intro w ov h
  have HN := hide (nextInk_at h h1)
  have e1 : ((nth d (skipW d p) : Int) == 62) = false := by simp; omega
  have e2 : ((nth d (skipW d (skipW d p + 1)) : Int) == 62) = false := by simp; omega
  have H3 := hide h3
  have G3 := hide g3
  generalize nth d (skipW d p) = C at *
  clear h2 h3 g2 g3
  go_enter Tryz.func154, Tryz.ntmps154
  go_wp2_with fail
  refine HN.out.mono ?_
  rintro e w1 ⟨rfl, r1, k1⟩
  have HN2 := hide (nextInk_at r1 g1)
  generalize nth d (skipW d (skipW d p + 1)) = C2 at *
  go_wp2_with fail
  refine (hexValue_ok _ _ _ H3.out).mono ?_
  rintro e w2 ⟨rfl, rfl⟩
  go_wp2_with fail
  refine HN2.out.mono ?_
  rintro e w2 ⟨rfl, r2, k2⟩
  go_wp2_with fail
  refine (hexValue_ok _ _ _ G3.out).mono ?_
  rintro e w' ⟨rfl, rfl⟩
  go_wp2_with fail
  refine (put_no (r2.alloc _) 1 _ 1 (by omega) ho).mono ?_
  rintro e w3 ⟨rfl, q, rfl⟩
  exact ⟨rfl, rfl, ((k1.trans k2).alloc _).drewN q⟩
end two
theorem decodeHex_says (h : Rd B br bd off cap d most w 0 ov []) :
    Calls Tryz.prog 113 #[.pointer (some ⟨br, 0, none⟩)] w fun e w' => DRes B br bd off cap d most w (hexDec d most (d.length + 1) 0 []) e w' := by
  refine decodeHex_any (J := fun q o R => ∃ f, d.length - q < f ∧ hexDec d most f q o = R) (fun q o hJ _ hq => ?_) ⟨d.length + 1, by omega, rfl⟩ h
  obtain ⟨f, hf, hR⟩ := hJ
  generalize hexDec d most (d.length + 1) 0 [] = R at *
  obtain ⟨f, rfl⟩ : ∃ k, f = k + 1 := ⟨f - 1, by omega⟩
  unfold hexDec at hR
  have g0 := skipW_ge d q
  by_cases c1 : d.length ≤ skipW d q
  · rw [if_pos c1] at hR
    exact Or.inr (Or.inr ⟨5, hR.symm, hp_none c1⟩)
  rw [if_neg c1] at hR
  by_cases c2 : nth d (skipW d q) = 62
  · rw [if_pos c2] at hR
    exact Or.inr (Or.inl ⟨_, _, hR.symm, hp_end (by omega) c2⟩)
  rw [if_neg c2] at hR
  have c1' : skipW d q < d.length := by omega
  cases c3 : Fo.hexVal (nth d (skipW d q)) with
  | none =>
    rw [c3] at hR
    exact Or.inr (Or.inr ⟨5, hR.symm, hp_bad1 c1' c2 c3⟩)
  | some a =>
    rw [c3] at hR
    simp only [] at hR
    have g1 := skipW_ge d (skipW d q + 1)
    by_cases k1 : d.length ≤ skipW d (skipW d q + 1)
    · rw [if_pos k1] at hR
      exact Or.inr (Or.inr ⟨5, hR.symm, hp_none2 c1' c2 c3 k1⟩)
    rw [if_neg k1] at hR
    have k1' : skipW d (skipW d q + 1) < d.length := by omega
    by_cases k2 : nth d (skipW d (skipW d q + 1)) = 62
    · rw [if_pos k2] at hR
      by_cases ho : o.length + 1 ≤ most
      · rw [if_pos ho] at hR
        exact Or.inr (Or.inl ⟨_, _, hR.symm, hp_end2 c1' c2 c3 k1' k2 ho⟩)
      · rw [if_neg ho] at hR
        exact Or.inr (Or.inr ⟨6, hR.symm, hp_end2_no c1' c2 c3 k1' k2 (by omega)⟩)
    rw [if_neg k2] at hR
    cases k3 : Fo.hexVal (nth d (skipW d (skipW d q + 1))) with
    | none =>
      rw [k3] at hR
      exact Or.inr (Or.inr ⟨5, hR.symm, hp_bad2 c1' c2 c3 k1' k2 k3⟩)
    | some b =>
      rw [k3] at hR
      simp only [] at hR
      by_cases ho : o.length + 1 ≤ most
      · rw [if_pos ho] at hR
        exact Or.inl ⟨_, _, by omega, ⟨f, by omega, hR⟩, hp_go c1' c2 c3 k1' k2 k3 ho⟩
      · rw [if_neg ho] at hR
        exact Or.inr (Or.inr ⟨6, hR.symm, hp_go_no c1' c2 c3 k1' k2 k3 (by omega)⟩)
end Go.Proofs.YtgkljcmjnphpeaaGreatDoor
namespace Go.Proofs.YtgkljcmjnphpeaaGreatDoor
open Go.RowKit
variable {B br bd off cap : Nat} {d : List Nat} {most : Nat} {w : World} {p : Nat} {ov : Value} {out : List Nat}
theorem news1' {w : World} {a : Nat} : ∀ j u, ([a].map fun x : Nat => Value.int .u8 (x : Int))[j]? = some u → (w.alloc (.cells #[.int .u8 (a : Nat)] 5)).cell? ((⟨w.heap.size, 0, none⟩ : Addr).add j) = some u := by
  intro j u hu
  match j, hu with
  | 0, hu => rw [addr_add, World.cell?_alloc_new]; exact hu
  | j + 1, hu => simp at hu
set_option maxRecDepth 100000 in
set_option maxHeartbeats 1000000 in
theorem prepeat_ok (h : Rd B br bd off cap d most w p ov out) (b n : Nat) (hb : b < 256) (hn : n ≤ 1000000) (ho : out.length + n ≤ most) :
    Calls Tryz.prog 218 #[.pointer (some ⟨br, 0, none⟩), .int .u8 b, .int .i64 n] w fun e w' => e = .returned (.tuple #[]) ∧ ∃ ov', Rd B br bd off cap d most w' p ov' (out ++ List.replicate n b) ∧ Kept 5 B [br] w w' := by
  obtain ⟨i0, hi, hz0, hz1, hz2⟩ := info_parts Tryz.infoByte
  have HR := hide (room_ok h n ho)
  go_enter Tryz.func218, Tryz.ntmps218
  go_wp2_with fail
  refine HR.out.mono ?_
  rintro e w1 ⟨rfl, q, rfl⟩
  go_wp2
  go_loopw [10] (fun i wr => ∃ (k : Nat) (ov' : Value), k ≤ n ∧ i = .int .i64 k ∧ Rd B br bd off cap d most wr p ov' (out ++ List.replicate k b) ∧ Kept 5 B [br] w wr) (fun i _ => n - (intOf i).toNat)
  case atStart => exact ⟨0, ov, Nat.zero_le _, rfl, by simpa using h.drewN q, (Kept.refl _ _ _ _).drewN q⟩
  clear HR h
  case round =>
    obtain ⟨k, ov', hk, rfl, r, kk⟩ := hrel
    have hlen : (out ++ List.replicate k b).length = out.length + k := by simp
    by_cases hlt : k < n
    · have HS : Hid (out ++ List.replicate (k + 1) b = (out ++ List.replicate k b) ++ [b]) := by
        unfold Hid
        rw [List.replicate_succ', List.append_assoc]
      have hlm := r.lm
      have hlo : (out ++ List.replicate k b).length ≤ 1000000 := by omega
      have ho1 : (out ++ List.replicate k b).length + 1 ≤ most := by omega
      clear hlen
      generalize out ++ List.replicate k b = o at *
      have c2 := r.c2
      have hs := r.sz
      have HRr := hide r
      have KK := hide kk
      clear r kk
      go_wp2_with (at_builtin; refine wpList_append_own _ rfl (.tmp 16) (.tmp 18) 23 rfl B 5 i0 (.int .u8 0) 1 1 Tryz.underlying23 hi hz0 hz1 hz2 rfl (by decide) ov' o.length _ rfl (HRr.out.alloc _).own ⟨wr.heap.size, 0, none⟩ 1 1 ([b].map fun x : Nat => .int .u8 (x : Int)) rfl rfl ?hnews ?hone ?h63 ?hby ?hbs ?_)
      case hnews => exact news1'
      case hone => intro u hu; simp at hu; subst hu; rfl
      case h63 => unfold maxLen; omega
      case hby => omega
      case hbs => simp; omega
      intro v' w2 hown hg0 _
      have hg : (wr.alloc (.cells #[.int .u8 (b : Nat)] 5)).grownBy w2 ov'.ownBlock := ⟨hg0.os, hg0.tape, hg0.output, hg0.size, hg0.block⟩
      clear hg0
      have hkb := (HRr.out.alloc (.cells #[.int .u8 (b : Nat)] 5)).grown_blk hg
      have k2 : w2.cell? ⟨br, 2, none⟩ = some ov' := by rw [cell_blk hkb]; rfl
      have f2 : w2.frozen? ⟨br, 2, none⟩ = false := free_blk hkb
      obtain ⟨ao, oc, rfl⟩ := own_slice hown
      have R := hide ((HRr.out.alloc (.cells #[.int .u8 (b : Nat)] 5)).put (xs := [b]) ho1 hown hg)
      have K2 := hide (((KK.out.alloc (.cells #[.int .u8 (b : Nat)] 5)).grown hg (own_row (HRr.out.alloc _).own)).setCell (p := ⟨br, 2, none⟩) (by simp) (.slice ao (o.length + 1) oc))
      clear hown hg hkb HRr KK
      go_wp2
      go_roundw
      case rel => exact ⟨k + 1, _, by omega, by go_num, by rw [HS.out]; exact R.out, K2.out⟩
      case measure => simp [intOf]; omega
    · obtain rfl : k = n := by omega
      go_wp2
      go_end0
      exact ⟨rfl, ov', r, kk⟩
theorem repeat_no (h : Rd B br bd off cap d most w p ov out) (b n : Nat) (hn : n ≤ 1000000) (ho : most < out.length + n) :
    Calls Tryz.prog 218 #[.pointer (some ⟨br, 0, none⟩), .int .u8 b, .int .i64 n] w fun e w' => e = gaveUp 6 ∧ Kept 5 B [br] w w' := by
  have HR := hide (room_no h n hn ho)
  go_enter Tryz.func218, Tryz.ntmps218
  go_wp2_with fail
  refine HR.out.mono ?_
  rintro e w1 ⟨rfl, q, rfl⟩
  exact ⟨rfl, rfl, (Kept.refl _ _ _ _).drewN q⟩
theorem run_end (hp : p < d.length) (h1 : nth d p = 128) : PGo 158 B br bd off cap d most p out false (p + 1) out := by
  intro w ov h
  have HN := hide (next_ok h hp)
  rw [h1] at HN
  go_enter Tryz.func158, Tryz.ntmps158
  go_wp2_with fail
  refine HN.out.mono ?_
  rintro e w1 ⟨rfl, r1, k1⟩
  go_wp2
  go_ret
  exact ⟨rfl, ov, r1, k1⟩
theorem run_cut : PNo 158 B br bd off cap d most d.length out 5 := by
  intro w ov h
  go_enter Tryz.func158, Tryz.ntmps158
  go_wp2_with fail
  refine (next_no h).mono ?_
  rintro e w1 ⟨rfl, k1⟩
  exact ⟨rfl, rfl, k1⟩
set_option maxRecDepth 100000 in
theorem run_same (n x : Nat) (hn : 2 ≤ n) (hn2 : n ≤ 128) (hp : p + 1 < d.length) (h1 : nth d p = 257 - n) (h2 : nth d (p + 1) = x) (hx : x < 256) (ho : out.length + n ≤ most) : PGo 158 B br bd off cap d most p out true (p + 2) (out ++ List.replicate n x) := by
  intro w ov h
  have HN := hide (next_ok h (by omega))
  rw [h1] at HN
  obtain ⟨m, hm⟩ : ∃ m, m = 257 - n := ⟨_, rfl⟩
  rw [← hm] at HN
  have e1 : ((m : Int) == 128) = false := by simp; omega
  have e2 : ¬ (m : Int) < 128 := by omega
  have em : (257 : Int) - m = n := by omega
  have hm2 : m ≤ 255 := by omega
  clear hm
  go_enter Tryz.func158, Tryz.ntmps158
  go_wp2_with fail
  refine HN.out.mono ?_
  rintro e w1 ⟨rfl, r1, k1⟩
  have HN2 := hide (next_ok r1 hp)
  rw [h2] at HN2
  go_wp2_with fail
  refine HN2.out.mono ?_
  rintro e w2 ⟨rfl, r2, k2⟩
  go_wp2_with fail
  refine (prepeat_ok r2 x n hx (by omega) ho).mono ?_
  rintro e w3 ⟨rfl, ov3, r3, k3⟩
  go_wp2
  go_ret
  exact ⟨rfl, ov3, r3, (k1.trans k2).trans k3⟩
set_option maxRecDepth 100000 in
theorem run_same_cap (n x : Nat) (hn : 2 ≤ n) (hn2 : n ≤ 128) (hp : p + 1 < d.length) (h1 : nth d p = 257 - n) (h2 : nth d (p + 1) = x) (ho : most < out.length + n) : PNo 158 B br bd off cap d most p out 6 := by
  intro w ov h
  have HN := hide (next_ok h (by omega))
  rw [h1] at HN
  obtain ⟨m, hm⟩ : ∃ m, m = 257 - n := ⟨_, rfl⟩
  rw [← hm] at HN
  have e1 : ((m : Int) == 128) = false := by simp; omega
  have e2 : ¬ (m : Int) < 128 := by omega
  have em : (257 : Int) - m = n := by omega
  have hm2 : m ≤ 255 := by omega
  clear hm
  go_enter Tryz.func158, Tryz.ntmps158
  go_wp2_with fail
  refine HN.out.mono ?_
  rintro e w1 ⟨rfl, r1, k1⟩
  have HN2 := hide (next_ok r1 hp)
  rw [h2] at HN2
  go_wp2_with fail
  refine HN2.out.mono ?_
  rintro e w2 ⟨rfl, r2, k2⟩
  go_wp2_with fail
  refine (repeat_no r2 x n (by omega) ho).mono ?_
  rintro e w3 ⟨rfl, k3⟩
  exact ⟨rfl, rfl, (k1.trans k2).trans k3⟩
theorem run_mix (n : Nat) (D : List Nat) (hn : 1 ≤ n) (hn2 : n ≤ 128) (hD : D.length = n) (hp : p + 1 + n ≤ d.length) (h1 : nth d p = n - 1) (h2 : ∀ i, i < n → nth d (p + 1 + i) = nth D i) (ho : out.length + n ≤ most) : PGo 158 B br bd off cap d most p out true (p + 1 + n) (out ++ D) := by
  intro w ov h
  have HN := hide (next_ok h (by omega))
  rw [h1] at HN
  obtain ⟨m, rfl⟩ : ∃ m, n = m + 1 := ⟨n - 1, by omega⟩
  rw [Nat.add_sub_cancel] at HN
  have e1 : ((m : Int) == 128) = false := by simp; omega
  have e2 : (m : Int) < 128 := by omega
  have H2 := hide h2
  clear h2
  go_enter Tryz.func158, Tryz.ntmps158
  go_wp2_with fail
  refine HN.out.mono ?_
  rintro e w1 ⟨rfl, r1, k1⟩
  have HT := hide (take_ok r1 (m + 1) (by omega) hp)
  go_wp2_with fail
  refine HT.out.mono ?_
  rintro e w2 ⟨rfl, r2, k2⟩
  have HP := hide (put_ok r2 D ⟨bd, off + (p + 1), none⟩ (cap - (p + 1)) (by rw [hD]; exact ho) (by have := r2.sz; omega) (fun i hi => by rw [addr_add2, ← H2.out i (by omega), Nat.add_assoc]; exact r2.dat (p + 1 + i) (by omega)))
  rw [hD] at HP
  go_wp2_with fail
  refine HP.out.mono ?_
  rintro e w3 ⟨rfl, ov3, r3, k3⟩
  go_wp2
  go_ret
  exact ⟨rfl, ov3, r3, (k1.trans k2).trans k3⟩
theorem run_mix_cap (n : Nat) (hn : 1 ≤ n) (hn2 : n ≤ 128) (hp : p + 1 + n ≤ d.length) (h1 : nth d p = n - 1) (ho : most < out.length + n) : PNo 158 B br bd off cap d most p out 6 := by
  intro w ov h
  have HN := hide (next_ok h (by omega))
  rw [h1] at HN
  obtain ⟨m, rfl⟩ : ∃ m, n = m + 1 := ⟨n - 1, by omega⟩
  rw [Nat.add_sub_cancel] at HN
  have e1 : ((m : Int) == 128) = false := by simp; omega
  have e2 : (m : Int) < 128 := by omega
  go_enter Tryz.func158, Tryz.ntmps158
  go_wp2_with fail
  refine HN.out.mono ?_
  rintro e w1 ⟨rfl, r1, k1⟩
  have HT := hide (take_ok r1 (m + 1) (by omega) hp)
  go_wp2_with fail
  refine HT.out.mono ?_
  rintro e w2 ⟨rfl, r2, k2⟩
  go_wp2_with fail
  refine (put_no r2 (m + 1) _ _ (by omega) ho).mono ?_
  rintro e w3 ⟨rfl, q, rfl⟩
  exact ⟨rfl, rfl, (k1.trans k2).drewN q⟩
end Go.Proofs.YtgkljcmjnphpeaaGreatDoor
namespace Go.Proofs.YtgkljcmjnphpeaaGreatDoor
open Go.RowKit
variable {B br bd off cap : Nat} {d : List Nat} {most : Nat} {w : World} {p : Nat} {ov : Value} {out : List Nat}
set_option maxRecDepth 100000 in
theorem run_same_cut (m : Nat) (hp : p + 1 = d.length) (h1 : nth d p = m) (hm : 128 < m) (hm2 : m < 256) : PNo 158 B br bd off cap d most p out 5 := by
  intro w ov h
  have HN := hide (next_ok h (by omega))
  rw [h1] at HN
  have e1 : ((m : Int) == 128) = false := by simp; omega
  have e2 : ¬ (m : Int) < 128 := by omega
  have em : 257 - (m : Int) ≤ 200 := by omega
  clear h1
  rw [hp] at HN
  go_enter Tryz.func158, Tryz.ntmps158
  go_wp2_with fail
  refine HN.out.mono ?_
  rintro e w1 ⟨rfl, r1, k1⟩
  have HN2 := hide (next_no r1)
  go_wp2_with fail
  refine HN2.out.mono ?_
  rintro e w2 ⟨rfl, k2⟩
  exact ⟨rfl, rfl, k1.trans k2⟩
theorem run_mix_cut (m : Nat) (hm : m < 128) (hp0 : p < d.length) (hp : d.length < p + 1 + (m + 1)) (h1 : nth d p = m) : PNo 158 B br bd off cap d most p out 5 := by
  intro w ov h
  have HN := hide (next_ok h (by omega))
  rw [h1] at HN
  have e1 : ((m : Int) == 128) = false := by simp; omega
  have e2 : (m : Int) < 128 := by omega
  clear h1
  go_enter Tryz.func158, Tryz.ntmps158
  go_wp2_with fail
  refine HN.out.mono ?_
  rintro e w1 ⟨rfl, r1, k1⟩
  have HT := hide (take_no r1 (m + 1) (by omega) hp)
  go_wp2_with fail
  refine HT.out.mono ?_
  rintro e w2 ⟨rfl, q, rfl⟩
  exact ⟨rfl, rfl, k1.drewN q⟩
theorem nth_slice (d : List Nat) (k n i : Nat) (hi : i < n) : nth ((d.drop k).take n) i = nth d (k + i) := by
  simp [nth, List.getElem?_take, List.getElem?_drop, hi]
theorem decodeRun_says (h : Rd B br bd off cap d most w 0 ov []) :
    Calls Tryz.prog 115 #[.pointer (some ⟨br, 0, none⟩)] w fun e w' => DRes B br bd off cap d most w (runDec d most (d.length + 1) 0 []) e w' := by
  have byt := h.byt
  refine decodeRun_any (J := fun q o R => ∃ f, d.length - q < f ∧ runDec d most f q o = R) (fun q o hJ _ hq => ?_) ⟨d.length + 1, by omega, rfl⟩ h
  obtain ⟨f, hf, hR⟩ := hJ
  generalize runDec d most (d.length + 1) 0 [] = R at *
  obtain ⟨f, rfl⟩ : ∃ k, f = k + 1 := ⟨f - 1, by omega⟩
  unfold runDec at hR
  by_cases c1 : d.length ≤ q
  · rw [if_pos c1] at hR
    obtain rfl : q = d.length := by omega
    exact Or.inr (Or.inr ⟨5, hR.symm, run_cut⟩)
  rw [if_neg c1] at hR
  have hb := byt q (by omega)
  by_cases c2 : nth d q = 128
  · rw [if_pos c2] at hR
    exact Or.inr (Or.inl ⟨q + 1, o, hR.symm, run_end (by omega) c2⟩)
  rw [if_neg c2] at hR
  by_cases c3 : nth d q < 128
  · rw [if_pos c3] at hR
    by_cases c4 : q + 1 + (nth d q + 1) ≤ d.length
    · rw [if_pos c4] at hR
      by_cases ho : o.length + (nth d q + 1) ≤ most
      · rw [if_pos ho] at hR
        refine Or.inl ⟨_, _, by omega, ⟨f, by omega, hR⟩, run_mix (nth d q + 1) _ (by omega) (by omega) ?_ c4 (by omega) (fun i hi => (nth_slice d _ _ i hi).symm) ho⟩
        rw [List.length_take, List.length_drop]; omega
      · rw [if_neg ho] at hR
        exact Or.inr (Or.inr ⟨6, hR.symm, run_mix_cap (nth d q + 1) (by omega) (by omega) c4 (by omega) (by omega)⟩)
    · rw [if_neg c4] at hR
      exact Or.inr (Or.inr ⟨5, hR.symm, run_mix_cut (nth d q) c3 (by omega) (by omega) rfl⟩)
  rw [if_neg c3] at hR
  by_cases c4 : q + 1 < d.length
  · rw [if_pos c4] at hR
    by_cases ho : o.length + (257 - nth d q) ≤ most
    · rw [if_pos ho] at hR
      exact Or.inl ⟨_, _, by omega, ⟨f, by omega, hR⟩, run_same (257 - nth d q) _ (by omega) (by omega) c4 (by omega) rfl (byt _ c4) ho⟩
    · rw [if_neg ho] at hR
      exact Or.inr (Or.inr ⟨6, hR.symm, run_same_cap (257 - nth d q) _ (by omega) (by omega) c4 (by omega) rfl (by omega)⟩)
  · rw [if_neg c4] at hR
    exact Or.inr (Or.inr ⟨5, hR.symm, run_same_cut (nth d q) (by omega) rfl (by omega) hb⟩)
end Go.Proofs.YtgkljcmjnphpeaaGreatDoor
namespace Go.Proofs.YtgkljcmjnphpeaaGreatDoor
open Go.RowKit
variable {B br bd off cap : Nat} {d : List Nat} {most : Nat} {w : World} {p : Nat} {ov : Value} {out : List Nat}
theorem putShort_zero {G : List Nat} (w : World) : Calls Tryz.prog 215 #[.pointer (some ⟨br, 0, none⟩), .agg (byteVals (partly G 0)).toArray, .int .i64 (0 : Nat)] w fun e w' => e = .returned (.tuple #[]) ∧ ∃ o, w' = w.alloc o := by
  generalize (byteVals (partly G 0)).toArray = C
  go_enter Tryz.func215, Tryz.ntmps215
  go_wp2
  refine bodyPost_ret (v := .tuple #[]) (by simp [results, Tryz.results215, go_sem]) rfl ⟨rfl, _, rfl⟩
set_option maxRecDepth 100000 in
set_option maxHeartbeats 1000000 in
theorem putShort_no (h : Rd B br bd off cap d most w p ov out) (g0 g1 g2 g3 g4 n : Nat) (hn : 2 ≤ n) (hn2 : n ≤ 4) (h0 : 33 ≤ g0 ∧ g0 ≤ 117) (h1 : 33 ≤ g1 ∧ g1 ≤ 117) (h2 : 33 ≤ (if n ≤ 2 then 117 else g2) ∧ (if n ≤ 2 then 117 else g2) ≤ 117) (h3 : 33 ≤ (if n ≤ 3 then 117 else g3) ∧ (if n ≤ 3 then 117 else g3) ≤ 117)
    (V : Nat) (hV : a85V [g0, g1, if n ≤ 2 then 117 else g2, if n ≤ 3 then 117 else g3, 117] 0 = V) (hm : V ≤ 4294967295) (ho : most < out.length + (n - 1)) :
    Calls Tryz.prog 215 #[.pointer (some ⟨br, 0, none⟩), .agg (byteVals [g0, g1, g2, g3, g4]).toArray, .int .i64 n] w fun e w' => e = gaveUp 6 ∧ Kept 5 B [br] w w' := by
  have HF := hide (fill5_eq g0 g1 g2 g3 g4 n hn hn2)
  have HB : Hid (∀ W : World, Calls Tryz.prog 217 #[.agg (byteVals [g0, g1, if n ≤ 2 then 117 else g2, if n ≤ 3 then 117 else g3, 117]).toArray] W fun e w' => e = .returned (.agg #[.int .u8 (V / 16777216 : Nat), .int .u8 (V / 65536 % 256 : Nat), .int .u8 (V / 256 % 256 : Nat), .int .u8 (V % 256 : Nat)]) ∧ Below W.heap.size W w') := fun W => a85Bytes_ok g0 g1 _ _ 117 h0 h1 h2 h3 (by omega) V hV hm W
  clear h0 h1 h2 h3 hV
  generalize hR : [g0, g1, if n ≤ 2 then 117 else g2, if n ≤ 3 then 117 else g3, 117] = R at *
  have hR5 : R.length = 5 := by rw [← hR]; rfl
  have HR := hide hR
  have hbox : (w.alloc (.cells (byteVals [g0, g1, g2, g3, g4]).toArray 184)).heap[w.heap.size]? = some (.cells (byteVals [g0, g1, g2, g3, g4]).toArray 184 (0, 0)) := blk_new _ _
  have h5 : [g0, g1, g2, g3, g4].length = 5 := rfl
  generalize [g0, g1, g2, g3, g4] = D at *
  clear hR
  have hne0 : ((n : Int) == 0) = false := by simp; omega
  have hn1 : (1 : Int) < n := by omega
  go_enter Tryz.func215, Tryz.ntmps215
  go_wp2_with (go_at_call 163; refine (must_yes _).mono ?_; rintro e w' ⟨rfl, rfl⟩)
  go_loopw [6] (fun i wr => ∃ (k : Nat) (E : List Nat), n ≤ k ∧ k ≤ 5 ∧ i = .int .i64 k ∧ E.length = 5 ∧ Hid (fill5 E (5 - k) k = R) ∧ wr.heap[w.heap.size]? = some (.cells (byteVals E).toArray 184 (0, 0)) ∧ Below w.heap.size w wr) (fun i _ => 5 - (intOf i).toNat)
  case atStart => exact ⟨n, D, Nat.le_refl _, by omega, rfl, h5, HF, hbox, (Below.refl _ _).alloc (Nat.le_refl _) _⟩
  clear hbox HF
  case round =>
    obtain ⟨k, E, k1, k2, rfl, hE, HK, hb, bl⟩ := hrel
    by_cases hk : k < 5
    · obtain ⟨x, hx⟩ : ∃ x, wr.cell? ⟨w.heap.size, k, none⟩ = some x := by
        rw [cell_blk hb]
        exact ⟨_, Array.getElem?_eq_getElem (by simp [byteVals, hE]; omega)⟩
      have fx : wr.frozen? ⟨w.heap.size, k, none⟩ = false := free_blk hb
      have hk' : (k : Int) < 5 := by omega
      have HB2 : Hid ((wr.setCell ⟨w.heap.size, k, none⟩ (.int .u8 117)).heap[w.heap.size]? = some (.cells (byteVals (E.set k 117)).toArray 184 (0, 0))) := by
        unfold Hid
        rw [blk_setCell _ hb]
        exact congrArg (fun C => some (Obj.cells C 184 (0, 0))) (byteVals_set E k 117)
      have HBL := hide bl
      clear hb bl
      go_wp2
      go_roundw
      case rel =>
        refine ⟨k + 1, E.set k 117, by omega, by omega, by go_num, by rw [List.length_set]; exact hE, ?_, HB2.out, HBL.out.setCell (Nat.le_refl _) _⟩
        have := HK.out
        rw [show 5 - k = (5 - (k + 1)) + 1 by omega, fill5] at this
        exact this
      case measure => simp [intOf]; omega
    · obtain rfl : k = 5 := by omega
      obtain rfl : E = R := HK.out
      have hcs : Hid (wr.rangeAt w.heap.size 0 (byteVals E)) := by
        intro j v hj
        rw [cell_blk hb, Nat.zero_add]
        simpa using hj
      have hi5 : Hid ((Tryz.prog.info? 184).map (·.size) = some (byteVals E).length) := by
        unfold Hid byteVals; rw [List.length_map, hE]; kernel_rfl
      have HBL := hide bl
      have hsz := bl.size
      clear hb bl HK
      go_wp2_with (refine wpList_load_mid rfl 184 (.tmp 4) rfl w.heap.size 0 rfl _ _ hcs.out Tryz.underlying184 rfl hi5.out ?_)
      refine (HB.out _).mono ?_
      rintro e w1 ⟨rfl, b1⟩
      have HR1 := hide ((h.ofBelow (HBL.out.trans (b1.mono hsz))))
      have K1 := hide (HBL.out.trans (b1.mono hsz))
      clear h HBL b1 HB hcs hi5
      have hsl := run_slice43 w1.heap.size n hn hn2
      have HP := hide (put_no (HR1.out.alloc (.cells #[.int .u8 (V / 16777216 : Nat), .int .u8 (V / 65536 % 256 : Nat), .int .u8 (V / 256 % 256 : Nat), .int .u8 (V % 256 : Nat)] 153)) (n - 1) (some ⟨w1.heap.size, 0, none⟩) 4 (by omega) ho)
      go_wp2_with fail
      refine HP.out.mono ?_
      rintro e w2 ⟨rfl, q, rfl⟩
      exact ⟨rfl, rfl, (((Kept.refl _ _ _ _).trans ⟨K1.out.os, K1.out.tape, K1.out.output, K1.out.size, fun i o _ ho _ => by rw [K1.out.block i (lt_of_block ho)]; exact ho⟩).alloc _).drewN q⟩
theorem putShort_part_no (h : Rd B br bd off cap d most w p ov out) (G : List Nat) (hG : G.length = 5) (n : Nat) (hn : 2 ≤ n) (hn2 : n ≤ 4) (hg : ∀ i, i < n → 33 ≤ nth G i ∧ nth G i ≤ 117) (V : Nat) (hV : shortV (nth G 0) (nth G 1) (nth G 2) (nth G 3) n = V) (hm : V ≤ 4294967295) (ho : most < out.length + (n - 1)) :
    Calls Tryz.prog 215 #[.pointer (some ⟨br, 0, none⟩), .agg (byteVals (partly G n)).toArray, .int .i64 n] w fun e w' => e = gaveUp 6 ∧ Kept 5 B [br] w w' := by
  match G, hG with
  | [g0, g1, g2, g3, g4], _ =>
    have k0 := hg 0 (by omega)
    have k1 := hg 1 (by omega)
    obtain rfl | rfl | rfl : n = 2 ∨ n = 3 ∨ n = 4 := by omega
    · exact putShort_no h g0 g1 0 0 0 2 (by omega) (by omega) k0 k1 (by simp) (by simp) V hV hm ho
    · have k2 := hg 2 (by omega)
      exact putShort_no h g0 g1 g2 0 0 3 (by omega) (by omega) k0 k1 k2 (by simp) V hV hm ho
    · have k2 := hg 2 (by omega)
      have k3 := hg 3 (by omega)
      exact putShort_no h g0 g1 g2 g3 0 4 (by omega) (by omega) k0 k1 k2 k3 V hV hm ho
end Go.Proofs.YtgkljcmjnphpeaaGreatDoor
