/- The filter of hexadecimal digits, written. -/
import Derived.Test.YtgkljcmjnphpeaaDoorHex
import Derived.Test.YtgkljcmjnphpeaaDoorAp
set_option linter.unusedVariables false
set_option linter.unusedSimpArgs false
namespace Go.Proofs.YtgkljcmjnphpeaaDoor
open Go.RowKit
variable {B : Nat} {w : World}

theorem hexLit (n : Nat) (h : n < 16) (h2 : n < ({ data := #[48, 49, 50, 51, 52, 53, 54, 55, 56, 57, 97, 98, 99, 100, 101, 102] } : ByteArray).size) : (({ data := #[48, 49, 50, 51, 52, 53, 54, 55, 56, 57, 97, 98, 99, 100, 101, 102] } : ByteArray)[n]'h2).toNat = Fo.hexDig n := by
  match n, h with
  | 0, _ => rfl
  | 1, _ => rfl
  | 2, _ => rfl
  | 3, _ => rfl
  | 4, _ => rfl
  | 5, _ => rfl
  | 6, _ => rfl
  | 7, _ => rfl
  | 8, _ => rfl
  | 9, _ => rfl
  | 10, _ => rfl
  | 11, _ => rfl
  | 12, _ => rfl
  | 13, _ => rfl
  | 14, _ => rfl
  | 15, _ => rfl
  | n + 16, h => omega

theorem hexNews {w : World} {a b : Nat} {x y : Int} (ex : x = a) (ey : y = b) : ∀ j u, ([a, b].map fun x : Nat => Value.int .u8 (x : Int))[j]? = some u → (w.alloc (.cells #[.int .u8 x, .int .u8 y] 5)).drew.cell? ((⟨w.heap.size, 0, none⟩ : Addr).add j) = some u := by
  subst ex ey
  intro j u hu
  match j, hu with
  | 0, hu =>
    show (w.alloc _).cell? ⟨w.heap.size, 0 + 0, none⟩ = _
    rw [World.cell?_alloc_new]; exact hu
  | 1, hu =>
    show (w.alloc _).cell? ⟨w.heap.size, 0 + 1, none⟩ = _
    rw [World.cell?_alloc_new]; exact hu
  | j + 2, hu => simp at hu

theorem appendHex_ok (v : Value) (xs : List Nat) (hown : w.ownsRow B 5 1 v xs.length (xs.map fun x : Nat => .int .u8 (x : Int))) (hB : B ≤ w.heap.size) (hn : xs.length ≤ 1000000000) (b : Nat) (hb : b < 256) :
    Calls Tryd.prog 23 #[v, .int .u8 b] w fun e w' => ∃ v', e = .returned v' ∧ w'.ownsRow B 5 1 v' (xs.length + 2) ((xs.map fun x : Nat => .int .u8 (x : Int)) ++ ([Fo.hexDig (b / 16), Fo.hexDig (b % 16)].map fun x : Nat => .int .u8 (x : Int))) ∧ Kept 5 B [] w w' := by
  obtain ⟨i0, hi, hz0, hz1, hz2⟩ := info_parts Tryd.infoByte
  have g1 : 0 ≤ (b : Int) / 16 := by omega
  have g2 : (b : Int) / 16 < 16 := by omega
  have g3 : bits .and .u8 (b : Int) 15 = ((b % 16 : Nat) : Int) := by
    have := u8_and_nat b 15 hb (by omega)
    rw [nat_mask4] at this; exact this
  have g4 : (b : Int) % 16 < 16 := by omega
  have g5 : 0 ≤ (b : Int) % 16 := by omega
  have e1 : ((b : Int) / 16).toNat = b / 16 := by omega
  have e2 : ((b : Int) % 16).toNat = b % 16 := by omega
  have E1 := hide e1
  have E2 := hide e2
  clear e1 e2
  go_enter Tryd.func23, Tryd.ntmps23
  go_wp2_with fail
  go_region_law (refine step_append_own' rfl (.tmp 5) (.tmp 12) 22 rfl B 5 i0 (.int .u8 0) 1 1 Tryd.underlying22 hi hz0 hz1 hz2 rfl (by decide) v xs.length _ rfl (World.ownsRow.drew (hown.alloc _)) ⟨w.heap.size, 0, none⟩ 2 2 ([Fo.hexDig (b / 16), Fo.hexDig (b % 16)].map fun x : Nat => .int .u8 (x : Int)) rfl (by simp) ?hnews ?hone ?h63 ?hby ?hb ?_; (case hnews => refine hexNews ?_ ?_ <;> simp only [E1.out, E2.out] <;> exact congrArg _ (hexLit _ (by omega) _)); (case hone => intro u hu; simp at hu; rcases hu with rfl | rfl <;> rfl); (case h63 => unfold maxLen; omega); (case hby => omega); (case hb => simp; omega); intro v' w1 hown1 hg1 _)
  all_goals (have KK := (((Kept.refl 5 B [] w).alloc _).drew).grown hg1 (own_row (World.ownsRow.drew (hown.alloc _))))
  all_goals (clear hown hg1)
  all_goals go_wp2
  all_goals go_ret
  all_goals exact ⟨v', rfl, hown1, KK⟩

theorem encodeHex_ok (ao : Option Addr) (cap : Nat) (l : List Nat) (hB : B ≤ w.heap.size) (hdat : Dat w B ao l) (hl : l.length ≤ 200000) (hb : ∀ i, i < l.length → nth l i < 256) :
    Calls Tryd.prog 15 #[.slice ao l.length cap] w fun e w' => ∃ v', e = .returned v' ∧ w'.ownsRow B 5 1 v' (2 * l.length + 1) ((Fo.hexOf l ++ [62]).map fun x : Nat => .int .u8 (x : Int)) ∧ Kept 5 B [] w w' := by
  obtain ⟨i0, hi, hz0, hz1, hz2⟩ := info_parts Tryd.infoByte
  go_enter Tryd.func15, Tryd.ntmps15
  go_wp2_with (at_make; refine wpList_make_own _ rfl _ _ 22 rfl B 5 i0 (.int .u8 0) 1 Tryd.underlying22 hi hz0 hz1 .i64 .i64 _ (2 * l.length + 1) rfl rfl (by omega) (by rw [hz2]; omega) (by unfold maxLen; omega) hB ?_; intro w1 hown1 hg1)
  have KK := (Kept.refl 5 B [] w).grown hg1 (fun g h => by cases h)
  have z1 := hg1.size
  clear hg1
  go_loopw [3, 13] (fun v i wr => ∃ k : Nat, k ≤ l.length ∧ i = .int .i64 k ∧ wr.ownsRow B 5 1 v (Fo.hexOf (l.take k)).length ((Fo.hexOf (l.take k)).map fun x : Nat => .int .u8 (x : Int)) ∧ Kept 5 B [] w wr) (fun _ i _ => l.length - (intOf i).toNat)
  case atStart => exact ⟨0, Nat.zero_le _, rfl, hown1, KK⟩
  clear KK z1 hown1
  case round =>
    obtain ⟨k, hk, rfl, hr, kk⟩ := hrel
    have hsz := kk.size
    have hlen : (Fo.hexOf (l.take k)).length = 2 * k := by rw [Fo.hexOf_length, List.length_take]; omega
    by_cases hlt : k < l.length
    · obtain ⟨bd, off, rfl, hbd, hc0⟩ := hdat k hlt
      have hc : wr.cell? ⟨bd, off + k, none⟩ = some (.int .u8 (nth l k : Nat)) := kk.cell (by simp) hbd hc0
      have hx := hb k hlt
      go_wp2_with fail
      refine (appendHex_ok _ _ hr (by omega) (by omega) (nth l k) hx).mono ?_
      rintro e w2 ⟨v', rfl, hr2, k2⟩
      have e1 : Fo.hexOf (l.take (k + 1)) = Fo.hexOf (l.take k) ++ [Fo.hexDig (nth l k / 16), Fo.hexDig (nth l k % 16)] := by
        rw [List.take_succ_eq_append_getElem hlt, Fo.hexOf_append]; simp [Fo.hexOf, nth, hlt]
      rw [← List.map_append, ← e1, show (Fo.hexOf (l.take k)).length + 2 = (Fo.hexOf (l.take (k + 1))).length by rw [e1]; simp] at hr2
      clear e1
      go_wp2
      go_roundw
      case rel => exact ⟨k + 1, by omega, by go_num, hr2, kk.trans k2⟩
      case measure => simp [intOf]; omega
    · obtain rfl : k = l.length := by omega
      rw [List.take_length] at hr hlen
      go_wp2_with (at_builtin; refine wpList_append_own _ rfl (.tmp 21) (.tmp 22) 22 rfl B 5 i0 (.int .u8 0) 1 1 Tryd.underlying22 hi hz0 hz1 hz2 rfl (by decide) _ _ _ rfl (hr.alloc _) ⟨wr.heap.size, 0, none⟩ 1 1 [.int .u8 62] rfl rfl ?c1 ?c2 ?c3 ?c4 ?c5 ?_)
      case c1 => intro j u hj; match j, hj with | 0, hj => simp at hj; subst hj; simp [Addr.add]
      case c2 => intro u hu; simp at hu; subst hu; rfl
      case c3 => unfold maxLen; omega
      case c4 => omega
      case c5 => simp; omega
      intro v' w2 hr2 hg2 _
      have k2 := (kk.alloc _).grown hg2 (own_row (hr.alloc _))
      clear hg2
      go_wp2
      go_ret
      refine ⟨v', rfl, ?_, k2⟩
      rw [List.map_append]
      exact hr2
end Go.Proofs.YtgkljcmjnphpeaaDoor
