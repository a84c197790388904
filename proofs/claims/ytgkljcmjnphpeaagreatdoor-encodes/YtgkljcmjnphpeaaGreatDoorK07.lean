/- The filter of hexadecimal digits, read: too little room, no end. -/
import Derived.Test.YtgkljcmjnphpeaaGreatDoorK00
import Derived.Test.YtgkljcmjnphpeaaGreatDoorK06
import Derived.Laws.BitsAllLaws
import Derived.Test.YtgkljcmjnphpeaaGreatDoorK02
import Derived.Defers
import Derived.Recover
import Derived.Laws.Pointers
set_option linter.unusedVariables false
set_option linter.unusedSimpArgs false
namespace Go.Proofs.YtgkljcmjnphpeaaGreatDoor
open Go.RowKit
variable {B br bd off cap : Nat} {d : List Nat} {most : Nat} {w : World} {p : Nat} {ov : Value} {out : List Nat}
theorem ret_byte_bool {a b : Int} {t : Bool} (h : a = b) : Ending.returned (.tuple #[.int .u8 a, .bool t]) = .returned (.tuple #[.int .u8 b, .bool t]) := by rw [h]
theorem hexDigit_ok (c v : Nat) (w : World) (h : Fo.hexVal c = some v) : Calls Tryz.prog 275 #[.int .u8 c] w fun e w' => e = .returned (.tuple #[.int .u8 v, .bool true]) ∧ w' = w := by
  unfold Fo.hexVal at h
  by_cases h1 : 48 ≤ c ∧ c ≤ 57
  · rw [if_pos h1] at h
    have hv := Option.some.inj h
    clear h
    subst hv
    have a1 : (48 : Int) ≤ (c : Int) := by omega
    have a2 : (c : Int) ≤ 57 := by omega
    go_enter Tryz.func275, Tryz.ntmps275
    go_wp2_with (go_at_call 216; refine (within_byte _ _ _ _).mono ?_; rintro e w' ⟨rfl, rfl⟩)
    go_ret2
    exact ⟨ret_byte_bool (by omega), rfl⟩
  rw [if_neg h1] at h
  have n1 : (decide ((48 : Int) ≤ (c : Int)) && decide ((c : Int) ≤ 57)) = false := by simp; omega
  by_cases h2 : 97 ≤ c ∧ c ≤ 102
  · rw [if_pos h2] at h
    have hv := Option.some.inj h
    clear h
    subst hv
    have a1 : (97 : Int) ≤ (c : Int) := by omega
    have a2 : (c : Int) ≤ 102 := by omega
    go_enter Tryz.func275, Tryz.ntmps275
    go_wp2_with (go_at_call 216; refine (within_byte _ _ _ _).mono ?_; rintro e w' ⟨rfl, rfl⟩)
    go_ret2
    exact ⟨ret_byte_bool (by omega), rfl⟩
  rw [if_neg h2] at h
  have n2 : (decide ((97 : Int) ≤ (c : Int)) && decide ((c : Int) ≤ 102)) = false := by simp; omega
  by_cases h3 : 65 ≤ c ∧ c ≤ 70
  · rw [if_pos h3] at h
    have hv := Option.some.inj h
    clear h
    subst hv
    have a1 : (65 : Int) ≤ (c : Int) := by omega
    have a2 : (c : Int) ≤ 70 := by omega
    go_enter Tryz.func275, Tryz.ntmps275
    go_wp2_with (go_at_call 216; refine (within_byte _ _ _ _).mono ?_; rintro e w' ⟨rfl, rfl⟩)
    go_ret2
    exact ⟨ret_byte_bool (by omega), rfl⟩
  · rw [if_neg h3] at h
    cases h
theorem hexValue_ok (c v : Nat) (w : World) (h : Fo.hexVal c = some v) : Calls Tryz.prog 212 #[.int .u8 c] w fun e w' => e = .returned (.int .u8 v) ∧ w' = w := by
  have H : Hid (Fo.hexVal c = some v) := h
  clear h
  go_enter Tryz.func212, Tryz.ntmps212
  go_wp2_with (first | (go_at_call 275; refine (hexDigit_ok _ _ _ H.out).mono ?_; rintro e w' ⟨rfl, rfl⟩) | (go_at_call 163; refine (must_yes _).mono ?_; rintro e w' ⟨rfl, rfl⟩))
  go_ret
  exact ⟨rfl, rfl⟩
theorem join16 (a b : Nat) (ha : a < 16) (hb : b < 16) : a * 16 ||| b = a * 16 + b := by
  have : ∀ a b : Fin 16, a.val * 16 ||| b.val = a.val * 16 + b.val := by decide
  exact this ⟨a, ha⟩ ⟨b, hb⟩
end Go.Proofs.YtgkljcmjnphpeaaGreatDoor
namespace Go.Proofs.YtgkljcmjnphpeaaGreatDoor
open Go.RowKit
variable {B : Nat} {w : World}
theorem hexLit (n : Nat) (h : n < 16) (h2 : n < ({ data := #[48, 49, 50, 51, 52, 53, 54, 55, 56, 57, 97, 98, 99, 100, 101, 102] } : ByteArray).size) : (({ data := #[48, 49, 50, 51, 52, 53, 54, 55, 56, 57, 97, 98, 99, 100, 101, 102] } : ByteArray)[n]'h2).toNat = Fo.hexDig n := by
  match n, h with
  | 0, _ => rfl
  | 1, _ => rfl
  | 2, _ => rfl
  | 3, _ => rfl
  | 4, _ => rfl
  | 5, _ => rfl
  | 6, _ => rfl
  | 7, _ => rfl
  | 8, _ => rfl
  | 9, _ => rfl
  | 10, _ => rfl
  | 11, _ => rfl
  | 12, _ => rfl
  | 13, _ => rfl
  | 14, _ => rfl
  | 15, _ => rfl
  | n + 16, h => omega
theorem hexNews {w : World} {a b : Nat} {x y : Int} (ex : x = a) (ey : y = b) : ∀ j u, ([a, b].map fun x : Nat => Value.int .u8 (x : Int))[j]? = some u → (w.alloc (.cells #[.int .u8 x, .int .u8 y] 5)).drew.cell? ((⟨w.heap.size, 0, none⟩ : Addr).add j) = some u := by
  subst ex ey
  intro j u hu
  match j, hu with
  | 0, hu =>
    show (w.alloc _).cell? ⟨w.heap.size, 0 + 0, none⟩ = _
    rw [World.cell?_alloc_new]; exact hu
  | 1, hu =>
    show (w.alloc _).cell? ⟨w.heap.size, 0 + 1, none⟩ = _
    rw [World.cell?_alloc_new]; exact hu
  | j + 2, hu => simp at hu
theorem appendHex_ok (v : Value) (xs : List Nat) (hown : w.ownsRow B 5 1 v xs.length (xs.map fun x : Nat => .int .u8 (x : Int))) (hB : B ≤ w.heap.size) (hn : xs.length ≤ 1000000000) (b : Nat) (hb : b < 256) :
    Calls Tryz.prog 143 #[v, .int .u8 b] w fun e w' => ∃ v', e = .returned v' ∧ w'.ownsRow B 5 1 v' (xs.length + 2) ((xs.map fun x : Nat => .int .u8 (x : Int)) ++ ([Fo.hexDig (b / 16), Fo.hexDig (b % 16)].map fun x : Nat => .int .u8 (x : Int))) ∧ Kept 5 B [] w w' := by
  obtain ⟨i0, hi, hz0, hz1, hz2⟩ := info_parts Tryz.infoByte
  have g1 : 0 ≤ (b : Int) / 16 := by omega
  have g2 : (b : Int) / 16 < 16 := by omega
  have g3 : bits .and .u8 (b : Int) 15 = ((b % 16 : Nat) : Int) := by
    have := u8_and_nat b 15 hb (by omega)
    rw [nat_mask4] at this; exact this
  have g4 : (b : Int) % 16 < 16 := by omega
  have g5 : 0 ≤ (b : Int) % 16 := by omega
  have e1 : ((b : Int) / 16).toNat = b / 16 := by omega
  have e2 : ((b : Int) % 16).toNat = b % 16 := by omega
  have E1 := hide e1
  have E2 := hide e2
  clear e1 e2
  go_enter Tryz.func143, Tryz.ntmps143
  go_wp2_with fail
  go_region_law (refine step_append_own' rfl (.tmp 5) (.tmp 12) 23 rfl B 5 i0 (.int .u8 0) 1 1 Tryz.underlying23 hi hz0 hz1 hz2 rfl (by decide) v xs.length _ rfl (World.ownsRow.drew (hown.alloc _)) ⟨w.heap.size, 0, none⟩ 2 2 ([Fo.hexDig (b / 16), Fo.hexDig (b % 16)].map fun x : Nat => .int .u8 (x : Int)) rfl (by simp) ?hnews ?hone ?h63 ?hby ?hb ?_; (case hnews => refine hexNews ?_ ?_ <;> simp only [E1.out, E2.out] <;> exact congrArg _ (hexLit _ (by omega) _)); (case hone => intro u hu; simp at hu; rcases hu with rfl | rfl <;> rfl); (case h63 => unfold maxLen; omega); (case hby => omega); (case hb => simp; omega); intro v' w1 hown1 hg1 _)
  all_goals (have KK := (((Kept.refl 5 B [] w).alloc _).drew).grown hg1 (own_row (World.ownsRow.drew (hown.alloc _))))
  all_goals (clear hown hg1)
  all_goals go_wp2
  all_goals go_ret
  all_goals exact ⟨v', rfl, hown1, KK⟩
theorem encodeHex_ok (ao : Option Addr) (cap : Nat) (l : List Nat) (hB : B ≤ w.heap.size) (hdat : Dat w B ao l) (hl : l.length ≤ 200000) (hb : ∀ i, i < l.length → nth l i < 256) :
    Calls Tryz.prog 101 #[.slice ao l.length cap] w fun e w' => ∃ v', e = .returned v' ∧ w'.ownsRow B 5 1 v' (2 * l.length + 1) ((Fo.hexOf l ++ [62]).map fun x : Nat => .int .u8 (x : Int)) ∧ Kept 5 B [] w w' := by
  obtain ⟨i0, hi, hz0, hz1, hz2⟩ := info_parts Tryz.infoByte
  go_enter Tryz.func101, Tryz.ntmps101
  go_wp2_with (at_make; refine wpList_make_own _ rfl _ _ 23 rfl B 5 i0 (.int .u8 0) 1 Tryz.underlying23 hi hz0 hz1 .i64 .i64 _ (2 * l.length + 1) rfl rfl (by omega) (by rw [hz2]; omega) (by unfold maxLen; omega) hB ?_; intro w1 hown1 hg1)
  have KK := (Kept.refl 5 B [] w).grown hg1 (fun g h => by cases h)
  have z1 := hg1.size
  clear hg1
  go_loopw [3, 13] (fun v i wr => ∃ k : Nat, k ≤ l.length ∧ i = .int .i64 k ∧ wr.ownsRow B 5 1 v (Fo.hexOf (l.take k)).length ((Fo.hexOf (l.take k)).map fun x : Nat => .int .u8 (x : Int)) ∧ Kept 5 B [] w wr) (fun _ i _ => l.length - (intOf i).toNat)
  case atStart => exact ⟨0, Nat.zero_le _, rfl, hown1, KK⟩
  clear KK z1 hown1
  case round =>
    obtain ⟨k, hk, rfl, hr, kk⟩ := hrel
    have hsz := kk.size
    have hlen : (Fo.hexOf (l.take k)).length = 2 * k := by rw [Fo.hexOf_length, List.length_take]; omega
    by_cases hlt : k < l.length
    · obtain ⟨bd, off, rfl, hbd, hc0⟩ := hdat k hlt
      have hc : wr.cell? ⟨bd, off + k, none⟩ = some (.int .u8 (nth l k : Nat)) := kk.cell (by simp) hbd hc0
      have hx := hb k hlt
      go_wp2_with fail
      refine (appendHex_ok _ _ hr (by omega) (by omega) (nth l k) hx).mono ?_
      rintro e w2 ⟨v', rfl, hr2, k2⟩
      have e1 : Fo.hexOf (l.take (k + 1)) = Fo.hexOf (l.take k) ++ [Fo.hexDig (nth l k / 16), Fo.hexDig (nth l k % 16)] := by
        rw [List.take_succ_eq_append_getElem hlt, Fo.hexOf_append]; simp [Fo.hexOf, nth, hlt]
      rw [← List.map_append, ← e1, show (Fo.hexOf (l.take k)).length + 2 = (Fo.hexOf (l.take (k + 1))).length by rw [e1]; simp] at hr2
      clear e1
      go_wp2
      go_roundw
      case rel => exact ⟨k + 1, by omega, by go_num, hr2, kk.trans k2⟩
      case measure => simp [intOf]; omega
    · obtain rfl : k = l.length := by omega
      rw [List.take_length] at hr hlen
      go_wp2_with (at_builtin; refine wpList_append_own _ rfl (.tmp 21) (.tmp 22) 23 rfl B 5 i0 (.int .u8 0) 1 1 Tryz.underlying23 hi hz0 hz1 hz2 rfl (by decide) _ _ _ rfl (hr.alloc _) ⟨wr.heap.size, 0, none⟩ 1 1 [.int .u8 62] rfl rfl ?c1 ?c2 ?c3 ?c4 ?c5 ?_)
      case c1 => intro j u hj; match j, hj with | 0, hj => simp at hj; subst hj; simp [Addr.add]
      case c2 => intro u hu; simp at hu; subst hu; rfl
      case c3 => unfold maxLen; omega
      case c4 => omega
      case c5 => simp; omega
      intro v' w2 hr2 hg2 _
      have k2 := (kk.alloc _).grown hg2 (own_row (hr.alloc _))
      clear hg2
      go_wp2
      go_ret
      refine ⟨v', rfl, ?_, k2⟩
      rw [List.map_append]
      exact hr2
end Go.Proofs.YtgkljcmjnphpeaaGreatDoor
namespace Go.Proofs.YtgkljcmjnphpeaaGreatDoor
open Go.RowKit
variable {B br bf bd off cap : Nat} {d : List Nat} {most : Nat} {w : World}
theorem Rd.start (hbd : bd < w.heap.size) (hd : ∀ i, i < d.length → w.cell? ⟨bd, off + i, none⟩ = some (.int .u8 (nth d i : Nat))) (hb : ∀ i, i < d.length → nth d i < 256) (hc : d.length ≤ cap) (hl : cap ≤ 9223372036854775807) (hm : most ≤ 1000000) :
    Rd w.heap.size w.heap.size bd off cap d most (w.alloc (.cells #[.slice (some ⟨bd, off, none⟩) d.length cap, .int .i64 0, .slice none 0 0, .int .i64 most] 141 (0, 0))) 0 (.slice none 0 0) [] :=
  ⟨hbd, Nat.le_refl _, blk_new _ _, fun i hi => by rw [World.cell?_alloc_lt _ _ _ hbd]; exact hd i hi, World.ownsRow_nil _ _ _ _, hb, hc, hl, hm, Nat.zero_le _, Nat.zero_le _⟩
theorem keptBelowNew {e : Nat} {w w' : World} {o : Obj} (k : Kept e w.heap.size [w.heap.size] (w.alloc o) w') : Below w.heap.size w w' :=
  ((Below.refl _ _).alloc (Nat.le_refl _) o).trans (k.below (by simp) (by simp))
end Go.Proofs.YtgkljcmjnphpeaaGreatDoor
namespace Go.Proofs.YtgkljcmjnphpeaaGreatDoor
open Go.RowKit
variable {w : World}
theorem run_assert (n : Int) (w : World) : (Instr.typeAssert (.iface 58 (.int .i64 n)) 20 58 true).run Tryz.prog w = .ok (.tuple #[.int .i64 n, .bool true]) w := by kernel_rfl
theorem own_base {w : World} {B B' e n size : Nat} {v : Value} {xs : List Value} (h : w.ownsRow B e size v n xs) (hb : B' ≤ B) : w.ownsRow B' e size v n xs := by
  obtain ⟨h1, h2⟩ := h
  refine ⟨h1, ?_⟩
  rcases h2 with h2 | ⟨g, cap, cur, hv, hg, r⟩
  · exact Or.inl h2
  · exact Or.inr ⟨g, cap, cur, hv, by omega, r⟩
theorem own_far {w : World} {B e n size k : Nat} {v : Value} {xs : List Value} (h : w.ownsRow B e size v n xs) (hk : k < B) : v.ownBlock ≠ some k := by
  intro he; have := (h.lt k he).1; omega
set_option maxRecDepth 100000 in
theorem told_ok (n k : Int) (w : World) : Calls Tryz.prog 65 #[.iface 58 (.int .i64 n), .int .i64 k] w fun e w' => e = .returned (.int .i64 n) ∧ w' = w := by
  have ha := run_assert n
  go_enter Tryz.func65, Tryz.ntmps65
  go_wp2
  go_ret
  exact ⟨rfl, rfl⟩
theorem catch_idle (p q : Addr) (w : World) :
    CallsD Tryz.prog 79 #[.pointer (some p), .pointer (some q)] .returning w fun e u' w' => e = .returned (.tuple #[]) ∧ u' = .returning ∧ w' = w := by
  refine callsD_of_wpS Tryz.func79 rfl fun c₀ cs hu => ?_
  apply wpS_seq
  apply wpS_region
  simp [wpOpsS, go_sem, recoverD, hu, Tryz.ntmps79, Exit.thenS, Array.replicate]
  refine wpS_of_wp ?_
  go_wp2
  cases c₀
  simp_all [bodyPostS, results, Tryz.results79]
theorem catch_panicking (p q : Addr) (n : Int) (older : List PanicEntry) (w : World) (v1 v2 : Value) (hpq : p ≠ q) (h1 : w.cell? p = some v1) (h2 : w.cell? q = some v2) (f1 : w.frozen? p = false) (f2 : w.frozen? q = false) :
    CallsD Tryz.prog 79 #[.pointer (some p), .pointer (some q)] (.panicking ({ v := .iface 58 (.int .i64 n), recovered := false } :: older)) w fun e u' w' =>
      e = .returned (.tuple #[]) ∧ u' = .panicking ({ v := .iface 58 (.int .i64 n), recovered := true } :: older) ∧ w' = (w.setCell p (.slice none 0 0)).setCell q (.int .i64 n) := by
  refine callsD_of_wpS Tryz.func79 rfl fun c₀ cs hu => ?_
  apply wpS_seq
  apply wpS_region
  simp [wpOpsS, go_sem, recoverD, hu, Tryz.ntmps79, Exit.thenS, Array.replicate]
  refine wpS_of_wp ?_
  go_wp2_with (go_at_call 65; refine (told_ok _ _ _).mono ?_; rintro e w' ⟨rfl, rfl⟩)
  simp [bodyPostS, results, Tryz.results79]
/-- The face, where the reader returns. -/
theorem decode_returns (f : Nat) (hf : 1 ≤ f ∧ f ≤ 4) (bd off cap : Nat) (d : List Nat) (most : Nat) (hm : most ≤ 1000000) (hd : d.length ≤ 200000) (l : List Nat)
    (hc : ∀ W : World, Below w.heap.size w W → w.heap.size ≤ W.heap.size → Calls Tryz.prog 80 #[.int .i64 f, .slice (some ⟨bd, off, none⟩) d.length cap, .int .i64 most] W fun e w' => ∃ v, e = .returned v ∧ w'.ownsRow W.heap.size 5 1 v l.length (l.map fun x : Nat => .int .u8 (x : Int)) ∧ Below W.heap.size W w') :
    Calls Tryz.prog 39 #[.int .i64 f, .slice (some ⟨bd, off, none⟩) d.length cap, .int .i64 most] w fun e w' => ∃ v, e = .returned (.tuple #[v, .int .i64 0]) ∧ w'.ownsRow w.heap.size 5 1 v l.length (l.map fun x : Nat => .int .u8 (x : Int)) ∧ Below w.heap.size w w' := by
  have hmf : ∀ (fn : Fn) (first cap : Array Value) (w : World), (Instr.makeFunc fn first cap).run Tryz.prog w = .ok (.func fn first cap) w := fun _ _ _ _ => rfl
  have HC := hide hc
  clear hc
  go_enter_defers Tryz.func39, Tryz.ntmps39
  go_wp2_with (go_at_call 63; refine (within_int_yes _ _ _ _ (by omega) (by omega)).mono ?_; rintro e w' ⟨rfl, rfl⟩)
  refine (HC.out _ (((Below.refl _ _).alloc (Nat.le_refl _) _).alloc (by simp) _) (by simp; omega)).mono ?_
  rintro e w1 ⟨v, rfl, hown, hb⟩
  obtain ⟨ao, oc, rfl⟩ := own_slice hown
  have c1 : w1.cell? ⟨w.heap.size, 0, none⟩ = some (.slice none 0 0) := by
    rw [hb.cell (p := ⟨w.heap.size, 0, none⟩) (by simp; omega), World.cell?_alloc_lt _ _ _ (by simp), World.cell?_alloc_new]; rfl
  have c2 : w1.cell? ⟨w.heap.size + 1, 0, none⟩ = some (.int .i64 0) := by
    rw [hb.cell (p := ⟨w.heap.size + 1, 0, none⟩) (by simp)]
    simp
  have f1 : w1.frozen? ⟨w.heap.size, 0, none⟩ = false := by
    rw [hb.frozen (p := ⟨w.heap.size, 0, none⟩) (by simp; omega), World.frozen?_alloc_old _ _ _ (by simp), World.frozen?_alloc_new]
  have f2 : w1.frozen? ⟨w.heap.size + 1, 0, none⟩ = false := by
    rw [hb.frozen (p := ⟨w.heap.size + 1, 0, none⟩) (by simp)]
    simp
  go_wp2
  refine leaves_cons (f := 79) (args := #[.pointer (some ⟨w.heap.size, 0, none⟩), .pointer (some ⟨w.heap.size + 1, 0, none⟩)]) (by simp) (by simp [go_sem]) ?_
  refine (catch_idle ⟨w.heap.size, 0, none⟩ ⟨w.heap.size + 1, 0, none⟩ _).mono ?_
  rintro e u' w'' ⟨rfl, rfl, rfl⟩
  simp [Leaves, settle, results, Tryz.results39, go_sem, c1, c2, f1, f2]
  simp only [World.size_alloc] at hown hb
  refine ⟨own_base (ownsRow_setCell_other (ownsRow_setCell_other hown (own_far hown (by simp; omega)) _) (own_far hown (by simp)) _) (by omega), ?_⟩
  exact (((((Below.refl _ _).alloc (Nat.le_refl _) _).alloc (by simp) _).trans (hb.mono (by omega))).setCell (by simp) _).setCell (by simp) _
/-- The face, where the reader gave up. -/
theorem decode_panics (f : Nat) (hf : 1 ≤ f ∧ f ≤ 4) (bd off cap : Nat) (d : List Nat) (most : Nat) (hm : most ≤ 1000000) (hd : d.length ≤ 200000) (n : Int)
    (hc : ∀ W : World, Below w.heap.size w W → w.heap.size ≤ W.heap.size → Calls Tryz.prog 80 #[.int .i64 f, .slice (some ⟨bd, off, none⟩) d.length cap, .int .i64 most] W fun e w' => e = .panicked [{ v := .iface 58 (.int .i64 n), recovered := false }] ∧ Below W.heap.size W w') :
    Calls Tryz.prog 39 #[.int .i64 f, .slice (some ⟨bd, off, none⟩) d.length cap, .int .i64 most] w fun e w' => e = .returned (.tuple #[.slice none 0 0, .int .i64 n]) ∧ Below w.heap.size w w' := by
  have hmf : ∀ (fn : Fn) (first cap : Array Value) (w : World), (Instr.makeFunc fn first cap).run Tryz.prog w = .ok (.func fn first cap) w := fun _ _ _ _ => rfl
  have HC := hide hc
  clear hc
  go_enter_defers Tryz.func39, Tryz.ntmps39
  go_wp2_with (go_at_call 63; refine (within_int_yes _ _ _ _ (by omega) (by omega)).mono ?_; rintro e w' ⟨rfl, rfl⟩)
  refine (HC.out _ (((Below.refl _ _).alloc (Nat.le_refl _) _).alloc (by simp) _) (by simp; omega)).mono ?_
  rintro e w1 ⟨rfl, hb⟩
  have c1 : w1.cell? ⟨w.heap.size, 0, none⟩ = some (.slice none 0 0) := by
    rw [hb.cell (p := ⟨w.heap.size, 0, none⟩) (by simp; omega), World.cell?_alloc_lt _ _ _ (by simp), World.cell?_alloc_new]; rfl
  have c2 : w1.cell? ⟨w.heap.size + 1, 0, none⟩ = some (.int .i64 0) := by
    rw [hb.cell (p := ⟨w.heap.size + 1, 0, none⟩) (by simp)]
    simp
  have f1 : w1.frozen? ⟨w.heap.size, 0, none⟩ = false := by
    rw [hb.frozen (p := ⟨w.heap.size, 0, none⟩) (by simp; omega), World.frozen?_alloc_old _ _ _ (by simp), World.frozen?_alloc_new]
  have f2 : w1.frozen? ⟨w.heap.size + 1, 0, none⟩ = false := by
    rw [hb.frozen (p := ⟨w.heap.size + 1, 0, none⟩) (by simp)]
    simp
  refine leaves_cons (f := 79) (args := #[.pointer (some ⟨w.heap.size, 0, none⟩), .pointer (some ⟨w.heap.size + 1, 0, none⟩)]) (by simp) (by simp [go_sem]) ?_
  refine (catch_panicking ⟨w.heap.size, 0, none⟩ ⟨w.heap.size + 1, 0, none⟩ n [] _ _ _ (by simp) c1 c2 f1 f2).mono ?_
  rintro e u' w'' ⟨rfl, rfl, rfl⟩
  simp [Leaves, settle, results, Tryz.results39, go_sem, c1, c2]
  simp only [World.size_alloc] at hb
  exact (((((Below.refl _ _).alloc (Nat.le_refl _) _).alloc (by simp) _).trans (hb.mono (by omega))).setCell (by simp) _).setCell (by simp) _
end Go.Proofs.YtgkljcmjnphpeaaGreatDoor
namespace Go.Proofs.YtgkljcmjnphpeaaGreatDoor
open Go.RowKit
variable {B br bd off cap : Nat} {d : List Nat} {most : Nat} {w : World} {p : Nat} {ov : Value} {out : List Nat}
/-- Given up with an error. -/
def gaveUp (n : Int) : Ending := .panicked [{ v := .iface 58 (.int .i64 n), recovered := false }]
theorem room_no (h : Rd B br bd off cap d most w p ov out) (n : Nat) (hn : n ≤ 1000000) (ho : most < out.length + n) :
    Calls Tryz.prog 276 #[.pointer (some ⟨br, 0, none⟩), .int .i64 n] w fun e w' => e = gaveUp 6 ∧ ∃ q, w' = w.drewN q := by
  unfold gaveUp
  have c2 := h.c2
  have c3 := h.c3
  have b1 := h.lm
  have b2 := h.lo
  obtain ⟨ao, oc, hov⟩ := own_slice h.own
  rw [hov] at c2
  clear hov
  go_enter Tryz.func276, Tryz.ntmps276
  go_wp2_with fail
  go_quiet ((go_at_call 63; exact Calls.quiet_of_same (within_int_no _ _ _ _ (Or.inr (by omega)))))
  go_wp2
  exact ⟨rfl, rfl, _, rfl⟩
theorem put_no (h : Rd B br bd off cap d most w p ov out) (n : Nat) (a : Option Addr) (c : Nat) (hn : n ≤ 1000000) (ho : most < out.length + n) :
    Calls Tryz.prog 213 #[.pointer (some ⟨br, 0, none⟩), .slice a n c] w fun e w' => e = gaveUp 6 ∧ ∃ q, w' = w.drewN q := by
  have HR := hide (room_no h n hn ho)
  go_enter Tryz.func213, Tryz.ntmps213
  go_wp2_with fail
  refine HR.out.mono ?_
  rintro e w1 ⟨rfl, q, rfl⟩
  exact ⟨rfl, rfl, q, rfl⟩
theorem must_nob (b : Bool) (hb : b = false) (w : World) : Calls Tryz.prog 163 #[.bool b] w fun e w' => e = .panicked [{ v := .iface 58 (.int .i64 5), recovered := false }] ∧ w' = w := by
  subst hb; exact must_no w
/-- What the test of take reads. -/
def Stk (br : Nat) (sl : Value) (p : Nat) (_L : Array Bool) (W : World) : Prop := W.cell? ⟨br, 0, none⟩ = some sl ∧ W.cell? ⟨br, 1, none⟩ = some (.int .i64 p)
set_option maxRecDepth 100000 in
set_option maxHeartbeats 1000000 in
theorem take_no (h : Rd B br bd off cap d most w p ov out) (n : Nat) (hn : n ≤ 1000000) (hp : d.length < p + n) :
    Calls Tryz.prog 164 #[.pointer (some ⟨br, 0, none⟩), .int .i64 n] w fun e w' => e = gaveUp 5 ∧ ∃ q, w' = w.drewN q := by
  unfold gaveUp
  have c0 := h.c0
  have c1 := h.c1
  have b1 := h.cp
  have b2 := h.lc
  have b3 := h.lp
  have tw : Hid (decide ((n : Int) ≤ IntKind.i64.wrap ((d.length : Int) - (p : Int))) = false) := by
    unfold Hid
    rw [IntKind.wrap_i64]; simp; omega
  go_enter Tryz.func164, Tryz.ntmps164
  go_wp2_with fail
  refine wp_region_T (Stk br (.slice (some ⟨bd, off, none⟩) d.length cap) p) (by kernel_rfl) ?_
  intro hD
  have hS : Stk br (.slice (some ⟨bd, off, none⟩) d.length cap) p (Array.replicate 13 false) w.drew := ⟨c0, c1⟩
  refine wpAnyT_take (i := 0) (v := ?_) rfl (by kernel_rfl) (by kernel_rfl) (by kernel_rfl) (fun _ _ _ h => h) (fun _ _ h => h) (fun _ _ h => h) hD (Or.inl ⟨by rfl, ?_⟩) hS ?_
  rotate_left
  · intro W hW; obtain ⟨_, _, _, f0, f1⟩ := hW; go_simp; try (with_reducible rfl)
  clear hD hS; intro hD hS; (try simp only [Act.put, List.setIfInBounds_toArray, List.set_cons_zero, List.set_cons_succ])
  refine wpAnyT_take (i := 1) (v := ?_) rfl (by kernel_rfl) (by kernel_rfl) (by kernel_rfl) (fun _ _ _ h => h) (fun _ _ h => h) (fun _ _ h => h) hD (Or.inl ⟨by rfl, ?_⟩) hS ?_
  rotate_left
  · intro W hW; obtain ⟨_, _, _, f0, f1⟩ := hW; go_simp; try (with_reducible rfl)
  clear hD hS; intro hD hS; (try simp only [Act.put, List.setIfInBounds_toArray, List.set_cons_zero, List.set_cons_succ])
  refine wpAnyT_take (i := 2) (v := ?_) rfl (by kernel_rfl) (by kernel_rfl) (by kernel_rfl) (fun _ _ _ h => h) (fun _ _ h => h) (fun _ _ h => h) hD (Or.inl ⟨by rfl, ?_⟩) hS ?_
  rotate_left
  · intro W hW; obtain ⟨_, _, _, f0, f1⟩ := hW; go_simp; try (with_reducible rfl)
  clear hD hS; intro hD hS; (try simp only [Act.put, List.setIfInBounds_toArray, List.set_cons_zero, List.set_cons_succ])
  refine wpAnyT_take (i := 3) (v := ?_) rfl (by kernel_rfl) (by kernel_rfl) (by kernel_rfl) (fun _ _ _ h => h) (fun _ _ h => h) (fun _ _ h => h) hD (Or.inl ⟨by rfl, ?_⟩) hS ?_
  rotate_left
  · intro W hW; obtain ⟨_, _, _, f0, f1⟩ := hW; go_simp; try (with_reducible rfl)
  clear hD hS; intro hD hS; (try simp only [Act.put, List.setIfInBounds_toArray, List.set_cons_zero, List.set_cons_succ])
  refine wpAnyT_take (i := 4) (v := ?_) rfl (by kernel_rfl) (by kernel_rfl) (by kernel_rfl) (fun _ _ _ h => h) (fun _ _ h => h) (fun _ _ h => h) hD (Or.inl ⟨by rfl, ?_⟩) hS ?_
  rotate_left
  · intro W hW; obtain ⟨_, _, _, f0, f1⟩ := hW; go_simp; try (with_reducible rfl)
  clear hD hS; intro hD hS; (try simp only [Act.put, List.setIfInBounds_toArray, List.set_cons_zero, List.set_cons_succ])
  refine wpAnyT_take (i := 5) (v := ?_) rfl (by kernel_rfl) (by kernel_rfl) (by kernel_rfl) (fun _ _ _ h => h) (fun _ _ h => h) (fun _ _ h => h) hD (Or.inl ⟨by rfl, ?_⟩) hS ?_
  rotate_left
  · intro W hW; obtain ⟨_, _, _, f0, f1⟩ := hW; go_simp; try (with_reducible rfl)
  clear hD hS; intro hD hS; (try simp only [Act.put, List.setIfInBounds_toArray, List.set_cons_zero, List.set_cons_succ])
  refine wpAnyT_take (i := 6) (v := ?_) rfl (by kernel_rfl) (by kernel_rfl) (by kernel_rfl) (fun _ _ _ h => h) (fun _ _ h => h) (fun _ _ h => h) hD (Or.inl ⟨by rfl, ?_⟩) hS ?_
  rotate_left
  · intro W hW; obtain ⟨_, _, _, f0, f1⟩ := hW; go_simp; try (with_reducible rfl)
  clear hD hS; intro hD hS; (try simp only [Act.put, List.setIfInBounds_toArray, List.set_cons_zero, List.set_cons_succ])
  refine wpAnyT_take (i := 7) (v := ?_) rfl (by kernel_rfl) (by kernel_rfl) (by kernel_rfl) (fun _ _ _ h => h) (fun _ _ h => h) (fun _ _ h => h) hD (Or.inl ⟨by rfl, ?_⟩) hS ?_
  rotate_left
  · intro W hW; obtain ⟨_, _, _, f0, f1⟩ := hW; go_simp; try (with_reducible rfl)
  clear hD hS; intro hD hS; (try simp only [Act.put, List.setIfInBounds_toArray, List.set_cons_zero, List.set_cons_succ])
  refine wpAnyT_take (i := 8) (v := ?_) rfl (by kernel_rfl) (by kernel_rfl) (by kernel_rfl) (fun _ _ _ h => h) (fun _ _ h => h) (fun _ _ h => h) hD (Or.inl ⟨by rfl, ?_⟩) hS ?_
  rotate_left
  · intro W hW; obtain ⟨_, _, _, f0, f1⟩ := hW; go_simp; try (with_reducible rfl)
  clear hD hS; intro hD hS; (try simp only [Act.put, List.setIfInBounds_toArray, List.set_cons_zero, List.set_cons_succ])
  refine wpAnyT_take (i := 9) (v := ?_) rfl (by kernel_rfl) (by kernel_rfl) (by kernel_rfl) (fun _ _ _ h => h) (fun _ _ h => h) (fun _ _ h => h) hD (Or.inl ⟨by rfl, ?_⟩) hS ?_
  rotate_left
  · intro W hW; obtain ⟨_, _, _, f0, f1⟩ := hW; go_simp; try (with_reducible rfl)
  clear hD hS; intro hD hS; (try simp only [Act.put, List.setIfInBounds_toArray, List.set_cons_zero, List.set_cons_succ])
  refine wpAnyT_take (i := 10) (v := ?_) rfl (by kernel_rfl) (by kernel_rfl) (by kernel_rfl) (fun _ _ _ h => h) (fun _ _ h => h) (fun _ _ h => h) hD (Or.inl ⟨by rfl, ?_⟩) hS ?_
  rotate_left
  · intro W hW; obtain ⟨_, _, _, f0, f1⟩ := hW; go_simp; try (with_reducible rfl)
  clear hD hS; intro hD hS; (try simp only [Act.put, List.setIfInBounds_toArray, List.set_cons_zero, List.set_cons_succ])
  refine wpAnyT_take (i := 11) (v := ?_) rfl (by kernel_rfl) (by kernel_rfl) (by kernel_rfl) (fun _ _ _ h => h) (fun _ _ h => h) (fun _ _ h => h) hD (Or.inl ⟨by rfl, ?_⟩) hS ?_
  rotate_left
  · intro W hW; obtain ⟨_, _, _, f0, f1⟩ := hW; go_simp; try (with_reducible rfl)
  clear hD hS; intro hD hS; (try simp only [Act.put, List.setIfInBounds_toArray, List.set_cons_zero, List.set_cons_succ])
  refine wpAnyT_one (i := 12) (by kernel_rfl) rfl hD (fun K' hK => ?_)
  go_simp
  refine (must_nob _ tw.out _).mono ?_
  rintro e w7 ⟨rfl, rfl⟩
  exact ⟨rfl, rfl, 1, rfl⟩
end Go.Proofs.YtgkljcmjnphpeaaGreatDoor
namespace Go.Proofs.YtgkljcmjnphpeaaGreatDoor
open Go.RowKit
variable {B br bd off cap : Nat} {d : List Nat} {most : Nat} {w : World} {p : Nat} {ov : Value} {out : List Nat}
/-- One part read: whether another may follow. -/
def PGo (F B br bd off cap : Nat) (d : List Nat) (most p : Nat) (out : List Nat) (b : Bool) (p' : Nat) (out' : List Nat) : Prop :=
  ∀ (w : World) (ov : Value), Rd B br bd off cap d most w p ov out → Calls Tryz.prog F #[.pointer (some ⟨br, 0, none⟩)] w fun e w' => e = .returned (.bool b) ∧ ∃ ov', Rd B br bd off cap d most w' p' ov' out' ∧ Kept 5 B [br] w w'
/-- One part at which it gives up. -/
def PNo (F B br bd off cap : Nat) (d : List Nat) (most p : Nat) (out : List Nat) (n : Int) : Prop :=
  ∀ (w : World) (ov : Value), Rd B br bd off cap d most w p ov out → Calls Tryz.prog F #[.pointer (some ⟨br, 0, none⟩)] w fun e w' => e = gaveUp n ∧ Kept 5 B [br] w w'
/-- Parts that all go through. -/
structure PChain (F B br bd off cap : Nat) (d : List Nat) (most K : Nat) (pos : Nat → Nat) (outs : Nat → List Nat) : Prop where
  go : ∀ k, k < K → PGo F B br bd off cap d most (pos k) (outs k) true (pos (k + 1)) (outs (k + 1))
  up : ∀ k, k < K → pos k < pos (k + 1)
end Go.Proofs.YtgkljcmjnphpeaaGreatDoor
namespace Go.Proofs.YtgkljcmjnphpeaaGreatDoor
open Go.RowKit
variable {B br bd off cap : Nat} {d : List Nat} {most : Nat} {w : World} {p : Nat} {ov : Value} {out : List Nat}
theorem next_no (h : Rd B br bd off cap d most w d.length ov out) :
    Calls Tryz.prog 214 #[.pointer (some ⟨br, 0, none⟩)] w fun e w' => e = gaveUp 5 ∧ Kept 5 B [br] w w' := by
  have HT := hide (take_no h 1 (by omega) (by omega))
  go_enter Tryz.func214, Tryz.ntmps214
  go_wp2_with fail
  refine HT.out.mono ?_
  rintro e w1 ⟨rfl, q, rfl⟩
  exact ⟨rfl, rfl, (Kept.refl _ _ _ _).drewN q⟩
end Go.Proofs.YtgkljcmjnphpeaaGreatDoor
