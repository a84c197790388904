/- Numbers as few digits as may be (package foliokeep). -/
import Derived.Test.YtgkljcmjnphpeaaGreatDoorK24
import Derived.Test.YtgkljcmjnphpeaaGreatDoorK04
import Derived.Test.YtgkljcmjnphpeaaGreatDoorK06
import Derived.Lib.ItoaNum
import Derived.Test.YtgkljcmjnphpeaaGreatDoorK20
set_option linter.unusedVariables false
set_option linter.unusedSimpArgs false
namespace Go.Proofs.YtgkljcmjnphpeaaGreatDoor
open Go.RowKit
variable {w w' : World}
set_option maxRecDepth 100000 in
set_option maxHeartbeats 8000000 in
theorem alike_yes {k : Nat} {P Q : Nat → Prop} {b b' : Nat} {Ys : List (VT k)} {ov ov' : Value} {root : Int} (ha : Vals P k b Ys w ov) (hb : Vals Q k b' Ys w ov') (hk : ∀ y ∈ Ys, KeysOk y) :
    Calls Tryz.prog 26 #[.agg #[ov, .int .i64 root], .agg #[ov', .int .i64 root]] w fun e w' => e = .returned (.bool true) ∧ Below w.heap.size w w' := by
  obtain ⟨ia, ic, rfl⟩ := ha.len
  obtain ⟨ib, jc, rfl⟩ := hb.len
  have hil : Ys.length ≤ 9223372036854775807 := by obtain ⟨xs, h1, h2, _⟩ := ha; rw [← h2]; exact own_lens h1
  have HAI := hide ha
  have HBI := hide hb
  have HKY := hide hk
  generalize hni : Ys.length = ni at *
  have HNI := hide hni
  clear ha hb hk hni
  go_enter Tryz.func26, Tryz.ntmps26
  go_wp2
  have b2 : Below w.heap.size w ((w.alloc (.cells #[.slice ia ni ic, .int .i64 root] 31)).alloc (.cells #[.slice ib ni jc, .int .i64 root] 31)) := ((Below.refl _ _).alloc (Nat.le_refl _) _).alloc (by simp) _
  have hx0 : ((w.alloc (.cells #[.slice ia ni ic, .int .i64 root] 31)).alloc (.cells #[.slice ib ni jc, .int .i64 root] 31)).heap[w.heap.size]? = some (.cells #[.slice ia ni ic, .int .i64 root] 31 (0, 0)) := blk_alloc _ (blk_new _ _)
  have hx1 : ((w.alloc (.cells #[.slice ia ni ic, .int .i64 root] 31)).alloc (.cells #[.slice ib ni jc, .int .i64 root] 31)).heap[w.heap.size + 1]? = some (.cells #[.slice ib ni jc, .int .i64 root] 31 (0, 0)) := by
    have := blk_new (w.alloc (.cells #[.slice ia ni ic, .int .i64 root] 31)) (.cells #[.slice ib ni jc, .int .i64 root] 31)
    rw [World.size_alloc] at this
    exact this
  generalize (w.alloc (.cells #[.slice ia ni ic, .int .i64 root] 31)).alloc (.cells #[.slice ib ni jc, .int .i64 root] 31) = w2 at b2 hx0 hx1 ⊢
  have HB2 := hide b2
  have HX0 := hide hx0
  have HX1 := hide hx1
  have hs2 : w.heap.size + 1 < w2.heap.size := lt_of_block hx1
  clear b2 hx0 hx1
  go_loopw [5, 6] (fun i _ wr => ∃ (m : Nat), m ≤ ni ∧ i = .int .i64 m ∧ Hid (Below w2.heap.size w2 wr)) (fun i _ _ => ni - (intOf i).toNat)
  case atStart => exact ⟨0, Nat.zero_le _, rfl, Below.refl _ _⟩
  case round =>
    obtain ⟨j, hj, rfl, HB⟩ := hrel
    have c4 : wr.cell? ⟨w.heap.size, 0, none⟩ = some (.slice ia ni ic) := by rw [HB.out.cell (by show w.heap.size < _; omega), cell_blk HX0.out]; rfl
    have e4 : wr.cell? ⟨w.heap.size + 1, 0, none⟩ = some (.slice ib ni jc) := by rw [HB.out.cell hs2, cell_blk HX1.out]; rfl
    rcases Nat.eq_or_lt_of_le hj with hj | hj
    · subst hj
      go_wp2
      go_ret
      exact ⟨rfl, HB2.out.trans (HB.out.mono (by omega))⟩
    · obtain ⟨y, hy⟩ : ∃ y, Ys[j]? = some y := ⟨_, List.getElem?_eq_getElem (by rw [HNI.out]; exact hj)⟩
      obtain ⟨g, c, x, hge, _, _, hx, hxc⟩ := HAI.out.at hy
      obtain ⟨g2, c2, x2, hge2, _, _, hx2, hxc2⟩ := HBI.out.at hy
      rw [HNI.out] at hge hge2
      cases hge
      cases hge2
      have hyk := HKY.out y (List.mem_of_getElem? hy)
      obtain ⟨k0, k1, k2, k3, ja, jl, jcc, ka2, kl, kc2, fa2, fl, fc2, hxf⟩ := VIn.form hx
      obtain ⟨l0, l1, l2, l3, la, ll, lcc, lb2, ml, mc2, ga2, gl, gc2, hxg⟩ := VIn.form hx2
      have HD : Hid (∀ W, Below w2.heap.size w2 W → W.cell? ⟨g, j * 7, none⟩ = some (.int .i64 k0) ∧ W.cell? ⟨g, j * 7 + 1, none⟩ = some (.int .i64 k1) ∧ W.cell? ⟨g, j * 7 + 2, none⟩ = some (.int .i64 k2) ∧ W.cell? ⟨g, j * 7 + 3, none⟩ = some (.string k3) ∧ W.cell? ⟨g, j * 7 + 4, none⟩ = some (.slice ja jl jcc) ∧ W.cell? ⟨g, j * 7 + 5, none⟩ = some (.slice ka2 kl kc2) ∧ W.cell? ⟨g, j * 7 + 6, none⟩ = some (.slice fa2 fl fc2)) := fun W hW => by
        have hold : ∀ {j : Nat} {u : Value}, w.cell? ⟨g, j, none⟩ = some u → W.cell? ⟨g, j, none⟩ = some u := fun {j u} h => by rw [(HB2.out.trans (hW.mono (by omega))).cell (World.block_lt_of_cell? w _ h)]; exact h
        exact ⟨hold (hxc 0 _ (by rw [hxf]; rfl)), hold (hxc 1 _ (by rw [hxf]; rfl)), hold (hxc 2 _ (by rw [hxf]; rfl)), hold (hxc 3 _ (by rw [hxf]; rfl)), hold (hxc 4 _ (by rw [hxf]; rfl)), hold (hxc 5 _ (by rw [hxf]; rfl)), hold (hxc 6 _ (by rw [hxf]; rfl))⟩
      have HE : Hid (∀ W, Below w2.heap.size w2 W → W.cell? ⟨g2, j * 7, none⟩ = some (.int .i64 l0) ∧ W.cell? ⟨g2, j * 7 + 1, none⟩ = some (.int .i64 l1) ∧ W.cell? ⟨g2, j * 7 + 2, none⟩ = some (.int .i64 l2) ∧ W.cell? ⟨g2, j * 7 + 3, none⟩ = some (.string l3) ∧ W.cell? ⟨g2, j * 7 + 4, none⟩ = some (.slice la ll lcc) ∧ W.cell? ⟨g2, j * 7 + 5, none⟩ = some (.slice lb2 ml mc2) ∧ W.cell? ⟨g2, j * 7 + 6, none⟩ = some (.slice ga2 gl gc2)) := fun W hW => by
        have hold : ∀ {j : Nat} {u : Value}, w.cell? ⟨g2, j, none⟩ = some u → W.cell? ⟨g2, j, none⟩ = some u := fun {j u} h => by rw [(HB2.out.trans (hW.mono (by omega))).cell (World.block_lt_of_cell? w _ h)]; exact h
        exact ⟨hold (hxc2 0 _ (by rw [hxg]; rfl)), hold (hxc2 1 _ (by rw [hxg]; rfl)), hold (hxc2 2 _ (by rw [hxg]; rfl)), hold (hxc2 3 _ (by rw [hxg]; rfl)), hold (hxc2 4 _ (by rw [hxg]; rfl)), hold (hxc2 5 _ (by rw [hxg]; rfl)), hold (hxc2 6 _ (by rw [hxg]; rfl))⟩
      have HC4 : Hid (∀ W, Below w2.heap.size w2 W → W.cell? ⟨w.heap.size, 0, none⟩ = some (.slice (some ⟨g, 0, none⟩) ni ic) ∧ W.cell? ⟨w.heap.size + 1, 0, none⟩ = some (.slice (some ⟨g2, 0, none⟩) ni jc)) := fun W hW => ⟨by rw [hW.cell (by show w.heap.size < _; omega), cell_blk HX0.out]; rfl, by rw [hW.cell hs2, cell_blk HX1.out]; rfl⟩
      have HCALL : Hid (∀ W, Below w2.heap.size w2 W → SameOk W x x2) := fun W hW => by
        have hbw := HB2.out.trans (hW.mono (by omega))
        exact same_yes k P Q W x x2 y (VIn.keep k hx (fun g _ hg => hbw.block g hg)) (VIn.keep k hx2 (fun g _ hg => hbw.block g hg)) hyk
      unfold SameOk at HCALL
      subst hxf
      subst hxg
      have hjl : IntKind.i64.wrap ((j : Int) + 1) = ((j + 1 : Nat) : Int) := by rw [IntKind.wrap_i64]; omega
      clear hx hx2 hxc hxc2 hyk
      go_wp2
      clear c4 e4
      refine wp_region_T (fun _ W => Below w2.heap.size w2 W) (by kernel_rfl) ?_
      intro hD
      have hS : Below w2.heap.size w2 wr.drew := HB.out.drew
      refine wpAnyT_take (i := 0) (v := ?_) rfl (by kernel_rfl) (by kernel_rfl) (by kernel_rfl) (fun _ _ _ h => h) (fun _ _ h => h) (fun _ _ h => h) hD (Or.inl ⟨by rfl, ?_⟩) hS ?_
      rotate_left
      · intro W hW; go_simp; try (with_reducible rfl)
      clear hD hS; intro hD hS; (try simp only [Act.put, List.setIfInBounds_toArray, List.set_cons_zero, List.set_cons_succ, List.getElem_toArray, List.getElem_cons_succ, List.getElem_cons_zero])
      refine wpAnyT_take (i := 1) (v := ?_) rfl (by kernel_rfl) (by kernel_rfl) (by kernel_rfl) (fun _ _ _ h => h) (fun _ _ h => h) (fun _ _ h => h) hD (Or.inl ⟨by rfl, ?_⟩) hS ?_
      rotate_left
      · intro W hW; obtain ⟨_, _, _, hb⟩ := hW; obtain ⟨q4, r4⟩ := HC4.out W hb; go_simp; try (with_reducible rfl)
      clear hD hS; intro hD hS; (try simp only [Act.put, List.setIfInBounds_toArray, List.set_cons_zero, List.set_cons_succ, List.getElem_toArray, List.getElem_cons_succ, List.getElem_cons_zero])
      refine wpAnyT_take (i := 2) (v := ?_) rfl (by kernel_rfl) (by kernel_rfl) (by kernel_rfl) (fun _ _ _ h => h) (fun _ _ h => h) (fun _ _ h => h) hD (Or.inl ⟨by rfl, ?_⟩) hS ?_
      rotate_left
      · intro W hW; go_simp; try (with_reducible rfl)
      clear hD hS; intro hD hS; (try simp only [Act.put, List.setIfInBounds_toArray, List.set_cons_zero, List.set_cons_succ, List.getElem_toArray, List.getElem_cons_succ, List.getElem_cons_zero])
      refine wpAnyT_take (i := 3) (v := ?_) rfl (by kernel_rfl) (by kernel_rfl) (by kernel_rfl) (fun _ _ _ h => h) (fun _ _ h => h) (fun _ _ h => h) hD (Or.inl ⟨by rfl, ?_⟩) hS ?_
      rotate_left
      · intro W hW; go_simp; try (with_reducible rfl)
      clear hD hS; intro hD hS; (try simp only [Act.put, List.setIfInBounds_toArray, List.set_cons_zero, List.set_cons_succ, List.getElem_toArray, List.getElem_cons_succ, List.getElem_cons_zero])
      refine wpAnyT_take (i := 4) (v := ?_) rfl (by kernel_rfl) (by kernel_rfl) (by kernel_rfl) (fun _ _ _ h => h) (fun _ _ h => h) (fun _ _ h => h) hD (Or.inl ⟨by rfl, ?_⟩) hS ?_
      rotate_left
      · intro W hW; obtain ⟨_, _, _, hb⟩ := hW; obtain ⟨q0, q1, q2, q3, q4, q5, q6⟩ := HD.out W hb; go_simp; try (with_reducible rfl)
      clear hD hS; intro hD hS; (try simp only [Act.put, List.setIfInBounds_toArray, List.set_cons_zero, List.set_cons_succ, List.getElem_toArray, List.getElem_cons_succ, List.getElem_cons_zero])
      refine wpAnyT_take (i := 5) (v := ?_) rfl (by kernel_rfl) (by kernel_rfl) (by kernel_rfl) (fun _ _ _ h => h) (fun _ _ h => h) (fun _ _ h => h) hD (Or.inl ⟨by rfl, ?_⟩) hS ?_
      rotate_left
      · intro W hW; go_simp; try (with_reducible rfl)
      clear hD hS; intro hD hS; (try simp only [Act.put, List.setIfInBounds_toArray, List.set_cons_zero, List.set_cons_succ, List.getElem_toArray, List.getElem_cons_succ, List.getElem_cons_zero])
      refine wpAnyT_take (i := 6) (v := ?_) rfl (by kernel_rfl) (by kernel_rfl) (by kernel_rfl) (fun _ _ _ h => h) (fun _ _ h => h) (fun _ _ h => h) hD (Or.inl ⟨by rfl, ?_⟩) hS ?_
      rotate_left
      · intro W hW; obtain ⟨_, _, _, hb⟩ := hW; obtain ⟨q4, r4⟩ := HC4.out W hb; go_simp; try (with_reducible rfl)
      clear hD hS; intro hD hS; (try simp only [Act.put, List.setIfInBounds_toArray, List.set_cons_zero, List.set_cons_succ, List.getElem_toArray, List.getElem_cons_succ, List.getElem_cons_zero])
      refine wpAnyT_take (i := 7) (v := ?_) rfl (by kernel_rfl) (by kernel_rfl) (by kernel_rfl) (fun _ _ _ h => h) (fun _ _ h => h) (fun _ _ h => h) hD (Or.inl ⟨by rfl, ?_⟩) hS ?_
      rotate_left
      · intro W hW; go_simp; try (with_reducible rfl)
      clear hD hS; intro hD hS; (try simp only [Act.put, List.setIfInBounds_toArray, List.set_cons_zero, List.set_cons_succ, List.getElem_toArray, List.getElem_cons_succ, List.getElem_cons_zero])
      refine wpAnyT_take (i := 8) (v := ?_) rfl (by kernel_rfl) (by kernel_rfl) (by kernel_rfl) (fun _ _ _ h => h) (fun _ _ h => h) (fun _ _ h => h) hD (Or.inl ⟨by rfl, ?_⟩) hS ?_
      rotate_left
      · intro W hW; go_simp; try (with_reducible rfl)
      clear hD hS; intro hD hS; (try simp only [Act.put, List.setIfInBounds_toArray, List.set_cons_zero, List.set_cons_succ, List.getElem_toArray, List.getElem_cons_succ, List.getElem_cons_zero])
      refine wpAnyT_take (i := 9) (v := ?_) rfl (by kernel_rfl) (by kernel_rfl) (by kernel_rfl) (fun _ _ _ h => h) (fun _ _ h => h) (fun _ _ h => h) hD (Or.inl ⟨by rfl, ?_⟩) hS ?_
      rotate_left
      · intro W hW; obtain ⟨_, _, _, hb⟩ := hW; obtain ⟨q0, q1, q2, q3, q4, q5, q6⟩ := HE.out W hb; go_simp; try (with_reducible rfl)
      clear hD hS; intro hD hS; (try simp only [Act.put, List.setIfInBounds_toArray, List.set_cons_zero, List.set_cons_succ, List.getElem_toArray, List.getElem_cons_succ, List.getElem_cons_zero])
      refine wpAnyT_one (i := 10) (by kernel_rfl) rfl hD (fun K' hK => ?_)
      go_simp
      refine (HCALL.out _ HB.out.drew).mono ?_
      rintro e w4 ⟨rfl, b4⟩
      have HB4 : Hid (Below w2.heap.size w2 w4) := HB.out.drew.trans (b4.mono (by simpa using HB.out.size))
      clear b4
      refine hK.out _ _ HB4.out (fun hD2 hS2 => ?_)
      clear hD hS hK K'
      have hD := hD2
      have hS := hS2
      clear hD2 hS2
      (try simp only [Act.put, List.setIfInBounds_toArray, List.set_cons_zero, List.set_cons_succ, List.getElem_toArray, List.getElem_cons_succ, List.getElem_cons_zero])
      refine wpAnyT_one (i := 11) (by kernel_rfl) rfl hD (fun K' hK => ?_)
      go_simp
      refine hK.out _ _ HB4.out (fun hD2 hS2 => ?_)
      clear hD hS hK K'
      have hD := hD2
      have hS := hS2
      clear hD2 hS2
      (try simp only [Act.put, List.setIfInBounds_toArray, List.set_cons_zero, List.set_cons_succ, List.getElem_toArray, List.getElem_cons_succ, List.getElem_cons_zero])
      refine wpAnyT_done (by kernel_rfl) ?_ _
      clear hD hS
      go_wp2
      go_roundw
      case rel => exact ⟨j + 1, by omega, by first | rfl | (congr 1), HB4.out⟩
      case measure => simp [intOf]; omega
end Go.Proofs.YtgkljcmjnphpeaaGreatDoor
namespace Go.Proofs.YtgkljcmjnphpeaaGreatDoor
open Go.RowKit
variable {W : World}
theorem lit_row {g e size n c : Nat} {cur : Array Value} {xs : List Value} (h : W.heap[g]? = some (.cells cur e (0, 0))) (hc : n ≤ c) (hm : c ≤ 1000000) (hs : cur.size = c * size) (ht : cur.toList.take (n * size) = xs) : W.ownsRow 0 e size (.slice (some ⟨g, 0, none⟩) n c) n xs := by
  refine ⟨?_, Or.inr ⟨g, c, cur, rfl, Nat.zero_le _, h, hc, by unfold maxLen; omega, hs, ht⟩⟩
  rw [← ht, List.length_take, Array.length_toList, hs]
  exact Nat.min_eq_left (Nat.mul_le_mul_right _ hc)
/-- Values in memory, one by one. -/
def AllIn (P : Nat → Prop) (k : Nat) (W : World) : List Value → List (VT k) → Prop
  | [], [] => True
  | x :: xs, y :: ys => VIn P k W x y ∧ AllIn P k W xs ys
  | _, _ => False
theorem AllIn.len {P : Nat → Prop} {k : Nat} : ∀ {xs : List Value} {ys : List (VT k)}, AllIn P k W xs ys → xs.length = ys.length
  | [], [], _ => rfl
  | x :: xs, y :: ys, h => by simp [AllIn.len h.2]
  | [], _ :: _, h => h.elim
  | _ :: _, [], h => h.elim
theorem AllIn.at {P : Nat → Prop} {k : Nat} : ∀ {xs : List Value} {ys : List (VT k)}, AllIn P k W xs ys → ∀ (i : Nat) (x : Value) (y : VT k), xs[i]? = some x → ys[i]? = some y → VIn P k W x y
  | [], [], _, i, x, y, h, _ => by simp at h
  | x :: xs, y :: ys, h, 0, x', y', hx, hy => by cases hx; cases hy; exact h.1
  | x :: xs, y :: ys, h, i + 1, x', y', hx, hy => AllIn.at h.2 i x' y' (by simpa using hx) (by simpa using hy)
  | [], _ :: _, h, _, _, _, _, _ => h.elim
  | _ :: _, [], h, _, _, _, _, _ => h.elim
/-- A list of values that is written out. -/
theorem lit_vals {k g n c : Nat} {cur : Array Value} {xs : List Value} {ys : List (VT k)} (h : W.heap[g]? = some (.cells cur 67 (0, 0))) (hc : n ≤ c) (hm : c ≤ 1000000) (hs : cur.size = c * 7) (ht : cur.toList.take (n * 7) = xs.flatMap cellsOf) (hn : xs.length = n) (ha : AllIn (fun _ => True) k W xs ys) : Vals (fun _ => True) k 0 ys W (.slice (some ⟨g, 0, none⟩) n c) :=
  ⟨xs, by rw [hn]; exact lit_row h hc hm hs ht, ha.len, ha.at⟩
/-- A value with lists that are written out. -/
theorem lit_in {k : Nat} {V : Node (VT k)} {iv kv fv : Value} {vs : List Value} (hl : vs.length = V.items.length) (hi : W.ownsRow 0 67 7 iv vs.length (vs.flatMap cellsOf)) (ha : AllIn (fun _ => True) k W vs V.items) (hk : W.ownsRow 0 9 1 kv V.keys.length (V.keys.map fun s => .string (strN s))) (hf : W.ownsRow 0 3 1 fv V.filters.length (V.filters.map fun f : Nat => .int .i64 (f : Int))) : VIn (fun _ => True) (k + 1) W (nodeVal V iv kv fv) V :=
  ⟨iv, kv, fv, vs, rfl, hl, RowIn.of hi (fun _ _ => trivial), ha.at, RowIn.of hk (fun _ _ => trivial), RowIn.of hf (fun _ _ => trivial)⟩
theorem flat_take {size : Nat} : ∀ (vs : List Value) (n : Nat), (∀ x ∈ vs, (cellsOf x).length = size) → (vs.flatMap cellsOf).take (n * size) = (vs.take n).flatMap cellsOf
  | [], n, _ => by simp
  | x :: vs, 0, _ => by simp
  | x :: vs, n + 1, h => by
    have hx := h x (List.mem_cons_self ..)
    rw [List.flatMap_cons, List.take_succ_cons, List.flatMap_cons, ← flat_take vs n (fun y hy => h y (List.mem_cons_of_mem _ hy)), Nat.add_mul, Nat.one_mul, List.take_append, hx]
    rw [List.take_of_length_le (by omega), show n * size + size - size = n * size by omega]
theorem Vals.take {P : Nat → Prop} {k b : Nat} {Ys : List (VT k)} {a : Option Addr} {len c : Nat} (h : Vals P k b Ys W (.slice a len c)) {n : Nat} (hn : n ≤ len) (h0 : 0 < n) : Vals P k b (Ys.take n) W (.slice a n c) := by
  obtain ⟨xs, h1, h2, h3⟩ := h
  have hc : ∀ x ∈ xs, (cellsOf x).length = 7 := fun x hx => by
    obtain ⟨j, hj, hjx⟩ := List.getElem_of_mem hx
    obtain ⟨y, hy⟩ : ∃ y, Ys[j]? = some y := ⟨_, List.getElem?_eq_getElem (by omega)⟩
    exact (h3 j x y (by rw [List.getElem?_eq_getElem hj, hjx]) hy).cells.1
  refine ⟨xs.take n, ?_, by rw [List.length_take, List.length_take, h2], fun i x y hx hy => ?_⟩
  · rcases h1.2 with ⟨e, hx0⟩ | ⟨g, c', cur, e, e2, hh, hc1, hc2, hc3, ht⟩
    · cases e; omega
    · have hl : len = xs.length := by cases e; rfl
      have hln : (xs.take n).length = n := by rw [List.length_take]; omega
      cases e
      rw [hln]
      refine ⟨?_, Or.inr ⟨g, c, cur, rfl, e2, hh, by omega, hc2, hc3, ?_⟩⟩
      · rw [← flat_take xs n hc, List.length_take, h1.1]
        exact Nat.min_eq_left (Nat.mul_le_mul_right _ hn)
      · rw [← flat_take xs n hc, ← ht, List.take_take]
        congr 1
        exact (Nat.min_eq_left (Nat.mul_le_mul_right _ hn)).symm
  · rw [List.getElem?_take] at hx hy
    by_cases hi : i < n
    · rw [if_pos hi] at hx hy
      exact h3 i x y hx hy
    · rw [if_neg hi] at hx; cases hx
end Go.Proofs.YtgkljcmjnphpeaaGreatDoor
namespace Go.Proofs.YtgkljcmjnphpeaaGreatDoor
open Go.RowKit
namespace Fo
/-- What comes first is not plain. -/
def NP (r : List Nat) : Prop := ∀ b t, r = b :: t → plainB b = false
theorem NP.cons {b : Nat} {t : List Nat} (h : plainB b = false) : NP (b :: t) := fun b' t' e => by cases e; exact h
theorem NP.nil : NP [] := fun b t e => by cases e
/-- A word's bytes. -/
def Plain (s : List Nat) : Prop := s ≠ [] ∧ ∀ b ∈ s, plainB b = true
theorem takeWhile_np {r : List Nat} (hr : NP r) : r.takeWhile plainB = [] ∧ r.dropWhile plainB = r := by
  cases r with
  | nil => exact ⟨rfl, rfl⟩
  | cons b t => simp [List.takeWhile, List.dropWhile, hr b t rfl]
theorem takeWhile_plain : ∀ {s r : List Nat}, (∀ b ∈ s, plainB b = true) → NP r → (s ++ r).takeWhile plainB = s ∧ (s ++ r).dropWhile plainB = r
  | [], r, _, hr => takeWhile_np hr
  | b :: s, r, hs, hr => by
    have ih := takeWhile_plain (s := s) (r := r) (fun x hx => hs x (List.mem_cons_of_mem _ hx)) hr
    have hb := hs b (List.mem_cons_self ..)
    simp [List.takeWhile, List.dropWhile, hb, ih.1, ih.2]
theorem plain_white {b : Nat} (h : plainB b = true) : whiteB b = false ∧ markB b = false := by
  unfold plainB at h
  simpa using h
theorem plain_ne {b c : Nat} (h : plainB b = true) (hc : plainB c = false) : b ≠ c := by
  rintro rfl
  rw [h] at hc; cases hc
theorem skip_plain {b : Nat} {t : List Nat} (h : plainB b = true) : skip (b :: t) = b :: t := skip_stop (plain_white h).1 (plain_ne h rfl)
theorem skip_of_white {b : Nat} {t : List Nat} (h : whiteB b = true) : skip (b :: t) = skip t := by
  show skipC false (b :: t) = _
  rw [skipC, if_pos h]; rfl
theorem takesWord_skip (s r : List Nat) : takesWord s (skip r) = takesWord s r := by unfold takesWord; rw [wordOf_skip, wordRest_skip]
theorem takesWord_white {b : Nat} {s t : List Nat} (h : whiteB b = true) : takesWord s (b :: t) = takesWord s t := by rw [← takesWord_skip, skip_of_white h, takesWord_skip]
theorem word_of {s r : List Nat} (hs : Plain s) (hr : NP r) : wordOf (s ++ r) = s ∧ wordRest (s ++ r) = r := by
  obtain ⟨h1, h2⟩ := hs
  obtain ⟨b, s, rfl⟩ := List.exists_cons_of_ne_nil h1
  unfold wordOf wordRest
  rw [List.cons_append, skip_plain (h2 b (List.mem_cons_self ..)), ← List.cons_append]
  exact takeWhile_plain h2 hr
theorem takesWord_word {s r : List Nat} (hs : Plain s) (hr : NP r) : takesWord s (s ++ r) = some r := by
  unfold takesWord
  rw [(word_of hs hr).1, (word_of hs hr).2, if_pos rfl]
theorem takesWord_other {s s' r : List Nat} (hs : Plain s) (hr : NP r) (h : s ≠ s') : takesWord s' (s ++ r) = none := by
  unfold takesWord
  rw [(word_of hs hr).1, if_neg h]
/-- A mark comes, and no word. -/
theorem takesWord_mark {b : Nat} {s t : List Nat} (h : plainB b = false) (hw : whiteB b = false) (h37 : b ≠ 37) (hs : s ≠ []) : takesWord s (b :: t) = none := by
  unfold takesWord wordOf
  rw [skip_stop hw h37, (takeWhile_np (NP.cons h)).1, if_neg (fun e => hs e.symm)]
theorem takes_app (s r : List Nat) : takes s (s ++ r) = some r := by
  unfold takes
  rw [if_pos (by simp), List.drop_left]
theorem takes_ne {b c : Nat} {s t : List Nat} (h : c ≠ b) : takes (c :: s) (b :: t) = none := by
  unfold takes
  rw [if_neg]
  simp [List.isPrefixOf, h]
/-- White and comments between tokens. -/
structure Gap (G : List Nat) : Prop where
  skip : ∀ r, Fo.skip (G ++ r) = Fo.skip r
  np : ∀ r, NP r → NP (G ++ r)
theorem Gap.nil : Gap [] := ⟨fun _ => rfl, fun _ h => h⟩
theorem Gap.app {G H : List Nat} (h : Gap G) (h' : Gap H) : Gap (G ++ H) := ⟨fun r => by rw [List.append_assoc, h.skip, h'.skip], fun r hr => by rw [List.append_assoc]; exact h.np _ (h'.np _ hr)⟩
theorem Gap.white {b : Nat} (h : whiteB b = true) : Gap [b] := ⟨fun r => skip_of_white h, fun r _ => NP.cons (by unfold plainB; rw [h]; rfl)⟩
theorem Gap.takesWord {G : List Nat} (h : Gap G) (s r : List Nat) : Fo.takesWord s (G ++ r) = Fo.takesWord s r := by rw [← takesWord_skip, h.skip, takesWord_skip]
theorem value_skip {k : Nat} (r : List Nat) : value (k + 1) (skip r) = value (k + 1) r := by
  unfold value
  rw [skip_skip, worded_skip]
theorem Gap.value {G : List Nat} (h : Gap G) {k : Nat} (r : List Nat) : Fo.value (k + 1) (G ++ r) = Fo.value (k + 1) r := by rw [← value_skip, h.skip, value_skip]
theorem plain_marks {b : Nat} (h : plainB b = true) : b ≠ 91 ∧ b ≠ 60 ∧ b ≠ 40 ∧ b ≠ 47 ∧ b ≠ 93 ∧ b ≠ 62 ∧ b ≠ 37 :=
  ⟨plain_ne h rfl, plain_ne h rfl, plain_ne h rfl, plain_ne h rfl, plain_ne h rfl, plain_ne h rfl, plain_ne h rfl⟩
theorem value_word {k : Nat} {s r : List Nat} (hs : Plain s) : value (k + 1) (s ++ r) = worded (VT k) (s ++ r) := by
  obtain ⟨h1, h2⟩ := hs
  obtain ⟨b, s, rfl⟩ := List.exists_cons_of_ne_nil h1
  have hb := h2 b (List.mem_cons_self ..)
  obtain ⟨m1, m2, m3, m4, _⟩ := plain_marks hb
  unfold value
  rw [List.cons_append, skip_plain hb, takes_ne m1.symm, takes_ne m2.symm, takes_ne m2.symm, takes_ne m3.symm, takes_ne m4.symm]
/-- A number's digits. -/
def dig (n : Nat) : List Nat := (Lib.decDigits n).map UInt8.toNat
theorem u8_48 {n : Nat} (h : n < 10) : (UInt8.ofNat (48 + n)).toNat = 48 + n := by
  rw [UInt8.toNat_ofNat']; omega
theorem dig_small {n : Nat} (h : n < 10) : dig n = [48 + n] := by
  unfold dig
  rw [Lib.decDigits, dif_pos h]
  simp only [List.map_cons, List.map_nil, u8_48 h]
theorem dig_big {n : Nat} (h : ¬ n < 10) : dig n = dig (n / 10) ++ [48 + n % 10] := by
  unfold dig
  rw [Lib.decDigits, dif_neg h, List.map_append]
  simp only [List.map_cons, List.map_nil, u8_48 (show n % 10 < 10 by omega)]
theorem dig_is (n : Nat) : dig n ≠ [] ∧ ∀ b ∈ dig n, 48 ≤ b ∧ b ≤ 57 := by
  induction n using Nat.strongRecOn with
  | _ n ih =>
    by_cases h : n < 10
    · rw [dig_small h]; exact ⟨by simp, fun b hb => by simp at hb; omega⟩
    · rw [dig_big h]
      refine ⟨by simp, fun b hb => ?_⟩
      rcases List.mem_append.1 hb with hb | hb
      · exact (ih (n / 10) (by omega)).2 b hb
      · simp at hb; omega
theorem plain_dig {b : Nat} (h : 48 ≤ b ∧ b ≤ 57) : plainB b = true := by
  have : ∀ b : Fin 10, plainB (48 + b.val) = true := by decide
  have := this ⟨b - 48, by omega⟩
  rwa [show 48 + (b - 48) = b by omega] at this
theorem dig_plain (n : Nat) : Plain (dig n) := ⟨(dig_is n).1, fun b hb => plain_dig ((dig_is n).2 b hb)⟩
theorem numOf_app (l : List Nat) (b : Nat) : numOf (l ++ [b]) = 10 * numOf l + (b - 48) := by unfold numOf; rw [List.foldl_append]; rfl
theorem numOf_dig (n : Nat) : numOf (dig n) = n := by
  induction n using Nat.strongRecOn with
  | _ n ih =>
    by_cases h : n < 10
    · rw [dig_small h]; simp [numOf]
    · rw [dig_big h, numOf_app, ih (n / 10) (by omega)]; omega
theorem cutSign_dig {l : List Nat} (h : ∀ b ∈ l, 48 ≤ b ∧ b ≤ 57) : cutSign l = ([], l) := by
  cases l with
  | nil => rfl
  | cons b t =>
    have := h b (List.mem_cons_self ..)
    show (if b = 43 ∨ b = 45 then ([b], t) else (([] : List Nat), b :: t)) = _
    rw [if_neg (by omega)]
theorem atoi_dig {l : List Nat} (h0 : l ≠ []) (h : ∀ b ∈ l, 48 ≤ b ∧ b ≤ 57) : atoi l = some (numOf l : Int) := by
  unfold atoi
  rw [cutSign_dig h]
  rw [if_pos ⟨h0, by rw [List.all_eq_true]; intro b hb; have := h b hb; simp [isDig]; omega⟩, if_neg (by simp)]
theorem dig_len : ∀ (k n : Nat), n < 10 ^ (k + 1) → (dig n).length ≤ k + 1
  | 0, n, h => by rw [dig_small (by simpa using h)]; exact Nat.le_refl _
  | k + 1, n, h => by
    have ih := dig_len k (n / 10) (by rw [Nat.div_lt_iff_lt_mul (by decide)]; rw [Nat.pow_succ] at h; exact h)
    by_cases h9 : n < 10
    · rw [dig_small h9]; simp
    · rw [dig_big h9, List.length_append, List.length_singleton]; omega
theorem whole_dig {n : Nat} (h : n < 10 ^ 10) : whole (dig n) = some (n : Int) := by
  unfold whole
  rw [cutSign_dig (dig_is n).2, if_pos ⟨List.length_pos_iff.2 (dig_is n).1, dig_len 9 n h⟩, atoi_dig (dig_is n).1 (dig_is n).2, numOf_dig]
end Fo
end Go.Proofs.YtgkljcmjnphpeaaGreatDoor
namespace Go.Proofs.YtgkljcmjnphpeaaGreatDoor
open Go.RowKit
variable {w w' : World}
namespace Fo
/-- A number as so many digits. -/
def num : Nat → Nat → List Nat
  | _, 0 => []
  | n, s + 1 => num (n / 10) s ++ [48 + n % 10]
theorem num_len : ∀ (s n : Nat), (num n s).length = s
  | 0, n => rfl
  | s + 1, n => by rw [num, List.length_append, num_len s]; rfl
end Fo
theorem conv1 (W : World) (b d : Nat) (h : W.heap[b]? = some (.cells #[.int .u8 (d : Int)] 5 (0, 0))) : (convert 23 9 (.slice (some ⟨b, 0, none⟩) 1 1)).run Tryz.prog W = .ok (.string (strN [d])) W := by
  refine string_cells ⟨b, 0, none⟩ 1 [d] (fun j hj => ?_)
  have hj0 : j = 0 := by simp at hj; exact hj
  subst hj0
  rw [addr_add, cell_blk h]
  rfl
set_option maxRecDepth 100000 in
set_option maxHeartbeats 4000000 in
theorem number_ok : ∀ (s n : Nat) (w : World), s ≤ 100 → n ≤ 4611686018427387904 →
    Calls Tryz.prog 69 #[.int .i64 (n : Int), .int .i64 (s : Int)] w fun e w' => e = .returned (.string (strN (Fo.num n s))) ∧ Below w.heap.size w w'
  | 0, n, w, _, _ => by
    go_enter Tryz.func69, Tryz.ntmps69
    go_wp2
    go_ret
    exact ⟨rfl, Below.refl _ _⟩
  | s + 1, n, w, hs, hn => by
    have IH := hide (fun W : World => number_ok s (n / 10) W (by omega) (by omega))
    have hq : (n : Int).tdiv 10 = ((n / 10 : Nat) : Int) := by rw [Int.tdiv_eq_ediv_of_nonneg (by omega)]; omega
    have hm : (n : Int).tmod 10 = ((n % 10 : Nat) : Int) := by rw [Int.tmod_eq_emod_of_nonneg (by omega)]; omega
    obtain ⟨d, hd⟩ : ∃ d, 48 + n % 10 = d := ⟨_, rfl⟩
    have hd2 : d ≤ 57 := by omega
    have ha : (48 : Int) + ((n % 10 : Nat) : Int) = (d : Int) := by omega
    have hsum : Hid (strN (Fo.num (n / 10) s) ++ strN [d] = strN (Fo.num n (s + 1))) := by unfold Hid; rw [strN_append, Fo.num, hd]
    have hlen : (strN (Fo.num (n / 10) s)).size ≤ 100 := by rw [strN_sz, Fo.num_len]; omega
    have hl1 : (strN [d]).size = 1 := rfl
    have hcat : ¬ 9223372036854775807 < (strN (Fo.num (n / 10) s)).size + 1 := by omega
    generalize strN (Fo.num n (s + 1)) = RES at *
    obtain ⟨S, hS⟩ : ∃ S : Int, ((s + 1 : Nat) : Int) = S := ⟨_, rfl⟩
    rw [hS]
    have t0 : (S == 0) = false := by simp; omega
    have hsub : S - 1 = (s : Int) := by omega
    have hS2 : 1 ≤ S ∧ S ≤ 101 := by omega
    clear hS
    have hu8 : IntKind.u8.wrap (d : Int) = (d : Int) := by rw [IntKind.wrap_u8]; omega
    generalize hD : strN (Fo.num (n / 10) s) = D at *
    generalize hE : strN [d] = E at *
    have HE := hide hE
    clear hD hE hd
    have hw1 : IntKind.i64.wrap ((n / 10 : Nat) : Int) = ((n / 10 : Nat) : Int) := by rw [IntKind.wrap_i64]; omega
    have hw2 : IntKind.i64.wrap (s : Int) = (s : Int) := by rw [IntKind.wrap_i64]; omega
    have hw3 : IntKind.i64.wrap (d : Int) = (d : Int) := by rw [IntKind.wrap_i64]; omega
    generalize n / 10 = n1 at *
    generalize n % 10 = n2 at *
    go_enter Tryz.func69, Tryz.ntmps69
    go_wp2_with fail
    refine wp_region_T (fun _ _ => True) (by kernel_rfl) ?_
    intro hD
    have hS := hide (show True from trivial)
    refine wpAnyT_take (i := 0) (v := ?_) rfl (by kernel_rfl) (by kernel_rfl) (by kernel_rfl) (fun _ _ _ h => h) (fun _ _ h => h) (fun _ _ h => h) hD (Or.inl ⟨by rfl, ?_⟩) hS ?_
    rotate_left
    · intro W hW; go_simp; try (with_reducible rfl)
    clear hD hS; intro hD hS; (try simp only [Act.put, List.setIfInBounds_toArray, List.set_cons_zero, List.set_cons_succ, List.getElem_toArray, List.getElem_cons_succ, List.getElem_cons_zero])
    refine wpAnyT_take (i := 1) (v := ?_) rfl (by kernel_rfl) (by kernel_rfl) (by kernel_rfl) (fun _ _ _ h => h) (fun _ _ h => h) (fun _ _ h => h) hD (Or.inl ⟨by rfl, ?_⟩) hS ?_
    rotate_left
    · intro W hW; go_simp; try (with_reducible rfl)
    clear hD hS; intro hD hS; (try simp only [Act.put, List.setIfInBounds_toArray, List.set_cons_zero, List.set_cons_succ, List.getElem_toArray, List.getElem_cons_succ, List.getElem_cons_zero])
    refine wpAnyT_take (i := 2) (v := ?_) rfl (by kernel_rfl) (by kernel_rfl) (by kernel_rfl) (fun _ _ _ h => h) (fun _ _ h => h) (fun _ _ h => h) hD (Or.inl ⟨by rfl, ?_⟩) hS ?_
    rotate_left
    · intro W hW; go_simp; try (with_reducible rfl)
    clear hD hS; intro hD hS; (try simp only [Act.put, List.setIfInBounds_toArray, List.set_cons_zero, List.set_cons_succ, List.getElem_toArray, List.getElem_cons_succ, List.getElem_cons_zero])
    refine wpAnyT_take (i := 3) (v := ?_) rfl (by kernel_rfl) (by kernel_rfl) (by kernel_rfl) (fun _ _ _ h => h) (fun _ _ h => h) (fun _ _ h => h) hD (Or.inl ⟨by rfl, ?_⟩) hS ?_
    rotate_left
    · intro W hW; go_simp; try (with_reducible rfl)
    clear hD hS; intro hD hS; (try simp only [Act.put, List.setIfInBounds_toArray, List.set_cons_zero, List.set_cons_succ, List.getElem_toArray, List.getElem_cons_succ, List.getElem_cons_zero])
    refine wpAnyT_take (i := 5) (v := ?_) rfl (by kernel_rfl) (by kernel_rfl) (by kernel_rfl) (fun _ _ _ h => h) (fun _ _ h => h) (fun _ _ h => h) hD (Or.inl ⟨by rfl, ?_⟩) hS ?_
    rotate_left
    · intro W hW; go_simp; try (with_reducible rfl)
    clear hD hS; intro hD hS; (try simp only [Act.put, List.setIfInBounds_toArray, List.set_cons_zero, List.set_cons_succ, List.getElem_toArray, List.getElem_cons_succ, List.getElem_cons_zero])
    refine wpAnyT_take (i := 6) (v := ?_) rfl (by kernel_rfl) (by kernel_rfl) (by kernel_rfl) (fun _ _ _ h => h) (fun _ _ h => h) (fun _ _ h => h) hD (Or.inl ⟨by rfl, ?_⟩) hS ?_
    rotate_left
    · intro W hW; go_simp; try (with_reducible rfl)
    clear hD hS; intro hD hS; (try simp only [Act.put, List.setIfInBounds_toArray, List.set_cons_zero, List.set_cons_succ, List.getElem_toArray, List.getElem_cons_succ, List.getElem_cons_zero])
    refine wpAnyT_take (i := 7) (v := ?_) rfl (by kernel_rfl) (by kernel_rfl) (by kernel_rfl) (fun _ _ _ h => h) (fun _ _ h => h) (fun _ _ h => h) hD (Or.inl ⟨by rfl, ?_⟩) hS ?_
    rotate_left
    · intro W hW; go_simp; try (with_reducible rfl)
    clear hD hS; intro hD hS; (try simp only [Act.put, List.setIfInBounds_toArray, List.set_cons_zero, List.set_cons_succ, List.getElem_toArray, List.getElem_cons_succ, List.getElem_cons_zero])
    refine wpAnyT_take (i := 8) (v := ?_) rfl (by kernel_rfl) (by kernel_rfl) (by kernel_rfl) (fun _ _ _ h => h) (fun _ _ h => h) (fun _ _ h => h) hD (Or.inl ⟨by rfl, ?_⟩) hS ?_
    rotate_left
    · intro W hW; go_simp; try (with_reducible rfl)
    clear hD hS; intro hD hS; (try simp only [Act.put, List.setIfInBounds_toArray, List.set_cons_zero, List.set_cons_succ, List.getElem_toArray, List.getElem_cons_succ, List.getElem_cons_zero])
    refine wpAnyT_two (i := 4) (j := 9) (by kernel_rfl) rfl rfl hD (fun K' hK => ?_) (fun K' hK => ?_)
    · go_simp
      refine (IH.out _).mono ?_
      rintro e w1 ⟨rfl, b1⟩
      have B1 : Hid (Below w.heap.size w w1) := (Below.refl _ _).drew.trans b1
      clear b1
      refine hK.out _ _ trivial (fun hD2 hS2 => ?_)
      clear hD hS hK K'
      have hD := hD2
      have hS := hS2
      clear hD2 hS2
      (try simp only [Act.put, List.setIfInBounds_toArray, List.set_cons_zero, List.set_cons_succ, List.getElem_toArray, List.getElem_cons_succ, List.getElem_cons_zero])
      refine wpAnyT_one (i := 9) (by kernel_rfl) rfl hD (fun K' hK => ?_)
      go_simp
      have hx := blk_new w1 (.cells #[.int .u8 (d : Int)] 5)
      have hcv := conv1 _ _ _ hx
      rw [HE.out] at hcv
      have HB2 : Hid (Below w.heap.size w (w1.alloc (.cells #[.int .u8 (d : Int)] 5))) := B1.out.alloc B1.out.size _
      clear hx
      refine hK.out _ _ trivial (fun hD2 hS2 => ?_)
      clear hD hS hK K'
      have hD := hD2
      have hS := hS2
      clear hD2 hS2
      (try simp only [Act.put, List.setIfInBounds_toArray, List.set_cons_zero, List.set_cons_succ, List.getElem_toArray, List.getElem_cons_succ, List.getElem_cons_zero])
      refine wpAnyT_one (i := 10) (by kernel_rfl) rfl hD (fun K' hK => ?_)
      go_simp
      refine hK.out _ _ trivial (fun hD2 hS2 => ?_)
      clear hD hS hK K'
      have hD := hD2
      have hS := hS2
      clear hD2 hS2
      (try simp only [Act.put, List.setIfInBounds_toArray, List.set_cons_zero, List.set_cons_succ, List.getElem_toArray, List.getElem_cons_succ, List.getElem_cons_zero])
      refine wpAnyT_one (i := 11) (by kernel_rfl) rfl hD (fun K' hK => ?_)
      go_simp
      refine hK.out _ _ trivial (fun hD2 hS2 => ?_)
      clear hD hS hK K'
      have hD := hD2
      have hS := hS2
      clear hD2 hS2
      (try simp only [Act.put, List.setIfInBounds_toArray, List.set_cons_zero, List.set_cons_succ, List.getElem_toArray, List.getElem_cons_succ, List.getElem_cons_zero])
      refine wpAnyT_one (i := 12) (by kernel_rfl) rfl hD (fun K' hK => ?_)
      go_simp
      refine hK.out _ _ trivial (fun hD2 hS2 => ?_)
      clear hD hS hK K'
      have hD := hD2
      have hS := hS2
      clear hD2 hS2
      (try simp only [Act.put, List.setIfInBounds_toArray, List.set_cons_zero, List.set_cons_succ, List.getElem_toArray, List.getElem_cons_succ, List.getElem_cons_zero])
      refine wpAnyT_done (by kernel_rfl) ?_ _
      clear hD hS
      go_wp2
      go_ret
      exact ⟨by rw [← hsum.out]; rfl, HB2.out⟩
    · go_simp
      have hx : (w.drew.alloc (.cells #[.int .u8 (d : Int)] 5)).heap[w.heap.size]? = some (.cells #[.int .u8 (d : Int)] 5 (0, 0)) := blk_new w.drew _
      have HB1 : Hid (Below w.heap.size w (w.drew.alloc (.cells #[.int .u8 (d : Int)] 5))) := (Below.refl _ _).drew.alloc (Nat.le_refl _) _
      have HX := hide hx
      clear hx
      refine hK.out _ _ trivial (fun hD2 hS2 => ?_)
      clear hD hS hK K'
      have hD := hD2
      have hS := hS2
      clear hD2 hS2
      (try simp only [Act.put, List.setIfInBounds_toArray, List.set_cons_zero, List.set_cons_succ, List.getElem_toArray, List.getElem_cons_succ, List.getElem_cons_zero])
      refine wpAnyT_two (i := 4) (j := 10) (by kernel_rfl) rfl rfl hD (fun K' hK => ?_) (fun K' hK => ?_)
      · go_simp
        refine (IH.out _).mono ?_
        rintro e w1 ⟨rfl, b1⟩
        have hx1 : w1.heap[w.heap.size]? = some (.cells #[.int .u8 (d : Int)] 5 (0, 0)) := (b1.block _ (lt_of_block HX.out)).trans HX.out
        have hcv := conv1 _ _ _ hx1
        rw [HE.out] at hcv
        have HB2 : Hid (Below w.heap.size w w1) := HB1.out.trans (b1.mono HB1.out.size)
        clear b1 hx1
        refine hK.out _ _ trivial (fun hD2 hS2 => ?_)
        clear hD hS hK K'
        have hD := hD2
        have hS := hS2
        clear hD2 hS2
        (try simp only [Act.put, List.setIfInBounds_toArray, List.set_cons_zero, List.set_cons_succ, List.getElem_toArray, List.getElem_cons_succ, List.getElem_cons_zero])
        refine wpAnyT_one (i := 10) (by kernel_rfl) rfl hD (fun K' hK => ?_)
        go_simp
        refine hK.out _ _ trivial (fun hD2 hS2 => ?_)
        clear hD hS hK K'
        have hD := hD2
        have hS := hS2
        clear hD2 hS2
        (try simp only [Act.put, List.setIfInBounds_toArray, List.set_cons_zero, List.set_cons_succ, List.getElem_toArray, List.getElem_cons_succ, List.getElem_cons_zero])
        refine wpAnyT_one (i := 11) (by kernel_rfl) rfl hD (fun K' hK => ?_)
        go_simp
        refine hK.out _ _ trivial (fun hD2 hS2 => ?_)
        clear hD hS hK K'
        have hD := hD2
        have hS := hS2
        clear hD2 hS2
        (try simp only [Act.put, List.setIfInBounds_toArray, List.set_cons_zero, List.set_cons_succ, List.getElem_toArray, List.getElem_cons_succ, List.getElem_cons_zero])
        refine wpAnyT_one (i := 12) (by kernel_rfl) rfl hD (fun K' hK => ?_)
        go_simp
        refine hK.out _ _ trivial (fun hD2 hS2 => ?_)
        clear hD hS hK K'
        have hD := hD2
        have hS := hS2
        clear hD2 hS2
        (try simp only [Act.put, List.setIfInBounds_toArray, List.set_cons_zero, List.set_cons_succ, List.getElem_toArray, List.getElem_cons_succ, List.getElem_cons_zero])
        refine wpAnyT_done (by kernel_rfl) ?_ _
        clear hD hS
        go_wp2
        go_ret
        exact ⟨by rw [← hsum.out]; rfl, HB2.out⟩
      · have hcv := conv1 _ _ _ HX.out
        rw [HE.out] at hcv
        have hcv2 : (convert 23 9 (.slice (some ⟨w.heap.size, 0, none⟩) 1 1)).run Tryz.prog (w.alloc (.cells #[.int .u8 (d : Int)] 5)).drew = .ok (.string E) (w.alloc (.cells #[.int .u8 (d : Int)] 5)).drew := hcv
        go_simp
        refine hK.out _ _ trivial (fun hD2 hS2 => ?_)
        clear hD hS hK K'
        have hD := hD2
        have hS := hS2
        clear hD2 hS2
        (try simp only [Act.put, List.setIfInBounds_toArray, List.set_cons_zero, List.set_cons_succ, List.getElem_toArray, List.getElem_cons_succ, List.getElem_cons_zero])
        refine wpAnyT_one (i := 4) (by kernel_rfl) rfl hD (fun K' hK => ?_)
        go_simp
        refine (IH.out _).mono ?_
        rintro e w1 ⟨rfl, b1⟩
        have HB2 : Hid (Below w.heap.size w w1) := HB1.out.trans (b1.mono HB1.out.size)
        clear b1
        refine hK.out _ _ trivial (fun hD2 hS2 => ?_)
        clear hD hS hK K'
        have hD := hD2
        have hS := hS2
        clear hD2 hS2
        (try simp only [Act.put, List.setIfInBounds_toArray, List.set_cons_zero, List.set_cons_succ, List.getElem_toArray, List.getElem_cons_succ, List.getElem_cons_zero])
        refine wpAnyT_one (i := 11) (by kernel_rfl) rfl hD (fun K' hK => ?_)
        go_simp
        refine hK.out _ _ trivial (fun hD2 hS2 => ?_)
        clear hD hS hK K'
        have hD := hD2
        have hS := hS2
        clear hD2 hS2
        (try simp only [Act.put, List.setIfInBounds_toArray, List.set_cons_zero, List.set_cons_succ, List.getElem_toArray, List.getElem_cons_succ, List.getElem_cons_zero])
        refine wpAnyT_one (i := 12) (by kernel_rfl) rfl hD (fun K' hK => ?_)
        go_simp
        refine hK.out _ _ trivial (fun hD2 hS2 => ?_)
        clear hD hS hK K'
        have hD := hD2
        have hS := hS2
        clear hD2 hS2
        (try simp only [Act.put, List.setIfInBounds_toArray, List.set_cons_zero, List.set_cons_succ, List.getElem_toArray, List.getElem_cons_succ, List.getElem_cons_zero])
        refine wpAnyT_done (by kernel_rfl) ?_ _
        clear hD hS
        go_wp2
        go_ret
        exact ⟨by rw [← hsum.out]; rfl, HB2.out⟩
end Go.Proofs.YtgkljcmjnphpeaaGreatDoor
namespace Go.Proofs.YtgkljcmjnphpeaaGreatDoor
open Go.RowKit
variable {w w' : World}
namespace Fo
/-- A number, as few digits as may be, if they are so many at most. -/
def pln : Nat → Nat → List Nat
  | 0, n => num n 1
  | f + 1, n => if n < 10 then num n 1 else pln f (n / 10) ++ num (n % 10) 1
theorem pln_len : ∀ (f n : Nat), (pln f n).length ≤ f + 1
  | 0, n => by rw [pln, num_len]; exact Nat.le_refl _
  | f + 1, n => by
    rw [pln]
    split
    · rw [num_len]; omega
    · rw [List.length_append, num_len]
      have := pln_len f (n / 10)
      omega
end Fo
set_option maxRecDepth 100000 in
set_option maxHeartbeats 2000000 in
theorem plainly_ok : ∀ (f n : Nat) (w : World), f ≤ 50 → n < 10 ^ (f + 1) → n ≤ 4611686018427387904 →
    Calls Tryz.prog 68 #[.int .i64 (n : Int)] w fun e w' => e = .returned (.string (strN (Fo.pln f n))) ∧ Below w.heap.size w w' := by
  intro f
  induction f with
  | zero =>
    intro n w _ h10 hn
    have h9 : n < 10 := by simpa using h10
    have t0 : decide ((n : Int) < 10) = true := by simp; omega
    have HN := hide (number_ok 1 n w (by omega) hn)
    rw [show ((1 : Nat) : Int) = 1 from rfl] at HN
    rw [Fo.pln]
    clear h10
    go_enter Tryz.func68, Tryz.ntmps68
    go_wp2_with fail
    refine HN.out.mono ?_
    rintro e w1 ⟨rfl, b1⟩
    have B1 := hide b1
    clear b1
    go_wp2
    go_ret
    exact ⟨rfl, B1.out⟩
  | succ f ih =>
    intro n w hf h10 hn
    by_cases h9 : n < 10
    · have HN := hide (number_ok 1 n w (by omega) hn)
      rw [show ((1 : Nat) : Int) = 1 from rfl] at HN
      rw [Fo.pln, if_pos h9]
      clear h10 ih
      go_enter Tryz.func68, Tryz.ntmps68
      go_wp2_with fail
      refine HN.out.mono ?_
      rintro e w1 ⟨rfl, b1⟩
      have B1 := hide b1
      clear b1
      go_wp2
      go_ret
      exact ⟨rfl, B1.out⟩
    · have hdiv : n / 10 < 10 ^ (f + 1) := by rw [Nat.div_lt_iff_lt_mul (by omega)]; rw [Nat.pow_succ] at h10; exact h10
      have IH := hide (ih (n / 10) w (by omega) hdiv (by omega))
      have HN := hide (fun W : World => number_ok 1 (n % 10) W (by omega) (by omega))
      rw [show ((1 : Nat) : Int) = 1 from rfl] at HN
      have hq : (n : Int).tdiv 10 = ((n / 10 : Nat) : Int) := by rw [Int.tdiv_eq_ediv_of_nonneg (by omega)]; omega
      have hm : (n : Int).tmod 10 = ((n % 10 : Nat) : Int) := by rw [Int.tmod_eq_emod_of_nonneg (by omega)]; omega
      have hw1 : IntKind.i64.wrap ((n / 10 : Nat) : Int) = ((n / 10 : Nat) : Int) := by rw [IntKind.wrap_i64]; omega
      have t0 : decide ((n : Int) < 10) = false := by simp; omega
      have hsum : Hid (strN (Fo.pln f (n / 10)) ++ strN (Fo.num (n % 10) 1) = strN (Fo.pln (f + 1) n)) := by unfold Hid; rw [strN_append, Fo.pln, if_neg h9]
      have hl : (strN (Fo.pln f (n / 10))).size ≤ 100 := by rw [strN_sz]; have := Fo.pln_len f (n / 10); omega
      have hl2 : (strN (Fo.num (n % 10) 1)).size = 1 := by rw [strN_sz, Fo.num_len]
      have hcat : ¬ 9223372036854775807 < (strN (Fo.pln f (n / 10))).size + (strN (Fo.num (n % 10) 1)).size := by omega
      have hcat2 : ¬ 9223372036854775807 < (strN (Fo.pln f (n / 10))).size + 1 := by omega
      generalize strN (Fo.pln (f + 1) n) = RES at *
      generalize strN (Fo.pln f (n / 10)) = D at *
      generalize strN (Fo.num (n % 10) 1) = E at *
      generalize n / 10 = n1 at *
      generalize n % 10 = n2 at *
      clear ih h10 hdiv
      go_enter Tryz.func68, Tryz.ntmps68
      go_wp2_with fail
      refine IH.out.mono ?_
      rintro e w1 ⟨rfl, b1⟩
      have B1 := hide b1
      clear b1
      go_wp2_with fail
      refine (HN.out _).mono ?_
      rintro e w2 ⟨rfl, b2⟩
      have B2 := hide (B1.out.trans (b2.mono B1.out.size))
      clear b2
      go_wp2
      go_ret
      exact ⟨by rw [← hsum.out]; rfl, B2.out⟩
end Go.Proofs.YtgkljcmjnphpeaaGreatDoor
