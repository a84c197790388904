/- What came out, again: inflater.again. -/
import Derived.Test.YtgkljcmjnphpeaaGreatDoorK02
import Derived.Test.YtgkljcmjnphpeaaGreatDoorK00
set_option linter.unusedVariables false
set_option linter.unusedSimpArgs false
namespace Go.Proofs.YtgkljcmjnphpeaaGreatDoor
open Go.RowKit
variable {B br bf bd off cap : Nat} {d : List Nat} {most : Nat} {fixed : List Value} {w : World} {p held left window : Nat} {ov : Value} {out : List Nat}
/-- One round: the byte that far back, put out once more, as a step of memory. -/
theorem Bi.putOne (h : Bi B br bf bd off cap d most fixed w p held left window ov out) {w1 : World} {v : Value} {x : Nat} (ho : out.length + 1 ≤ most)
    (hown : w1.ownsRow B 5 1 v (out.length + 1) ((out.map fun x : Nat => .int .u8 (x : Int)) ++ [.int .u8 (x : Int)])) (hg : w.grownBy w1 ov.ownBlock) :
    Bi B br bf bd off cap d most fixed (w1.setCell ⟨br, 2, none⟩ v) p held left window v (out ++ [x]) ∧ Kept 5 B [br, bf] w (w1.setCell ⟨br, 2, none⟩ v) := by
  have r := h.rd.put (xs := [x]) ho hown hg
  have k : Kept 5 B [br] w (w1.setCell ⟨br, 2, none⟩ v) := ((Kept.refl 5 B [br] w).grown hg (own_row h.rd.own)).setCell (p := ⟨br, 2, none⟩) (by simp) v
  exact ⟨h.rdKept r k, k.mono (by simp)⟩
theorem Bi.alloc (h : Bi B br bf bd off cap d most fixed w p held left window ov out) (o : Obj) : Bi B br bf bd off cap d most fixed (w.alloc o) p held left window ov out := ⟨h.rd.alloc o, h.hbf, blk_alloc _ h.blk, h.hh, h.hl⟩
theorem Bi.putOne' (h : Bi B br bf bd off cap d most fixed w p held left window ov out) {w1 : World} {v : Value} {x : Nat} (ho : out.length + 1 ≤ most)
    (hown : w1.ownsRow B 5 1 v (out.length + 1) ((out.map fun x : Nat => .int .u8 (x : Int)) ++ [.int .u8 (x : Int)])) (hg : w.grownBy w1 ov.ownBlock) :
    Bi B br bf bd off cap d most fixed (w1.setCell ⟨br, 2, none⟩ v) p held left window v (out ++ [x]) ∧ Kept 5 B [br, bf] w (w1.setCell ⟨br, 2, none⟩ v) ∧ w1.cell? ⟨br, 2, none⟩ = some ov ∧ w1.frozen? ⟨br, 2, none⟩ = false ∧ ∃ ao c, v = .slice ao (out.length + 1) c := by
  obtain ⟨a, b⟩ := h.putOne ho hown hg
  have hk := h.rd.grown_blk hg
  exact ⟨a, b, by rw [cell_blk hk]; rfl, free_blk hk, own_slice hown⟩
theorem Bi.q0 (h : Bi B br bf bd off cap d most fixed w p held left window ov out) {w1 : World} (hg : w.grownBy w1 ov.ownBlock) : w1.cell? ⟨bf, 0, none⟩ = some (.pointer (some ⟨br, 0, none⟩)) :=
  hg.cell h.c0 (fun c => h.own_ne c.symm)
/-- What the operations of the round read, till append has come up. -/
def Sag (bf br g idx : Nat) (ptr old x : Value) (L : Array Bool) (W : World) : Prop :=
  W.cell? ⟨bf, 0, none⟩ = some ptr ∧ (L.getD 35 false = false → W.cell? ⟨br, 2, none⟩ = some old ∧ W.cell? ⟨g, idx, none⟩ = some x)
theorem Sag.s1 {bf br g idx : Nat} {ptr old x : Value} {L : Array Bool} {W : World} {i : Nat} (hi : i ≠ 35) (h : Sag bf br g idx ptr old x L W) : Sag bf br g idx ptr old x (L.setIfInBounds i true) W :=
  ⟨h.1, fun hl => h.2 (by rwa [getD_set_ne false hi] at hl)⟩
theorem Sag.s2 {bf br g idx : Nat} {ptr old x : Value} {L : Array Bool} {W : World} {i : Nat} (hi : i ≠ 35) (h : Sag bf br g idx ptr old x (L.setIfInBounds i true) W) : Sag bf br g idx ptr old x L W :=
  ⟨h.1, fun hl => h.2 (by rwa [getD_set_ne false hi])⟩
theorem heldF0 {md : Region.Mode} {ops : Array Oper} {bf br g idx : Nat} {ptr old x : Value} {i : Nat} {W : World} (h : Held md ops (Sag bf br g idx ptr old x) i W) : W.cell? ⟨bf, 0, none⟩ = some ptr := by
  obtain ⟨L, _, _, h⟩ := h; exact h.1
theorem heldFacts {md : Region.Mode} {ops : Array Oper} {bf br g idx : Nat} {ptr old x : Value} {i : Nat} {W : World} (h : Held md ops (Sag bf br g idx ptr old x) i W) (hw : waits md ops i 40 35 = true) :
    W.cell? ⟨br, 2, none⟩ = some old ∧ W.cell? ⟨g, idx, none⟩ = some x := by
  obtain ⟨L, hD, hu, h⟩ := h
  refine h.2 ?_
  cases hl : L.getD 35 false with
  | false => rfl
  | true =>
    have := hD.came 40 35 hw hl
    have h3 : L.getD i false = L.getD i true := by
      rcases Nat.lt_or_ge i L.size with h' | h'
      · simp [h']
      · simp [Array.getElem?_eq_none h'] at this
    rw [h3, hu] at this; cases this
theorem gx {w : World} {o : Obj} {a : Addr} {v : Value} (h : w.cell? a = some v) : ((w.alloc o).drewN 1).cell? a = some v := by
  show (w.alloc o).cell? a = _
  rw [World.cell?_alloc_lt _ _ _ (World.block_lt_of_cell? w a h)]; exact h
theorem oneNew {w : World} {x : Value} {t : TypeId} : ∀ j u, [x][j]? = some u → (w.alloc (.cells #[x] t)).drew.cell? ((⟨w.heap.size, 0, none⟩ : Addr).add j) = some u := by
  intro j u hu
  match j, hu with
  | 0, hu =>
    show (w.alloc _).cell? ⟨w.heap.size, 0 + 0, none⟩ = _
    rw [World.cell?_alloc_new]; exact hu
  | j + 1, hu => simp at hu
set_option maxRecDepth 100000 in
set_option maxHeartbeats 2000000 in
theorem again_ok (h : Bi B br bf bd off cap d most fixed w p held left window ov out) (len dist : Nat) (h1 : 1 ≤ dist) (h2 : dist ≤ out.length) (h3 : dist ≤ window) (h4 : out.length + len ≤ most) (h5 : window ≤ 32768) :
    Calls Tryz.prog 315 #[.pointer (some ⟨bf, 0, none⟩), .int .i64 len, .int .i64 dist] w fun e w' => e = .returned (.tuple #[]) ∧ ∃ ov', Bi B br bf bd off cap d most fixed w' p held left window ov' (Fo.copy dist len out) ∧ Kept 5 B [br, bf] w w' := by
  obtain ⟨i0, hi, hz0, hz1, hz2⟩ := info_parts Tryz.infoByte
  have c0 := h.c0
  have c3 := h.c3
  have r2 := h.rd.c2
  have lm := h.rd.lm
  have hsl := own_slice h.rd.own
  obtain ⟨ao, oc, hov⟩ := hsl
  have HOV := hide hov
  rw [hov] at r2
  clear hov
  rcases Nat.lt_or_ge window out.length with hm | hm
  all_goals
    go_enter Tryz.func315, Tryz.ntmps315
    go_wp2_with fail
    go_quiet ((first | (go_at_call 63; exact Calls.quiet_of_same (within_int_yes _ _ _ _ (by omega) (by omega))) | (go_at_call 163; exact Calls.quiet_of_same (must_yes _))))
    go_wp2_with fail
    refine (room_ok (h.rd.drewN _) len h4).mono ?_
    rintro e w' ⟨rfl, q, rfl⟩
    rw [← HOV.out] at r2
    clear hm
    go_wp2_with fail
    go_loopw [31] (fun i wr => ∃ (k : Nat) (ov' : Value), k ≤ len ∧ i = .int .i64 k ∧ Bi B br bf bd off cap d most fixed wr p held left window ov' (Fo.copy dist k out) ∧ Kept 5 B [br, bf] w wr) (fun i _ => len - (intOf i).toNat)
    case atStart => exact ⟨0, ov, Nat.zero_le _, rfl, by simpa [Fo.copy] using (h.drewN _), by simpa using (Kept.refl _ _ _ _).drewN _⟩
    case round =>
      clear r2 c0 c3
      obtain ⟨k, ov', hk, rfl, hb, kk⟩ := hrel
      have hcl := Fo.copy_length dist k out
      by_cases hlt : k < len
      · have d0 := hb.c0
        have s2 := hb.rd.c2
        have sf := hb.rd.fz 2
        have hsz := hb.rd.sz
        obtain ⟨g, oc', hov'⟩ : ∃ g c, ov' = .slice (some ⟨g, 0, none⟩) (Fo.copy dist k out).length c := by
          rcases hb.rd.own.2 with ⟨_, e2⟩ | ⟨g, c, cur, e1, _⟩
          · omega
          · exact ⟨g, c, e1⟩
        subst hov'
        have hx := hb.rd.own.cellAt ((Fo.copy dist k out).length - dist) (by omega)
        rw [List.getElem?_map, List.getElem?_eq_getElem (by omega)] at hx
        simp only [Option.map_some] at hx
        have HX : Hid (((Fo.copy dist k out).map fun x : Nat => Value.int .u8 (x : Int))[(Fo.copy dist k out).length - dist]? = some (.int .u8 ((Fo.copy dist k out)[(Fo.copy dist k out).length - dist]'(by omega) : Nat))) := by
          unfold Hid; rw [List.getElem?_map, List.getElem?_eq_getElem (by omega)]; rfl
        have e1 : Fo.copy dist (k + 1) out = Fo.copy dist k out ++ [(Fo.copy dist k out)[(Fo.copy dist k out).length - dist]'(by omega)] := by
          rw [Fo.copy_succ, List.getD_eq_getElem?_getD, List.getElem?_eq_getElem (by omega)]; rfl
        have E1 := hide e1
        clear e1
        generalize hX : (Fo.copy dist k out)[(Fo.copy dist k out).length - dist]'(by omega) = X at *
        clear hX
        generalize hO : Fo.copy dist k out = O at *
        clear hO
        have HCL := hide hcl
        have hol : dist ≤ O.length := by omega
        have hom : O.length + 1 ≤ most := by omega
        clear hcl
        have hwr : IntKind.i64.wrap ((O.length : Int) - (dist : Int)) = ((O.length - dist : Nat) : Int) := by rw [IntKind.wrap_i64]; omega
        have hw2 : ((O.length - dist : Nat) : Int) < (O.length : Int) := by omega
        have hw3 : (0 : Int) ≤ ((O.length - dist : Nat) : Int) := by omega
        go_wp2_with fail
        have hbb := (hb.alloc (.cells #[.int .u8 (X : Int)] 5)).drewN 1
        refine wp_region_T (Sag bf br g (O.length - dist) (.pointer (some ⟨br, 0, none⟩)) (.slice (some ⟨g, 0, none⟩) O.length oc') (.int .u8 (X : Int))) (by kernel_rfl) ?_
        intro hD
        have hS : Sag bf br g (O.length - dist) (.pointer (some ⟨br, 0, none⟩)) (.slice (some ⟨g, 0, none⟩) O.length oc') (.int .u8 (X : Int)) (Array.replicate 39 false) wr.drew := ⟨d0, fun _ => ⟨s2, hx⟩⟩
        refine wpAnyT_take (i := 0) (v := ?_) rfl (by kernel_rfl) (by kernel_rfl) (by kernel_rfl) (fun _ _ _ h => h) (fun _ _ => Sag.s1 (by decide)) (fun _ _ => Sag.s2 (by decide)) hD (Or.inl ⟨by rfl, ?_⟩) hS ?_
        rotate_left
        · intro W hW; have f0 := heldF0 hW; clear hW; go_simp; try (with_reducible rfl)
        clear hD hS; intro hD hS; (try simp only [Act.put, List.setIfInBounds_toArray, List.set_cons_zero, List.set_cons_succ])
        refine wpAnyT_take (i := 1) (v := ?_) rfl (by kernel_rfl) (by kernel_rfl) (by kernel_rfl) (fun _ _ _ h => h) (fun _ _ => Sag.s1 (by decide)) (fun _ _ => Sag.s2 (by decide)) hD (Or.inl ⟨by rfl, ?_⟩) hS ?_
        rotate_left
        · intro W hW; have f0 := heldF0 hW; clear hW; go_simp; try (with_reducible rfl)
        clear hD hS; intro hD hS; (try simp only [Act.put, List.setIfInBounds_toArray, List.set_cons_zero, List.set_cons_succ])
        refine wpAnyT_take (i := 2) (v := ?_) rfl (by kernel_rfl) (by kernel_rfl) (by kernel_rfl) (fun _ _ _ h => h) (fun _ _ => Sag.s1 (by decide)) (fun _ _ => Sag.s2 (by decide)) hD (Or.inl ⟨by rfl, ?_⟩) hS ?_
        rotate_left
        · intro W hW; have f0 := heldF0 hW; clear hW; go_simp; try (with_reducible rfl)
        clear hD hS; intro hD hS; (try simp only [Act.put, List.setIfInBounds_toArray, List.set_cons_zero, List.set_cons_succ])
        refine wpAnyT_take (i := 3) (v := ?_) rfl (by kernel_rfl) (by kernel_rfl) (by kernel_rfl) (fun _ _ _ h => h) (fun _ _ => Sag.s1 (by decide)) (fun _ _ => Sag.s2 (by decide)) hD (Or.inl ⟨by rfl, ?_⟩) hS ?_
        rotate_left
        · intro W hW; have f0 := heldF0 hW; clear hW; go_simp; try (with_reducible rfl)
        clear hD hS; intro hD hS; (try simp only [Act.put, List.setIfInBounds_toArray, List.set_cons_zero, List.set_cons_succ])
        refine wpAnyT_take (i := 4) (v := ?_) rfl (by kernel_rfl) (by kernel_rfl) (by kernel_rfl) (fun _ _ _ h => h) (fun _ _ => Sag.s1 (by decide)) (fun _ _ => Sag.s2 (by decide)) hD (Or.inl ⟨by rfl, ?_⟩) hS ?_
        rotate_left
        · intro W hW; have f0 := heldF0 hW; clear hW; go_simp; try (with_reducible rfl)
        clear hD hS; intro hD hS; (try simp only [Act.put, List.setIfInBounds_toArray, List.set_cons_zero, List.set_cons_succ])
        refine wpAnyT_take (i := 5) (v := ?_) rfl (by kernel_rfl) (by kernel_rfl) (by kernel_rfl) (fun _ _ _ h => h) (fun _ _ => Sag.s1 (by decide)) (fun _ _ => Sag.s2 (by decide)) hD (Or.inl ⟨by rfl, ?_⟩) hS ?_
        rotate_left
        · intro W hW; have f0 := heldF0 hW; clear hW; go_simp; try (with_reducible rfl)
        clear hD hS; intro hD hS; (try simp only [Act.put, List.setIfInBounds_toArray, List.set_cons_zero, List.set_cons_succ])
        refine wpAnyT_take (i := 6) (v := ?_) rfl (by kernel_rfl) (by kernel_rfl) (by kernel_rfl) (fun _ _ _ h => h) (fun _ _ => Sag.s1 (by decide)) (fun _ _ => Sag.s2 (by decide)) hD (Or.inl ⟨by rfl, ?_⟩) hS ?_
        rotate_left
        · intro W hW; have f0 := heldF0 hW; clear hW; go_simp; try (with_reducible rfl)
        clear hD hS; intro hD hS; (try simp only [Act.put, List.setIfInBounds_toArray, List.set_cons_zero, List.set_cons_succ])
        refine wpAnyT_take (i := 7) (v := ?_) rfl (by kernel_rfl) (by kernel_rfl) (by kernel_rfl) (fun _ _ _ h => h) (fun _ _ => Sag.s1 (by decide)) (fun _ _ => Sag.s2 (by decide)) hD (Or.inl ⟨by rfl, ?_⟩) hS ?_
        rotate_left
        · intro W hW; have f0 := heldF0 hW; clear hW; go_simp; try (with_reducible rfl)
        clear hD hS; intro hD hS; (try simp only [Act.put, List.setIfInBounds_toArray, List.set_cons_zero, List.set_cons_succ])
        refine wpAnyT_take (i := 8) (v := ?_) rfl (by kernel_rfl) (by kernel_rfl) (by kernel_rfl) (fun _ _ _ h => h) (fun _ _ => Sag.s1 (by decide)) (fun _ _ => Sag.s2 (by decide)) hD (Or.inl ⟨by rfl, ?_⟩) hS ?_
        rotate_left
        · intro W hW; have f0 := heldF0 hW; clear hW; go_simp; try (with_reducible rfl)
        clear hD hS; intro hD hS; (try simp only [Act.put, List.setIfInBounds_toArray, List.set_cons_zero, List.set_cons_succ])
        refine wpAnyT_take (i := 9) (v := ?_) rfl (by kernel_rfl) (by kernel_rfl) (by kernel_rfl) (fun _ _ _ h => h) (fun _ _ => Sag.s1 (by decide)) (fun _ _ => Sag.s2 (by decide)) hD (Or.inl ⟨by rfl, ?_⟩) hS ?_
        rotate_left
        · intro W hW; have f0 := heldF0 hW; clear hW; go_simp; try (with_reducible rfl)
        clear hD hS; intro hD hS; (try simp only [Act.put, List.setIfInBounds_toArray, List.set_cons_zero, List.set_cons_succ])
        refine wpAnyT_take (i := 10) (v := ?_) rfl (by kernel_rfl) (by kernel_rfl) (by kernel_rfl) (fun _ _ _ h => h) (fun _ _ => Sag.s1 (by decide)) (fun _ _ => Sag.s2 (by decide)) hD (Or.inl ⟨by rfl, ?_⟩) hS ?_
        rotate_left
        · intro W hW; have f0 := heldF0 hW; clear hW; go_simp; try (with_reducible rfl)
        clear hD hS; intro hD hS; (try simp only [Act.put, List.setIfInBounds_toArray, List.set_cons_zero, List.set_cons_succ])
        refine wpAnyT_take (i := 11) (v := ?_) rfl (by kernel_rfl) (by kernel_rfl) (by kernel_rfl) (fun _ _ _ h => h) (fun _ _ => Sag.s1 (by decide)) (fun _ _ => Sag.s2 (by decide)) hD (Or.inl ⟨by rfl, ?_⟩) hS ?_
        rotate_left
        · intro W hW; have f0 := heldF0 hW; clear hW; go_simp; try (with_reducible rfl)
        clear hD hS; intro hD hS; (try simp only [Act.put, List.setIfInBounds_toArray, List.set_cons_zero, List.set_cons_succ])
        refine wpAnyT_take (i := 12) (v := ?_) rfl (by kernel_rfl) (by kernel_rfl) (by kernel_rfl) (fun _ _ _ h => h) (fun _ _ => Sag.s1 (by decide)) (fun _ _ => Sag.s2 (by decide)) hD (Or.inl ⟨by rfl, ?_⟩) hS ?_
        rotate_left
        · intro W hW; have f0 := heldF0 hW; have f1 := heldFacts hW (by kernel_rfl); obtain ⟨f2, f3⟩ := f1; clear hW; go_simp; try (with_reducible rfl)
        clear hD hS; intro hD hS; (try simp only [Act.put, List.setIfInBounds_toArray, List.set_cons_zero, List.set_cons_succ])
        refine wpAnyT_take (i := 13) (v := ?_) rfl (by kernel_rfl) (by kernel_rfl) (by kernel_rfl) (fun _ _ _ h => h) (fun _ _ => Sag.s1 (by decide)) (fun _ _ => Sag.s2 (by decide)) hD (Or.inl ⟨by rfl, ?_⟩) hS ?_
        rotate_left
        · intro W hW; have f0 := heldF0 hW; clear hW; go_simp; try (with_reducible rfl)
        clear hD hS; intro hD hS; (try simp only [Act.put, List.setIfInBounds_toArray, List.set_cons_zero, List.set_cons_succ])
        refine wpAnyT_take (i := 14) (v := ?_) rfl (by kernel_rfl) (by kernel_rfl) (by kernel_rfl) (fun _ _ _ h => h) (fun _ _ => Sag.s1 (by decide)) (fun _ _ => Sag.s2 (by decide)) hD (Or.inl ⟨by rfl, ?_⟩) hS ?_
        rotate_left
        · intro W hW; have f0 := heldF0 hW; clear hW; go_simp; try (with_reducible rfl)
        clear hD hS; intro hD hS; (try simp only [Act.put, List.setIfInBounds_toArray, List.set_cons_zero, List.set_cons_succ])
        refine wpAnyT_take (i := 15) (v := ?_) rfl (by kernel_rfl) (by kernel_rfl) (by kernel_rfl) (fun _ _ _ h => h) (fun _ _ => Sag.s1 (by decide)) (fun _ _ => Sag.s2 (by decide)) hD (Or.inl ⟨by rfl, ?_⟩) hS ?_
        rotate_left
        · intro W hW; have f0 := heldF0 hW; clear hW; go_simp; try (with_reducible rfl)
        clear hD hS; intro hD hS; (try simp only [Act.put, List.setIfInBounds_toArray, List.set_cons_zero, List.set_cons_succ])
        refine wpAnyT_take (i := 16) (v := ?_) rfl (by kernel_rfl) (by kernel_rfl) (by kernel_rfl) (fun _ _ _ h => h) (fun _ _ => Sag.s1 (by decide)) (fun _ _ => Sag.s2 (by decide)) hD (Or.inl ⟨by rfl, ?_⟩) hS ?_
        rotate_left
        · intro W hW; have f0 := heldF0 hW; clear hW; go_simp; try (with_reducible rfl)
        clear hD hS; intro hD hS; (try simp only [Act.put, List.setIfInBounds_toArray, List.set_cons_zero, List.set_cons_succ])
        refine wpAnyT_take (i := 17) (v := ?_) rfl (by kernel_rfl) (by kernel_rfl) (by kernel_rfl) (fun _ _ _ h => h) (fun _ _ => Sag.s1 (by decide)) (fun _ _ => Sag.s2 (by decide)) hD (Or.inl ⟨by rfl, ?_⟩) hS ?_
        rotate_left
        · intro W hW; have f0 := heldF0 hW; clear hW; go_simp; try (with_reducible rfl)
        clear hD hS; intro hD hS; (try simp only [Act.put, List.setIfInBounds_toArray, List.set_cons_zero, List.set_cons_succ])
        refine wpAnyT_take (i := 18) (v := ?_) rfl (by kernel_rfl) (by kernel_rfl) (by kernel_rfl) (fun _ _ _ h => h) (fun _ _ => Sag.s1 (by decide)) (fun _ _ => Sag.s2 (by decide)) hD (Or.inl ⟨by rfl, ?_⟩) hS ?_
        rotate_left
        · intro W hW; have f0 := heldF0 hW; clear hW; go_simp; try (with_reducible rfl)
        clear hD hS; intro hD hS; (try simp only [Act.put, List.setIfInBounds_toArray, List.set_cons_zero, List.set_cons_succ])
        refine wpAnyT_take (i := 19) (v := ?_) rfl (by kernel_rfl) (by kernel_rfl) (by kernel_rfl) (fun _ _ _ h => h) (fun _ _ => Sag.s1 (by decide)) (fun _ _ => Sag.s2 (by decide)) hD (Or.inl ⟨by rfl, ?_⟩) hS ?_
        rotate_left
        · intro W hW; have f0 := heldF0 hW; clear hW; go_simp; try (with_reducible rfl)
        clear hD hS; intro hD hS; (try simp only [Act.put, List.setIfInBounds_toArray, List.set_cons_zero, List.set_cons_succ])
        refine wpAnyT_take (i := 20) (v := ?_) rfl (by kernel_rfl) (by kernel_rfl) (by kernel_rfl) (fun _ _ _ h => h) (fun _ _ => Sag.s1 (by decide)) (fun _ _ => Sag.s2 (by decide)) hD (Or.inl ⟨by rfl, ?_⟩) hS ?_
        rotate_left
        · intro W hW; have f0 := heldF0 hW; have f1 := heldFacts hW (by kernel_rfl); obtain ⟨f2, f3⟩ := f1; clear hW; go_simp; try (with_reducible rfl)
        clear hD hS; intro hD hS; (try simp only [Act.put, List.setIfInBounds_toArray, List.set_cons_zero, List.set_cons_succ])
        refine wpAnyT_take (i := 21) (v := ?_) rfl (by kernel_rfl) (by kernel_rfl) (by kernel_rfl) (fun _ _ _ h => h) (fun _ _ => Sag.s1 (by decide)) (fun _ _ => Sag.s2 (by decide)) hD (Or.inl ⟨by rfl, ?_⟩) hS ?_
        rotate_left
        · intro W hW; have f0 := heldF0 hW; clear hW; go_simp; try (with_reducible rfl)
        clear hD hS; intro hD hS; (try simp only [Act.put, List.setIfInBounds_toArray, List.set_cons_zero, List.set_cons_succ])
        refine wpAnyT_take (i := 22) (v := ?_) rfl (by kernel_rfl) (by kernel_rfl) (by kernel_rfl) (fun _ _ _ h => h) (fun _ _ => Sag.s1 (by decide)) (fun _ _ => Sag.s2 (by decide)) hD (Or.inl ⟨by rfl, ?_⟩) hS ?_
        rotate_left
        · intro W hW; have f0 := heldF0 hW; clear hW; go_simp; try (with_reducible rfl)
        clear hD hS; intro hD hS; (try simp only [Act.put, List.setIfInBounds_toArray, List.set_cons_zero, List.set_cons_succ])
        refine wpAnyT_take (i := 23) (v := ?_) rfl (by kernel_rfl) (by kernel_rfl) (by kernel_rfl) (fun _ _ _ h => h) (fun _ _ => Sag.s1 (by decide)) (fun _ _ => Sag.s2 (by decide)) hD (Or.inl ⟨by rfl, ?_⟩) hS ?_
        rotate_left
        · intro W hW; have f0 := heldF0 hW; clear hW; go_simp; try (with_reducible rfl)
        clear hD hS; intro hD hS; (try simp only [Act.put, List.setIfInBounds_toArray, List.set_cons_zero, List.set_cons_succ])
        refine wpAnyT_take (i := 24) (v := ?_) rfl (by kernel_rfl) (by kernel_rfl) (by kernel_rfl) (fun _ _ _ h => h) (fun _ _ => Sag.s1 (by decide)) (fun _ _ => Sag.s2 (by decide)) hD (Or.inl ⟨by rfl, ?_⟩) hS ?_
        rotate_left
        · intro W hW; have f0 := heldF0 hW; clear hW; go_simp; try (with_reducible rfl)
        clear hD hS; intro hD hS; (try simp only [Act.put, List.setIfInBounds_toArray, List.set_cons_zero, List.set_cons_succ])
        refine wpAnyT_take (i := 25) (v := ?_) rfl (by kernel_rfl) (by kernel_rfl) (by kernel_rfl) (fun _ _ _ h => h) (fun _ _ => Sag.s1 (by decide)) (fun _ _ => Sag.s2 (by decide)) hD (Or.inl ⟨by rfl, ?_⟩) hS ?_
        rotate_left
        · intro W hW; have f0 := heldF0 hW; clear hW; go_simp; try (with_reducible rfl)
        clear hD hS; intro hD hS; (try simp only [Act.put, List.setIfInBounds_toArray, List.set_cons_zero, List.set_cons_succ])
        refine wpAnyT_take (i := 26) (v := ?_) rfl (by kernel_rfl) (by kernel_rfl) (by kernel_rfl) (fun _ _ _ h => h) (fun _ _ => Sag.s1 (by decide)) (fun _ _ => Sag.s2 (by decide)) hD (Or.inl ⟨by rfl, ?_⟩) hS ?_
        rotate_left
        · intro W hW; have f0 := heldF0 hW; clear hW; go_simp; try (with_reducible rfl)
        clear hD hS; intro hD hS; (try simp only [Act.put, List.setIfInBounds_toArray, List.set_cons_zero, List.set_cons_succ])
        refine wpAnyT_take (i := 27) (v := ?_) rfl (by kernel_rfl) (by kernel_rfl) (by kernel_rfl) (fun _ _ _ h => h) (fun _ _ => Sag.s1 (by decide)) (fun _ _ => Sag.s2 (by decide)) hD (Or.inl ⟨by rfl, ?_⟩) hS ?_
        rotate_left
        · intro W hW; have f0 := heldF0 hW; clear hW; go_simp; try (with_reducible rfl)
        clear hD hS; intro hD hS; (try simp only [Act.put, List.setIfInBounds_toArray, List.set_cons_zero, List.set_cons_succ])
        refine wpAnyT_take (i := 28) (v := ?_) rfl (by kernel_rfl) (by kernel_rfl) (by kernel_rfl) (fun _ _ _ h => h) (fun _ _ => Sag.s1 (by decide)) (fun _ _ => Sag.s2 (by decide)) hD (Or.inl ⟨by rfl, ?_⟩) hS ?_
        rotate_left
        · intro W hW; have f0 := heldF0 hW; have f1 := heldFacts hW (by kernel_rfl); obtain ⟨f2, f3⟩ := f1; clear hW; go_simp; try (with_reducible rfl)
        clear hD hS; intro hD hS; (try simp only [Act.put, List.setIfInBounds_toArray, List.set_cons_zero, List.set_cons_succ])
        refine wpAnyT_take (i := 29) (v := ?_) rfl (by kernel_rfl) (by kernel_rfl) (by kernel_rfl) (fun _ _ _ h => h) (fun _ _ => Sag.s1 (by decide)) (fun _ _ => Sag.s2 (by decide)) hD (Or.inl ⟨by rfl, ?_⟩) hS ?_
        rotate_left
        · intro W hW; have f0 := heldF0 hW; clear hW; go_simp; try (with_reducible rfl)
        clear hD hS; intro hD hS; (try simp only [Act.put, List.setIfInBounds_toArray, List.set_cons_zero, List.set_cons_succ])
        refine wpAnyT_take (i := 30) (v := ?_) rfl (by kernel_rfl) (by kernel_rfl) (by kernel_rfl) (fun _ _ _ h => h) (fun _ _ => Sag.s1 (by decide)) (fun _ _ => Sag.s2 (by decide)) hD (Or.inl ⟨by rfl, ?_⟩) hS ?_
        rotate_left
        · intro W hW; have f0 := heldF0 hW; clear hW; go_simp; try (with_reducible rfl)
        clear hD hS; intro hD hS; (try simp only [Act.put, List.setIfInBounds_toArray, List.set_cons_zero, List.set_cons_succ])
        refine wpAnyT_take (i := 31) (v := ?_) rfl (by kernel_rfl) (by kernel_rfl) (by kernel_rfl) (fun _ _ _ h => h) (fun _ _ => Sag.s1 (by decide)) (fun _ _ => Sag.s2 (by decide)) hD (Or.inl ⟨by rfl, ?_⟩) hS ?_
        rotate_left
        · intro W hW; have f0 := heldF0 hW; clear hW; go_simp; try (with_reducible rfl)
        clear hD hS; intro hD hS; (try simp only [Act.put, List.setIfInBounds_toArray, List.set_cons_zero, List.set_cons_succ])
        refine wpAnyT_take (i := 32) (v := ?_) rfl (by kernel_rfl) (by kernel_rfl) (by kernel_rfl) (fun _ _ _ h => h) (fun _ _ => Sag.s1 (by decide)) (fun _ _ => Sag.s2 (by decide)) hD (Or.inl ⟨by rfl, ?_⟩) hS ?_
        rotate_left
        · intro W hW; have f0 := heldF0 hW; clear hW; go_simp; try (with_reducible rfl)
        clear hD hS; intro hD hS; (try simp only [Act.put, List.setIfInBounds_toArray, List.set_cons_zero, List.set_cons_succ])
        refine wpAnyT_take (i := 33) (v := ?_) rfl (by kernel_rfl) (by kernel_rfl) (by kernel_rfl) (fun _ _ _ h => h) (fun _ _ => Sag.s1 (by decide)) (fun _ _ => Sag.s2 (by decide)) hD (Or.inl ⟨by rfl, ?_⟩) hS ?_
        rotate_left
        · intro W hW; have f0 := heldF0 hW; have f1 := heldFacts hW (by kernel_rfl); obtain ⟨f2, f3⟩ := f1; clear hW; go_simp; try (with_reducible rfl)
        clear hD hS; intro hD hS; (try simp only [Act.put, List.setIfInBounds_toArray, List.set_cons_zero, List.set_cons_succ])
        refine wpAnyT_one (i := 34) (by kernel_rfl) rfl hD (fun K' hK => ?_)
        go_simp
        refine hK.out _ _ ⟨hbb.c0, fun _ => ⟨hbb.rd.c2, gx hx⟩⟩ (fun hD2 hS2 => ?_)
        clear hD hS hK K'
        have hD := hD2
        have hS := hS2
        clear hD2 hS2
        refine wpAnyT_one (i := 35) (by kernel_rfl) rfl hD (fun K' hK => ?_)
        refine step_append_keep (by rfl) (.tmp 45) (.tmp 67) 23 (by rfl) B 5 i0 (.int .u8 0) 1 1 Tryz.underlying23 hi hz0 hz1 hz2 rfl (by decide) g O.length oc' _ (by rfl) hbb.rd.own ⟨wr.heap.size, 0, none⟩ 1 1 [.int .u8 (X : Int)] (by rfl) rfl oneNew (by intro u hu; simp at hu; subst hu; rfl) (by unfold maxLen; omega) (by omega) (by simp; omega) ?_
        intro v' w1 hown1 hg1 _
        obtain ⟨R, KK, k2, f2, ao', oc2, hv'⟩ := hbb.putOne' hom hown1 hg1
        have q0 := hbb.q0 hg1
        rw [hv'] at R KK ⊢
        clear hown1 hg1 hv'
        refine hK.out _ _ ⟨q0, fun hl => absurd hl (by simp)⟩ (fun hD2 hS2 => ?_)
        clear hD hS hK K'
        have hD := hD2
        have hS := hS2
        clear hD2 hS2
        (try simp only [Act.put, List.setIfInBounds_toArray, List.set_cons_zero, List.set_cons_succ])
        refine wpAnyT_take (i := 36) (v := ?_) rfl (by kernel_rfl) (by kernel_rfl) (by kernel_rfl) (fun _ _ _ h => h) (fun _ _ => Sag.s1 (by decide)) (fun _ _ => Sag.s2 (by decide)) hD (Or.inl ⟨by rfl, ?_⟩) hS ?_
        rotate_left
        · intro W hW; have f0 := heldF0 hW; clear hW; go_simp; try (with_reducible rfl)
        clear hD hS; intro hD hS; (try simp only [Act.put, List.setIfInBounds_toArray, List.set_cons_zero, List.set_cons_succ])
        refine wpAnyT_take (i := 37) (v := ?_) rfl (by kernel_rfl) (by kernel_rfl) (by kernel_rfl) (fun _ _ _ h => h) (fun _ _ => Sag.s1 (by decide)) (fun _ _ => Sag.s2 (by decide)) hD (Or.inl ⟨by rfl, ?_⟩) hS ?_
        rotate_left
        · intro W hW; have f0 := heldF0 hW; clear hW; go_simp; try (with_reducible rfl)
        clear hD hS; intro hD hS; (try simp only [Act.put, List.setIfInBounds_toArray, List.set_cons_zero, List.set_cons_succ])
        refine wpAnyT_one (i := 38) (by kernel_rfl) rfl hD (fun K' hK => ?_)
        go_simp
        refine hK.out _ _ ⟨R.c0, fun hl => absurd hl (by simp)⟩ (fun _ _ => ?_)
        refine wpAnyT_done (by kernel_rfl) ?_ _
        clear hK K' hD hS k2 f2 q0
        go_wp2
        go_roundw
        case rel => exact ⟨k + 1, _, by omega, by go_num, by rw [E1.out]; exact R, kk.trans ((((Kept.refl _ _ _ _).alloc _).drewN 1).trans KK)⟩
        case measure => simp [intOf]; omega
      · obtain rfl : k = len := by omega
        go_wp2
        go_end0
        exact ⟨rfl, ov', hb, kk⟩
end Go.Proofs.YtgkljcmjnphpeaaGreatDoor
