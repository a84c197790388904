/- Filter 4 read: a block's own codes: all lengths. -/
import Derived.Test.YtgkljcmjnphpeaaGreatDoorK24
set_option linter.unusedVariables false
set_option linter.unusedSimpArgs false
namespace Go.Proofs.YtgkljcmjnphpeaaGreatDoor.Fo
/-- The lengths that a block brings: so many of them, by codes of which so many lengths are told. -/
def lensOf (r : List Bool) (told n : Nat) : Option (List Bool × List Nat) :=
  if r.length < 3 * told then none
  else if fullOf (clens r told) ≠ 32768 then none
  else lensDec (cz (clens r told)) (ssOf (clens r told)) n (r.drop (3 * told)) []
/-- On with the lengths. -/
def lensNext (cs ss : List Nat) (n k : Nat) : Option (List Bool × List Nat) → Option (List Bool × List Nat)
  | none => none
  | some (r', L') => lensGo cs ss n k r' L'
theorem lensGo_next {cs ss : List Nat} {n k : Nat} {r : List Bool} {L : List Nat} (h : L.length < n) : lensGo cs ss n (k + 1) r L = lensNext cs ss n k (lensStep cs ss r L) := by
  rw [lensGo, if_neg (by omega)]
  cases lensStep cs ss r L with
  | none => rfl
  | some x => rfl
theorem ownHead_lens (r : List Bool) : ownHead r = if r.length < 14 then none else if 286 < headA r ∨ 30 < headB r then none else lensOf (r.drop 14) (headC r) (headA r + headB r) := by
  unfold ownHead lensOf
  by_cases c1 : r.length < 14
  · rw [if_pos c1, if_pos c1]
  rw [if_neg c1, if_neg c1]
  by_cases c2 : 286 < headA r ∨ 30 < headB r
  · rw [if_pos c2, if_pos c2]
  rw [if_neg c2, if_neg c2, List.length_drop, List.drop_drop]
  by_cases c3 : r.length < 14 + 3 * headC r
  · have c3' : r.length - 14 < 3 * headC r := by omega
    rw [if_pos c3, if_pos c3']
  · have c3' : ¬ r.length - 14 < 3 * headC r := by omega
    rw [if_neg c3, if_neg c3']
end Go.Proofs.YtgkljcmjnphpeaaGreatDoor.Fo
namespace Go.Proofs.YtgkljcmjnphpeaaGreatDoor
open Go.RowKit
variable {B br bf bd off cap : Nat} {d : List Nat} {most : Nat} {fixed : List Value} {w : World} {p held left window : Nat} {ov : Value} {out : List Nat}
/-- The order in which the lengths of the codes for lengths stand, in memory. -/
def OrdW (w : World) : Prop := ∀ i, i < 19 → w.cell? ⟨1, i, none⟩ = some (.int .i64 (nth Fo.ordl i : Nat))
theorem cell_kept {e : TypeId} {B' : Nat} {S : List Nat} {w' : World} {g i : Nat} {u : Value} (h : w.cell? ⟨g, i, none⟩ = some u) (k : Kept e B' S w w') (hg : g < B') (hS : g ∉ S) : w'.cell? ⟨g, i, none⟩ = some u := by
  obtain ⟨o, ho⟩ : ∃ o, w.heap[g]? = some o := by
    cases h' : w.heap[g]? with
    | some o => exact ⟨o, rfl⟩
    | none => simp [World.cell?, h'] at h
  have ho2 := k.block g o hS ho (Or.inl hg)
  rw [← h]
  simp [World.cell?, ho, ho2]
theorem OrdW.kept {e : TypeId} {B' : Nat} {S : List Nat} {w' : World} (h : OrdW w) (k : Kept e B' S w w') (hg : 1 < B') (hS : 1 ∉ S) : OrdW w' := fun i hi => cell_kept (h i hi) k hg hS
theorem Fl.keptE {e : TypeId} (he : e ≠ 5 ∧ e ≠ 141 ∧ e ≠ 167) {rest : List Bool} {w' : World} {B' : Nat} (h : Fl B br bf bd off cap d most fixed w rest window ov out) (k : Kept e B' [] w w') (hbd : bd < B') : Fl B br bf bd off cap d most fixed w' rest window ov out := by
  obtain ⟨p, held, left, hb, hl, hr⟩ := h
  obtain ⟨⟨r1, r2, r3, r4, r5, r6, r7, r8, r9, r10, r11⟩, h2, h3, h4, h5⟩ := hb
  refine ⟨p, held, left, ⟨⟨r1, r2, k.block br _ (by simp) r3 (Or.inr (by intro c fz e; simp at e; exact absurd e.2.1.symm (by first | exact he.2.1 | omega))), fun i hi => cell_kept (r4 i hi) k hbd (by simp), ?_, r6, r7, r8, r9, r10, r11⟩, h2, k.block bf _ (by simp) h3 (Or.inr (by intro c fz e; simp at e; exact absurd e.2.1.symm (by first | exact he.2.2 | omega))), h4, h5⟩, hl, hr⟩
  obtain ⟨q1, q2⟩ := r5
  refine ⟨q1, ?_⟩
  rcases q2 with q2 | ⟨g, c, cur, e1, e2, hh, hc⟩
  · exact Or.inl q2
  · exact Or.inr ⟨g, c, cur, e1, e2, k.block g _ (by simp) hh (Or.inr (by intro c fz e; simp at e; exact absurd e.2.1.symm (by first | exact he.1 | omega))), hc⟩
theorem kept_setE {e : TypeId} {g j B' : Nat} {c : Array Value} {fz : Nat × Nat} {u : Value} (hg : w.heap[g]? = some (.cells c e fz)) (hB : B' ≤ g) : Kept e B' [] w (w.setCell ⟨g, j, none⟩ u) :=
  ⟨rfl, rfl, rfl, by simp [World.setCell], fun k o _ ho hc => by
    rw [Below.heap_setCell _ _ _ _ (fun e' => by
      have e'' : k = g := e'
      subst e''
      rw [hg] at ho
      rcases hc with hc | hc
      · omega
      · exact hc _ _ (Option.some.inj ho).symm)]
    exact ho⟩
/-- The row of the lengths' lengths. -/
structure Lr (w wr : World) (l : List Nat) : Prop where
  row : wr.heap[w.heap.size]? = some (.cells (ints l).toArray 285 (0, 0))
  len : l.length = 19
theorem Lr.kept {wr w' : World} {l : List Nat} {r : List Bool} (h : Lr w wr l) (f : Fl B br bf bd off cap d most fixed wr r window ov out) (k : Kept 5 B [br, bf] wr w') : Lr w w' l := by
  refine ⟨k.block _ _ ?_ h.row (Or.inr (by intro c fz e; simp at e)), h.len⟩
  obtain ⟨p, held, left, hb, _, _⟩ := f
  intro hg
  have hrow := h.row
  rcases List.mem_cons.1 hg with e | hg
  · rw [e, hb.rd.blk] at hrow; simp at hrow
  · rcases List.mem_cons.1 hg with e | hg
    · rw [e, hb.blk] at hrow; simp at hrow
    · cases hg
theorem Lr.cell {wr : World} {l : List Nat} (h : Lr w wr l) (i : Nat) (hi : i < 19) : wr.cell? ⟨w.heap.size, i, none⟩ = some (.int .i64 (nth l i : Nat)) := by
  rw [cell_blk h.row, List.getElem?_toArray]; exact ints_get _ _ (by rw [h.len]; exact hi)
theorem Lr.set {wr : World} {l : List Nat} (h : Lr w wr l) (i x : Nat) : Lr w (wr.setCell ⟨w.heap.size, i, none⟩ (.int .i64 (x : Nat))) (l.set i x) := by
  refine ⟨?_, by rw [List.length_set]; exact h.len⟩
  rw [blk_setCell _ h.row]
  simp [ints, List.map_set]
theorem ordl_lt : ∀ i : Fin 19, nth Fo.ordl i.val < 19 := by decide +kernel
/-- What the order is read from. -/
def Sor (i O : Nat) (_L : Array Bool) (W : World) : Prop := W.cell? ⟨1, i, none⟩ = some (.int .i64 O)
theorem clens_small (r : List Bool) : ∀ i, ∀ x ∈ Fo.clens r i, x < 16
  | 0, x, hx => by
    have := List.eq_of_mem_replicate hx
    omega
  | i + 1, x, hx => by
    rw [Fo.clens] at hx
    rcases List.mem_or_eq_of_mem_set hx with h | h
    · exact clens_small r i x h
    · rw [h]
      have hv := Fo.val_lt ((r.drop (3 * i)).take 3)
      have hl : ((r.drop (3 * i)).take 3).length ≤ 3 := by rw [List.length_take]; omega
      have h8 : 2 ^ ((r.drop (3 * i)).take 3).length ≤ 2 ^ 3 := Nat.pow_le_pow_right (by omega) hl
      have e8 : (2 : Nat) ^ 3 = 8 := by decide
      omega
theorem nthLt {l : List Nat} {K : Nat} (h : ∀ x ∈ l, x < K) (i : Nat) (hi : i < l.length) : nth l i < K := by
  have : nth l i = l[i] := by simp [nth, List.getElem?_eq_getElem hi]
  rw [this]; exact h _ (List.getElem_mem hi)
theorem ss_len {l : List Nat} (hl : ∀ i, i < l.length → nth l i < 16) : (Fo.ssOf l).length = (cz l).sum := (fillTo_inv l hl l.length (Nat.le_refl _)).2.1
theorem cz_le (l : List Nat) (i : Nat) (hi : i < 16) : nth (cz l) i ≤ l.length := by
  rcases Nat.eq_zero_or_pos i with rfl | h0
  · rw [nth_cz0]; omega
  · rw [nth_cz l i h0 hi]; exact List.count_le_length
theorem psum_pre (c : List Nat) (h0 : nth c 0 = 0) : ∀ k, k + 1 ≤ c.length → psum c k = pre c (k + 1)
  | 0, h => by rw [pre_succ c 0 (by omega), h0]; simp [psum, pre]
  | k + 1, h => by rw [psum, psum_pre c h0 k (by omega), pre_succ c (k + 1) (by omega)]
theorem psum_cz (l : List Nat) : psum (cz l) 15 = (cz l).sum := by
  rw [psum_pre _ (nth_cz0 l) 15 (by rw [cz_length]; omega), pre_all _ (cz_length l)]
theorem full_cz (l : List Nat) : Fo.kr (fun j => nth (cz l) j) 15 = Fo.fullOf l :=
  Fo.kr_congr _ _ 15 (fun k h1 h2 => nth_cz l k (by omega) (by omega))
theorem lensStep_len {cs ss : List Nat} {r r' : List Bool} {L L' : List Nat} (h : Fo.lensStep cs ss r L = some (r', L')) : L'.length ≤ L.length + 138 := by
  unfold Fo.lensStep at h
  have hv : ∀ n (r : List Bool), Fo.val (r.take n) < 2 ^ n := fun n r => by
    have hv := Fo.val_lt (r.take n)
    have hl : (r.take n).length ≤ n := by rw [List.length_take]; omega
    exact Nat.lt_of_lt_of_le hv (Nat.pow_le_pow_right (by omega) hl)
  cases hs : Fo.sym cs ss r with
  | none => rw [hs] at h; cases h
  | some x =>
    obtain ⟨s, r1⟩ := x
    rw [hs] at h
    simp only [] at h
    have v2 := hv 2 r1
    have v3 := hv 3 r1
    have v7 := hv 7 r1
    split at h
    · cases h; simp only [List.length_append, List.length_cons, List.length_nil]; omega
    split at h
    · cases h
    split at h
    · split at h
      · cases h; simp; omega
      · cases h
    split at h
    · split at h
      · cases h; simp; omega
      · cases h
    split at h
    · cases h; simp; omega
    · cases h
theorem ssOf_mem (l : List Nat) : ∀ x ∈ Fo.ssOf l, x ≤ l.length - 1 := by
  have : ∀ k, ∀ x ∈ (fillTo l k).2, x ≤ k - 1 := by
    intro k
    induction k with
    | zero =>
      intro x hx
      simp only [fillTo] at hx
      have := List.eq_of_mem_replicate hx
      omega
    | succ k ih =>
      intro x hx
      simp only [fillTo] at hx
      split at hx
      · have := ih x hx; omega
      · rcases List.mem_or_eq_of_mem_set hx with h | h
        · have := ih x h; omega
        · omega
  intro x hx
  unfold Fo.ssOf at hx
  exact this l.length x hx
theorem Kept.lower {e : TypeId} {B' B'' : Nat} {S : List Nat} {a b : World} (k : Kept e B' S a b) (h : B'' ≤ B') : Kept e B'' S a b :=
  ⟨k.os, k.tape, k.output, k.size, fun i o hi ho hc => k.block i o hi ho (hc.imp (fun h' => by omega) id)⟩
/-- Codes in a block of their own. -/
structure Cw (wr : World) (bc g B' : Nat) (l : List Nat) : Prop where
  row : wr.heap[bc]? = some (.cells (ints (cz l) ++ [Value.slice (some ⟨g, 0, none⟩) (cz l).sum (cz l).sum]).toArray 162 (0, 0))
  sy : IntRow wr g (Fo.ssOf l)
  lt : g < B'
theorem Cw.cd {wr : World} {bc g B' : Nat} {l : List Nat} (h : Cw wr bc g B' l) (hl : ∀ i, i < l.length → nth l i < 16) : Cd wr bc 0 (cz l) (Fo.ssOf l) := by
  have li : (ints (cz l)).length = 16 := by simp [ints, cz_length]
  refine ⟨fun i hi => ?_, g, (cz l).sum, ?_, h.sy.cell⟩
  · rw [cell_blk h.row, Nat.zero_add, List.getElem?_toArray, List.getElem?_append_left (by omega)]
    exact ints_get _ _ (by rw [cz_length]; exact hi)
  · rw [cell_blk h.row, List.getElem?_toArray, List.getElem?_append_right (by omega), li, ss_len hl]
    rfl
theorem Cw.keptF {wr w' : World} {bc g B' : Nat} {l : List Nat} {r : List Bool} (h : Cw wr bc g B' l) (f : Fl B br bf bd off cap d most fixed wr r window ov out) (k : Kept 5 B [br, bf] wr w') : Cw w' bc g B' l := by
  have hne : ∀ x c t fz, wr.heap[x]? = some (.cells c t fz) → t ≠ 141 → t ≠ 167 → x ∉ [br, bf] := fun x c t fz hx t1 t2 hm => by
    obtain ⟨p, held, left, hb, _, _⟩ := f
    rcases List.mem_cons.1 hm with rfl | hm
    · rw [hb.rd.blk] at hx; exact t1 (by injection hx with h1; injection h1 with _ h2 _; exact h2.symm)
    · rcases List.mem_cons.1 hm with rfl | hm
      · rw [hb.blk] at hx; exact t2 (by injection hx with h1; injection h1 with _ h2 _; exact h2.symm)
      · cases hm
  refine ⟨k.block _ _ (hne _ _ _ _ h.row (by decide) (by decide)) h.row (Or.inr (by intro c fz e; simp at e)), ?_, h.lt⟩
  obtain ⟨c, fz, hb, hc⟩ := h.sy
  exact ⟨c, fz, k.block g _ (hne _ _ _ _ hb (by decide) (by decide)) hb (Or.inr (by intro c' fz' e; simp at e)), hc⟩
theorem Cw.keptI {wr w' : World} {bc g B' : Nat} {l : List Nat} (h : Cw wr bc g B' l) (k : Kept 3 B' [] wr w') : Cw w' bc g B' l := by
  refine ⟨k.block _ _ (by simp) h.row (Or.inr (by intro c fz e; simp at e)), ?_, h.lt⟩
  obtain ⟨c, fz, hb, hc⟩ := h.sy
  exact ⟨c, fz, k.block g _ (by simp) hb (Or.inl h.lt), hc⟩
/-- What has come of the lengths. -/
def LnRes (B br bf bd off cap : Nat) (d : List Nat) (most : Nat) (fixed : List Value) (window : Nat) (ov : Value) (out : List Nat) (w : World) (res : Option (List Bool × List Nat)) (e : Ending) (w' : World) : Prop := match res with
  | some (r', L) => ∃ v, e = .returned v ∧ w'.ownsRow w.heap.size 3 1 v L.length (ints L) ∧ Fl B br bf bd off cap d most fixed w' r' window ov out ∧ Kept 5 B [br, bf] w w'
  | none => e = gaveUp 5 ∧ Kept 5 B [br, bf] w w'
set_option maxRecDepth 100000 in
set_option maxHeartbeats 2000000 in
theorem lengths_any {r : List Bool} (h : Fl B br bf bd off cap d most fixed w r window ov out) (hord : OrdW w) (hG : 1 < B) (told n : Nat) (ht : told ≤ 19) (hn : n ≤ 320) {res : Option (List Bool × List Nat)} (hres : Fo.lensOf r told n = res) :
    Calls Tryz.prog 279 #[.pointer (some ⟨bf, 0, none⟩), .int .i64 told, .int .i64 n] w (LnRes B br bf bd off cap d most fixed window ov out w res) := by
  have HRES := hide hres
  have hlt := h.lt
  have hGS : 1 ∉ [br, bf] := by simp; omega
  have hbdw : bd < w.heap.size := by obtain ⟨p, held, left, hb, _, _⟩ := h; have := hb.rd.hB; omega
  have F0 := hide (h.alloc (.cells (ints (List.replicate 19 0)).toArray 285 (0, 0)))
  have L0 : Hid (Lr w (w.alloc (.cells (ints (List.replicate 19 0)).toArray 285 (0, 0))) (List.replicate 19 0)) := ⟨blk_new _ _, by simp⟩
  have O0 := hide (hord.kept (((Kept.refl 5 B [br, bf] w)).alloc (.cells (ints (List.replicate 19 0)).toArray 285 (0, 0))) hG hGS)
  have K0 := hide ((Kept.refl 5 B [br, bf] w).alloc (.cells (ints (List.replicate 19 0)).toArray 285 (0, 0)))
  have eZ : Obj.cells (ints (List.replicate 19 0)).toArray 285 (0, 0) = .cells #[.int .i64 0, .int .i64 0, .int .i64 0, .int .i64 0, .int .i64 0, .int .i64 0, .int .i64 0, .int .i64 0, .int .i64 0, .int .i64 0, .int .i64 0, .int .i64 0, .int .i64 0, .int .i64 0, .int .i64 0, .int .i64 0, .int .i64 0, .int .i64 0, .int .i64 0] 285 (0, 0) := rfl
  rw [eZ] at F0 L0 O0 K0
  clear hres h hord eZ
  go_enter Tryz.func279, Tryz.ntmps279
  go_wp2
  go_loopw [8, 12] (fun _ vi wr => ∃ (i : Nat) (l : List Nat), vi = .int .i64 i ∧ i ≤ told ∧ 3 * i ≤ r.length ∧ Fl B br bf bd off cap d most fixed wr (r.drop (3 * i)) window ov out ∧ Lr w wr l ∧ OrdW wr ∧ Hid (l = Fo.clens r i) ∧ Kept 5 B [br, bf] w wr) (fun _ vi _ => told - (intOf vi).toNat)
  case atStart => exact ⟨0, _, rfl, Nat.zero_le _, Nat.zero_le _, F0.out, L0.out, O0.out, rfl, K0.out⟩
  clear F0 L0 O0 K0
  case round =>
    obtain ⟨i, l, rfl, hit, h3, f, lr, ow, HLC, kk⟩ := hrel
    by_cases ci : i < told
    · have ci' : (i : Int) < told := by omega
      have hx := ow i (by omega)
      have hOl := ordl_lt ⟨i, by omega⟩
      simp only [] at hOl
      have HSET : Hid (∀ v, v = Fo.val (((r.drop (3 * i))).take 3) → l.set (nth Fo.ordl i) v = Fo.clens r (i + 1)) := fun v hv => by
        rw [HLC.out, Fo.clens, hv]
      have HOX : Hid (∀ w', OrdW w' → w'.cell? ⟨1, i, none⟩ = some (.int .i64 (nth Fo.ordl i : Nat))) := fun w' o => o i (by omega)
      generalize nth Fo.ordl i = O at *
      have i19 : (i : Int) < 19 := by omega
      have O19 : (O : Int) < 19 := by omega
      by_cases cb : 3 * (i + 1) ≤ r.length
      · have HB := hide (bits_ok (w := wr.drew) 3 (by omega) (show 3 ≤ (r.drop (3 * i)).length by rw [List.length_drop]; omega) f.drew)
        rw [List.drop_drop, show 3 * i + 3 = 3 * (i + 1) by omega] at HB
        obtain ⟨v, hv⟩ : ∃ v, Fo.val ((r.drop (3 * i)).take 3) = v := ⟨_, rfl⟩
        rw [hv] at HB HSET
        have HS := hide (HSET.out v rfl)
        have HKW : Hid (∀ w6, Kept 5 B [br, bf] wr.drew w6 → Lr w w6 l ∧ OrdW w6) := fun w6 k6 => ⟨Lr.kept (wr := wr.drew) ⟨lr.row, lr.len⟩ f.drew k6, OrdW.kept (w := wr.drew) ow k6 hG hGS⟩
        have KK := hide kk
        clear hv HSET f lr ow kk HLC
        go_wp2_with fail
        go_region_with (go_at_call 221; refine HB.out.mono ?_; rintro e w6 ⟨rfl, f6, k6⟩; have lr6 := (HKW.out w6 k6).1; have ow6 := (HKW.out w6 k6).2; have hx6 := HOX.out w6 ow6; have hc6 := lr6.cell O hOl; have z6 : w6.frozen? ⟨w.heap.size, O, none⟩ = false := free_blk lr6.row)
        all_goals have KI : Hid (Kept 285 w.heap.size [] w6 (w6.setCell ⟨w.heap.size, O, none⟩ (.int .i64 (v : Nat)))) := kept_setE lr6.row (Nat.le_refl _)
        all_goals go_wp2
        all_goals go_roundw
        all_goals first | exact ⟨i + 1, l.set O v, by go_num, by omega, cb, f6.keptE (by decide) KI.out hbdw, lr6.set O v, ow6.kept KI.out (by omega) (by simp), HS, Kept.new ((KK.out.drew).trans k6) KI.out⟩ | (simp [intOf]; omega)
      · have HB := hide (bits_none (w := wr.drew) 3 (by omega) (show (r.drop (3 * i)).length < 3 by rw [List.length_drop]; omega) f.drew)
        have HE : Hid (res = none) := by
          unfold Hid
          rw [← HRES.out, Fo.lensOf, if_pos (by omega)]
        have KK := hide kk
        clear f lr kk HLC HSET
        have hE := HE.out
        subst hE
        go_wp2_with fail
        refine wp_region_T (Sor i O) (by kernel_rfl) ?_
        intro hD
        have hS : Sor i O (Array.replicate 9 false) wr.drew := hx
        refine wpAnyT_take (i := 0) (v := ?_) rfl (by kernel_rfl) (by kernel_rfl) (by kernel_rfl) (fun _ _ _ h => h) (fun _ _ h => h) (fun _ _ h => h) hD (Or.inl ⟨by rfl, ?_⟩) hS ?_
        rotate_left
        · intro W hW; obtain ⟨_, _, _, f0⟩ := hW; unfold Sor at f0; go_simp; try (with_reducible rfl)
        clear hD hS; intro hD hS; (try simp only [Act.put, List.setIfInBounds_toArray, List.set_cons_zero, List.set_cons_succ])
        refine wpAnyT_take (i := 1) (v := ?_) rfl (by kernel_rfl) (by kernel_rfl) (by kernel_rfl) (fun _ _ _ h => h) (fun _ _ h => h) (fun _ _ h => h) hD (Or.inl ⟨by rfl, ?_⟩) hS ?_
        rotate_left
        · intro W hW; obtain ⟨_, _, _, f0⟩ := hW; unfold Sor at f0; go_simp; try (with_reducible rfl)
        clear hD hS; intro hD hS; (try simp only [Act.put, List.setIfInBounds_toArray, List.set_cons_zero, List.set_cons_succ])
        refine wpAnyT_take (i := 2) (v := ?_) rfl (by kernel_rfl) (by kernel_rfl) (by kernel_rfl) (fun _ _ _ h => h) (fun _ _ h => h) (fun _ _ h => h) hD (Or.inl ⟨by rfl, ?_⟩) hS ?_
        rotate_left
        · intro W hW; obtain ⟨_, _, _, f0⟩ := hW; unfold Sor at f0; go_simp; try (with_reducible rfl)
        clear hD hS; intro hD hS; (try simp only [Act.put, List.setIfInBounds_toArray, List.set_cons_zero, List.set_cons_succ])
        refine wpAnyT_take (i := 3) (v := ?_) rfl (by kernel_rfl) (by kernel_rfl) (by kernel_rfl) (fun _ _ _ h => h) (fun _ _ h => h) (fun _ _ h => h) hD (Or.inl ⟨by rfl, ?_⟩) hS ?_
        rotate_left
        · intro W hW; obtain ⟨_, _, _, f0⟩ := hW; unfold Sor at f0; go_simp; try (with_reducible rfl)
        clear hD hS; intro hD hS; (try simp only [Act.put, List.setIfInBounds_toArray, List.set_cons_zero, List.set_cons_succ])
        refine wpAnyT_take (i := 4) (v := ?_) rfl (by kernel_rfl) (by kernel_rfl) (by kernel_rfl) (fun _ _ _ h => h) (fun _ _ h => h) (fun _ _ h => h) hD (Or.inl ⟨by rfl, ?_⟩) hS ?_
        rotate_left
        · intro W hW; obtain ⟨_, _, _, f0⟩ := hW; unfold Sor at f0; go_simp; try (with_reducible rfl)
        clear hD hS; intro hD hS; (try simp only [Act.put, List.setIfInBounds_toArray, List.set_cons_zero, List.set_cons_succ])
        refine wpAnyT_take (i := 5) (v := ?_) rfl (by kernel_rfl) (by kernel_rfl) (by kernel_rfl) (fun _ _ _ h => h) (fun _ _ h => h) (fun _ _ h => h) hD (Or.inl ⟨by rfl, ?_⟩) hS ?_
        rotate_left
        · intro W hW; obtain ⟨_, _, _, f0⟩ := hW; unfold Sor at f0; go_simp; try (with_reducible rfl)
        clear hD hS; intro hD hS; (try simp only [Act.put, List.setIfInBounds_toArray, List.set_cons_zero, List.set_cons_succ])
        refine wpAnyT_one (i := 6) (by kernel_rfl) rfl hD (fun K' hK => ?_)
        go_simp
        refine HB.out.mono ?_
        rintro e w2 ⟨rfl, k2⟩
        exact ⟨rfl, rfl, (KK.out.drew).trans k2⟩
    · obtain rfl : i = told := by omega
      have ci' : ¬ (i : Int) < i := by omega
      have hsm : ∀ j, j < l.length → nth l j < 16 := fun j hj => nthLt (by rw [HLC.out]; exact clens_small r i) j hj
      have HSM := hide hsm
      have HCO := hide (codesOf_ok (w := wr) w.heap.size 0 19 l hsm (by rw [lr.len]; omega) (lt_of_block lr.row) (fun j hj => by rw [Nat.zero_add]; exact lr.cell j (by rw [← lr.len]; exact hj)))
      rw [lr.len] at HCO
      have F := hide f
      have KK := hide kk
      have HLEN := hide lr.len
      have hwr : w.heap.size < wr.heap.size := lt_of_block lr.row
      have HR2 : Hid (res = if Fo.fullOf l ≠ 32768 then none else Fo.lensDec (cz l) (Fo.ssOf l) n (r.drop (3 * i)) []) := by
        unfold Hid
        rw [← HRES.out, Fo.lensOf, if_neg (by omega), ← HLC.out]
      clear hsm f lr ow HLC HRES kk
      go_wp2_with fail
      refine HCO.out.mono ?_
      rintro e w2 ⟨g, rfl, ir, b2, hg2⟩
      have hz17 : (w2.alloc zero17).heap[w2.heap.size]? = some zero17 := blk_new _ _
      have hX17 : (ints (cz l) ++ [Value.slice (some ⟨g, 0, none⟩) (cz l).sum (cz l).sum]).length = 17 := by simp [ints, cz_length]
      have hsz : (ints (cz l) ++ [Value.slice (some ⟨g, 0, none⟩) (cz l).sum (cz l).sum]).toArray.size = 17 := List.size_toArray.trans hX17
      have hone : (ints (cz l) ++ [Value.slice (some ⟨g, 0, none⟩) (cz l).sum (cz l).sum]).toArray.all (·.oneCell') = true := one17 (cz l) _
      have hi17 : Hid ((Tryz.prog.info? 162).map (·.size) = some (ints (cz l) ++ [Value.slice (some ⟨g, 0, none⟩) (cz l).sum (cz l).sum]).toArray.size) := by unfold Hid; rw [hsz]; kernel_rfl
      have ht17 : Hid ((w2.alloc zero17).there w2.heap.size 0 (ints (cz l) ++ [Value.slice (some ⟨g, 0, none⟩) (cz l).sum (cz l).sum]).toArray.size) := by unfold Hid; rw [hsz]; exact there17 hz17
      have hfin : Hid (((w2.alloc zero17).setCells w2.heap.size 0 (ints (cz l) ++ [Value.slice (some ⟨g, 0, none⟩) (cz l).sum (cz l).sum])).heap[w2.heap.size]? = some (.cells (ints (cz l) ++ [Value.slice (some ⟨g, 0, none⟩) (cz l).sum (cz l).sum]).toArray 162 (0, 0))) := setCells_whole hz17 (by rw [hX17]; rfl)
      have ir : IntRow w2 g (Fo.ssOf l) := by unfold Fo.ssOf; rw [HLEN.out]; exact ir
      have hgw2 : g < w2.heap.size := by obtain ⟨c, fz, hb, _⟩ := ir; exact lt_of_block hb
      have hir3 : Hid (IntRow ((w2.alloc zero17).setCells w2.heap.size 0 (ints (cz l) ++ [Value.slice (some ⟨g, 0, none⟩) (cz l).sum (cz l).sum])) g (Fo.ssOf l)) := by
        obtain ⟨c, fz, hb, hc⟩ := ir
        exact ⟨c, fz, by rw [setCells_ne _ (by omega)]; exact blk_alloc _ hb, hc⟩
      have hb3 : Hid (Below wr.heap.size wr ((w2.alloc zero17).setCells w2.heap.size 0 (ints (cz l) ++ [Value.slice (some ⟨g, 0, none⟩) (cz l).sum (cz l).sum]))) := setCells_below _ _ b2.size _ _ _ _ (b2.alloc b2.size _)
      have hs3 : Hid (((w2.alloc zero17).setCells w2.heap.size 0 (ints (cz l) ++ [Value.slice (some ⟨g, 0, none⟩) (cz l).sum (cz l).sum])).heap.size = w2.heap.size + 1) := by unfold Hid; rw [setCells_size]; simp
      clear ir hz17 hX17 hsz
      have hw2 := b2.size
      generalize hXX : ints (cz l) ++ [Value.slice (some ⟨g, 0, none⟩) (cz l).sum (cz l).sum] = X at *
      have HXX := hide hXX
      clear hXX b2
      go_wp2_with (refine wpList_store_mid rfl 162 (.tmp 9) (.tmp 25) rfl w2.heap.size 0 X.toArray rfl rfl ht17.out hi17.out hone ?_)
      generalize hW3 : World.setCells (w2.alloc _) w2.heap.size 0 X = W3
      have e3 : (w2.alloc zero17).setCells w2.heap.size 0 X = W3 := hW3
      rw [e3] at hfin hir3 hb3 hs3
      clear hW3 e3 ht17 hi17 hone
      have hc3 : Cw W3 w2.heap.size g W3.heap.size l := ⟨by rw [HXX.out]; exact hfin.out, hir3.out, by rw [hs3.out]; omega⟩
      have HCW := hide hc3
      have HFI := hide (fill_ok w2.heap.size 0 (cz l) (Fo.ssOf l) (hc3.cd HSM.out) (fun j hj => Nat.le_trans (cz_le l j hj) (by rw [HLEN.out]; omega)))
      rw [full_cz] at HFI
      have K3 := hide (KK.out.trans (Kept.ofBelow' hb3.out))
      have hf3 : Fl B br bf bd off cap d most fixed W3 (r.drop (3 * i)) window ov out := by
        refine F.out.keptE (e := 3) (by decide) (B' := wr.heap.size) ?_ (by omega)
        exact ⟨hb3.out.os, hb3.out.tape, hb3.out.output, hb3.out.size, fun k o _ ho _ => by rw [hb3.out.block k (lt_of_block ho)]; exact ho⟩
      have F3 := hide hf3
      have hWs : w.heap.size ≤ W3.heap.size := by have := hb3.out.size; omega
      have hbW : w2.heap.size < W3.heap.size := by rw [hs3.out]; omega
      clear hf3 hc3 hfin hir3 hb3 hs3 F KK HXX HCO
      obtain ⟨bc, hbc⟩ : ∃ bc, w2.heap.size = bc := ⟨_, rfl⟩
      rw [hbc] at HCW HFI hbW ⊢
      clear hbc
      go_wp2_with fail
      refine HFI.out.mono ?_
      rintro e w4 ⟨rfl, rfl⟩
      by_cases cf : Fo.fullOf l = 32768
      · have hdf : decide (Fo.fullOf l = 32768) = true := by simp [cf]
        have HR3 : Hid (Fo.lensGo (cz l) (Fo.ssOf l) n ((r.drop (3 * i)).length + 1) (r.drop (3 * i)) [] = res) := by
          unfold Hid
          rw [HR2.out, if_neg (fun h => h cf)]; rfl
        rw [hdf]
        clear HR2 cf hdf HFI
        go_wp2_with fail
        refine (must_yes _).mono ?_
        rintro e w5 ⟨rfl, rfl⟩
        obtain ⟨i0, hi, hz0, hz1, hz2⟩ := info_parts Tryz.infoInt
        go_wp2_with (at_make; refine wpList_make_own _ rfl _ _ 52 rfl w5.heap.size 3 i0 (.int .i64 0) 1 Tryz.underlying52 hi hz0 hz1 .i64 .i64 _ n rfl rfl (by omega) (by rw [hz2]; omega) (by unfold maxLen; omega) (Nat.le_refl _) ?_; intro w6 hown6 hg6)
        have B6 : Below w5.heap.size w5 w6 := (Below.refl _ _).grown hg6 (Nat.le_refl _) (fun k h => by cases h)
        have KB6 : Kept 3 w5.heap.size [] w5 w6 := ⟨B6.os, B6.tape, B6.output, B6.size, fun k o _ ho _ => by rw [B6.block k (lt_of_block ho)]; exact ho⟩
        have F6 := hide (F3.out.keptI KB6 (by omega))
        have C6 := hide (HCW.out.keptI KB6)
        have K6 := hide (Kept.new K3.out (Kept.lower KB6 hWs))
        have O6 := hide hown6
        have z6 := B6.size
        obtain ⟨B', hB'⟩ : ∃ B', w5.heap.size = B' := ⟨_, rfl⟩
        rw [hB'] at O6 C6 hWs hbW z6 ⊢
        have R6 := hide HR3.out
        clear hB' B6 KB6 hown6 hg6 F3 HCW K3 HR3
        have hsum : psum (cz l) 15 ≤ (Fo.ssOf l).length := by rw [psum_cz, ss_len HSM.out]; omega
        have hss : (Fo.ssOf l).length ≤ 1000 := by
          rw [ss_len HSM.out]
          have := cz_sum_le l HSM.out
          rw [HLEN.out] at this; omega
        have h18 : ∀ rr s r1, Fo.sym (cz l) (Fo.ssOf l) rr = some (s, r1) → s ≤ 18 := fun rr s r1 hs => sym_mem (K := 18) (fun x hx => by
          have := ssOf_mem l x hx
          rw [HLEN.out] at this; omega) rr s r1 hs
        have HSUM := hide (And.intro hsum (And.intro hss h18))
        clear hsum hss h18
        go_loopw [10] (fun vl wr => ∃ (L : List Nat) (rr : List Bool) (k : Nat), L.length ≤ 500 ∧ wr.ownsRow B' 3 1 vl L.length (ints L) ∧ Fl B br bf bd off cap d most fixed wr rr window ov out ∧ Cw wr bc g B' l ∧ rr.length < k ∧ Hid (Fo.lensGo (cz l) (Fo.ssOf l) n k rr L = res) ∧ B' ≤ wr.heap.size ∧ Kept 5 B [br, bf] w wr) (fun _ wr => bitsOf' br bf d.length wr)
        case atStart => exact ⟨[], r.drop (3 * i), (r.drop (3 * i)).length + 1, by simp, O6.out, F6.out, C6.out, by omega, R6, z6, K6.out⟩
        clear O6 F6 C6 R6 z6 K6
        case round =>
          obtain ⟨L, rr, k, hL, ow, f, cw, hk, HG, zr, kk⟩ := hrel
          have hm := hide f.measure
          obtain ⟨a0, c0, rfl⟩ := own_slice ow
          obtain ⟨k, rfl⟩ : ∃ j, k = j + 1 := ⟨k - 1, by omega⟩
          by_cases cn : L.length < n
          · have cn' : (L.length : Int) < n := by omega
            obtain ⟨st, hst⟩ : ∃ st, Fo.lensStep (cz l) (Fo.ssOf l) rr L = st := ⟨_, rfl⟩
            have HM := hide (more_any (bc := bc) (cs := cz l) (ss := Fo.ssOf l) HSUM.out.1 HSUM.out.2.1 (fun w' r' hf' k' => (cw.keptF f k').cd HSM.out) f ow zr (by omega) (by omega) (fun s r1 hs => HSUM.out.2.2 rr s r1 hs) hst)
            have HG2 : Hid (Fo.lensNext (cz l) (Fo.ssOf l) n k st = res) := by
              unfold Hid
              rw [← HG.out, Fo.lensGo_next (by omega), hst]
            have CW := hide (fun w' (k' : Kept 5 B [br, bf] wr w') => cw.keptF f k')
            have KK := hide kk
            have HST := hide hst
            clear hst HG cw f ow kk
            go_wp2_with fail
            refine HM.out.mono ?_
            intro e w7 hres7
            cases st with
            | none =>
              obtain ⟨rfl, k7⟩ := hres7
              have hE : none = res := HG2.out
              subst hE
              exact ⟨rfl, rfl, KK.out.trans k7⟩
            | some x =>
              obtain ⟨r', L'⟩ := x
              obtain ⟨v', rfl, o7, f7, wm, km, ki⟩ := hres7
              have hsh := Fo.lensStep_shorter HST.out
              have hll := lensStep_len HST.out
              have hm7 := hide f7.measure
              have hz7 : B' ≤ w7.heap.size := Nat.le_trans zr (Nat.le_trans km.size ki.size)
              have C7 := hide ((CW.out wm km).keptI ki)
              have K7 := hide (Kept.new (KK.out.trans km) (Kept.lower ki hWs))
              have HG3 : Hid (Fo.lensGo (cz l) (Fo.ssOf l) n k r' L' = res) := HG2.out
              clear HM HG2 CW KK HST km ki
              go_wp2
              go_roundw
              case rel => exact ⟨L', r', k, by omega, o7, f7, C7.out, by omega, HG3, hz7, K7.out⟩
              case measure => rw [hm.out, hm7.out]; exact hsh
          · have cn' : ¬ (L.length : Int) < n := by omega
            have HG2 : Hid (res = if L.length = n then some (rr, L) else none) := by
              unfold Hid
              rw [← HG.out, Fo.lensGo, if_pos (by omega)]
            clear HG
            by_cases ce : L.length = n
            · have hE := HG2.out
              rw [if_pos ce] at hE
              subst hE
              have ce' : ((L.length : Int) == (n : Int)) = true := by simp; omega
              have OB := hide (own_base ow hWs)
              clear ce
              go_wp2_with fail
              refine (must_yes _).mono ?_
              rintro e w8 ⟨rfl, rfl⟩
              go_wp2
              go_ret
              exact ⟨_, rfl, OB.out, f, kk⟩
            · have hE := HG2.out
              rw [if_neg ce] at hE
              subst hE
              have ce' : ((L.length : Int) == (n : Int)) = false := by simp; omega
              go_wp2_with fail
              refine (must_nob _ rfl _).mono ?_
              rintro e w8 ⟨rfl, rfl⟩
              exact ⟨rfl, rfl, kk⟩
      · have hdf : decide (Fo.fullOf l = 32768) = false := by simp [cf]
        rw [hdf]
        have hE : res = none := by rw [HR2.out, if_pos cf]
        subst hE
        go_wp2_with fail
        refine (must_nob _ rfl _).mono ?_
        rintro e w5 ⟨rfl, rfl⟩
        exact ⟨rfl, rfl, K3.out⟩
end Go.Proofs.YtgkljcmjnphpeaaGreatDoor
