/- The document's answer: filter 4: a code laid into a tree. -/
import Derived.Test.YtgkljcmjnphpeaaGreatDoorK14
import Derived.Test.YtgkljcmjnphpeaaGreatDoorK15
import Derived.Test.YtgkljcmjnphpeaaGreatDoorK05
import Derived.Test.YtgkljcmjnphpeaaGreatDoorK08
set_option linter.unusedVariables false
set_option linter.unusedSimpArgs false
namespace Go.Proofs.YtgkljcmjnphpeaaGreatDoor
open Go.RowKit
variable {B b : Nat} {S : ByteArray} {most : Nat} {w : World} {p : Nat} {ov : Value} {out : List Nat} {e : Nat}
/-- A tree in memory. -/
def TreeIn (w : World) (bt : Nat) (T : List (Int × Int)) : Prop :=
  ∃ g c cur fz fz2, w.heap[bt]? = some (.cells #[.slice (some ⟨g, 0, none⟩) T.length c] 252 fz) ∧ w.heap[g]? = some (.cells cur 249 fz2) ∧ T.length ≤ c ∧ T.length ≤ 100000 ∧ c ≤ 9223372036854775807 ∧
    ∀ i, i < T.length → cur[2 * i]? = some (.int .i64 (Fo.edge T i false)) ∧ cur[2 * i + 1]? = some (.int .i64 (Fo.edge T i true))
theorem TreeIn.kept {bt : Nat} {T : List (Int × Int)} {w' : World} {X : List Nat} (h : TreeIn w bt T) (k : Kept 5 B X w w') (hX : ∀ x ∈ X, ∃ c fz, w.heap[x]? = some (.cells c 106 fz)) : TreeIn w' bt T := by
  obtain ⟨g, c, cur, fz, fz2, h1, h2, h3⟩ := h
  have n1 : bt ∉ X := fun m => by
    obtain ⟨c', fz', e⟩ := hX bt m
    rw [h1] at e; simp at e
  have n2 : g ∉ X := fun m => by
    obtain ⟨c', fz', e⟩ := hX g m
    rw [h2] at e; simp at e
  exact ⟨g, c, cur, fz, fz2, k.block bt _ n1 h1 (Or.inr (by intro c' fz' e; simp at e)), k.block g _ n2 h2 (Or.inr (by intro c' fz' e; simp at e)), h3⟩
theorem RIn.isIn (h : RIn B b S most w p ov out e) : ∀ x ∈ [b], ∃ c fz, w.heap[x]? = some (.cells c 106 fz) := by
  intro x hx
  obtain rfl : x = b := by simpa using hx
  exact ⟨_, _, h.blk⟩
/-- What comes of a code: its symbol and where it ends; else that it is wrong. -/
def SymRes (W : Option (Nat × List Bool)) (S : ByteArray) (M v q e : Nat) : Prop := match W with
  | some (s, r) => v = s ∧ e = 0 ∧ rest4 S q = r ∧ q ≤ 8 * S.size
  | none => e = 5 ∧ v ≤ M
theorem rbit_ok (h : RIn B b S most w p ov out 0) (hlt : p < 8 * S.size) :
    Calls Tryz.prog 112 #[.pointer (some ⟨b, 0, none⟩), .int .i64 1] w fun x w' => x = .returned (.int .i64 (((nth (bl S) (p / 8)).testBit (p % 8)).toNat : Nat)) ∧ RIn B b S most w' (p + 1) ov out 0 ∧ Kept 5 B [b] w w' := by
  have := rbits_ok h 1 (by omega) (by omega)
  rw [rest4_cons S p hlt] at this
  simpa [Fo.val] using this
set_option maxRecDepth 100000 in
set_option maxHeartbeats 1000000 in
theorem rsymbol_ok (h : RIn B b S most w p ov out 0) (hp : p ≤ 8 * S.size) {bt : Nat} {T : List (Int × Int)} {m M : Nat} (hT : TreeIn w bt T) (hG : Fo.GI T m) (hM : ∀ a x, -1 - (M : Int) ≤ Fo.edge T a x) (hMM : M ≤ 1000) :
    Calls Tryz.prog 272 #[.pointer (some ⟨b, 0, none⟩), .pointer (some ⟨bt, 0, none⟩)] w fun x w' => ∃ v q e, x = .returned (.int .i64 (v : Nat)) ∧ RIn B b S most w' q ov out e ∧ SymRes (Fo.walk T 0 (rest4 S p)) S M v q e ∧ Kept 5 B [b] w w' := by
  generalize hR : Fo.walk T 0 (rest4 S p) = R
  have HG := hide hG
  have HM := hide hM
  clear hG hM
  go_enter Tryz.func272, Tryz.ntmps272
  go_wp2
  go_loopw [5] (fun a wr => ∃ k q e : Nat, a = .int .i64 k ∧ k < T.length ∧ RIn B b S most wr q ov out e ∧ q ≤ 8 * S.size ∧ Hid ((e = 0 ∧ Fo.walk T k (rest4 S q) = R) ∨ (e = 5 ∧ R = none)) ∧ TreeIn wr bt T ∧ Kept 5 B [b] w wr) (fun _ wr => if errOf b wr = 0 then 8 * S.size + 1 - posOf b wr else 0)
  case atStart => exact ⟨0, p, 0, rfl, HG.out.pos, h, hp, Or.inl ⟨rfl, hR⟩, hT, Kept.refl _ _ _ _⟩
  clear h hR hp hT
  case round =>
    obtain ⟨k, q, e, rfl, hk, r, hq, HW, hT, kk⟩ := hrel
    have mr := hide r.posOf
    have me := hide r.errOf
    have c4 := r.c4
    rcases HW.out with ⟨rfl, hw⟩ | ⟨rfl, hw⟩
    · obtain ⟨g, c, cur, fz, fz2, t1, t2, t3, t4, t5, t6⟩ := hT
      have HTI : Hid (TreeIn wr bt T) := ⟨g, c, cur, fz, fz2, t1, t2, t3, t4, t5, t6⟩
      have hk' : (k : Int) < T.length := by omega
      by_cases hlt : q < 8 * S.size
      · have HB := hide (rbit_ok r hlt)
        rw [rest4_cons S q hlt] at hw
        have HQ := hide hw
        clear hw HW
        generalize (nth (bl S) (q / 8)).testBit (q % 8) = x at *
        go_wp2_with fail
        refine HB.out.mono ?_
        rintro y w1 ⟨rfl, r1, k1⟩
        have HT1 := hide (HTI.out.kept k1 r.isIn)
        obtain ⟨g', c', cur', fz', fz2', s1, s2, s3, s4, s5, s6⟩ := HT1.out
        have hl0 : w1.cell? ⟨bt, 0, none⟩ = some (.slice (some ⟨g', 0, none⟩) T.length c') := by rw [cell_blk s1]; rfl
        have hcell : w1.cell? ⟨g', k * 2 + x.toNat, none⟩ = some (.int .i64 (Fo.edge T k x)) := by
          rw [cell_blk s2, Nat.mul_comm]
          cases x
          · exact (s6 k hk).1
          · exact (s6 k hk).2
        have hlo := HM.out k x
        have hhi := HG.out.lt k x hk
        have R1 := hide r1
        have K1 := hide (kk.trans k1)
        have hx1 : x.toNat ≤ 1 := by cases x <;> decide
        have hwk := HQ.out
        simp only [Fo.walk] at hwk
        clear r1 k1 kk s1 s2 s6 HB
        generalize hE : Fo.edge T k x = E at *
        by_cases c1 : E < 0
        · rw [if_pos c1] at hwk
          have HWK := hide hwk
          have hv : ((-1 : Int) - E).toNat ≤ M := by omega
          clear hwk
          go_wp2
          go_ret
          refine ⟨(-1 - E).toNat, q + 1, 0, ret_int (by omega), R1.out, ?_, K1.out⟩
          rw [← HWK.out]
          exact ⟨rfl, rfl, rfl, by omega⟩
        · rw [if_neg c1] at hwk
          by_cases c2 : E = 0
          · rw [if_pos c2] at hwk
            subst c2
            have HWK := hide hwk
            clear hwk
            go_wp2_with fail
            refine (rno_ok R1.out 5 (by omega)).mono ?_
            rintro y w2 ⟨rfl, r2, k2⟩
            rw [rno_zero] at r2
            have m2 := hide r2.errOf
            have HT2 := hide (HT1.out.kept k2 R1.out.isIn)
            go_wp2
            go_roundw
            case rel => exact ⟨0, q + 1, 5, rfl, HG.out.pos, r2, by omega, Or.inr ⟨rfl, HWK.out.symm⟩, HT2.out, K1.out.trans k2⟩
            case measure => rw [mr.out, me.out, m2.out]; simp; omega
          · rw [if_neg c2] at hwk
            have HWK := hide hwk
            have c2' : (E == 0) = false := by simp; exact c2
            have m2 := hide R1.out.errOf
            have m3 := hide R1.out.posOf
            clear hwk
            go_wp2
            go_roundw
            case rel => exact ⟨E.toNat, q + 1, 0, by go_num, by omega, R1.out, by omega, Or.inl ⟨rfl, HWK.out⟩, HT1.out, K1.out⟩
            case measure => rw [mr.out, me.out, m2.out, m3.out]; simp; omega
      · have HB := hide (rbits_short r 1 (by omega) (by omega))
        have hnil : rest4 S q = [] := List.eq_nil_of_length_eq_zero (by rw [rest4_len]; omega)
        rw [hnil] at hw
        have HQ : Hid (R = none) := by
          have h0 : Fo.walk T k [] = none := by simp [Fo.walk]
          rw [h0] at hw; exact hw.symm
        clear hw HW hnil
        go_wp2_with fail
        refine HB.out.mono ?_
        rintro y w1 ⟨rfl, r1, k1⟩
        have HT1 := hide (HTI.out.kept k1 r.isIn)
        obtain ⟨g', c', cur', fz', fz2', s1, s2, s3, s4, s5, s6⟩ := HT1.out
        have hl0 : w1.cell? ⟨bt, 0, none⟩ = some (.slice (some ⟨g', 0, none⟩) T.length c') := by rw [cell_blk s1]; rfl
        have hcell : w1.cell? ⟨g', k * 2, none⟩ = some (.int .i64 (Fo.edge T k false)) := by
          rw [cell_blk s2, Nat.mul_comm]
          exact (s6 k hk).1
        have hlo := HM.out k false
        have hhi := HG.out.lt k false hk
        have R1 := hide r1
        have K1 := hide (kk.trans k1)
        clear r1 k1 kk s1 s2 s6 HB
        generalize hE : Fo.edge T k false = E at *
        by_cases c1 : E < 0
        · have hv : ((-1 : Int) - E).toNat ≤ M := by omega
          go_wp2
          go_ret
          refine ⟨(-1 - E).toNat, q, 5, ret_int (by omega), R1.out, ?_, K1.out⟩
          rw [HQ.out]
          exact ⟨rfl, hv⟩
        · by_cases c2 : E = 0
          · subst c2
            go_wp2_with fail
            refine (rno_ok R1.out 5 (by omega)).mono ?_
            rintro y w2 ⟨rfl, r2, k2⟩
            rw [rno_err (by omega)] at r2
            have m2 := hide r2.errOf
            have HT2 := hide (HT1.out.kept k2 R1.out.isIn)
            go_wp2
            go_roundw
            case rel => exact ⟨0, q, 5, rfl, HG.out.pos, r2, by omega, Or.inr ⟨rfl, HQ.out⟩, HT2.out, K1.out.trans k2⟩
            case measure => rw [mr.out, me.out, m2.out]; simp; omega
          · have c2' : (E == 0) = false := by simp; exact c2
            have m2 := hide R1.out.errOf
            go_wp2
            go_roundw
            case rel => exact ⟨E.toNat, q, 5, by go_num, by omega, R1.out, by omega, Or.inr ⟨rfl, HQ.out⟩, HT1.out, K1.out⟩
            case measure => rw [mr.out, me.out, m2.out]; simp; omega
    · have he' : ((5 : Int) == 0) = false := by decide
      have hw' := hide hw
      clear hw HW
      go_wp2
      go_ret
      exact ⟨0, q, 5, rfl, r, by rw [hw'.out]; exact ⟨rfl, Nat.zero_le _⟩, kk⟩
end Go.Proofs.YtgkljcmjnphpeaaGreatDoor
namespace Go.Proofs.YtgkljcmjnphpeaaGreatDoor.Fo
/-- A code may be laid into a tree from a node on. -/
def SetPre (T : List (Int × Int)) (a : Nat) (z : List Bool) (m : Nat) : Prop := ∃ u, GI T m ∧ pth T u = some a ∧ z ≠ [] ∧ u.length + z.length = m ∧ ∀ q, walk T 0 (u.reverse ++ (z ++ q)) = none
theorem SetPre.lt {T : List (Int × Int)} {a : Nat} {z : List Bool} {m : Nat} (h : SetPre T a z m) : a < T.length := by
  obtain ⟨u, h1, h2, _⟩ := h
  exact pth_lt h1 u a h2
theorem SetPre.gi {T : List (Int × Int)} {a : Nat} {z : List Bool} {m : Nat} (h : SetPre T a z m) : GI T m := by
  obtain ⟨u, h1, _⟩ := h
  exact h1
theorem SetPre.nonneg {T : List (Int × Int)} {a m : Nat} {b : Bool} {r : List Bool} (h : SetPre T a (b :: r) m) : 0 ≤ edge T a b := by
  obtain ⟨u, h1, hu, _, hm, hn⟩ := h
  have hu' := hu
  rw [pth_fw] at hu'
  rcases Int.lt_or_le (edge T a b) 0 with c1 | c1
  · have h1 := hn []
    rw [walk_fw T _ _ 0 a hu'] at h1
    simp only [List.cons_append, walk] at h1
    rw [if_pos c1] at h1; cases h1
  · exact c1
theorem SetPre.zero {T : List (Int × Int)} {a m : Nat} {b c : Bool} {r : List Bool} (h : SetPre T a (b :: c :: r) m) (he : edge T a b = 0) : SetPre (upd (T ++ [(0, 0)]) a b T.length) T.length (c :: r) m := by
  obtain ⟨u, h, hu, _, hm, hn⟩ := h
  have ha := pth_lt h u a hu
  have hl : a < (T ++ [(0, 0)]).length := by simp; omega
  have h2 := h.grow hu (by simp at hm; omega) he
  have hp2 : pth (upd (T ++ [(0, 0)]) a b T.length) (b :: u) = some T.length := by
    simp only [pth, pth_kept h ha he u a hu, edge_upd hl, true_and, if_true]
    rw [if_pos (by have := h.pos; omega)]
    simp
  exact ⟨b :: u, h2, hp2, by simp, by simp at hm ⊢; omega, fun q => by
    rw [walk_grow h ha he _ 0 h.pos]
    have := hn q
    simpa using this⟩
theorem SetPre.on {T : List (Int × Int)} {a m : Nat} {b c : Bool} {r : List Bool} (h : SetPre T a (b :: c :: r) m) (he : edge T a b ≠ 0) : SetPre T (edge T a b).toNat (c :: r) m := by
  have h0 := h.nonneg
  obtain ⟨u, h, hu, _, hm, hn⟩ := h
  have hp2 : pth T (b :: u) = some (edge T a b).toNat := by
    simp only [pth, hu]
    rw [if_pos (by omega)]
  exact ⟨b :: u, h, hp2, by simp, by simp at hm ⊢; omega, fun q => by
    have := hn q
    simpa using this⟩
theorem setT_zero {s : Nat} {T : List (Int × Int)} {a : Nat} {b c : Bool} {r : List Bool} (he : edge T a b = 0) : setT s T a (b :: c :: r) = setT s (upd (T ++ [(0, 0)]) a b T.length) T.length (c :: r) := by
  simp only [setT, if_pos he]
theorem setT_on {s : Nat} {T : List (Int × Int)} {a : Nat} {b c : Bool} {r : List Bool} (he : edge T a b ≠ 0) : setT s T a (b :: c :: r) = setT s T (edge T a b).toNat (c :: r) := by
  simp only [setT, if_neg he]
/-- A tree's cells. -/
def flat (T : List (Int × Int)) : List Value := T.flatMap fun x => [.int .i64 x.1, .int .i64 x.2]
theorem flat_append (T U : List (Int × Int)) : flat (T ++ U) = flat T ++ flat U := by simp [flat]
theorem flat_get : ∀ (T : List (Int × Int)) (a : Nat) (b : Bool), a < T.length → (flat T)[a * 2 + b.toNat]? = some (.int .i64 (edge T a b))
  | [], a, b, h => by simp at h
  | x :: T, 0, b, _ => by cases b <;> rfl
  | x :: T, a + 1, b, h => by
    have ih := flat_get T a b (by simpa using h)
    have e : flat (x :: T) = [Value.int .i64 x.1, .int .i64 x.2] ++ flat T := by simp [flat]
    have e2 : (a + 1) * 2 + b.toNat = 2 + (a * 2 + b.toNat) := by omega
    rw [e, e2, List.getElem?_append_right (by show 2 ≤ _; omega)]
    have e3 : edge (x :: T) (a + 1) b = edge T a b := by unfold edge; simp
    rw [e3, ← ih]
    congr 1
    simp
theorem flat_set : ∀ (T : List (Int × Int)) (a : Nat) (b : Bool) (x : Int), a < T.length → flat (upd T a b x) = (flat T).set (a * 2 + b.toNat) (.int .i64 x)
  | [], a, b, x, h => by simp at h
  | y :: T, 0, b, x, _ => by cases b <;> rfl
  | y :: T, a + 1, b, x, h => by
    have ih := flat_set T a b x (by simpa using h)
    have e : ∀ z U, flat (z :: U) = [Value.int .i64 z.1, .int .i64 z.2] ++ flat U := fun z U => by simp [flat]
    have e1 : upd (y :: T) (a + 1) b x = y :: upd T a b x := by unfold upd; simp
    have e2 : (a + 1) * 2 + b.toNat = (a * 2 + b.toNat) + 1 + 1 := by omega
    rw [e1, e, e, ih, e2]
    rfl
end Go.Proofs.YtgkljcmjnphpeaaGreatDoor.Fo
namespace Go.Proofs.YtgkljcmjnphpeaaGreatDoor
open Go.RowKit
/-- A tree that is being built. -/
structure TreeOwn (B bt : Nat) (w : World) (v : Value) (T : List (Int × Int)) : Prop where
  hb : B ≤ bt
  blk : w.heap[bt]? = some (.cells #[v] 252 (0, 0))
  own : w.ownsRow B 249 2 v T.length (Fo.flat T)
variable {B bt : Nat} {w : World} {v : Value} {T : List (Int × Int)}
theorem bit_int (c i : Nat) : ((c : Int) / 2 ^ i).tmod 2 = ((c >>> i % 2 == 1).toNat : Nat) := by
  have e1 : ((c : Int) / 2 ^ i) = ((c / 2 ^ i : Nat) : Int) := by
    rw [Int.natCast_ediv, Int.natCast_pow]; rfl
  have e2 : (((c / 2 ^ i : Nat) : Int)).tmod 2 = ((c / 2 ^ i % 2 : Nat) : Int) := by
    rw [Int.tmod_eq_emod_of_nonneg (Int.natCast_nonneg _)]; rfl
  rw [e1, e2, Nat.shiftRight_eq_div_pow]
  have := Nat.mod_two_eq_zero_or_one (c / 2 ^ i)
  rcases this with h | h <;> simp [h]
theorem Tryz.infoPair : (Tryz.prog.info? 249).map (fun i => (i.zero, i.size, i.bytes)) = some (some (.agg #[.int .i64 0, .int .i64 0]), 2, 16) := by kernel_rfl
theorem run_build2 (W : World) : (Instr.build 249 #[]).run Tryz.prog W = .ok (.agg #[.int .i64 0, .int .i64 0]) W := by kernel_rfl
theorem TreeOwn.lt (h : TreeOwn B bt w v T) (h0 : 0 < T.length) : ∃ g c, v = .slice (some ⟨g, 0, none⟩) T.length c ∧ B ≤ g ∧ g ≠ bt ∧ T.length ≤ c ∧ (∀ j, w.frozen? ⟨g, j, none⟩ = false) ∧ (∀ a x, a < T.length → w.cell? ⟨g, a * 2 + x.toNat, none⟩ = some (.int .i64 (Fo.edge T a x))) := by
  obtain ⟨g, c, rfl, hg⟩ := own_form h.own h0
  have hne : g ≠ bt := by
    intro e
    subst e
    obtain ⟨_, cur, fz, hh⟩ := own_row h.own g rfl
    rw [h.blk] at hh; simp at hh
  rcases h.own.2 with ⟨e1, _⟩ | ⟨g', c', cur, e1, _, hh, hc, _⟩
  · cases e1
  cases e1
  refine ⟨g, c, rfl, hg, hne, hc, fun j => h.own.frozenAt j, fun a x ha => ?_⟩
  have hx1 : x.toNat ≤ 1 := by cases x <;> decide
  rw [h.own.cellAt _ (by omega)]
  exact Fo.flat_get T a x ha
theorem TreeOwn.set {g c : Nat} (h : TreeOwn B bt w (.slice (some ⟨g, 0, none⟩) T.length c) T) (hg : g ≠ bt) (a : Nat) (x : Bool) (y : Int) (ha : a < T.length) : TreeOwn B bt (w.setCell ⟨g, a * 2 + x.toNat, none⟩ (.int .i64 y)) (.slice (some ⟨g, 0, none⟩) (Fo.upd T a x y).length c) (Fo.upd T a x y) := by
  refine ⟨h.hb, ?_, ?_⟩
  · rw [blk_setCell_ne _ (Ne.symm hg), Fo.upd_len]; exact h.blk
  · have := (h.own.stored (a * 2 + x.toNat) (.int .i64 y)).1
    rw [Fo.upd_len, Fo.flat_set T a x y ha]
    exact this
theorem TreeOwn.drewN (h : TreeOwn B bt w v T) (n : Nat) : TreeOwn B bt (w.drewN n) v T := ⟨h.hb, h.blk, h.own⟩
theorem TreeOwn.drew (h : TreeOwn B bt w v T) : TreeOwn B bt w.drew v T := ⟨h.hb, h.blk, h.own⟩
theorem TreeOwn.grow {w2 : World} {v2 : Value} {o : Obj} (h : TreeOwn B bt w v T) (own2 : w2.ownsRow B 249 2 v2 (T.length + 1) (Fo.flat T ++ [.int .i64 0, .int .i64 0])) (hg : (w.alloc o).grownBy w2 v.ownBlock) : TreeOwn B bt (w2.setCell ⟨bt, 0, none⟩ v2) v2 (T ++ [(0, 0)]) := by
  have hb : (w.alloc o).heap[bt]? = some (.cells #[v] 252 (0, 0)) := blk_alloc _ h.blk
  have hb2 : w2.heap[bt]? = some (.cells #[v] 252 (0, 0)) := by
    rw [hg.block bt (lt_of_block hb) (fun c => own_ne h.own h.blk (by decide) c.symm)]; exact hb
  refine ⟨h.hb, ?_, ?_⟩
  · rw [blk_setCell _ hb2]; rfl
  · rw [List.length_append, Fo.flat_append]
    exact ownsRow_setCell_other own2 (own_ne own2 hb2 (by decide)) _
theorem news00 {w : World} : ∀ j u, ([Value.int .i64 0, .int .i64 0] : List Value)[j]? = some u → (w.alloc (.cells #[.int .i64 0, .int .i64 0] 249)).cell? ((⟨w.heap.size, 0, none⟩ : Addr).add j) = some u := by
  intro j u hu
  match j, hu with
  | 0, hu => exact (World.cell?_alloc_new _ _ _ _).trans hu
  | 1, hu => exact (World.cell?_alloc_new _ _ _ _).trans hu
  | j + 2, hu => simp at hu
theorem high_cons (code i : Nat) : Fo.highBits code (i + 1) = (code >>> i % 2 == 1) :: Fo.highBits code i := rfl
set_option maxRecDepth 100000 in
set_option maxHeartbeats 2000000 in
theorem tset_ok (h : TreeOwn B bt w v T) (hB : B ≤ w.heap.size) (code n s m : Nat) (hn : 1 ≤ n ∧ n ≤ 15) (hcode : code < 32768) (hs : s ≤ 1000) (hpre : Fo.SetPre T 0 (Fo.highBits code n) m) (hlen : T.length + n ≤ 100000) :
    Calls Tryz.prog 271 #[.pointer (some ⟨bt, 0, none⟩), .int .i64 code, .int .i64 n, .int .i64 s] w fun x w' => x = .returned (.tuple #[]) ∧ ∃ v', TreeOwn B bt w' v' (Fo.setT s T 0 (Fo.highBits code n)) ∧ (Fo.setT s T 0 (Fo.highBits code n)).length ≤ T.length + n ∧ Below B w w' := by
  obtain ⟨i0, hi, hz0, hz1, hz2⟩ := info_parts Tryz.infoPair
  obtain ⟨R, hR⟩ : ∃ R, Fo.setT s T 0 (Fo.highBits code n) = R := ⟨_, rfl⟩
  rw [hR]
  have hb2 := run_build2
  go_enter Tryz.func271, Tryz.ntmps271
  go_wp2
  go_loopw [8, 9] (fun va vi wr => ∃ (i a : Nat) (v' : Value) (T' : List (Int × Int)), va = .int .i64 a ∧ vi = .int .i64 ((i : Int) - 1) ∧ 1 ≤ i ∧ i ≤ n ∧ TreeOwn B bt wr v' T' ∧ Hid (Fo.SetPre T' a (Fo.highBits code i) m ∧ Fo.setT s T' a (Fo.highBits code i) = R) ∧ T'.length + i ≤ T.length + n ∧ Below B w wr) (fun _ vi _ => (intOf vi + 1).toNat)
  case atStart => exact ⟨n, 0, v, T, rfl, rfl, hn.1, Nat.le_refl _, h, ⟨hpre, hR⟩, Nat.le_refl _, Below.refl _ _⟩
  clear h hpre hR
  case round =>
    obtain ⟨i, a, v', T', rfl, rfl, hi1, hin, ht, HP, hle, bl⟩ := hrel
    obtain ⟨k, rfl⟩ : ∃ k, i = k + 1 := ⟨i - 1, by omega⟩
    have ek : ((k + 1 : Nat) : Int) - 1 = (k : Int) := by omega
    rw [ek]
    have hsB := bl.size
    obtain ⟨hp1, hp2⟩ := HP.out
    rw [high_cons] at hp1 hp2
    have HBI := hide (bit_int code k)
    have ha := hp1.lt
    obtain ⟨g, c, hv', hgB, hgbt, hTc, hfz, hcell⟩ := ht.lt (by omega)
    subst hv'
    have hblk0 : wr.cell? ⟨bt, 0, none⟩ = some (.slice (some ⟨g, 0, none⟩) T'.length c) := by rw [cell_blk ht.blk]; rfl
    have hfz0 : wr.frozen? ⟨bt, 0, none⟩ = false := free_blk ht.blk
    generalize (code >>> k % 2 == 1) = x at *
    have hx1 : x.toNat ≤ 1 := by cases x <;> decide
    have hce := hcell a x ha
    have hfe := hfz (a * 2 + x.toNat)
    have hbi : ((code : Int) / 2 ^ k).tmod 2 = (x.toNat : Nat) := HBI.out
    have haT : (a : Int) < T'.length := by omega
    have HTO := hide ht
    have HBL := hide bl
    by_cases hk : k = 0
    · subst hk
      have hfin : Fo.upd T' a x (-1 - (s : Int)) = R := hp2
      have R1 := hide (ht.set hgbt a x (-1 - (s : Int)) ha)
      rw [hfin] at R1
      have hlR : R.length = T'.length := by rw [← hfin, Fo.upd_len]
      have B1 := hide (bl.setCell (p := ⟨g, a * 2 + x.toNat, none⟩) hgB (.int .i64 (-1 - (s : Int))))
      have hb0 : (code : Int) % 2 = (x.toNat : Nat) := by
        have h1 := HBI.out
        rw [Int.tmod_eq_emod_of_nonneg (by simp)] at h1
        simpa using h1
      clear hp1 hp2 HP ht bl hfin hbi
      generalize hX : x.toNat = X at *
      go_wp2
      refine bodyPost_ret (v := .tuple #[]) (by simp [results, Tryz.results271, go_sem]) rfl ?_
      exact ⟨rfl, _, R1.out, by omega, B1.out⟩
    · obtain ⟨j, rfl⟩ : ∃ j, k = j + 1 := ⟨k - 1, by omega⟩
      rw [high_cons] at hp1 hp2
      have hk0 : (((j + 1 : Nat) : Int) == 0) = false := by simp; omega
      have hnn := hp1.nonneg
      have hmx := hp1.gi.lt a x ha
      by_cases hE : Fo.edge T' a x = 0
      · have hp3 := hp1.zero hE
        rw [Fo.setT_zero hE] at hp2
        rw [← high_cons] at hp3 hp2
        rw [hE] at hce
        have HP3 := hide (And.intro hp3 hp2)
        clear hp1 hp2 HP hp3 hnn hmx
        generalize hX : x.toNat = X at *
        generalize hK : j + 1 = K at *
        go_wp2_with (at_builtin; refine wpList_append_own _ rfl (.tmp 47) (.tmp 49) 250 rfl B 249 i0 (.agg #[.int .i64 0, .int .i64 0]) 2 16 Tryz.underlying250 hi hz0 hz1 hz2 rfl (by decide) (.slice (some ⟨g, 0, none⟩) T'.length c) T'.length _ rfl (HTO.out.own.alloc _) ⟨wr.heap.size, 0, none⟩ 1 1 [.int .i64 0, .int .i64 0] rfl rfl ?hnews ?hone ?h63 ?hby ?hbs ?_)
        case hnews => exact news00
        case hone => intro u hu; simp at hu; subst hu; rfl
        case h63 => unfold maxLen; omega
        case hby => omega
        case hbs => simp; omega
        intro v2 w2 own2 hg2 _
        have ht2 := HTO.out.grow own2 hg2
        have bl2 : Below B w (w2.setCell ⟨bt, 0, none⟩ v2) := ((HBL.out.alloc (by omega) _).grown hg2 (by simp; omega) (fun k e => (HTO.out.own.lt k e).1)).setCell (p := ⟨bt, 0, none⟩) HTO.out.hb _
        have hw2b : w2.heap[bt]? = some (.cells #[.slice (some ⟨g, 0, none⟩) T'.length c] 252 (0, 0)) := by
          have hb : (wr.alloc (.cells #[.int .i64 0, .int .i64 0] 249)).heap[bt]? = _ := blk_alloc _ HTO.out.blk
          rw [hg2.block bt (lt_of_block hb) (fun c => own_ne HTO.out.own HTO.out.blk (by decide) c.symm)]; exact hb
        have q0 : w2.cell? ⟨bt, 0, none⟩ = some (.slice (some ⟨g, 0, none⟩) T'.length c) := by rw [cell_blk hw2b]; rfl
        have q1 : w2.frozen? ⟨bt, 0, none⟩ = false := free_blk hw2b
        obtain ⟨g2, c2, hv2, hgB2, hgbt2, hTc2, hfz2, hcell2⟩ := ht2.lt (by simp)
        rw [List.length_append] at hv2 hTc2 hcell2
        simp only [List.length_singleton] at hv2 hTc2 hcell2
        subst hv2
        have hce2 := hcell2 a x (by omega)
        have hfe2 := hfz2 (a * 2 + x.toNat)
        rw [hX] at hce2 hfe2
        have HT2 := hide ht2
        have HB2 := hide bl2
        clear own2 hg2 ht2 bl2 hw2b hcell hcell2 hfz hfz2 hce hfe hblk0 hfz0
        have haT2 : (a : Int) < (T'.length : Int) + 1 := by omega
        have hlen1 : (T' ++ [((0 : Int), (0 : Int))]).length = T'.length + 1 := by simp
        have HT2' : Hid (TreeOwn B bt (w2.setCell ⟨bt, 0, none⟩ (.slice (some ⟨g2, 0, none⟩) (T'.length + 1) c2)) (.slice (some ⟨g2, 0, none⟩) (T' ++ [((0 : Int), (0 : Int))]).length c2) (T' ++ [(0, 0)])) := by rw [hlen1]; exact HT2
        have HT3 := hide ((HT2'.out.set hgbt2 a x (T'.length : Int) (by rw [hlen1]; omega)).drew)
        have HB3 := hide ((HB2.out.setCell (p := ⟨g2, a * 2 + x.toNat, none⟩) hgB2 (.int .i64 (T'.length : Int))).drew)
        rw [Fo.upd_len, hlen1] at HT3
        rw [hX] at HT3 HB3
        clear HT2 HT2' HB2
        go_wp2_with fail
        go_region
        generalize ((w2.setCell ⟨bt, 0, none⟩ (.slice (some ⟨g2, 0, none⟩) (T'.length + 1) c2)).setCell ⟨g2, a * 2 + X, none⟩ (.int .i64 (T'.length : Int))).drew = W4 at *
        have z0 : W4.cell? ⟨bt, 0, none⟩ = some (.slice (some ⟨g2, 0, none⟩) (T'.length + 1) c2) := by rw [cell_blk HT3.out.blk]; rfl
        have z1 : W4.cell? ⟨g2, a * 2 + X, none⟩ = some (.int .i64 (T'.length : Int)) := by
          obtain ⟨g5, c5, e5, _, _, _, _, hc5⟩ := HT3.out.lt (by rw [Fo.upd_len, hlen1]; omega)
          rw [Fo.upd_len, hlen1] at e5 hc5
          cases e5
          have := hc5 a x (by omega)
          rw [Fo.edge_upd (by rw [hlen1]; omega), if_pos ⟨rfl, rfl⟩, hX] at this
          exact this
        clear hce2 hfe2 q0 q1
        go_wp2
        go_roundw
        case rel =>
          refine ⟨K, T'.length, _, _, rfl, by go_num, by omega, by omega, HT3.out, HP3.out, ?_, HB3.out⟩
          rw [Fo.upd_len, hlen1]; omega
        case measure => simp [intOf] <;> omega
      · have hp3 := hp1.on hE
        rw [Fo.setT_on hE] at hp2
        rw [← high_cons] at hp3 hp2
        have HP3 := hide (And.intro hp3 hp2)
        have hE' : (Fo.edge T' a x == 0) = false := by simp; exact hE
        clear hp1 hp2 HP hp3
        generalize hX : x.toNat = X at *
        generalize hK : j + 1 = K at *
        generalize Fo.edge T' a x = E at *
        go_wp2
        go_roundw
        case rel => exact ⟨K, E.toNat, _, T', by go_num, by go_num, by omega, by omega, HTO.out, HP3.out, by omega, HBL.out⟩
        case measure => simp [intOf] <;> omega
end Go.Proofs.YtgkljcmjnphpeaaGreatDoor
