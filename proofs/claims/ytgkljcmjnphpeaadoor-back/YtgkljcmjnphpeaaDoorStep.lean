/- deflater.step. -/
import Derived.Test.YtgkljcmjnphpeaaDoorMatch
set_option linter.unusedVariables false
set_option linter.unusedSimpArgs false
namespace Go.Proofs.YtgkljcmjnphpeaaDoor
open Go.RowKit
variable {w w' : World} {B bw bm g1 g2 cap T : Nat} {data : List Nat} {ao : Option Addr} {bs : List Bool} {at_ : Nat} {rest : List Value}

theorem Stood.later {a b : Nat} (h : Stood w bm data a) (hab : a ≤ b) : Stood w bm data b := by
  obtain ⟨es, clock, h1, h2⟩ := h
  refine ⟨es, clock, h1, fun e he => ?_⟩
  obtain ⟨p, p1, p2, p3⟩ := h2 e he
  exact ⟨p, p1, by omega, p3⟩
theorem Stood.other {a : Nat} (h : Stood w bm data a) (hb : w'.heap[bm]? = w.heap[bm]?) : Stood w' bm data a := by
  obtain ⟨es, clock, h1, h2⟩ := h
  exact ⟨es, clock, hb.trans h1, h2⟩
theorem CodeRow.other {g : Nat} {t : List (Nat × Nat)} (h : CodeRow w g t) (hb : w'.heap[g]? = w.heap[g]?) : CodeRow w' g t := by
  obtain ⟨C, h1, h2⟩ := h
  exact ⟨C, hb.trans h1, h2⟩
theorem Dat.other {l : List Nat} (h : Dat w B ao l) (hb : ∀ k, k < B → w'.heap[k]? = w.heap[k]?) : Dat w' B ao l := by
  intro i hi
  obtain ⟨b, o, h1, h2, h3⟩ := h i hi
  exact ⟨b, o, h1, h2, by rw [World.cell?_of_block (w := w) (hb b h2)]; exact h3⟩

theorem Wx.next {a : Value} {x y : Nat} {r : List Value} (h : Wx B bw T (a :: .int .i64 x :: r) w bs) : Wx B bw T (a :: .int .i64 y :: r) (w.setCell ⟨bw, 3, none⟩ (.int .i64 y)) bs := by
  obtain ⟨ov, out, used, ⟨h1, h2, h3, h4⟩, h5⟩ := h
  refine ⟨ov, out, used, ⟨h1, h2, ?_, ?_⟩, h5⟩
  · rw [blk_setCell _ h3]; simp
  · exact ownsRow_setCell_other h4 (own_ne h4 h3 h2) _

theorem Wx.other (h : Wx B bw T rest w bs) (hb : ∀ (k : Nat) (c : Array Value) (t : TypeId) (fz : Nat × Nat), w.heap[k]? = some (Obj.cells c t fz) → w'.heap[k]? = some (Obj.cells c t fz)) : Wx B bw T rest w' bs := by
  obtain ⟨ov, out, used, ⟨h1, h2, h3, h4, h4'⟩, h5⟩ := h
  refine ⟨ov, out, used, ⟨h1, h2, hb _ _ _ _ h3, h4, ?_⟩, h5⟩
  rcases h4' with h4' | ⟨g, c, cur, e1, e2, hh, hc⟩
  · exact Or.inl h4'
  · exact Or.inr ⟨g, c, cur, e1, e2, hb _ _ _ _ hh, hc⟩

theorem De.ne (h : De B bw bm g1 g2 cap data ao w bs at_) : bm ≠ bw ∧ g1 ≠ bw ∧ g2 ≠ bw ∧ bm < w.heap.size := by
  obtain ⟨ov, out, used, ⟨h1, h2, h3, h4⟩, h5⟩ := h.wx
  obtain ⟨es, clock, m1, _⟩ := h.st
  obtain ⟨C1, r1, _⟩ := h.r1
  obtain ⟨C2, r2, _⟩ := h.r2
  refine ⟨fun e => ?_, fun e => ?_, fun e => ?_, lt_of_block m1⟩
  · subst e; rw [m1] at h3; cases h3
  · subst e; rw [r1] at h3; simp at h3
  · subst e; rw [r2] at h3; simp at h3

/-- One byte on, where no key is kept. -/
theorem De.go (h : De B bw bm g1 g2 cap data ao w bs at_) (hlt : at_ < data.length) : De B bw bm g1 g2 cap data ao (w.setCell ⟨bw, 3, none⟩ (.int .i64 (at_ + 1 : Nat))) bs (at_ + 1) ∧ Kept 5 B [bw, bm] w (w.setCell ⟨bw, 3, none⟩ (.int .i64 (at_ + 1 : Nat))) := by
  obtain ⟨n1, n2, n3, _⟩ := h.ne
  obtain ⟨_, _, _, _, _, hbw, _⟩ := h.cells
  exact ⟨⟨h.wx.next, h.dat.other (fun k hk => blk_setCell_ne _ (by omega)), h.byt, h.len, h.lc, hlt, (h.st.later (by omega)).other (blk_setCell_ne _ n1), h.r1.other (blk_setCell_ne _ n2), h.r2.other (blk_setCell_ne _ n3), h.hbm⟩, (Kept.refl _ _ _ _).setCell (by simp) _⟩

/-- One byte on, where its key is kept. -/
theorem De.upd (h : De B bw bm g1 g2 cap data ao w bs at_) (hk : at_ + 3 ≤ data.length) :
    ∃ w3, (Instr.mapUpdate 68 (.map (some bm)) (key3 (nth data at_) (nth data (at_ + 1)) (nth data (at_ + 2))) (.int .i64 (at_ : Int))).run Tryd.prog w = .ok () w3 ∧ w3.cell? ⟨bw, 3, none⟩ = some (.int .i64 at_) ∧ w3.frozen? ⟨bw, 3, none⟩ = false ∧
      De B bw bm g1 g2 cap data ao (w3.setCell ⟨bw, 3, none⟩ (.int .i64 (at_ + 1 : Nat))) bs (at_ + 1) ∧ Kept 5 B [bw, bm] w (w3.setCell ⟨bw, 3, none⟩ (.int .i64 (at_ + 1 : Nat))) := by
  obtain ⟨es, hup, hst⟩ := h.st.put h.byt hk
  obtain ⟨n1, n2, n3, n4⟩ := h.ne
  obtain ⟨es0, clock, m1, _⟩ := h.st
  have hoth : ∀ k, k ≠ bm → ({ w with heap := w.heap.setIfInBounds bm es } : World).heap[k]? = w.heap[k]? := fun k hk => Array.getElem?_setIfInBounds_ne (fun e => hk e.symm)
  have hcell : ∀ (k : Nat) (c : Array Value) (t : TypeId) (fz : Nat × Nat), w.heap[k]? = some (Obj.cells c t fz) → ({ w with heap := w.heap.setIfInBounds bm es } : World).heap[k]? = some (Obj.cells c t fz) := by
    intro k c t fz hc
    rw [hoth k (fun e => by subst e; rw [m1] at hc; cases hc)]; exact hc
  refine ⟨_, hup, ?_⟩
  have hsz : ({ w with heap := w.heap.setIfInBounds bm es } : World).heap.size = w.heap.size := Array.size_setIfInBounds
  have hK : Kept 5 B [bw, bm] w { w with heap := w.heap.setIfInBounds bm es } := ⟨rfl, rfl, rfl, Nat.le_of_eq hsz.symm, fun k o hk ho _ => by rw [hoth k (by simp at hk; exact hk.2)]; exact ho⟩
  generalize ({ w with heap := w.heap.setIfInBounds bm es } : World) = w3 at *
  have hwx := h.wx.other hcell
  obtain ⟨_, _, _, _, _, hbw, _⟩ := h.cells
  have hB := h.hbm
  have hr1 : CodeRow w3 g1 Fo.tabF := by obtain ⟨C, c1, c2⟩ := h.r1; exact ⟨C, hcell _ _ _ _ c1, c2⟩
  have hr2 : CodeRow w3 g2 Fo.tadF := by obtain ⟨C, c1, c2⟩ := h.r2; exact ⟨C, hcell _ _ _ _ c1, c2⟩
  have hdat : Dat w3 B ao data := h.dat.other (fun k hk => hoth k (by omega))
  refine ⟨?_, ?_, ⟨hwx.next, hdat.other (fun k hk => blk_setCell_ne _ (by omega)), h.byt, h.len, h.lc, by omega, hst.other (blk_setCell_ne _ n1), hr1.other (blk_setCell_ne _ n2), hr2.other (blk_setCell_ne _ n3), hB⟩, hK.setCell (by simp) _⟩
  · obtain ⟨ov, out, used, hq, _⟩ := hwx
    rw [cell_blk hq.blk]; simp
  · obtain ⟨ov, out, used, hq, _⟩ := hwx
    exact free_blk hq.blk

theorem Kept.thenBelow {e B : Nat} {S : List Nat} {a b c : World} (h : Kept e B S a b) (k : Below b.heap.size b c) : Kept e B S a c :=
  h.trans ⟨k.os, k.tape, k.output, k.size, fun i o _ ho _ => by rw [k.block i (lt_of_block ho)]; exact ho⟩
theorem De.drewN (h : De B bw bm g1 g2 cap data ao w bs at_) (n : Nat) : De B bw bm g1 g2 cap data ao (w.drewN n) bs at_ := h.below (below_drewN (Below.refl _ _) n)

set_option maxRecDepth 100000 in
set_option maxHeartbeats 2000000 in
theorem step_ok (n : Nat) (h : De B bw bm g1 g2 cap data ao w bs at_) (hn : at_ + n ≤ data.length) :
    Calls Tryd.prog 66 #[.pointer (some ⟨bw, 0, none⟩), .int .i64 n] w fun e w' => e = .returned (.tuple #[]) ∧ De B bw bm g1 g2 cap data ao w' bs (at_ + n) ∧ Kept 5 B [bw, bm] w w' := by
  have hlen := h.len
  go_enter Tryd.func66, Tryd.ntmps66
  go_wp2
  go_loopw [5] (fun i wr => ∃ k : Nat, k ≤ n ∧ i = .int .i64 k ∧ De B bw bm g1 g2 cap data ao wr bs (at_ + k) ∧ Kept 5 B [bw, bm] w wr) (fun i _ => n - (intOf i).toNat)
  case atStart => exact ⟨0, Nat.zero_le _, rfl, h, Kept.refl _ _ _ _⟩
  clear h
  case round =>
    obtain ⟨k, hk, rfl, hf, kk⟩ := hrel
    have H := hide hf
    clear hf
    by_cases hlt : k < n
    · have HA : Hid (∀ a, at_ + k = a → at_ + (k + 1) = a + 1) := fun a ha => by omega
      generalize ha : at_ + k = a at *
      have HA2 := hide (HA.out a rfl)
      have hal : a < data.length := by omega
      clear HA
      by_cases hk3 : a + 3 ≤ data.length
      · clear ha
        go_wp2_with (go_at_call 81; refine (hasKey_is H.out true (decide_eq_true hk3)).mono ?_; rintro e w1 ⟨rfl, q, rfl⟩)
        have H1 := hide (H.out.drewN q)
        have K1 := hide (kk.drewN q)
        generalize hwq : wr.drewN q = w1 at *
        clear hwq kk H
        obtain ⟨c2, c3, c4, _, _, hbw, hlt', _⟩ := H1.out.cells
        have HD : Hid (De B bw bm g1 g2 cap data ao w1.drew bs a) := hide (H1.out.below (Below.refl _ _).drew)
        go_region_with (go_at_call 82; refine (key_ok HD.out hk3).mono ?_; rintro e w2 ⟨rfl, b2⟩; have H2 := hide (HD.out.below b2); have hc3 := H2.out.cells.2.1; have hc4 := H2.out.cells.2.2.1; obtain ⟨w3, hup, d3, f3, hde, hkp⟩ := H2.out.upd hk3; have HE := hide hde; have HKP := hide hkp; clear hde hkp)
        all_goals (clear hup hc3 hc4 c2 c3 c4 HD H1 H2; have B2 := hide b2; clear b2; go_wp2)
        all_goals (
          go_roundw
          case rel => exact ⟨k + 1, by omega, by go_num, by rw [HA2.out]; exact HE.out, (Kept.thenBelow (Kept.thenBelow K1.out (Below.refl _ _).drew) B2.out).trans HKP.out⟩
          case measure => simp [intOf]; omega)
      · clear ha
        go_wp2_with (go_at_call 81; refine (hasKey_is H.out false (decide_eq_false hk3)).mono ?_; rintro e w1 ⟨rfl, q, rfl⟩; have H1 := hide (H.out.drewN q); have K1 := hide (kk.drewN q); generalize hwq : wr.drewN q = w1 at *; clear hwq kk H; obtain ⟨_, c3, _, _, _, _, _, f3⟩ := H1.out.cells)
        have HG := hide (H1.out.go hal)
        go_roundw
        case rel => exact ⟨k + 1, by omega, by go_num, by rw [HA2.out]; exact HG.out.1, K1.out.trans HG.out.2⟩
        case measure => simp [intOf]; omega
    · obtain rfl : k = n := by omega
      go_wp2
      go_end0
      exact ⟨rfl, H.out, kk⟩
end Go.Proofs.YtgkljcmjnphpeaaDoor
