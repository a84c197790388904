/- The file's scanner: take, next, plain words. -/
import Derived.Test.YtgkljcmjnphpeaaGreatDoorK01
import Derived.ScopeJumps
set_option linter.unusedVariables false
set_option linter.unusedSimpArgs false
namespace Go.Proofs.YtgkljcmjnphpeaaGreatDoor
open Go.RowKit
/-- All blocks stay but one. -/
structure Only (b : Nat) (w w' : World) : Prop where
  os : w'.os = w.os
  tape : w'.tape = w.tape
  output : w'.output = w.output
  size : w.heap.size ≤ w'.heap.size
  block : ∀ k, k < w.heap.size → k ≠ b → w'.heap[k]? = w.heap[k]?
theorem Only.refl (b : Nat) (w : World) : Only b w w := ⟨rfl, rfl, rfl, Nat.le_refl _, fun _ _ _ => rfl⟩
theorem Only.trans {b : Nat} {x y z : World} (h : Only b x y) (k : Only b y z) : Only b x z :=
  ⟨k.os.trans h.os, k.tape.trans h.tape, k.output.trans h.output, Nat.le_trans h.size k.size, fun i hi hb => (k.block i (Nat.lt_of_lt_of_le hi h.size) hb).trans (h.block i hi hb)⟩
theorem Only.of_below {b : Nat} {w w' : World} (h : Below w.heap.size w w') : Only b w w' := ⟨h.os, h.tape, h.output, h.size, fun i hi _ => h.block i hi⟩
theorem Only.drewN {b : Nat} {w w' : World} (h : Only b w w') (n : Nat) : Only b w (w'.drewN n) := ⟨h.os, h.tape, h.output, h.size, h.block⟩
theorem Only.setCell {b : Nat} {w w' : World} (h : Only b w w') (i : Nat) (v : Value) : Only b w (w'.setCell ⟨b, i, none⟩ v) :=
  h.trans ⟨rfl, rfl, rfl, by simp [World.setCell], fun k _ hb => blk_setCell_ne _ hb⟩
theorem Only.below {b B : Nat} {w w' : World} (h : Only b w w') (hB : B ≤ w.heap.size) (hb : B ≤ b) : Below B w w' :=
  ⟨h.os, h.tape, h.output, h.size, fun k hk => h.block k (by omega) (by omega)⟩
/-- A file's scanner in memory: the block bs holds it, with what has been read; r is left of the data. -/
structure Sc (B bs : Nat) (ao : Option Addr) (cap : Nat) (data : List Nat) (x2 x3 x4 : Value) (w : World) (r : List Nat) : Prop where
  hb : B ≤ bs
  blk : w.heap[bs]? = some (.cells #[.slice ao data.length cap, .int .i64 (data.length - r.length : Nat), x2, x3, x4] 131 (0, 0))
  dat : Dat w B ao data
  byt : ∀ i, i < data.length → nth data i < 256
  len : data.length ≤ 200000
  lc : data.length ≤ cap ∧ cap ≤ 9223372036854775807
  le : r.length ≤ data.length
  suf : data.drop (data.length - r.length) = r
  ad : ∃ bd o, ao = some ⟨bd, o, none⟩ ∧ bd < B
variable {B bs cap : Nat} {ao : Option Addr} {data : List Nat} {x2 x3 x4 : Value} {w w' : World} {r q : List Nat}
theorem Sc.c0 (h : Sc B bs ao cap data x2 x3 x4 w r) : w.cell? ⟨bs, 0, none⟩ = some (.slice ao data.length cap) := by rw [cell_blk h.blk]; rfl
theorem Sc.c1 (h : Sc B bs ao cap data x2 x3 x4 w r) : w.cell? ⟨bs, 1, none⟩ = some (.int .i64 (data.length - r.length : Nat)) := by rw [cell_blk h.blk]; rfl
theorem Sc.fz (h : Sc B bs ao cap data x2 x3 x4 w r) (i : Nat) : w.frozen? ⟨bs, i, none⟩ = false := free_blk h.blk
theorem Sc.lt (h : Sc B bs ao cap data x2 x3 x4 w r) : bs < w.heap.size := lt_of_block h.blk
/-- Other blocks changed. -/
theorem Sc.other (h : Sc B bs ao cap data x2 x3 x4 w r) (b : Below w.heap.size w w') : Sc B bs ao cap data x2 x3 x4 w' r :=
  ⟨h.hb, by rw [b.block _ h.lt]; exact h.blk, h.dat.below b, h.byt, h.len, h.lc, h.le, h.suf, h.ad⟩
theorem Sc.drewN (h : Sc B bs ao cap data x2 x3 x4 w r) (n : Nat) : Sc B bs ao cap data x2 x3 x4 (w.drewN n) r := ⟨h.hb, h.blk, h.dat, h.byt, h.len, h.lc, h.le, h.suf, h.ad⟩
theorem Sc.at_ (h : Sc B bs ao cap data x2 x3 x4 w r) (p : Nat) (hp : p ≤ data.length) : Sc B bs ao cap data x2 x3 x4 (w.setCell ⟨bs, 1, none⟩ (.int .i64 p)) (data.drop p) := by
  have hb := h.hb
  refine ⟨h.hb, ?_, ?_, h.byt, h.len, h.lc, by rw [List.length_drop]; omega, by rw [List.length_drop, show data.length - (data.length - p) = p by omega], h.ad⟩
  · rw [blk_setCell _ h.blk, List.length_drop, show data.length - (data.length - p) = p by omega]; rfl
  · intro i hi
    obtain ⟨b, o, e1, e2, e3⟩ := h.dat i hi
    exact ⟨b, o, e1, e2, by rw [cell_ne _ (by show bs ≠ b; omega)]; exact e3⟩
/-- A suffix of what is left. -/
theorem Sc.set (h : Sc B bs ao cap data x2 x3 x4 w r) (q : List Nat) (k : Nat) (hk : r.drop k = q) (hkl : k ≤ r.length) (p : Nat) (hp : p = data.length - r.length + k) : Sc B bs ao cap data x2 x3 x4 (w.setCell ⟨bs, 1, none⟩ (.int .i64 p)) q := by
  have hl := h.le
  have := h.at_ p (by omega)
  rw [hp, ← List.drop_drop, h.suf, hk] at this
  rw [hp]; exact this
theorem Sc.nthOf (h : Sc B bs ao cap data x2 x3 x4 w r) (i : Nat) (hi : i < r.length) : nth r i = nth data (data.length - r.length + i) := by
  unfold Go.Proofs.YtgkljcmjnphpeaaGreatDoor.nth
  rw [List.getD_eq_getElem?_getD, List.getD_eq_getElem?_getD]
  conv => lhs; rw [← h.suf]
  rw [List.getElem?_drop]
theorem Sc.cons {b : Nat} {t : List Nat} (h : Sc B bs ao cap data x2 x3 x4 w (b :: t)) : data.length - (b :: t).length < data.length ∧ nth data (data.length - (b :: t).length) = b ∧ b < 256 ∧ ∃ bd o, ao = some ⟨bd, o, none⟩ ∧ bd < B ∧ w.cell? ⟨bd, o + (data.length - (b :: t).length), none⟩ = some (.int .u8 (b : Nat)) := by
  have hl := h.le
  have h0 := h.nthOf 0 (by simp)
  have hlt : data.length - (b :: t).length < data.length := by simp only [List.length_cons] at hl ⊢; omega
  have hb : Go.Proofs.YtgkljcmjnphpeaaGreatDoor.nth data (data.length - (b :: t).length) = b := by
    rw [Nat.add_zero] at h0; rw [← h0]; rfl
  obtain ⟨bd, o, e1, e2, e3⟩ := h.dat _ hlt
  refine ⟨hlt, hb, by rw [← hb]; exact h.byt _ hlt, bd, o, e1, e2, by rw [e3, hb]⟩
theorem sleft_ok (h : Sc B bs ao cap data x2 x3 x4 w r) :
    Calls Tryz.prog 190 #[.pointer (some ⟨bs, 0, none⟩)] w fun e w' => e = .returned (.int .i64 (r.length : Nat)) ∧ ∃ m, w' = w.drewN m := by
  have c0 := h.c0
  have c1 := h.c1
  have hl := h.le
  have hn := h.len
  have e1 : ((data.length : Int) - ((data.length - r.length : Nat) : Int)) = ((r.length : Nat) : Int) := by omega
  generalize data.length - r.length = p at *
  go_enter Tryz.func190, Tryz.ntmps190
  go_wp2_with fail
  go_quiet (fail)
  go_wp2
  go_ret
  exact ⟨rfl, nq, rfl⟩
theorem strEq (a b : ByteArray) : (a.toList == b.toList) = decide (a = b) := by
  rw [Bool.eq_iff_iff, beq_iff_eq, decide_eq_true_iff, ByteArray.toList_eq, ByteArray.toList_eq]
  exact ⟨fun h => ByteArray.ext (Array.toList_inj.1 h), fun h => by rw [h]⟩
theorem prefix_iff (s r : List Nat) : s.isPrefixOf r = decide (s.length ≤ r.length ∧ r.take s.length = s) := by
  rw [Bool.eq_iff_iff, List.isPrefixOf_iff_prefix, decide_eq_true_iff]
  constructor
  · intro h
    exact ⟨h.length_le, (List.prefix_iff_eq_take.1 h).symm⟩
  · rintro ⟨_, h⟩
    exact List.prefix_iff_eq_take.2 h.symm
theorem strN_inj {a b : List Nat} (ha : ∀ x ∈ a, x < 256) (hb : ∀ x ∈ b, x < 256) (h : strN a = strN b) : a = b := by
  have h1 : (a.map UInt8.ofNat) = (b.map UInt8.ofNat) := by
    unfold strN at h
    simpa using h
  have e : ∀ l : List Nat, (∀ x ∈ l, x < 256) → (l.map UInt8.ofNat).map UInt8.toNat = l := fun l hl => by
    rw [List.map_map]
    have : l.map (UInt8.toNat ∘ UInt8.ofNat) = l.map id := List.map_congr_left (fun x hx => by simp [Nat.mod_eq_of_lt (hl x hx)])
    simpa using this
  rw [← e a ha, ← e b hb, h1]
theorem Sc.bytes (h : Sc B bs ao cap data x2 x3 x4 w r) : ∀ x ∈ r, x < 256 := by
  intro x hx
  rw [← h.suf] at hx
  have hx' := List.mem_of_mem_drop hx
  obtain ⟨i, hi, rfl⟩ := List.getElem_of_mem hx'
  have := h.byt i hi
  simpa [Go.Proofs.YtgkljcmjnphpeaaGreatDoor.nth, hi] using this
theorem bl_bytes (s : ByteArray) : ∀ x ∈ bl s, x < 256 := by
  intro x hx
  obtain ⟨i, hi, rfl⟩ := List.getElem_of_mem hx
  have := bl_lt s i (by rw [← bl_len]; exact hi)
  simpa [nth, hi] using this
/-- What comes, as a string. -/
theorem Sc.str (h : Sc B bs ao cap data x2 x3 x4 w r) (n c : Nat) (h0 : 0 < n) (hn : n ≤ r.length) {bd o : Nat} (ha : ao = some ⟨bd, o, none⟩) (m : Nat) :
    (convert 23 9 (.slice (some ⟨bd, o + (data.length - r.length), none⟩) n c)).run Tryz.prog (w.drewN m) = .ok (.string (strN (r.take n))) (w.drewN m) := by
  have hl : (r.take n).length = n := by rw [List.length_take]; omega
  have := string_cells (w := w.drewN m) ⟨bd, o + (data.length - r.length), none⟩ c (r.take n) (fun j hj => by
    rw [hl] at hj
    obtain ⟨b', o', e1, e2, e3⟩ := h.dat (data.length - r.length + j) (by have := h.le; omega)
    rw [ha] at e1
    cases e1
    have e4 : Go.Proofs.YtgkljcmjnphpeaaGreatDoor.nth (r.take n) j = Go.Proofs.YtgkljcmjnphpeaaGreatDoor.nth data (data.length - r.length + j) := by
      rw [← h.nthOf j (by omega)]
      unfold Go.Proofs.YtgkljcmjnphpeaaGreatDoor.nth
      rw [List.getD_eq_getElem?_getD, List.getD_eq_getElem?_getD, List.getElem?_take_of_lt hj]
    rw [e4, addr_plus, Nat.add_assoc]
    exact e3)
  rw [hl] at this
  exact this
set_option maxRecDepth 100000 in
set_option maxHeartbeats 1000000 in
theorem sahead_ok (h : Sc B bs ao cap data x2 x3 x4 w r) (s : ByteArray) (h0 : 0 < s.size) (hs : s.size ≤ 1000000) :
    Calls Tryz.prog 138 #[.pointer (some ⟨bs, 0, none⟩), .string s] w fun e w' => e = .returned (.bool ((bl s).isPrefixOf r)) ∧ ∃ m, w' = w.drewN m := by
  have H := hide h
  have c0 := h.c0
  have c1 := h.c1
  have hl := h.le
  have hn := h.len
  obtain ⟨hlc, hcm⟩ := h.lc
  clear h
  by_cases hle : s.size ≤ r.length
  · have t1 : decide ((s.size : Int) ≤ (r.length : Int)) = true := by simp; omega
    obtain ⟨bd, o, rfl, _⟩ : ∃ bd o, ao = some ⟨bd, o, none⟩ ∧ bd < B := by
      obtain ⟨b, o, e1, e2, _⟩ := H.out.dat 0 (by omega)
      exact ⟨b, o, e1, e2⟩
    have hcv := fun m => H.out.str s.size (cap - (data.length - r.length)) h0 hle rfl m
    have HE : Hid (decide (strN (r.take s.size) = s) = (bl s).isPrefixOf r) := by
      unfold Hid
      rw [prefix_iff, decide_eq_decide, bl_len]
      constructor
      · intro e
        exact ⟨hle, strN_inj (fun x hx => H.out.bytes x (List.mem_of_mem_take hx)) (bl_bytes s) (e.trans (strN_bl s).symm)⟩
      · rintro ⟨_, e⟩
        rw [e, strN_bl]
    generalize hT : strN (r.take s.size) = T at *
    clear hT
    have hpn : (data.length - r.length) + s.size ≤ data.length := by omega
    have hpl : data.length - r.length ≤ data.length := by omega
    generalize data.length - r.length = p at *
    have hw : IntKind.i64.wrap ((p : Int) + (s.size : Int)) = ((p + s.size : Nat) : Int) := by rw [IntKind.wrap_i64]; omega
    have hA : (0 : Int) ≤ (p : Int) + (s.size : Int) := by omega
    have hA2 : (p : Int) + (s.size : Int) ≤ (cap : Int) := by omega
    have hA3 : ((p : Int) + (s.size : Int)).toNat = p + s.size := by omega
    have hA4 : ¬ cap = p := by omega
    go_enter Tryz.func138, Tryz.ntmps138
    go_wp2_with fail
    go_quiet ((go_at_call 190; exact Calls.quiet_of (sleft_ok (H.out.drewN _))))
    go_wp2
    go_ret
    exact ⟨by rw [← HE.out, ← strEq]; rfl, nq, rfl⟩
  · have t1 : decide ((s.size : Int) ≤ (r.length : Int)) = false := by simp; omega
    have hp : (bl s).isPrefixOf r = false := by
      rw [prefix_iff, decide_eq_false_iff_not, bl_len]
      exact fun x => hle x.1
    rw [hp]
    generalize data.length - r.length = p at *
    go_enter Tryz.func138, Tryz.ntmps138
    go_wp2_with fail
    go_quiet ((go_at_call 190; exact Calls.quiet_of (sleft_ok (H.out.drewN _))))
    go_wp2
    go_ret
    exact ⟨rfl, nq, rfl⟩
theorem Fo.takes_none {s r : List Nat} (h : s.isPrefixOf r = false) : Fo.takes s r = none := by unfold Fo.takes; rw [h]; rfl
theorem Fo.takes_some {s r : List Nat} (h : s.isPrefixOf r = true) : Fo.takes s r = some (r.drop s.length) := by unfold Fo.takes; rw [h]; rfl
/-- What takes does: a scanner that has gone on, or that stands. -/
def TakesTo (B bs : Nat) (ao : Option Addr) (cap : Nat) (data : List Nat) (x2 x3 x4 : Value) (w : World) (r : List Nat) (o : Option (List Nat)) (e : Ending) (w' : World) : Prop :=
  e = .returned (.bool o.isSome) ∧ Sc B bs ao cap data x2 x3 x4 w' (o.getD r) ∧ Only bs w w'
set_option maxRecDepth 100000 in
set_option maxHeartbeats 1000000 in
theorem stakes_ok (h : Sc B bs ao cap data x2 x3 x4 w r) (s : ByteArray) (h0 : 0 < s.size) (hs : s.size ≤ 1000000) :
    Calls Tryz.prog 136 #[.pointer (some ⟨bs, 0, none⟩), .string s] w (TakesTo B bs ao cap data x2 x3 x4 w r (Fo.takes (bl s) r)) := by
  have H := hide h
  have hl := h.le
  have hn := h.len
  have HA := hide (sahead_ok h s h0 hs)
  clear h
  cases hp : (bl s).isPrefixOf r
  · rw [hp] at HA
    rw [Fo.takes_none hp]
    go_enter Tryz.func136, Tryz.ntmps136
    go_wp2_with fail
    refine HA.out.mono ?_
    rintro e w1 ⟨rfl, m, rfl⟩
    go_wp2
    go_ret
    exact ⟨rfl, H.out.drewN m, (Only.refl _ _).drewN m⟩
  · rw [hp] at HA
    rw [Fo.takes_some hp]
    have hpl := (List.isPrefixOf_iff_prefix.1 hp).length_le
    rw [bl_len] at hpl
    have HS : Hid (∀ m, Sc B bs ao cap data x2 x3 x4 ((w.drewN m).setCell ⟨bs, 1, none⟩ (.int .i64 (data.length - r.length + s.size : Nat))) (r.drop (bl s).length)) := fun m =>
      (H.out.drewN m).set _ s.size (by rw [bl_len]) hpl _ rfl
    have c1 := H.out.c1
    have f1 := H.out.fz 1
    have hpn : (data.length - r.length) + s.size ≤ data.length := by omega
    clear hp
    generalize data.length - r.length = p at *
    go_enter Tryz.func136, Tryz.ntmps136
    go_wp2_with fail
    refine HA.out.mono ?_
    rintro e w1 ⟨rfl, m, rfl⟩
    go_wp2
    go_ret
    exact ⟨rfl, HS.out m, ((Only.refl _ _).drewN m).setCell _ _⟩
theorem smust_yes (w : World) : Calls Tryz.prog 99 #[.bool true] w fun e w' => e = .returned (.tuple #[]) ∧ w' = w := by
  go_enter Tryz.func99, Tryz.ntmps99
  go_wp2
  go_end0
  exact ⟨rfl, rfl⟩
theorem smust_no (w : World) : Calls Tryz.prog 99 #[.bool false] w fun e w' => e = gaveUp 4 ∧ w' = w := by
  unfold gaveUp
  go_enter Tryz.func99, Tryz.ntmps99
  go_wp2
  exact ⟨rfl, rfl, rfl⟩
end Go.Proofs.YtgkljcmjnphpeaaGreatDoor
namespace Go.Proofs.YtgkljcmjnphpeaaGreatDoor
open Go.RowKit
variable {B cap : Nat} {ao : Option Addr} {d : List Nat} {w : World} {p : Nat}
set_option maxRecDepth 100000 in
set_option maxHeartbeats 1000000 in
theorem skip_cells (hdat0 : Dat w B ao d) (b1 : d.length ≤ cap) (b2 : cap ≤ 9223372036854775807) (lp : p ≤ d.length) :
    Calls Tryz.prog 188 #[.slice ao d.length cap, .int .i64 p] w fun e w' => e = .returned (.int .i64 (skipW d p : Nat)) ∧ w' = w := by
  have hdat := hide hdat0
  clear hdat0
  go_enter Tryz.func188, Tryz.ntmps188
  go_wp2
  refine wp_scope_jumps 0 (fun a' w' => w' = w ∧ ∃ (m : Nat) (y105 y106 y107 y108 y109 y110 y111 y112 y113 y114 y115 y116 y117 y118 : Value), a' = { tmps := #[.slice ao d.length cap, .int .i64 m, undef, undef, .int .i64 0, y105, y106, y107, y108, y109, y110, y111, y112, y113, y114, y115, y116, y117, y118], defers := [] } ∧ m ≤ d.length ∧ Hid (skipW d m = skipW d p)) (fun a' _ => d.length - (intOf (a'.tmps.getD 1 undef)).toNat) rfl ?_ ?_
  · by_cases c : p < d.length
    · have c' : (p : Int) < d.length := by omega
      obtain ⟨bd, off, rfl, _, hd⟩ := hdat.out p c
      cases hw : whiteB (nth d p)
      · have hs : skipW d p = p := skipW_stop (fun h => by rw [hw] at h; cases h.2)
        go_wp2
        go_step3
        go_wp2_with (go_at_call 250; refine (white_ok _ _).mono ?_; rintro e w' ⟨rfl, rfl⟩; rw [hw])
        simp only [Exit.jump]
        go_ret
        exact ⟨by rw [hs]; rfl, rfl⟩
      · have hs := skipW_step c hw
        go_wp2
        go_step3
        go_wp2_with (go_at_call 250; refine (white_ok _ _).mono ?_; rintro e w' ⟨rfl, rfl⟩; rw [hw])
        go_step3
        refine ⟨rfl, rfl, p + 1, _, _, _, _, _, _, _, _, _, _, _, _, _, _, rfl, by omega, hs.symm⟩
    · have c' : ¬ (p : Int) < d.length := by omega
      have hs : skipW d p = p := skipW_stop (fun h => c h.1)
      go_wp2
      go_step3
      go_wp2
      simp only [Exit.jump]
      go_ret
      exact ⟨by rw [hs]; rfl, rfl⟩
  · rintro a' w' ⟨rfl, m, y105, y106, y107, y108, y109, y110, y111, y112, y113, y114, y115, y116, y117, y118, rfl, hm, HS⟩
    by_cases c : m < d.length
    · have c' : (m : Int) < d.length := by omega
      obtain ⟨bd, off, rfl, _, hd⟩ := hdat.out m c
      cases hw : whiteB (nth d m)
      · have hs : skipW d m = m := skipW_stop (fun h => by rw [hw] at h; cases h.2)
        go_wp2_with (go_at_call 250; refine (white_ok _ _).mono ?_; rintro e w' ⟨rfl, rfl⟩; rw [hw])
        simp only [Exit.jump]
        go_ret
        exact ⟨by rw [← HS.out, hs]; rfl, rfl⟩
      · have hs := skipW_step c hw
        go_wp2_with (go_at_call 250; refine (white_ok _ _).mono ?_; rintro e w' ⟨rfl, rfl⟩; rw [hw])
        go_step3
        refine ⟨rfl, ⟨rfl, m + 1, _, _, _, _, _, _, _, _, _, _, _, _, _, _, rfl, by omega, hs.symm.trans HS.out⟩, ?_⟩
        simp [intOf]; omega
    · have c' : ¬ (m : Int) < d.length := by omega
      have hs : skipW d m = m := skipW_stop (fun h => c h.1)
      go_wp2
      simp only [Exit.jump]
      go_ret
      exact ⟨by rw [← HS.out, hs]; rfl, rfl⟩
theorem drop_cons {d : List Nat} {p : Nat} (h : p < d.length) : d.drop p = nth d p :: d.drop (p + 1) := by
  rw [List.drop_eq_getElem_cons h]
  simp [nth, h]
theorem drop_skipW (d : List Nat) : ∀ (k p : Nat), d.length - p = k → d.drop (skipW d p) = (d.drop p).dropWhile whiteB
  | 0, p, h => by
    rw [skipW_stop (fun c => by omega), List.drop_of_length_le (by omega)]; rfl
  | k + 1, p, h => by
    have hp : p < d.length := by omega
    rw [drop_cons hp, List.dropWhile_cons]
    cases hw : whiteB (nth d p)
    · rw [skipW_stop (fun c => by rw [hw] at c; cases c.2), drop_cons hp]; rfl
    · rw [skipW_step hp hw, drop_skipW d k (p + 1) (by omega)]; rfl
/-- The first place from p on that ends a line, or the end. -/
def lineAt (d : List Nat) (p : Nat) : Nat := d.length - (Fo.skipLine (d.drop p)).length
theorem suffix_drop {a d : List Nat} (h : a <:+ d) : d.drop (d.length - a.length) = a := by
  obtain ⟨t, rfl⟩ := h
  rw [List.length_append, Nat.add_sub_cancel, List.drop_left]
theorem skipLine_suf : ∀ r : List Nat, Fo.skipLine r <:+ r
  | [] => List.suffix_refl _
  | b :: r => by
    simp only [Fo.skipLine]
    split
    · exact List.suffix_refl _
    · exact (skipLine_suf r).trans (List.suffix_cons b r)
theorem lineAt_here {d : List Nat} {p : Nat} (hp : p < d.length) (h : nth d p = 10 ∨ nth d p = 13) : lineAt d p = p := by
  unfold lineAt
  rw [drop_cons hp, Fo.skipLine, if_pos h, ← drop_cons hp, List.length_drop]; omega
theorem lineAt_end {d : List Nat} {p : Nat} (hp : ¬ p < d.length) (hl : p ≤ d.length) : lineAt d p = p := by
  unfold lineAt
  rw [List.drop_of_length_le (by omega)]
  simp [Fo.skipLine]; omega
theorem lineAt_on {d : List Nat} {p : Nat} (hp : p < d.length) (h : ¬ (nth d p = 10 ∨ nth d p = 13)) : lineAt d (p + 1) = lineAt d p := by
  unfold lineAt
  rw [drop_cons hp, Fo.skipLine, if_neg h]
set_option maxRecDepth 100000 in
set_option maxHeartbeats 1000000 in
theorem line_cells (hdat0 : Dat w B ao d) (b1 : d.length ≤ cap) (b2 : cap ≤ 9223372036854775807) (lp : p ≤ d.length) :
    Calls Tryz.prog 189 #[.slice ao d.length cap, .int .i64 p] w fun e w' => e = .returned (.int .i64 (lineAt d p : Nat)) ∧ w' = w := by
  have hdat := hide hdat0
  clear hdat0
  generalize hL : lineAt d p = L at *
  have HL := hide hL
  clear hL
  go_enter Tryz.func189, Tryz.ntmps189
  go_wp2
  go_loopw [1] (fun i wr => ∃ k : Nat, k ≤ d.length ∧ i = .int .i64 k ∧ Hid (lineAt d k = L) ∧ wr = w) (fun i _ => d.length - (intOf i).toNat)
  case atStart => exact ⟨p, lp, rfl, HL, rfl⟩
  clear HL
  case round =>
    obtain ⟨k, hk, rfl, HK, rfl⟩ := hrel
    by_cases c : k < d.length
    · have c' : (k : Int) < d.length := by omega
      obtain ⟨bd, off, rfl, _, hd⟩ := hdat.out k c
      by_cases h1 : nth d k = 10
      · have hs := lineAt_here c (Or.inl h1)
        have HX := hide (hs.symm.trans HK.out)
        rw [h1] at hd
        clear h1 hs HK
        go_wp2
        go_ret
        exact ⟨by rw [← HX.out]; rfl, rfl⟩
      · by_cases h2 : nth d k = 13
        · have hs := lineAt_here c (Or.inr h2)
          have HX := hide (hs.symm.trans HK.out)
          rw [h2] at hd
          clear h1 h2 hs HK
          go_wp2
          go_ret
          exact ⟨by rw [← HX.out]; rfl, rfl⟩
        · have HX := hide ((lineAt_on c (fun x => x.elim h1 h2)).trans HK.out)
          have h1' : ((nth d k : Int) != 10) = true := by simp; omega
          have h2' : ((nth d k : Int) != 13) = true := by simp; omega
          generalize nth d k = z at *
          clear h1 h2 HK
          go_wp2
          go_roundw
          case rel => exact ⟨k + 1, by omega, by go_num, HX, trivial⟩
          case measure => simp [intOf]; omega
    · have c' : ¬ (k : Int) < d.length := by omega
      have HX := hide ((lineAt_end c hk).symm.trans HK.out)
      clear HK
      go_wp2
      go_ret
      exact ⟨by rw [← HX.out]; rfl, rfl⟩
end Go.Proofs.YtgkljcmjnphpeaaGreatDoor
namespace Go.Proofs.YtgkljcmjnphpeaaGreatDoor
open Go.RowKit
variable {B bs cap : Nat} {ao : Option Addr} {data : List Nat} {x2 x3 x4 : Value} {w w' : World} {r q : List Nat}
/-- Where a scanner stands. -/
def posS (bs : Nat) (w : World) : Nat := (intOf ((w.cell? ⟨bs, 1, none⟩).getD undef)).toNat
theorem Sc.posS (h : Sc B bs ao cap data x2 x3 x4 w r) : posS bs w = data.length - r.length := by unfold Go.Proofs.YtgkljcmjnphpeaaGreatDoor.posS; rw [h.c1]; simp [intOf]
theorem bl_one (x : UInt8) : bl { data := #[x] } = [x.toNat] := rfl
theorem head_is {r : List Nat} (h : ([37] : List Nat).isPrefixOf r = true) : ∃ t, r = 37 :: t := by
  cases r with
  | nil => cases h
  | cons a t => simp [List.isPrefixOf] at h; exact ⟨t, by rw [h]⟩
theorem head_not {r : List Nat} (h : ([37] : List Nat).isPrefixOf r = false) (hw : ∀ b t, r = b :: t → whiteB b = false) : Fo.skip r = r := by
  cases r with
  | nil => rfl
  | cons a t =>
    refine Fo.skip_stop (hw a t rfl) (fun e => ?_)
    subst e; simp [List.isPrefixOf] at h
theorem dropWhile_head {p : Nat → Bool} : ∀ (r : List Nat) (b : Nat) (t : List Nat), r.dropWhile p = b :: t → p b = false
  | [], b, t, h => by cases h
  | x :: r, b, t, h => by
    rw [List.dropWhile_cons] at h
    cases hp : p x
    · rw [hp] at h; cases h; exact hp
    · rw [hp] at h; exact dropWhile_head r b t h
/-- One look of skip: white first. -/
theorem Sc.white (h : Sc B bs ao cap data x2 x3 x4 w r) : Calls Tryz.prog 188 #[.slice ao data.length cap, .int .i64 (data.length - r.length : Nat)] w.drew fun e w' => e = .returned (.int .i64 (data.length - (r.dropWhile whiteB).length : Nat)) ∧ w' = w.drew := by
  have hl := h.le
  have k := skip_cells (w := w.drew) (B := B) (p := data.length - r.length) (h.dat.other (fun _ _ => rfl)) h.lc.1 h.lc.2 (by omega)
  refine k.mono ?_
  rintro e w' ⟨rfl, rfl⟩
  have e := drop_skipW data _ (data.length - r.length) rfl
  rw [h.suf] at e
  rw [← e, List.length_drop]
  have := skipW_le (d := data) (p := data.length - r.length) (by omega)
  rw [show data.length - (data.length - skipW data (data.length - r.length)) = skipW data (data.length - r.length) by omega]
  exact ⟨rfl, rfl⟩
theorem Sc.line (h : Sc B bs ao cap data x2 x3 x4 w r) : Calls Tryz.prog 189 #[.slice ao data.length cap, .int .i64 (data.length - r.length : Nat)] w.drew fun e w' => e = .returned (.int .i64 (data.length - (Fo.skipLine r).length : Nat)) ∧ w' = w.drew := by
  have hl := h.le
  have k := line_cells (w := w.drew) (B := B) (p := data.length - r.length) (h.dat.other (fun _ _ => rfl)) h.lc.1 h.lc.2 (by omega)
  refine k.mono ?_
  rintro e w' ⟨rfl, rfl⟩
  unfold lineAt
  rw [h.suf]
  exact ⟨rfl, rfl⟩
theorem Sc.drew (h : Sc B bs ao cap data x2 x3 x4 w r) : Sc B bs ao cap data x2 x3 x4 w.drew r := h.drewN 1
/-- Gone on to what is left of it. -/
theorem Sc.go (h : Sc B bs ao cap data x2 x3 x4 w r) (hq : q <:+ r) : Sc B bs ao cap data x2 x3 x4 (w.setCell ⟨bs, 1, none⟩ (.int .i64 (data.length - q.length : Nat))) q := by
  have hl := h.le
  have hql := hq.length_le
  have := h.at_ (data.length - q.length) (by omega)
  have e : data.drop (data.length - q.length) = q := suffix_drop (hq.trans (by rw [← h.suf]; exact List.drop_suffix _ _))
  rw [e] at this; exact this
set_option maxRecDepth 100000 in
set_option maxHeartbeats 1000000 in
theorem sskip_ok (h : Sc B bs ao cap data x2 x3 x4 w r) :
    Calls Tryz.prog 137 #[.pointer (some ⟨bs, 0, none⟩)] w fun e w' => e = .returned (.tuple #[]) ∧ Sc B bs ao cap data x2 x3 x4 w' (Fo.skip r) ∧ Only bs w w' := by
  have H := hide h
  have hn := h.len
  clear h
  generalize hR : Fo.skip r = R at *
  have HR := hide hR
  clear hR
  go_enter Tryz.func137, Tryz.ntmps137
  go_wp2
  refine wp_scope_jumps 0 (fun a' w' => ∃ (q : List Nat) (y2 y3 y4 y5 y6 y7 y8 y9 y10 y11 y12 y13 y14 y15 y16 y17 y18 y19 y20 y21 y22 y23 y24 y25 y26 y27 : Value), a' = { tmps := #[.pointer (some ⟨bs, 0, none⟩), undef, y2, y3, y4, y5, y6, y7, y8, y9, y10, y11, y12, y13, y14, y15, y16, y17, y18, y19, y20, y21, y22, y23, y24, y25, y26, y27], defers := [] } ∧ Hid (Sc B bs ao cap data x2 x3 x4 w' q) ∧ Hid (Fo.skip q = R) ∧ Hid (Only bs w w')) (fun _ w' => data.length - posS bs w') rfl ?_ ?_
  · have c0 := H.out.c0
    have c1 := H.out.c1
    have f1 := H.out.fz 1
    have hle := H.out.le
    have HW := hide H.out.white
    have H1 := hide ((H.out.go (List.dropWhile_suffix whiteB)).drew)
    have HWH : Hid (∀ b t, r.dropWhile whiteB = b :: t → whiteB b = false) := dropWhile_head r
    have HSK := hide (Fo.skip_white r)
    have hdl := Fo.dropWhile_len (p := whiteB) r
    have HO1 : Hid (Only bs w (w.setCell ⟨bs, 1, none⟩ (.int .i64 (data.length - (r.dropWhile whiteB).length : Nat))).drew) := ((Only.refl bs w).setCell _ _).drewN 1
    generalize r.dropWhile whiteB = q1 at *
    have hq1 : data.length - q1.length ≤ 200000 := by omega
    have HP := hide (show data.length - r.length ≤ data.length - q1.length by omega)
    generalize hp : data.length - r.length = p at c1 HW
    generalize hp1 : data.length - q1.length = p1 at HW H1 HO1
    have HP1 := hide hp1
    have HP0 := hide hp
    clear hp1 hp
    go_wp2_with fail
    go_step3
    go_wp2_with fail
    go_region_with (go_at_call 188; refine HW.out.mono ?_; rintro e w' ⟨rfl, rfl⟩)
    all_goals (
      clear c0 c1 f1
      generalize hw1 : (w.setCell ⟨bs, 1, none⟩ (.int .i64 (p1 : Nat))).drew = w1 at *
      clear hw1
      have HA := hide (sahead_ok H1.out { data := #[37] } (by decide) (by decide))
      rw [bl_one] at HA
      cases hpre : ([37] : List Nat).isPrefixOf q1
      · have HE := hide (head_not hpre HWH.out)
        rw [show (UInt8.toNat 37) = 37 from rfl, hpre] at HA
        go_wp2_with fail
        refine HA.out.mono ?_
        rintro e w2 ⟨rfl, m, rfl⟩
        go_wp2
        simp only [Exit.jump]
        go_end0
        have hR : q1 = R := by rw [← HR.out, HSK.out, HE.out]
        refine ⟨rfl, ?_, HO1.out.drewN m⟩
        rw [← hR]; exact H1.out.drewN m
      · obtain ⟨t, rfl⟩ := head_is hpre
        rw [show (UInt8.toNat 37) = 37 from rfl, hpre] at HA
        go_wp2_with fail
        refine HA.out.mono ?_
        rintro e w2 ⟨rfl, m, rfl⟩
        have H2 := hide (H1.out.drewN m)
        have HO2 := hide (HO1.out.drewN m)
        clear H1 HO1 HA
        generalize hw2 : w1.drewN m = w2 at *
        clear hw2
        have d0 := H2.out.c0
        have d1 := H2.out.c1
        have g1 := H2.out.fz 1
        have HLN := hide H2.out.line
        have hsl : Fo.skipLine (37 :: t) = Fo.skipLine t := by simp [Fo.skipLine]
        have H3 := hide ((H2.out.go (q := Fo.skipLine t) (by rw [← hsl]; exact skipLine_suf _)).drew)
        have hl3 := Fo.skipLine_len t
        have HO3 : Hid (Only bs w (w2.setCell ⟨bs, 1, none⟩ (.int .i64 (data.length - (Fo.skipLine t).length : Nat))).drew) := (HO2.out.setCell _ _).drewN 1
        rw [hsl] at HLN
        have HR3 : Hid (Fo.skip (Fo.skipLine t) = R) := by rw [← HR.out, HSK.out, Fo.skip_percent]; exact rfl
        have hlt := H2.out.le
        simp only [List.length_cons] at hlt hdl
        have HM3 := hide (show data.length - (data.length - (Fo.skipLine t).length) < data.length - (data.length - r.length) by omega)
        generalize Fo.skipLine t = q3 at *
        generalize hp2 : data.length - (37 :: t).length = p2 at d1 HLN
        have hq3 : data.length - q3.length ≤ 200000 := by omega
        generalize hp3 : data.length - q3.length = p3 at HLN H3 HO3
        clear hp2
        go_wp2_with fail
        go_region_with (go_at_call 189; refine HLN.out.mono ?_; rintro e w' ⟨rfl, rfl⟩)
        all_goals (
          clear d0 d1 g1 HLN H2 HO2
          go_wp2
          go_step3
          exact ⟨rfl, _, _, _, _, _, _, _, _, _, _, _, _, _, _, _, _, _, _, _, _, _, _, _, _, _, _, _, rfl, H3, HR3, HO3⟩))
  · rintro a' w0 ⟨q, y2, y3, y4, y5, y6, y7, y8, y9, y10, y11, y12, y13, y14, y15, y16, y17, y18, y19, y20, y21, y22, y23, y24, y25, y26, y27, rfl, HQ, HRQ, HOQ⟩
    have c0 := HQ.out.c0
    have c1 := HQ.out.c1
    have f1 := HQ.out.fz 1
    have hle := HQ.out.le
    have HW := hide HQ.out.white
    have H1 := hide ((HQ.out.go (List.dropWhile_suffix whiteB)).drew)
    have HWH : Hid (∀ b t, q.dropWhile whiteB = b :: t → whiteB b = false) := dropWhile_head q
    have HSK := hide (Fo.skip_white q)
    have hdl := Fo.dropWhile_len (p := whiteB) q
    have HO1 : Hid (Only bs w (w0.setCell ⟨bs, 1, none⟩ (.int .i64 (data.length - (q.dropWhile whiteB).length : Nat))).drew) := (HOQ.out.setCell _ _).drewN 1
    generalize q.dropWhile whiteB = q1 at *
    have hq1 : data.length - q1.length ≤ 200000 := by omega
    have HP := hide (show data.length - q.length ≤ data.length - q1.length by omega)
    generalize hp : data.length - q.length = p at c1 HW
    generalize hp1 : data.length - q1.length = p1 at HW H1 HO1
    have HP1 := hide hp1
    have HP0 := hide hp
    clear hp1 hp
    go_wp2_with fail
    go_region_with (go_at_call 188; refine HW.out.mono ?_; rintro e w' ⟨rfl, rfl⟩)
    all_goals (
      clear c0 c1 f1
      generalize hw1 : (w0.setCell ⟨bs, 1, none⟩ (.int .i64 (p1 : Nat))).drew = w1 at *
      clear hw1
      have HA := hide (sahead_ok H1.out { data := #[37] } (by decide) (by decide))
      rw [bl_one] at HA
      cases hpre : ([37] : List Nat).isPrefixOf q1
      · have HE := hide (head_not hpre HWH.out)
        rw [show (UInt8.toNat 37) = 37 from rfl, hpre] at HA
        go_wp2_with fail
        refine HA.out.mono ?_
        rintro e w2 ⟨rfl, m, rfl⟩
        go_wp2
        simp only [Exit.jump]
        go_end0
        have hR : q1 = R := by rw [← HRQ.out, HSK.out, HE.out]
        refine ⟨rfl, ?_, HO1.out.drewN m⟩
        rw [← hR]; exact H1.out.drewN m
      · obtain ⟨t, rfl⟩ := head_is hpre
        rw [show (UInt8.toNat 37) = 37 from rfl, hpre] at HA
        go_wp2_with fail
        refine HA.out.mono ?_
        rintro e w2 ⟨rfl, m, rfl⟩
        have H2 := hide (H1.out.drewN m)
        have HO2 := hide (HO1.out.drewN m)
        clear H1 HO1 HA
        generalize hw2 : w1.drewN m = w2 at *
        clear hw2
        have d0 := H2.out.c0
        have d1 := H2.out.c1
        have g1 := H2.out.fz 1
        have HLN := hide H2.out.line
        have hsl : Fo.skipLine (37 :: t) = Fo.skipLine t := by simp [Fo.skipLine]
        have H3 := hide ((H2.out.go (q := Fo.skipLine t) (by rw [← hsl]; exact skipLine_suf _)).drew)
        have hl3 := Fo.skipLine_len t
        have HO3 : Hid (Only bs w (w2.setCell ⟨bs, 1, none⟩ (.int .i64 (data.length - (Fo.skipLine t).length : Nat))).drew) := (HO2.out.setCell _ _).drewN 1
        rw [hsl] at HLN
        have HR3 : Hid (Fo.skip (Fo.skipLine t) = R) := by rw [← HRQ.out, HSK.out, Fo.skip_percent]; exact rfl
        have hlt := H2.out.le
        simp only [List.length_cons] at hlt hdl
        have HM3 := hide (show data.length - (data.length - (Fo.skipLine t).length) < data.length - (data.length - q.length) by omega)
        generalize Fo.skipLine t = q3 at *
        generalize hp2 : data.length - (37 :: t).length = p2 at d1 HLN
        have hq3 : data.length - q3.length ≤ 200000 := by omega
        generalize hp3 : data.length - q3.length = p3 at HLN H3 HO3
        clear hp2
        go_wp2_with fail
        go_region_with (go_at_call 189; refine HLN.out.mono ?_; rintro e w' ⟨rfl, rfl⟩)
        all_goals (
          clear d0 d1 g1 HLN H2 HO2
          go_wp2
          go_step3
          refine ⟨rfl, ⟨_, _, _, _, _, _, _, _, _, _, _, _, _, _, _, _, _, _, _, _, _, _, _, _, _, _, _, rfl, H3, HR3, HO3⟩, ?_⟩
          rw [H3.out.posS, HQ.out.posS]
          exact HM3.out))
end Go.Proofs.YtgkljcmjnphpeaaGreatDoor
namespace Go.Proofs.YtgkljcmjnphpeaaGreatDoor
open Go.RowKit
variable {B bs cap : Nat} {ao : Option Addr} {data : List Nat} {x2 x3 x4 : Value} {w w' : World} {r q : List Nat}
theorem conv_empty (a : Option Addr) (c : Nat) (W : World) : (convert 23 9 (.slice a 0 c)).run Tryz.prog W = .ok (.string { data := #[] }) W := by
  cases a with
  | none =>
    rw [run_convert_bytes_string W 23 9 5 none 0 c Tryz.underlying23 Tryz.underlying5 Tryz.underlying9]
    rfl
  | some a => exact string_cells a c [] (fun j hj => by cases hj)
/-- What take gives of memory. -/
def Taken (w : World) (B : Nat) (l : List Nat) (v : Value) : Prop := ∃ bd o c, v = .slice (some ⟨bd, o, none⟩) l.length c ∧ bd < B ∧ l.length ≤ c ∧ c ≤ 9223372036854775807 ∧ ∀ i, i < l.length → w.cell? ⟨bd, o + i, none⟩ = some (.int .u8 (nth l i : Nat))
theorem Sc.taken (h : Sc B bs ao cap data x2 x3 x4 w r) (n : Nat) (hn : n ≤ r.length) {bd o : Nat} (ha : ao = some ⟨bd, o, none⟩) (hb : bd < B) (W : World) (hW : ∀ k, k < B → W.heap[k]? = w.heap[k]?) :
    Taken W B (r.take n) (.slice (if cap = data.length - r.length then some ⟨bd, o, none⟩ else some ⟨bd, o + (data.length - r.length), none⟩) n (cap - (data.length - r.length))) := by
  have hl : (r.take n).length = n := by rw [List.length_take]; omega
  have hle := h.le
  have hlc := h.lc
  have hcell : ∀ i, i < n → W.cell? ⟨bd, o + (data.length - r.length) + i, none⟩ = some (.int .u8 (Go.Proofs.YtgkljcmjnphpeaaGreatDoor.nth (r.take n) i : Nat)) := fun i hi => by
    obtain ⟨b', o', e1, e2, e3⟩ := h.dat (data.length - r.length + i) (by omega)
    rw [ha] at e1
    cases e1
    rw [World.cell?_of_block (w := w) (hW _ e2)]
    have e4 : Go.Proofs.YtgkljcmjnphpeaaGreatDoor.nth (r.take n) i = Go.Proofs.YtgkljcmjnphpeaaGreatDoor.nth data (data.length - r.length + i) := by
      rw [← h.nthOf i (by omega)]
      unfold Go.Proofs.YtgkljcmjnphpeaaGreatDoor.nth
      rw [List.getD_eq_getElem?_getD, List.getD_eq_getElem?_getD, List.getElem?_take_of_lt hi]
    rw [e4, Nat.add_assoc]; exact e3
  by_cases hc : cap = data.length - r.length
  · rw [if_pos hc]
    refine ⟨bd, o, cap - (data.length - r.length), by rw [hl], hb, by rw [hl]; omega, by omega, fun i hi => ?_⟩
    rw [hl] at hi; omega
  · rw [if_neg hc]
    refine ⟨bd, o + (data.length - r.length), cap - (data.length - r.length), by rw [hl], hb, by rw [hl]; omega, by omega, fun i hi => ?_⟩
    rw [hl] at hi; exact hcell i hi
set_option maxRecDepth 100000 in
set_option maxHeartbeats 1000000 in
theorem stake_ok (h : Sc B bs ao cap data x2 x3 x4 w r) (n : Nat) (hn : n ≤ r.length) :
    Calls Tryz.prog 257 #[.pointer (some ⟨bs, 0, none⟩), .int .i64 n] w fun e w' => ∃ v, e = .returned v ∧ Taken w' B (r.take n) v ∧ Sc B bs ao cap data x2 x3 x4 w' (r.drop n) ∧ Only bs w w' := by
  have H := hide h
  obtain ⟨bd, o, rfl, hbd⟩ := h.ad
  have c0 := h.c0
  have c1 := h.c1
  have f1 := h.fz 1
  have hb := h.hb
  have hle := h.le
  have hln := h.len
  obtain ⟨hlc, hcm⟩ := h.lc
  have HS : Hid (∀ m, Sc B bs (some ⟨bd, o, none⟩) cap data x2 x3 x4 ((w.drewN m).setCell ⟨bs, 1, none⟩ (.int .i64 (data.length - r.length + n : Nat))) (r.drop n)) := fun m => (H.out.drewN m).set _ n rfl hn _ rfl
  have HT : Hid (∀ m, Taken ((w.drewN m).setCell ⟨bs, 1, none⟩ (.int .i64 (data.length - r.length + n : Nat))) B (r.take n) (.slice (if cap = data.length - r.length then some ⟨bd, o, none⟩ else some ⟨bd, o + (data.length - r.length), none⟩) n (cap - (data.length - r.length)))) := fun m => H.out.taken n hn rfl hbd _ (fun k hk => blk_setCell_ne _ (by omega))
  clear h
  have hnI : (n : Int) ≤ (r.length : Int) := by omega
  have hpn : data.length - r.length + n ≤ data.length := by omega
  generalize data.length - r.length = p at *
  have hw : IntKind.i64.wrap ((p : Int) + (n : Int)) = ((p + n : Nat) : Int) := by rw [IntKind.wrap_i64]; omega
  have hA : (0 : Int) ≤ (p : Int) + (n : Int) := by omega
  have hA2 : (p : Int) + (n : Int) ≤ (cap : Int) := by omega
  have hA3 : ((p : Int) + (n : Int)).toNat = p + n := by omega
  by_cases hcp : cap = p
  · subst hcp
    simp only [if_true, Nat.sub_self] at HT
    go_enter Tryz.func257, Tryz.ntmps257
    go_wp2_with fail
    refine (sleft_ok H.out).mono ?_
    rintro e w1 ⟨rfl, m1, rfl⟩
    go_wp2_with fail
    refine (within_int_yes _ _ _ _ (by omega) hnI).mono ?_
    rintro e w1 ⟨rfl, rfl⟩
    go_wp2_with fail
    refine (smust_yes _).mono ?_
    rintro e w1 ⟨rfl, rfl⟩
    go_wp2_with fail
    go_quiet (fail)
    go_wp2
    go_ret
    exact ⟨_, rfl, HT.out _, HS.out _, ((Only.refl _ _).drewN _).setCell _ _⟩
  · simp only [if_neg hcp] at HT
    go_enter Tryz.func257, Tryz.ntmps257
    go_wp2_with fail
    refine (sleft_ok H.out).mono ?_
    rintro e w1 ⟨rfl, m1, rfl⟩
    go_wp2_with fail
    refine (within_int_yes _ _ _ _ (by omega) hnI).mono ?_
    rintro e w1 ⟨rfl, rfl⟩
    go_wp2_with fail
    refine (smust_yes _).mono ?_
    rintro e w1 ⟨rfl, rfl⟩
    go_wp2_with fail
    go_quiet (fail)
    go_wp2
    go_ret
    exact ⟨_, rfl, HT.out _, HS.out _, ((Only.refl _ _).drewN _).setCell _ _⟩
theorem stake_no (h : Sc B bs ao cap data x2 x3 x4 w r) (n : Int) (hn : n < 0 ∨ (r.length : Int) < n) :
    Calls Tryz.prog 257 #[.pointer (some ⟨bs, 0, none⟩), .int .i64 n] w fun e w' => e = gaveUp 4 ∧ ∃ m, w' = w.drewN m := by
  have HL := hide (sleft_ok h)
  clear h
  go_enter Tryz.func257, Tryz.ntmps257
  go_wp2_with fail
  refine HL.out.mono ?_
  rintro e w1 ⟨rfl, m1, rfl⟩
  go_wp2_with fail
  refine (within_int_no _ _ _ _ hn).mono ?_
  rintro e w1 ⟨rfl, rfl⟩
  go_wp2_with fail
  refine (smust_no _).mono ?_
  rintro e w1 ⟨rfl, rfl⟩
  exact ⟨rfl, rfl, m1, rfl⟩
theorem snext_ok {b : Nat} {t : List Nat} (h : Sc B bs ao cap data x2 x3 x4 w (b :: t)) :
    Calls Tryz.prog 304 #[.pointer (some ⟨bs, 0, none⟩)] w fun e w' => e = .returned (.int .u8 (b : Nat)) ∧ Sc B bs ao cap data x2 x3 x4 w' t ∧ Only bs w w' := by
  have HK := hide (stake_ok h 1 (by simp))
  clear h
  go_enter Tryz.func304, Tryz.ntmps304
  go_wp2_with fail
  refine HK.out.mono ?_
  rintro e w1 ⟨v, rfl, ⟨bd, o, c, rfl, _, _, _, hc⟩, h1, k1⟩
  have h0 := hc 0 (by simp)
  simp only [List.take_succ_cons, List.take_zero, List.length_cons, List.length_nil] at h0 ⊢
  rw [show nth [b] 0 = b from rfl, Nat.add_zero] at h0
  have H1 := hide h1
  have K1 := hide k1
  clear hc h1 k1
  go_wp2
  go_ret
  exact ⟨rfl, H1.out, K1.out⟩
theorem snext_no (h : Sc B bs ao cap data x2 x3 x4 w []) :
    Calls Tryz.prog 304 #[.pointer (some ⟨bs, 0, none⟩)] w fun e w' => e = gaveUp 4 ∧ ∃ m, w' = w.drewN m := by
  have HK := hide (stake_no h 1 (Or.inr (by simp)))
  clear h
  go_enter Tryz.func304, Tryz.ntmps304
  go_wp2_with fail
  refine HK.out.mono ?_
  rintro e w1 ⟨rfl, m, rfl⟩
  exact ⟨rfl, rfl, m, rfl⟩
theorem is_mark (c : Int) (w : World) : Calls Tryz.prog 319 #[.int .u8 c] w fun e w' => e = .returned (.bool (c == 40 || c == 41 || c == 60 || c == 62 || c == 91 || c == 93 || c == 123 || c == 125 || c == 47 || c == 37)) ∧ w' = w := by
  go_enter Tryz.func319, Tryz.ntmps319
  go_wp2
  all_goals (go_ret; exact ⟨by simp [*], rfl⟩)
theorem mark_ok (c : Nat) (w : World) : Calls Tryz.prog 319 #[.int .u8 c] w fun e w' => e = .returned (.bool (markB c)) ∧ w' = w := by
  have e : ((c : Int) == 40 || (c : Int) == 41 || (c : Int) == 60 || (c : Int) == 62 || (c : Int) == 91 || (c : Int) == 93 || (c : Int) == 123 || (c : Int) == 125 || (c : Int) == 47 || (c : Int) == 37) = markB c := by
    rw [Bool.eq_iff_iff]
    simp [markB]; omega
  have := is_mark c w
  rw [e] at this
  exact this
theorem plain_ok (c : Nat) (w : World) : Calls Tryz.prog 291 #[.int .u8 c] w fun e w' => e = .returned (.bool (plainB c)) ∧ w' = w := by
  have HW := hide (white_ok c)
  have HM := hide (mark_ok c)
  unfold plainB
  cases hw : whiteB c <;> cases hm : markB c <;> rw [hw] at HW <;> rw [hm] at HM
  all_goals (
    go_enter Tryz.func291, Tryz.ntmps291
    go_wp2_with (first | (go_at_call 250; refine (HW.out _).mono ?_; rintro e w' ⟨rfl, rfl⟩) | (go_at_call 319; refine (HM.out _).mono ?_; rintro e w' ⟨rfl, rfl⟩))
    go_ret
    exact ⟨rfl, rfl⟩)
/-- Does a plain byte come? -/
def plainHead : List Nat → Bool
  | [] => false
  | b :: _ => plainB b
set_option maxRecDepth 100000 in
set_option maxHeartbeats 1000000 in
theorem splainAhead_ok (h : Sc B bs ao cap data x2 x3 x4 w r) :
    Calls Tryz.prog 306 #[.pointer (some ⟨bs, 0, none⟩)] w fun e w' => e = .returned (.bool (plainHead r)) ∧ ∃ m, w' = w.drewN m := by
  have H := hide h
  cases r with
  | nil =>
    have t1 : decide ((0 : Int) < (([] : List Nat).length : Int)) = false := by simp
    clear h
    go_enter Tryz.func306, Tryz.ntmps306
    go_wp2_with fail
    go_quiet ((go_at_call 190; exact Calls.quiet_of (sleft_ok (H.out.drewN _))))
    go_wp2
    go_ret
    exact ⟨rfl, nq, rfl⟩
  | cons b t =>
    obtain ⟨hlt, _, hb, bd, o, rfl, hbd, hc⟩ := h.cons
    have c0 := h.c0
    have c1 := h.c1
    have hlen := h.len
    have hlc := h.lc
    have t1 : decide ((0 : Int) < ((b :: t).length : Int)) = true := by simp only [List.length_cons, decide_eq_true_eq]; omega
    clear h
    generalize data.length - (b :: t).length = p at *
    have hltI : (p : Int) < (data.length : Int) := by omega
    go_enter Tryz.func306, Tryz.ntmps306
    go_wp2_with fail
    go_quiet (first | (go_at_call 190; exact Calls.quiet_of (sleft_ok (H.out.drewN _))) | (go_at_call 291; exact Calls.quiet_of_same (plain_ok b _)))
    go_wp2
    go_ret
    exact ⟨rfl, nq, rfl⟩
end Go.Proofs.YtgkljcmjnphpeaaGreatDoor
