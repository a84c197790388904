/- Values of documents: as plain trees, so deep at most, and in memory. -/
import Derived.Test.YtgkljcmjnphpeaaGreatDoorK02
import Derived.Test.YtgkljcmjnphpeaaGreatDoorK01
set_option linter.unusedVariables false
set_option linter.unusedSimpArgs false
namespace Go.Proofs.YtgkljcmjnphpeaaGreatDoor
open Go.RowKit
variable {B bs cap : Nat} {ao : Option Addr} {data : List Nat} {x2 x3 x4 : Value} {w w' : World} {r q : List Nat}
/-- k bytes of r are plain, and q is left. -/
structure PlainTo (r : List Nat) (k : Nat) (q : List Nat) : Prop where
  dr : r.drop k = q
  le : k ≤ r.length
  tw : r.takeWhile plainB = r.take k ++ q.takeWhile plainB
  dw : r.dropWhile plainB = q.dropWhile plainB
theorem PlainTo.start (r : List Nat) : PlainTo r 0 r := ⟨rfl, Nat.zero_le _, rfl, rfl⟩
theorem PlainTo.on {k b : Nat} {t : List Nat} (h : PlainTo r k (b :: t)) (hb : plainB b = true) : PlainTo r (k + 1) t := by
  obtain ⟨h1, h2, h3, h4⟩ := h
  have hl : (r.drop k).length = t.length + 1 := by rw [h1]; rfl
  rw [List.length_drop] at hl
  refine ⟨by rw [← List.drop_drop, h1]; rfl, by omega, ?_, by rw [h4, List.dropWhile_cons, hb]; rfl⟩
  rw [h3, List.takeWhile_cons, hb]
  simp only [if_true]
  rw [List.take_add_one, show r[k]? = some b by rw [← List.head?_drop, h1]; rfl]
  simp
theorem PlainTo.stop {k : Nat} (h : PlainTo r k q) (hq : plainHead q = false) : r.takeWhile plainB = r.take k ∧ r.dropWhile plainB = q := by
  obtain ⟨h1, h2, h3, h4⟩ := h
  cases q with
  | nil => rw [h3, h4]; simp
  | cons b t =>
    have hq' : plainB b = false := hq
    rw [h3, h4, List.takeWhile_cons, List.dropWhile_cons, hq']; simp
theorem Dat.str {bd o p n : Nat} (h : Dat w B (some ⟨bd, o, none⟩) data) (c : Nat) (hn : p + n ≤ data.length) (m : Nat) :
    (convert 23 9 (.slice (some ⟨bd, o + p, none⟩) n c)).run Tryz.prog (w.drewN m) = .ok (.string (strN ((data.drop p).take n))) (w.drewN m) := by
  have hl : ((data.drop p).take n).length = n := by rw [List.length_take, List.length_drop]; omega
  have := string_cells (w := w.drewN m) ⟨bd, o + p, none⟩ c ((data.drop p).take n) (fun j hj => by
    rw [hl] at hj
    obtain ⟨b', o', e1, e2, e3⟩ := h (p + j) (by omega)
    cases e1
    have e4 : nth ((data.drop p).take n) j = nth data (p + j) := by
      unfold nth
      rw [List.getD_eq_getElem?_getD, List.getD_eq_getElem?_getD, List.getElem?_take_of_lt hj, List.getElem?_drop]
    rw [e4, addr_plus, Nat.add_assoc]
    exact e3)
  rw [hl] at this
  exact this
set_option maxRecDepth 100000 in
set_option maxHeartbeats 1000000 in
theorem splain_ok (h : Sc B bs ao cap data x2 x3 x4 w r) :
    Calls Tryz.prog 258 #[.pointer (some ⟨bs, 0, none⟩)] w fun e w' => e = .returned (.string (strN (r.takeWhile plainB))) ∧ Sc B bs ao cap data x2 x3 x4 w' (r.dropWhile plainB) ∧ Only bs w w' := by
  have H := hide h
  have c1 := h.c1
  have hle := h.le
  have hln := h.len
  obtain ⟨hlc, hcm⟩ := h.lc
  obtain ⟨bd, o, rfl, hbd⟩ := h.ad
  clear h
  obtain ⟨p, hp⟩ : ∃ p, data.length - r.length = p := ⟨_, rfl⟩
  rw [hp] at c1
  have HP := hide hp
  clear hp
  go_enter Tryz.func258, Tryz.ntmps258
  go_wp2
  clear c1
  go_loopw [8] (fun _ wr => ∃ (k : Nat) (q : List Nat), Hid (PlainTo r k q) ∧ Sc B bs (some ⟨bd, o, none⟩) cap data x2 x3 x4 wr q ∧ Hid (Only bs w wr)) (fun _ wr => data.length - posS bs wr)
  case atStart => exact ⟨0, r, PlainTo.start r, H.out, Only.refl _ _⟩
  case round =>
    obtain ⟨k, q, HT, hq, HO⟩ := hrel
    have HQ := hide hq
    clear hq
    have hqlen : q.length = r.length - k ∧ k ≤ r.length := ⟨by rw [← HT.out.dr, List.length_drop], HT.out.le⟩
    have HPQ := hide HQ.out.posS
    have hkk : data.length - q.length = p + k := by have := HP.out; omega
    have HA := hide (splainAhead_ok HQ.out)
    have c0 := HQ.out.c0
    have c1 := HQ.out.c1
    have f1 := HQ.out.fz 1
    rw [hkk] at c1
    cases hph : plainHead q
    · rw [hph] at HA
      have hst := HT.out.stop hph
      have HST := hide hst
      have HD := hide HQ.out.dat
      have hpk : p + k ≤ data.length := by have := HP.out; omega
      have hsuf : data.drop p = r := by rw [← HP.out]; exact H.out.suf
      clear hst hph HPQ HP hqlen hkk
      rcases Nat.eq_zero_or_pos k with h0 | h0
      · subst h0
        have hce := conv_empty
        rw [Nat.add_zero] at c1
        by_cases hcp : cap = p
        · subst hcp
          go_wp2_with fail
          refine HA.out.mono ?_
          rintro e w1 ⟨rfl, m, rfl⟩
          go_wp2_with fail
          go_quiet (fail)
          go_wp2
          go_ret
          exact ⟨by rw [HST.out.1]; rfl, by rw [HST.out.2]; exact (HQ.out.drewN _).drewN _, (HO.out.drewN _).drewN _⟩
        · go_wp2_with fail
          refine HA.out.mono ?_
          rintro e w1 ⟨rfl, m, rfl⟩
          go_wp2_with fail
          go_quiet (fail)
          go_wp2
          go_ret
          exact ⟨by rw [HST.out.1]; rfl, by rw [HST.out.2]; exact (HQ.out.drewN _).drewN _, (HO.out.drewN _).drewN _⟩
      · have hcp : ¬ cap = p := by omega
        have hA : (0 : Int) ≤ (p : Int) + (k : Int) := by omega
        have hA2 : (p : Int) + (k : Int) ≤ (cap : Int) := by omega
        have hA3 : ((p : Int) + (k : Int)).toNat = p + k := by omega
        have hcv := fun m => HD.out.str (p := p) (n := k) (cap - p) hpk m
        rw [hsuf] at hcv
        clear hsuf
        obtain ⟨S, hS⟩ : ∃ S, strN (r.take k) = S := ⟨_, rfl⟩
        rw [hS] at hcv
        have HS := hide hS
        clear hS
        go_wp2_with fail
        refine HA.out.mono ?_
        rintro e w1 ⟨rfl, m, rfl⟩
        go_wp2_with fail
        go_quiet (fail)
        go_wp2
        go_ret
        exact ⟨by rw [HST.out.1, HS.out]; rfl, by rw [HST.out.2]; exact (HQ.out.drewN _).drewN _, (HO.out.drewN _).drewN _⟩
    · rw [hph] at HA
      cases q with
      | nil => cases hph
      | cons b t =>
        have HT2 := hide (HT.out.on hph)
        have HQ2 : Hid (∀ m, Sc B bs (some ⟨bd, o, none⟩) cap data x2 x3 x4 ((wr.drewN m).setCell ⟨bs, 1, none⟩ (.int .i64 (p + k + 1 : Nat))) t) := fun m => (HQ.out.drewN m).set t 1 rfl (by simp) _ (by rw [hkk])
        have HM : Hid (data.length - (data.length - t.length) < data.length - (data.length - (b :: t).length)) := by
          have := HQ.out.le
          unfold Hid
          simp only [List.length_cons] at this ⊢; omega
        have hpk : p + k < data.length := by have := HP.out; simp only [List.length_cons] at hqlen; omega
        clear hph hqlen hkk HT
        go_wp2_with fail
        refine HA.out.mono ?_
        rintro e w1 ⟨rfl, m, rfl⟩
        go_wp2
        go_roundw
        case rel => exact ⟨k + 1, t, HT2, HQ2.out m, (HO.out.drewN m).setCell _ _⟩
        case measure =>
          have e1 := (HQ2.out m).posS
          rw [HPQ.out]
          exact Nat.lt_of_le_of_lt (Nat.le_of_eq (by rw [← e1]; rfl)) HM.out
theorem sword_ok (h : Sc B bs ao cap data x2 x3 x4 w r) :
    Calls Tryz.prog 251 #[.pointer (some ⟨bs, 0, none⟩)] w fun e w' => e = .returned (.string (strN (Fo.wordOf r))) ∧ Sc B bs ao cap data x2 x3 x4 w' (Fo.wordRest r) ∧ Only bs w w' := by
  have HS := hide (sskip_ok h)
  clear h
  go_enter Tryz.func251, Tryz.ntmps251
  go_wp2_with fail
  refine HS.out.mono ?_
  rintro e w1 ⟨rfl, h1, k1⟩
  have HP := hide (splain_ok h1)
  have K1 := hide k1
  clear h1 k1 HS
  go_wp2_with fail
  refine HP.out.mono ?_
  rintro e w2 ⟨rfl, h2, k2⟩
  go_wp2
  go_ret
  exact ⟨rfl, h2, K1.out.trans k2⟩
theorem smark_ok (h : Sc B bs ao cap data x2 x3 x4 w r) (s : ByteArray) (h0 : 0 < s.size) (hs : s.size ≤ 1000000) :
    Calls Tryz.prog 196 #[.pointer (some ⟨bs, 0, none⟩), .string s] w (TakesTo B bs ao cap data x2 x3 x4 w (Fo.skip r) (Fo.takes (bl s) (Fo.skip r))) := by
  have HS := hide (sskip_ok h)
  clear h
  go_enter Tryz.func196, Tryz.ntmps196
  go_wp2_with fail
  refine HS.out.mono ?_
  rintro e w1 ⟨rfl, h1, k1⟩
  have HP := hide (stakes_ok h1 s h0 hs)
  have K1 := hide k1
  clear h1 k1 HS
  go_wp2_with fail
  refine HP.out.mono ?_
  rintro e w2 ⟨rfl, h2, k2⟩
  go_wp2
  go_ret
  exact ⟨rfl, h2, K1.out.trans k2⟩
theorem strN_eq_iff {l : List Nat} (hl : ∀ x ∈ l, x < 256) (s : ByteArray) : decide (strN l = s) = decide (l = bl s) := by
  rw [decide_eq_decide]
  constructor
  · intro e
    exact strN_inj hl (bl_bytes s) (e.trans (strN_bl s).symm)
  · intro e; rw [e, strN_bl]
theorem skipC_suf : ∀ (b : Bool) (r : List Nat), Fo.skipC b r <:+ r
  | b, [] => by cases b <;> exact List.suffix_refl _
  | false, x :: r => by
    simp only [Fo.skipC]
    split
    · exact (skipC_suf false r).trans (List.suffix_cons x r)
    · split
      · exact (skipC_suf true r).trans (List.suffix_cons x r)
      · exact List.suffix_refl _
  | true, x :: r => by
    simp only [Fo.skipC]
    split
    · exact (skipC_suf false r).trans (List.suffix_cons x r)
    · exact (skipC_suf true r).trans (List.suffix_cons x r)
theorem skip_suf (r : List Nat) : Fo.skip r <:+ r := skipC_suf false r
theorem wordRest_suf (r : List Nat) : Fo.wordRest r <:+ r := (List.dropWhile_suffix plainB).trans (skip_suf r)
theorem wordOf_mem {r : List Nat} {x : Nat} (h : x ∈ Fo.wordOf r) : x ∈ r := by
  unfold Fo.wordOf at h
  exact (skip_suf r).subset ((List.takeWhile_prefix plainB).subset h)
set_option maxRecDepth 100000 in
set_option maxHeartbeats 1000000 in
theorem stakesWord_ok (h : Sc B bs ao cap data x2 x3 x4 w r) (s : ByteArray) :
    Calls Tryz.prog 191 #[.pointer (some ⟨bs, 0, none⟩), .string s] w (TakesTo B bs ao cap data x2 x3 x4 w r (Fo.takesWord (bl s) r)) := by
  have c1 := h.c1
  have HW := hide (sword_ok h)
  have HEQ : Hid (decide (strN (Fo.wordOf r) = s) = decide (Fo.wordOf r = bl s)) := strN_eq_iff (fun x hx => h.bytes x (wordOf_mem hx)) s
  have hle := h.le
  have hln := h.len
  have hsuf := hide h.suf
  have hp : data.length - r.length ≤ data.length := by omega
  clear h
  unfold Fo.takesWord
  by_cases hd : Fo.wordOf r = bl s
  · have hc : (((strN (Fo.wordOf r)).toList == s.toList)) = true := by rw [strEq, HEQ.out, decide_eq_true_eq]; exact hd
    rw [if_pos hd]
    generalize strN (Fo.wordOf r) = S at *
    generalize data.length - r.length = p at *
    clear hd
    go_enter Tryz.func191, Tryz.ntmps191
    go_wp2_with fail
    refine HW.out.mono ?_
    rintro e w1 ⟨rfl, h1, k1⟩
    go_wp2
    go_ret
    exact ⟨rfl, h1, k1⟩
  · have hc : (((strN (Fo.wordOf r)).toList == s.toList)) = false := by rw [strEq, HEQ.out, decide_eq_false_iff_not]; exact hd
    rw [if_neg hd]
    generalize strN (Fo.wordOf r) = S at *
    obtain ⟨p, hpe⟩ : ∃ p, data.length - r.length = p := ⟨_, rfl⟩
    rw [hpe] at c1 hp
    have HPE := hide hpe
    clear hd hpe
    go_enter Tryz.func191, Tryz.ntmps191
    go_wp2_with fail
    refine HW.out.mono ?_
    rintro e w1 ⟨rfl, h1, k1⟩
    have f1 := h1.fz 1
    have d1 := h1.c1
    have H1 := hide h1
    have K1 := hide k1
    clear h1 k1 c1
    go_wp2
    go_ret
    refine ⟨rfl, ?_, K1.out.setCell _ _⟩
    have := H1.out.at_ p hp
    rw [← HPE.out, hsuf.out, HPE.out] at this
    exact this
set_option maxRecDepth 100000 in
set_option maxHeartbeats 1000000 in
theorem slineEnd_ok (h : Sc B bs ao cap data x2 x3 x4 w r) :
    Calls Tryz.prog 199 #[.pointer (some ⟨bs, 0, none⟩)] w (TakesTo B bs ao cap data x2 x3 x4 w r (Fo.lineEnd r)) := by
  have H1 := hide (stakes_ok h { data := #[13, 10] } (by decide) (by decide))
  rw [show bl { data := #[13, 10] } = [13, 10] from rfl] at H1
  clear h
  cases e1 : Fo.takes [13, 10] r with
  | some q =>
    rw [e1] at H1
    go_enter Tryz.func199, Tryz.ntmps199
    go_wp2_with fail
    refine H1.out.mono ?_
    rintro e w1 ⟨rfl, h1, k1⟩
    go_wp2
    go_ret
    have hL : Fo.lineEnd r = some q := by unfold Fo.lineEnd; rw [e1]; rfl
    exact ⟨by rw [hL]; rfl, by rw [hL]; exact h1, k1⟩
  | none =>
    rw [e1] at H1
    go_enter Tryz.func199, Tryz.ntmps199
    go_wp2_with fail
    refine H1.out.mono ?_
    rintro e w1 ⟨rfl, h1, k1⟩
    have H2 := hide (stakes_ok (show Sc B bs ao cap data x2 x3 x4 w1 r from h1) { data := #[10] } (by decide) (by decide))
    rw [bl_one, show (UInt8.toNat 10) = 10 from rfl] at H2
    have K1 := hide k1
    clear h1 k1 H1
    cases e2 : Fo.takes [10] r with
    | some q =>
      rw [e2] at H2
      go_wp2_with fail
      refine H2.out.mono ?_
      rintro e w2 ⟨rfl, h2, k2⟩
      go_wp2
      go_ret
      have hL : Fo.lineEnd r = some q := by unfold Fo.lineEnd; rw [e1, e2]; rfl
      exact ⟨by rw [hL]; rfl, by rw [hL]; exact h2, K1.out.trans k2⟩
    | none =>
      rw [e2] at H2
      go_wp2_with fail
      refine H2.out.mono ?_
      rintro e w2 ⟨rfl, h2, k2⟩
      have H3 := hide (stakes_ok (show Sc B bs ao cap data x2 x3 x4 w2 r from h2) { data := #[13] } (by decide) (by decide))
      rw [bl_one, show (UInt8.toNat 13) = 13 from rfl] at H3
      have K2 := hide (K1.out.trans k2)
      clear h2 k2 H2 K1
      have hL : Fo.lineEnd r = Fo.takes [13] r := by unfold Fo.lineEnd; rw [e1, e2]; rfl
      rw [← hL] at H3
      generalize Fo.lineEnd r = L at *
      clear e1 e2 hL
      go_wp2_with fail
      refine H3.out.mono ?_
      rintro e w3 ⟨rfl, h3, k3⟩
      have H4 := hide h3
      have K4 := hide (K2.out.trans k3)
      clear h3 k3
      cases L with
      | some q =>
        go_wp2
        go_ret
        exact ⟨rfl, H4.out, K4.out⟩
      | none =>
        go_wp2
        go_ret
        exact ⟨rfl, H4.out, K4.out⟩
end Go.Proofs.YtgkljcmjnphpeaaGreatDoor
namespace Go.Proofs.YtgkljcmjnphpeaaGreatDoor
open Go.RowKit
namespace Fo
/-- What stands behind a name's sign: 0: a byte, 1: a digit, 2: a second digit, behind one that counts a. -/
def nameS : Nat → Nat → List Nat → Option (List Nat × List Nat)
  | 0, _, [] => some ([], [])
  | _ + 1, _, [] => none
  | 0, _, b :: r => if plainB b = false then some ([], b :: r) else if b < 33 ∨ 126 < b then none else if b = 35 then nameS 1 0 r else (nameS 0 0 r).map fun x => (b :: x.1, x.2)
  | 1, _, b :: r => match hexVal b with
    | none => none
    | some a => nameS 2 a r
  | _ + 2, a, b :: r => match hexVal b with
    | none => none
    | some c => if 16 * a + c = 0 then none else (nameS 0 0 r).map fun x => ((16 * a + c) :: x.1, x.2)
def name (r : List Nat) : Option (List Nat × List Nat) := nameS 0 0 r
end Fo
variable {B bs cap : Nat} {ao : Option Addr} {data : List Nat} {x2 x3 x4 : Value} {w w' : World} {r q : List Nat}
/-- What a scanner's method comes to: a value and what is left, or no file. -/
def SRes (B bs : Nat) (ao : Option Addr) (cap : Nat) (data : List Nat) (x2 x3 x4 : Value) {α : Type} (val : World → α → Value → Prop) (o : Option (α × List Nat)) (w : World) (e : Ending) (w' : World) : Prop :=
  match o with
  | some (a, q) => ∃ v, e = .returned v ∧ val w' a v ∧ Sc B bs ao cap data x2 x3 x4 w' q ∧ Only bs w w'
  | none => e = gaveUp 4 ∧ Only bs w w'
def strV (_ : World) (l : List Nat) (v : Value) : Prop := v = .string (strN l)
/-- A scanner, and bytes that have come out since the world w0. -/
structure Bu (w0 : World) (B bs : Nat) (ao : Option Addr) (cap : Nat) (data : List Nat) (x2 x3 x4 : Value) (w : World) (q : List Nat) (ov : Value) (out : List Nat) : Prop where
  sc : Sc B bs ao cap data x2 x3 x4 w q
  own : w.ownsRow w0.heap.size 5 1 ov out.length (out.map fun x : Nat => .int .u8 (x : Int))
  only : Only bs w0 w
  lt : bs < w0.heap.size
  few : out.length + q.length ≤ 200000
variable {w0 : World} {ov : Value} {out : List Nat}
theorem own_only {b n size e base : Nat} {v : Value} {xs : List Value} (h : w.ownsRow base e size v n xs) (k : Only b w w') (hb : b < base) : w'.ownsRow base e size v n xs := by
  obtain ⟨h1, h2⟩ := h
  refine ⟨h1, ?_⟩
  rcases h2 with h2 | ⟨g, c, cur, e1, e2, hh, hc⟩
  · exact Or.inl h2
  · exact Or.inr ⟨g, c, cur, e1, e2, by rw [k.block g (lt_of_block hh) (by omega)]; exact hh, hc⟩
theorem Bu.start (h : Sc B bs ao cap data x2 x3 x4 w r) : Bu w B bs ao cap data x2 x3 x4 w r (.slice none 0 0) [] :=
  ⟨h, World.ownsRow_nil _ _ _ _, Only.refl _ _, h.lt, by have := h.le; have := h.len; simp only [List.length_nil]; omega⟩
theorem Bu.step (h : Bu w0 B bs ao cap data x2 x3 x4 w q ov out) {q' : List Nat} (hs : Sc B bs ao cap data x2 x3 x4 w' q') (k : Only bs w w') (hq : q'.length ≤ q.length) : Bu w0 B bs ao cap data x2 x3 x4 w' q' ov out :=
  ⟨hs, own_only h.own k h.lt, h.only.trans k, h.lt, by have := h.few; omega⟩
theorem Bu.drewN (h : Bu w0 B bs ao cap data x2 x3 x4 w q ov out) (n : Nat) : Bu w0 B bs ao cap data x2 x3 x4 (w.drewN n) q ov out := h.step (h.sc.drewN n) ((Only.refl _ _).drewN n) (Nat.le_refl _)
theorem Bu.alloc (h : Bu w0 B bs ao cap data x2 x3 x4 w q ov out) (o : Obj) : Bu w0 B bs ao cap data x2 x3 x4 (w.alloc o) q ov out :=
  h.step (h.sc.other ((Below.refl _ _).alloc (Nat.le_refl _) o)) (.of_below ((Below.refl _ _).alloc (Nat.le_refl _) o)) (Nat.le_refl _)
theorem Bu.sz (h : Bu w0 B bs ao cap data x2 x3 x4 w q ov out) : w0.heap.size ≤ w.heap.size := h.only.size
/-- Bytes came out. -/
theorem Bu.app (h : Bu w0 B bs ao cap data x2 x3 x4 w q ov out) {v' : Value} {xs : List Nat} {n : Nat} (hn : n = out.length + xs.length) (hown : w'.ownsRow w0.heap.size 5 1 v' n ((out.map fun x : Nat => .int .u8 (x : Int)) ++ (xs.map fun x : Nat => .int .u8 (x : Int)))) (hg : w.grownBy w' ov.ownBlock)
    (hl : out.length + xs.length + q.length ≤ 200000) : Bu w0 B bs ao cap data x2 x3 x4 w' q v' (out ++ xs) := by
  subst hn
  have hoth : ∀ k, k < w0.heap.size → w'.heap[k]? = w.heap[k]? := fun k hk => hg.block k (by have := h.sz; omega) (own_off h.own hk)
  have hBb := h.sc.hb
  have hlt := h.lt
  refine ⟨⟨h.sc.hb, by rw [hoth _ h.lt]; exact h.sc.blk, h.sc.dat.other (fun k hk => hoth k (by omega)), h.sc.byt, h.sc.len, h.sc.lc, h.sc.le, h.sc.suf, h.sc.ad⟩, ?_, ?_, h.lt, by rw [List.length_append]; omega⟩
  · rw [List.length_append, List.map_append]; exact hown
  · exact ⟨hg.os.trans h.only.os, hg.tape.trans h.only.tape, hg.output.trans h.only.output, Nat.le_trans h.sz hg.size, fun k hk hb => (hoth k hk).trans (h.only.block k hk hb)⟩
/-- One byte more, as it is put at the end. -/
theorem Bu.one_news (c : Nat) (W : World) : ∀ j u, ([c].map fun x : Nat => Value.int .u8 (x : Int))[j]? = some u → (W.alloc (.cells #[.int .u8 (c : Nat)] 5)).cell? ((⟨W.heap.size, 0, none⟩ : Addr).add j) = some u := by
  intro j u hu
  rw [addr_add]
  match j, hu with
  | 0, hu => exact (cell_blk (blk_new W _)).trans hu
  | j + 1, hu => simp at hu
theorem shexValue_ok (c v : Nat) (w : World) (h : Fo.hexVal c = some v) : Calls Tryz.prog 303 #[.int .u8 c] w fun e w' => e = .returned (.int .u8 v) ∧ w' = w := by
  have H : Hid (Fo.hexVal c = some v) := h
  clear h
  go_enter Tryz.func303, Tryz.ntmps303
  go_wp2_with (first | (go_at_call 275; refine (hexDigit_ok _ _ _ H.out).mono ?_; rintro e w' ⟨rfl, rfl⟩) | (go_at_call 99; refine (smust_yes _).mono ?_; rintro e w' ⟨rfl, rfl⟩))
  go_ret
  exact ⟨rfl, rfl⟩
theorem shexValue_no (c : Nat) (w : World) (h : Fo.hexVal c = none) : Calls Tryz.prog 303 #[.int .u8 c] w fun e w' => e = gaveUp 4 ∧ w' = w := by
  have H : Hid (Fo.hexVal c = none) := h
  clear h
  go_enter Tryz.func303, Tryz.ntmps303
  go_wp2_with fail
  refine (hexDigit_no _ _ H.out).mono ?_
  rintro e w' ⟨v, rfl, rfl⟩
  go_wp2_with fail
  refine (smust_no _).mono ?_
  rintro e w' ⟨rfl, rfl⟩
  exact ⟨rfl, rfl, rfl⟩
/-- May a byte be a part of a name? -/
def inName (c : Nat) : Bool := plainB c && (decide (33 ≤ c) && decide (c ≤ 126))
theorem inName_ok (c : Nat) (w : World) : Calls Tryz.prog 239 #[.int .u8 c] w fun e w' => e = .returned (.bool (inName c)) ∧ w' = w := by
  have HP := hide (plain_ok c)
  have HW := hide (within_byte (c : Int) 33 126)
  have e1 : (decide ((33 : Int) ≤ (c : Int)) && decide ((c : Int) ≤ 126)) = (decide (33 ≤ c) && decide (c ≤ 126)) := by
    rw [Bool.eq_iff_iff]; simp; omega
  rw [e1] at HW
  unfold inName
  cases hp : plainB c
  · rw [hp] at HP
    go_enter Tryz.func239, Tryz.ntmps239
    go_wp2_with (go_at_call 291; refine (HP.out _).mono ?_; rintro e w' ⟨rfl, rfl⟩)
    go_ret
    exact ⟨rfl, rfl⟩
  · rw [hp] at HP
    generalize (decide (33 ≤ c) && decide (c ≤ 126)) = v at *
    go_enter Tryz.func239, Tryz.ntmps239
    go_wp2_with (first | (go_at_call 291; refine (HP.out _).mono ?_; rintro e w' ⟨rfl, rfl⟩) | (go_at_call 216; refine (HW.out _).mono ?_; rintro e w' ⟨rfl, rfl⟩))
    go_ret
    exact ⟨by simp, rfl⟩
theorem Fo.nameS_end {q : List Nat} (h : plainHead q = false) : Fo.nameS 0 0 q = some ([], q) := by
  cases q with
  | nil => rfl
  | cons b t =>
    have hb : plainB b = false := h
    simp [Fo.nameS, hb]
theorem Fo.nameS_bad {b : Nat} {t : List Nat} (hp : plainB b = true) (h : inName b = false) : Fo.nameS 0 0 (b :: t) = none := by
  have hc : b < 33 ∨ 126 < b := by
    unfold inName at h
    rw [hp] at h
    simp at h; omega
  simp [Fo.nameS, hp, hc]
theorem Fo.nameS_on {b : Nat} {t : List Nat} (h : inName b = true) (hb : b ≠ 35) : Fo.nameS 0 0 (b :: t) = (Fo.nameS 0 0 t).map fun x => (b :: x.1, x.2) := by
  unfold inName at h
  simp at h
  have hc : ¬ (b < 33 ∨ 126 < b) := by omega
  simp [Fo.nameS, h.1, hc, hb]
theorem Fo.nameS_hash (t : List Nat) : Fo.nameS 0 0 (35 :: t) = Fo.nameS 1 0 t := by
  simp [Fo.nameS, show plainB 35 = true from rfl]
/-- What is ahead of it comes first. -/
def addTo (out : List Nat) (o : Option (List Nat × List Nat)) : Option (List Nat × List Nat) := o.map fun x => (out ++ x.1, x.2)
theorem addTo_map (out : List Nat) (c : Nat) (o : Option (List Nat × List Nat)) : addTo out (o.map fun x => (c :: x.1, x.2)) = addTo (out ++ [c]) o := by
  cases o with
  | none => rfl
  | some x => simp [addTo]
theorem SRes.none_ {α : Type} {val : World → α → Value → Prop} {o : Option (α × List Nat)} {w w' : World} (h : o = none) (k : Only bs w w') : SRes B bs ao cap data x2 x3 x4 val o w (gaveUp 4) w' := by
  subst h; exact ⟨rfl, k⟩
theorem SRes.some_ {α : Type} {val : World → α → Value → Prop} {o : Option (α × List Nat)} {w w' : World} {a : α} {q : List Nat} {v : Value} (h : o = some (a, q)) (hv : val w' a v) (hs : Sc B bs ao cap data x2 x3 x4 w' q) (k : Only bs w w') : SRes B bs ao cap data x2 x3 x4 val o w (.returned v) w' := by
  subst h; exact ⟨v, rfl, hv, hs, k⟩
set_option maxRecDepth 100000 in
set_option maxHeartbeats 2000000 in
theorem sname_ok (h : Sc B bs ao cap data x2 x3 x4 w r) :
    Calls Tryz.prog 255 #[.pointer (some ⟨bs, 0, none⟩)] w (SRes B bs ao cap data x2 x3 x4 strV (Fo.name r) w) := by
  obtain ⟨i0, hi, hz0, hz1, hz2⟩ := info_parts Tryz.infoByte
  have H := hide (Bu.start h)
  have hln := h.len
  clear h
  obtain ⟨R, hR⟩ : ∃ R, Fo.name r = R := ⟨_, rfl⟩
  rw [hR]
  have HR : Hid (addTo [] (Fo.nameS 0 0 r) = R) := by
    unfold Hid
    rw [← hR]; unfold Fo.name addTo
    cases Fo.nameS 0 0 r <;> simp
  clear hR
  go_enter Tryz.func255, Tryz.ntmps255
  go_wp2
  go_loopw [3] (fun ov wr => ∃ (q out : List Nat), Hid (Bu w B bs ao cap data x2 x3 x4 wr q ov out) ∧ Hid (addTo out (Fo.nameS 0 0 q) = R)) (fun _ wr => data.length - posS bs wr)
  case atStart => exact ⟨r, [], H, HR⟩
  clear H HR
  case round =>
    obtain ⟨q, out, HQ, HR⟩ := hrel
    have HA := hide (splainAhead_ok HQ.out.sc)
    have HPQ := hide HQ.out.sc.posS
    cases hph : plainHead q
    · rw [hph] at HA
      have hcv := fun m => string_own (HQ.out.drewN m).own
      have HE : Hid (R = some (out, q)) := by
        unfold Hid
        have := HR.out
        rw [Fo.nameS_end hph] at this
        rw [← this]; simp [addTo]
      clear HR hph HPQ
      obtain ⟨S, hS⟩ : ∃ S, strN out = S := ⟨_, rfl⟩
      rw [hS] at hcv
      have HS := hide hS
      clear hS
      go_wp2_with fail
      refine HA.out.mono ?_
      rintro e w1 ⟨rfl, m, rfl⟩
      go_wp2
      go_ret
      exact SRes.some_ HE.out (by rw [strV, HS.out]; rfl) (HQ.out.drewN m).sc (HQ.out.drewN m).only
    · rw [hph] at HA
      cases q with
      | nil => cases hph
      | cons b t =>
        have hbt : b < 256 := HQ.out.sc.bytes b (by simp)
        have HN := hide (fun m => snext_ok (HQ.out.drewN m).sc)
        have HI := hide (inName_ok b)
        go_wp2_with fail
        refine HA.out.mono ?_
        rintro e w1 ⟨rfl, m, rfl⟩
        go_wp2_with fail
        refine (HN.out m).mono ?_
        rintro e w2 ⟨rfl, h2, k2⟩
        have HB2 := hide ((HQ.out.drewN m).step h2 k2 (by simp))
        clear h2 k2 HN HA
        go_wp2_with fail
        refine (HI.out _).mono ?_
        rintro e w' ⟨rfl, rfl⟩
        cases hin : inName b
        · have HE : Hid (R = none) := by
            unfold Hid
            rw [← HR.out, Fo.nameS_bad hph hin]; rfl
          clear HI hin hph
          go_wp2_with fail
          refine (smust_no _).mono ?_
          rintro e w' ⟨rfl, rfl⟩
          exact ⟨rfl, SRes.none_ HE.out HB2.out.only⟩
        · go_wp2_with fail
          refine (smust_yes _).mono ?_
          rintro e w' ⟨rfl, rfl⟩
          by_cases h35 : b = 35
          · subst h35
            have HR1 : Hid (addTo out (Fo.nameS 1 0 t) = R) := by
              unfold Hid
              rw [← HR.out, Fo.nameS_hash]
            clear HR hin hph HI
            cases t with
            | nil =>
              have HE : Hid (R = none) := by unfold Hid; rw [← HR1.out]; rfl
              go_wp2_with fail
              refine (snext_no HB2.out.sc).mono ?_
              rintro e w3 ⟨rfl, m3, rfl⟩
              exact ⟨rfl, SRes.none_ HE.out (HB2.out.only.drewN m3)⟩
            | cons x t =>
              go_wp2_with fail
              refine (snext_ok HB2.out.sc).mono ?_
              rintro e w3 ⟨rfl, h3, k3⟩
              have HB3 := hide (HB2.out.step h3 k3 (by simp))
              clear h3 k3 HB2
              cases hx : Fo.hexVal x with
              | none =>
                have HE : Hid (R = none) := by unfold Hid; rw [← HR1.out]; simp [Fo.nameS, hx, addTo]
                have HX := hide (shexValue_no x w3 hx)
                clear hx
                go_wp2_with fail
                refine HX.out.mono ?_
                rintro e w' ⟨rfl, rfl⟩
                exact ⟨rfl, SRes.none_ HE.out HB3.out.only⟩
              | some a =>
                have HR2 : Hid (addTo out (Fo.nameS 2 a t) = R) := by unfold Hid; rw [← HR1.out]; simp [Fo.nameS, hx]
                have HX := hide (shexValue_ok x a w3 hx)
                have ha16 := hexVal_lt16 hx
                clear hx HR1
                go_wp2_with fail
                refine HX.out.mono ?_
                rintro e w' ⟨rfl, rfl⟩
                cases t with
                | nil =>
                  have HE : Hid (R = none) := by unfold Hid; rw [← HR2.out]; rfl
                  go_wp2_with fail
                  refine (snext_no HB3.out.sc).mono ?_
                  rintro e w4 ⟨rfl, m4, rfl⟩
                  exact ⟨rfl, SRes.none_ HE.out (HB3.out.only.drewN m4)⟩
                | cons y t =>
                  go_wp2_with fail
                  refine (snext_ok HB3.out.sc).mono ?_
                  rintro e w4 ⟨rfl, h4, k4⟩
                  have HB4 := hide (HB3.out.step h4 k4 (by simp))
                  clear h4 k4 HB3
                  cases hy : Fo.hexVal y with
                  | none =>
                    have HE : Hid (R = none) := by unfold Hid; rw [← HR2.out]; simp [Fo.nameS, hy, addTo]
                    have HX := hide (shexValue_no y w4 hy)
                    clear hy
                    go_wp2_with fail
                    refine HX.out.mono ?_
                    rintro e w' ⟨rfl, rfl⟩
                    exact ⟨rfl, SRes.none_ HE.out HB4.out.only⟩
                  | some c =>
                    have HX := hide (shexValue_ok y c w4 hy)
                    have hc16 := hexVal_lt16 hy
                    have HR3 : Hid (addTo out (if 16 * a + c = 0 then none else (Fo.nameS 0 0 t).map fun x => ((16 * a + c) :: x.1, x.2)) = R) := by unfold Hid; rw [← HR2.out]; simp [Fo.nameS, hy]
                    clear hy HR2
                    go_wp2_with fail
                    refine HX.out.mono ?_
                    rintro e w' ⟨rfl, rfl⟩
                    have hor : bits BinOp.or IntKind.u8 ((a : Int) * 16) (c : Int) = ((16 * a + c : Nat) : Int) := by
                      have := u8_or_nat (a * 16) c (by omega) (by omega)
                      rw [join16 a c ha16 hc16] at this
                      simp only [Int.natCast_mul, Int.natCast_add] at this ⊢
                      rw [show ((16 : Nat) : Int) = 16 from rfl] at this ⊢
                      rw [this]; omega
                    obtain ⟨z, hzz⟩ : ∃ z, 16 * a + c = z := ⟨_, rfl⟩
                    rw [hzz] at HR3 hor
                    clear hzz
                    by_cases hz : z = 0
                    · have HE : Hid (R = none) := by unfold Hid; rw [← HR3.out, if_pos hz]; rfl
                      have hz' : ((z : Int) != 0) = false := by rw [hz]; rfl
                      go_wp2_with fail
                      refine (smust_no _).mono ?_
                      rintro e w' ⟨rfl, rfl⟩
                      exact ⟨rfl, SRes.none_ HE.out HB4.out.only⟩
                    · have HR4 : Hid (addTo (out ++ [z]) (Fo.nameS 0 0 t) = R) := by
                        unfold Hid
                        rw [← HR3.out, if_neg hz, addTo_map]
                      have hz' : ((z : Int) != 0) = true := by simp; omega
                      go_wp2_with fail
                      refine (smust_yes _).mono ?_
                      rintro e w' ⟨rfl, rfl⟩
                      have hbd := HQ.out.few
                      have hsz := HB4.out.sz
                      go_wp2_with (at_builtin; refine wpList_append_own _ rfl (.tmp 25) (.tmp 27) 23 rfl w.heap.size 5 i0 (.int .u8 0) 1 1 Tryz.underlying23 hi hz0 hz1 hz2 rfl (by decide) u3 out.length _ rfl (HB4.out.alloc _).own ⟨w'.heap.size, 0, none⟩ 1 1 ([z].map fun x : Nat => .int .u8 (x : Int)) rfl rfl (Bu.one_news (z) w') ?hone ?h63 ?hby ?hbs ?_)
                      case hone => intro u hu; simp at hu; subst hu; rfl
                      case h63 => unfold maxLen; omega
                      case hby => omega
                      case hbs => simp; omega
                      intro v6 w6 own6 hg6 _
                      have H6 := hide ((HB4.out.alloc _).app (xs := [z]) (by simp) own6 hg6 (by simp only [List.length_cons, List.length_nil] at hbd ⊢; omega))
                      have HM6 := hide H6.out.sc.posS
                      clear own6 hg6
                      go_wp2
                      go_roundw
                      case rel => exact ⟨_, out ++ [z], H6, HR4⟩
                      case measure =>
                        rw [HPQ.out, HM6.out]
                        have := HQ.out.sc.le
                        simp only [List.length_cons] at this ⊢; omega
          · have h35' : ((b : Int) == 35) = false := by simp; omega
            have HR1 : Hid (addTo (out ++ [b]) (Fo.nameS 0 0 t) = R) := by
              unfold Hid
              rw [← HR.out, Fo.nameS_on hin h35, addTo_map]
            clear HR hin hph HI h35
            have hbd := HQ.out.few
            have hsz := HB2.out.sz
            go_wp2_with (at_builtin; refine wpList_append_own _ rfl (.tmp 25) (.tmp 27) 23 rfl w.heap.size 5 i0 (.int .u8 0) 1 1 Tryz.underlying23 hi hz0 hz1 hz2 rfl (by decide) u3 out.length _ rfl (HB2.out.alloc _).own ⟨w'.heap.size, 0, none⟩ 1 1 ([b].map fun x : Nat => .int .u8 (x : Int)) rfl rfl (Bu.one_news b w') ?hone ?h63 ?hby ?hbs ?_)
            case hone => intro u hu; simp at hu; subst hu; rfl
            case h63 => unfold maxLen; omega
            case hby => omega
            case hbs => simp; omega
            intro v6 w6 own6 hg6 _
            have H6 := hide ((HB2.out.alloc _).app (xs := [b]) (by simp) own6 hg6 (by simp only [List.length_cons, List.length_nil] at hbd ⊢; omega))
            have HM6 := hide H6.out.sc.posS
            clear own6 hg6
            go_wp2
            go_roundw
            case rel => exact ⟨_, out ++ [b], H6, HR1⟩
            case measure =>
              rw [HPQ.out, HM6.out]
              have := HQ.out.sc.le
              simp only [List.length_cons] at this ⊢; omega
end Go.Proofs.YtgkljcmjnphpeaaGreatDoor
namespace Go.Proofs.YtgkljcmjnphpeaaGreatDoor
open Go.RowKit
/-- A value whose items are of a type. -/
structure Node (α : Type) where
  kind : Nat
  n : Int
  places : Nat
  text : List Nat
  items : List α
  keys : List (List Nat)
  filters : List Nat
/-- Values that are so deep at most. -/
def VT : Nat → Type
  | 0 => Empty
  | k + 1 => Node (VT k)
/-- A value that has no lists. -/
def leafN (α : Type) (kind : Nat) (n : Int) (places : Nat) (text : List Nat) : Node α := ⟨kind, n, places, text, [], [], []⟩
/-- A value as Go has it, its lists given. -/
def nodeVal {α : Type} (V : Node α) (iv kv fv : Value) : Value := .agg #[.int .i64 (V.kind : Int), .int .i64 V.n, .int .i64 (V.places : Int), .string (strN V.text), iv, kv, fv]
def cellsOf (v : Value) : List Value := v.cells.toList
/-- A row whose block, if it has one, is one of these. -/
def RowIn (P : Nat → Prop) (w : World) (e : TypeId) (size : Nat) (v : Value) (n : Nat) (xs : List Value) : Prop := w.ownsRow 0 e size v n xs ∧ ∀ g, v.ownBlock = some g → P g ∧ g < w.heap.size
/-- A value in memory, all its lists in blocks of these. -/
def VIn (P : Nat → Prop) : (k : Nat) → World → Value → VT k → Prop
  | 0, _, _, _ => False
  | k + 1, w, v, V => ∃ (iv kv fv : Value) (vs : List Value), v = nodeVal (show Node (VT k) from V) iv kv fv ∧ vs.length = (show Node (VT k) from V).items.length ∧
      RowIn P w 67 7 iv vs.length (vs.flatMap cellsOf) ∧ (∀ (i : Nat) (x : Value) (y : VT k), vs[i]? = some x → (show Node (VT k) from V).items[i]? = some y → VIn P k w x y) ∧
      RowIn P w 9 1 kv (show Node (VT k) from V).keys.length ((show Node (VT k) from V).keys.map fun s => .string (strN s)) ∧
      RowIn P w 3 1 fv (show Node (VT k) from V).filters.length ((show Node (VT k) from V).filters.map fun f : Nat => .int .i64 (f : Int))
variable {P Q : Nat → Prop} {w w' : World}
theorem ownsRow_base {w : World} {b b' e size n : Nat} {v : Value} {xs : List Value} (h : w.ownsRow b e size v n xs) (hb : b' ≤ b) : w.ownsRow b' e size v n xs := by
  obtain ⟨h1, h2⟩ := h
  refine ⟨h1, ?_⟩
  rcases h2 with h2 | ⟨g, c, cur, e1, e2, hc⟩
  · exact Or.inl h2
  · exact Or.inr ⟨g, c, cur, e1, by omega, hc⟩
theorem RowIn.nil (P : Nat → Prop) (w : World) (e size : Nat) : RowIn P w e size (.slice none 0 0) 0 [] := ⟨World.ownsRow_nil _ _ _ _, fun g h => by cases h⟩
theorem RowIn.of {b e size n : Nat} {v : Value} {xs : List Value} (h : w.ownsRow b e size v n xs) (hP : ∀ g, v.ownBlock = some g → P g) : RowIn P w e size v n xs :=
  ⟨ownsRow_base h (Nat.zero_le _), fun g hg => ⟨hP g hg, (h.lt g hg).2⟩⟩
theorem RowIn.mono {e size n : Nat} {v : Value} {xs : List Value} (h : RowIn P w e size v n xs) (hPQ : ∀ g, P g → g < w.heap.size → Q g) : RowIn Q w e size v n xs :=
  ⟨h.1, fun g hg => ⟨hPQ g (h.2 g hg).1 (h.2 g hg).2, (h.2 g hg).2⟩⟩
theorem RowIn.keep {e size n : Nat} {v : Value} {xs : List Value} (h : RowIn P w e size v n xs) (hk : ∀ g, P g → g < w.heap.size → w'.heap[g]? = w.heap[g]?) : RowIn P w' e size v n xs := by
  obtain ⟨⟨h1, h2⟩, h3⟩ := h
  rcases h2 with h2 | ⟨g, c, cur, e1, e2, hh, hc⟩
  · exact ⟨⟨h1, Or.inl h2⟩, fun g hg => by rw [h2.1] at hg; cases hg⟩
  · have hb : v.ownBlock = some g := by rw [e1]; rfl
    have hg' : w'.heap[g]? = some (.cells cur e (0, 0)) := by rw [hk g (h3 g hb).1 (h3 g hb).2]; exact hh
    exact ⟨⟨h1, Or.inr ⟨g, c, cur, e1, e2, hg', hc⟩⟩, fun g2 hg2 => by
      rw [hb] at hg2; cases hg2
      exact ⟨(h3 g hb).1, lt_of_block hg'⟩⟩
theorem VIn.keep : ∀ (k : Nat) {v : Value} {V : VT k}, VIn P k w v V → (∀ g, P g → g < w.heap.size → w'.heap[g]? = w.heap[g]?) → VIn P k w' v V
  | 0, _, _, h, _ => h
  | k + 1, v, V, h, hk => by
    obtain ⟨iv, kv, fv, vs, h1, h2, h3, h4, h5, h6⟩ := h
    exact ⟨iv, kv, fv, vs, h1, h2, h3.keep hk, fun i x y hx hy => VIn.keep k (h4 i x y hx hy) hk, h5.keep hk, h6.keep hk⟩
theorem VIn.mono : ∀ (k : Nat) {v : Value} {V : VT k}, VIn P k w v V → (∀ g, P g → g < w.heap.size → Q g) → VIn Q k w v V
  | 0, _, _, h, _ => h
  | k + 1, v, V, h, hk => by
    obtain ⟨iv, kv, fv, vs, h1, h2, h3, h4, h5, h6⟩ := h
    exact ⟨iv, kv, fv, vs, h1, h2, h3.mono hk, fun i x y hx hy => VIn.mono k (h4 i x y hx hy) hk, h5.mono hk, h6.mono hk⟩
/-- A leaf. -/
theorem VIn.leaf (k : Nat) (kind : Nat) (n : Int) (places : Nat) (text : List Nat) : VIn P (k + 1) w (.agg #[.int .i64 (kind : Int), .int .i64 n, .int .i64 (places : Int), .string (strN text), .slice none 0 0, .slice none 0 0, .slice none 0 0]) (leafN (VT k) kind n places text) :=
  ⟨.slice none 0 0, .slice none 0 0, .slice none 0 0, [], rfl, rfl, RowIn.nil _ _ _ _, fun i x y hx _ => by simp at hx, RowIn.nil _ _ _ _, RowIn.nil _ _ _ _⟩
/-- A value has seven cells. -/
theorem VIn.cells {k : Nat} {v : Value} {V : VT k} (h : VIn P k w v V) : (cellsOf v).length = 7 ∧ ∀ u ∈ cellsOf v, u.oneCell' = true := by
  cases k with
  | zero => cases h
  | succ k =>
    obtain ⟨iv, kv, fv, vs, rfl, _, hi, _, hk, hf⟩ := h
    obtain ⟨a1, c1, rfl⟩ := own_slice hi.1
    obtain ⟨a2, c2, rfl⟩ := own_slice hk.1
    obtain ⟨a3, c3, rfl⟩ := own_slice hf.1
    refine ⟨rfl, fun u hu => ?_⟩
    simp [cellsOf, nodeVal, Value.cells] at hu
    rcases hu with rfl | rfl | rfl | rfl | rfl | rfl | rfl <;> rfl
end Go.Proofs.YtgkljcmjnphpeaaGreatDoor
