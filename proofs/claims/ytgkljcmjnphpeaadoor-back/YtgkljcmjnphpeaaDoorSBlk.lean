/- storedBlock and stored: bytes as they are. -/
import Derived.Test.YtgkljcmjnphpeaaDoorBitC
import Derived.Test.YtgkljcmjnphpeaaDoorStored
import Derived.Laws.AppendOwnNone
set_option linter.unusedVariables false
set_option linter.unusedSimpArgs false
namespace Go.Proofs.YtgkljcmjnphpeaaDoor
open Go.RowKit
variable {w : World} {B bw cap T : Nat} {data : List Nat} {ao : Option Addr} {bs : List Bool} {rest : List Value}

theorem Dat.kept {S : List Nat} {w' : World} (h : Dat w B ao data) (k : Kept 5 B S w w') (hS : ∀ x ∈ S, B ≤ x) : Dat w' B ao data := by
  intro i hi
  obtain ⟨b, o, e1, e2, e3⟩ := h i hi
  exact ⟨b, o, e1, e2, k.cell hS e2 e3⟩

theorem nth_lt_mem {l : List Nat} (h : ∀ i, i < l.length → nth l i < 256) : ∀ x ∈ l, x < 256 := by
  intro x hx
  obtain ⟨i, hi, rfl⟩ := List.getElem_of_mem hx
  have := h i hi
  simpa [nth, hi] using this

set_option maxRecDepth 100000 in
set_option maxHeartbeats 2000000 in
/-- Bytes appended to a writer that stands at a byte. -/
theorem storedBlock_ok (h : Wx B bw 67 [] w bs) (last : Nat) (hlast : last ≤ 1) (hd : Dat w B ao data) (byt : ∀ i, i < data.length → nth data i < 256) (len : data.length ≤ 65535) (hn : ao = none → cap = 0) (hl : bs.length ≤ 1000000) :
    Calls Tryd.prog 47 #[.pointer (some ⟨bw, 0, none⟩), .int .i64 last, .slice ao data.length cap] w fun e w' => e = .returned (.tuple #[]) ∧
      Wx B bw 67 [] w' (bs ++ Fo.numBits 1 last ++ Fo.numBits 2 0 ++ List.replicate ((8 - (bs ++ Fo.numBits 1 last ++ Fo.numBits 2 0).length % 8) % 8) false ++ Fo.numBits 16 data.length ++ Fo.numBits 16 (65535 - data.length) ++ Fo.bitsOf data) ∧ Kept 5 B [bw] w w' := by
  obtain ⟨i0, hi, hz0, hz1, hz2⟩ := info_parts Tryd.infoByte
  have hbw : B ≤ bw := by obtain ⟨_, _, _, hq, _⟩ := h; exact hq.hb
  have HD := hide hd
  have BYT := hide byt
  clear hd byt
  go_enter Tryd.func47, Tryd.ntmps47
  go_wp2_with fail
  refine (wbits_ok h last 1 (by omega) (by omega) (by omega)).mono ?_
  rintro e w1 ⟨rfl, h1, k1⟩
  go_wp2_with fail
  refine (wbits_ok h1 0 2 (by omega) (by omega) (by simp only [List.length_append, Fo.numBits_length]; omega)).mono ?_
  rintro e w2 ⟨rfl, h2, k2⟩
  go_wp2_with fail
  refine (walign_ok h2).mono ?_
  rintro e w3 ⟨rfl, h3, k3⟩
  have hlen3 : (bs ++ Fo.numBits 1 last ++ Fo.numBits 2 0 ++ List.replicate ((8 - (bs ++ Fo.numBits 1 last ++ Fo.numBits 2 0).length % 8) % 8) false).length ≤ 1000100 ∧ (bs ++ Fo.numBits 1 last ++ Fo.numBits 2 0 ++ List.replicate ((8 - (bs ++ Fo.numBits 1 last ++ Fo.numBits 2 0).length % 8) % 8) false).length % 8 = 0 := by
    simp only [List.length_append, Fo.numBits_length, List.length_replicate]; omega
  generalize hcs : bs ++ Fo.numBits 1 last ++ Fo.numBits 2 0 ++ List.replicate ((8 - (bs ++ Fo.numBits 1 last ++ Fo.numBits 2 0).length % 8) % 8) false = cs at *
  have HCS := hide hcs
  clear hcs
  have kk := (k1.trans k2).trans k3
  clear h h1 h2 k1 k2 k3
  go_wp2_with fail
  refine (wbits_ok h3 data.length 16 (by omega) (by omega) (by omega)).mono ?_
  rintro e w4 ⟨rfl, h4, k4⟩
  go_wp2_with fail
  rw [show (65535 : Int) - (data.length : Int) = ((65535 - data.length : Nat) : Int) by omega]
  refine (wbits_ok h4 (65535 - data.length) 16 (by omega) (by omega) (by simp only [List.length_append, Fo.numBits_length]; omega)).mono ?_
  rintro e w5 ⟨rfl, h5, k5⟩
  have kk5 := (kk.trans k4).trans k5
  clear kk k4 k5 h3 h4
  have hal : (cs ++ Fo.numBits 16 data.length ++ Fo.numBits 16 (65535 - data.length)).length ≤ 1000200 ∧ (cs ++ Fo.numBits 16 data.length ++ Fo.numBits 16 (65535 - data.length)).length % 8 = 0 := by
    simp only [List.length_append, Fo.numBits_length]; omega
  obtain ⟨ov, out, used, hq, hb⟩ := h5
  generalize hds : cs ++ Fo.numBits 16 data.length ++ Fo.numBits 16 (65535 - data.length) = ds at *
  have HDS := hide hds
  clear hds
  have hol : out.length ≤ 200000 := by have := bw_len hb; omega
  obtain rfl : used = 0 := by rw [← hb.2.1]; exact hal.2
  have HDK := hide (HD.out.kept kk5 (by simpa using hbw))
  have HBB := hide (hb.bytes data (nth_lt_mem BYT.out))
  have c0 := hq.c0
  have hsz := hq.sz
  have KK5 := hide kk5
  clear kk5 hb HD
  cases ao with
  | none =>
    obtain rfl := hn rfl
    have h0 : data = [] := by
      cases hdd : data with
      | nil => rfl
      | cons x xs =>
        obtain ⟨b, o, e1, _⟩ := HDK.out 0 (by rw [hdd]; simp)
        cases e1
    subst h0
    have f0 := hq.fz 0
    obtain ⟨a1, c1, rfl⟩ := own_slice hq.own
    have HQ := hide hq
    clear hq hn
    go_wp2_with (at_builtin; refine wpList_append_own_none rfl (.tmp 26) (.tmp 27) 22 rfl B 5 i0 1 Tryd.underlying22 hi (.slice a1 out.length c1) out.length _ rfl HQ.out.own rfl ?_)
    go_end0
    refine ⟨rfl, ?_, (KK5.out).setCell (by simp) _⟩
    rw [HCS.out, HDS.out]
    refine ⟨.slice a1 out.length c1, out ++ [], 0, ⟨HQ.out.hb, HQ.out.hT, ?_, ?_⟩, HBB.out⟩
    · rw [blk_setCell _ HQ.out.blk]; simp
    · rw [List.append_nil]; exact ownsRow_setCell_other HQ.out.own (own_ne HQ.out.own HQ.out.blk HQ.out.hT) _
  | some ad =>
    have HQ := hide hq
    obtain ⟨a1, c1, rfl⟩ := own_slice hq.own
    clear hq hn
    go_wp2_with (at_builtin; refine wpList_append_own _ rfl (.tmp 26) (.tmp 27) 22 rfl B 5 i0 (.int .u8 0) 1 1 Tryd.underlying22 hi hz0 hz1 hz2 rfl (by decide) (.slice a1 out.length c1) out.length _ rfl HQ.out.own ad data.length cap (data.map fun x : Nat => .int .u8 (x : Int)) rfl (by simp) ?hnews ?hone ?h63 ?hby ?hbs ?_)
    case hnews =>
      intro j u hu
      obtain ⟨hj, rfl⟩ := List.getElem?_eq_some_iff.1 hu
      rw [List.length_map] at hj
      obtain ⟨b, o, e1, _, e3⟩ := HDK.out j hj
      cases e1
      rw [addr_add2, e3]
      simp [nth, hj]
    case hone => intro u hu; simp at hu; obtain ⟨x, _, rfl⟩ := hu; rfl
    case h63 => unfold maxLen; omega
    case hby => omega
    case hbs => omega
    intro v' w6 hown hg0 _
    obtain ⟨a2, c2, rfl⟩ := own_slice hown
    obtain ⟨q, k, d0, f0⟩ := HQ.out.app (xs := data) (by simpa using hown) hg0
    have Q6 := hide q
    have K6 := hide k
    clear hown hg0 q k
    go_wp2
    go_end0
    refine ⟨rfl, ?_, KK5.out.trans K6.out⟩
    rw [HCS.out, HDS.out]
    exact ⟨_, out ++ data, 0, Q6.out, HBB.out⟩

/-- The bits of one stored block, the last. -/
def storedBits (data : List Nat) : List Bool := true :: (Fo.numBits 2 0 ++ (List.replicate 5 false ++ (Fo.numBits 16 data.length ++ (Fo.numBits 16 (65535 - data.length) ++ Fo.bitsOf data))))
theorem storedBits_eq (data : List Nat) : [] ++ Fo.numBits 1 1 ++ Fo.numBits 2 0 ++ List.replicate ((8 - ([] ++ Fo.numBits 1 1 ++ Fo.numBits 2 0).length % 8) % 8) false ++ Fo.numBits 16 data.length ++ Fo.numBits 16 (65535 - data.length) ++ Fo.bitsOf data = storedBits data := by
  unfold storedBits
  have e5 : (8 - (([] : List Bool) ++ Fo.numBits 1 1 ++ Fo.numBits 2 0).length % 8) % 8 = 5 := rfl
  rw [e5]
  simp only [List.append_assoc, List.nil_append]; rfl

set_option maxRecDepth 100000 in
set_option maxHeartbeats 2000000 in
theorem wstored_ok (hd : Dat w B ao data) (hB : B ≤ w.heap.size) (byt : ∀ i, i < data.length → nth data i < 256) (len : data.length ≤ 65535) (hn : ao = none → cap = 0) :
    Calls Tryd.prog 28 #[.slice ao data.length cap] w fun e w' => ∃ (ov : Value) (out : List Nat), e = .returned ov ∧ w'.ownsRow w.heap.size 5 1 ov out.length (out.map fun x : Nat => .int .u8 (x : Int)) ∧ Below w.heap.size w w' ∧ Fo.BW out 0 (storedBits data) := by
  have hx : Wx w.heap.size w.heap.size 67 [] (w.alloc (.cells #[.slice none 0 0, .int .i64 0] 67)) [] := ⟨.slice none 0 0, [], 0, ⟨Nat.le_refl _, by decide, blk_new _ _, World.ownsRow_nil _ _ _ _⟩, Fo.BW.nil⟩
  have hd' : Dat (w.alloc (.cells #[.slice none 0 0, .int .i64 0] 67)) w.heap.size ao data := by
    intro i hi
    obtain ⟨b, o, e1, e2, e3⟩ := hd i hi
    exact ⟨b, o, e1, by omega, by rw [World.cell?_alloc_lt _ _ _ (by show b < _; omega)]; exact e3⟩
  have HC := hide (storedBlock_ok hx 1 (by omega) hd' byt len hn (by simp))
  rw [storedBits_eq] at HC
  clear hd hd' byt hx
  go_enter Tryd.func28, Tryd.ntmps28
  go_wp2
  go_loopw [0] (fun d wr => d = .slice ao data.length cap ∧ wr = w.alloc (.cells #[.slice none 0 0, .int .i64 0] 67)) (fun _ _ => 0)
  case atStart => exact ⟨rfl, rfl⟩
  case round =>
    obtain ⟨rfl, rfl⟩ := hrel
    have hlt : ¬ (65535 : Int) < data.length := by omega
    go_wp2_with fail
    refine HC.out.mono ?_
    rintro e w1 ⟨rfl, ⟨ov, out, used, hq, hb⟩, k1⟩
    have c0 := hq.c0
    obtain rfl : used = 0 := by
      rw [← hb.2.1]; unfold storedBits
      simp only [List.length_cons, List.length_append, Fo.numBits_length, List.length_replicate, Fo.bitsOf_length]; omega
    go_wp2
    go_ret
    exact ⟨ov, out, rfl, hq.own, ((Below.refl _ _).alloc (Nat.le_refl _) _).trans (k1.below (by simp) (by simp)), hb⟩
end Go.Proofs.YtgkljcmjnphpeaaDoor
