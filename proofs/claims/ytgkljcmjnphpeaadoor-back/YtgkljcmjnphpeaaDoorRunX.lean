/- The filter of runs, read. -/
import Derived.Test.YtgkljcmjnphpeaaDoorChain
import Derived.Test.YtgkljcmjnphpeaaDoorAp
import Derived.Test.YtgkljcmjnphpeaaDoorStored
import Derived.Test.YtgkljcmjnphpeaaDoorRunW
import Derived.Test.YtgkljcmjnphpeaaDoorA85X
set_option linter.unusedVariables false
set_option linter.unusedSimpArgs false
/- The filter of runs, read. -/
namespace Go.Proofs.YtgkljcmjnphpeaaDoor
open Go.RowKit
variable {B br bd off cap : Nat} {d : List Nat} {most : Nat} {w : World} {p : Nat} {ov : Value} {out : List Nat}

theorem news1' {w : World} {a : Nat} : ∀ j u, ([a].map fun x : Nat => Value.int .u8 (x : Int))[j]? = some u → (w.alloc (.cells #[.int .u8 (a : Nat)] 5)).cell? ((⟨w.heap.size, 0, none⟩ : Addr).add j) = some u := by
  intro j u hu
  match j, hu with
  | 0, hu => rw [addr_add, World.cell?_alloc_new]; exact hu
  | j + 1, hu => simp at hu

set_option maxRecDepth 100000 in
set_option maxHeartbeats 1000000 in
theorem repeat_ok (h : Rd B br bd off cap d most w p ov out) (b n : Nat) (hb : b < 256) (hn : n ≤ 1000000) (ho : out.length + n ≤ most) :
    Calls Tryd.prog 56 #[.pointer (some ⟨br, 0, none⟩), .int .u8 b, .int .i64 n] w fun e w' => e = .returned (.tuple #[]) ∧ ∃ ov', Rd B br bd off cap d most w' p ov' (out ++ List.replicate n b) ∧ Kept 5 B [br] w w' := by
  obtain ⟨i0, hi, hz0, hz1, hz2⟩ := info_parts Tryd.infoByte
  have HR := hide (room_ok h n ho)
  go_enter Tryd.func56, Tryd.ntmps56
  go_wp2_with fail
  refine HR.out.mono ?_
  rintro e w1 ⟨rfl, q, rfl⟩
  go_wp2
  go_loopw [10] (fun i wr => ∃ (k : Nat) (ov' : Value), k ≤ n ∧ i = .int .i64 k ∧ Rd B br bd off cap d most wr p ov' (out ++ List.replicate k b) ∧ Kept 5 B [br] w wr) (fun i _ => n - (intOf i).toNat)
  case atStart => exact ⟨0, ov, Nat.zero_le _, rfl, by simpa using h.drewN q, (Kept.refl _ _ _ _).drewN q⟩
  clear HR h
  case round =>
    obtain ⟨k, ov', hk, rfl, r, kk⟩ := hrel
    have hlen : (out ++ List.replicate k b).length = out.length + k := by simp
    by_cases hlt : k < n
    · have HS : Hid (out ++ List.replicate (k + 1) b = (out ++ List.replicate k b) ++ [b]) := by
        unfold Hid
        rw [List.replicate_succ', List.append_assoc]
      have hlm := r.lm
      have hlo : (out ++ List.replicate k b).length ≤ 1000000 := by omega
      have ho1 : (out ++ List.replicate k b).length + 1 ≤ most := by omega
      clear hlen
      generalize out ++ List.replicate k b = o at *
      have c2 := r.c2
      have hs := r.sz
      have HRr := hide r
      have KK := hide kk
      clear r kk
      go_wp2_with (at_builtin; refine wpList_append_own _ rfl (.tmp 16) (.tmp 18) 22 rfl B 5 i0 (.int .u8 0) 1 1 Tryd.underlying22 hi hz0 hz1 hz2 rfl (by decide) ov' o.length _ rfl (HRr.out.alloc _).own ⟨wr.heap.size, 0, none⟩ 1 1 ([b].map fun x : Nat => .int .u8 (x : Int)) rfl rfl ?hnews ?hone ?h63 ?hby ?hbs ?_)
      case hnews => exact news1'
      case hone => intro u hu; simp at hu; subst hu; rfl
      case h63 => unfold maxLen; omega
      case hby => omega
      case hbs => simp; omega
      intro v' w2 hown hg0 _
      have hg : (wr.alloc (.cells #[.int .u8 (b : Nat)] 5)).grownBy w2 ov'.ownBlock := ⟨hg0.os, hg0.tape, hg0.output, hg0.size, hg0.block⟩
      clear hg0
      have hkb := (HRr.out.alloc (.cells #[.int .u8 (b : Nat)] 5)).grown_blk hg
      have k2 : w2.cell? ⟨br, 2, none⟩ = some ov' := by rw [cell_blk hkb]; rfl
      have f2 : w2.frozen? ⟨br, 2, none⟩ = false := free_blk hkb
      obtain ⟨ao, oc, rfl⟩ := own_slice hown
      have R := hide ((HRr.out.alloc (.cells #[.int .u8 (b : Nat)] 5)).put (xs := [b]) ho1 hown hg)
      have K2 := hide (((KK.out.alloc (.cells #[.int .u8 (b : Nat)] 5)).grown hg (own_row (HRr.out.alloc _).own)).setCell (p := ⟨br, 2, none⟩) (by simp) (.slice ao (o.length + 1) oc))
      clear hown hg hkb HRr KK
      go_wp2
      go_roundw
      case rel => exact ⟨k + 1, _, by omega, by go_num, by rw [HS.out]; exact R.out, K2.out⟩
      case measure => simp [intOf]; omega
    · obtain rfl : k = n := by omega
      go_wp2
      go_end0
      exact ⟨rfl, ov', r, kk⟩

theorem repeat_no (h : Rd B br bd off cap d most w p ov out) (b n : Nat) (hn : n ≤ 1000000) (ho : most < out.length + n) :
    Calls Tryd.prog 56 #[.pointer (some ⟨br, 0, none⟩), .int .u8 b, .int .i64 n] w fun e w' => e = gaveUp 6 ∧ Kept 5 B [br] w w' := by
  have HR := hide (room_no h n hn ho)
  go_enter Tryd.func56, Tryd.ntmps56
  go_wp2_with fail
  refine HR.out.mono ?_
  rintro e w1 ⟨rfl, q, rfl⟩
  exact ⟨rfl, rfl, (Kept.refl _ _ _ _).drewN q⟩

theorem run_end (hp : p < d.length) (h1 : nth d p = 128) : PGo 34 B br bd off cap d most p out false (p + 1) out := by
  intro w ov h
  have HN := hide (next_ok h hp)
  rw [h1] at HN
  go_enter Tryd.func34, Tryd.ntmps34
  go_wp2_with fail
  refine HN.out.mono ?_
  rintro e w1 ⟨rfl, r1, k1⟩
  go_wp2
  go_ret
  exact ⟨rfl, ov, r1, k1⟩
theorem run_cut : PNo 34 B br bd off cap d most d.length out 5 := by
  intro w ov h
  go_enter Tryd.func34, Tryd.ntmps34
  go_wp2_with fail
  refine (next_no h).mono ?_
  rintro e w1 ⟨rfl, k1⟩
  exact ⟨rfl, rfl, k1⟩

set_option maxRecDepth 100000 in
theorem run_same (n x : Nat) (hn : 2 ≤ n) (hn2 : n ≤ 128) (hp : p + 1 < d.length) (h1 : nth d p = 257 - n) (h2 : nth d (p + 1) = x) (hx : x < 256) (ho : out.length + n ≤ most) : PGo 34 B br bd off cap d most p out true (p + 2) (out ++ List.replicate n x) := by
  intro w ov h
  have HN := hide (next_ok h (by omega))
  rw [h1] at HN
  obtain ⟨m, hm⟩ : ∃ m, m = 257 - n := ⟨_, rfl⟩
  rw [← hm] at HN
  have e1 : ((m : Int) == 128) = false := by simp; omega
  have e2 : ¬ (m : Int) < 128 := by omega
  have em : (257 : Int) - m = n := by omega
  have hm2 : m ≤ 255 := by omega
  clear hm
  go_enter Tryd.func34, Tryd.ntmps34
  go_wp2_with fail
  refine HN.out.mono ?_
  rintro e w1 ⟨rfl, r1, k1⟩
  have HN2 := hide (next_ok r1 hp)
  rw [h2] at HN2
  go_wp2_with fail
  refine HN2.out.mono ?_
  rintro e w2 ⟨rfl, r2, k2⟩
  go_wp2_with fail
  refine (repeat_ok r2 x n hx (by omega) ho).mono ?_
  rintro e w3 ⟨rfl, ov3, r3, k3⟩
  go_wp2
  go_ret
  exact ⟨rfl, ov3, r3, (k1.trans k2).trans k3⟩
set_option maxRecDepth 100000 in
theorem run_same_cap (n x : Nat) (hn : 2 ≤ n) (hn2 : n ≤ 128) (hp : p + 1 < d.length) (h1 : nth d p = 257 - n) (h2 : nth d (p + 1) = x) (ho : most < out.length + n) : PNo 34 B br bd off cap d most p out 6 := by
  intro w ov h
  have HN := hide (next_ok h (by omega))
  rw [h1] at HN
  obtain ⟨m, hm⟩ : ∃ m, m = 257 - n := ⟨_, rfl⟩
  rw [← hm] at HN
  have e1 : ((m : Int) == 128) = false := by simp; omega
  have e2 : ¬ (m : Int) < 128 := by omega
  have em : (257 : Int) - m = n := by omega
  have hm2 : m ≤ 255 := by omega
  clear hm
  go_enter Tryd.func34, Tryd.ntmps34
  go_wp2_with fail
  refine HN.out.mono ?_
  rintro e w1 ⟨rfl, r1, k1⟩
  have HN2 := hide (next_ok r1 hp)
  rw [h2] at HN2
  go_wp2_with fail
  refine HN2.out.mono ?_
  rintro e w2 ⟨rfl, r2, k2⟩
  go_wp2_with fail
  refine (repeat_no r2 x n (by omega) ho).mono ?_
  rintro e w3 ⟨rfl, k3⟩
  exact ⟨rfl, rfl, (k1.trans k2).trans k3⟩

theorem run_mix (n : Nat) (D : List Nat) (hn : 1 ≤ n) (hn2 : n ≤ 128) (hD : D.length = n) (hp : p + 1 + n ≤ d.length) (h1 : nth d p = n - 1) (h2 : ∀ i, i < n → nth d (p + 1 + i) = nth D i) (ho : out.length + n ≤ most) : PGo 34 B br bd off cap d most p out true (p + 1 + n) (out ++ D) := by
  intro w ov h
  have HN := hide (next_ok h (by omega))
  rw [h1] at HN
  obtain ⟨m, rfl⟩ : ∃ m, n = m + 1 := ⟨n - 1, by omega⟩
  rw [Nat.add_sub_cancel] at HN
  have e1 : ((m : Int) == 128) = false := by simp; omega
  have e2 : (m : Int) < 128 := by omega
  have H2 := hide h2
  clear h2
  go_enter Tryd.func34, Tryd.ntmps34
  go_wp2_with fail
  refine HN.out.mono ?_
  rintro e w1 ⟨rfl, r1, k1⟩
  have HT := hide (take_ok r1 (m + 1) (by omega) hp)
  go_wp2_with fail
  refine HT.out.mono ?_
  rintro e w2 ⟨rfl, r2, k2⟩
  have HP := hide (put_ok r2 D ⟨bd, off + (p + 1), none⟩ (cap - (p + 1)) (by rw [hD]; exact ho) (by have := r2.sz; omega) (fun i hi => by rw [addr_add2, ← H2.out i (by omega), Nat.add_assoc]; exact r2.dat (p + 1 + i) (by omega)))
  rw [hD] at HP
  go_wp2_with fail
  refine HP.out.mono ?_
  rintro e w3 ⟨rfl, ov3, r3, k3⟩
  go_wp2
  go_ret
  exact ⟨rfl, ov3, r3, (k1.trans k2).trans k3⟩
theorem run_mix_cap (n : Nat) (hn : 1 ≤ n) (hn2 : n ≤ 128) (hp : p + 1 + n ≤ d.length) (h1 : nth d p = n - 1) (ho : most < out.length + n) : PNo 34 B br bd off cap d most p out 6 := by
  intro w ov h
  have HN := hide (next_ok h (by omega))
  rw [h1] at HN
  obtain ⟨m, rfl⟩ : ∃ m, n = m + 1 := ⟨n - 1, by omega⟩
  rw [Nat.add_sub_cancel] at HN
  have e1 : ((m : Int) == 128) = false := by simp; omega
  have e2 : (m : Int) < 128 := by omega
  go_enter Tryd.func34, Tryd.ntmps34
  go_wp2_with fail
  refine HN.out.mono ?_
  rintro e w1 ⟨rfl, r1, k1⟩
  have HT := hide (take_ok r1 (m + 1) (by omega) hp)
  go_wp2_with fail
  refine HT.out.mono ?_
  rintro e w2 ⟨rfl, r2, k2⟩
  go_wp2_with fail
  refine (put_no r2 (m + 1) _ _ (by omega) ho).mono ?_
  rintro e w3 ⟨rfl, q, rfl⟩
  exact ⟨rfl, rfl, (k1.trans k2).drewN q⟩
end Go.Proofs.YtgkljcmjnphpeaaDoor
/- What the filter of runs has written, read: whole, with too little room, without its last byte. -/
namespace Go.Proofs.YtgkljcmjnphpeaaDoor
open Go.RowKit
variable {B br bd off cap : Nat} {d : List Nat} {most : Nat} {w : World} {p : Nat} {ov : Value} {out : List Nat}

namespace Fo
/-- Runs without their end. -/
def runCore : Nat → List Nat → List Nat
  | 0, _ => []
  | f + 1, l => if l.length = 0 then [] else if 1 < sameN l then (257 - sameN l) :: nth l 0 :: runCore f (l.drop (sameN l)) else (mixN l - 1) :: (l.take (mixN l) ++ runCore f (l.drop (mixN l)))
theorem runGo_core : ∀ (f : Nat) (l : List Nat), runGo f l = runCore f l ++ [128]
  | 0, l => rfl
  | f + 1, l => by
    unfold runGo runCore
    split
    · rfl
    · split
      · rw [runGo_core f]; rfl
      · rw [runGo_core f]; simp
theorem sameN_rep (l : List Nat) (h : 0 < l.length) : l.take (sameN l) = List.replicate (sameN l) (nth l 0) := by
  have hle := sameN_le l h
  have hs : ∀ i, i < sameN l → nth l i = nth l 0 := sameGo_same l 128 1 (fun i hi => by rw [show i = 0 by omega])
  apply List.ext_getElem
  · rw [List.length_take, List.length_replicate]; omega
  · intro i h1 h2
    rw [List.length_replicate] at h2
    have := hs i h2
    rw [List.getElem_take, List.getElem_replicate, ← this]
    simp [nth, show i < l.length by omega]
theorem runCore_len : ∀ (f : Nat) (l : List Nat), (runCore f l).length ≤ 2 * l.length
  | 0, l => by simp [runCore]
  | f + 1, l => by
    unfold runCore
    split
    · simp
    · rename_i h0
      have h0' : 0 < l.length := by omega
      split
      · rename_i h1
        have := sameN_le l h0'
        have ih := runCore_len f (l.drop (sameN l))
        rw [List.length_drop] at ih
        simp only [List.length_cons]; omega
      · rename_i h1
        have := mixN_le l h0' h1
        have ih := runCore_len f (l.drop (mixN l))
        rw [List.length_drop] at ih
        simp only [List.length_cons, List.length_append, List.length_take]; omega
theorem runCore_byte : ∀ (f : Nat) (l : List Nat), (∀ x ∈ l, x < 256) → ∀ x ∈ runCore f l, x < 256
  | 0, l, _ => by simp [runCore]
  | f + 1, l, hl => by
    unfold runCore
    split
    · simp
    · rename_i h0
      have h0' : 0 < l.length := by omega
      split
      · rename_i h1
        have := sameN_le l h0'
        intro x hx
        rcases List.mem_cons.1 hx with rfl | hx
        · omega
        rcases List.mem_cons.1 hx with rfl | hx
        · exact hl _ (by simp [nth, h0'])
        · exact runCore_byte f _ (fun y hy => hl y (List.mem_of_mem_drop hy)) x hx
      · rename_i h1
        have := mixN_le l h0' h1
        intro x hx
        rcases List.mem_cons.1 hx with rfl | hx
        · omega
        rcases List.mem_append.1 hx with hx | hx
        · exact hl x (List.mem_of_mem_take hx)
        · exact runCore_byte f _ (fun y hy => hl y (List.mem_of_mem_drop hy)) x hx
end Fo

/-- One run. -/
theorem run_step {data : List Nat} (byt : ∀ x ∈ data, x < 256) {p q f : Nat} {T : List Nat} (hp : p < data.length) (hd : d.drop q = Fo.runCore (f + 1) (data.drop p) ++ T) :
    ∃ n, 1 ≤ n ∧ p + n ≤ data.length ∧ (p + n ≤ most → ∃ q', q < q' ∧ d.drop q' = Fo.runCore f (data.drop (p + n)) ++ T ∧ PGo 34 B br bd off cap d most q (data.take p) true q' (data.take (p + n))) ∧
      (most < p + n → PNo 34 B br bd off cap d most q (data.take p) 6) := by
  have hlen : (data.take p).length = p := by rw [List.length_take]; omega
  have hl0 : (data.drop p).length = data.length - p := by rw [List.length_drop]
  have h0 : 0 < (data.drop p).length := by omega
  have hb : ∀ x ∈ data.drop p, x < 256 := fun x hx => byt x (List.mem_of_mem_drop hx)
  have hx0 : nth (data.drop p) 0 < 256 := by
    have e : nth (data.drop p) 0 = (data.drop p)[0] := by simp only [nth, List.getD_eq_getElem?_getD, List.getElem?_eq_getElem h0, Option.getD_some]
    rw [e]; exact hb _ (List.getElem_mem h0)
  unfold Fo.runCore at hd
  rw [if_neg (by omega)] at hd
  by_cases hs : 1 < Fo.sameN (data.drop p)
  · rw [if_pos hs] at hd
    have hle := Fo.sameN_le _ h0
    have hrep := Fo.sameN_rep _ h0
    generalize Fo.sameN (data.drop p) = S at *
    have ht : data.take p ++ List.replicate S (nth (data.drop p) 0) = data.take (p + S) := by rw [← hrep, ← List.take_add]
    have hdr : (data.drop p).drop S = data.drop (p + S) := by rw [List.drop_drop]
    rw [hdr] at hd
    have hd2 : d.drop q = [257 - S, nth (data.drop p) 0] ++ (Fo.runCore f (data.drop (p + S)) ++ T) := hd
    have hdl := len_of_drop hd2 (by simp)
    simp only [List.length_append, List.length_cons, List.length_nil] at hdl
    have n0 : nth d q = 257 - S := nth_of_drop hd2 0 (by simp)
    have n1 : nth d (q + 1) = nth (data.drop p) 0 := nth_of_drop hd2 1 (by simp)
    refine ⟨S, by omega, by omega, fun hm => ⟨q + 2, by omega, drop_more (A := [257 - S, nth (data.drop p) 0]) hd2, ?_⟩, fun hm => ?_⟩
    · have := run_same (B := B) (br := br) (bd := bd) (off := off) (cap := cap) (d := d) (most := most) (p := q) (out := data.take p) S (nth (data.drop p) 0) hs hle.2.1 (by omega) n0 n1 hx0 (by omega)
      rw [ht] at this
      exact this
    · exact run_same_cap S (nth (data.drop p) 0) hs hle.2.1 (by omega) n0 n1 (by omega)
  · rw [if_neg hs] at hd
    have hle := Fo.mixN_le _ h0 hs
    generalize Fo.mixN (data.drop p) = M at *
    have htl : ((data.drop p).take M).length = M := by rw [List.length_take]; omega
    have ht : data.take p ++ (data.drop p).take M = data.take (p + M) := by rw [← List.take_add]
    have hdr : (data.drop p).drop M = data.drop (p + M) := by rw [List.drop_drop]
    rw [hdr] at hd
    have hd2 : d.drop q = ([M - 1] ++ (data.drop p).take M) ++ (Fo.runCore f (data.drop (p + M)) ++ T) := by rw [hd]; simp
    have hl2 : ([M - 1] ++ (data.drop p).take M).length = 1 + M := by rw [List.length_append, htl]; rfl
    have hdl := len_of_drop hd2 (by rw [List.length_append, hl2]; omega)
    rw [List.length_append, hl2] at hdl
    have n0 : nth d q = M - 1 := nth_of_drop hd2 0 (by omega)
    have n1 : ∀ i, i < M → nth d (q + 1 + i) = nth ((data.drop p).take M) i := by
      intro i hi
      have := nth_of_drop hd2 (1 + i) (by omega)
      rw [← Nat.add_assoc] at this
      rw [this]
      simp [nth, Nat.add_comm 1 i]
    have hdm := drop_more hd2
    rw [hl2] at hdm
    refine ⟨M, by omega, by omega, fun hm => ⟨q + 1 + M, by omega, by rw [← hdm]; congr 1; omega, ?_⟩, fun hm => ?_⟩
    · have := run_mix (B := B) (br := br) (bd := bd) (off := off) (cap := cap) (d := d) (most := most) (p := q) (out := data.take p) M ((data.drop p).take M) (by omega) (by omega) htl (by omega) n0 n1 (by omega)
      rw [ht] at this
      exact this
    · exact run_mix_cap M (by omega) (by omega) (by omega) n0 (by omega)

theorem decodeRun_ok (data : List Nat) (byt : ∀ x ∈ data, x < 256) (hd : d = Fo.encRun data) (h : Rd B br bd off cap d most w 0 ov []) (hm : data.length ≤ most) :
    Calls Tryd.prog 21 #[.pointer (some ⟨br, 0, none⟩)] w fun e w' => e = .returned (.tuple #[]) ∧ ∃ ov', Rd B br bd off cap d most w' d.length ov' data ∧ Kept 5 B [br] w w' := by
  refine decodeRun_inv (fun q out => ∃ p f, p ≤ data.length ∧ data.length - p < f ∧ out = data.take p ∧ d.drop q = Fo.runCore f (data.drop p) ++ [128]) ?_ ⟨0, data.length + 1, by omega, by omega, by simp, by rw [List.drop_zero, List.drop_zero, hd, Fo.encRun, Fo.runGo_core]⟩ h
  rintro q out ⟨p, f, hp, hf, rfl, hdr⟩ _
  by_cases hlt : p < data.length
  · obtain ⟨f', rfl⟩ : ∃ f', f = f' + 1 := ⟨f - 1, by omega⟩
    obtain ⟨n, n1, n2, hgo, hno⟩ := run_step (B := B) (br := br) (bd := bd) (off := off) (cap := cap) (most := most) byt hlt hdr
    have HGO := hide hgo
    have HNO := hide hno
    clear hgo hno
    obtain ⟨q', a1, a2, a3⟩ := HGO.out (by omega)
    exact Or.inl ⟨q', _, a1, ⟨p + n, f', n2, by omega, rfl, a2⟩, a3⟩
  · obtain rfl : p = data.length := by omega
    have e0 : Fo.runCore f (data.drop data.length) = [] := by
      cases f with
      | zero => rfl
      | succ f => unfold Fo.runCore; rw [if_pos (by simp)]
    rw [e0, List.nil_append] at hdr
    have hl := len_of_drop hdr (by simp)
    simp only [List.length_cons, List.length_nil] at hl
    right
    have := run_end (B := B) (br := br) (bd := bd) (off := off) (cap := cap) (d := d) (most := most) (p := q) (out := data.take data.length) (by omega) (nth_of_drop (A := [128]) (R := []) hdr 0 (by simp))
    rw [show q + 1 = d.length by omega] at this
    rw [List.take_length] at *
    exact this

theorem decodeRun_cap (data : List Nat) (byt : ∀ x ∈ data, x < 256) (hd : d = Fo.encRun data) (h : Rd B br bd off cap d most w 0 ov []) (hm : most < data.length) :
    Calls Tryd.prog 21 #[.pointer (some ⟨br, 0, none⟩)] w fun e w' => e = gaveUp 6 ∧ Kept 5 B [br] w w' := by
  refine decodeRun_inv_fails (fun q out => ∃ p f, p ≤ data.length ∧ data.length - p < f ∧ out = data.take p ∧ d.drop q = Fo.runCore f (data.drop p) ++ [128]) ?_ ⟨0, data.length + 1, by omega, by omega, by simp, by rw [List.drop_zero, List.drop_zero, hd, Fo.encRun, Fo.runGo_core]⟩ h
  rintro q out ⟨p, f, hp, hf, rfl, hdr⟩ hlo
  rw [List.length_take, Nat.min_eq_left hp] at hlo
  obtain ⟨f', rfl⟩ : ∃ f', f = f' + 1 := ⟨f - 1, by omega⟩
  obtain ⟨n, n1, n2, hgo, hno⟩ := run_step (B := B) (br := br) (bd := bd) (off := off) (cap := cap) (most := most) byt (by omega) hdr
  have HGO := hide hgo
  have HNO := hide hno
  clear hgo hno
  by_cases c : p + n ≤ most
  · obtain ⟨q', a1, a2, a3⟩ := HGO.out c
    exact Or.inl ⟨q', _, a1, ⟨p + n, f', n2, by omega, rfl, a2⟩, a3⟩
  · exact Or.inr (HNO.out (by omega))

theorem decodeRun_cut (data : List Nat) (byt : ∀ x ∈ data, x < 256) (hd : d = Fo.runCore (data.length + 1) data) (h : Rd B br bd off cap d most w 0 ov []) (hm : data.length ≤ most) :
    Calls Tryd.prog 21 #[.pointer (some ⟨br, 0, none⟩)] w fun e w' => e = gaveUp 5 ∧ Kept 5 B [br] w w' := by
  refine decodeRun_inv_fails (fun q out => ∃ p f, p ≤ data.length ∧ data.length - p < f ∧ q ≤ d.length ∧ out = data.take p ∧ d.drop q = Fo.runCore f (data.drop p) ++ []) ?_ ⟨0, data.length + 1, by omega, by omega, by omega, by simp, by rw [List.drop_zero, List.drop_zero, hd, List.append_nil]⟩ h
  rintro q out ⟨p, f, hp, hf, hq, rfl, hdr⟩ _
  by_cases hlt : p < data.length
  · obtain ⟨f', rfl⟩ : ∃ f', f = f' + 1 := ⟨f - 1, by omega⟩
    obtain ⟨n, n1, n2, hgo, hno⟩ := run_step (B := B) (br := br) (bd := bd) (off := off) (cap := cap) (most := most) byt hlt hdr
    have HGO := hide hgo
    have HNO := hide hno
    clear hgo hno
    obtain ⟨q', a1, a2, a3⟩ := HGO.out (by omega)
    by_cases c : q' ≤ d.length
    · exact Or.inl ⟨q', _, a1, ⟨p + n, f', n2, by omega, c, rfl, a2⟩, a3⟩
    · exact Or.inl ⟨d.length, data.take (p + n), by
        rcases Nat.lt_or_ge q d.length with c2 | c2
        · exact c2
        · exfalso
          have : d.drop q = [] := List.drop_eq_nil_of_le c2
          rw [this, List.append_nil] at hdr
          have h2 := congrArg List.length hdr
          unfold Fo.runCore at h2
          rw [if_neg (by rw [List.length_drop]; omega)] at h2
          split at h2 <;> simp at h2, ⟨p + n, f', n2, by omega, Nat.le_refl _, rfl, by rw [List.drop_length, ← a2, List.drop_eq_nil_of_le (by omega)]⟩, fun w ov h => by
          refine (a3 w ov h).mono ?_
          rintro e w' ⟨_, ov', r, _⟩
          have := r.lp
          omega⟩
  · obtain rfl : p = data.length := by omega
    have e0 : Fo.runCore f (data.drop data.length) = [] := by
      cases f with
      | zero => rfl
      | succ f => unfold Fo.runCore; rw [if_pos (by simp)]
    rw [e0, List.nil_append] at hdr
    have : q = d.length := by have := congrArg List.length hdr; simp at this; omega
    subst this
    exact Or.inr run_cut

theorem encRun_cut (data : List Nat) : (Fo.encRun data).dropLast = Fo.runCore (data.length + 1) data := by
  rw [Fo.encRun, Fo.runGo_core, List.dropLast_concat]
end Go.Proofs.YtgkljcmjnphpeaaDoor
