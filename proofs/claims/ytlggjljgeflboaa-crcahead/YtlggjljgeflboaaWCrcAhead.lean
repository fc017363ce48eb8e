/-
  CrcAhead: 0s ahead alter no sum of bits; in sums of bytes any byte ahead counts.
-/
import Derived.Test.YtlggjljgeflboaaHead
import Derived.Test.YtlggjljgeflboaaApart
namespace Go.Proofs.Ytlggjljgeflboaa
open Go.RowKit

set_option maxRecDepth 100000 in
set_option maxHeartbeats 1000000 in
theorem crcAhead_out (l : List Int) (n m nb : Nat) (hn : l.length = n) (A A1 A2 : Option Addr) (c c1 c2 : Nat) (w : World) (r : Row .i64 w w.heap.size A l) (hl : n ≤ maxLen) (h : 1000 < n ∨ 500 < nb ∨ 500 < m ∨ rightB l = false) :
    Calls Try.prog 9 #[.slice A n c, .slice A1 m c1, .slice A2 nb c2] w fun e w' => e = .returned (.bool true) ∧ Below w.heap.size w w' := by
  have Hn := Lib.hid hn
  clear hn
  by_cases h1 : 1000 < n
  · have d1 : decide (1000 < (n : Int)) = true := by simp; omega
    clear h
    go_enter Try.func9, Try.ntmps9
    go_wp2_with fail
    refine (head_any _).mono ?_
    rintro e w1 ⟨rfl, hB1⟩
    go_wp2_with fail
    go_ret
    exact ⟨rfl, hB1⟩
  · have d1 : decide (1000 < (n : Int)) = false := by simp; omega
    by_cases h2 : 500 < nb
    · have d2 : decide (500 < (nb : Int)) = true := by simp; omega
      clear h
      go_enter Try.func9, Try.ntmps9
      go_wp2_with fail
      refine (head_any _).mono ?_
      rintro e w1 ⟨rfl, hB1⟩
      go_wp2_with fail
      go_ret
      exact ⟨rfl, hB1⟩
    · have d2 : decide (500 < (nb : Int)) = false := by simp; omega
      by_cases h3 : 500 < m
      · have d3 : decide (500 < (m : Int)) = true := by simp; omega
        clear h
        go_enter Try.func9, Try.ntmps9
        go_wp2_with fail
        refine (head_any _).mono ?_
        rintro e w1 ⟨rfl, hB1⟩
        go_wp2_with fail
        go_ret
        exact ⟨rfl, hB1⟩
      · have d3 : decide (500 < (m : Int)) = false := by simp; omega
        have hr : rightB l = false := by rcases h with h | h | h | h; omega; omega; omega; exact h
        have Hr := Lib.hid hr
        clear h hr
        go_enter Try.func9, Try.ntmps9
        go_wp2_with fail
        refine (head_any _).mono ?_
        rintro e w1 ⟨rfl, hB1⟩
        go_wp2_with fail
        refine (refRight_at l n Hn.out A c _ _ (r.keep hB1) hl).mono ?_
        rintro e w' ⟨rfl, rfl⟩
        rw [Hr.out]
        go_wp2_with fail
        go_ret
        exact ⟨rfl, hB1⟩

theorem repl_snoc (k : Nat) : List.replicate (k + 1) (0 : Int) = List.replicate k 0 ++ [0] := List.replicate_succ'

set_option maxRecDepth 100000 in
set_option maxHeartbeats 2000000 in
theorem crcAhead_in (l : List Int) (n : Nat) (hn : l.length = n) (m : Nat) (b : List Int) (nb : Nat) (hnb : b.length = nb) (A A1 A2 : Option Addr) (c c1 c2 : Nat) (w : World)
    (h : Row .i64 w w.heap.size A l) (hb : Row .u8 w w.heap.size A2 b) (hbb : byteB b) (h1000 : n ≤ 1000) (h500 : nb ≤ 500) (hm500 : m ≤ 500) (hr : rightB l = true) :
    Calls Try.prog 9 #[.slice A n c, .slice A1 m c1, .slice A2 nb c2] w fun e w' => e = .returned (.bool true) ∧ Below w.heap.size w w' := by
  have d1 : decide (1000 < (n : Int)) = false := by simp; omega
  have d2 : decide (500 < (nb : Int)) = false := by simp; omega
  have d3 : decide (500 < (m : Int)) = false := by simp; omega
  have Hm := Lib.hid (show n ≤ maxLen by unfold maxLen; omega)
  have Hmn := Lib.hid (show m + n ≤ maxLen by unfold maxLen; omega)
  have Hmb := Lib.hid (show 1 + nb ≤ maxLen by unfold maxLen; omega)
  have Hn := Lib.hid hn
  have Hnb := Lib.hid hnb
  have Hr := Lib.hid hr
  have Hrm := Lib.hid (show rightB (List.replicate m 0 ++ l) = true by rw [rightB_append, rightB_zeros, hr]; rfl)
  have Hlm := Lib.hid (show (List.replicate m (0 : Int) ++ l).length = m + n by simp [hn])
  obtain ⟨S, hS⟩ : ∃ S, (crc15 l).toNat = S := ⟨_, rfl⟩
  have HS := Lib.hid (show ((crc15 l).toNat : Int) = (S : Int) by rw [hS])
  have HSm := Lib.hid (show ((crc15 (List.replicate m 0 ++ l)).toNat : Int) = (S : Int) by rw [crc15_ahead, hS])
  have Hb0 := Lib.hid (show byteB ([0] ++ b) from fun z hz => (List.mem_append.1 hz).elim (fun e => by rw [List.mem_singleton.1 e]; omega) (hbb z))
  have Hb1 := Lib.hid (show byteB ([1] ++ b) from fun z hz => (List.mem_append.1 hz).elim (fun e => by rw [List.mem_singleton.1 e]; omega) (hbb z))
  have Hl0 := Lib.hid (show ([0] ++ b).length = 1 + nb by simp [hnb]; omega)
  have Hl1 := Lib.hid (show ([1] ++ b).length = 1 + nb by simp [hnb]; omega)
  obtain ⟨T0, hT0⟩ : ∃ T, (crc8 ([0] ++ b)).toNat ^^^ 255 = T := ⟨_, rfl⟩
  obtain ⟨T1, hT1⟩ : ∃ T, (crc8 ([1] ++ b)).toNat ^^^ 255 = T := ⟨_, rfl⟩
  have HT0 := Lib.hid (show (((crc8 ([0] ++ b)).toNat ^^^ 255 : Nat) : Int) = (T0 : Int) by rw [hT0])
  have HT1 := Lib.hid (show (((crc8 ([1] ++ b)).toNat ^^^ 255 : Nat) : Int) = (T1 : Int) by rw [hT1])
  have hT : T0 ≠ T1 := by
    rw [← hT0, ← hT1]
    intro e
    exact crc8_apart [] b 0 1 (by omega) (by omega) (by omega) (BitVec.eq_of_toNat_eq (xor_cancel e))
  have dT : ((T0 : Int) != (T1 : Int)) = true := by simp; omega
  obtain ⟨V0, hV0⟩ : ∃ V, (crc32 0xFFFFFFFF#32 ([0] ++ b)).toNat ^^^ 4294967295 = V := ⟨_, rfl⟩
  obtain ⟨V1, hV1⟩ : ∃ V, (crc32 0xFFFFFFFF#32 ([1] ++ b)).toNat ^^^ 4294967295 = V := ⟨_, rfl⟩
  have HV0 := Lib.hid (show (((crc32 0xFFFFFFFF#32 ([0] ++ b)).toNat ^^^ 4294967295 : Nat) : Int) = (V0 : Int) by rw [hV0])
  have HV1 := Lib.hid (show (((crc32 0xFFFFFFFF#32 ([1] ++ b)).toNat ^^^ 4294967295 : Nat) : Int) = (V1 : Int) by rw [hV1])
  have hV : V0 ≠ V1 := by
    rw [← hV0, ← hV1]
    intro e
    exact crc32_apart 0xFFFFFFFF#32 [] b [0] [1] rfl (by simp) (by unfold byteB; simp) (by unfold byteB; simp) (by simp) (BitVec.eq_of_toNat_eq (xor_cancel e))
  have dV : ((V0 : Int) != (V1 : Int)) = true := by simp; omega
  clear hn hnb hbb hr hS hT0 hT1 hV0 hV1 hT hV
  obtain ⟨i0, hi, hz0, hz1, hz2⟩ := info_parts Try.infoInt
  obtain ⟨j0, hj, hy0, hy1, hy2⟩ := info_parts Try.infoByte
  go_enter Try.func9, Try.ntmps9
  go_wp2_with fail
  refine (head_any _).mono ?_
  rintro e w1 ⟨rfl, hB1⟩
  go_wp2_with fail
  refine (refRight_at l n Hn.out A c _ _ (h.keep hB1) Hm.out).mono ?_
  rintro e w' ⟨rfl, rfl⟩
  rw [Hr.out]
  have hm63 : m ≤ 9223372036854775807 := by omega
  go_wp2_with fail
  go_loopw [8, 9] (fun o i wr => ∃ (k : Nat) (A' : Option Addr) (c' : Nat), k ≤ m ∧ i = .int .i64 k ∧ o = .slice A' k c' ∧ wr.ownsRow w1.heap.size 3 1 (.slice A' k c') k ((List.replicate k 0).map (Value.int .i64)) ∧ Below w1.heap.size w1 wr)
    (fun _ i _ => m - (intOf i).toNat)
  case atStart => exact ⟨0, none, 0, Nat.zero_le _, rfl, rfl, World.ownsRow_nil _ _ _ _, Below.refl _ _⟩
  case round =>
    obtain ⟨k, A', c', hk, rfl, rfl, hown, hB⟩ := hrel
    by_cases hlt : k < m
    · have Hs := Lib.hid (repl_snoc k)
      have hsz := hB.size
      go_wp2_with (at_builtin; refine wpList_append_row _ .i64 rfl _ _ 22 rfl w1.heap.size 3 i0 (.int .i64 0) 8 Try.underlying22 hi hz0 hz1 hz2 rfl _ k (List.replicate k 0) rfl (hown.alloc _) (some ⟨wr.heap.size, 0, none⟩) 1 1 _ [0] rfl rfl (Row.lit wr .i64 [0] 3 rfl) (by unfold maxLen; omega) (by omega) (by simp; omega) ?_; intro A3 c3 w2 hown2 hc2 hB2)
      have hBB : Below w1.heap.size w1 w2 := (hB.alloc hB.size _).trans hB2
      exact ⟨⟨k + 1, A3, c3, by omega, by go_num, rfl, by rw [Hs.out]; exact hown2, hBB⟩, by simp [intOf]; omega⟩
    · obtain rfl : k = m := by omega
      have rl := (h.keep hB1).to hB
      have rb := (hb.keep hB1).to hB
      go_wp2_with (first
        | (at_builtin; refine wpList_append_row _ .i64 rfl (.tmp 41) (.tmp 42) 22 rfl w1.heap.size 3 i0 (.int .i64 0) 8 Try.underlying22 hi hz0 hz1 hz2 rfl _ k (List.replicate k 0) rfl hown A n c _ l rfl Hn.out rl (by unfold maxLen; omega) (by omega) (by exact hB.size) ?_; intro A3 c3 w3 own3 hc3 hB3; have e3 : Below w1.heap.size w1 w3 := hB.trans hB3; have eb3 := below_next hB1 e3; have rb3 := (hb.to eb3).to (below_lits (w := w3) (o := .cells #[.int .u8 0] 5) rfl); have o3 := own_lit w3 .u8 [0] 1 rfl 5 (cs := #[.int .u8 0]) rfl (by decide); have rm3 := Row.own own3)
        | (at_builtin; refine wpList_append_row _ .u8 rfl (.tmp 44) (.tmp 45) 23 rfl w3.heap.size 5 j0 (.int .u8 0) 1 Try.underlying23 hj hy0 hy1 hy2 rfl _ 1 [0] rfl o3 A2 nb c2 _ b rfl Hnb.out rb3 (by unfold maxLen; omega) (by omega) (by simp) ?_; intro A4 c4 w4 own4 hc4 hB4; have e4 : Below w3.heap.size w3 w4 := (below_lits (w := w3) (o := .cells #[.int .u8 0] 5) rfl).trans hB4; have eb4 := below_next eb3 e4; have rb4 := (hb.to eb4).to (below_lits (w := w4) (o := .cells #[.int .u8 1] 5) rfl); have o4 := own_lit w4 .u8 [1] 1 rfl 5 (cs := #[.int .u8 1]) rfl (by decide); have rc4 := Row.own own4; have rm4 := rm3.to e4)
        | (at_builtin; refine wpList_append_row _ .u8 rfl (.tmp 47) (.tmp 48) 23 rfl w4.heap.size 5 j0 (.int .u8 0) 1 Try.underlying23 hj hy0 hy1 hy2 rfl _ 1 [1] rfl o4 A2 nb c2 _ b rfl Hnb.out rb4 (by unfold maxLen; omega) (by omega) (by simp) ?_; intro A5 c5 w5 own5 hc5 hB5; have e5 : Below w4.heap.size w4 w5 := (below_lits (w := w4) (o := .cells #[.int .u8 1] 5) rfl).trans hB5; have eb5 := below_next eb4 e5; have rd5 := Row.own own5; have rm5 := rm4.to e5; have rc5 := rc4.to e5; have rl5 := h.to eb5))
      clear own3 own4 own5 o3 o4 rb3 rb4 rm3 rm4 rc4 hown rl rb
      refine (bits_S c3 Hlm.out rm5 (Below.refl _ _) Hrm.out Hmn.out HSm.out).mono ?_
      rintro e w6 ⟨rfl, hB6⟩
      go_wp2_with fail
      refine (bits_S c Hn.out rl5 hB6 Hr.out Hm.out HS.out).mono ?_
      rintro e w7 ⟨rfl, hB7⟩
      go_wp2_with fail
      refine (byte_S c4 Hl0.out rc5 hB7 Hb0.out Hmb.out HT0.out).mono ?_
      rintro e w8 ⟨rfl, hB8⟩
      go_wp2_with fail
      refine (byte_S c5 Hl1.out rd5 hB8 Hb1.out Hmb.out HT1.out).mono ?_
      rintro e w9 ⟨rfl, hB9⟩
      go_wp2_with fail
      refine (word_S c4 Hl0.out rc5 hB9 Hb0.out Hmb.out HV0.out).mono ?_
      rintro e w10 ⟨rfl, hB10⟩
      go_wp2_with fail
      refine (word_S c5 Hl1.out rd5 hB10 Hb1.out Hmb.out HV1.out).mono ?_
      rintro e w11 ⟨rfl, hB11⟩
      go_wp2_with fail
      go_ret
      exact ⟨rfl, below_then eb5 hB11⟩

theorem crcAhead_walk (l : List Int) (n : Nat) (hn : l.length = n) (m : Nat) (b : List Int) (nb : Nat) (hnb : b.length = nb) (A A1 A2 : Option Addr) (c c1 c2 : Nat) (w : World)
    (h : Row .i64 w w.heap.size A l) (hb : Row .u8 w w.heap.size A2 b) (hbb : byteB b) (hm : n ≤ maxLen) :
    Calls Try.prog 9 #[.slice A n c, .slice A1 m c1, .slice A2 nb c2] w fun e w' => e = .returned (.bool true) ∧ Below w.heap.size w w' := by
  by_cases hlong : 1000 < n ∨ 500 < nb ∨ 500 < m ∨ rightB l = false
  · exact crcAhead_out l n m nb hn A A1 A2 c c1 c2 w h hm hlong
  · refine crcAhead_in l n hn m b nb hnb A A1 A2 c c1 c2 w h hb hbb (by omega) (by omega) (by omega) ?_
    cases hr : rightB l with
    | true => rfl
    | false => exact absurd (.inr (.inr (.inr hr))) hlong

end Go.Proofs.Ytlggjljgeflboaa
