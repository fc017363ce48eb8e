/-
  CrcParts: a sum of 32 bits goes on from part to part.
-/
import Derived.Test.YtlggjljgeflboaaHead
namespace Go.Proofs.Ytlggjljgeflboaa
open Go.RowKit

theorem moreN_vec (x : Int) (l : List Int) : moreN x l = (crc32 (BitVec.ofInt 32 x ^^^ 0xFFFFFFFF#32) l ^^^ 0xFFFFFFFF#32).toNat := by
  unfold moreN; rw [BitVec.toNat_xor]; rfl
theorem xor_twice (a b : BitVec 32) : a ^^^ b ^^^ b = a := by rw [BitVec.xor_assoc, BitVec.xor_self, BitVec.xor_zero]
theorem ofInt_toNat (v : BitVec 32) : BitVec.ofInt 32 ((v.toNat : Nat) : Int) = v := by rw [BitVec.ofInt_natCast, BitVec.ofNat_toNat, BitVec.setWidth_eq]
theorem crc32_append (s : BitVec 32) (a b : List Int) : crc32 s (a ++ b) = crc32 (crc32 s a) b := by
  unfold crc32 loAll
  rw [List.flatMap_append, List.foldl_append]
theorem moreN_more (x : Int) (a b : List Int) : moreN ((moreN x a : Nat) : Int) b = moreN x (a ++ b) := by
  rw [moreN_vec, moreN_vec, moreN_vec, ofInt_toNat, xor_twice, crc32_append]
theorem moreN_word (l : List Int) : (crc32 0xFFFFFFFF#32 l).toNat ^^^ 4294967295 = moreN 0 l := rfl
theorem moreN_nil (x : Int) : ((moreN x [] : Nat) : Int) = x % 4294967296 := by
  rw [moreN_vec]
  show (((BitVec.ofInt 32 x ^^^ 0xFFFFFFFF#32) ^^^ 0xFFFFFFFF#32).toNat : Int) = _
  rw [xor_twice, ofInt_mod]
theorem and_i64_32 (x : Int) : bits .and .i64 x 4294967295 = x % 4294967296 := by
  show IntKind.i64.wrap ((BitVec.ofInt 64 x &&& BitVec.ofInt 64 4294967295).toNat : Int) = _
  have e : BitVec.ofInt 64 4294967295 = 4294967295#64 := rfl
  rw [e, BitVec.toNat_and]
  have e2 : (4294967295#64).toNat = 2 ^ 32 - 1 := rfl
  rw [e2, Nat.and_two_pow_sub_one_eq_mod, BitVec.toNat_ofInt]
  have h0 : (0 : Int) ≤ x % ((2 ^ 64 : Nat) : Int) := Int.emod_nonneg _ (by decide)
  obtain ⟨y, hy⟩ := Int.eq_ofNat_of_zero_le h0
  have h1 : x % 18446744073709551616 = (y : Int) := hy
  rw [hy, Int.toNat_natCast, IntKind.wrap_i64]
  omega

theorem word_M {w W : World} {A : Option Addr} {l : List Int} {n : Nat} (c : Nat) (hn : l.length = n) (h : Row .u8 w w.heap.size A l) (hS : Below w.heap.size w W) (hr : byteB l) (hm : n ≤ maxLen) {v : Nat} (hv : moreN 0 l = v) :
    Calls Try.prog 16 #[.slice A n c] W fun e w' => e = .returned (.int .i64 v) ∧ Below w.heap.size w w' := word_S c hn h hS hr hm (by rw [moreN_word, hv])
theorem more_M {w W : World} {A : Option Addr} {l : List Int} {n : Nat} (c : Nat) (x : Int) (hn : l.length = n) (h : Row .u8 w w.heap.size A l) (hS : Below w.heap.size w W) (hr : byteB l) (hm : n ≤ maxLen) {v : Nat} (hv : moreN x l = v) :
    Calls Try.prog 18 #[.int .i64 x, .slice A n c] W fun e w' => e = .returned (.int .i64 v) ∧ Below w.heap.size w w' := more_S c x hn h hS hr hm (by rw [hv])

set_option maxRecDepth 100000 in
set_option maxHeartbeats 1000000 in
theorem crcParts_long (n nb : Nat) (x : Int) (A A' : Option Addr) (c c' : Nat) (w : World) (hl : n ≤ maxLen) (hb : nb ≤ maxLen) (h : 500 < n ∨ 500 < nb) :
    Calls Try.prog 4 #[.slice A n c, .slice A' nb c', .int .i64 x] w fun e w' => e = .returned (.bool true) ∧ Below w.heap.size w w' := by
  unfold maxLen at hb hl
  by_cases h1 : 500 < n
  · have d1 : decide (500 < (n : Int)) = true := by simp; omega
    clear h
    go_enter Try.func4, Try.ntmps4
    go_wp2_with fail
    refine (head_any _).mono ?_
    rintro e w1 ⟨rfl, hB1⟩
    go_wp2_with fail
    go_ret
    exact ⟨rfl, hB1⟩
  · have d1 : decide (500 < (n : Int)) = false := by simp; omega
    have d2 : decide (500 < (nb : Int)) = true := by simp; omega
    clear h
    go_enter Try.func4, Try.ntmps4
    go_wp2_with fail
    refine (head_any _).mono ?_
    rintro e w1 ⟨rfl, hB1⟩
    go_wp2_with fail
    go_ret
    exact ⟨rfl, hB1⟩

set_option maxRecDepth 100000 in
set_option maxHeartbeats 2000000 in
theorem crcParts_short (a : List Int) (n : Nat) (hn : a.length = n) (x : Int) (b : List Int) (nb : Nat) (hnb : b.length = nb) (A A' : Option Addr) (c c' : Nat) (w : World)
    (h : Row .u8 w w.heap.size A a) (hb : Row .u8 w w.heap.size A' b) (haa : byteB a) (hbb : byteB b) (h500 : n ≤ 500) (h500b : nb ≤ 500) :
    Calls Try.prog 4 #[.slice A n c, .slice A' nb c', .int .i64 x] w fun e w' => e = .returned (.bool true) ∧ Below w.heap.size w w' := by
  have d1 : decide (500 < (n : Int)) = false := by simp; omega
  have d2 : decide (500 < (nb : Int)) = false := by simp; omega
  have hma : n ≤ maxLen := by unfold maxLen; omega
  have hmb : nb ≤ maxLen := by unfold maxLen; omega
  have hmab : n + nb ≤ maxLen := by unfold maxLen; omega
  have Hma := Lib.hid hma
  have Hmb := Lib.hid hmb
  have Hmab := Lib.hid hmab
  have Hn := Lib.hid hn
  have Hnb := Lib.hid hnb
  have Hab := Lib.hid (show (a ++ b).length = n + nb by simp [hn, hnb])
  have Haa := Lib.hid haa
  have Hbb := Lib.hid hbb
  have Habb := Lib.hid (show byteB (a ++ b) from fun z hz => (List.mem_append.1 hz).elim (haa z) (hbb z))
  obtain ⟨va, hva⟩ : ∃ v, moreN 0 a = v := ⟨_, rfl⟩
  obtain ⟨vab, hvab⟩ : ∃ v, moreN 0 (a ++ b) = v := ⟨_, rfl⟩
  obtain ⟨vx, hvx⟩ : ∃ v, moreN x a = v := ⟨_, rfl⟩
  obtain ⟨vxab, hvxab⟩ : ∃ v, moreN x (a ++ b) = v := ⟨_, rfl⟩
  have h1 : moreN (va : Int) b = vab := by rw [← hva, ← hvab]; exact moreN_more 0 a b
  have h2 : moreN (vx : Int) b = vxab := by rw [← hvx, ← hvxab]; exact moreN_more x a b
  have h3 := and_i64_32 x
  have h4 := moreN_nil x
  obtain ⟨vn, hvn⟩ : ∃ v, moreN x [] = v := ⟨_, rfl⟩
  rw [hvn, ← h3] at h4
  have Hva := Lib.hid hva
  have Hvab := Lib.hid hvab
  have Hvx := Lib.hid hvx
  have Hvxab := Lib.hid hvxab
  have Hvn := Lib.hid hvn
  have H1 := Lib.hid h1
  have H2 := Lib.hid h2
  clear hva hvab hvx hvxab hvn h1 h2 h3 hma hmb hmab hn hnb haa hbb
  obtain ⟨j0, hj, hy0, hy1, hy2⟩ := info_parts Try.infoByte
  go_enter Try.func4, Try.ntmps4
  go_wp2_with fail
  refine (head_any _).mono ?_
  rintro e w1 ⟨rfl, hB1⟩
  have o1 := own_lit w1 .u8 [] 0 rfl 5 (cs := #[]) rfl (by decide)
  have l01 := (h.to hB1).to (below_lits (w := w1) (o := .cells #[] 5) rfl)
  have l10 := hb.to hB1
  go_wp2_with (first
    | (at_builtin; refine wpList_append_row _ .u8 rfl (.tmp 19) (.tmp 20) 23 rfl w1.heap.size 5 j0 (.int .u8 0) 1 Try.underlying23 hj hy0 hy1 hy2 rfl _ 0 [] rfl o1 A n c _ a rfl Hn.out l01 (by unfold maxLen; omega) (by omega) (by simp) ?_; intro A4 c4 w2 own2 hc4 hB2; simp only [Nat.zero_add, List.nil_append] at own2 hc4 ⊢; have e2 : Below w1.heap.size w1 w2 := (below_lits (w := w1) (o := .cells #[] 5) rfl).trans hB2; have l11 := l10.to e2)
    | (at_builtin; refine wpList_append_row _ .u8 rfl (.tmp 21) (.tmp 22) 23 rfl w1.heap.size 5 j0 (.int .u8 0) 1 Try.underlying23 hj hy0 hy1 hy2 rfl _ n a rfl own2 A' nb c' _ b rfl Hnb.out l11 (by unfold maxLen; omega) (by omega) (by exact e2.size) ?_; intro A5 c5 w3 own3 hc5 hB3))
  have e3 : Below w1.heap.size w1 w3 := e2.trans hB3
  have eb := below_then hB1 e3
  have ra := h.to eb
  have rb := hb.to eb
  have rab := Row.own own3
  clear own2 own3 l01 l10 l11 o1 hB2 hB3 e2
  refine (word_M c Hn.out ra (Below.refl _ _) Haa.out Hma.out Hva.out).mono ?_
  rintro e w4 ⟨rfl, hB4⟩
  go_wp2_with fail
  refine (more_M c' _ Hnb.out rb hB4 Hbb.out Hmb.out H1.out).mono ?_
  rintro e w5 ⟨rfl, hB5⟩
  go_wp2_with fail
  refine (word_M c5 Hab.out rab hB5 Habb.out Hmab.out Hvab.out).mono ?_
  rintro e w6 ⟨rfl, hB6⟩
  go_wp2_with fail
  refine (more_M c _ Hn.out ra hB6 Haa.out Hma.out Hvx.out).mono ?_
  rintro e w7 ⟨rfl, hB7⟩
  go_wp2_with fail
  refine (more_M c' _ Hnb.out rb hB7 Hbb.out Hmb.out H2.out).mono ?_
  rintro e w8 ⟨rfl, hB8⟩
  go_wp2_with fail
  refine (more_M c5 _ Hab.out rab hB8 Habb.out Hmab.out Hvxab.out).mono ?_
  rintro e w9 ⟨rfl, hB9⟩
  go_wp2_with fail
  refine (more_M c 0 Hn.out ra hB9 Haa.out Hma.out Hva.out).mono ?_
  rintro e w10 ⟨rfl, hB10⟩
  go_wp2_with fail
  refine (word_M c Hn.out ra hB10 Haa.out Hma.out Hva.out).mono ?_
  rintro e w11 ⟨rfl, hB11⟩
  go_wp2_with fail
  refine (more_M (A := none) (l := []) 0 x rfl (.inl rfl) hB11 (by unfold byteB; simp) (by decide) Hvn.out).mono ?_
  rintro e w12 ⟨rfl, hB12⟩
  go_wp2_with fail
  go_ret
  exact ⟨rfl, below_then eb hB12⟩

theorem crcParts_walk (a : List Int) (n : Nat) (hn : a.length = n) (x : Int) (b : List Int) (nb : Nat) (hnb : b.length = nb) (A A' : Option Addr) (c c' : Nat) (w : World)
    (h : Row .u8 w w.heap.size A a) (hb : Row .u8 w w.heap.size A' b) (haa : byteB a) (hbb : byteB b) (hm : n ≤ maxLen) (hmb : nb ≤ maxLen) :
    Calls Try.prog 4 #[.slice A n c, .slice A' nb c', .int .i64 x] w fun e w' => e = .returned (.bool true) ∧ Below w.heap.size w w' := by
  by_cases hlong : 500 < n ∨ 500 < nb
  · exact crcParts_long n nb x A A' c c' w hm hmb hlong
  · exact crcParts_short a n hn x b nb hnb A A' c c' w h hb haa hbb (by omega) (by omega)

end Go.Proofs.Ytlggjljgeflboaa
