/-
  crc's four calls.
-/
import Derived.Test.YtlggjljgeflboaaFeed
import Derived.Laws.EntriesVeiled
namespace Go.Proofs.Ytlggjljgeflboaa
open Go.RowKit

theorem results_cell1 {fn : Func} {p : Tmp} {ty : TypeId} (h : fn.results = #[.cell p ty]) (tmps : Array Value) (P : Program) (w : World) :
    (results fn tmps).run P w = ((asAddr (tmps.getD p undef)).run P w).andThen fun a w₁ => (loadVar ty a).run P w₁ := by
  simp only [results, h]
  simp [Sem.run_bind, Result.andThen]

/-- The value of a rule. -/
abbrev ruleV (f : Value) (inv : Int) : Value := .agg #[f, .int .u32 inv]

set_option maxHeartbeats 400000 in
theorem leftward_15 (w : World) :
    Calls Try.prog 31 #[.int .i64 15, .int .u32 17817] w fun e w' => e = .returned (fnL w.heap.size (w.heap.size + 1 + 1) (w.heap.size + 1)) ∧ w' = ((w.alloc (.cells #[.int .i64 15] 3)).alloc (.cells #[.int .u32 17817] 33)).alloc (.cells #[.int .u32 32767] 33) := by
  go_enter Try.func31, Try.ntmps31
  go_wp2
  go_ret
  exact ⟨rfl, rfl⟩

set_option maxHeartbeats 400000 in
theorem leftward_8 (w : World) :
    Calls Try.prog 31 #[.int .i64 8, .int .u32 29] w fun e w' => e = .returned (fnL w.heap.size (w.heap.size + 1 + 1) (w.heap.size + 1)) ∧ w' = ((w.alloc (.cells #[.int .i64 8] 3)).alloc (.cells #[.int .u32 29] 33)).alloc (.cells #[.int .u32 255] 33) := by
  go_enter Try.func31, Try.ntmps31
  go_wp2
  go_ret
  exact ⟨rfl, rfl⟩

set_option maxHeartbeats 400000 in
theorem bitsRule_any (w : World) :
    Calls Try.prog 22 #[] w fun e w' => e = .returned (ruleV (fnL (w.heap.size + 1) (w.heap.size + 1 + 1 + 1) (w.heap.size + 1 + 1)) 0) ∧
      w' = (((w.alloc (.cells #[fnL (w.heap.size + 1) (w.heap.size + 1 + 1 + 1) (w.heap.size + 1 + 1), .int .u32 0] 43)).alloc (.cells #[.int .i64 15] 3)).alloc (.cells #[.int .u32 17817] 33)).alloc (.cells #[.int .u32 32767] 33) := by
  go_enter Try.func22, Try.ntmps22
  go_wp2_with (go_at_call 31; refine (leftward_15 _).mono ?_; rintro e w' ⟨rfl, rfl⟩)
  refine bodyPost_ret (v := ruleV (fnL (w.heap.size + 1) (w.heap.size + 1 + 1 + 1) (w.heap.size + 1 + 1)) 0) ?_ rfl ⟨rfl, rfl⟩
  rw [results_cell1 rfl]
  go_simp
theorem bitsRule_at (w : World) :
    Calls Try.prog 22 #[] w fun e w' => ∃ Bm Ba Bd, e = .returned (ruleV (fnL Bm Ba Bd) 0) ∧ (Bm < w'.heap.size ∧ Ba < w'.heap.size ∧ Bd < w'.heap.size) ∧
      w'.cell? ⟨Bm, 0, none⟩ = some (.int .i64 15) ∧ w'.cell? ⟨Ba, 0, none⟩ = some (.int .u32 32767) ∧ w'.cell? ⟨Bd, 0, none⟩ = some (.int .u32 17817) ∧ Below w.heap.size w w' := by
  refine (bitsRule_any w).mono ?_
  rintro e w' ⟨rfl, rfl⟩
  refine ⟨_, _, _, rfl, ⟨by simp, by simp, by simp⟩, by go_simp, by go_simp, by go_simp, ?_⟩
  exact ((((Below.refl _ w).alloc (Nat.le_refl _) _).alloc (by simp) _).alloc (by simp; omega) _).alloc (by simp; omega) _

set_option maxHeartbeats 400000 in
theorem byteRule_any (w : World) :
    Calls Try.prog 25 #[] w fun e w' => e = .returned (ruleV (fnL (w.heap.size + 1) (w.heap.size + 1 + 1 + 1) (w.heap.size + 1 + 1)) 255) ∧
      w' = (((w.alloc (.cells #[fnL (w.heap.size + 1) (w.heap.size + 1 + 1 + 1) (w.heap.size + 1 + 1), .int .u32 255] 43)).alloc (.cells #[.int .i64 8] 3)).alloc (.cells #[.int .u32 29] 33)).alloc (.cells #[.int .u32 255] 33) := by
  go_enter Try.func25, Try.ntmps25
  go_wp2_with (go_at_call 31; refine (leftward_8 _).mono ?_; rintro e w' ⟨rfl, rfl⟩)
  refine bodyPost_ret (v := ruleV (fnL (w.heap.size + 1) (w.heap.size + 1 + 1 + 1) (w.heap.size + 1 + 1)) 255) ?_ rfl ⟨rfl, rfl⟩
  rw [results_cell1 rfl]
  go_simp
theorem byteRule_at (w : World) :
    Calls Try.prog 25 #[] w fun e w' => ∃ Bm Ba Bd, e = .returned (ruleV (fnL Bm Ba Bd) 255) ∧ (Bm < w'.heap.size ∧ Ba < w'.heap.size ∧ Bd < w'.heap.size) ∧
      w'.cell? ⟨Bm, 0, none⟩ = some (.int .i64 8) ∧ w'.cell? ⟨Ba, 0, none⟩ = some (.int .u32 255) ∧ w'.cell? ⟨Bd, 0, none⟩ = some (.int .u32 29) ∧ Below w.heap.size w w' := by
  refine (byteRule_any w).mono ?_
  rintro e w' ⟨rfl, rfl⟩
  refine ⟨_, _, _, rfl, ⟨by simp, by simp, by simp⟩, by go_simp, by go_simp, by go_simp, ?_⟩
  exact ((((Below.refl _ w).alloc (Nat.le_refl _) _).alloc (by simp) _).alloc (by simp; omega) _).alloc (by simp; omega) _

set_option maxHeartbeats 400000 in
theorem rightward_any (w : World) :
    Calls Try.prog 33 #[.int .u32 3988292384] w fun e w' => e = .returned (fnR w.heap.size) ∧ w' = w.alloc (.cells #[.int .u32 3988292384] 33) := by
  go_enter Try.func33, Try.ntmps33
  go_wp2
  go_ret
  exact ⟨rfl, rfl⟩

set_option maxHeartbeats 400000 in
theorem wordRule_any (w : World) :
    Calls Try.prog 28 #[] w fun e w' => e = .returned (ruleV (fnR (w.heap.size + 1)) 4294967295) ∧
      w' = (w.alloc (.cells #[fnR (w.heap.size + 1), .int .u32 4294967295] 43)).alloc (.cells #[.int .u32 3988292384] 33) := by
  go_enter Try.func28, Try.ntmps28
  go_wp2_with (go_at_call 33; refine (rightward_any _).mono ?_; rintro e w' ⟨rfl, rfl⟩)
  refine bodyPost_ret (v := ruleV (fnR (w.heap.size + 1)) 4294967295) ?_ rfl ⟨rfl, rfl⟩
  rw [results_cell1 rfl]
  go_simp
theorem wordRule_at (w : World) :
    Calls Try.prog 28 #[] w fun e w' => ∃ Bd, e = .returned (ruleV (fnR Bd) 4294967295) ∧ Bd < w'.heap.size ∧ w'.cell? ⟨Bd, 0, none⟩ = some (.int .u32 3988292384) ∧ Below w.heap.size w w' := by
  refine (wordRule_any w).mono ?_
  rintro e w' ⟨rfl, rfl⟩
  refine ⟨_, rfl, by simp, by go_simp, ?_⟩
  exact ((Below.refl _ w).alloc (Nat.le_refl _) _).alloc (by simp) _

set_option maxRecDepth 100000 in
set_option maxHeartbeats 400000 in
theorem proceedBits {m : Nat} {St : BitVec m → World → Prop} (F : Fn) (fs cs : Array Value) (inv sum : Nat) (hinv : inv < 4294967296) (hsum : sum < 4294967296) (Bl : Nat) (s0 s1 : BitVec m) (hm : m ≤ 32) (h0 : s0.toNat = sum ^^^ inv) (w : World)
    (hin : ∀ W, Below w.heap.size w W → RegAt W (w.heap.size + 1) (.func F fs cs) inv s0.toNat → St s0 W)
    (hout : ∀ W, St s1 W → RegAt W (w.heap.size + 1) (.func F fs cs) inv s1.toNat)
    (hF : ∀ W, Below w.heap.size w W → St s0 W → Calls Try.prog 24 #[fnTake (w.heap.size + 1), .pointer (some ⟨Bl, 0, none⟩)] W fun e w' => (∃ v, e = .returned v) ∧ St s1 w' ∧ Below (w.heap.size + 1) W w') :
    Calls Try.prog 23 #[ruleV (.func F fs cs) inv, .int .u32 sum, .func (.func 24) #[] #[.pointer (some ⟨Bl, 0, none⟩)]] w fun e w' => e = .returned (.int .i64 ((s1.toNat ^^^ inv : Nat) : Int)) ∧ Below w.heap.size w w' := by
  have e0 : bits .xor .u32 (sum : Int) (inv : Int) = (s0.toNat : Int) := by rw [h0]; exact u32_xor_nat _ _ hsum hinv
  clear h0
  have hle : s1.toNat < 4294967296 := Nat.lt_of_lt_of_le s1.isLt (Nat.pow_le_pow_right (n := 2) (by omega) hm)
  have e1 : bits .xor .u32 (s1.toNat : Int) (inv : Int) = ((s1.toNat ^^^ inv : Nat) : Int) := u32_xor_nat _ _ hle hinv
  have hx : s1.toNat ^^^ inv < 4294967296 := Nat.xor_lt_two_pow (n := 32) hle hinv
  have hB2 : Below w.heap.size w ((w.alloc (.cells #[.func F fs cs, .int .u32 inv] 43)).alloc (.cells #[.func F fs cs, .int .u32 inv, .int .u32 s0.toNat] 52)) :=
    ((Below.refl _ w).alloc (Nat.le_refl _) _).alloc (by simp) _
  have hreg : RegAt ((w.alloc (.cells #[.func F fs cs, .int .u32 inv] 43)).alloc (.cells #[.func F fs cs, .int .u32 inv, .int .u32 s0.toNat] 52)) (w.heap.size + 1) (.func F fs cs) inv s0.toNat := by
    have := World.alloc_heap_new (w.alloc (.cells #[.func F fs cs, .int .u32 inv] 43)) (.cells #[.func F fs cs, .int .u32 inv, .int .u32 s0.toNat] 52)
    rw [World.size_alloc] at this
    exact this
  have hcell : ((w.alloc (.cells #[.func F fs cs, .int .u32 inv] 43)).alloc (.cells #[.func F fs cs, .int .u32 inv, .int .u32 s0.toNat] 52)).cell? ⟨w.heap.size, 1, none⟩ = some (.int .u32 inv) := by go_simp
  have Hc := hF _ hB2 (hin _ hB2 hreg)
  have HB2 := Lib.hid hB2
  have Hcell := Lib.hid hcell
  clear hB2 hreg hcell hin hF
  go_enter Try.func23, Try.ntmps23
  go_wp2_with fail
  refine Hc.mono ?_
  rintro e w3 ⟨⟨v, rfl⟩, hS, hB3⟩
  have hR := hout _ hS
  have c2 : w3.cell? ⟨w.heap.size + 1, 2, none⟩ = some (.int .u32 s1.toNat) := by simp [World.cell?, show w3.heap[w.heap.size + 1]? = _ from hR]
  have k1 : w3.cell? ⟨w.heap.size, 1, none⟩ = some (.int .u32 inv) := (hB3.cell (by simp)).trans Hcell.out
  clear hout Hc
  go_wp2_with fail
  go_ret
  exact ⟨rfl, HB2.out.trans (hB3.mono (by omega))⟩

set_option maxRecDepth 100000 in
set_option maxHeartbeats 400000 in
theorem proceedByte {m : Nat} {St : BitVec m → World → Prop} (F : Fn) (fs cs : Array Value) (inv sum : Nat) (hinv : inv < 4294967296) (hsum : sum < 4294967296) (Bl : Nat) (s0 s1 : BitVec m) (hm : m ≤ 32) (h0 : s0.toNat = sum ^^^ inv) (w : World)
    (hin : ∀ W, Below w.heap.size w W → RegAt W (w.heap.size + 1) (.func F fs cs) inv s0.toNat → St s0 W)
    (hout : ∀ W, St s1 W → RegAt W (w.heap.size + 1) (.func F fs cs) inv s1.toNat)
    (hF : ∀ W, Below w.heap.size w W → St s0 W → Calls Try.prog 26 #[fnTake (w.heap.size + 1), .pointer (some ⟨Bl, 0, none⟩)] W fun e w' => (∃ v, e = .returned v) ∧ St s1 w' ∧ Below (w.heap.size + 1) W w') :
    Calls Try.prog 23 #[ruleV (.func F fs cs) inv, .int .u32 sum, .func (.func 26) #[] #[.pointer (some ⟨Bl, 0, none⟩)]] w fun e w' => e = .returned (.int .i64 ((s1.toNat ^^^ inv : Nat) : Int)) ∧ Below w.heap.size w w' := by
  have e0 : bits .xor .u32 (sum : Int) (inv : Int) = (s0.toNat : Int) := by rw [h0]; exact u32_xor_nat _ _ hsum hinv
  clear h0
  have hle : s1.toNat < 4294967296 := Nat.lt_of_lt_of_le s1.isLt (Nat.pow_le_pow_right (n := 2) (by omega) hm)
  have e1 : bits .xor .u32 (s1.toNat : Int) (inv : Int) = ((s1.toNat ^^^ inv : Nat) : Int) := u32_xor_nat _ _ hle hinv
  have hx : s1.toNat ^^^ inv < 4294967296 := Nat.xor_lt_two_pow (n := 32) hle hinv
  have hB2 : Below w.heap.size w ((w.alloc (.cells #[.func F fs cs, .int .u32 inv] 43)).alloc (.cells #[.func F fs cs, .int .u32 inv, .int .u32 s0.toNat] 52)) :=
    ((Below.refl _ w).alloc (Nat.le_refl _) _).alloc (by simp) _
  have hreg : RegAt ((w.alloc (.cells #[.func F fs cs, .int .u32 inv] 43)).alloc (.cells #[.func F fs cs, .int .u32 inv, .int .u32 s0.toNat] 52)) (w.heap.size + 1) (.func F fs cs) inv s0.toNat := by
    have := World.alloc_heap_new (w.alloc (.cells #[.func F fs cs, .int .u32 inv] 43)) (.cells #[.func F fs cs, .int .u32 inv, .int .u32 s0.toNat] 52)
    rw [World.size_alloc] at this
    exact this
  have hcell : ((w.alloc (.cells #[.func F fs cs, .int .u32 inv] 43)).alloc (.cells #[.func F fs cs, .int .u32 inv, .int .u32 s0.toNat] 52)).cell? ⟨w.heap.size, 1, none⟩ = some (.int .u32 inv) := by go_simp
  have Hc := hF _ hB2 (hin _ hB2 hreg)
  have HB2 := Lib.hid hB2
  have Hcell := Lib.hid hcell
  clear hB2 hreg hcell hin hF
  go_enter Try.func23, Try.ntmps23
  go_wp2_with fail
  refine Hc.mono ?_
  rintro e w3 ⟨⟨v, rfl⟩, hS, hB3⟩
  have hR := hout _ hS
  have c2 : w3.cell? ⟨w.heap.size + 1, 2, none⟩ = some (.int .u32 s1.toNat) := by simp [World.cell?, show w3.heap[w.heap.size + 1]? = _ from hR]
  have k1 : w3.cell? ⟨w.heap.size, 1, none⟩ = some (.int .u32 inv) := (hB3.cell (by simp)).trans Hcell.out
  clear hout Hc
  go_wp2_with fail
  go_ret
  exact ⟨rfl, HB2.out.trans (hB3.mono (by omega))⟩

set_option maxRecDepth 100000 in
set_option maxHeartbeats 400000 in
theorem proceedMore {m : Nat} {St : BitVec m → World → Prop} (F : Fn) (fs cs : Array Value) (inv sum : Nat) (hinv : inv < 4294967296) (hsum : sum < 4294967296) (Bl : Nat) (s0 s1 : BitVec m) (hm : m ≤ 32) (h0 : s0.toNat = sum ^^^ inv) (w : World)
    (hin : ∀ W, Below w.heap.size w W → RegAt W (w.heap.size + 1) (.func F fs cs) inv s0.toNat → St s0 W)
    (hout : ∀ W, St s1 W → RegAt W (w.heap.size + 1) (.func F fs cs) inv s1.toNat)
    (hF : ∀ W, Below w.heap.size w W → St s0 W → Calls Try.prog 29 #[fnTake (w.heap.size + 1), .pointer (some ⟨Bl, 0, none⟩)] W fun e w' => (∃ v, e = .returned v) ∧ St s1 w' ∧ Below (w.heap.size + 1) W w') :
    Calls Try.prog 23 #[ruleV (.func F fs cs) inv, .int .u32 sum, .func (.func 29) #[] #[.pointer (some ⟨Bl, 0, none⟩)]] w fun e w' => e = .returned (.int .i64 ((s1.toNat ^^^ inv : Nat) : Int)) ∧ Below w.heap.size w w' := by
  have e0 : bits .xor .u32 (sum : Int) (inv : Int) = (s0.toNat : Int) := by rw [h0]; exact u32_xor_nat _ _ hsum hinv
  clear h0
  have hle : s1.toNat < 4294967296 := Nat.lt_of_lt_of_le s1.isLt (Nat.pow_le_pow_right (n := 2) (by omega) hm)
  have e1 : bits .xor .u32 (s1.toNat : Int) (inv : Int) = ((s1.toNat ^^^ inv : Nat) : Int) := u32_xor_nat _ _ hle hinv
  have hx : s1.toNat ^^^ inv < 4294967296 := Nat.xor_lt_two_pow (n := 32) hle hinv
  have hB2 : Below w.heap.size w ((w.alloc (.cells #[.func F fs cs, .int .u32 inv] 43)).alloc (.cells #[.func F fs cs, .int .u32 inv, .int .u32 s0.toNat] 52)) :=
    ((Below.refl _ w).alloc (Nat.le_refl _) _).alloc (by simp) _
  have hreg : RegAt ((w.alloc (.cells #[.func F fs cs, .int .u32 inv] 43)).alloc (.cells #[.func F fs cs, .int .u32 inv, .int .u32 s0.toNat] 52)) (w.heap.size + 1) (.func F fs cs) inv s0.toNat := by
    have := World.alloc_heap_new (w.alloc (.cells #[.func F fs cs, .int .u32 inv] 43)) (.cells #[.func F fs cs, .int .u32 inv, .int .u32 s0.toNat] 52)
    rw [World.size_alloc] at this
    exact this
  have hcell : ((w.alloc (.cells #[.func F fs cs, .int .u32 inv] 43)).alloc (.cells #[.func F fs cs, .int .u32 inv, .int .u32 s0.toNat] 52)).cell? ⟨w.heap.size, 1, none⟩ = some (.int .u32 inv) := by go_simp
  have Hc := hF _ hB2 (hin _ hB2 hreg)
  have HB2 := Lib.hid hB2
  have Hcell := Lib.hid hcell
  clear hB2 hreg hcell hin hF
  go_enter Try.func23, Try.ntmps23
  go_wp2_with fail
  refine Hc.mono ?_
  rintro e w3 ⟨⟨v, rfl⟩, hS, hB3⟩
  have hR := hout _ hS
  have c2 : w3.cell? ⟨w.heap.size + 1, 2, none⟩ = some (.int .u32 s1.toNat) := by simp [World.cell?, show w3.heap[w.heap.size + 1]? = _ from hR]
  have k1 : w3.cell? ⟨w.heap.size, 1, none⟩ = some (.int .u32 inv) := (hB3.cell (by simp)).trans Hcell.out
  clear hout Hc
  go_wp2_with fail
  go_ret
  exact ⟨rfl, HB2.out.trans (hB3.mono (by omega))⟩

/-- The three sums. -/
def crc15 (l : List Int) : BitVec 15 := (boolsOf l).foldl (stepL 0x4599#15) 0#15
def crc8 (b : List Int) : BitVec 8 := (hiAll b).foldl (stepL 0x1D#8) 0xFF#8
def crc32 (s : BitVec 32) (b : List Int) : BitVec 32 := (loAll b).foldl (stepR 0xEDB88320#32) s

set_option maxRecDepth 100000 in
set_option maxHeartbeats 400000 in
theorem bits_any (l : List Int) (n : Nat) (hn : l.length = n) (A : Option Addr) (c : Nat) (w : World) (h : Row .i64 w w.heap.size A l) (hr : rightB l = true) (hm : n ≤ maxLen) :
    Calls Try.prog 12 #[.slice A n c] w fun e w' => e = .returned (.int .i64 (crc15 l).toNat) ∧ Below w.heap.size w w' := by
  have Hn := Lib.hid hn
  have Hr := Lib.hid hr
  clear hn hr
  go_enter Try.func12, Try.ntmps12
  go_wp2_with fail
  obtain ⟨w1, hw1⟩ : ∃ w1, w.alloc (.cells #[.slice A n c] 22) = w1 := ⟨_, rfl⟩
  rw [hw1]
  have kl : w1.cell? ⟨w.heap.size, 0, none⟩ = some (.slice A n c) := by subst hw1; go_simp
  have hz1 : w.heap.size < w1.heap.size := by rw [← hw1]; simp
  have hB1 := below_lits hw1
  clear hw1
  refine (bitsRule_at _).mono ?_
  rintro e w2 ⟨Bm, Ba, Bd, rfl, ⟨b1, b2, b3⟩, km, ka, kd, hB2⟩
  have kl2 : w2.cell? ⟨w.heap.size, 0, none⟩ = some (.slice A n c) := (hB2.cell hz1).trans kl
  have hz2 : w.heap.size < w2.heap.size := by have := hB2.size; omega
  have r2 := (h.to hB1).to hB2
  have hP := proceedBits (St := RegL 0x4599#15 0 (w2.heap.size + 1) Bm Ba Bd) (.func 34) #[] #[.pointer (some ⟨Bm, 0, none⟩), .pointer (some ⟨Ba, 0, none⟩), .pointer (some ⟨Bd, 0, none⟩)] 0 0 (by omega) (by omega) w.heap.size 0#15 (crc15 l) (by omega) rfl w2
    (fun W hB hR => ⟨⟨by omega, by omega, by omega⟩, (hB.cell b1).trans km, (hB.cell b2).trans ka, (hB.cell b3).trans kd, hR⟩)
    (fun W hS => hS.2.2.2.2)
    (fun W hB hS => bits1_any (takesL _ _ _ _ _ _ (by omega) (by omega)) l n Hn.out A c w.heap.size 0#15 W Hr.out hm ((r2.below hB).more (by omega)) ((hB.cell hz2).trans kl2) hS)
  go_wp2_with fail
  refine hP.mono ?_
  rintro e w3 ⟨rfl, hB3⟩
  go_wp2_with fail
  go_ret
  exact ⟨rfl, below_then hB1 (below_then hB2 hB3)⟩

set_option maxRecDepth 100000 in
set_option maxHeartbeats 400000 in
theorem byte_any (l : List Int) (n : Nat) (hn : l.length = n) (A : Option Addr) (c : Nat) (w : World) (h : Row .u8 w w.heap.size A l) (hr : byteB l) (hm : n ≤ maxLen) :
    Calls Try.prog 14 #[.slice A n c] w fun e w' => e = .returned (.int .i64 ((crc8 l).toNat ^^^ 255 : Nat)) ∧ Below w.heap.size w w' := by
  have Hn := Lib.hid hn
  have Hr := Lib.hid hr
  clear hn hr
  go_enter Try.func14, Try.ntmps14
  go_wp2_with fail
  obtain ⟨w1, hw1⟩ : ∃ w1, w.alloc (.cells #[.slice A n c] 23) = w1 := ⟨_, rfl⟩
  rw [hw1]
  have kl : w1.cell? ⟨w.heap.size, 0, none⟩ = some (.slice A n c) := by subst hw1; go_simp
  have hz1 : w.heap.size < w1.heap.size := by rw [← hw1]; simp
  have hB1 := below_lits hw1
  clear hw1
  refine (byteRule_at _).mono ?_
  rintro e w2 ⟨Bm, Ba, Bd, rfl, ⟨b1, b2, b3⟩, km, ka, kd, hB2⟩
  have kl2 : w2.cell? ⟨w.heap.size, 0, none⟩ = some (.slice A n c) := (hB2.cell hz1).trans kl
  have hz2 : w.heap.size < w2.heap.size := by have := hB2.size; omega
  have r2 := (h.to hB1).to hB2
  have hP := proceedByte (St := RegL 0x1D#8 255 (w2.heap.size + 1) Bm Ba Bd) (.func 34) #[] #[.pointer (some ⟨Bm, 0, none⟩), .pointer (some ⟨Ba, 0, none⟩), .pointer (some ⟨Bd, 0, none⟩)] 255 0 (by omega) (by omega) w.heap.size 0xFF#8 (crc8 l) (by omega) rfl w2
    (fun W hB hR => ⟨⟨by omega, by omega, by omega⟩, (hB.cell b1).trans km, (hB.cell b2).trans ka, (hB.cell b3).trans kd, hR⟩)
    (fun W hS => hS.2.2.2.2)
    (fun W hB hS => byte1_any (takesL _ _ _ _ _ _ (by omega) (by omega)) l n Hn.out A c w.heap.size 0xFF#8 W Hr.out hm ((r2.below hB).more (by omega)) ((hB.cell hz2).trans kl2) hS)
  go_wp2_with fail
  refine hP.mono ?_
  rintro e w3 ⟨rfl, hB3⟩
  go_wp2_with fail
  go_ret
  exact ⟨rfl, below_then hB1 (below_then hB2 hB3)⟩

set_option maxRecDepth 100000 in
set_option maxHeartbeats 400000 in
theorem more_any (x : Int) (sum : Nat) (hx : x % 4294967296 = sum) (hsum : sum < 4294967296) (s0 : BitVec 32) (hs0 : s0.toNat = sum ^^^ 4294967295) (l : List Int) (n : Nat) (hn : l.length = n) (A : Option Addr) (c : Nat) (w : World) (h : Row .u8 w w.heap.size A l) (hr : byteB l) (hm : n ≤ maxLen) :
    Calls Try.prog 18 #[.int .i64 x, .slice A n c] w fun e w' => e = .returned (.int .i64 ((crc32 s0 l).toNat ^^^ 4294967295 : Nat)) ∧ Below w.heap.size w w' := by
  have Hn := Lib.hid hn
  have Hr := Lib.hid hr
  have Hs0 := Lib.hid hs0
  clear hn hr hs0
  go_enter Try.func18, Try.ntmps18
  go_wp2_with fail
  obtain ⟨w1, hw1⟩ : ∃ w1, w.alloc (.cells #[.slice A n c] 23) = w1 := ⟨_, rfl⟩
  rw [hw1]
  have kl : w1.cell? ⟨w.heap.size, 0, none⟩ = some (.slice A n c) := by subst hw1; go_simp
  have hz1 : w.heap.size < w1.heap.size := by rw [← hw1]; simp
  have hB1 := below_lits hw1
  clear hw1
  refine (wordRule_at _).mono ?_
  rintro e w2 ⟨Bd, rfl, b3, kd, hB2⟩
  have kl2 : w2.cell? ⟨w.heap.size, 0, none⟩ = some (.slice A n c) := (hB2.cell hz1).trans kl
  have hz2 : w.heap.size < w2.heap.size := by have := hB2.size; omega
  have r2 := (h.to hB1).to hB2
  have hP := proceedMore (St := RegR 0xEDB88320#32 4294967295 (w2.heap.size + 1) Bd) (.func 36) #[] #[.pointer (some ⟨Bd, 0, none⟩)] 4294967295 sum (by omega) hsum w.heap.size s0 (crc32 s0 l) (by omega) Hs0.out w2
    (fun W hB hR => ⟨by omega, (hB.cell b3).trans kd, hR⟩)
    (fun W hS => hS.2.2)
    (fun W hB hS => more1_any (takesR _ _ _ _) l n Hn.out A c w.heap.size s0 W Hr.out hm ((r2.below hB).more (by omega)) ((hB.cell hz2).trans kl2) hS)
  go_wp2_with fail
  refine hP.mono ?_
  rintro e w3 ⟨rfl, hB3⟩
  go_wp2_with fail
  go_ret
  exact ⟨rfl, below_then hB1 (below_then hB2 hB3)⟩

set_option maxHeartbeats 400000 in
theorem word_any (l : List Int) (n : Nat) (hn : l.length = n) (A : Option Addr) (c : Nat) (w : World) (h : Row .u8 w w.heap.size A l) (hr : byteB l) (hm : n ≤ maxLen) :
    Calls Try.prog 16 #[.slice A n c] w fun e w' => e = .returned (.int .i64 ((crc32 0xFFFFFFFF#32 l).toNat ^^^ 4294967295 : Nat)) ∧ Below w.heap.size w w' := by
  go_enter Try.func16, Try.ntmps16
  go_wp2_with fail
  refine (more_any 0 0 rfl (by omega) 0xFFFFFFFF#32 rfl l n hn A c w h hr hm).mono ?_
  rintro e w1 ⟨rfl, hB1⟩
  go_wp2_with fail
  go_ret
  exact ⟨rfl, hB1⟩

end Go.Proofs.Ytlggjljgeflboaa
