/-
  NCr · NWi · NbL · NeH · NbS · NgH · NbP · NbF · NbG · NbN · NbO · NbC · NbE · Open9 · Open10 · NbU · NbV · NpR.
-/
import Derived.Test.YtcifjccojmfpaaaGreatJ0
import Derived.Test.YtcifjccojmfpaaaGreatJ1
import Derived.Test.YtcifjccojmfpaaaGreatJ2
import Derived.StillTailTactics
import Derived.Deep.RegionHeld3
import Derived.Laws.EntriesVeiled
import Derived.WalkMore
import Derived.Deep.CutRange
import Derived.Lib.MinMax
import Derived.ProofKit
import Derived.OpenShut
import Derived.ChangeOld
import Derived.Deep.Grids
set_option maxRecDepth 100000
set_option maxHeartbeats 4000000
namespace Go.Proofs.YtcifjccojmfpaaaGreat
open Go.RowKit
set_option linter.unusedVariables false
set_option linter.unusedSimpArgs false
def stepL {w : Nat} (p s : BitVec w) (b : Bool) : BitVec w := (s <<< 1) ^^^ (if (b ^^ s.msb) = true then p else 0#w)
def stepR {w : Nat} (p s : BitVec w) (b : Bool) : BitVec w := (s >>> 1) ^^^ (if (b ^^ s.getLsbD 0) = true then p else 0#w)
structure IsReg (w : Nat) (f : BitVec w → Bool → BitVec w) : Prop where
  lin : ∀ s t b c, f (s ^^^ t) (b ^^ c) = f s b ^^^ f t c
  inj : ∀ s, f s false = 0#w → s = 0#w
  burst : ∀ e : List Bool, e.length ≤ w → e.foldl f 0#w = 0#w → ∀ b ∈ e, b = false
theorem lin_core {w : Nat} (A B p : BitVec w) (x y : Bool) : A ^^^ B ^^^ (if (x ^^ y) = true then p else 0#w) = (A ^^^ (if x = true then p else 0#w)) ^^^ (B ^^^ (if y = true then p else 0#w)) := by
  apply BitVec.eq_of_getLsbD_eq
  intro i hi
  cases x <;> cases y <;> simp <;> cases A.getLsbD i <;> cases B.getLsbD i <;> cases p.getLsbD i <;> rfl
theorem xor4 (b c m n : Bool) : ((b ^^ c) ^^ (m ^^ n)) = ((b ^^ m) ^^ (c ^^ n)) := by cases b <;> cases c <;> cases m <;> cases n <;> rfl
theorem stepL_lin {w : Nat} (p s t : BitVec w) (b c : Bool) : stepL p (s ^^^ t) (b ^^ c) = stepL p s b ^^^ stepL p t c := by
  unfold stepL
  rw [BitVec.shiftLeft_xor_distrib, BitVec.msb_xor, xor4, lin_core]
theorem stepR_lin {w : Nat} (p s t : BitVec w) (b c : Bool) : stepR p (s ^^^ t) (b ^^ c) = stepR p s b ^^^ stepR p t c := by
  unfold stepR
  rw [BitVec.ushiftRight_xor_distrib, BitVec.getLsbD_xor, xor4, lin_core]
theorem stepL_bit {w : Nat} (p s : BitVec w) (hp : p.getLsbD 0 = true) (b : Bool) (i : Nat) (hi : i + 1 < w) (hs : s.getLsbD i = true) : (stepL p s b).getLsbD 0 = true ∨ (stepL p s b).getLsbD (i + 1) = true := by
  unfold stepL
  by_cases h : (b ^^ s.msb) = true
  · left
    simp [h, hp]
  · right
    simp [h, hs]
    omega
theorem stepR_bit {w : Nat} (p s : BitVec w) (hp : p.getLsbD (w - 1) = true) (b : Bool) (i : Nat) (hs : s.getLsbD (i + 1) = true) : (stepR p s b).getLsbD (w - 1) = true ∨ (stepR p s b).getLsbD i = true := by
  unfold stepR
  by_cases h : (b ^^ s.getLsbD 0) = true
  · left
    have : s.getLsbD (1 + (w - 1)) = false := BitVec.getLsbD_of_ge _ _ (by omega)
    simp [h, hp, this]
  · right
    simp [h, Nat.add_comm 1 i, hs]
theorem bit_ne {w : Nat} {s : BitVec w} {i : Nat} (h : s.getLsbD i = true) : s ≠ 0#w := by
  rintro rfl
  simp at h
section
variable {w : Nat} {f : BitVec w → Bool → BitVec w}
theorem IsReg.zero (hf : IsReg w f) : f 0#w false = 0#w := by
  have := hf.lin 0#w 0#w false false
  simpa using this
theorem xor_zero_iff (a b : BitVec w) : a ^^^ b = 0#w ↔ a = b := by
  constructor
  · intro h
    have : (a ^^^ b) ^^^ b = 0#w ^^^ b := by rw [h]
    rw [BitVec.xor_assoc, BitVec.xor_self] at this
    simpa using this
  · rintro rfl; exact BitVec.xor_self
theorem IsReg.step_inj (hf : IsReg w f) {s t : BitVec w} {b : Bool} (h : f s b = f t b) : s = t := by
  rw [← xor_zero_iff] at h ⊢
  apply hf.inj
  have := hf.lin s t b b
  rw [Bool.xor_self] at this
  rw [this, h]
end
theorem stepL_own {w : Nat} (p s : BitVec w) : stepL p s s.msb = s <<< 1 := by unfold stepL; simp
theorem stepR_own {w : Nat} (p s : BitVec w) : stepR p s (s.getLsbD 0) = s >>> 1 := by unfold stepR; simp
def hiBits (many n : Nat) : List Bool := (List.range many).map fun j => n.testBit (many - 1 - j)
def loBits (many n : Nat) : List Bool := (List.range many).map fun j => n.testBit j
theorem range_succ_map {α : Type} (g : Nat → α) (n : Nat) : (List.range (n + 1)).map g = (List.range n).map g ++ [g n] := by simp [List.range_succ]
def redN (c x d : Nat) : Nat := if x = 1 then c ^^^ d else c
theorem reduced_any (c x d : Nat) (hc : c < 4294967296) (hd : d < 4294967296) (W : World) :
    Calls Tryz.prog 145 #[.int .u32 c, .int .u32 x, .int .u32 d] W fun e w' => e = .returned (.int .u32 (redN c x d)) ∧ W = w' := by
  have hx := u32_xor_nat c d hc hd
  have Hx := Lib.hid hx
  clear hx
  by_cases h : x = 1
  · subst h
    go_enter Tryz.func145, Tryz.ntmps145
    go_wp2
    go_ret
    exact ⟨ret_int Hx.out, rfl⟩
  · have d1 : ((x : Int) == 1) = false := by simp; omega
    have Hh := Lib.hid (show redN c x d = c from if_neg h)
    clear h
    go_enter Tryz.func145, Tryz.ntmps145
    go_wp2
    go_ret
    exact ⟨ret_int (by rw [Hh.out]), rfl⟩
theorem reduced_at (C X D : Int) (c x d : Nat) (hC : C = c) (hX : X = x) (hD : D = d) (hc : c < 4294967296) (hd : d < 4294967296) (W : World) :
    Calls Tryz.prog 145 #[.int .u32 C, .int .u32 X, .int .u32 D] W fun e w' => e = .returned (.int .u32 (redN c x d)) ∧ W = w' := by
  subst hC hX hD; exact reduced_any c x d hc hd W
theorem stepL_nat {m : Nat} (p s : BitVec m) (b : Bool) : (stepL p s b).toNat = redN (2 * s.toNat % 2 ^ m) (b.toNat ^^^ s.toNat / 2 ^ (m - 1)) p.toNat := by
  rcases Nat.eq_zero_or_pos m with rfl | hm
  · obtain rfl : p = 0#0 := BitVec.eq_nil _
    obtain rfl : s = 0#0 := BitVec.eq_nil _
    cases b <;> rfl
  have hs := s.isLt
  have hpw : 2 ^ m = 2 * 2 ^ (m - 1) := by
    conv => lhs; rw [show m = (m - 1) + 1 by omega]
    rw [Nat.pow_succ]; omega
  have h0 : 0 < 2 ^ (m - 1) := Nat.pow_pos (by omega)
  have hq : s.toNat / 2 ^ (m - 1) = s.msb.toNat := by
    rw [BitVec.msb_eq_decide]
    by_cases h : 2 ^ (m - 1) ≤ s.toNat
    · simp only [h, decide_true, Bool.toNat_true]
      apply Nat.div_eq_of_lt_le <;> omega
    · simp only [h, decide_false, Bool.toNat_false]
      exact Nat.div_eq_of_lt (by omega)
  have hsh : (s <<< 1).toNat = 2 * s.toNat % 2 ^ m := by
    rw [BitVec.toNat_shiftLeft, Nat.shiftLeft_eq]; congr 1; omega
  rw [hq]
  unfold stepL redN
  rw [BitVec.toNat_xor, hsh]
  cases b <;> cases s.msb <;> simp
theorem pow_le31 {m : Nat} (h : m ≤ 31) : 2 ^ m ≤ 2147483648 := Nat.pow_le_pow_right (n := 2) (by omega) h
theorem left1_nat (m c b d : Nat) (hm : 1 ≤ m) (hm' : m ≤ 31) (hc : c < 2 ^ m) (hb : b < 2) (hd : d < 4294967296) (W : World) (Bm Ba Bd : Nat) (km : W.cell? ⟨Bm, 0, none⟩ = some (.int .i64 m)) (ka : W.cell? ⟨Ba, 0, none⟩ = some (.int .u32 ((2 ^ m - 1 : Nat) : Int))) (kd : W.cell? ⟨Bd, 0, none⟩ = some (.int .u32 d)) :
    Calls Tryz.prog 144 #[.int .u32 c, .int .u32 b, .pointer (some ⟨Bm, 0, none⟩), .pointer (some ⟨Ba, 0, none⟩), .pointer (some ⟨Bd, 0, none⟩)] W fun e w' => e = .returned (.int .u32 (redN (2 * c % 2 ^ m) (b ^^^ c / 2 ^ (m - 1)) d)) ∧ W = w' := by
  have hp := pow_le31 hm'
  have hp0 : 0 < 2 ^ m := Nat.pow_pos (by omega)
  have e1 : bits .and .u32 ((c : Int) * 2 % 4294967296) ((2 ^ m - 1 : Nat) : Int) = ((2 * c % 2 ^ m : Nat) : Int) := by
    rw [show (c : Int) * 2 % 4294967296 = ((2 * c : Nat) : Int) by omega, u32_and_nat _ _ (by omega) (by omega), Nat.and_two_pow_sub_one_eq_mod]
  have e2 : bits .xor .u32 (b : Int) ((c : Int) / 2 ^ (m - 1)) = ((b ^^^ c / 2 ^ (m - 1) : Nat) : Int) := by
    have hle : c / 2 ^ (m - 1) ≤ c := Nat.div_le_self _ _
    rw [← u32_xor_nat _ _ (by omega) (by omega)]
    simp
  have hlt : 2 * c % 2 ^ m < 4294967296 := by have := Nat.mod_lt (2 * c) hp0; omega
  have E1 := Lib.hid e1
  have E2 := Lib.hid e2
  clear e1 e2 hc
  go_enter Tryz.func144, Tryz.ntmps144
  go_wp2_with (go_at_call 145; refine (reduced_at _ _ _ _ _ _ E1.out E2.out rfl hlt hd _).mono ?_; rintro e w' ⟨rfl, rfl⟩)
  go_ret
  exact ⟨rfl, rfl⟩
def RegAt (W : World) (B : Nat) (f : Value) (inv s : Nat) : Prop := W.heap[B]? = some (.cells #[f, .int .u32 inv, .int .u32 s] 159 (0, 0))
theorem RegAt.set {W : World} {B : Nat} {f : Value} {inv s : Nat} (h : RegAt W B f inv s) (s' : Nat) : RegAt (W.setCell ⟨B, 2, none⟩ (.int .u32 s')).drew B f inv s' := by
  show (W.setCell ⟨B, 2, none⟩ (.int .u32 s')).heap[B]? = _
  rw [heap_setCell_same W B 2 _ _ _ h]
  rfl
theorem below_setB (W : World) (B o : Nat) (v : Value) : Below B W (W.setCell ⟨B, o, none⟩ v).drew := ((Below.refl B W).setCell (Nat.le_refl _) v).drew
abbrev fnL (Bm Ba Bd : Nat) : Value := .func (.func 144) #[] #[.pointer (some ⟨Bm, 0, none⟩), .pointer (some ⟨Ba, 0, none⟩), .pointer (some ⟨Bd, 0, none⟩)]
theorem takeL_nat (m c b d inv : Nat) (hm : 1 ≤ m) (hm' : m ≤ 31) (hc : c < 2 ^ m) (hb : b < 2) (hd : d < 4294967296) (W : World) (Bm Ba Bd B : Nat) (km : W.cell? ⟨Bm, 0, none⟩ = some (.int .i64 m)) (ka : W.cell? ⟨Ba, 0, none⟩ = some (.int .u32 ((2 ^ m - 1 : Nat) : Int))) (kd : W.cell? ⟨Bd, 0, none⟩ = some (.int .u32 d))
    (hR : RegAt W B (fnL Bm Ba Bd) inv c) :
    Calls Tryz.prog 141 #[.pointer (some ⟨B, 0, none⟩), .int .u32 b] W fun e w' => (∃ v, e = .returned v) ∧ RegAt w' B (fnL Bm Ba Bd) inv (redN (2 * c % 2 ^ m) (b ^^^ c / 2 ^ (m - 1)) d) ∧ Below B W w' := by
  have c0 : W.cell? ⟨B, 0, none⟩ = some (.func (.func 144) #[] #[.pointer (some ⟨Bm, 0, none⟩), .pointer (some ⟨Ba, 0, none⟩), .pointer (some ⟨Bd, 0, none⟩)]) := by simp [World.cell?, show W.heap[B]? = _ from hR]
  have c2 : W.cell? ⟨B, 2, none⟩ = some (.int .u32 c) := by simp [World.cell?, show W.heap[B]? = _ from hR]
  have f2 : W.frozen? ⟨B, 2, none⟩ = false := by simp [World.frozen?, show W.heap[B]? = _ from hR]
  have hR' := Lib.hid hR
  clear hR
  go_enter Tryz.func141, Tryz.ntmps141
  go_wp2_with fail
  go_region_with (go_at_call 144; refine (left1_nat m c b d hm hm' hc hb hd _ Bm Ba Bd (by simp [*]) (by simp [*]) (by simp [*])).mono ?_; rintro e w' ⟨rfl, rfl⟩)
  all_goals (go_end0; exact ⟨⟨_, rfl⟩, hR'.out.set _, below_setB _ _ _ _⟩)
def RegL {m : Nat} (p : BitVec m) (inv B Bm Ba Bd : Nat) (s : BitVec m) (W : World) : Prop :=
  (Bm < B ∧ Ba < B ∧ Bd < B) ∧ W.cell? ⟨Bm, 0, none⟩ = some (.int .i64 m) ∧ W.cell? ⟨Ba, 0, none⟩ = some (.int .u32 ((2 ^ m - 1 : Nat) : Int)) ∧ W.cell? ⟨Bd, 0, none⟩ = some (.int .u32 p.toNat) ∧ RegAt W B (fnL Bm Ba Bd) inv s.toNat
def Takes {w : Nat} (f : BitVec w → Bool → BitVec w) (B : Nat) (St : BitVec w → World → Prop) : Prop :=
  ∀ (s : BitVec w) (W : World) (b : Nat), b < 2 → St s W → Calls Tryz.prog 141 #[.pointer (some ⟨B, 0, none⟩), .int .u32 b] W fun e w' => (∃ v, e = .returned v) ∧ St (f s (decide (b = 1))) w' ∧ Below B W w'
theorem toNat_decide {b : Nat} (hb : b < 2) : (decide (b = 1)).toNat = b := by
  rcases (by omega : b = 0 ∨ b = 1) with rfl | rfl <;> rfl
theorem takesL {m : Nat} (p : BitVec m) (inv B Bm Ba Bd : Nat) (hm : 1 ≤ m) (hm' : m ≤ 31) : Takes (stepL p) B (RegL p inv B Bm Ba Bd) := by
  rintro s W b hb ⟨⟨h1, h2, h3⟩, km, ka, kd, hR⟩
  have hp := pow_le31 hm'
  have hd := p.isLt
  refine (takeL_nat m s.toNat b p.toNat inv hm hm' s.isLt hb (by omega) W Bm Ba Bd B km ka kd hR).mono ?_
  rintro e w' ⟨he, hR', hB⟩
  refine ⟨he, ⟨⟨h1, h2, h3⟩, (hB.cell h1).trans km, (hB.cell h2).trans ka, (hB.cell h3).trans kd, ?_⟩, hB⟩
  rw [stepL_nat, toNat_decide hb]
  exact hR'
def boolsOf (l : List Int) : List Bool := l.map fun x => decide (x = 1)
theorem boolsOf_snoc {l : List Int} {k : Nat} {x : Int} (hx : l[k]? = some x) : boolsOf (l.take (k + 1)) = boolsOf (l.take k) ++ [decide (x = 1)] := by
  rw [take_snoc hx]; simp [boolsOf]
abbrev fnTake (B : Nat) : Value := .func (.func 141) #[.pointer (some ⟨B, 0, none⟩)] #[]
theorem bits1_any {w : Nat} {f : BitVec w → Bool → BitVec w} {B : Nat} {St : BitVec w → World → Prop} (hT : Takes f B St) (l : List Int) (n : Nat) (hn : l.length = n) (A : Option Addr) (c Bl : Nat) (s : BitVec w) (W : World)
    (hr : rightB l = true) (hm : n ≤ maxLen) (h : Row .i64 W B A l) (kl : W.cell? ⟨Bl, 0, none⟩ = some (.slice A n c)) (h0 : St s W) :
    Calls Tryz.prog 128 #[fnTake B, .pointer (some ⟨Bl, 0, none⟩)] W fun e w' => (∃ v, e = .returned v) ∧ St ((boolsOf l).foldl f s) w' ∧ Below B W w' := by
  subst hn
  unfold maxLen at hm
  have HR := Lib.hid hr
  clear hr
  go_enter Tryz.func128, Tryz.ntmps128
  go_wp2_with fail
  go_loopw [7] (fun i wr => ∃ k : Nat, k ≤ l.length ∧ i = .int .i64 k ∧ St ((boolsOf (l.take k)).foldl f s) wr ∧ Below B W wr) (fun i _ => l.length - (intOf i).toNat)
  case atStart => exact ⟨0, Nat.zero_le _, rfl, h0, Below.refl _ _⟩
  case round =>
    obtain ⟨k, hk, rfl, hS, hBl⟩ := hrel
    by_cases hlt : k < l.length
    · obtain ⟨ad, x, rfl, hx, hc⟩ := (h.below hBl).get_ hlt
      have hb := rightB_at HR.out hx
      have Hx := Lib.hid (boolsOf_snoc hx)
      obtain ⟨b, rfl, hb2⟩ : ∃ b : Nat, x = (b : Int) ∧ b < 2 := by
        rcases hb with rfl | rfl
        · exact ⟨0, rfl, by omega⟩
        · exact ⟨1, rfl, by omega⟩
      have hd : decide ((b : Int) = 1) = decide (b = 1) := by
        rcases (by omega : b = 0 ∨ b = 1) with rfl | rfl <;> rfl
      have Hd := Lib.hid hd
      clear hx hb hd
      have hb32 : b < 4294967296 := by omega
      go_wp2_with (go_at_call 141; refine (hT _ _ b hb2 hS).mono ?_; rintro e w2 ⟨⟨v, rfl⟩, hS2, hB2⟩)
      go_roundw
      case rel =>
        refine ⟨k + 1, by omega, by go_num, ?_, hBl.trans hB2⟩
        rw [Hx.out, List.foldl_append, List.foldl_cons, List.foldl_nil, Hd.out]
        exact hS2
      case measure => simp [intOf]; omega
    · obtain rfl : k = l.length := by omega
      go_wp2
      go_end0
      exact ⟨⟨_, rfl⟩, by rw [List.take_length] at hS; exact hS, hBl⟩
def hiAll (l : List Int) : List Bool := l.flatMap fun x => hiBits 8 x.toNat
def loAll (l : List Int) : List Bool := l.flatMap fun x => loBits 8 x.toNat
theorem results_cell1 {fn : Func} {p : Tmp} {ty : TypeId} (h : fn.results = #[.cell p ty]) (tmps : Array Value) (P : Program) (w : World) :
    (results fn tmps).run P w = ((asAddr (tmps.getD p undef)).run P w).andThen fun a w₁ => (loadVar ty a).run P w₁ := by
  simp only [results, h]
  simp [Sem.run_bind, Result.andThen]
abbrev ruleV (f : Value) (inv : Int) : Value := .agg #[f, .int .u32 inv]
theorem leftward_15 (w : World) :
    Calls Tryz.prog 140 #[.int .i64 15, .int .u32 17817] w fun e w' => e = .returned (fnL w.heap.size (w.heap.size + 1 + 1) (w.heap.size + 1)) ∧ w' = ((w.alloc (.cells #[.int .i64 15] 3)).alloc (.cells #[.int .u32 17817] 141)).alloc (.cells #[.int .u32 32767] 141) := by
  go_enter Tryz.func140, Tryz.ntmps140
  go_wp2
  go_ret
  exact ⟨rfl, rfl⟩
theorem bitsRule_any (w : World) :
    Calls Tryz.prog 126 #[] w fun e w' => e = .returned (ruleV (fnL (w.heap.size + 1) (w.heap.size + 1 + 1 + 1) (w.heap.size + 1 + 1)) 0) ∧
      w' = (((w.alloc (.cells #[fnL (w.heap.size + 1) (w.heap.size + 1 + 1 + 1) (w.heap.size + 1 + 1), .int .u32 0] 143)).alloc (.cells #[.int .i64 15] 3)).alloc (.cells #[.int .u32 17817] 141)).alloc (.cells #[.int .u32 32767] 141) := by
  go_enter Tryz.func126, Tryz.ntmps126
  go_wp2_with (go_at_call 140; refine (leftward_15 _).mono ?_; rintro e w' ⟨rfl, rfl⟩)
  refine bodyPost_ret (v := ruleV (fnL (w.heap.size + 1) (w.heap.size + 1 + 1 + 1) (w.heap.size + 1 + 1)) 0) ?_ rfl ⟨rfl, rfl⟩
  rw [results_cell1 rfl]
  go_simp
theorem bitsRule_at (w : World) :
    Calls Tryz.prog 126 #[] w fun e w' => ∃ Bm Ba Bd, e = .returned (ruleV (fnL Bm Ba Bd) 0) ∧ (Bm < w'.heap.size ∧ Ba < w'.heap.size ∧ Bd < w'.heap.size) ∧
      w'.cell? ⟨Bm, 0, none⟩ = some (.int .i64 15) ∧ w'.cell? ⟨Ba, 0, none⟩ = some (.int .u32 32767) ∧ w'.cell? ⟨Bd, 0, none⟩ = some (.int .u32 17817) ∧ Below w.heap.size w w' := by
  refine (bitsRule_any w).mono ?_
  rintro e w' ⟨rfl, rfl⟩
  refine ⟨_, _, _, rfl, ⟨by simp, by simp, by simp⟩, by go_simp, by go_simp, by go_simp, ?_⟩
  exact ((((Below.refl _ w).alloc (Nat.le_refl _) _).alloc (by simp) _).alloc (by simp; omega) _).alloc (by simp; omega) _
theorem proceedBits {m : Nat} {St : BitVec m → World → Prop} (F : Fn) (fs cs : Array Value) (inv sum : Nat) (hinv : inv < 4294967296) (hsum : sum < 4294967296) (Bl : Nat) (s0 s1 : BitVec m) (hm : m ≤ 32) (h0 : s0.toNat = sum ^^^ inv) (w : World)
    (hin : ∀ W, Below w.heap.size w W → RegAt W (w.heap.size + 1) (.func F fs cs) inv s0.toNat → St s0 W)
    (hout : ∀ W, St s1 W → RegAt W (w.heap.size + 1) (.func F fs cs) inv s1.toNat)
    (hF : ∀ W, Below w.heap.size w W → St s0 W → Calls Tryz.prog 128 #[fnTake (w.heap.size + 1), .pointer (some ⟨Bl, 0, none⟩)] W fun e w' => (∃ v, e = .returned v) ∧ St s1 w' ∧ Below (w.heap.size + 1) W w') :
    Calls Tryz.prog 127 #[ruleV (.func F fs cs) inv, .int .u32 sum, .func (.func 128) #[] #[.pointer (some ⟨Bl, 0, none⟩)]] w fun e w' => e = .returned (.int .i64 ((s1.toNat ^^^ inv : Nat) : Int)) ∧ Below w.heap.size w w' := by
  have e0 : bits .xor .u32 (sum : Int) (inv : Int) = (s0.toNat : Int) := by rw [h0]; exact u32_xor_nat _ _ hsum hinv
  clear h0
  have hle : s1.toNat < 4294967296 := Nat.lt_of_lt_of_le s1.isLt (Nat.pow_le_pow_right (n := 2) (by omega) hm)
  have e1 : bits .xor .u32 (s1.toNat : Int) (inv : Int) = ((s1.toNat ^^^ inv : Nat) : Int) := u32_xor_nat _ _ hle hinv
  have hx : s1.toNat ^^^ inv < 4294967296 := Nat.xor_lt_two_pow (n := 32) hle hinv
  have hB2 : Below w.heap.size w ((w.alloc (.cells #[.func F fs cs, .int .u32 inv] 143)).alloc (.cells #[.func F fs cs, .int .u32 inv, .int .u32 s0.toNat] 159)) :=
    ((Below.refl _ w).alloc (Nat.le_refl _) _).alloc (by simp) _
  have hreg : RegAt ((w.alloc (.cells #[.func F fs cs, .int .u32 inv] 143)).alloc (.cells #[.func F fs cs, .int .u32 inv, .int .u32 s0.toNat] 159)) (w.heap.size + 1) (.func F fs cs) inv s0.toNat := by
    have := World.alloc_heap_new (w.alloc (.cells #[.func F fs cs, .int .u32 inv] 143)) (.cells #[.func F fs cs, .int .u32 inv, .int .u32 s0.toNat] 159)
    rw [World.size_alloc] at this
    exact this
  have hcell : ((w.alloc (.cells #[.func F fs cs, .int .u32 inv] 143)).alloc (.cells #[.func F fs cs, .int .u32 inv, .int .u32 s0.toNat] 159)).cell? ⟨w.heap.size, 1, none⟩ = some (.int .u32 inv) := by go_simp
  have Hc := hF _ hB2 (hin _ hB2 hreg)
  have HB2 := Lib.hid hB2
  have Hcell := Lib.hid hcell
  clear hB2 hreg hcell hin hF
  go_enter Tryz.func127, Tryz.ntmps127
  go_wp2_with fail
  refine Hc.mono ?_
  rintro e w3 ⟨⟨v, rfl⟩, hS, hB3⟩
  have hR := hout _ hS
  have c2 : w3.cell? ⟨w.heap.size + 1, 2, none⟩ = some (.int .u32 s1.toNat) := by simp [World.cell?, show w3.heap[w.heap.size + 1]? = _ from hR]
  have k1 : w3.cell? ⟨w.heap.size, 1, none⟩ = some (.int .u32 inv) := (hB3.cell (by simp)).trans Hcell.out
  clear hout Hc
  go_wp2_with fail
  go_ret
  exact ⟨rfl, HB2.out.trans (hB3.mono (by omega))⟩
def crc15 (l : List Int) : BitVec 15 := (boolsOf l).foldl (stepL 0x4599#15) 0#15
def crc8 (b : List Int) : BitVec 8 := (hiAll b).foldl (stepL 0x1D#8) 0xFF#8
def crc32 (s : BitVec 32) (b : List Int) : BitVec 32 := (loAll b).foldl (stepR 0xEDB88320#32) s
theorem bits_any (l : List Int) (n : Nat) (hn : l.length = n) (A : Option Addr) (c : Nat) (w : World) (h : Row .i64 w w.heap.size A l) (hr : rightB l = true) (hm : n ≤ maxLen) :
    Calls Tryz.prog 113 #[.slice A n c] w fun e w' => e = .returned (.int .i64 (crc15 l).toNat) ∧ Below w.heap.size w w' := by
  have Hn := Lib.hid hn
  have Hr := Lib.hid hr
  clear hn hr
  go_enter Tryz.func113, Tryz.ntmps113
  go_wp2_with fail
  obtain ⟨w1, hw1⟩ : ∃ w1, w.alloc (.cells #[.slice A n c] 39) = w1 := ⟨_, rfl⟩
  rw [hw1]
  have kl : w1.cell? ⟨w.heap.size, 0, none⟩ = some (.slice A n c) := by subst hw1; go_simp
  have hz1 : w.heap.size < w1.heap.size := by rw [← hw1]; simp
  have hB1 := below_lits hw1
  clear hw1
  refine (bitsRule_at _).mono ?_
  rintro e w2 ⟨Bm, Ba, Bd, rfl, ⟨b1, b2, b3⟩, km, ka, kd, hB2⟩
  have kl2 : w2.cell? ⟨w.heap.size, 0, none⟩ = some (.slice A n c) := (hB2.cell hz1).trans kl
  have hz2 : w.heap.size < w2.heap.size := by have := hB2.size; omega
  have r2 := (h.to hB1).to hB2
  have hP := proceedBits (St := RegL 0x4599#15 0 (w2.heap.size + 1) Bm Ba Bd) (.func 144) #[] #[.pointer (some ⟨Bm, 0, none⟩), .pointer (some ⟨Ba, 0, none⟩), .pointer (some ⟨Bd, 0, none⟩)] 0 0 (by omega) (by omega) w.heap.size 0#15 (crc15 l) (by omega) rfl w2
    (fun W hB hR => ⟨⟨by omega, by omega, by omega⟩, (hB.cell b1).trans km, (hB.cell b2).trans ka, (hB.cell b3).trans kd, hR⟩)
    (fun W hS => hS.2.2.2.2)
    (fun W hB hS => bits1_any (takesL _ _ _ _ _ _ (by omega) (by omega)) l n Hn.out A c w.heap.size 0#15 W Hr.out hm ((r2.below hB).more (by omega)) ((hB.cell hz2).trans kl2) hS)
  go_wp2_with fail
  refine hP.mono ?_
  rintro e w3 ⟨rfl, hB3⟩
  go_wp2_with fail
  go_ret
  exact ⟨rfl, below_then hB1 (below_then hB2 hB3)⟩
theorem xor_i64 (a b : Nat) (ha : a < 4611686018427387904) (hb : b < 4611686018427387904) : bits .xor .i64 (a : Int) (b : Int) = ((a ^^^ b : Nat) : Int) := by
  have hx : a ^^^ b < 2 ^ 62 := Nat.xor_lt_two_pow ha hb
  show IntKind.i64.wrap ((BitVec.ofInt 64 (a : Int) ^^^ BitVec.ofInt 64 (b : Int)).toNat : Int) = _
  rw [BitVec.toNat_xor, ofInt_u64 _ (by omega), ofInt_u64 _ (by omega), IntKind.wrap_i64]
  omega
theorem refBits_any (l : List Int) (n : Nat) (hn : l.length = n) (A : Option Addr) (c B : Nat) (w : World) (h : Row .i64 w B A l) (hr : rightB l = true) (hm : n ≤ maxLen) :
    Calls Tryz.prog 81 #[.slice A n c] w fun e w' => e = .returned (.int .i64 (crc15 l).toNat) ∧ w = w' := by
  subst hn
  unfold maxLen at hm
  have HR := Lib.hid hr
  clear hr
  go_enter Tryz.func81, Tryz.ntmps81
  go_wp2
  go_loop [3, 4] (fun v i => ∃ k : Nat, k ≤ l.length ∧ i = .int .i64 k ∧ v = .int .i64 (crc15 (l.take k)).toNat) (fun _ i => l.length - (intOf i).toNat)
  case atStart => exact ⟨0, Nat.zero_le _, rfl, rfl⟩
  case round =>
    obtain ⟨k, hk, rfl, rfl⟩ := hrel
    by_cases hlt : k < l.length
    · obtain ⟨ad, x, rfl, hx, hc⟩ := h.get_ hlt
      have hb := rightB_at HR.out hx
      obtain ⟨b, rfl, hb2⟩ : ∃ b : Nat, x = (b : Int) ∧ b < 2 := by
        rcases hb with rfl | rfl
        · exact ⟨0, rfl, by omega⟩
        · exact ⟨1, rfl, by omega⟩
      have hs : (crc15 (l.take (k + 1))).toNat = redN (2 * (crc15 (l.take k)).toNat % 2 ^ 15) (b ^^^ (crc15 (l.take k)).toNat / 2 ^ 14) 17817 := by
        have e : crc15 (l.take (k + 1)) = stepL 0x4599#15 (crc15 (l.take k)) (decide (b = 1)) := by
          unfold crc15
          rw [boolsOf_snoc hx, List.foldl_append, List.foldl_cons, List.foldl_nil]
          rcases (by omega : b = 0 ∨ b = 1) with rfl | rfl <;> rfl
        rw [e, stepL_nat, toNat_decide hb2]
        rfl
      have hlt15 := (crc15 (l.take k)).isLt
      have Hs := Lib.hid hs
      clear hs hb hx
      generalize (crc15 (l.take k)).toNat = S at *
      have hx2 : b ^^^ S / 2 ^ 14 < 2 := Nat.xor_lt_two_pow (n := 1) hb2 (by omega)
      have hq : ((S / 2 ^ 14 : Nat) : Int) = (S : Int) / 16384 := by omega
      have hS2 : S < 32768 := hlt15
      have hmod : ((S : Int) * 2) % 32768 = ((2 * S % 2 ^ 15 : Nat) : Int) := by omega
      have hxo := xor_i64 (2 * S % 2 ^ 15) 17817 (by omega) (by omega)
      have Hmod := Lib.hid hmod
      have Hxo := Lib.hid hxo
      by_cases hx1 : b ^^^ S / 2 ^ 14 = 1
      · have e1 : bits .xor .i64 (b : Int) ((S : Int) / 16384) = 1 := by rw [← hq, xor_i64 _ _ (by omega) (by omega), hx1]; rfl
        rw [hx1] at Hs
        clear hmod hxo hx1 hx2 hq hlt15
        go_wp2
        go_round
        case rel => exact ⟨k + 1, by omega, by go_num, congrArg (Value.int .i64) (by rw [Hs.out, Hmod.out]; exact Hxo.out)⟩
        case measure => simp [intOf]; omega
      · have hx0 : b ^^^ S / 2 ^ 14 = 0 := by omega
        have e1 : bits .xor .i64 (b : Int) ((S : Int) / 16384) = 0 := by rw [← hq, xor_i64 _ _ (by omega) (by omega), hx0]; rfl
        rw [hx0] at Hs
        clear hmod hxo hx0 hx1 hx2 hq hlt15
        go_wp2
        go_round
        case rel => exact ⟨k + 1, by omega, by go_num, congrArg (Value.int .i64) (by rw [Hs.out, Hmod.out]; rfl)⟩
        case measure => simp [intOf]; omega
    · obtain rfl : k = l.length := by omega
      go_wp2
      go_ret
      exact ⟨rfl, rfl⟩
def zeroL (s : BitVec 8) (k : Nat) : BitVec 8 := (List.replicate k false).foldl (stepL 0x1D#8) s
def zeroR (s : BitVec 32) (k : Nat) : BitVec 32 := (List.replicate k false).foldl (stepR 0xEDB88320#32) s
end Go.Proofs.YtcifjccojmfpaaaGreat

namespace Go.Proofs.YtcifjccojmfpaaaGreat
open Go.RowKit
set_option linter.unusedVariables false
set_option linter.unusedSimpArgs false
section
variable {w w' : World} {R : Nat} {hv pv : Value} {D : Option Addr} {m c : Nat} {H P : List Int} {n q : Nat} {hd : Nat} {f : Fr} {t : Nat}
end
def trailF (t : Nat) (b : Int) : Int := if t ≠ 1 ∧ b ≠ 1 then 3 else 0
def hdOf : Except Int (Fr × Nat) → Nat × Fr
  | .ok (f, k) => (k, f)
  | .error _ => (0, Fr.none_)
def formOk : Except Int (Fr × Nat) → Bool
  | .ok _ => true
  | .error e => decide (e = 40)
section
variable {w w' : World} {R : Nat} {hv pv : Value} {D : Option Addr} {m c : Nat} {H P : List Int} {n q : Nat} {hd : Nat} {f : Fr} {t : Nat}
end
theorem crcBits_at (l : List Int) (n : Nat) (hn : l.length = n) (A : Option Addr) (c : Nat) (w : World) (h : Row .i64 w w.heap.size A l) (hr : rightB l = true) (hm : n ≤ maxLen) (v : Int) (hv : ((crc15 l).toNat : Int) = v) :
    Calls Tryz.prog 113 #[.slice A n c] w fun e w' => e = .returned (.int .i64 v) ∧ Below w.heap.size w w' := by
  subst hv; exact bits_any l n hn A c w h hr hm
def wholeB (H P : List Int) : Bool := decide (0 < (hdOf (readL P)).1) && decide (P.length = (hdOf (readL P)).1 + 15) && !fiveB H
def sumB (P : List Int) : Bool := decide (numOf (P.drop (hdOf (readL P)).1) = (crc15 (P.take (hdOf (readL P)).1)).toNat)
def plainOf (H P : List Int) (b : Int) : List Int := if fiveB H then P else P ++ [b]
def judged (H P : List Int) : Int := if formOk (readL P) then (if wholeB H P && !sumB P then 4 else 0) else 3
def stuffedF (H P : List Int) (b : Int) : Int := if fiveB H ∧ b = (runOf H).1 then 2 else judged (H ++ [b]) (plainOf H P b)
section
variable {w w' : World} {R : Nat} {hv pv : Value} {D : Option Addr} {m c : Nat} {H P : List Int} {n q : Nat} {hd : Nat} {f : Fr} {t : Nat}
end
def rdT (l : List Int) (e : Nat) (f : Fr) : Nat → List Int → Fr × Int × Int
  | t, [] => (Fr.none_, 1, ((e + t : Nat) : Int))
  | t, b :: r => if trailF t b = 0 then (if t + 1 = 10 then (if l.getD (e + 1) 0 = 0 then (f, 0, -1) else (f, 5, ((e + 1 : Nat) : Int))) else rdT l e f (t + 1) r) else (Fr.none_, 3, ((e + t : Nat) : Int))
def rdS (l : List Int) : List Int → List Int → List Int → Fr × Int × Int
  | H, _, [] => (Fr.none_, 1, (H.length : Int))
  | H, P, b :: r => if stuffedF H P b = 0 then (if wholeB (H ++ [b]) (plainOf H P b) then rdT l (H.length + 1) (hdOf (readL (plainOf H P b))).2 0 r else rdS l (H ++ [b]) (plainOf H P b) r) else (Fr.none_, stuffedF H P b, (H.length : Int))
def wireRd (l : List Int) : Fr × Int × Int := rdS l [] [] l
section
variable {l P : List Int} {k : Nat} {x : Int} {e t : Nat} {f : Fr}
end
def WirePost (w : World) (r : Fr × Int × Int) (en : Ending) (w' : World) : Prop :=
  ∃ D m c', en = .returned (.tuple #[.agg #[.bool r.1.ext, .int .i64 r.1.id, .bool r.1.rem, .int .i64 r.1.len, .slice D m c'], .int .i64 r.2.1, .int .i64 r.2.2]) ∧ r.1.data.length = m ∧ m ≤ c' ∧ Row .u8 w' w'.heap.size D r.1.data ∧ (r.1.data = [] ∨ ∃ ad, D = some ad ∧ w.heap.size ≤ ad.block) ∧ Below w.heap.size w w'
theorem concat2 (A1 A2 : Option Addr) (n1 n2 c1 c2 : Nat) (l1 l2 : List Int) (e1 : l1.length = n1) (e2 : l2.length = n2) (W : World) (t : TypeId)
    (h1 : Row .i64 W W.heap.size A1 l1) (h2 : Row .i64 W W.heap.size A2 l2) (N : Nat) (hN : n1 + n2 = N) (hN2 : N ≤ 100000) {S : Nat} (hS : S = W.heap.size) :
    Calls Tryz.prog 88 #[.slice (some ⟨S, 0, none⟩) 2 2] (W.alloc (.cells #[.slice A1 n1 c1, .slice A2 n2 c2] t)) fun e w' =>
      ∃ A c, e = .returned (.slice A N c) ∧ Row .i64 w' w'.heap.size A (l1 ++ l2) ∧ N ≤ c ∧ Below W.heap.size W w' := by
  subst e1 e2 hN hS
  refine (concat_at [(.slice A1 l1.length c1, l1), (.slice A2 l2.length c2, l2)] 2 rfl _ 2 _ (Parts.lit W _ t rfl ?_) (by omega) _ (by simp [cat]) hN2 (by omega)).mono ?_
  · intro p hp
    simp only [List.mem_cons, List.not_mem_nil, or_false] at hp
    rcases hp with rfl | rfl
    · exact ⟨_, _, rfl, h1⟩
    · exact ⟨_, _, rfl, h2⟩
  · rintro e w' ⟨A, c, rfl, hown, hB⟩
    have hr := Row.own hown
    simp only [cat, List.flatMap_cons, List.flatMap_nil, List.append_nil] at hr
    exact ⟨A, c, rfl, hr, own_cap hown, below_lit hB⟩
def sumV (h : List Int) : List Int := bitRow (crc15 h).toNat 15 15
def bareV (h : List Int) : List Int := h ++ sumV h
def ones (k : Nat) : List Int := List.replicate k 1
def sentV_NWi (h : List Int) : List Int := stuffL (bareV h) ++ ones 10
theorem crc_lt (h : List Int) : (crc15 h).toNat < 2 ^ 15 := (crc15 h).isLt
theorem sumV_len (h : List Int) : (sumV h).length = 15 := bitRow_len _ _ _
theorem bareV_len (h : List Int) : (bareV h).length = h.length + 15 := by simp [bareV, sumV_len]
theorem bareV_right {h : List Int} (hr : rightB h = true) : rightB (bareV h) = true := by unfold bareV sumV; rw [rightB_append, hr, bitRow_right]; rfl
theorem ones_succ (k : Nat) : ones (k + 1) = ones k ++ [1] := by simp [ones, List.replicate_succ']
theorem stuffL_most (h : List Int) : (stuffL h).length ≤ h.length + h.length / 4 := by
  have := stuffL_len h
  omega
theorem sentV_len (h : List Int) : (sentV_NWi h).length = (stuffL (bareV h)).length + 10 := by simp [sentV_NWi, ones]
theorem stuff_at (l : List Int) (n : Nat) (hn : l.length = n) (A : Option Addr) (c : Nat) (w : World) (h : Row .i64 w w.heap.size A l) (hr : rightB l = true) (hm : n ≤ 100000) (M : Nat) (hM : (stuffL l).length = M) :
    Calls Tryz.prog 114 #[.slice A n c] w fun e w' => ∃ cap, e = .returned (.slice (some ⟨w.heap.size, 0, none⟩) M cap) ∧
      w'.ownsRow w.heap.size 3 1 (.slice (some ⟨w.heap.size, 0, none⟩) M cap) M ((stuffL l).map (Value.int .i64)) ∧ Below w.heap.size w w' := by
  subst hn hM; exact stuff_any l A c w h hr hm
theorem wireBits_at (x : Bool) (ID : Nat) (r : Bool) (L : Nat) (dl : List Int) (m : Nat) (hdl : dl.length = m) (A : Option Addr) (c : Nat) (hID : idOk x ID) (hL : L ≤ 8) (w : World) (h : Row .u8 w w.heap.size A dl) (hb : byteB dl) (hm : m ≤ 1000) (T : List Int) (hT : headV x ID r L dl = T) (N : Nat) (hN : (sentV_NWi T).length = N) :
    Calls Tryz.prog 97 #[.agg #[.bool x, .int .i64 ID, .bool r, .int .i64 L, .slice A m c]] w fun e w' => ∃ A' c', e = .returned (.slice A' N c') ∧ Row .i64 w' w'.heap.size A' (sentV_NWi T) ∧ N ≤ c' ∧ Below w.heap.size w w' := by
  obtain ⟨i0, hi, hz0, hz1, hz2⟩ := info_parts Tryz.infoInt
  obtain ⟨K, hK⟩ : ∃ K, T.length = K := ⟨_, rfl⟩
  have hKn : hn x + 8 * m = K := by rw [← hK, ← hT, headV_len, hdl]
  have hK2 : K ≤ 8100 := by have : hn x ≤ 39 := (by cases x <;> decide); omega
  obtain ⟨M, hM⟩ : ∃ M, (stuffL (bareV T)).length = M := ⟨_, rfl⟩
  have hM2 : M ≤ 20000 := by have := stuffL_most (bareV T); rw [bareV_len, hK] at this; omega
  have hrT : rightB T = true := by rw [← hT]; exact headV_right _ _ _ _ _
  have hNM : M + 10 = N := by rw [← hN, sentV_len, hM]
  have hlb := bareV_len T
  rw [hK] at hlb
  have HT := Lib.hid hT
  have HdL := Lib.hid hdl
  have HK := Lib.hid hK
  have HKn := Lib.hid hKn
  have HM := Lib.hid hM
  have HrT := Lib.hid hrT
  have Hlb := Lib.hid hlb
  have HrB := Lib.hid (bareV_right hrT)
  have HB := Lib.hid hb
  clear hT hdl hK hKn hM hN hrT hlb hb
  have hB0 := below_alloc1 w (.cells #[.bool x, .int .i64 ID, .bool r, .int .i64 L, .slice A m c] 34)
  have r0 := h.to hB0
  go_enter Tryz.func97, Tryz.ntmps97
  go_wp2_with fail
  refine (head_at x ID r L dl m HdL.out A c hID hL _ r0 HB.out hm (8 * m) rfl K HKn.out).mono ?_
  rintro e w1 ⟨A1, c1, rfl, hr1, hc1, hB1⟩
  rw [HT.out] at hr1
  go_wp2_with fail
  refine (crcBits_at T K HK.out A1 c1 w1 hr1 HrT.out (by unfold maxLen; omega) _ rfl).mono ?_
  rintro e w2 ⟨rfl, hB2⟩
  go_wp2_with fail
  refine (put_yes_at _ 15 (crc15 T).toNat 15 rfl rfl (by omega) (crc_lt T) w2).mono ?_
  rintro e w3 ⟨A3, rfl, hr3, hB3⟩
  have r1 := (hr1.to hB2).to hB3
  have hBa := below_then (below_then (below_then hB0 hB1) hB2) hB3
  clear hB0 hB1 hB2 hB3 hr1
  go_wp2_with fail
  refine (concat2 A1 A3 K 15 c1 15 T (sumV T) HK.out (sumV_len T) w3 _ r1 hr3 (K + 15) rfl (by omega) rfl).mono ?_
  rintro e w4 ⟨A4, c4, rfl, hr4, hc4, hB4⟩
  go_wp2_with fail
  refine (stuff_at (bareV T) (K + 15) Hlb.out A4 c4 w4 hr4 HrB.out (by omega) M HM.out).mono ?_
  rintro e w5 ⟨cap, rfl, hown5, hB5⟩
  have hBb := below_then (below_then hBa hB4) hB5
  have hsz4 := (below_then hBa hB4).size
  clear hBa hB4 hB5 hr4 r1 hr3
  go_wp2_with fail
  go_loopw [6, 20] (fun o i wr => ∃ (k : Nat) (A' : Option Addr) (c' : Nat), k ≤ 10 ∧ i = .int .i64 k ∧ o = .slice A' (M + k) c' ∧ wr.ownsRow w.heap.size 3 1 (.slice A' (M + k) c') (M + k) ((stuffL (bareV T) ++ ones k).map (Value.int .i64)) ∧ Below w.heap.size w wr) (fun _ i _ => 10 - (intOf i).toNat)
  case atStart => exact ⟨0, _, cap, by omega, rfl, rfl, by simpa [ones] using own_low hown5 hsz4, hBb⟩
  case round =>
    clear hown5 hBb hsz4
    obtain ⟨k, A', c', hk, rfl, rfl, hown, hB⟩ := hrel
    have hsz := hB.size
    by_cases hlt : k < 10
    · go_wp2_with (at_builtin; refine wpList_append_row _ .i64 rfl _ _ 39 rfl w.heap.size 3 i0 (.int .i64 0) 8 Tryz.underlying39 hi hz0 hz1 hz2 rfl _ (M + k) (stuffL (bareV T) ++ ones k) rfl (hown.alloc _) (some ⟨wr.heap.size, 0, none⟩) 1 1 _ [1] rfl rfl (Row.lit wr .i64 [1] 3 rfl) (by unfold maxLen; omega) (by omega) (by simp; omega) ?_; intro A2 c2 w2 hown2 hc2 hB2)
      refine ⟨⟨k + 1, A2, c2, by omega, by go_num, rfl, ?_, (hB.alloc hsz _).trans hB2⟩, by simp [intOf]; omega⟩
      rw [ones_succ, ← List.append_assoc]
      exact hown2
    · obtain rfl : k = 10 := by omega
      go_wp2_with fail
      go_ret
      rw [hNM] at hown ⊢
      exact ⟨A', c', rfl, Row.own hown, own_cap hown, hB⟩
theorem wireLength_at (x : Bool) (ID : Nat) (r : Bool) (L : Nat) (dl : List Int) (m : Nat) (hdl : dl.length = m) (A : Option Addr) (c : Nat) (hID : idOk x ID) (hL : L ≤ 8) (w : World) (h : Row .u8 w w.heap.size A dl) (hb : byteB dl) (hm : m ≤ 1000) (T : List Int) (hT : headV x ID r L dl = T) (N : Nat) (hN : (sentV_NWi T).length = N) :
    Calls Tryz.prog 75 #[.agg #[.bool x, .int .i64 ID, .bool r, .int .i64 L, .slice A m c]] w fun e w' => e = .returned (.int .i64 N) ∧ Below w.heap.size w w' := by
  have HT := Lib.hid hT
  have HdL := Lib.hid hdl
  have HN := Lib.hid hN
  have HB := Lib.hid hb
  clear hT hdl hN hb
  have hB0 := below_alloc1 w (.cells #[.bool x, .int .i64 ID, .bool r, .int .i64 L, .slice A m c] 34)
  have r0 := h.to hB0
  go_enter Tryz.func75, Tryz.ntmps75
  go_wp2_with fail
  refine (wireBits_at x ID r L dl m HdL.out A c hID hL _ r0 HB.out hm T HT.out N HN.out).mono ?_
  rintro e w1 ⟨A1, c1, rfl, hr1, hc1, hB1⟩
  go_wp2_with fail
  go_ret
  exact ⟨rfl, below_then hB0 hB1⟩
def mostV (x : Bool) (n : Nat) : Nat := (if x then 54 else 34) + 8 * n + ((if x then 54 else 34) + 8 * n - 1) / 4 + 10
theorem refStuff5_any (l : List Int) (n : Nat) (hn : l.length = n) (A : Option Addr) (c : Nat) (w : World) (h : Row .i64 w w.heap.size A l) (hr : rightB l = true) (hm : n ≤ 10000) (M : Nat) (hM : (stuffL l).length = M) :
    Calls Tryz.prog 82 #[.slice A n c] w fun e w' => ∃ A' c', e = .returned (.slice A' M c') ∧
      w'.ownsRow w.heap.size 3 1 (.slice A' M c') M ((stuffL l).map (Value.int .i64)) ∧ Below w.heap.size w w' := by
  obtain ⟨i0, hi, hz0, hz1, hz2⟩ := info_parts Tryz.infoInt
  subst hn
  have HR := Lib.hid hr
  have HM := Lib.hid hM
  clear hr hM
  go_enter Tryz.func82, Tryz.ntmps82
  go_wp2_with fail
  go_loopw [3, 4, 5] (fun o rn i wr => ∃ (k m : Nat) (A' : Option Addr) (c' q : Nat), k ≤ l.length ∧ i = .int .i64 k ∧ (stuffL (l.take k)).length = m ∧ o = .slice A' m c' ∧ rn = .int .i64 q ∧ (stuffS (0, 0) (l.take k)).2 = q ∧
      wr.ownsRow w.heap.size 3 1 (.slice A' m c') m ((stuffL (l.take k)).map (Value.int .i64)) ∧ Below w.heap.size w wr)
    (fun _ _ i _ => l.length - (intOf i).toNat)
  case atStart => exact ⟨0, 0, none, 0, 0, Nat.zero_le _, rfl, rfl, rfl, rfl, rfl, World.ownsRow_nil _ _ _ _, Below.refl _ _⟩
  case round =>
    obtain ⟨k, m, A', c', q, hk, rfl, hml, rfl, rfl, hsq, hown, hB⟩ := hrel
    have hsz := hB.size
    by_cases hlt : k < l.length
    · have hrow := h
      obtain ⟨ad, x, rfl, hx, hc⟩ := (h.below hB).get_ hlt
      have hb := rightB_at HR.out hx
      have hx0 : 0 ≤ x := by omega
      have hx1 : x ≤ 1 := by omega
      have hfit : m ≤ k + k / 4 := by rw [← hml]; exact stuffL_take_len l k hk
      have hs4 := stuffS_le (l.take k) (0, 0) (by simp)
      have e1 := stuffF_snoc hx (0, 0)
      have e2 := stuffS_snoc hx (0, 0)
      have hlast : 0 < m → (stuffL (l.take k))[m - 1]? = some (stuffS (0, 0) (l.take k)).1 := by
        intro h0
        have := runOf_last (l := stuffL (l.take k)) (by omega)
        rw [hml, runOf_stuff] at this
        exact this
      have hm0 : m = 0 → k = 0 := by
        intro e0
        have := (stuffL_len (l.take k)).1
        rw [hml, e0, List.length_take] at this
        omega
      obtain ⟨s, hs⟩ : ∃ s, stuffS (0, 0) (l.take k) = s := ⟨_, rfl⟩
      have hs0 : k = 0 → s = (0, 0) := by rintro rfl; rw [← hs]; rfl
      rw [hs] at e1 e2 hs4 hlast hsq
      clear hs
      obtain ⟨u, hu⟩ : ∃ u, stuffL (l.take k) = u := ⟨_, rfl⟩
      rw [hu] at hown hml hlast
      by_cases h0 : m = 0
      · have hs := hs0 (hm0 h0)
        subst hs
        have hq : tick (0, 0) x = (x, 1) := by
          by_cases e : x = 0
          · subst e; rfl
          · exact tick_other e
        obtain rfl : q = 0 := hsq.symm
        have g1 : decide ((0 : Int) < (m : Int)) = false := by simp; omega
        have g2 : decide (0 < m) = false := by simp; omega
        have g3 : ¬ 0 < m := by omega
        clear hm0 hs0 hlast h0
        have e1' : stuffL (l.take (k + 1)) = u ++ [x] := by
          rw [← hu]
          show stuffF _ _ = stuffF _ _ ++ _
          rw [e1]; simp [stuffF, hq]
        have hs' : stuffS (0, 0) (l.take (k + 1)) = (x, 1) := by rw [e2]; simp [stuffS, hq]
        have l1 : (stuffL (l.take (k + 1))).length = m + 1 := by rw [e1', List.length_append, hml]; rfl
        have E1 := Lib.hid e1'
        have Hs' := Lib.hid (show (stuffS (0, 0) (l.take (k + 1))).2 = 1 by rw [hs'])
        have L1 := Lib.hid l1
        have Hx := Lib.hid hx
        clear e1' hs' l1 e1 e2 hq hu hml hx
        go_wp2_with fail
        go_quiet (fail)
        have hBq := below_drewN' hB nq
        have cq : (wr.drewN nq).cell? (ad.add k) = some (.int .i64 x) := hc
        have hown0 : (wr.drewN nq).ownsRow w.heap.size 3 1 (.slice A' m c') m (u.map (Value.int .i64)) := hown
        have hszq := hBq.size
        generalize wr.drewN nq = w1 at hBq cq hown0 hszq ⊢
        go_wp2_with (at_builtin; refine wpList_append_row _ .i64 rfl _ _ 39 rfl w.heap.size 3 i0 (.int .i64 0) 8 Tryz.underlying39 hi hz0 hz1 hz2 rfl _ m u rfl (hown0.alloc _) (some ⟨w1.heap.size, 0, none⟩) 1 1 _ [x] rfl rfl (Row.lit w1 .i64 [x] 3 rfl) (by unfold maxLen; omega) (by omega) (by simp; omega) ?_; intro A2 c2 w2 hown2 hc2 hB2)
        refine ⟨⟨k + 1, m + 1, A2, c2, 1, by omega, by go_num, L1.out, rfl, by go_num, Hs'.out, by rw [E1.out]; exact hown2, (hBq.alloc hszq _).trans hB2⟩, by simp [intOf]; omega⟩
      · have hl := hlast (by omega)
        obtain ⟨p, rfl⟩ : ∃ p, m = p + 1 := ⟨m - 1, by omega⟩
        rw [Nat.add_sub_cancel] at hl
        obtain ⟨y, hy⟩ : ∃ y, s.1 = y := ⟨_, rfl⟩
        rw [hy] at hl
        have ru := Row.own hown
        obtain ⟨ad2, rfl⟩ : ∃ ad2, A' = some ad2 := by
          obtain ⟨ad2, _, e, _⟩ := ru.get_ (k := 0) (by omega)
          exact ⟨ad2, e⟩
        have cl := ru.at_ hl
        by_cases hxy : x = y
        · have hq : tick s x = (x, q + 1) := by
            rw [hxy, ← hy, tick_same, hsq]
          have dxy : (y == x) = true := by simp [hxy]
          by_cases h5 : q + 1 = 5
          · obtain rfl : q = 4 := by omega
            have e1' : stuffL (l.take (k + 1)) = u ++ [x] ++ [1 - x] := by
              rw [← hu]
              show stuffF _ _ = stuffF _ _ ++ _ ++ _
              rw [e1]; simp [stuffF, hq]
            have hs' : stuffS (0, 0) (l.take (k + 1)) = (1 - x, 1) := by rw [e2]; simp [stuffS, hq]
            have l1 : (stuffL (l.take (k + 1))).length = p + 1 + 1 + 1 := by rw [e1', List.length_append, List.length_append, hml]; rfl
            have E1 := Lib.hid e1'
            have Hs' := Lib.hid (show (stuffS (0, 0) (l.take (k + 1))).2 = 1 by rw [hs'])
            have L1 := Lib.hid l1
            have Hx := Lib.hid hx
            clear e1' hs' l1 e1 e2 hq hu hml hx hlast hm0 hs0 hl hy hxy hb
            go_wp2_with fail
            go_quiet (fail)
            have hBq := below_drewN' hB nq
            have cq : (wr.drewN nq).cell? (ad.add k) = some (.int .i64 x) := hc
            have hown0 : (wr.drewN nq).ownsRow w.heap.size 3 1 (.slice (some ad2) (p + 1) c') (p + 1) (u.map (Value.int .i64)) := hown
            have hszq := hBq.size
            generalize wr.drewN nq = w1 at hBq cq hown0 hszq ⊢
            have cx2 : True := trivial
            go_wp2_with (first
              | (have hq_ := hown2; clear hq_; at_builtin; refine wpList_append_row _ .i64 rfl _ _ 39 rfl w.heap.size 3 i0 (.int .i64 0) 8 Tryz.underlying39 hi hz0 hz1 hz2 rfl _ (p + 1 + 1) (u ++ [x]) rfl (hown2.alloc _) (some ⟨w2.heap.size, 0, none⟩) 1 1 _ [1 - x] rfl rfl (Row.lit w2 .i64 [1 - x] 3 rfl) (by unfold maxLen; omega) (by omega) (by have := hB2.size; simp at this ⊢; omega) ?_; intro A4 c4 w4 hown4 hc4 hB4)
              | (at_builtin; refine wpList_append_row _ .i64 rfl _ _ 39 rfl w.heap.size 3 i0 (.int .i64 0) 8 Tryz.underlying39 hi hz0 hz1 hz2 rfl _ (p + 1) u rfl (hown0.alloc _) (some ⟨w1.heap.size, 0, none⟩) 1 1 _ [x] rfl rfl (Row.lit w1 .i64 [x] 3 rfl) (by unfold maxLen; omega) (by omega) (by simp; omega) ?_; intro A2 c2 w2 hown2 hc2 hB2; have cy : w2.cell? (ad.add k) = some (.int .i64 x) := (hrow.below ((hBq.alloc hszq _).trans hB2)).at_ Hx.out))
            refine ⟨⟨k + 1, p + 1 + 1 + 1, A4, c4, 1, by omega, by go_num, L1.out, rfl, by go_num, Hs'.out, by rw [E1.out]; exact hown4, ?_⟩, by simp [intOf]; omega⟩
            exact ((((hBq.alloc hszq _).trans hB2).alloc (by have := hB2.size; simp at this; omega) _).trans hB4)
          · have h5' : ¬ q = 4 := by omega
            have d5 : ((q : Int) + 1 == 5) = false := by simp; omega
            have e1' : stuffL (l.take (k + 1)) = u ++ [x] := by
              rw [← hu]
              show stuffF _ _ = stuffF _ _ ++ _
              rw [e1]; simp [stuffF, hq, h5']
            have hs' : stuffS (0, 0) (l.take (k + 1)) = (x, q + 1) := by rw [e2]; simp [stuffS, hq, h5']
            have l1 : (stuffL (l.take (k + 1))).length = p + 1 + 1 := by rw [e1', List.length_append, hml]; rfl
            have E1 := Lib.hid e1'
            have Hs' := Lib.hid (show (stuffS (0, 0) (l.take (k + 1))).2 = q + 1 by rw [hs'])
            have L1 := Lib.hid l1
            have Hx := Lib.hid hx
            clear e1' hs' l1 e1 e2 hq hu hml hx
            clear hlast hm0 hs0 hl hy hxy hb
            go_wp2_with fail
            go_quiet (fail)
            have hBq := below_drewN' hB nq
            have cq : (wr.drewN nq).cell? (ad.add k) = some (.int .i64 x) := hc
            have hown0 : (wr.drewN nq).ownsRow w.heap.size 3 1 (.slice (some ad2) (p + 1) c') (p + 1) (u.map (Value.int .i64)) := hown
            have hszq := hBq.size
            generalize wr.drewN nq = w1 at hBq cq hown0 hszq ⊢
            go_wp2_with (at_builtin; refine wpList_append_row _ .i64 rfl _ _ 39 rfl w.heap.size 3 i0 (.int .i64 0) 8 Tryz.underlying39 hi hz0 hz1 hz2 rfl _ (p + 1) u rfl (hown0.alloc _) (some ⟨w1.heap.size, 0, none⟩) 1 1 _ [x] rfl rfl (Row.lit w1 .i64 [x] 3 rfl) (by unfold maxLen; omega) (by omega) (by simp; omega) ?_; intro A2 c2 w2 hown2 hc2 hB2)
            refine ⟨⟨k + 1, p + 1 + 1, A2, c2, q + 1, by omega, by go_num, L1.out, rfl, by go_num, Hs'.out, by rw [E1.out]; exact hown2, (hBq.alloc hszq _).trans hB2⟩, by simp [intOf]; omega⟩
        · have hq : tick s x = (x, 1) := tick_other (by rw [hy]; exact hxy)
          have dxy : (y == x) = false := by simp; exact fun e => hxy e.symm
          have e1' : stuffL (l.take (k + 1)) = u ++ [x] := by
            rw [← hu]
            show stuffF _ _ = stuffF _ _ ++ _
            rw [e1]; simp [stuffF, hq]
          have hs' : stuffS (0, 0) (l.take (k + 1)) = (x, 1) := by rw [e2]; simp [stuffS, hq]
          have l1 : (stuffL (l.take (k + 1))).length = p + 1 + 1 := by rw [e1', List.length_append, hml]; rfl
          have E1 := Lib.hid e1'
          have Hs' := Lib.hid (show (stuffS (0, 0) (l.take (k + 1))).2 = 1 by rw [hs'])
          have L1 := Lib.hid l1
          have Hx := Lib.hid hx
          clear e1' hs' l1 e1 e2 hq hu hml hx
          clear hlast hm0 hs0 hl hy hxy hb
          go_wp2_with fail
          go_quiet (fail)
          have hBq := below_drewN' hB nq
          have cq : (wr.drewN nq).cell? (ad.add k) = some (.int .i64 x) := hc
          have hown0 : (wr.drewN nq).ownsRow w.heap.size 3 1 (.slice (some ad2) (p + 1) c') (p + 1) (u.map (Value.int .i64)) := hown
          have hszq := hBq.size
          generalize wr.drewN nq = w1 at hBq cq hown0 hszq ⊢
          go_wp2_with (at_builtin; refine wpList_append_row _ .i64 rfl _ _ 39 rfl w.heap.size 3 i0 (.int .i64 0) 8 Tryz.underlying39 hi hz0 hz1 hz2 rfl _ (p + 1) u rfl (hown0.alloc _) (some ⟨w1.heap.size, 0, none⟩) 1 1 _ [x] rfl rfl (Row.lit w1 .i64 [x] 3 rfl) (by unfold maxLen; omega) (by omega) (by simp; omega) ?_; intro A2 c2 w2 hown2 hc2 hB2)
          refine ⟨⟨k + 1, p + 1 + 1, A2, c2, 1, by omega, by go_num, L1.out, rfl, by go_num, Hs'.out, by rw [E1.out]; exact hown2, (hBq.alloc hszq _).trans hB2⟩, by simp [intOf]; omega⟩
    · obtain rfl : k = l.length := by omega
      rw [List.take_length] at hml hown
      obtain rfl : m = M := by rw [← hml, HM.out]
      clear hml hsq
      go_wp2_with fail
      go_ret
      exact ⟨A', c', rfl, hown, hB⟩
theorem refHead_at (x : Bool) (ID : Nat) (r : Bool) (L : Nat) (dl : List Int) (m : Nat) (hdl : dl.length = m) (A : Option Addr) (c : Nat) (hID : idOk x ID) (hL : L ≤ 8) (w : World) (h : Row .u8 w w.heap.size A dl) (hb : byteB dl) (hm : m ≤ 1000) (T : List Int) (hT : headV x ID r L dl = T) (K : Nat) (hK : T.length = K) :
    Calls Tryz.prog 80 #[.agg #[.bool x, .int .i64 ID, .bool r, .int .i64 L, .slice A m c]] w fun e w' => ∃ A' c', e = .returned (.slice A' K c') ∧ Row .i64 w' w'.heap.size A' T ∧ Below w.heap.size w w' := by
  have hl := headV_len x ID r L dl
  rw [hT, hK, hdl] at hl
  subst hT
  cases x
  · exact refHeadS_at ID r L dl m hdl A c hID hL w h hb hm (8 * m) rfl K hl.symm
  · exact refHeadX_at ID r L dl m hdl A c hID hL w h hb hm (8 * m) rfl K hl.symm
theorem refBits5_at (x : Bool) (ID : Nat) (r : Bool) (L : Nat) (dl : List Int) (m : Nat) (hdl : dl.length = m) (A : Option Addr) (c : Nat) (hID : idOk x ID) (hL : L ≤ 8) (w : World) (h : Row .u8 w w.heap.size A dl) (hb : byteB dl) (hm : m ≤ 100) (T : List Int) (hT : headV x ID r L dl = T) (N : Nat) (hN : (sentV_NWi T).length = N) :
    Calls Tryz.prog 61 #[.agg #[.bool x, .int .i64 ID, .bool r, .int .i64 L, .slice A m c]] w fun e w' => ∃ A' c', e = .returned (.slice A' N c') ∧ w'.ownsRow w.heap.size 3 1 (.slice A' N c') N ((sentV_NWi T).map (Value.int .i64)) ∧ Below w.heap.size w w' := by
  obtain ⟨i0, hi, hz0, hz1, hz2⟩ := info_parts Tryz.infoInt
  obtain ⟨K, hK⟩ : ∃ K, T.length = K := ⟨_, rfl⟩
  have hK2 : K ≤ 1000 := by
    have : hn x ≤ 39 := (by cases x <;> decide)
    rw [← hK, ← hT, headV_len, hdl]; omega
  obtain ⟨M, hM⟩ : ∃ M, (stuffL (bareV T)).length = M := ⟨_, rfl⟩
  have hM2 : M ≤ 20000 := by have := stuffL_most (bareV T); rw [bareV_len, hK] at this; omega
  have hrT : rightB T = true := by rw [← hT]; exact headV_right _ _ _ _ _
  have hNM : M + 10 = N := by rw [← hN, sentV_len, hM]
  have hlb := bareV_len T
  rw [hK] at hlb
  have HT := Lib.hid hT
  have HdL := Lib.hid hdl
  have HK := Lib.hid hK
  have HM := Lib.hid hM
  have HrT := Lib.hid hrT
  have Hlb := Lib.hid hlb
  have HrB := Lib.hid (bareV_right hrT)
  have HB := Lib.hid hb
  clear hT hdl hK hM hN hrT hlb hb
  have hB0 := below_alloc1 w (.cells #[.bool x, .int .i64 ID, .bool r, .int .i64 L, .slice A m c] 34)
  have r0 := h.to hB0
  go_enter Tryz.func61, Tryz.ntmps61
  go_wp2_with fail
  refine (refHead_at x ID r L dl m HdL.out A c hID hL _ r0 HB.out (by omega) T HT.out K HK.out).mono ?_
  rintro e w1 ⟨A1, c1, rfl, hr1, hB1⟩
  go_wp2_with fail
  refine (refBits_any T K HK.out A1 c1 _ w1 hr1 HrT.out (by unfold maxLen; omega)).mono ?_
  rintro e w2 ⟨rfl, rfl⟩
  go_wp2_with fail
  refine (refPut_at _ 15 (crc15 T).toNat 15 rfl rfl (by omega) (crc_lt T) w1).mono ?_
  rintro e w3 ⟨A3, c3, rfl, hr3, hB3⟩
  have r1 := hr1.to hB3
  have hBa := below_then (below_then hB0 hB1) hB3
  have o4 := own_lit w3 .i64 [] 0 rfl 3 (cs := #[]) rfl (by decide)
  have r4 := r1.to (below_alloc1 w3 (.cells #[] 3))
  have s4 := hr3.to (below_alloc1 w3 (.cells #[] 3))
  clear hB0 hB1 hB3 hr1 r1
  go_wp2_with (first
    | (at_builtin; have hq_ := hown5; clear hq_; refine wpList_append_row _ .i64 rfl _ _ 39 rfl w3.heap.size 3 i0 (.int .i64 0) 8 Tryz.underlying39 hi hz0 hz1 hz2 rfl _ K T rfl hown5 A3 15 c3 _ (sumV T) rfl (sumV_len T) hr5 (by unfold maxLen; omega) (by omega) hs5 ?_; intro A6 c6 w6 hown6 hc6 hB6)
    | (at_builtin; refine wpList_append_row _ .i64 rfl _ _ 39 rfl w3.heap.size 3 i0 (.int .i64 0) 8 Tryz.underlying39 hi hz0 hz1 hz2 rfl _ 0 [] rfl o4 A1 K c1 _ T rfl HK.out r4 (by unfold maxLen; omega) (by omega) (by simp) ?_; intro A5 c5 w5 hown5 hc5 hB5; rw [Nat.zero_add, List.nil_append] at hown5; have hs5 : w3.heap.size ≤ w5.heap.size := (by have := hB5.size; simp at this; omega); have hr5 : Row .i64 w5 w3.heap.size A3 (sumV T) := ((hr3.below (below_alloc1 w3 _)).below hB5)))
  have r6 := Row.own hown6
  have hBb := hBa.trans ((((below_alloc1 w3 _).trans hB5).trans hB6).mono hBa.size)
  clear hBa hown5 hs5 hr5 hB5 hB6 o4 r4 s4 hown6
  refine (refStuff5_any (bareV T) (K + 15) Hlb.out A6 c6 w6 r6 HrB.out (by omega) M HM.out).mono ?_
  rintro e w7 ⟨A7, c7, rfl, hown7, hB7⟩
  have hown7' := own_low hown7 hBb.size
  have hBc := below_then hBb hB7
  have hsz := hBc.size
  clear hown7 hB7
  go_wp2_with (at_builtin; refine wpList_append_row _ .i64 rfl _ _ 39 rfl w.heap.size 3 i0 (.int .i64 0) 8 Tryz.underlying39 hi hz0 hz1 hz2 rfl _ M (stuffL (bareV T)) rfl (hown7'.alloc _) (some ⟨w7.heap.size, 0, none⟩) 10 10 _ [1, 1, 1, 1, 1, 1, 1, 1, 1, 1] rfl rfl (Row.lit w7 .i64 [1, 1, 1, 1, 1, 1, 1, 1, 1, 1] 3 rfl) (by unfold maxLen; omega) (by omega) (by simp; omega) ?_; intro A8 c8 w8 hown8 hc8 hB8)
  go_ret
  rw [hNM] at hown8
  exact ⟨A8, c8, rfl, hown8, (hBc.alloc hsz _).trans hB8⟩
theorem refLength5_at (x : Bool) (ID : Nat) (r : Bool) (L : Nat) (dl : List Int) (m : Nat) (hdl : dl.length = m) (A : Option Addr) (c : Nat) (hID : idOk x ID) (hL : L ≤ 8) (w : World) (h : Row .u8 w w.heap.size A dl) (hb : byteB dl) (hm : m ≤ 100) (T : List Int) (hT : headV x ID r L dl = T) (N : Nat) (hN : (sentV_NWi T).length = N) :
    Calls Tryz.prog 36 #[.agg #[.bool x, .int .i64 ID, .bool r, .int .i64 L, .slice A m c]] w fun e w' => e = .returned (.int .i64 N) ∧ Below w.heap.size w w' := by
  have HT := Lib.hid hT
  have HdL := Lib.hid hdl
  have HN := Lib.hid hN
  have HB := Lib.hid hb
  clear hT hdl hN hb
  have hB0 := below_alloc1 w (.cells #[.bool x, .int .i64 ID, .bool r, .int .i64 L, .slice A m c] 34)
  have r0 := h.to hB0
  go_enter Tryz.func36, Tryz.ntmps36
  go_wp2_with fail
  refine (refBits5_at x ID r L dl m HdL.out A c hID hL _ r0 HB.out hm T HT.out N HN.out).mono ?_
  rintro e w1 ⟨A1, c1, rfl, hown1, hB1⟩
  go_wp2_with fail
  go_ret
  exact ⟨rfl, below_then hB0 hB1⟩
def heardV_NWi (h : List Int) : List Int := (sentV_NWi h).set ((sentV_NWi h).length - 9) 0
end Go.Proofs.YtcifjccojmfpaaaGreat

namespace Go.Proofs.YtcifjccojmfpaaaGreat
open Go.RowKit
set_option linter.unusedVariables false
set_option linter.unusedSimpArgs false
def lenC (F : FC) : Nat := (sentV_NWi (headV F.x F.i.toNat F.r F.n.toNat F.d)).length
theorem right_parts10 {F : FC} (h : rightC F = true) : ∃ ID L : Nat, F.i = ID ∧ F.n = L ∧ idOk F.x ID ∧ L ≤ 8 ∧ F.d.length = (if F.r then 0 else L) := right_ok h
theorem refLen_c {w : World} {P : Nat → Prop} {f : FV} {F : FC} (h : FIs w P f F) (hr : rightC F = true) (N : Nat) (hN : lenC F = N) : Calls Tryz.prog 36 #[f.v] w fun e w' => e = .returned (.int .i64 N) ∧ Below w.heap.size w w' := by
  obtain ⟨ID, L, hi, hn, hID, hL, hd⟩ := right_parts10 hr
  have hl := right_len hr
  have e : f.v = .agg #[.bool F.x, .int .i64 ID, .bool F.r, .int .i64 L, .slice f.a f.m f.c] := by rw [← hi, ← hn, ← h.x, ← h.i, ← h.r, ← h.n]
  rw [e]
  exact refLength5_at F.x ID F.r L F.d f.m h.len f.a f.c hID hL w h.row h.byte (by rw [← h.len]; omega) _ rfl N (by rw [← hN]; unfold lenC; rw [hi, hn]; rfl)
theorem wireLen_c {w : World} {P : Nat → Prop} {f : FV} {F : FC} (h : FIs w P f F) (hr : rightC F = true) (N : Nat) (hN : lenC F = N) : Calls Tryz.prog 75 #[f.v] w fun e w' => e = .returned (.int .i64 N) ∧ Below w.heap.size w w' := by
  obtain ⟨ID, L, hi, hn, hID, hL, hd⟩ := right_parts10 hr
  have hl := right_len hr
  have e : f.v = .agg #[.bool F.x, .int .i64 ID, .bool F.r, .int .i64 L, .slice f.a f.m f.c] := by rw [← hi, ← hn, ← h.x, ← h.i, ← h.r, ← h.n]
  rw [e]
  exact wireLength_at F.x ID F.r L F.d f.m h.len f.a f.c hID hL w h.row h.byte (by rw [← h.len]; omega) _ rfl N (by rw [← hN]; unfold lenC; rw [hi, hn]; rfl)
theorem lenC_le {F : FC} (h : rightC F = true) : lenC F ≤ 1000 := by
  have hl := right_len h
  unfold lenC
  rw [sentV_len]
  have h1 := stuffL_most (bareV (headV F.x F.i.toNat F.r F.n.toNat F.d))
  rw [bareV_len, headV_len] at h1
  have h2 : hn F.x ≤ 39 := by cases F.x <;> decide
  omega
end Go.Proofs.YtcifjccojmfpaaaGreat

namespace Go.Proofs.YtcifjccojmfpaaaGreat
open Go.RowKit
set_option linter.unusedVariables false
set_option linter.unusedSimpArgs false
theorem refAny_c {w : World} {P P' : Nat → Prop} {A : Option Addr} {n c : Nat} {ls : List FL} {f : FV} {F : FC} (h : LSl w P A n c ls) (hf : FIs w P' f F) (hm : n ≤ 1000) (q : Bool) (hq : anyV ls F.x F.i = q) :
    Calls Tryz.prog 23 #[.slice A n c, f.v] w fun e w' => e = .returned (.bool q) ∧ Below w.heap.size w w' :=
  refAny_q ls f n h.len A c w h.row hm q (by rw [hf.x, hf.i]; exact hq)
end Go.Proofs.YtcifjccojmfpaaaGreat

namespace Go.Proofs.YtcifjccojmfpaaaGreat
open Go.RowKit
set_option linter.unusedVariables false
set_option linter.unusedSimpArgs false
structure TIs (w : World) (P : Nat → Prop) (t : TV) (T : TC) : Prop where
  win : t.w = T.w
  f : FIs w P t.f T.f
  ok : t.ok = T.ok
  b : t.b = T.b
theorem TIs.to {w w' : World} {P : Nat → Prop} {t : TV} {T : TC} (h : TIs w P t T) (b : Below w.heap.size w w') : TIs w' P t T := ⟨h.win, h.f.to b, h.ok, h.b⟩
theorem TIs.grow {w w' : World} {P : Nat → Prop} {t : TV} {T : TC} {X : Nat} (h : TIs w P t T) (g : w.grownBy w' (some X)) (hX : ¬ P X) : TIs w' P t T := ⟨h.win, h.f.grow g hX, h.ok, h.b⟩
theorem TIs.mono {w : World} {P Q : Nat → Prop} {t : TV} {T : TC} (h : TIs w P t T) (hq : ∀ b, b < w.heap.size → P b → Q b) : TIs w Q t T := ⟨h.win, h.f.mono hq, h.ok, h.b⟩
abbrev lenZ (F : FC) : Int := (lenC F : Int)
end Go.Proofs.YtcifjccojmfpaaaGreat

namespace Go.Proofs.YtcifjccojmfpaaaGreat
open Go.RowKit
set_option linter.unusedVariables false
set_option linter.unusedSimpArgs false
structure HV where
  a : Option Addr
  m : Nat
  c : Nat
def HV.cs (h : HV) : List Value := [.slice h.a h.m h.c]
theorem shH : Shape HV.cs 1 := ⟨fun _ => rfl, fun v u hu => by simp only [HV.cs, List.mem_cons, List.not_mem_nil, or_false] at hu; subst hu; rfl, by decide⟩
structure HIs (w : World) (P : Nat → Prop) (h : HV) (H : List Int) : Prop where
  len : H.length = h.m
  cap : h.m ≤ h.c
  row : Row .i64 w w.heap.size h.a H
  inP : InP P h.a h.m
theorem HIs.to {w w' : World} {P : Nat → Prop} {h : HV} {H : List Int} (x : HIs w P h H) (b : Below w.heap.size w w') : HIs w' P h H := ⟨x.len, x.cap, x.row.to b, x.inP⟩
theorem HIs.grow {w w' : World} {P : Nat → Prop} {h : HV} {H : List Int} {X : Nat} (x : HIs w P h H) (g : w.grownBy w' (some X)) (hX : ¬ P X) : HIs w' P h H :=
  ⟨x.len, x.cap, row_grow x.row g (fun hl => x.inP.grow hX (by rw [← x.len]; exact List.length_pos_iff.2 hl)), x.inP⟩
theorem HIs.mono {w : World} {P Q : Nat → Prop} {h : HV} {H : List Int} (x : HIs w P h H) (hq : ∀ b, b < w.heap.size → P b → Q b) : HIs w Q h H := ⟨x.len, x.cap, x.row, inP_row x.row x.len x.inP hq⟩
structure HSl (w : World) (P : Nat → Prop) (A : Option Addr) (n c : Nat) (Hs : List (List Int)) : Prop where
  len : Hs.length = n
  cap : n ≤ c
  row : ∃ hs, GRow HV.cs w w.heap.size A hs ∧ AllIs (HIs w P) hs Hs
theorem HSl.to {w w' : World} {P : Nat → Prop} {A : Option Addr} {n c : Nat} {Hs : List (List Int)} (h : HSl w P A n c Hs) (b : Below w.heap.size w w') : HSl w' P A n c Hs := ⟨h.len, h.cap, (let ⟨ns, h1, h2⟩ := h.row; ⟨ns, h1.to b, h2.imp fun _ _ h => h.to b⟩)⟩
theorem HSl.at_ {w : World} {P : Nat → Prop} {A : Option Addr} {n c : Nat} {Hs : List (List Int)} (h : HSl w P A n c Hs) {k : Nat} (hk : k < n) : ∃ ad x, A = some ad ∧ w.cell? (ad.add (k * 1)) = some (.slice x.a x.m x.c) ∧ HIs w P x (Hs.getD k []) := by
  obtain ⟨ns, h1, h2⟩ := h.row
  have hk2 : k < Hs.length := by rw [h.len]; exact hk
  have e : Hs[k]? = some (Hs.getD k []) := by simp [List.getD, List.getElem?_eq_getElem hk2]
  obtain ⟨x, hx, hi⟩ := h2.at_ e
  obtain ⟨ad, e', _, ha⟩ := h1.at_lt shH hx
  exact ⟨ad, x, e', by have := ha 0 _ rfl; rwa [add_zero] at this, hi⟩
abbrev TOwn (w : World) (base : Nat) (A : Option Addr) (n c : Nat) (ts : List TV) : Prop := GOwn TV.cs 8 36 w base A n c ts
abbrev TsIs (w : World) (P : Nat → Prop) (ts : List TV) (Ts : List TC) : Prop := AllIs (TIs w P) ts Ts
theorem TsIs.to {w w' : World} {P : Nat → Prop} {ts : List TV} {Ts : List TC} (h : TsIs w P ts Ts) (b : Below w.heap.size w w') : TsIs w' P ts Ts := h.imp fun _ _ h => h.to b
theorem TsIs.grow {w w' : World} {P : Nat → Prop} {ts : List TV} {Ts : List TC} {X : Nat} (h : TsIs w P ts Ts) (g : w.grownBy w' (some X)) (hX : ¬ P X) : TsIs w' P ts Ts := h.imp fun _ _ h => h.grow g hX
theorem TsIs.mono {w : World} {P Q : Nat → Prop} {ts : List TV} {Ts : List TC} (h : TsIs w P ts Ts) (hq : ∀ b, b < w.heap.size → P b → Q b) : TsIs w Q ts Ts := h.imp fun _ _ h => h.mono hq
structure TSl (w : World) (P : Nat → Prop) (A : Option Addr) (n c : Nat) (Ts : List TC) : Prop where
  len : Ts.length = n
  cap : n ≤ c
  row : ∃ ts, GRow TV.cs w w.heap.size A ts ∧ TsIs w P ts Ts
theorem TSl.to {w w' : World} {P : Nat → Prop} {A : Option Addr} {n c : Nat} {Ts : List TC} (h : TSl w P A n c Ts) (b : Below w.heap.size w w') : TSl w' P A n c Ts := ⟨h.len, h.cap, (let ⟨ns, h1, h2⟩ := h.row; ⟨ns, h1.to b, h2.to b⟩)⟩
def slotsTo (Ns : List NC) (Hs : List (List Int)) : Nat → List NC
  | 0 => Ns
  | k + 1 => slotN (slotsTo Ns Hs k) (Hs.getD k [])
def toldsTo (Ns : List NC) (Hs : List (List Int)) : Nat → List TC
  | 0 => []
  | k + 1 => toldsTo Ns Hs k ++ [toldN lenZ (slotsTo Ns Hs k) (Hs.getD k [])]
def slotsN (Ns : List NC) (Hs : List (List Int)) : List NC := slotsTo Ns Hs Hs.length
def toldsN (Ns : List NC) (Hs : List (List Int)) : List TC := toldsTo Ns Hs Hs.length
theorem slotsTo_ok {Ns : List NC} (h : OkNs Ns) (Hs : List (List Int)) (k : Nat) : OkNs (slotsTo Ns Hs k) := by
  induction k with
  | zero => exact h
  | succ k ih => exact ok_slot ih _
theorem toldsTo_len (Ns : List NC) (Hs : List (List Int)) (k : Nat) : (toldsTo Ns Hs k).length = k := by
  induction k with
  | zero => rfl
  | succ k ih => simp [toldsTo, ih]
end Go.Proofs.YtcifjccojmfpaaaGreat

namespace Go.Proofs.YtcifjccojmfpaaaGreat
open Go.RowKit
set_option linter.unusedVariables false
structure BusSlot : Prop where
  run : ∀ {w : World} {P : Nat → Prop} {A : Option Addr} {n c : Nat} {Ns : List NC} {wa : Option Addr} {wn wc : Nat} {H : List Int} (h : NSl w P A n c Ns) (hok : OkNs Ns) (h1 : 1 ≤ n) (hm : n ≤ 8) (hH : Row .i64 w w.heap.size wa H) (hHl : H.length = wn) (hwm : wn ≤ 1000) (hP : ∀ b, w.heap.size ≤ b → P b) (Ms : List NC) (hMs : slotN Ns H = Ms) (T : TC) (hT : toldN lenZ Ns H = T),
    Calls Tryz.prog 18 #[.slice A n c, .agg #[.slice wa wn wc]] w fun e w' => ∃ (A' : Option Addr) (c' : Nat) (t : TV), e = .returned (.tuple #[.slice A' n c', t.v]) ∧ NSl w' P A' n c' Ms ∧ TIs w' P t T ∧ Below w.heap.size w w'
structure BusSlots : Prop where
  run : ∀ {w : World} {P Q : Nat → Prop} {A : Option Addr} {n c : Nat} {Ns : List NC} {ha : Option Addr} {hn hc : Nat} {Hs : List (List Int)} (h : NSl w P A n c Ns) (hok : OkNs Ns) (h1 : 1 ≤ n) (hm : n ≤ 8) (hh : HSl w Q ha hn hc Hs) (hhm : hn ≤ 100) (hw : ∀ H ∈ Hs, H.length ≤ 1000) (hP : ∀ b, w.heap.size ≤ b → P b),
    Calls Tryz.prog 14 #[.slice A n c, .slice ha hn hc] w fun e w' => ∃ (A' B : Option Addr) (c' d : Nat), e = .returned (.tuple #[.slice A' n c', .slice B hn d]) ∧ NSl w' P A' n c' (slotsN Ns Hs) ∧ TSl w' P B hn d (toldsN Ns Hs) ∧ Below w.heap.size w w'
structure Head10 : Prop where
  run : ∀ (w : World), Calls Tryz.prog 11 #[] w fun e w' => e = .returned (.bool true) ∧ Below w.heap.size w w'
end Go.Proofs.YtcifjccojmfpaaaGreat

namespace Go.Proofs.YtcifjccojmfpaaaGreat
open Go.RowKit
set_option linter.unusedVariables false
set_option linter.unusedSimpArgs false
theorem made_r10 (x : Bool) (i n : Int) (a : Option Addr) (m c : Nat) (w : World) (y : Int) (hy : min (bits .and .i64 n 15) 8 = y) :
    Calls Tryz.prog 33 #[.agg #[.bool x, .int .i64 i, .bool true, .int .i64 n, .slice a m c]] w fun e w' => e = .returned (.agg #[.bool x, .int .i64 (idm x i), .bool true, .int .i64 y, .slice none 0 0]) ∧ Below w.heap.size w w' := by
  obtain ⟨u, hu⟩ : ∃ u, bits .and .i64 i 536870911 = u := ⟨_, rfl⟩
  obtain ⟨u2, hu2⟩ : ∃ u, bits .and .i64 i 2047 = u := ⟨_, rfl⟩
  obtain ⟨z, hz⟩ : ∃ z, bits .and .i64 n 15 = z := ⟨_, rfl⟩
  obtain ⟨z8, hz8⟩ : ∃ z8, min z 8 = z8 := ⟨_, rfl⟩
  obtain rfl : z8 = y := by rw [← hy, hz, hz8]
  clear hy
  cases x
  · rw [show idm false i = u2 from hu2]
    go_enter Tryz.func33, Tryz.ntmps33
    go_wp2_with fail
    refine bodyPost_ret (v := .agg #[.bool false, .int .i64 u2, .bool true, .int .i64 z8, .slice none 0 0]) (results_fr rfl _ rfl (blk2 _ _ _ _)) rfl ?_
    exact ⟨rfl, below3 _ _ _ _⟩
  · rw [show idm true i = u from hu]
    go_enter Tryz.func33, Tryz.ntmps33
    go_wp2_with fail
    refine bodyPost_ret (v := .agg #[.bool true, .int .i64 u, .bool true, .int .i64 z8, .slice none 0 0]) (results_fr rfl _ rfl (blk2 _ _ _ _)) rfl ?_
    exact ⟨rfl, below3 _ _ _ _⟩
theorem made_d10 (x : Bool) (i n : Int) (a : Option Addr) (m c : Nat) (dl : List Int) (hl : dl.length = m) (w : World) (h : Row .u8 w w.heap.size a dl) (hm : m ≤ maxLen) (hc : m ≤ c) (P : Nat → Prop) (hP : ∀ b, w.heap.size ≤ b → P b) (k : Nat) (hk : min m 8 = k) :
    Calls Tryz.prog 33 #[.agg #[.bool x, .int .i64 i, .bool false, .int .i64 n, .slice a m c]] w fun e w' => ∃ (A' : Option Addr) (c' : Nat), e = .returned (.agg #[.bool x, .int .i64 (idm x i), .bool false, .int .i64 k, .slice A' k c']) ∧ k ≤ c' ∧ Row .u8 w' w'.heap.size A' (dl.take k) ∧ InP P A' k ∧ Below w.heap.size w w' := by
  obtain ⟨i0, hi, hz0, hz1, hz2⟩ := info_parts Tryz.infoU8
  obtain ⟨u, hu⟩ : ∃ u, bits .and .i64 i 536870911 = u := ⟨_, rfl⟩
  obtain ⟨u2, hu2⟩ : ∃ u, bits .and .i64 i 2047 = u := ⟨_, rfl⟩
  obtain ⟨z, hz⟩ : ∃ z, bits .and .i64 n 15 = z := ⟨_, rfl⟩
  obtain ⟨z8, hz8⟩ : ∃ z8, min z 8 = z8 := ⟨_, rfl⟩
  have hk2 : min (m : Int) 8 = (k : Int) := by omega
  have hkc : k ≤ c := by omega
  have hk8 : k ≤ 8 := by omega
  have hkm : k ≤ m := by omega
  have hrow : Row .u8 w w.heap.size a (dl.take k) := by
    have := h.sub_ 0 k (Nat.zero_le _) (by rw [hl]; exact hkm) (A' := a) (fun _ => by cases a <;> simp [Addr.add])
    simpa using this
  have hlk : (dl.take k).length = k := by rw [List.length_take, hl]; omega
  have HD := Lib.hid (And.intro hlk hl)
  clear hlk hl hk h
  cases x
  · rw [show idm false i = u2 from hu2]
    go_enter Tryz.func33, Tryz.ntmps33
    go_wp2_with (at_builtin; refine wpList_append_row _ .u8 rfl _ _ 32 rfl (w.heap.size + 1 + 1 + 1) 5 i0 (.int .u8 0) 1 Tryz.underlying32 hi hz0 hz1 hz2 rfl _ 0 [] rfl (own_empty .u8 _ _ _ _ (by simp) (by simp)) a k c w.heap.size (dl.take k) rfl HD.out.1 (hrow.below (below4 _ _ _ _ _)) (by unfold maxLen; omega) (by omega) (by simp) ?_; intro A2 c2 w2 hown2 hc2 hB2; have hF := (hB2.block (w.heap.size + 1 + 1) (by omega)).trans (blk3 _ _ _ _ _); have hR := (hB2.block (w.heap.size + 1) (by omega)).trans (blk2' _ _ _ _ _); have hBB := (below4 w _ _ _ _).trans (hB2.mono (by omega)); obtain ⟨⟨F0, F1, F2, F3, F4⟩, f0, f1, f2, f3, f4⟩ := cells5 hF; obtain ⟨⟨R0, R1, R2, R3, R4⟩, r0, r1, r2, r3, r4⟩ := cells5 hR)
    have hlt := hB2.size
    have g := (grown_setAt w2 (w.heap.size + 1 + 1) 4 (.slice A2 k c2)).trans (grown_setAt _ (w.heap.size + 1 + 1) 3 (.int .i64 k))
    have hR3 := (g.block (w.heap.size + 1) (Array.getElem?_eq_some_iff.1 hR).1 (by simp)).trans hR
    have g5 := set5_grown ((w2.setCell ⟨w.heap.size + 1 + 1, 4, none⟩ (.slice A2 k c2)).setCell ⟨w.heap.size + 1 + 1, 3, none⟩ (.int .i64 k)) (w.heap.size + 1) (.bool false) (.int .i64 u2) (.bool false) (.int .i64 k) (.slice A2 k c2)
    have hown5 := own_grown (own_grown hown2 g (by omega)) g5 (by omega)
    refine bodyPost_ret (v := .agg #[.bool false, .int .i64 u2, .bool false, .int .i64 k, .slice A2 k c2]) (results_fr rfl _ rfl (set5_obj hR3 _ _ _ _ _)) rfl ?_
    refine ⟨A2, c2, rfl, by omega, ?_, own_inP hown5 (fun b hb => hP b (by omega)) k, below_of_grown' (below_of_grown' hBB g (by omega)) g5 (by omega)⟩
    have hr5 := Row.own hown5
    rw [List.nil_append] at hr5
    unfold set5 at hr5
    exact hr5
  · rw [show idm true i = u from hu]
    go_enter Tryz.func33, Tryz.ntmps33
    go_wp2_with (at_builtin; refine wpList_append_row _ .u8 rfl _ _ 32 rfl (w.heap.size + 1 + 1 + 1) 5 i0 (.int .u8 0) 1 Tryz.underlying32 hi hz0 hz1 hz2 rfl _ 0 [] rfl (own_empty .u8 _ _ _ _ (by simp) (by simp)) a k c w.heap.size (dl.take k) rfl HD.out.1 (hrow.below (below4 _ _ _ _ _)) (by unfold maxLen; omega) (by omega) (by simp) ?_; intro A2 c2 w2 hown2 hc2 hB2; have hF := (hB2.block (w.heap.size + 1 + 1) (by omega)).trans (blk3 _ _ _ _ _); have hR := (hB2.block (w.heap.size + 1) (by omega)).trans (blk2' _ _ _ _ _); have hBB := (below4 w _ _ _ _).trans (hB2.mono (by omega)); obtain ⟨⟨F0, F1, F2, F3, F4⟩, f0, f1, f2, f3, f4⟩ := cells5 hF; obtain ⟨⟨R0, R1, R2, R3, R4⟩, r0, r1, r2, r3, r4⟩ := cells5 hR)
    have hlt := hB2.size
    have g := (grown_setAt w2 (w.heap.size + 1 + 1) 4 (.slice A2 k c2)).trans (grown_setAt _ (w.heap.size + 1 + 1) 3 (.int .i64 k))
    have hR3 := (g.block (w.heap.size + 1) (Array.getElem?_eq_some_iff.1 hR).1 (by simp)).trans hR
    have g5 := set5_grown ((w2.setCell ⟨w.heap.size + 1 + 1, 4, none⟩ (.slice A2 k c2)).setCell ⟨w.heap.size + 1 + 1, 3, none⟩ (.int .i64 k)) (w.heap.size + 1) (.bool true) (.int .i64 u) (.bool false) (.int .i64 k) (.slice A2 k c2)
    have hown5 := own_grown (own_grown hown2 g (by omega)) g5 (by omega)
    refine bodyPost_ret (v := .agg #[.bool true, .int .i64 u, .bool false, .int .i64 k, .slice A2 k c2]) (results_fr rfl _ rfl (set5_obj hR3 _ _ _ _ _)) rfl ?_
    refine ⟨A2, c2, rfl, by omega, ?_, own_inP hown5 (fun b hb => hP b (by omega)) k, below_of_grown' (below_of_grown' hBB g (by omega)) g5 (by omega)⟩
    have hr5 := Row.own hown5
    rw [List.nil_append] at hr5
    unfold set5 at hr5
    exact hr5
theorem right_ok10 {x : Bool} {U : Nat} (hU : idOk x U) (r : Bool) (z m : Nat) (hz : z ≤ 8) (hm : m = if r then 0 else z) : rightV x U r z m = true := by
  unfold idOk at hU
  simp only [rightV, decide_eq_true_eq]
  subst hm
  refine ⟨by omega, ?_, by omega, by omega, by cases r <;> simp⟩
  cases x <;> simp at hU ⊢ <;> omega
def madeC (F : FC) : FC := if F.r then ⟨F.x, idm F.x F.i, true, min (bits .and .i64 F.n 15) 8, []⟩ else ⟨F.x, idm F.x F.i, false, (min F.d.length 8 : Nat), F.d.take (min F.d.length 8)⟩
theorem made_right (F : FC) : rightC (madeC F) = true := by
  obtain ⟨U, h1, h2⟩ := idm_ok F.x F.i
  unfold madeC
  cases hr : F.r
  · simp only [Bool.false_eq_true, if_false]
    unfold rightC
    dsimp only
    rw [h1]
    exact right_ok10 h2 false _ _ (by omega) (by rw [List.length_take]; simp)
  · simp only [if_true]
    unfold rightC
    dsimp only
    rw [h1]
    obtain ⟨V, h3, h4⟩ := and_mask F.n 15 (by omega)
    have h3' : bits .and .i64 F.n 15 = V := h3
    rw [h3']
    obtain ⟨z, hz⟩ : ∃ z : Nat, min (V : Int) 8 = z := ⟨min V 8, by omega⟩
    rw [hz]
    exact right_ok10 h2 true z 0 (by omega) (by simp)
theorem made6_c {w : World} {P Q : Nat → Prop} {f : FV} {F : FC} (h : FIs w P f F) (hP : ∀ b, w.heap.size ≤ b → Q b) (M : FC) (hM : madeC F = M) :
    Calls Tryz.prog 33 #[f.v] w fun e w' => ∃ f' : FV, e = .returned f'.v ∧ FIs w' Q f' M ∧ Below w.heap.size w w' := by
  subst hM
  obtain ⟨x, i, r, n, a, m, c⟩ := f
  obtain ⟨hx, hi, hr, hn, hl, hc, hb, hby, hrow, hin⟩ := h
  dsimp only at hx hi hr hn hl hc hb hby hrow hin
  unfold madeC
  rw [← hr, ← hx, ← hi, ← hn]
  cases r
  · obtain ⟨k, hk⟩ : ∃ k : Nat, min m 8 = k := ⟨_, rfl⟩
    refine (made_d10 x i n a m c F.d hl w hrow hb hc Q hP k hk).mono ?_
    rintro e w' ⟨A', c', rfl, h2, h3, h4, h5⟩
    refine ⟨⟨x, idm x i, false, k, A', k, c'⟩, rfl, ?_, h5⟩
    rw [hl, hk, if_neg (by decide)]
    exact ⟨rfl, rfl, rfl, rfl, (by rw [List.length_take, hl]; show min k m = k; omega), h2, (by show k ≤ maxLen; unfold maxLen; omega), (fun u hu => hby u (List.mem_of_mem_take hu)), h3, h4⟩
  · refine (made_r10 x i n a m c w _ rfl).mono ?_
    rintro e w' ⟨rfl, h4⟩
    refine ⟨⟨x, idm x i, true, _, none, 0, 0⟩, rfl, ?_, h4⟩
    rw [if_pos rfl]
    exact ⟨rfl, rfl, rfl, rfl, rfl, Nat.le_refl _, Nat.zero_le _, (fun u hu => by simp at hu), .inl rfl, fun h => absurd h (Nat.lt_irrefl 0)⟩
end Go.Proofs.YtcifjccojmfpaaaGreat

namespace Go.Proofs.YtcifjccojmfpaaaGreat
open Go.RowKit
set_option linter.unusedVariables false
set_option linter.unusedSimpArgs false
theorem fsis_off {w w' : World} {P : Nat → Prop} {L : List Nat} {A A' : Option Addr} {n c : Nat} {fs : List FV} {Fs : List FC} (h : FsIs w (Off P (L ++ ownL A)) fs Fs) (g : w.grownBy w' (Value.slice A n c).ownBlock) (e : ownL A' = ownL A ∨ ownL A' = [w.heap.size]) : FsIs w' (Off P (L ++ ownL A')) fs Fs :=
  beside_off (Rp := fun w P => FsIs w P fs Fs) (fun _ _ _ h hq => h.mono hq) (fun _ _ _ h b => h.to b) (fun _ _ _ _ h g hX => h.grow g hX) h g e
theorem fis_off {w w' : World} {P : Nat → Prop} {L : List Nat} {A A' : Option Addr} {n c : Nat} {f : FV} {F : FC} (h : FIs w (Off P (L ++ ownL A)) f F) (g : w.grownBy w' (Value.slice A n c).ownBlock) (e : ownL A' = ownL A ∨ ownL A' = [w.heap.size]) : FIs w' (Off P (L ++ ownL A')) f F :=
  beside_off (Rp := fun w P => FIs w P f F) (fun _ _ _ h hq => h.mono hq) (fun _ _ _ h b => h.to b) (fun _ _ _ _ h g hX => h.grow g hX) h g e
theorem off_upF {P : Nat → Prop} {w : World} {s base : Nat} {A : Option Addr} {n c : Nat} {fs : List FV} (h : FOwn w base A n c fs) {L : List Nat} (hL : ∀ Y ∈ L, Y < w.heap.size) (hP : ∀ b, s ≤ b → P b) (hs : s ≤ w.heap.size) : ∀ b, w.heap.size ≤ b → Off P (L ++ ownL A) b :=
  fun b hb => ⟨hP b (Nat.le_trans hs hb), out_up (fun Y hY => by rcases List.mem_append.1 hY with h' | h'; exact hL Y h'; exact ownL_lt h Y h') b hb⟩
theorem off_baseF {P : Nat → Prop} {L : List Nat} {s : Nat} : ∀ b, b < s → Off P L b → P b := fun b _ h => h.1
theorem frames6_c {w : World} {P Q : Nat → Prop} {A : Option Addr} {n c : Nat} {Fs : List FC} (h : FSl w P A n c Fs) (M : Nat) (hM : M ≤ 100) (hP : ∀ b, w.heap.size ≤ b → Q b) :
    Calls Tryz.prog 62 #[.slice A n c, .int .i64 M] w fun e w' => ∃ (A' : Option Addr) (m c' : Nat), e = .returned (.slice A' m c') ∧ FSl w' Q A' m c' ((Fs.take M).map madeC) ∧ Below w.heap.size w w' := by
  have hbig := h.big
  unfold maxLen at hbig
  have Hl := Lib.hid h.len
  have fin : ∀ (k : Nat) (wr : World) (A' : Option Addr) (c' : Nat) (gs : List FV), (k = n ∨ k = M) → k ≤ n → k ≤ M → FOwn wr w.heap.size A' k c' gs → FsIs wr (Off Q ([] ++ ownL A')) gs ((Fs.take k).map madeC) → FSl wr Q A' k c' ((Fs.take M).map madeC) := by
    intro k wr A' c' gs he hk hkM ho hf
    have e : Fs.take k = Fs.take M := by
      rcases he with rfl | rfl
      · rw [List.take_of_length_le (by rw [Hl.out]; exact Nat.le_refl _), List.take_of_length_le (by rw [Hl.out]; exact hkM)]
      · rfl
    rw [← e]
    exact FSl.own ho (hf.mono off_baseF) (by omega) hP
  have Hfin := Lib.hid fin
  clear fin
  go_enter Tryz.func62, Tryz.ntmps62
  go_wp2_with fail
  go_loopw [5, 6] (fun o i wr => ∃ (k c' : Nat) (A' : Option Addr) (gs : List FV), k ≤ n ∧ k ≤ M ∧ i = .int .i64 k ∧ o = .slice A' k c' ∧ FOwn wr w.heap.size A' k c' gs ∧ FsIs wr (Off Q ([] ++ ownL A')) gs ((Fs.take k).map madeC) ∧ Below w.heap.size w wr)
    (fun _ i _ => n - (intOf i).toNat)
  case atStart => exact ⟨0, 0, _, [], Nat.zero_le _, Nat.zero_le _, rfl, rfl, fown_empty w _ _ rfl (Nat.le_refl _), FsIs.nil, (Below.refl _ _).alloc (Nat.le_refl _) _⟩
  case round =>
    obtain ⟨k, c', A', gs, hk, hkM, rfl, rfl, hown, hgs, hB⟩ := hrel
    have hsz := hB.size
    by_cases hlt : k < n
    · by_cases hltM : k < M
      · obtain ⟨ad, f, rfl, ⟨h0, h1, h2, h3, h4⟩, hf, _⟩ := fsl_getD (h.to hB) hlt
        obtain ⟨F, hF⟩ : ∃ F, Fs.getD k zeroF = F := ⟨_, rfl⟩
        rw [hF] at hf
        have HF := Lib.hid (show (Fs.take (k + 1)).map madeC = (Fs.take k).map madeC ++ [madeC F] by
          have hk2 : k < Fs.length := by rw [Hl.out]; exact hlt
          rw [List.take_add_one, List.getElem?_eq_getElem hk2, List.map_append, ← hF]
          simp [List.getD, List.getElem?_eq_getElem hk2])
        clear hF
        go_wp2_with fail
        refine (made6_c hf (off_upF hown (L := []) (fun _ h => by cases h) hP hsz) (madeC F) rfl).mono ?_
        rintro e w1 ⟨g, rfl, hg, hB1⟩
        clear h0 h1 h2 h3 h4 hf
        have hs1 : w.heap.size ≤ w1.heap.size := Nat.le_trans hsz hB1.size
        have hownx := own_to (own_to hown hB1) (below_alloc1 w1 (.cells #[.bool g.x, .int .i64 g.i, .bool g.r, .int .i64 g.n, .slice g.a g.m g.c] 34))
        have hgsx := (hgs.to hB1).to (below_alloc1 w1 (.cells #[.bool g.x, .int .i64 g.i, .bool g.r, .int .i64 g.n, .slice g.a g.m g.c] 34))
        have hgx := hg.to (below_alloc1 w1 (.cells #[.bool g.x, .int .i64 g.i, .bool g.r, .int .i64 g.n, .slice g.a g.m g.c] 34))
        go_wp2_with (at_builtin; refine wpList_append_frO _ rfl _ _ rfl w.heap.size A' k c' gs rfl hownx _ 1 _ _ [g] rfl rfl (FRow.lit1 w1 g rfl) (by omega) (by simp; omega) ?_; intro A2 c2 w2 hown2 hc2 hg2 he2 hB2)
        have hBB : Below w.heap.size w w2 := ((hB.trans (hB1.mono hsz)).alloc hs1 _).trans hB2
        refine ⟨⟨k + 1, c2, A2, gs ++ [g], by omega, by omega, by go_num, rfl, hown2, ?_, hBB⟩, by simp [intOf]; omega⟩
        rw [HF.out]
        exact (fsis_off hgsx hg2 he2).append (FsIs.one (fis_off hgx hg2 he2))
      · obtain rfl : k = M := by omega
        go_wp2
        go_ret
        exact ⟨A', k, c', rfl, Hfin.out k _ A' c' gs (.inr rfl) (by omega) (Nat.le_refl _) hown hgs, hB⟩
    · obtain rfl : k = n := by omega
      go_wp2
      go_ret
      exact ⟨A', k, c', rfl, Hfin.out k _ A' c' gs (.inl rfl) (Nat.le_refl _) hkM hown hgs, hB⟩
theorem frames6_q {w : World} {P Q : Nat → Prop} {A : Option Addr} {n c : Nat} {Fs : List FC} (h : FSl w P A n c Fs) (M : Nat) (hM : M ≤ 100) (hP : ∀ b, w.heap.size ≤ b → Q b) (G : List FC) (hG : (Fs.take M).map madeC = G) :
    Calls Tryz.prog 62 #[.slice A n c, .int .i64 M] w fun e w' => ∃ (A' : Option Addr) (m c' : Nat), e = .returned (.slice A' m c') ∧ FSl w' Q A' m c' G ∧ Below w.heap.size w w' := by
  subst hG; exact frames6_c h M hM hP
end Go.Proofs.YtcifjccojmfpaaaGreat

namespace Go.Proofs.YtcifjccojmfpaaaGreat
open Go.RowKit
set_option linter.unusedVariables false
set_option linter.unusedSimpArgs false
def QH (Q : Nat → Prop) (s : Nat) : Nat → Prop := fun b => Q b ∧ s ≤ b
theorem offq_not {Q : Nat → Prop} {L : List Nat} {s X : Nat} (h : X < s) : ¬ Off (QH Q s) L X := fun e => by have := e.1.2; omega
theorem shL : Shape FL.cs 3 := ⟨fun _ => rfl, fun v u hu => by simp only [FL.cs, List.mem_cons, List.not_mem_nil, or_false] at hu; rcases hu with rfl | rfl | rfl <;> rfl, by decide⟩
theorem Tryz.infoL : GInfo 45 85 3 24 := ⟨Tryz.underlying45, ⟨.agg #[.bool false, .int .i64 0, .int .i64 0], by kernel_rfl, by kernel_rfl⟩, by decide⟩
theorem fsl_off {w w' : World} {P : Nat → Prop} {L : List Nat} {A A' B : Option Addr} {n c k d : Nat} {Fs : List FC} (h : FSl w (Off P (L ++ ownL A)) B k d Fs) (g : w.grownBy w' (Value.slice A n c).ownBlock) (e : ownL A' = ownL A ∨ ownL A' = [w.heap.size]) : FSl w' (Off P (L ++ ownL A')) B k d Fs :=
  beside_off (Rp := fun w P => FSl w P B k d Fs) (fun _ _ _ h hq => h.mono hq) (fun _ _ _ h b => h.to b) (fun _ _ _ _ h g hX => h.grow g hX) h g e
theorem set1_obj7 {w : World} {F : Nat} {a b c d e f g : Value} {t : TypeId} (h : w.heap[F]? = some (.cells #[a, b, c, d, e, f, g] t)) (b' : Value) :
    (w.setCell ⟨F, 1, none⟩ b').heap[F]? = some (.cells #[a, b', c, d, e, f, g] t) := by
  simp [World.setCell, Array.getElem?_modify, h]
theorem right_wide {f : FL} (h : refRightP f = true) : -9223372036854775808 ≤ f.m ∧ f.m < 9223372036854775808 := by
  unfold refRightP at h
  simp only [Bool.and_eq_true, decide_eq_true_eq] at h
  have : mostL f.x ≤ 536870912 := by unfold mostL; split <;> omega
  omega
theorem made_rightFs (Fs : List FC) (m : Nat) : ∀ F ∈ (Fs.take m).map madeC, rightC F = true := by
  intro F hF
  obtain ⟨G, _, rfl⟩ := List.mem_map.1 hF
  exact made_right G
theorem FSlx.to {w w' : World} {P : Nat → Prop} {A : Option Addr} {n c : Nat} {Fs : List FC} (h : FSl w P A n c Fs) (b : Below w.heap.size w w') : FSl w' P A n c Fs := h.to b
theorem off_one {Q : Nat → Prop} {X s : Nat} (h : s ≤ X) : ∀ b, b < s → Q b → Off Q [X] b := fun b hb hq => ⟨hq, fun Y hY => by simp at hY; omega⟩
theorem off_up1 {Q : Nat → Prop} {X s t : Nat} (hP : ∀ b, s ≤ b → Q b) (hs : s ≤ t) (hX : X < t) : ∀ b, t ≤ b → Off Q [X] b := fun b hb => ⟨hP b (Nat.le_trans hs hb), fun Y hY => by simp at hY; omega⟩
theorem FLOwn.grow {w w' : World} {base : Nat} {A : Option Addr} {n c X : Nat} {fl : List FL} (h : LOwn w base A n c fl) (g : w.grownBy w' (some X)) (hX : X < base) : LOwn w' base A n c fl :=
  h.kept g (by
    cases e : (Value.slice A n c).ownBlock with
    | none => exact .inl rfl
    | some k => exact .inr (fun e' => by have := (h.lt _ e).1; have := Option.some.inj e'; omega))
theorem made10_c {w : World} {P Q : Nat → Prop} {n : NV} {N : NC} (h : NIs w P n N) (M : Nat) (hM : M ≤ 100) (hP : ∀ b, w.heap.size ≤ b → Q b) :
    Calls Tryz.prog 38 #[n.v, .int .i64 M] w fun e w' => ∃ (n' : NV) (N' : NC), e = .returned n'.v ∧ NIs w' Q n' N' ∧ OkN N' ∧ (N'.q.length ≤ M ∧ N'.g.length ≤ M) ∧ Below w.heap.size w w' := by
  obtain ⟨qa, qm, qc, la, lm, lc, kk0, ga, gm, gc⟩ := n
  have hlw := h.l.len
  have hlb := h.l.big
  have hhq := h.q
  have hhl := h.l
  have hhg := h.g
  dsimp only at hlw hlb hhq hhl hhg
  unfold maxLen at hlb
  clear h
  obtain ⟨M1, hM1⟩ : ∃ M1 : Nat, min M 16 = M1 := ⟨_, rfl⟩
  obtain ⟨M2, hM2⟩ : ∃ M2 : Nat, min M 64 = M2 := ⟨_, rfl⟩
  have m1 : min (M : Int) 16 = (M1 : Int) := by omega
  have m2 : min (M : Int) 64 = (M2 : Int) := by omega
  have hM1a : M1 ≤ 16 := by omega
  have hM1b : M1 ≤ M := by omega
  have hM2a : M2 ≤ 64 := by omega
  clear hM1 hM2
  obtain ⟨Q1, hQ1⟩ : ∃ Q1, (N.q.take M1).map madeC = Q1 := ⟨_, rfl⟩
  obtain ⟨G1, hG1⟩ : ∃ G1, (N.g.take M2).map madeC = G1 := ⟨_, rfl⟩
  have HQ := Lib.hid (show (∀ F ∈ Q1, rightC F = true) ∧ Q1.length ≤ M1 from ⟨by rw [← hQ1]; exact made_rightFs _ _, by rw [← hQ1]; simp; omega⟩)
  have HG := Lib.hid (show (∀ F ∈ G1, rightC F = true) ∧ G1.length ≤ M2 from ⟨by rw [← hG1]; exact made_rightFs _ _, by rw [← hG1]; simp; omega⟩)
  have HQ1 := Lib.hid hQ1
  have HG1 := Lib.hid hG1
  clear hQ1 hG1
  obtain ⟨w0, hw0⟩ : ∃ w0, ((w.alloc (.cells #[.slice qa qm qc, .slice la lm lc, .int .i64 kk0.t, .int .i64 kk0.r, .int .i64 kk0.s, .int .i64 kk0.q, .slice ga gm gc] 49)).alloc (.cells #[.slice none 0 0, .slice none 0 0, .int .i64 0, .int .i64 0, .int .i64 0, .int .i64 0, .slice none 0 0] 49)) = w0 := ⟨_, rfl⟩
  have hT0 : Below w.heap.size w w0 := by rw [← hw0]; exact below_then (below_alloc1 _ _) (below_alloc1 _ _)
  have hn0 : w0.heap[w.heap.size]? = some (.cells #[.slice qa qm qc, .slice la lm lc, .int .i64 kk0.t, .int .i64 kk0.r, .int .i64 kk0.s, .int .i64 kk0.q, .slice ga gm gc] 49) := by rw [← hw0]; exact block_below (below_alloc1 _ _) (World.alloc_heap_new _ _)
  have hr0 : w0.heap[(w.heap.size + 1)]? = some (.cells #[.slice none 0 0, .slice none 0 0, .int .i64 0, .int .i64 0, .int .i64 0, .int .i64 0, .slice none 0 0] 49) := by rw [← hw0]; exact alloc_at _ _ (by simp)
  have hs0 : w0.heap.size = w.heap.size + 2 := by rw [← hw0]; simp
  have Hs0 := Lib.hid hs0
  clear hs0
  have hln := (Array.getElem?_eq_some_iff.1 hn0).1
  obtain ⟨nc0, nc1, nc2, nc3, nc4, nc5, nc6⟩ := cells7' hn0
  have hlr := (Array.getElem?_eq_some_iff.1 hr0).1
  obtain ⟨rc0, rc1, rc2, rc3, rc4, rc5, rc6⟩ := cells7' hr0
  go_enter Tryz.func38, Tryz.ntmps38
  go_wp2_with fail
  clear hln nc0 nc1 nc2 nc3 nc4 nc5 nc6 hlr rc0 rc1 rc2 rc3 rc4 rc5 rc6
  clear hw0
  have hZ0 := Below.refl w0.heap.size w0
  have hPq : ∀ b, w0.heap.size ≤ b → QH Q (w.heap.size + 2) b := fun b hb => ⟨hP b (by have := Hs0.out; omega), by have := Hs0.out; omega⟩
  have hq0 := hhq.to hT0
  have hg0 := hhg.to hT0
  have hltn : w.heap.size < w0.heap.size := (Array.getElem?_eq_some_iff.1 hn0).1
  go_cut [5] from 9 to 21 (fun p wc => ∃ (X : Nat) (A1 A2 : Option Addr) (k1 c1 k2 c2 : Nat), p = .pointer (some ⟨X, 0, none⟩)  ∧ w0.heap.size ≤ X ∧ wc.heap[X]? = some (.cells #[.slice A1 k1 c1, .slice none 0 0, .int .i64 kk0.t, .int .i64 kk0.r, .int .i64 kk0.s, .int .i64 kk0.q, .slice A2 k2 c2] 49) ∧ FSl wc (Off (QH Q (w.heap.size + 2)) [X]) A1 k1 c1 Q1 ∧ FSl wc (Off (QH Q (w.heap.size + 2)) [X]) A2 k2 c2 G1 ∧ Below w0.heap.size w0 wc)
  case first =>
    refine wp_region_held_drew (S := fun W => (W.cell? ⟨w.heap.size, 0, none⟩ = some (.slice qa qm qc) ∧ W.cell? ⟨w.heap.size, 1, none⟩ = some (.slice la lm lc) ∧ W.cell? ⟨w.heap.size, 2, none⟩ = some (.int .i64 kk0.t) ∧ W.cell? ⟨w.heap.size, 3, none⟩ = some (.int .i64 kk0.r) ∧ W.cell? ⟨w.heap.size, 4, none⟩ = some (.int .i64 kk0.s) ∧ W.cell? ⟨w.heap.size, 5, none⟩ = some (.int .i64 kk0.q) ∧ W.cell? ⟨w.heap.size, 6, none⟩ = some (.slice ga gm gc))) (by kernel_rfl) (by exact cells7' (block_below (below_drew1 _) hn0)) (fun hHeld_ => ?_)
    refine wpAnyH_take' (i := 0) (v := ?vm1_0_0_) 9 rfl rfl (by kernel_rfl) (by kernel_rfl) (by kernel_rfl) (fun _ _ _ h => h) (Or.inl ⟨by kernel_rfl, ?hm1_0_0_⟩) (by assumption) ?rm1_0_0_
    case hm1_0_0_ => (intro W_ hS_; (try dsimp only at hS_); go_simp; (try (with_reducible rfl)))
    try simp only [Act.put, siA, scZ, scS]
    refine wpAnyH_take' (i := 1) (v := ?vm1_1_0_) 10 rfl rfl (by kernel_rfl) (by kernel_rfl) (by kernel_rfl) (fun _ _ _ h => h) (Or.inl ⟨by kernel_rfl, ?hm1_1_0_⟩) (by assumption) ?rm1_1_0_
    case hm1_1_0_ => (intro W_ hS_; (try dsimp only at hS_); go_simp; (try (with_reducible rfl)))
    try simp only [Act.put, siA, scZ, scS]
    refine wpAnyH_take' (i := 2) (v := ?vm1_2_0_) 11 rfl rfl (by kernel_rfl) (by kernel_rfl) (by kernel_rfl) (fun _ _ _ h => h) (Or.inl ⟨by kernel_rfl, ?hm1_2_0_⟩) (by assumption) ?rm1_2_0_
    case hm1_2_0_ => (intro W_ hS_; (try dsimp only at hS_); go_simp; (try (with_reducible rfl)))
    try simp only [Act.put, siA, scZ, scS]
    refine wpAnyH_take' (i := 3) (v := ?vm1_3_0_) 12 rfl rfl (by kernel_rfl) (by kernel_rfl) (by kernel_rfl) (fun _ _ _ h => h) (Or.inl ⟨by kernel_rfl, ?hm1_3_0_⟩) (by assumption) ?rm1_3_0_
    case hm1_3_0_ => (intro W_ hS_; (try dsimp only at hS_); go_simp; (try (with_reducible rfl)))
    try simp only [Act.put, siA, scZ, scS]
    refine wpAnyH_take' (i := 5) (v := ?vm1_5_0_) 14 rfl rfl (by kernel_rfl) (by kernel_rfl) (by kernel_rfl) (fun _ _ _ h => h) (Or.inl ⟨by kernel_rfl, ?hm1_5_0_⟩) (by assumption) ?rm1_5_0_
    case hm1_5_0_ => (intro W_ hS_; (try dsimp only at hS_); go_simp; (try (with_reducible rfl)))
    try simp only [Act.put, siA, scZ, scS]
    refine wpAnyH_take' (i := 6) (v := ?vm1_6_0_) 15 rfl rfl (by kernel_rfl) (by kernel_rfl) (by kernel_rfl) (fun _ _ _ h => h) (Or.inl ⟨by kernel_rfl, ?hm1_6_0_⟩) (by assumption) ?rm1_6_0_
    case hm1_6_0_ => (intro W_ hS_; (try dsimp only at hS_); go_simp; (try (with_reducible rfl)))
    try simp only [Act.put, siA, scZ, scS]
    refine wpAnyH_take' (i := 7) (v := ?vm1_7_0_) 16 rfl rfl (by kernel_rfl) (by kernel_rfl) (by kernel_rfl) (fun _ _ _ h => h) (Or.inl ⟨by kernel_rfl, ?hm1_7_0_⟩) (by assumption) ?rm1_7_0_
    case hm1_7_0_ => (intro W_ hS_; (try dsimp only at hS_); go_simp; (try (with_reducible rfl)))
    try simp only [Act.put, siA, scZ, scS]
    refine wpAnyH_take' (i := 8) (v := ?vm1_8_0_) 17 rfl rfl (by kernel_rfl) (by kernel_rfl) (by kernel_rfl) (fun _ _ _ h => h) (Or.inl ⟨by kernel_rfl, ?hm1_8_0_⟩) (by assumption) ?rm1_8_0_
    case hm1_8_0_ => (intro W_ hS_; (try dsimp only at hS_); go_simp; (try (with_reducible rfl)))
    try simp only [Act.put, siA, scZ, scS]
    refine wpAnyH_take' (i := 10) (v := ?vm1_10_0_) 19 rfl rfl (by kernel_rfl) (by kernel_rfl) (by kernel_rfl) (fun _ _ _ h => h) (Or.inl ⟨by kernel_rfl, ?hm1_10_0_⟩) (by assumption) ?rm1_10_0_
    case hm1_10_0_ => (intro W_ hS_; (try dsimp only at hS_); go_simp; (try (with_reducible rfl)))
    try simp only [Act.put, siA, scZ, scS]
    refine wpAnyH_take' (i := 11) (v := ?vm1_11_0_) 20 rfl rfl (by kernel_rfl) (by kernel_rfl) (by kernel_rfl) (fun _ _ _ h => h) (Or.inl ⟨by kernel_rfl, ?hm1_11_0_⟩) (by assumption) ?rm1_11_0_
    case hm1_11_0_ => (intro W_ hS_; (try dsimp only at hS_); go_simp; (try (with_reducible rfl)))
    try simp only [Act.put, siA, scZ, scS]
    refine wpAnyH_ready (rs := [4, 13]) (by kernel_rfl) (by simp) ?_
    refine (AllReadyH.cons rfl (fun K_ hK_ => ?_) (AllReadyH.cons rfl (fun K_ hK_ => ?_) AllReadyH.nil))
    · go_simp
      refine (frames6_q (FSlx.to hq0 (below_drew1 _)) M1 (by omega) (fun b hb => hPq b (Nat.le_trans (below_drew1 _).size hb)) Q1 HQ1.out).mono ?_
      rintro e wr4 ⟨A1, k1, c1, rfl, hx_, hBr4⟩
      go_wp2_with fail
      refine hK_.out _ _ (by exact cells7' (block_below hBr4 (block_below (below_drew1 _) hn0))) (fun hHeld_4_0 => ?_)
      clear hK_
      try simp only [Act.put, siA, scZ, scS]
      refine wpAnyH_ready (rs := [9, 13]) (by kernel_rfl) (by simp) ?_
      refine (AllReadyH.cons rfl (fun K_ hK_ => ?_) (AllReadyH.cons rfl (fun K_ hK_ => ?_) AllReadyH.nil))
      · go_simp
        refine (frames6_q (FSlx.to (FSlx.to hg0 (below_drew1 _)) hBr4) M2 (by omega) (fun b hb => hPq b (Nat.le_trans (below_then (below_drew1 _) hBr4).size hb)) G1 HG1.out).mono ?_
        rintro e wr9 ⟨A2, k2, c2, rfl, hy_, hBr9⟩
        go_wp2_with fail
        refine hK_.out _ _ (by exact cells7' (block_below hBr9 (block_below hBr4 (block_below (below_drew1 _) hn0)))) (fun hHeld_9_1 => ?_)
        clear hK_
        try simp only [Act.put, siA, scZ, scS]
        refine wpAnyH_take' (i := 12) (v := ?vm1_12_2_4_9) 21 rfl rfl (by kernel_rfl) (by kernel_rfl) (by kernel_rfl) (fun _ _ _ h => h) (Or.inl ⟨by kernel_rfl, ?hm1_12_2_4_9⟩) (by assumption) ?rm1_12_2_4_9
        case hm1_12_2_4_9 => (intro W_ hS_; (try dsimp only at hS_); go_simp; (try (with_reducible rfl)))
        try simp only [Act.put, siA, scZ, scS]
        refine wpAnyH_ready (rs := [13]) (by kernel_rfl) (by simp) ?_
        refine (AllReadyH.cons rfl (fun K_ hK_ => ?_) AllReadyH.nil)
        go_simp
        have hblk13 : (wr9.alloc (.cells #[.slice none 0 0, .slice none 0 0, .int .i64 0, .int .i64 0, .int .i64 0, .int .i64 0, .slice none 0 0] 49)).heap[wr9.heap.size]? = some (.cells #[.slice none 0 0, .slice none 0 0, .int .i64 0, .int .i64 0, .int .i64 0, .int .i64 0, .slice none 0 0] 49) := World.alloc_heap_new _ _
        go_wp2_with fail
        refine hK_.out _ _ (by exact cells7' (block_below (below_alloc1 _ _) (block_below hBr9 (block_below hBr4 (block_below (below_drew1 _) hn0))))) (fun hHeld_13_2 => ?_)
        clear hK_
        try simp only [Act.put, siA, scZ, scS]
        refine wpAnyH_ready (rs := [14]) (by kernel_rfl) (by simp) ?_
        refine (AllReadyH.cons rfl (fun K_ hK_ => ?_) AllReadyH.nil)
        go_simp
        go_wp2_with fail
        refine hK_.out _ _ (by exact cells7' (block_below (below_alloc1 _ _) (block_below hBr9 (block_below hBr4 (block_below (below_drew1 _) hn0))))) (fun hHeld_14_3 => ?_)
        clear hK_
        try simp only [Act.put, siA, scZ, scS]
        refine wpAnyH_done (by kernel_rfl) ?_ _
        go_wp2_with fail
        go_meet
        exact ⟨wr9.heap.size, A1, A2, k1, c1, k2, c2, rfl, (below_then (below_then (below_drew1 _) hBr4) hBr9).size, World.alloc_heap_new _ _, (FSl.to ((FSl.to hx_ hBr9).mono (off_one (Nat.le_refl _))) (below_alloc1 _ _)), (FSl.to (hy_.mono (off_one (Nat.le_refl _))) (below_alloc1 _ _)), (below_then (below_then (below_then (below_drew1 _) hBr4) hBr9) (below_alloc1 _ _))⟩
      · go_simp
        have hblk13 : (wr4.alloc (.cells #[.slice none 0 0, .slice none 0 0, .int .i64 0, .int .i64 0, .int .i64 0, .int .i64 0, .slice none 0 0] 49)).heap[wr4.heap.size]? = some (.cells #[.slice none 0 0, .slice none 0 0, .int .i64 0, .int .i64 0, .int .i64 0, .int .i64 0, .slice none 0 0] 49) := World.alloc_heap_new _ _
        go_wp2_with fail
        refine hK_.out _ _ (by exact cells7' (block_below (below_alloc1 _ _) (block_below hBr4 (block_below (below_drew1 _) hn0)))) (fun hHeld_13_1 => ?_)
        clear hK_
        try simp only [Act.put, siA, scZ, scS]
        refine wpAnyH_ready (rs := [9]) (by kernel_rfl) (by simp) ?_
        refine (AllReadyH.cons rfl (fun K_ hK_ => ?_) AllReadyH.nil)
        go_simp
        refine (frames6_q (FSlx.to (FSlx.to (FSlx.to hg0 (below_drew1 _)) hBr4) (below_alloc1 _ _)) M2 (by omega) (off_up1 hPq (below_then (below_then (below_drew1 _) hBr4) (below_alloc1 _ _)).size (Array.getElem?_eq_some_iff.1 hblk13).1) G1 HG1.out).mono ?_
        rintro e wr9 ⟨A2, k2, c2, rfl, hy_, hBr9⟩
        have hblk9 := block_below hBr9 hblk13
        go_wp2_with fail
        refine hK_.out _ _ (by exact cells7' (block_below hBr9 (block_below (below_alloc1 _ _) (block_below hBr4 (block_below (below_drew1 _) hn0))))) (fun hHeld_9_2 => ?_)
        clear hK_
        try simp only [Act.put, siA, scZ, scS]
        refine wpAnyH_take' (i := 12) (v := ?vm1_12_3_4_13_9) 21 rfl rfl (by kernel_rfl) (by kernel_rfl) (by kernel_rfl) (fun _ _ _ h => h) (Or.inl ⟨by kernel_rfl, ?hm1_12_3_4_13_9⟩) (by assumption) ?rm1_12_3_4_13_9
        case hm1_12_3_4_13_9 => (intro W_ hS_; (try dsimp only at hS_); go_simp; (try (with_reducible rfl)))
        try simp only [Act.put, siA, scZ, scS]
        refine wpAnyH_ready (rs := [14]) (by kernel_rfl) (by simp) ?_
        refine (AllReadyH.cons rfl (fun K_ hK_ => ?_) AllReadyH.nil)
        obtain ⟨⟨z0, z1, z2, z3, z4, z5, z6⟩, y0, y1, y2, y3, y4, y5, y6⟩ := cells7 hblk9
        go_simp
        go_wp2_with fail
        clear z0 z1 z2 z3 z4 z5 z6 y0 y1 y2 y3 y4 y5 y6
        refine hK_.out _ _ (by have hle_ := (below_then (below_drew1 _) hBr4).size; exact cells7' (other_g (set7_grown _ (wr4.heap.size) _ _ _ _ _ _ _) (block_below hBr9 (block_below (below_alloc1 _ _) (block_below hBr4 (block_below (below_drew1 _) hn0)))) (by omega))) (fun hHeld_14_3 => ?_)
        clear hK_
        try simp only [Act.put, siA, scZ, scS]
        refine wpAnyH_done (by kernel_rfl) ?_ _
        go_wp2_with fail
        go_meet
        exact ⟨wr4.heap.size, A1, A2, k1, c1, k2, c2, rfl, (below_then (below_drew1 _) hBr4).size, set7_obj hblk9 _ _ _ _ _ _ _, (FSl.grow (FSl.to (FSl.to (hx_.mono (off_one (Nat.le_refl _))) (below_alloc1 _ _)) hBr9) (set7_grown _ _ _ _ _ _ _ _ _) (off_not (by simp))), (FSl.grow hy_ (set7_grown _ _ _ _ _ _ _ _ _) (off_not (by simp))), below_g (below_then (below_then (below_then (below_drew1 _) hBr4) (below_alloc1 _ _)) hBr9) (set7_grown _ _ _ _ _ _ _ _ _) ((below_then (below_drew1 _) hBr4).size)⟩
    · go_simp
      have hblk13 : (w0.alloc (.cells #[.slice none 0 0, .slice none 0 0, .int .i64 0, .int .i64 0, .int .i64 0, .int .i64 0, .slice none 0 0] 49)).drew.heap[w0.heap.size]? = some (.cells #[.slice none 0 0, .slice none 0 0, .int .i64 0, .int .i64 0, .int .i64 0, .int .i64 0, .slice none 0 0] 49) := World.alloc_heap_new w0 _
      go_wp2_with fail
      refine hK_.out _ _ (by exact cells7' (block_below (below_drew1 _) (block_below (below_alloc1 _ _) hn0))) (fun hHeld_13_0 => ?_)
      clear hK_
      try simp only [Act.put, siA, scZ, scS]
      refine wpAnyH_ready (rs := [4]) (by kernel_rfl) (by simp) ?_
      refine (AllReadyH.cons rfl (fun K_ hK_ => ?_) AllReadyH.nil)
      go_simp
      refine (frames6_q (FSlx.to (FSlx.to hq0 (below_alloc1 _ _)) (below_drew1 _)) M1 (by omega) (off_up1 hPq (below_then (below_alloc1 _ _) (below_drew1 _)).size (Array.getElem?_eq_some_iff.1 hblk13).1) Q1 HQ1.out).mono ?_
      rintro e wr4 ⟨A1, k1, c1, rfl, hx_, hBr4⟩
      have hblk4 := block_below hBr4 hblk13
      go_wp2_with fail
      refine hK_.out _ _ (by exact cells7' (block_below hBr4 (block_below (below_drew1 _) (block_below (below_alloc1 _ _) hn0)))) (fun hHeld_4_1 => ?_)
      clear hK_
      try simp only [Act.put, siA, scZ, scS]
      refine wpAnyH_ready (rs := [9]) (by kernel_rfl) (by simp) ?_
      refine (AllReadyH.cons rfl (fun K_ hK_ => ?_) AllReadyH.nil)
      go_simp
      refine (frames6_q (FSlx.to (FSlx.to (FSlx.to hg0 (below_alloc1 _ _)) (below_drew1 _)) hBr4) M2 (by omega) (off_up1 hPq (below_then (below_then (below_alloc1 _ _) (below_drew1 _)) hBr4).size (Array.getElem?_eq_some_iff.1 hblk4).1) G1 HG1.out).mono ?_
      rintro e wr9 ⟨A2, k2, c2, rfl, hy_, hBr9⟩
      have hblk9 := block_below hBr9 hblk4
      go_wp2_with fail
      refine hK_.out _ _ (by exact cells7' (block_below hBr9 (block_below hBr4 (block_below (below_drew1 _) (block_below (below_alloc1 _ _) hn0))))) (fun hHeld_9_2 => ?_)
      clear hK_
      try simp only [Act.put, siA, scZ, scS]
      refine wpAnyH_take' (i := 12) (v := ?vm1_12_3_13_4_9) 21 rfl rfl (by kernel_rfl) (by kernel_rfl) (by kernel_rfl) (fun _ _ _ h => h) (Or.inl ⟨by kernel_rfl, ?hm1_12_3_13_4_9⟩) (by assumption) ?rm1_12_3_13_4_9
      case hm1_12_3_13_4_9 => (intro W_ hS_; (try dsimp only at hS_); go_simp; (try (with_reducible rfl)))
      try simp only [Act.put, siA, scZ, scS]
      refine wpAnyH_ready (rs := [14]) (by kernel_rfl) (by simp) ?_
      refine (AllReadyH.cons rfl (fun K_ hK_ => ?_) AllReadyH.nil)
      obtain ⟨⟨z0, z1, z2, z3, z4, z5, z6⟩, y0, y1, y2, y3, y4, y5, y6⟩ := cells7 hblk9
      go_simp
      go_wp2_with fail
      clear z0 z1 z2 z3 z4 z5 z6 y0 y1 y2 y3 y4 y5 y6
      refine hK_.out _ _ (by exact cells7' (other_g (set7_grown _ (w0.heap.size) _ _ _ _ _ _ _) (block_below hBr9 (block_below hBr4 (block_below (below_drew1 _) (block_below (below_alloc1 _ _) hn0)))) (by omega))) (fun hHeld_14_3 => ?_)
      clear hK_
      try simp only [Act.put, siA, scZ, scS]
      refine wpAnyH_done (by kernel_rfl) ?_ _
      go_wp2_with fail
      go_meet
      exact ⟨w0.heap.size, A1, A2, k1, c1, k2, c2, rfl, Nat.le_refl _, set7_obj hblk9 _ _ _ _ _ _ _, (FSl.grow (FSl.to hx_ hBr9) (set7_grown _ _ _ _ _ _ _ _ _) (off_not (by simp))), (FSl.grow hy_ (set7_grown _ _ _ _ _ _ _ _ _) (off_not (by simp))), below_g (below_then (below_then (below_then (below_alloc1 _ _) (below_drew1 _)) hBr4) hBr9) (set7_grown _ _ _ _ _ _ _ _ _) (Nat.le_refl _)⟩
  case rest =>
  obtain ⟨Xo, A1, A2, k1, c1, k2, c2, rfl,  hXo, ho_, hx_, hy_, hB1⟩ := hcut
  obtain ⟨w1, e_⟩ : ∃ w_, w_ = wc := ⟨_, rfl⟩
  subst e_
  clear hltn
  have hT1 := below_then hT0 hB1
  have hZ1 := below_then hZ0 hB1
  clear hZ0
  have hn1 := block_below hB1 hn0
  have hr1 := block_below hB1 hr0
  have hq1 := FSlx.to hq0 hB1
  have hg1 := FSlx.to hg0 hB1
  clear hT0 hn0 hr0 hq0 hg0 hB1
  have ho1 := ho_
  clear ho_
  have hx1 := hx_
  clear hx_
  have hy1 := hy_
  clear hy_
  clear hq1
  clear hg1
  have hXw : w.heap.size + 2 ≤ Xo := by have := hXo; have := Hs0.out; omega
  have hXs := (Array.getElem?_eq_some_iff.1 ho1).1
  go_wp2_with fail
  go_loopw [6] (fun i wr => ∃ (k kk c : Nat) (A : Option Addr) (fl : List FL), k ≤ lm ∧ k ≤ 8 ∧ kk ≤ k ∧ i = .int .i64 k ∧ LOwn wr (Xo + 1) A kk c fl ∧ (∀ x ∈ fl, refRightP x = true) ∧ wr.heap[w.heap.size]? = some (.cells #[.slice qa qm qc, .slice la lm lc, .int .i64 kk0.t, .int .i64 kk0.r, .int .i64 kk0.s, .int .i64 kk0.q, .slice ga gm gc] 49) ∧ wr.heap[(w.heap.size + 1)]? = some (.cells #[.slice none 0 0, .slice none 0 0, .int .i64 0, .int .i64 0, .int .i64 0, .int .i64 0, .slice none 0 0] 49) ∧ wr.heap[Xo]? = some (.cells #[.slice A1 k1 c1, .slice A kk c, .int .i64 kk0.t, .int .i64 kk0.r, .int .i64 kk0.s, .int .i64 kk0.q, .slice A2 k2 c2] 49) ∧ FSl wr (Off (QH Q (w.heap.size + 2)) ([Xo] ++ ownL A)) A1 k1 c1 Q1 ∧ FSl wr (Off (QH Q (w.heap.size + 2)) ([Xo] ++ ownL A)) A2 k2 c2 G1 ∧ Below w.heap.size w wr) (fun i _ => 8 - (intOf i).toNat)
  case atStart => exact ⟨0, 0, 0, none, [], Nat.zero_le _, Nat.zero_le _, Nat.le_refl _, rfl, World.ownsRow_nil _ _ _ _, (fun x hx => by cases hx), hn1, hr1, ho1, hx1, hy1, hT1⟩
  case round =>
    clear hn1 hr1 ho1 hx1 hy1 hT1 hZ1
    obtain ⟨k, kk, c, A, fl, hk, hk8, hkk, rfl, hO50, hfr, hn50, hr50, ho50, hX50, hy50, hT50⟩ := hrel
    have Hfr := Lib.hid hfr
    clear hfr
    by_cases hlt : k < lm
    rotate_left
    · skip
      have j1 : ¬ (k : Int) < (lm : Int) := by omega
      obtain ⟨okc, hokc⟩ : ∃ q, rightV_NCn kk0 = q := ⟨_, rfl⟩
      have Hokc := Lib.hid hokc
      clear hokc
      have hln := (Array.getElem?_eq_some_iff.1 hn50).1
      obtain ⟨nc0, nc1, nc2, nc3, nc4, nc5, nc6⟩ := cells7' hn50
      go_wp2_with fail
      clear hln nc0 nc1 nc2 nc3 nc4 nc5 nc6
      cases okc
      · skip
        refine (refRight_q_NCn kk0 false Hokc.out wr).mono ?_
        rintro e w51 ⟨rfl, hB51⟩
        have hT51 := below_then hT50 hB51
        have hn51 := block_below hB51 hn50
        have hr51 := block_below hB51 hr50
        have ho51 := block_below hB51 ho50
        have hO51 := own_to hO50 hB51
        have hX51 := FSl.to hX50 hB51
        have hy51 := FSl.to hy50 hB51
        clear hT50 hn50 hr50 ho50 hO50 hX50 hy50 hB51
        have hln := (Array.getElem?_eq_some_iff.1 hn51).1
        obtain ⟨nc0, nc1, nc2, nc3, nc4, nc5, nc6⟩ := cells7' hn51
        go_wp2_with fail
        clear hln nc0 nc1 nc2 nc3 nc4 nc5 nc6
        refine (refNew_any w51).mono ?_
        rintro e w52 ⟨rfl, hB52⟩
        have hT52 := below_then hT51 hB52
        have hn52 := block_below hB52 hn51
        have hr52 := block_below hB52 hr51
        have ho52 := block_below hB52 ho51
        have hO52 := own_to hO51 hB52
        have hX52 := FSl.to hX51 hB52
        have hy52 := FSl.to hy51 hB52
        clear hT51 hn51 hr51 ho51 hO51 hX51 hy51 hB52
        have hsz_ := hT52.size
        have hln := (Array.getElem?_eq_some_iff.1 hn52).1
        obtain ⟨nc0, nc1, nc2, nc3, nc4, nc5, nc6⟩ := cells7' hn52
        have hlr := (Array.getElem?_eq_some_iff.1 hr52).1
        obtain ⟨⟨rc0, rc1, rc2, rc3, rc4, rc5, rc6⟩, rf0, rf1, rf2, rf3, rf4, rf5, rf6⟩ := cells7 hr52
        have hlo := (Array.getElem?_eq_some_iff.1 ho52).1
        obtain ⟨⟨oc0, oc1, oc2, oc3, oc4, oc5, oc6⟩, of0, of1, of2, of3, of4, of5, of6⟩ := cells7 ho52
        go_wp2_with fail
        clear hln nc0 nc1 nc2 nc3 nc4 nc5 nc6 hlr rc0 rc1 rc2 rc3 rc4 rc5 rc6 rf0 rf1 rf2 rf3 rf4 rf5 rf6 hlo oc0 oc1 oc2 oc3 oc4 oc5 oc6 of0 of1 of2 of3 of4 of5 of6
        exact bodyPost_ret (v := NV.v ⟨A1, k1, c1, A, kk, c, newV, A2, k2, c2⟩) (results_n (n := ⟨A1, k1, c1, A, kk, c, newV, A2, k2, c2⟩) rfl _ rfl (set7_obj (other_g (set25_grown _ _ _ _ _ _) hr52 (by omega)) _ _ _ _ _ _ _)) rfl ⟨⟨A1, k1, c1, A, kk, c, newV, A2, k2, c2⟩, ⟨Q1, fl, newV, G1⟩, rfl, ⟨(FSl.grow (FSl.grow hX52 (set25_grown _ _ _ _ _ _) (off_not (by simp))) (set7_grown _ _ _ _ _ _ _ _ _) (offq_not (by omega))).mono (fun _ _ h => h.1.1), LSl.own (FLOwn.grow (FLOwn.grow hO52 (set25_grown _ _ _ _ _ _) (by omega)) (set7_grown _ _ _ _ _ _ _ _ _) (by omega)) (show kk ≤ 1000 by omega) (fun f hf => right_wide (Hfr.out f hf)) (fun b hb => hP b (by omega)), rfl, (FSl.grow (FSl.grow hy52 (set25_grown _ _ _ _ _ _) (off_not (by simp))) (set7_grown _ _ _ _ _ _ _ _ _) (offq_not (by omega))).mono (fun _ _ h => h.1.1)⟩, ⟨HQ.out.1, (by have := HQ.out.2; show Q1.length ≤ 16; omega), HG.out.1, (by have := HG.out.2; show G1.length ≤ 64; omega), Hfr.out, (by have := LOwn.len hO52; show fl.length ≤ 8; omega), ok_new⟩, ⟨(by have := HQ.out.2; show Q1.length ≤ M; omega), (by have := HG.out.2; show G1.length ≤ M; omega)⟩, (below_g (below_g hT52 (set25_grown _ _ _ _ _ _) (by omega)) (set7_grown _ _ _ _ _ _ _ _ _) (by omega))⟩
      refine (refRight_q_NCn kk0 true Hokc.out wr).mono ?_
      rintro e w51 ⟨rfl, hB51⟩
      have hT51 := below_then hT50 hB51
      have hn51 := block_below hB51 hn50
      have hr51 := block_below hB51 hr50
      have ho51 := block_below hB51 ho50
      have hO51 := own_to hO50 hB51
      have hX51 := FSl.to hX50 hB51
      have hy51 := FSl.to hy50 hB51
      clear hT50 hn50 hr50 ho50 hO50 hX50 hy50 hB51
      have hln := (Array.getElem?_eq_some_iff.1 hn51).1
      obtain ⟨nc0, nc1, nc2, nc3, nc4, nc5, nc6⟩ := cells7' hn51
      have hlr := (Array.getElem?_eq_some_iff.1 hr51).1
      obtain ⟨⟨rc0, rc1, rc2, rc3, rc4, rc5, rc6⟩, rf0, rf1, rf2, rf3, rf4, rf5, rf6⟩ := cells7 hr51
      have hlo := (Array.getElem?_eq_some_iff.1 ho51).1
      obtain ⟨oc0, oc1, oc2, oc3, oc4, oc5, oc6⟩ := cells7' ho51
      go_wp2_with fail
      clear hln nc0 nc1 nc2 nc3 nc4 nc5 nc6 hlr rc0 rc1 rc2 rc3 rc4 rc5 rc6 rf0 rf1 rf2 rf3 rf4 rf5 rf6 hlo oc0 oc1 oc2 oc3 oc4 oc5 oc6
      exact bodyPost_ret (v := NV.v ⟨A1, k1, c1, A, kk, c, kk0, A2, k2, c2⟩) (results_n (n := ⟨A1, k1, c1, A, kk, c, kk0, A2, k2, c2⟩) rfl _ rfl (set7_obj hr51 _ _ _ _ _ _ _)) rfl ⟨⟨A1, k1, c1, A, kk, c, kk0, A2, k2, c2⟩, ⟨Q1, fl, kk0, G1⟩, rfl, ⟨(FSl.grow hX51 (set7_grown _ _ _ _ _ _ _ _ _) (offq_not (by omega))).mono (fun _ _ h => h.1.1), LSl.own (FLOwn.grow hO51 (set7_grown _ _ _ _ _ _ _ _ _) (by omega)) (show kk ≤ 1000 by omega) (fun f hf => right_wide (Hfr.out f hf)) (fun b hb => hP b (by omega)), rfl, (FSl.grow hy51 (set7_grown _ _ _ _ _ _ _ _ _) (offq_not (by omega))).mono (fun _ _ h => h.1.1)⟩, ⟨HQ.out.1, (by have := HQ.out.2; show Q1.length ≤ 16; omega), HG.out.1, (by have := HG.out.2; show G1.length ≤ 64; omega), Hfr.out, (by have := LOwn.len hO51; show fl.length ≤ 8; omega), of_decide_eq_true Hokc.out⟩, ⟨(by have := HQ.out.2; show Q1.length ≤ M; omega), (by have := HG.out.2; show G1.length ≤ M; omega)⟩, (below_g hT51 (set7_grown _ _ _ _ _ _ _ _ _) (by omega))⟩
    have j1 : (k : Int) < (lm : Int) := by omega
    by_cases hlt8 : k < 8
    rotate_left
    · skip
      have j2 : ¬ (k : Int) < 8 := by omega
      obtain ⟨okc, hokc⟩ : ∃ q, rightV_NCn kk0 = q := ⟨_, rfl⟩
      have Hokc := Lib.hid hokc
      clear hokc
      have hln := (Array.getElem?_eq_some_iff.1 hn50).1
      obtain ⟨nc0, nc1, nc2, nc3, nc4, nc5, nc6⟩ := cells7' hn50
      go_wp2_with fail
      clear hln nc0 nc1 nc2 nc3 nc4 nc5 nc6
      cases okc
      · skip
        refine (refRight_q_NCn kk0 false Hokc.out wr).mono ?_
        rintro e w51 ⟨rfl, hB51⟩
        have hT51 := below_then hT50 hB51
        have hn51 := block_below hB51 hn50
        have hr51 := block_below hB51 hr50
        have ho51 := block_below hB51 ho50
        have hO51 := own_to hO50 hB51
        have hX51 := FSl.to hX50 hB51
        have hy51 := FSl.to hy50 hB51
        clear hT50 hn50 hr50 ho50 hO50 hX50 hy50 hB51
        have hln := (Array.getElem?_eq_some_iff.1 hn51).1
        obtain ⟨nc0, nc1, nc2, nc3, nc4, nc5, nc6⟩ := cells7' hn51
        go_wp2_with fail
        clear hln nc0 nc1 nc2 nc3 nc4 nc5 nc6
        refine (refNew_any w51).mono ?_
        rintro e w52 ⟨rfl, hB52⟩
        have hT52 := below_then hT51 hB52
        have hn52 := block_below hB52 hn51
        have hr52 := block_below hB52 hr51
        have ho52 := block_below hB52 ho51
        have hO52 := own_to hO51 hB52
        have hX52 := FSl.to hX51 hB52
        have hy52 := FSl.to hy51 hB52
        clear hT51 hn51 hr51 ho51 hO51 hX51 hy51 hB52
        have hsz_ := hT52.size
        have hln := (Array.getElem?_eq_some_iff.1 hn52).1
        obtain ⟨nc0, nc1, nc2, nc3, nc4, nc5, nc6⟩ := cells7' hn52
        have hlr := (Array.getElem?_eq_some_iff.1 hr52).1
        obtain ⟨⟨rc0, rc1, rc2, rc3, rc4, rc5, rc6⟩, rf0, rf1, rf2, rf3, rf4, rf5, rf6⟩ := cells7 hr52
        have hlo := (Array.getElem?_eq_some_iff.1 ho52).1
        obtain ⟨⟨oc0, oc1, oc2, oc3, oc4, oc5, oc6⟩, of0, of1, of2, of3, of4, of5, of6⟩ := cells7 ho52
        go_wp2_with fail
        clear hln nc0 nc1 nc2 nc3 nc4 nc5 nc6 hlr rc0 rc1 rc2 rc3 rc4 rc5 rc6 rf0 rf1 rf2 rf3 rf4 rf5 rf6 hlo oc0 oc1 oc2 oc3 oc4 oc5 oc6 of0 of1 of2 of3 of4 of5 of6
        exact bodyPost_ret (v := NV.v ⟨A1, k1, c1, A, kk, c, newV, A2, k2, c2⟩) (results_n (n := ⟨A1, k1, c1, A, kk, c, newV, A2, k2, c2⟩) rfl _ rfl (set7_obj (other_g (set25_grown _ _ _ _ _ _) hr52 (by omega)) _ _ _ _ _ _ _)) rfl ⟨⟨A1, k1, c1, A, kk, c, newV, A2, k2, c2⟩, ⟨Q1, fl, newV, G1⟩, rfl, ⟨(FSl.grow (FSl.grow hX52 (set25_grown _ _ _ _ _ _) (off_not (by simp))) (set7_grown _ _ _ _ _ _ _ _ _) (offq_not (by omega))).mono (fun _ _ h => h.1.1), LSl.own (FLOwn.grow (FLOwn.grow hO52 (set25_grown _ _ _ _ _ _) (by omega)) (set7_grown _ _ _ _ _ _ _ _ _) (by omega)) (show kk ≤ 1000 by omega) (fun f hf => right_wide (Hfr.out f hf)) (fun b hb => hP b (by omega)), rfl, (FSl.grow (FSl.grow hy52 (set25_grown _ _ _ _ _ _) (off_not (by simp))) (set7_grown _ _ _ _ _ _ _ _ _) (offq_not (by omega))).mono (fun _ _ h => h.1.1)⟩, ⟨HQ.out.1, (by have := HQ.out.2; show Q1.length ≤ 16; omega), HG.out.1, (by have := HG.out.2; show G1.length ≤ 64; omega), Hfr.out, (by have := LOwn.len hO52; show fl.length ≤ 8; omega), ok_new⟩, ⟨(by have := HQ.out.2; show Q1.length ≤ M; omega), (by have := HG.out.2; show G1.length ≤ M; omega)⟩, (below_g (below_g hT52 (set25_grown _ _ _ _ _ _) (by omega)) (set7_grown _ _ _ _ _ _ _ _ _) (by omega))⟩
      refine (refRight_q_NCn kk0 true Hokc.out wr).mono ?_
      rintro e w51 ⟨rfl, hB51⟩
      have hT51 := below_then hT50 hB51
      have hn51 := block_below hB51 hn50
      have hr51 := block_below hB51 hr50
      have ho51 := block_below hB51 ho50
      have hO51 := own_to hO50 hB51
      have hX51 := FSl.to hX50 hB51
      have hy51 := FSl.to hy50 hB51
      clear hT50 hn50 hr50 ho50 hO50 hX50 hy50 hB51
      have hln := (Array.getElem?_eq_some_iff.1 hn51).1
      obtain ⟨nc0, nc1, nc2, nc3, nc4, nc5, nc6⟩ := cells7' hn51
      have hlr := (Array.getElem?_eq_some_iff.1 hr51).1
      obtain ⟨⟨rc0, rc1, rc2, rc3, rc4, rc5, rc6⟩, rf0, rf1, rf2, rf3, rf4, rf5, rf6⟩ := cells7 hr51
      have hlo := (Array.getElem?_eq_some_iff.1 ho51).1
      obtain ⟨oc0, oc1, oc2, oc3, oc4, oc5, oc6⟩ := cells7' ho51
      go_wp2_with fail
      clear hln nc0 nc1 nc2 nc3 nc4 nc5 nc6 hlr rc0 rc1 rc2 rc3 rc4 rc5 rc6 rf0 rf1 rf2 rf3 rf4 rf5 rf6 hlo oc0 oc1 oc2 oc3 oc4 oc5 oc6
      exact bodyPost_ret (v := NV.v ⟨A1, k1, c1, A, kk, c, kk0, A2, k2, c2⟩) (results_n (n := ⟨A1, k1, c1, A, kk, c, kk0, A2, k2, c2⟩) rfl _ rfl (set7_obj hr51 _ _ _ _ _ _ _)) rfl ⟨⟨A1, k1, c1, A, kk, c, kk0, A2, k2, c2⟩, ⟨Q1, fl, kk0, G1⟩, rfl, ⟨(FSl.grow hX51 (set7_grown _ _ _ _ _ _ _ _ _) (offq_not (by omega))).mono (fun _ _ h => h.1.1), LSl.own (FLOwn.grow hO51 (set7_grown _ _ _ _ _ _ _ _ _) (by omega)) (show kk ≤ 1000 by omega) (fun f hf => right_wide (Hfr.out f hf)) (fun b hb => hP b (by omega)), rfl, (FSl.grow hy51 (set7_grown _ _ _ _ _ _ _ _ _) (offq_not (by omega))).mono (fun _ _ h => h.1.1)⟩, ⟨HQ.out.1, (by have := HQ.out.2; show Q1.length ≤ 16; omega), HG.out.1, (by have := HG.out.2; show G1.length ≤ 64; omega), Hfr.out, (by have := LOwn.len hO51; show fl.length ≤ 8; omega), of_decide_eq_true Hokc.out⟩, ⟨(by have := HQ.out.2; show Q1.length ≤ M; omega), (by have := HG.out.2; show G1.length ≤ M; omega)⟩, (below_g hT51 (set7_grown _ _ _ _ _ _ _ _ _) (by omega))⟩
    have j2 : (k : Int) < 8 := by omega
    obtain ⟨ad, f, ea, hl0⟩ := (hhl.to hT50).at_ hlt
    subst ea
    obtain ⟨fx, fk, fm⟩ := f
    obtain ⟨l0, l1, l2⟩ := hl0
    dsimp only at l0 l1 l2
    cases fx
    · skip
      obtain ⟨kx, hkx⟩ : ∃ q, bits .and .i64 fk 2047 = q := ⟨_, rfl⟩
      have Hkx := Lib.hid hkx
      clear hkx
      obtain ⟨mx, hmx⟩ : ∃ q, bits .and .i64 fm kx = q := ⟨_, rfl⟩
      have Hmx := Lib.hid hmx
      clear hmx
      have hk_ := Hkx.out
      have hm_ := Hmx.out
      have hln := (Array.getElem?_eq_some_iff.1 hn50).1
      obtain ⟨nc0, nc1, nc2, nc3, nc4, nc5, nc6⟩ := cells7' hn50
      have hlr := (Array.getElem?_eq_some_iff.1 hr50).1
      obtain ⟨rc0, rc1, rc2, rc3, rc4, rc5, rc6⟩ := cells7' hr50
      have hlo := (Array.getElem?_eq_some_iff.1 ho50).1
      obtain ⟨oc0, oc1, oc2, oc3, oc4, oc5, oc6⟩ := cells7' ho50
      go_wp2_with fail
      clear hln nc0 nc1 nc2 nc3 nc4 nc5 nc6 hlr rc0 rc1 rc2 rc3 rc4 rc5 rc6 hlo oc0 oc1 oc2 oc3 oc4 oc5 oc6
      clear hk_ hm_ l0 l1 l2
      obtain ⟨w51, hw51⟩ : ∃ w51, wr.alloc (.cells #[.bool false, .int .i64 kx, .int .i64 mx] 85) = w51 := ⟨_, rfl⟩
      have hB51 : Below wr.heap.size wr w51 := by rw [← hw51]; exact below_alloc1 _ _
      have hx51 : w51.heap[wr.heap.size]? = some (.cells #[.bool false, .int .i64 kx, .int .i64 mx] 85) := by rw [← hw51]; exact World.alloc_heap_new _ _
      rw [hw51]
      clear hw51
      have hT51 := below_then hT50 hB51
      have hn51 := block_below hB51 hn50
      have hr51 := block_below hB51 hr50
      have ho51 := block_below hB51 ho50
      have hO51 := own_to hO50 hB51
      have hX51 := FSl.to hX50 hB51
      have hy51 := FSl.to hy50 hB51
      clear hT50 hn50 hr50 ho50 hO50 hX50 hy50 hB51
      obtain ⟨q, hq⟩ : ∃ q, refRightP ⟨false, kx, mx⟩ = q := ⟨_, rfl⟩
      have Hq := Lib.hid hq
      clear hq
      cases q
      · skip
        refine (refLrRight_c (f := ⟨false, kx, mx⟩) false Hq.out w51).mono ?_
        rintro e w52 ⟨rfl, hB52⟩
        have hT52 := below_then hT51 hB52
        have hn52 := block_below hB52 hn51
        have hr52 := block_below hB52 hr51
        have ho52 := block_below hB52 ho51
        have hx52 := block_below hB52 hx51
        have hO52 := own_to hO51 hB52
        have hX52 := FSl.to hX51 hB52
        have hy52 := FSl.to hy51 hB52
        clear hT51 hn51 hr51 ho51 hx51 hO51 hX51 hy51 hB52
        go_wp2_with fail
        go_round
        case measure => simp [intOf]; omega
        exact ⟨k + 1, kk, c, A, fl, by omega, by omega, by omega, by go_num, hO52, Hfr.out, hn52, hr52, ho52, hX52, hy52, hT52⟩
      refine (refLrRight_c (f := ⟨false, kx, mx⟩) true Hq.out w51).mono ?_
      rintro e w52 ⟨rfl, hB52⟩
      have hT52 := below_then hT51 hB52
      have hn52 := block_below hB52 hn51
      have hr52 := block_below hB52 hr51
      have ho52 := block_below hB52 ho51
      have hx52 := block_below hB52 hx51
      have hO52 := own_to hO51 hB52
      have hX52 := FSl.to hX51 hB52
      have hy52 := FSl.to hy51 hB52
      clear hT51 hn51 hr51 ho51 hx51 hO51 hX51 hy51 hB52
      have hOx : LOwn (w52.alloc (.cells #[.bool false, .int .i64 kx, .int .i64 mx] 85)) (Xo + 1) A kk c fl := own_to hO52 (below_alloc1 _ _)
      have hXx := FSl.to hX52 (below_alloc1 w52 (.cells #[.bool false, .int .i64 kx, .int .i64 mx] 85))
      have hYx := FSl.to hy52 (below_alloc1 w52 (.cells #[.bool false, .int .i64 kx, .int .i64 mx] 85))
      have hTx := below_then hT52 (below_alloc1 w52 (.cells #[.bool false, .int .i64 kx, .int .i64 mx] 85))
      have hbn := block_below (below_alloc1 w52 (.cells #[.bool false, .int .i64 kx, .int .i64 mx] 85)) hn52
      have hbr := block_below (below_alloc1 w52 (.cells #[.bool false, .int .i64 kx, .int .i64 mx] 85)) hr52
      have hbo := block_below (below_alloc1 w52 (.cells #[.bool false, .int .i64 kx, .int .i64 mx] 85)) ho52
      have hbs : Xo + 1 ≤ (w52.alloc (.cells #[.bool false, .int .i64 kx, .int .i64 mx] 85)).heap.size := by have := (Array.getElem?_eq_some_iff.1 hbo).1; omega
      have hln := (Array.getElem?_eq_some_iff.1 hn52).1
      obtain ⟨nc0, nc1, nc2, nc3, nc4, nc5, nc6⟩ := cells7' hn52
      have hlr := (Array.getElem?_eq_some_iff.1 hr52).1
      obtain ⟨rc0, rc1, rc2, rc3, rc4, rc5, rc6⟩ := cells7' hr52
      have hlo := (Array.getElem?_eq_some_iff.1 ho52).1
      obtain ⟨oc0, oc1, oc2, oc3, oc4, oc5, oc6⟩ := cells7' ho52
      have hlx := (Array.getElem?_eq_some_iff.1 hx52).1
      obtain ⟨xc0, xc1, xc2⟩ := cells3' hx52
      go_wp2_with (at_builtin; refine wpList_append_g shL Tryz.infoL _ rfl _ _ rfl (Xo + 1) A kk c fl rfl hOx _ 1 _ _ [⟨false, kx, mx⟩] rfl rfl (GRow.lit w52 [(⟨false, kx, mx⟩ : FL)] rfl rfl) (by omega) hbs ?_; intro A3 c3 w90 hO90 hc90 hg90 he90 hB90; have ho90 := (hB90.block _ (Nat.lt_succ_self _)).trans hbo; obtain ⟨⟨z0, z1, z2, z3, z4, z5, z6⟩, y0, y1, y2, y3, y4, y5, y6⟩ := cells7 ho90)
      clear hln nc0 nc1 nc2 nc3 nc4 nc5 nc6 hlr rc0 rc1 rc2 rc3 rc4 rc5 rc6 hlo oc0 oc1 oc2 oc3 oc4 oc5 oc6 hlx xc0 xc1 xc2
      clear z0 z1 z2 z3 z4 z5 z6 y0 y1 y2 y3 y4 y5 y6
      obtain ⟨w91, hw91⟩ : ∃ w_, w90.setCell ⟨Xo, 1, none⟩ (.slice A3 (kk + 1) c3) = w_ := ⟨_, rfl⟩
      have hG91 : w90.grownBy w91 (some Xo) := by rw [← hw91]; exact grown_setAt _ _ _ _
      have ho91 : w91.heap[Xo]? = some (.cells #[.slice A1 k1 c1, .slice A3 (kk + 1) c3, .int .i64 kk0.t, .int .i64 kk0.r, .int .i64 kk0.s, .int .i64 kk0.q, .slice A2 k2 c2] 49) := by rw [← hw91]; exact set1_obj7 ho90 _
      have hn91 := other_g hG91 ((hB90.block _ (by omega)).trans hbn) (by omega)
      have hr91 := other_g hG91 ((hB90.block _ (by omega)).trans hbr) (by omega)
      have hX91 := FSl.grow (fsl_off hXx hg90 he90) hG91 (off_not (by simp))
      have hY91 := FSl.grow (fsl_off hYx hg90 he90) hG91 (off_not (by simp))
      have hO91 : LOwn w91 (Xo + 1) A3 (kk + 1) c3 (fl ++ [⟨false, kx, mx⟩]) := FLOwn.grow hO90 hG91 (Nat.lt_succ_self _)
      have hT91 : Below w.heap.size w w91 := below_g (hTx.trans (hB90.mono (by omega))) hG91 (by omega)
      rw [hw91]
      clear hw91 hG91
      go_round
      case measure => simp [intOf]; omega
      exact ⟨k + 1, kk + 1, c3, A3, fl ++ [⟨false, kx, mx⟩], by omega, by omega, by omega, by go_num, hO91, (fun y hy => by rcases List.mem_append.1 hy with h_ | h_; exact Hfr.out y h_; simp at h_; subst h_; exact Hq.out), hn91, hr91, ho91, hX91, hY91, hT91⟩
    obtain ⟨kx, hkx⟩ : ∃ q, bits .and .i64 fk 536870911 = q := ⟨_, rfl⟩
    have Hkx := Lib.hid hkx
    clear hkx
    obtain ⟨mx, hmx⟩ : ∃ q, bits .and .i64 fm kx = q := ⟨_, rfl⟩
    have Hmx := Lib.hid hmx
    clear hmx
    have hk_ := Hkx.out
    have hm_ := Hmx.out
    have hln := (Array.getElem?_eq_some_iff.1 hn50).1
    obtain ⟨nc0, nc1, nc2, nc3, nc4, nc5, nc6⟩ := cells7' hn50
    have hlr := (Array.getElem?_eq_some_iff.1 hr50).1
    obtain ⟨rc0, rc1, rc2, rc3, rc4, rc5, rc6⟩ := cells7' hr50
    have hlo := (Array.getElem?_eq_some_iff.1 ho50).1
    obtain ⟨oc0, oc1, oc2, oc3, oc4, oc5, oc6⟩ := cells7' ho50
    go_wp2_with fail
    clear hln nc0 nc1 nc2 nc3 nc4 nc5 nc6 hlr rc0 rc1 rc2 rc3 rc4 rc5 rc6 hlo oc0 oc1 oc2 oc3 oc4 oc5 oc6
    clear hk_ hm_ l0 l1 l2
    obtain ⟨w51, hw51⟩ : ∃ w51, wr.alloc (.cells #[.bool true, .int .i64 kx, .int .i64 mx] 85) = w51 := ⟨_, rfl⟩
    have hB51 : Below wr.heap.size wr w51 := by rw [← hw51]; exact below_alloc1 _ _
    have hx51 : w51.heap[wr.heap.size]? = some (.cells #[.bool true, .int .i64 kx, .int .i64 mx] 85) := by rw [← hw51]; exact World.alloc_heap_new _ _
    rw [hw51]
    clear hw51
    have hT51 := below_then hT50 hB51
    have hn51 := block_below hB51 hn50
    have hr51 := block_below hB51 hr50
    have ho51 := block_below hB51 ho50
    have hO51 := own_to hO50 hB51
    have hX51 := FSl.to hX50 hB51
    have hy51 := FSl.to hy50 hB51
    clear hT50 hn50 hr50 ho50 hO50 hX50 hy50 hB51
    obtain ⟨q, hq⟩ : ∃ q, refRightP ⟨true, kx, mx⟩ = q := ⟨_, rfl⟩
    have Hq := Lib.hid hq
    clear hq
    cases q
    · skip
      refine (refLrRight_c (f := ⟨true, kx, mx⟩) false Hq.out w51).mono ?_
      rintro e w52 ⟨rfl, hB52⟩
      have hT52 := below_then hT51 hB52
      have hn52 := block_below hB52 hn51
      have hr52 := block_below hB52 hr51
      have ho52 := block_below hB52 ho51
      have hx52 := block_below hB52 hx51
      have hO52 := own_to hO51 hB52
      have hX52 := FSl.to hX51 hB52
      have hy52 := FSl.to hy51 hB52
      clear hT51 hn51 hr51 ho51 hx51 hO51 hX51 hy51 hB52
      go_wp2_with fail
      go_round
      case measure => simp [intOf]; omega
      exact ⟨k + 1, kk, c, A, fl, by omega, by omega, by omega, by go_num, hO52, Hfr.out, hn52, hr52, ho52, hX52, hy52, hT52⟩
    refine (refLrRight_c (f := ⟨true, kx, mx⟩) true Hq.out w51).mono ?_
    rintro e w52 ⟨rfl, hB52⟩
    have hT52 := below_then hT51 hB52
    have hn52 := block_below hB52 hn51
    have hr52 := block_below hB52 hr51
    have ho52 := block_below hB52 ho51
    have hx52 := block_below hB52 hx51
    have hO52 := own_to hO51 hB52
    have hX52 := FSl.to hX51 hB52
    have hy52 := FSl.to hy51 hB52
    clear hT51 hn51 hr51 ho51 hx51 hO51 hX51 hy51 hB52
    have hOx : LOwn (w52.alloc (.cells #[.bool true, .int .i64 kx, .int .i64 mx] 85)) (Xo + 1) A kk c fl := own_to hO52 (below_alloc1 _ _)
    have hXx := FSl.to hX52 (below_alloc1 w52 (.cells #[.bool true, .int .i64 kx, .int .i64 mx] 85))
    have hYx := FSl.to hy52 (below_alloc1 w52 (.cells #[.bool true, .int .i64 kx, .int .i64 mx] 85))
    have hTx := below_then hT52 (below_alloc1 w52 (.cells #[.bool true, .int .i64 kx, .int .i64 mx] 85))
    have hbn := block_below (below_alloc1 w52 (.cells #[.bool true, .int .i64 kx, .int .i64 mx] 85)) hn52
    have hbr := block_below (below_alloc1 w52 (.cells #[.bool true, .int .i64 kx, .int .i64 mx] 85)) hr52
    have hbo := block_below (below_alloc1 w52 (.cells #[.bool true, .int .i64 kx, .int .i64 mx] 85)) ho52
    have hbs : Xo + 1 ≤ (w52.alloc (.cells #[.bool true, .int .i64 kx, .int .i64 mx] 85)).heap.size := by have := (Array.getElem?_eq_some_iff.1 hbo).1; omega
    have hln := (Array.getElem?_eq_some_iff.1 hn52).1
    obtain ⟨nc0, nc1, nc2, nc3, nc4, nc5, nc6⟩ := cells7' hn52
    have hlr := (Array.getElem?_eq_some_iff.1 hr52).1
    obtain ⟨rc0, rc1, rc2, rc3, rc4, rc5, rc6⟩ := cells7' hr52
    have hlo := (Array.getElem?_eq_some_iff.1 ho52).1
    obtain ⟨oc0, oc1, oc2, oc3, oc4, oc5, oc6⟩ := cells7' ho52
    have hlx := (Array.getElem?_eq_some_iff.1 hx52).1
    obtain ⟨xc0, xc1, xc2⟩ := cells3' hx52
    go_wp2_with (at_builtin; refine wpList_append_g shL Tryz.infoL _ rfl _ _ rfl (Xo + 1) A kk c fl rfl hOx _ 1 _ _ [⟨true, kx, mx⟩] rfl rfl (GRow.lit w52 [(⟨true, kx, mx⟩ : FL)] rfl rfl) (by omega) hbs ?_; intro A3 c3 w90 hO90 hc90 hg90 he90 hB90; have ho90 := (hB90.block _ (Nat.lt_succ_self _)).trans hbo; obtain ⟨⟨z0, z1, z2, z3, z4, z5, z6⟩, y0, y1, y2, y3, y4, y5, y6⟩ := cells7 ho90)
    clear hln nc0 nc1 nc2 nc3 nc4 nc5 nc6 hlr rc0 rc1 rc2 rc3 rc4 rc5 rc6 hlo oc0 oc1 oc2 oc3 oc4 oc5 oc6 hlx xc0 xc1 xc2
    clear z0 z1 z2 z3 z4 z5 z6 y0 y1 y2 y3 y4 y5 y6
    obtain ⟨w91, hw91⟩ : ∃ w_, w90.setCell ⟨Xo, 1, none⟩ (.slice A3 (kk + 1) c3) = w_ := ⟨_, rfl⟩
    have hG91 : w90.grownBy w91 (some Xo) := by rw [← hw91]; exact grown_setAt _ _ _ _
    have ho91 : w91.heap[Xo]? = some (.cells #[.slice A1 k1 c1, .slice A3 (kk + 1) c3, .int .i64 kk0.t, .int .i64 kk0.r, .int .i64 kk0.s, .int .i64 kk0.q, .slice A2 k2 c2] 49) := by rw [← hw91]; exact set1_obj7 ho90 _
    have hn91 := other_g hG91 ((hB90.block _ (by omega)).trans hbn) (by omega)
    have hr91 := other_g hG91 ((hB90.block _ (by omega)).trans hbr) (by omega)
    have hX91 := FSl.grow (fsl_off hXx hg90 he90) hG91 (off_not (by simp))
    have hY91 := FSl.grow (fsl_off hYx hg90 he90) hG91 (off_not (by simp))
    have hO91 : LOwn w91 (Xo + 1) A3 (kk + 1) c3 (fl ++ [⟨true, kx, mx⟩]) := FLOwn.grow hO90 hG91 (Nat.lt_succ_self _)
    have hT91 : Below w.heap.size w w91 := below_g (hTx.trans (hB90.mono (by omega))) hG91 (by omega)
    rw [hw91]
    clear hw91 hG91
    go_round
    case measure => simp [intOf]; omega
    exact ⟨k + 1, kk + 1, c3, A3, fl ++ [⟨true, kx, mx⟩], by omega, by omega, by omega, by go_num, hO91, (fun y hy => by rcases List.mem_append.1 hy with h_ | h_; exact Hfr.out y h_; simp at h_; subst h_; exact Hq.out), hn91, hr91, ho91, hX91, hY91, hT91⟩
end Go.Proofs.YtcifjccojmfpaaaGreat

namespace Go.Proofs.YtcifjccojmfpaaaGreat
open Go.RowKit
set_option linter.unusedVariables false
set_option linter.unusedSimpArgs false
theorem nodesO_c {w : World} {P Q : Nat → Prop} {A : Option Addr} {n c : Nat} {Ns : List NC} (h : NSl w P A n c Ns) (M : Nat) (hM : M ≤ 100) (hP : ∀ b, w.heap.size ≤ b → Q b) :
    Calls Tryz.prog 12 #[.slice A n c, .int .i64 M] w fun e w' => ∃ (A' : Option Addr) (m c' : Nat) (ns : List NV) (Ms : List NC), e = .returned (.slice A' m c') ∧ NOwn w' w.heap.size A' m c' ns ∧ NsIs w' (Off Q ([] ++ ownL A')) ns Ms ∧ (∀ N ∈ Ms, OkN N ∧ N.q.length ≤ M ∧ N.g.length ≤ M) ∧ 1 ≤ m ∧ m ≤ 8 ∧ Below w.heap.size w w' := by
  go_enter Tryz.func12, Tryz.ntmps12
  go_wp2_with fail
  go_loopw [5, 6] (fun o i wr => ∃ (k c2 : Nat) (A2 : Option Addr) (ns : List NV) (Ms : List NC), k ≤ n ∧ k ≤ 8 ∧ i = .int .i64 k ∧ o = .slice A2 k c2 ∧ NOwn wr w.heap.size A2 k c2 ns ∧ NsIs wr (Off Q ([] ++ ownL A2)) ns Ms ∧ (∀ N ∈ Ms, OkN N ∧ N.q.length ≤ M ∧ N.g.length ≤ M) ∧ Below w.heap.size w wr) (fun _ i _ => 8 - (intOf i).toNat)
  case atStart => exact ⟨0, 0, _, [], [], Nat.zero_le _, Nat.zero_le _, rfl, rfl, gown_empty shN w _ _ rfl (Nat.le_refl _), AllIs.nil, (fun _ h => by cases h), below_alloc1 _ _⟩
  case round =>
    obtain ⟨k, c2, A2, ns, Ms, hk, hk8, rfl, rfl, hO50, hA50, hms, hT50⟩ := hrel
    have Hms := Lib.hid hms
    clear hms
    by_cases hin : k < n ∧ k < 8
    rotate_left
    · skip
      by_cases h0 : k = 0
      rotate_left
      · skip
        by_cases j0 : k < n
        rotate_left
        · skip
          have j1 : ¬ (k : Int) < (n : Int) := by omega
          have d0 : ((k : Int) == 0) = false := by simp; omega
          have d1 : (k == 0) = false := by simp; omega
          go_wp2_with fail
          go_ret
          first | exact ⟨A2, k, c2, ns, Ms, rfl, hO50, hA50, Hms.out, by omega, hk8, hT50⟩ | exact ⟨A2, k, c2, rfl, ns, hO50, Ms, hA50, Hms.out, by omega, hk8, hT50⟩
        have j1 : (k : Int) < (n : Int) := by omega
        have j2 : ¬ (k : Int) < 8 := by omega
        have d0 : ((k : Int) == 0) = false := by simp; omega
        have d1 : (k == 0) = false := by simp; omega
        go_wp2_with fail
        go_ret
        first | exact ⟨A2, k, c2, ns, Ms, rfl, hO50, hA50, Hms.out, by omega, hk8, hT50⟩ | exact ⟨A2, k, c2, rfl, ns, hO50, Ms, hA50, Hms.out, by omega, hk8, hT50⟩
      obtain rfl : n = 0 := by omega
      subst h0
      have j1 : ¬ ((0 : Nat) : Int) < ((0 : Nat) : Int) := by omega
      clear hin
      go_wp2_with fail
      refine (refNew_any wr).mono ?_
      rintro e w51 ⟨rfl, hB51⟩
      have hT51 := below_then hT50 hB51
      have hO51 := GOwn.to hO50 hB51
      have hA51 := NsIs.to hA50 hB51
      clear hT50  hO50 hA50 hB51
      have hOx : NOwn (w51.alloc (.cells #[.slice none 0 0, .slice none 0 0, .int .i64 newV.t, .int .i64 newV.r, .int .i64 newV.s, .int .i64 newV.q, .slice none 0 0] 49)) w.heap.size A2 0 c2 ns := GOwn.to hO51 (below_alloc1 _ _)
      have hTx := below_then hT51 (below_alloc1 w51 (.cells #[.slice none 0 0, .slice none 0 0, .int .i64 newV.t, .int .i64 newV.r, .int .i64 newV.s, .int .i64 newV.q, .slice none 0 0] 49))
      obtain rfl : ns = [] := List.eq_nil_of_length_eq_zero (GOwn.len shN hOx)
      go_wp2_with (at_builtin; refine wpList_append_g shN Tryz.infoN _ rfl _ _ rfl w.heap.size A2 0 c2 [] rfl hOx _ 1 _ _ [(⟨none, 0, 0, none, 0, 0, newV, none, 0, 0⟩ : NV)] rfl rfl (GRow.lit w51 [(⟨none, 0, 0, none, 0, 0, newV, none, 0, 0⟩ : NV)] rfl rfl) (by omega) hTx.size ?_; intro A3 c3 w90 hO90 hc90 hg90 he90 hB90)
      go_ret
      have hfin_ := (⟨hO90, AllIs.one ⟨FSl.none_, LSl.none_, rfl, FSl.none_⟩, (fun N hN => by simp at hN; subst hN; exact ⟨ok_new_n (l := []) (by decide), Nat.zero_le _, Nat.zero_le _⟩), by omega, by omega, hTx.trans hB90⟩ : NOwn w90 w.heap.size A3 1 c3 [⟨none, 0, 0, none, 0, 0, newV, none, 0, 0⟩] ∧ NsIs w90 (Off Q ([] ++ ownL A3)) [⟨none, 0, 0, none, 0, 0, newV, none, 0, 0⟩] [⟨[], [], newV, []⟩] ∧ (∀ N ∈ [(⟨[], [], newV, []⟩ : NC)], OkN N ∧ N.q.length ≤ M ∧ N.g.length ≤ M) ∧ 1 ≤ 1 ∧ 1 ≤ 8 ∧ Below w.heap.size w w90)
      first | exact ⟨A3, 1, c3, _, _, rfl, hfin_⟩ | exact ⟨A3, 1, c3, rfl, _, _, hfin_⟩
    obtain ⟨hlt, hlt8⟩ := hin
    have j1 : (k : Int) < (n : Int) := by omega
    have j2 : (k : Int) < 8 := by omega
    obtain ⟨ad, m, ea_, hAt50, hV50⟩ := NSl.at_ (h.to hT50) hlt
    obtain ⟨N, hN_⟩ : ∃ N_, Ns.getD k zeroN = N_ := ⟨_, rfl⟩
    rw [hN_] at hV50
    have HN := Lib.hid hN_
    clear hN_
    subst ea_
    have ht_ := hAt50
    obtain ⟨t0, t1, t2, t3, t4, t5, t6⟩ := ht_
    go_wp2_with fail
    clear t0 t1 t2 t3 t4 t5 t6
    refine (made10_c hV50 M hM (off_up hO50 (L := []) (fun _ h => by cases h) hP hT50.size)).mono ?_
    rintro e w51 ⟨m2, N2, rfl, hV2_, hok2, hql2, hB51⟩
    have hT51 := below_then hT50 hB51
    have hO51 := GOwn.to hO50 hB51
    have hA51 := NsIs.to hA50 hB51
    have hV51 := NIs.to hV50 hB51
    have hAt51 := nat_to hAt50 hB51
    clear hT50  hO50 hA50 hV50 hAt50 hB51
    have hV251 := hV2_
    clear hV2_
    clear hAt51
    clear hV51
    have hOx : NOwn (w51.alloc (.cells #[.slice m2.qa m2.qm m2.qc, .slice m2.la m2.lm m2.lc, .int .i64 m2.k.t, .int .i64 m2.k.r, .int .i64 m2.k.s, .int .i64 m2.k.q, .slice m2.ga m2.gm m2.gc] 49)) w.heap.size A2 k c2 ns := GOwn.to hO51 (below_alloc1 _ _)
    have hAx : NsIs (w51.alloc (.cells #[.slice m2.qa m2.qm m2.qc, .slice m2.la m2.lm m2.lc, .int .i64 m2.k.t, .int .i64 m2.k.r, .int .i64 m2.k.s, .int .i64 m2.k.q, .slice m2.ga m2.gm m2.gc] 49)) (Off Q ([] ++ ownL A2)) ns Ms := NsIs.to hA51 (below_alloc1 _ _)
    have hVx : NIs (w51.alloc (.cells #[.slice m2.qa m2.qm m2.qc, .slice m2.la m2.lm m2.lc, .int .i64 m2.k.t, .int .i64 m2.k.r, .int .i64 m2.k.s, .int .i64 m2.k.q, .slice m2.ga m2.gm m2.gc] 49)) (Off Q ([] ++ ownL A2)) m2 N2 := NIs.to hV251 (below_alloc1 _ _)
    have hTx := below_then hT51 (below_alloc1 w51 (.cells #[.slice m2.qa m2.qm m2.qc, .slice m2.la m2.lm m2.lc, .int .i64 m2.k.t, .int .i64 m2.k.r, .int .i64 m2.k.s, .int .i64 m2.k.q, .slice m2.ga m2.gm m2.gc] 49))
    go_wp2_with (at_builtin; refine wpList_append_g shN Tryz.infoN _ rfl _ _ rfl w.heap.size A2 k c2 ns rfl hOx _ 1 _ _ [m2] rfl rfl (GRow.lit w51 [m2] rfl rfl) (by omega) hTx.size ?_; intro A3 c3 w90 hO90 hc90 hg90 he90 hB90)
    go_round
    case measure => simp [intOf]; omega
    exact ⟨k + 1, c3, A3, ns ++ [m2], Ms ++ [N2], by omega, by omega, by go_num, rfl, hO90, AllIs.append (nsis_off hAx hg90 he90) (AllIs.one (nis_off hVx hg90 he90)), (fun N hN => by rcases List.mem_append.1 hN with h_ | h_; exact Hms.out N h_; simp at h_; subst h_; exact ⟨hok2, hql2⟩), hTx.trans hB90⟩
theorem nodes10_c {w : World} {P Q : Nat → Prop} {A : Option Addr} {n c : Nat} {Ns : List NC} (h : NSl w P A n c Ns) (M : Nat) (hM : M ≤ 100) (hP : ∀ b, w.heap.size ≤ b → Q b) :
    Calls Tryz.prog 12 #[.slice A n c, .int .i64 M] w fun e w' => ∃ (A' : Option Addr) (m c' : Nat) (Ms : List NC), e = .returned (.slice A' m c') ∧ NSl w' Q A' m c' Ms ∧ OkNs Ms ∧ 1 ≤ m ∧ m ≤ 8 ∧ (∀ N ∈ Ms, N.q.length ≤ M ∧ N.g.length ≤ M) ∧ Below w.heap.size w w' := by
  refine (nodesO_c h M hM hP).mono ?_
  rintro e w' ⟨A', m, c', ns, Ms, rfl, hO, hA, hms, h1, h8, hB⟩
  exact ⟨A', m, c', Ms, rfl, NSl.own hO (NsIs.mono hA off_base) (by omega) hP, ⟨fun N hN => (hms N hN).1⟩, h1, h8, fun N hN => (hms N hN).2, hB⟩
end Go.Proofs.YtcifjccojmfpaaaGreat

namespace Go.Proofs.YtcifjccojmfpaaaGreat
open Go.RowKit
set_option linter.unusedVariables false
set_option linter.unusedSimpArgs false
theorem Tryz.infoH : GInfo 23 41 1 24 := ⟨Tryz.underlying23, ⟨.agg #[.slice none 0 0], by kernel_rfl, by kernel_rfl⟩, by decide⟩
abbrev HOwn (w : World) (base : Nat) (A : Option Addr) (n c : Nat) (hs : List HV) : Prop := GOwn HV.cs 1 41 w base A n c hs
theorem hsis_off {w w' : World} {P : Nat → Prop} {L : List Nat} {A A' : Option Addr} {n c : Nat} {hs : List HV} {Hs : List (List Int)} (h : AllIs (HIs w (Off P (L ++ ownL A))) hs Hs) (g : w.grownBy w' (Value.slice A n c).ownBlock) (e : ownL A' = ownL A ∨ ownL A' = [w.heap.size]) : AllIs (HIs w' (Off P (L ++ ownL A'))) hs Hs :=
  beside_off (Rp := fun w P => AllIs (HIs w P) hs Hs) (fun _ _ _ h hq => h.imp fun _ _ x => x.mono hq) (fun _ _ _ h b => h.imp fun _ _ x => x.to b) (fun _ _ _ _ h g hX => h.imp fun _ _ x => x.grow g hX) h g e
theorem his_off {w w' : World} {P : Nat → Prop} {L : List Nat} {A A' : Option Addr} {n c : Nat} {x : HV} {H : List Int} (h : HIs w (Off P (L ++ ownL A)) x H) (g : w.grownBy w' (Value.slice A n c).ownBlock) (e : ownL A' = ownL A ∨ ownL A' = [w.heap.size]) : HIs w' (Off P (L ++ ownL A')) x H :=
  beside_off (Rp := fun w P => HIs w P x H) (fun _ _ _ h hq => h.mono hq) (fun _ _ _ h b => h.to b) (fun _ _ _ _ h g hX => h.grow g hX) h g e
theorem HSl.own {w : World} {base : Nat} {P : Nat → Prop} {A : Option Addr} {n c : Nat} {hs : List HV} {Hs : List (List Int)} (h : HOwn w base A n c hs) (h' : AllIs (HIs w P) hs Hs) : HSl w P A n c Hs :=
  ⟨by rw [← h'.1]; exact GOwn.len shH h, GOwn.cap h, ⟨hs, GRow.own shH h, h'⟩⟩
theorem hcell_to {w w' : World} {a : Addr} {v : Value} (h : w.cell? a = some v) (b : Below w.heap.size w w') : w'.cell? a = some v := by
  rw [b.cell (World.block_lt_of_cell? _ _ h)]; exact h
theorem cut_c {w : World} {P Q : Nat → Prop} {A : Option Addr} {n c : Nat} {Hs : List (List Int)} (h : HSl w P A n c Hs) (M : Nat) (hM : M ≤ 100) (hP : ∀ b, w.heap.size ≤ b → Q b) :
    Calls Tryz.prog 13 #[.slice A n c, .int .i64 M] w fun e w' => ∃ (A' : Option Addr) (m c' : Nat) (Ks : List (List Int)), e = .returned (.slice A' m c') ∧ HSl w' Q A' m c' Ks ∧ m ≤ M ∧ (n = 0 ∨ M = 0 ∨ 1 ≤ m) ∧ (∀ K ∈ Ks, K.length ≤ 10) ∧ Below w.heap.size w w' := by
  obtain ⟨i0, hi, hz0, hz1, hz2⟩ := info_parts Tryz.infoInt
  go_enter Tryz.func13, Tryz.ntmps13
  go_wp2_with fail
  go_loopw [5, 6] (fun o i wr => ∃ (k c2 : Nat) (A2 : Option Addr) (hs : List HV) (Ks : List (List Int)), k ≤ n ∧ k ≤ M ∧ i = .int .i64 k ∧ o = .slice A2 k c2 ∧ HOwn wr w.heap.size A2 k c2 hs ∧ AllIs (HIs wr (Off Q ([] ++ ownL A2))) hs Ks ∧ (∀ K ∈ Ks, K.length ≤ 10) ∧ Below w.heap.size w wr) (fun _ i _ => M - (intOf i).toNat)
  case atStart => exact ⟨0, 0, _, [], [], Nat.zero_le _, Nat.zero_le _, rfl, rfl, gown_empty shH w _ _ rfl (Nat.le_refl _), AllIs.nil, (fun _ h => by cases h), below_alloc1 _ _⟩
  case round =>
    obtain ⟨k, c2, A2, hs, Ks, hk, hkM, rfl, rfl, hO50, hA50, hks, hT50⟩ := hrel
    have Hks := Lib.hid hks
    clear hks
    by_cases hlt : k < n
    rotate_left
    · skip
      have j1 : ¬ (k : Int) < (n : Int) := by omega
      go_wp2_with fail
      go_ret
      first | exact ⟨A2, k, c2, Ks, rfl, HSl.own hO50 (hA50.imp fun _ _ x => x.mono off_base), by omega, by omega, Hks.out, hT50⟩ | exact ⟨A2, k, c2, rfl, Ks, HSl.own hO50 (hA50.imp fun _ _ x => x.mono off_base), by omega, by omega, Hks.out, hT50⟩
    have j1 : (k : Int) < (n : Int) := by omega
    by_cases hltM : k < M
    rotate_left
    · skip
      have j2 : ¬ (k : Int) < (M : Int) := by omega
      go_wp2_with fail
      go_ret
      first | exact ⟨A2, k, c2, Ks, rfl, HSl.own hO50 (hA50.imp fun _ _ x => x.mono off_base), by omega, by omega, Hks.out, hT50⟩ | exact ⟨A2, k, c2, rfl, Ks, HSl.own hO50 (hA50.imp fun _ _ x => x.mono off_base), by omega, by omega, Hks.out, hT50⟩
    have j2 : (k : Int) < (M : Int) := by omega
    have j3 : decide ((k : Int) < (M : Int)) = true := by simpa using j2
    obtain ⟨ad, x, ea_, hc0, hX0⟩ := h.at_ hlt
    have hX := hX0.to hT50
    obtain ⟨H, hH_⟩ : ∃ H, Hs.getD k [] = H := ⟨_, rfl⟩
    rw [hH_] at hX
    clear hH_
    subst ea_
    rw [Nat.mul_one] at hc0
    have hc_ := hcell_to hc0 hT50
    obtain ⟨p, hp⟩ : ∃ p : Nat, min x.m 10 = p := ⟨_, rfl⟩
    have m1 : min (x.m : Int) 10 = (p : Int) := by omega
    have hpm : p ≤ x.m := by omega
    have hp10 : p ≤ 10 := by omega
    have hpc : p ≤ x.c := Nat.le_trans hpm hX.cap
    have j4 : (0 : Int) ≤ (p : Int) := by omega
    have j5 : (p : Int) ≤ (x.c : Int) := by omega
    clear hp
    have hrow : Row .i64 wr wr.heap.size x.a (H.take p) := by
      have := hX.row.sub_ 0 p (Nat.zero_le _) (by rw [hX.len]; exact hpm) (A' := x.a) (fun _ => by cases x.a <;> simp [Addr.add])
      simpa using this
    have Htl := Lib.hid (show (H.take p).length = p by rw [List.length_take, hX.len]; omega)
    go_wp2_with fail
    have hBd : Below wr.heap.size wr (wr.alloc (.cells #[] 3)).drew := below_then (below_alloc1 _ _) (below_drew1 _)
    refine wp_region_held_drew (S := fun W => W.cell? (ad.add k) = some (.slice x.a x.m x.c)) (by kernel_rfl) (by exact hcell_to hc_ (below_drew1 _)) (fun hHeld_ => ?_)
    refine wpAnyH_take' (i := 0) (v := ?vC14_0_0_) 19 rfl rfl (by kernel_rfl) (by kernel_rfl) (by kernel_rfl) (fun _ _ _ h => h) (Or.inl ⟨by kernel_rfl, ?hyC14_0_0_⟩) (by assumption) ?restC14_0_0_
    case hyC14_0_0_ => (intro W_ hS_; (try dsimp only at hS_); go_simp; (try (with_reducible rfl)))
    try simp only [Act.put, siA, scZ, scS]
    refine wpAnyH_take' (i := 2) (v := ?vC14_2_0_) 21 rfl rfl (by kernel_rfl) (by kernel_rfl) (by kernel_rfl) (fun _ _ _ h => h) (Or.inl ⟨by kernel_rfl, ?hyC14_2_0_⟩) (by assumption) ?restC14_2_0_
    case hyC14_2_0_ => (intro W_ hS_; (try dsimp only at hS_); go_simp; (try (with_reducible rfl)))
    try simp only [Act.put, siA, scZ, scS]
    refine wpAnyH_take' (i := 3) (v := ?vC14_3_0_) 22 rfl rfl (by kernel_rfl) (by kernel_rfl) (by kernel_rfl) (fun _ _ _ h => h) (Or.inl ⟨by kernel_rfl, ?hyC14_3_0_⟩) (by assumption) ?restC14_3_0_
    case hyC14_3_0_ => (intro W_ hS_; (try dsimp only at hS_); go_simp; (try (with_reducible rfl)))
    try simp only [Act.put, siA, scZ, scS]
    refine wpAnyH_take' (i := 4) (v := ?vC14_4_0_) 23 rfl rfl (by kernel_rfl) (by kernel_rfl) (by kernel_rfl) (fun _ _ _ h => h) (Or.inl ⟨by kernel_rfl, ?hyC14_4_0_⟩) (by assumption) ?restC14_4_0_
    case hyC14_4_0_ => (intro W_ hS_; (try dsimp only at hS_); go_simp; (try (with_reducible rfl)))
    try simp only [Act.put, siA, scZ, scS]
    refine wpAnyH_take' (i := 5) (v := ?vC14_5_0_) 24 rfl rfl (by kernel_rfl) (by kernel_rfl) (by kernel_rfl) (fun _ _ _ h => h) (Or.inl ⟨by kernel_rfl, ?hyC14_5_0_⟩) (by assumption) ?restC14_5_0_
    case hyC14_5_0_ => (intro W_ hS_; (try dsimp only at hS_); go_simp; (try (with_reducible rfl)))
    try simp only [Act.put, siA, scZ, scS]
    refine wpAnyH_take' (i := 6) (v := ?vC14_6_0_) 25 rfl rfl (by kernel_rfl) (by kernel_rfl) (by kernel_rfl) (fun _ _ _ h => h) (Or.inl ⟨by kernel_rfl, ?hyC14_6_0_⟩) (by assumption) ?restC14_6_0_
    case hyC14_6_0_ => (intro W_ hS_; (try dsimp only at hS_); go_simp; (try (with_reducible rfl)))
    try simp only [Act.put, siA, scZ, scS]
    refine wpAnyH_take' (i := 7) (v := ?vC14_7_0_) 26 rfl rfl (by kernel_rfl) (by kernel_rfl) (by kernel_rfl) (fun _ _ _ h => h) (Or.inl ⟨by kernel_rfl, ?hyC14_7_0_⟩) (by assumption) ?restC14_7_0_
    case hyC14_7_0_ => (intro W_ hS_; (try dsimp only at hS_); go_simp; (try (with_reducible rfl)))
    try simp only [Act.put, siA, scZ, scS]
    refine wpAnyH_take' (i := 8) (v := ?vC14_8_0_) 27 rfl rfl (by kernel_rfl) (by kernel_rfl) (by kernel_rfl) (fun _ _ _ h => h) (Or.inl ⟨by kernel_rfl, ?hyC14_8_0_⟩) (by assumption) ?restC14_8_0_
    case hyC14_8_0_ => (intro W_ hS_; (try dsimp only at hS_); go_simp; (try (with_reducible rfl)))
    try simp only [Act.put, siA, scZ, scS]
    refine wpAnyH_take' (i := 9) (v := ?vC14_9_0_) 28 rfl rfl (by kernel_rfl) (by kernel_rfl) (by kernel_rfl) (fun _ _ _ h => h) (Or.inl ⟨by kernel_rfl, ?hyC14_9_0_⟩) (by assumption) ?restC14_9_0_
    case hyC14_9_0_ => (intro W_ hS_; (try dsimp only at hS_); go_simp; (try (with_reducible rfl)))
    try simp only [Act.put, siA, scZ, scS]
    refine wpAnyH_take' (i := 10) (v := ?vC14_10_0_) 29 rfl rfl (by kernel_rfl) (by kernel_rfl) (by kernel_rfl) (fun _ _ _ h => h) (Or.inl ⟨by kernel_rfl, ?hyC14_10_0_⟩) (by assumption) ?restC14_10_0_
    case hyC14_10_0_ => (intro W_ hS_; (try dsimp only at hS_); go_simp; (try (with_reducible rfl)))
    try simp only [Act.put, siA, scZ, scS]
    refine wpAnyH_take' (i := 11) (v := ?vC14_11_0_) 30 rfl rfl (by kernel_rfl) (by kernel_rfl) (by kernel_rfl) (fun _ _ _ h => h) (Or.inl ⟨by kernel_rfl, ?hyC14_11_0_⟩) (by assumption) ?restC14_11_0_
    case hyC14_11_0_ => (intro W_ hS_; (try dsimp only at hS_); go_simp; (try (with_reducible rfl)))
    try simp only [Act.put, siA, scZ, scS]
    refine wpAnyH_take' (i := 12) (v := ?vC14_12_0_) 31 rfl rfl (by kernel_rfl) (by kernel_rfl) (by kernel_rfl) (fun _ _ _ h => h) (Or.inl ⟨by kernel_rfl, ?hyC14_12_0_⟩) (by assumption) ?restC14_12_0_
    case hyC14_12_0_ => (intro W_ hS_; (try dsimp only at hS_); go_simp; (try (with_reducible rfl)))
    try simp only [Act.put, siA, scZ, scS]
    refine wpAnyH_take' (i := 13) (v := ?vC14_13_0_) 32 rfl rfl (by kernel_rfl) (by kernel_rfl) (by kernel_rfl) (fun _ _ _ h => h) (Or.inl ⟨by kernel_rfl, ?hyC14_13_0_⟩) (by assumption) ?restC14_13_0_
    case hyC14_13_0_ => (intro W_ hS_; (try dsimp only at hS_); go_simp; (try (with_reducible rfl)))
    try simp only [Act.put, siA, scZ, scS]
    refine wpAnyH_take' (i := 14) (v := ?vC14_14_0_) 33 rfl rfl (by kernel_rfl) (by kernel_rfl) (by kernel_rfl) (fun _ _ _ h => h) (Or.inl ⟨by kernel_rfl, ?hyC14_14_0_⟩) (by assumption) ?restC14_14_0_
    case hyC14_14_0_ => (intro W_ hS_; (try dsimp only at hS_); go_simp; (try (with_reducible rfl)))
    try simp only [Act.put, siA, scZ, scS]
    refine wpAnyH_ready (rs := [1]) (by kernel_rfl) (by simp) ?_
    refine (AllReadyH.cons rfl (fun K_ hK_ => ?_) AllReadyH.nil)
    go_simp
    go_wp2_with fail
    refine hK_.out _ _ (by exact hcell_to hc_ hBd) (fun hHeld_1_0 => ?_)
    clear hK_
    try simp only [Act.put, siA, scZ, scS]
    refine wpAnyH_ready (rs := [15]) (by kernel_rfl) (by simp) ?_
    refine (AllReadyH.cons rfl (fun K_ hK_ => ?_) AllReadyH.nil)
    refine step_append_row .i64 rfl _ _ 39 rfl wr.heap.size 3 i0 (.int .i64 0) 8 Tryz.underlying39 hi hz0 hz1 hz2 rfl _ 0 [] rfl (own_to (own_empty .i64 wr _ _ 3 rfl (Nat.le_refl _)) (below_drew1 _)) _ _ _ _ (H.take p) rfl Htl.out (hrow.below hBd) (by unfold maxLen; omega) (by omega) hBd.size ?_
    intro A5 c5 w5 hown5 hc5 hB5
    simp only [Nat.zero_add, List.nil_append] at hown5 hc5 ⊢
    have hBk5 : Below wr.heap.size wr w5 := hBd.trans hB5
    have hOx : HOwn (w5.alloc (.cells #[.slice A5 p c5] 41)) w.heap.size A2 k c2 hs := GOwn.to (GOwn.to hO50 hBk5) (below_alloc1 _ _)
    have hAx : AllIs (HIs (w5.alloc (.cells #[.slice A5 p c5] 41)) (Off Q ([] ++ ownL A2))) hs Ks := hA50.imp fun _ _ y => (y.to hBk5).to (below_alloc1 _ _)
    have hYx : HIs (w5.alloc (.cells #[.slice A5 p c5] 41)) (Off Q ([] ++ ownL A2)) ⟨A5, p, c5⟩ (H.take p) := HIs.to ⟨Htl.out, hc5, Row.own hown5, own_inP hown5 (off_up hO50 (L := []) (fun _ h => by cases h) hP hT50.size) p⟩ (below_alloc1 _ _)
    have hTx := below_then (below_then hT50 hBk5) (below_alloc1 w5 (.cells #[.slice A5 p c5] 41))
    refine hK_.out _ _ (by exact hcell_to hc_ hBk5) (fun hHeld_15_1 => ?_)
    clear hK_
    try simp only [Act.put, siA, scZ, scS]
    refine wpAnyH_take' (i := 16) (v := ?vC14_16_2_1_15) 35 rfl rfl (by kernel_rfl) (by kernel_rfl) (by kernel_rfl) (fun _ _ _ h => h) (Or.inl ⟨by kernel_rfl, ?hyC14_16_2_1_15⟩) (by assumption) ?restC14_16_2_1_15
    case hyC14_16_2_1_15 => (intro W_ hS_; (try dsimp only at hS_); go_simp; (try (with_reducible rfl)))
    try simp only [Act.put, siA, scZ, scS]
    refine wpAnyH_ready (rs := [17]) (by kernel_rfl) (by simp) ?_
    refine (AllReadyH.cons rfl (fun K_ hK_ => ?_) AllReadyH.nil)
    go_simp
    go_wp2_with fail
    refine hK_.out _ _ (by exact hcell_to hc_ (below_then hBk5 (below_alloc1 _ _))) (fun hHeld_17_2 => ?_)
    clear hK_
    try simp only [Act.put, siA, scZ, scS]
    refine wpAnyH_ready (rs := [18]) (by kernel_rfl) (by simp) ?_
    refine (AllReadyH.cons rfl (fun K_ hK_ => ?_) AllReadyH.nil)
    refine step_append_g shH Tryz.infoH rfl _ _ rfl w.heap.size A2 k c2 hs rfl hOx _ 1 _ _ [(⟨A5, p, c5⟩ : HV)] rfl rfl (GRow.lit w5 [(⟨A5, p, c5⟩ : HV)] rfl rfl) (by omega) hTx.size 37 rfl ?_
    intro A6 c6 w6 hown6 hc6 hg6 he6 hB6
    refine hK_.out _ _ (by exact hcell_to hc0 (hTx.trans hB6)) (fun hHeld_18_3 => ?_)
    clear hK_
    try simp only [Act.put, siA, scZ, scS]
    refine wpAnyH_take' (i := 19) (v := ?vC14_19_4_1_15_17_18) 5 rfl rfl (by kernel_rfl) (by kernel_rfl) (by kernel_rfl) (fun _ _ _ h => h) (Or.inl ⟨by kernel_rfl, ?hyC14_19_4_1_15_17_18⟩) (by assumption) ?restC14_19_4_1_15_17_18
    case hyC14_19_4_1_15_17_18 => (intro W_ hS_; (try dsimp only at hS_); go_simp; (try (with_reducible rfl)))
    try simp only [Act.put, siA, scZ, scS]
    refine wpAnyH_done (by kernel_rfl) ?_ _
    skip
    have hA90 := AllIs.append (hsis_off hAx hg6 he6) (AllIs.one (his_off hYx hg6 he6))
    go_wp2_with fail
    go_round
    case measure => simp [intOf]; omega
    exact ⟨k + 1, c6, A6, hs ++ [⟨A5, p, c5⟩], Ks ++ [H.take p], by omega, by omega, by go_num, rfl, hown6, hA90, (fun K hK => by rcases List.mem_append.1 hK with h_ | h_; exact Hks.out K h_; simp at h_; subst h_; rw [Htl.out]; exact hp10), hTx.trans hB6⟩
end Go.Proofs.YtcifjccojmfpaaaGreat

namespace Go.Proofs.YtcifjccojmfpaaaGreat
open Go.RowKit
set_option linter.unusedVariables false
set_option linter.unusedSimpArgs false
def TAt (w : World) (a : Addr) (n : TV) : Prop :=
  w.cell? a = some (.int .i64 n.w) ∧ w.cell? ⟨a.block, a.off + 1, none⟩ = some (.bool n.f.x) ∧ w.cell? ⟨a.block, a.off + 2, none⟩ = some (.int .i64 n.f.i) ∧ w.cell? ⟨a.block, a.off + 3, none⟩ = some (.bool n.f.r) ∧ w.cell? ⟨a.block, a.off + 4, none⟩ = some (.int .i64 n.f.n) ∧ w.cell? ⟨a.block, a.off + 5, none⟩ = some (.slice n.f.a n.f.m n.f.c) ∧ w.cell? ⟨a.block, a.off + 6, none⟩ = some (.bool n.ok) ∧ w.cell? ⟨a.block, a.off + 7, none⟩ = some (.int .i64 n.b)
theorem tat_of {w : World} {a : Addr} {n : TV} (h : GAt TV.cs w a n) : TAt w a n := by
  have e : ∀ i, 0 < i → a.add i = ⟨a.block, a.off + i, none⟩ := fun i hi => add_pos a i hi
  refine ⟨?_, ?_, ?_, ?_, ?_, ?_, ?_, ?_⟩
  · have := h 0 _ rfl; rwa [add_zero] at this
  · have := h 1 _ rfl; rwa [e 1 (by omega)] at this
  · have := h 2 _ rfl; rwa [e 2 (by omega)] at this
  · have := h 3 _ rfl; rwa [e 3 (by omega)] at this
  · have := h 4 _ rfl; rwa [e 4 (by omega)] at this
  · have := h 5 _ rfl; rwa [e 5 (by omega)] at this
  · have := h 6 _ rfl; rwa [e 6 (by omega)] at this
  · have := h 7 _ rfl; rwa [e 7 (by omega)] at this
theorem tat_to {w w' : World} {a : Addr} {n : TV} (h : TAt w a n) (b : Below w.heap.size w w') : TAt w' a n := by
  obtain ⟨h0, h1, h2, h3, h4, h5, h6, h7⟩ := h
  have k : ∀ (p : Addr) (v : Value), w.cell? p = some v → w'.cell? p = some v := fun p v hv => by rw [b.cell (World.block_lt_of_cell? _ _ hv)]; exact hv
  exact ⟨k _ _ h0, k _ _ h1, k _ _ h2, k _ _ h3, k _ _ h4, k _ _ h5, k _ _ h6, k _ _ h7⟩
abbrev zeroT : TC := ⟨0, zeroF, false, 0⟩
theorem TSl.at_ {w : World} {P : Nat → Prop} {A : Option Addr} {n c : Nat} {Ts : List TC} (h : TSl w P A n c Ts) {k : Nat} (hk : k < n) : ∃ ad x, A = some ad ∧ TAt w (ad.add (k * 8)) x ∧ TIs w P x (Ts.getD k zeroT) := by
  obtain ⟨ns, h1, h2⟩ := h.row
  have hk2 : k < Ts.length := by rw [h.len]; exact hk
  have e : Ts[k]? = some (Ts.getD k zeroT) := by simp [List.getD, List.getElem?_eq_getElem hk2]
  obtain ⟨x, hx, hi⟩ := h2.at_ e
  obtain ⟨ad, e', _, ha⟩ := h1.at_lt shT hx
  exact ⟨ad, x, e', tat_of ha, hi⟩
theorem sameT_c {w : World} {P P' : Nat → Prop} {a b : TV} {T : TC} (h : TIs w P a T) (h' : TIs w P' b T) :
    Calls Tryz.prog 20 #[a.v, b.v] w fun e w' => e = .returned (.bool true) ∧ Below w.heap.size w w' := by
  obtain ⟨aw, af, aok, ab⟩ := a
  obtain ⟨bw, bf, bok, bb⟩ := b
  obtain rfl : aw = bw := h.win.trans h'.win.symm
  obtain rfl : aok = bok := h.ok.trans h'.ok.symm
  obtain rfl : ab = bb := h.b.trans h'.b.symm
  have hf := h.f
  have hf' := h'.f
  dsimp only at hf hf'
  have d1 : (aw == aw) = true := by simp
  have d2 : (ab == ab) = true := by simp
  have d3 : (aok == aok) = true := by simp
  clear h h'
  obtain ⟨w0, hw0⟩ : ∃ w0, ((w.alloc (.cells #[.int .i64 aw, .bool af.x, .int .i64 af.i, .bool af.r, .int .i64 af.n, .slice af.a af.m af.c, .bool aok, .int .i64 ab] 36)).alloc (.cells #[.int .i64 aw, .bool bf.x, .int .i64 bf.i, .bool bf.r, .int .i64 bf.n, .slice bf.a bf.m bf.c, .bool aok, .int .i64 ab] 36)) = w0 := ⟨_, rfl⟩
  have hT0 : Below w.heap.size w w0 := by rw [← hw0]; exact below_then (below_alloc1 _ _) (below_alloc1 _ _)
  have ha0 : w0.heap[w.heap.size]? = some (.cells #[.int .i64 aw, .bool af.x, .int .i64 af.i, .bool af.r, .int .i64 af.n, .slice af.a af.m af.c, .bool aok, .int .i64 ab] 36) := by rw [← hw0]; exact block_below (below_alloc1 _ _) (World.alloc_heap_new _ _)
  have hb0 : w0.heap[(w.heap.size + 1)]? = some (.cells #[.int .i64 aw, .bool bf.x, .int .i64 bf.i, .bool bf.r, .int .i64 bf.n, .slice bf.a bf.m bf.c, .bool aok, .int .i64 ab] 36) := by rw [← hw0]; exact alloc_at _ _ (by simp)
  have hs0 : w0.heap.size = w.heap.size + 2 := by rw [← hw0]; simp
  have Hs0 := Lib.hid hs0
  clear hs0
  have hla := (Array.getElem?_eq_some_iff.1 ha0).1
  obtain ⟨ac0, ac1, ac2, ac3, ac4, ac5, ac6, ac7⟩ := cells8' ha0
  have hlb := (Array.getElem?_eq_some_iff.1 hb0).1
  obtain ⟨bc0, bc1, bc2, bc3, bc4, bc5, bc6, bc7⟩ := cells8' hb0
  go_enter Tryz.func20, Tryz.ntmps20
  go_wp2_with fail
  clear hla ac0 ac1 ac2 ac3 ac4 ac5 ac6 ac7 hlb bc0 bc1 bc2 bc3 bc4 bc5 bc6 bc7
  clear hw0
  have hZ0 := Below.refl w0.heap.size w0
  refine (refFrSame_c (hf.to hT0) (hf'.to hT0) true (by simp [sameF])).mono ?_
  rintro e w1 ⟨rfl, hB1⟩
  have hT1 := below_then hT0 hB1
  have hZ1 := below_then hZ0 hB1
  clear hZ0
  have ha1 := block_below hB1 ha0
  have hb1 := block_below hB1 hb0
  clear hT0 ha0 hb0  hB1
  have hla := (Array.getElem?_eq_some_iff.1 ha1).1
  obtain ⟨ac0, ac1, ac2, ac3, ac4, ac5, ac6, ac7⟩ := cells8' ha1
  have hlb := (Array.getElem?_eq_some_iff.1 hb1).1
  obtain ⟨bc0, bc1, bc2, bc3, bc4, bc5, bc6, bc7⟩ := cells8' hb1
  go_wp2_with fail
  clear hla ac0 ac1 ac2 ac3 ac4 ac5 ac6 ac7 hlb bc0 bc1 bc2 bc3 bc4 bc5 bc6 bc7
  go_ret
  exact ⟨rfl, hT1⟩
end Go.Proofs.YtcifjccojmfpaaaGreat

namespace Go.Proofs.YtcifjccojmfpaaaGreat
open Go.ChangeShapes Go.WideShapes Go.ChangeAt Go.RowKit
set_option linter.unusedVariables false
theorem cells_fr : Tryz.prog.cellsOf 34 = 5 := by kernel_rfl
theorem cells_fl : Tryz.prog.cellsOf 85 = 3 := by kernel_rfl
theorem cells_nd : Tryz.prog.cellsOf 49 = 7 := by kernel_rfl
theorem cells_ct : Tryz.prog.cellsOf 47 = 4 := by kernel_rfl
theorem cells_bool : Tryz.prog.cellsOf 4 = 1 := by kernel_rfl
theorem cells_int : Tryz.prog.cellsOf 3 = 1 := by kernel_rfl
theorem cells_bytes : Tryz.prog.cellsOf 32 = 1 := by kernel_rfl
theorem cells_byte : Tryz.prog.cellsOf 5 = 1 := by kernel_rfl
theorem cells_frs : Tryz.prog.cellsOf 44 = 1 := by kernel_rfl
theorem cells_fls : Tryz.prog.cellsOf 45 = 1 := by kernel_rfl
instance : Inhabited FL := ⟨⟨false, 0, 0⟩⟩
instance : Inhabited FV := ⟨zeroFV⟩
instance : Inhabited FC := ⟨zeroF⟩
abbrev Any_ : Nat → Prop := fun _ => True
theorem u8_of {z : Int} (h : (Lit.int .u8 z).wf = true) : 0 ≤ z ∧ z ≤ 255 := bounds_u8 h
def Wide (f : FL) : Prop := (-9223372036854775808 ≤ f.k ∧ f.k < 9223372036854775808) ∧ (-9223372036854775808 ≤ f.m ∧ f.m < 9223372036854775808)
section
variable {H : Type} {enc : TypeId × Value → H} {W : World}
theorem open_data {fuel : Nat} {v : Value} {y : DataW H × List MemPlace} (h : DataW.trod enc Tryz.prog W 0 (fun _ => true) true fuel 32 [v] = some y) :
    ∃ (a : Option Addr) (len cap : Nat) (dl : List Int), v = .slice a len cap ∧ dl.length = len ∧ Row .u8 W W.heap.size a dl ∧ byteB dl ∧ len ≤ cap ∧ cap ≤ maxLen := by
  rcases open_ints Tryz.underlying32 Tryz.underlying5 cells_byte h with ⟨hcs, _⟩ | ⟨x, l, c, zs, hcs, _, hl, hm, hz, _, hcell, hwz⟩
  · cases hcs
    exact ⟨none, 0, 0, [], rfl, rfl, .inl rfl, (by simp [byteB]), Nat.le_refl _, by decide⟩
  · cases hcs
    obtain ⟨dl, h1, h2, h3, h4, h5⟩ := row_of_arg (k := .u8) (w := W) (a := some x) (len := l) (cap := c) (zs := zs) (.inr ⟨x, rfl, hl, hm, by simpa using hz, hcell, hwz⟩)
    exact ⟨some x, l, c, dl, rfl, h1, h2, fun z hz => u8_of (h5 z hz), h3, h4⟩
theorem open_fr {fuel : Nat} {cs : List Value} {y : DataW H × List MemPlace} (hl : cs.length = 5) (hf : DataW.trod enc Tryz.prog W 0 (fun _ => true) true fuel 34 cs = some y) : ∃ (f : FV) (F : FC), cs = f.cs ∧ FIs W Any_ f F := by
  match cs, hl with
  | [e0, e1, e2, e3, e4], _ =>
    obtain ⟨xs, n, _, _, _, hlen, hg⟩ := DataW.trod_struct Tryz.underlying34 hf
    match xs, hlen with
    | [y0, y1, y2, y3, y4], _ =>
      have g0 : DataW.trod enc Tryz.prog W 0 (fun _ => true) true n 4 [e0] = some y0 := by simpa [Value.cells, cells_bool] using hg 0 _ rfl
      have g1 : DataW.trod enc Tryz.prog W 0 (fun _ => true) true n 3 [e1] = some y1 := by simpa [Value.cells, cells_int] using hg 1 _ rfl
      have g2 : DataW.trod enc Tryz.prog W 0 (fun _ => true) true n 4 [e2] = some y2 := by simpa [Value.cells, cells_bool] using hg 2 _ rfl
      have g3 : DataW.trod enc Tryz.prog W 0 (fun _ => true) true n 3 [e3] = some y3 := by simpa [Value.cells, cells_int] using hg 3 _ rfl
      have g4 : DataW.trod enc Tryz.prog W 0 (fun _ => true) true n 32 [e4] = some y4 := by simpa [Value.cells, cells_bytes] using hg 4 _ rfl
      obtain ⟨x, hx, _⟩ := DataW.trod_bool Tryz.underlying4 g0
      obtain ⟨i, hi, _⟩ := DataW.trod_int Tryz.underlying3 g1
      obtain ⟨r, hr, _⟩ := DataW.trod_bool Tryz.underlying4 g2
      obtain ⟨m, hm, _⟩ := DataW.trod_int Tryz.underlying3 g3
      obtain ⟨a, len, cap, dl, hd, h1, h2, h3, h4, h5⟩ := open_data g4
      cases hx; cases hi; cases hr; cases hm; cases hd
      exact ⟨⟨x, i, r, m, a, len, cap⟩, ⟨x, i, r, m, dl⟩, rfl, ⟨rfl, rfl, rfl, rfl, h1, h4, Nat.le_trans h4 h5, h3, h2, fun _ _ _ => trivial⟩⟩
theorem open_fl {fuel : Nat} {cs : List Value} {y : DataW H × List MemPlace} (hl : cs.length = 3) (hf : DataW.trod enc Tryz.prog W 0 (fun _ => true) true fuel 85 cs = some y) : ∃ f : FL, cs = f.cs ∧ Wide f := by
  match cs, hl with
  | [e0, e1, e2], _ =>
    obtain ⟨xs, n, _, _, _, hlen, hg⟩ := DataW.trod_struct Tryz.underlying85 hf
    match xs, hlen with
    | [y0, y1, y2], _ =>
      have g0 : DataW.trod enc Tryz.prog W 0 (fun _ => true) true n 4 [e0] = some y0 := by simpa [Value.cells, cells_bool] using hg 0 _ rfl
      have g1 : DataW.trod enc Tryz.prog W 0 (fun _ => true) true n 3 [e1] = some y1 := by simpa [Value.cells, cells_int] using hg 1 _ rfl
      have g2 : DataW.trod enc Tryz.prog W 0 (fun _ => true) true n 3 [e2] = some y2 := by simpa [Value.cells, cells_int] using hg 2 _ rfl
      obtain ⟨x, hx, _⟩ := DataW.trod_bool Tryz.underlying4 g0
      obtain ⟨k, hk, _, wk⟩ := DataW.trod_int Tryz.underlying3 g1
      obtain ⟨m, hm, _, wm⟩ := DataW.trod_int Tryz.underlying3 g2
      cases hx; cases hk; cases hm
      have b1 := bounds_i64 wk
      have b2 := bounds_i64 wm
      exact ⟨⟨x, k, m⟩, rfl, ⟨b1.1, by have := b1.2; dsimp only; omega⟩, ⟨b2.1, by have := b2.2; dsimp only; omega⟩⟩
theorem open_fls {fuel : Nat} {v : Value} {y : DataW H × List MemPlace} (hf : DataW.trod enc Tryz.prog W 0 (fun _ => true) true fuel 45 [v] = some y) :
    ∃ (a : Option Addr) (len cap : Nat) (fs : List FL), v = .slice a len cap ∧ LSl W Any_ a len cap fs := by
  rcases Go.Deep.open_slice Tryz.underlying45 hf with ⟨hcs, _⟩ | ⟨x, l, c, m, n, D, Pl, hcs, _, hl, hm, hmm, _, hx⟩
  · cases hcs
    exact ⟨none, 0, 0, [], rfl, LSl.none_⟩
  · cases hcs
    simp only [if_true] at hmm
    subst hmm
    rw [cells_fl] at hx
    obtain ⟨F, hF⟩ := Go.Deep.choose_lt (α := FL) (n := m) (p := fun i f => LAt W (x.add (i * 3)) f ∧ Wide f) (fun i hi => by
      obtain ⟨cs', h1, h2⟩ := hx i hi
      obtain ⟨_, hlen, hcell⟩ := World.cells?_some h1
      obtain ⟨f, rfl, hd⟩ := open_fl hlen h2
      refine ⟨f, ⟨?_, ?_, ?_⟩, hd⟩
      · have := hcell 0 (by omega)
        simpa [FL.cs, Addr.add] using this
      · have := hcell 1 (by omega)
        rw [add_pos _ 1 (by omega)] at this
        simpa [FL.cs] using this
      · have := hcell 2 (by omega)
        rw [add_pos _ 2 (by omega)] at this
        simpa [FL.cs] using this)
    refine ⟨some x, l, m, (List.range l).map F, rfl, by simp, hl, Nat.le_trans hl hm, ?_, ?_, fun _ _ _ => trivial⟩
    · intro f hf
      obtain ⟨j, hj, rfl⟩ := List.mem_map.1 hf
      exact (hF j (by have := List.mem_range.1 hj; omega)).2.2
    · by_cases h0 : l = 0
      · left; simp [h0]
      · right
        refine ⟨x, rfl, ?_, fun k f hf => ?_⟩
        · have := World.block_lt_of_cell? W _ (hF 0 (by omega)).1.1
          rwa [addr_block] at this
        · rw [List.getElem?_map, Option.map_eq_some_iff] at hf
          obtain ⟨j, hj, rfl⟩ := hf
          have hk := (List.getElem?_eq_some_iff.1 hj).1
          rw [List.getElem?_range (by simpa using hk)] at hj
          obtain rfl := Option.some.inj hj
          exact (hF k (by simp at hk; omega)).1
theorem open_frs {fuel : Nat} {v : Value} {y : DataW H × List MemPlace} (hf : DataW.trod enc Tryz.prog W 0 (fun _ => true) true fuel 44 [v] = some y) :
    ∃ (a : Option Addr) (len cap : Nat) (Fs : List FC), v = .slice a len cap ∧ FSl W Any_ a len cap Fs := by
  rcases Go.Deep.open_slice Tryz.underlying44 hf with ⟨hcs, _⟩ | ⟨x, l, c, m, n, D, Pl, hcs, _, hl, hm, hmm, _, hx⟩
  · cases hcs
    exact ⟨none, 0, 0, [], rfl, FSl.none_⟩
  · cases hcs
    simp only [if_true] at hmm
    subst hmm
    rw [cells_fr] at hx
    obtain ⟨F, hF⟩ := Go.Deep.choose_lt (α := FV × FC) (n := m) (p := fun i f => FAt W (x.add (i * 5)) f.1 ∧ FIs W Any_ f.1 f.2) (fun i hi => by
      obtain ⟨cs', h1, h2⟩ := hx i hi
      obtain ⟨_, hlen, hcell⟩ := World.cells?_some h1
      obtain ⟨f, F, rfl, hd⟩ := open_fr hlen h2
      refine ⟨(f, F), ⟨?_, ?_, ?_, ?_, ?_⟩, hd⟩
      · have := hcell 0 (by omega)
        simpa [FV.cs, Addr.add] using this
      · have := hcell 1 (by omega)
        rw [add_pos _ 1 (by omega)] at this
        simpa [FV.cs] using this
      · have := hcell 2 (by omega)
        rw [add_pos _ 2 (by omega)] at this
        simpa [FV.cs] using this
      · have := hcell 3 (by omega)
        rw [add_pos _ 3 (by omega)] at this
        simpa [FV.cs] using this
      · have := hcell 4 (by omega)
        rw [add_pos _ 4 (by omega)] at this
        simpa [FV.cs] using this)
    refine ⟨some x, l, m, (List.range l).map (fun j => (F j).2), rfl, by simp, hl, Nat.le_trans hl hm, ⟨(List.range l).map (fun j => (F j).1), ?_, by simp, ?_⟩, fun _ _ _ => trivial⟩
    · by_cases h0 : l = 0
      · left; simp [h0]
      · right
        refine ⟨x, rfl, ?_, fun k f hf => ?_⟩
        · have := World.block_lt_of_cell? W _ (hF 0 (by omega)).1.1
          rwa [addr_block] at this
        · rw [List.getElem?_map, Option.map_eq_some_iff] at hf
          obtain ⟨j, hj, rfl⟩ := hf
          have hk := (List.getElem?_eq_some_iff.1 hj).1
          rw [List.getElem?_range (by simpa using hk)] at hj
          obtain rfl := Option.some.inj hj
          exact (hF k (by simp at hk; omega)).1
    · intro k f G h1 h2
      rw [List.getElem?_map, Option.map_eq_some_iff] at h1 h2
      obtain ⟨j, hj, rfl⟩ := h1
      obtain ⟨j', hj', rfl⟩ := h2
      obtain rfl := Option.some.inj (hj.symm.trans hj')
      have hk := (List.getElem?_eq_some_iff.1 hj).1
      rw [List.getElem?_range (by simpa using hk)] at hj
      obtain rfl := Option.some.inj hj
      exact (hF k (by simp at hk; omega)).2
theorem open_ct {fuel : Nat} {e0 e1 e2 e3 : Value} {y : DataW H × List MemPlace} (hf : DataW.trod enc Tryz.prog W 0 (fun _ => true) true fuel 47 [e0, e1, e2, e3] = some y) :
    ∃ c : CV, e0 = .int .i64 c.t ∧ e1 = .int .i64 c.r ∧ e2 = .int .i64 c.s ∧ e3 = .int .i64 c.q := by
  obtain ⟨xs, n, _, _, _, hlen, hg⟩ := DataW.trod_struct Tryz.underlying47 hf
  match xs, hlen with
  | [y0, y1, y2, y3], _ =>
    have g0 : DataW.trod enc Tryz.prog W 0 (fun _ => true) true n 3 [e0] = some y0 := by simpa [Value.cells, cells_int] using hg 0 _ rfl
    have g1 : DataW.trod enc Tryz.prog W 0 (fun _ => true) true n 3 [e1] = some y1 := by simpa [Value.cells, cells_int] using hg 1 _ rfl
    have g2 : DataW.trod enc Tryz.prog W 0 (fun _ => true) true n 3 [e2] = some y2 := by simpa [Value.cells, cells_int] using hg 2 _ rfl
    have g3 : DataW.trod enc Tryz.prog W 0 (fun _ => true) true n 3 [e3] = some y3 := by simpa [Value.cells, cells_int] using hg 3 _ rfl
    obtain ⟨t, ht, _⟩ := DataW.trod_int Tryz.underlying3 g0
    obtain ⟨r, hr, _⟩ := DataW.trod_int Tryz.underlying3 g1
    obtain ⟨s, hs, _⟩ := DataW.trod_int Tryz.underlying3 g2
    obtain ⟨q, hq, _⟩ := DataW.trod_int Tryz.underlying3 g3
    cases ht; cases hr; cases hs; cases hq
    exact ⟨⟨t, r, s, q⟩, rfl, rfl, rfl, rfl⟩
end
end Go.Proofs.YtcifjccojmfpaaaGreat

namespace Go.Proofs.YtcifjccojmfpaaaGreat
open Go.ChangeShapes Go.WideShapes Go.ChangeAt Go.RowKit
set_option linter.unusedVariables false
theorem cells_ht : Tryz.prog.cellsOf 41 = 1 := by kernel_rfl
theorem cells_ints : Tryz.prog.cellsOf 39 = 1 := by kernel_rfl
instance : Inhabited NV := ⟨zeroNV⟩
instance : Inhabited NC := ⟨zeroN⟩
instance : Inhabited HV := ⟨⟨none, 0, 0⟩⟩
theorem grow_of {V : Type} {cs : V → List Value} {sz : Nat} (S : Shape cs sz) {w : World} {B : Nat} {ad : Addr} {vs : List V} (hb : ad.block < B) (h : ∀ (k : Nat) (v : V), vs[k]? = some v → GAt cs w (ad.add (k * sz)) v) : GRow cs w B (some ad) vs := by
  refine .inr ⟨ad, rfl, hb, fun j u hu => ?_⟩
  have hj : j < vs.length * sz := by rw [← gcells_len S]; exact (List.getElem?_eq_some_iff.1 hu).1
  have hp := S.pos
  have hk : j / sz < vs.length := Nat.div_lt_of_lt_mul (by rw [Nat.mul_comm]; exact hj)
  have hr : j % sz < (cs vs[j / sz]).length := by rw [S.len]; exact Nat.mod_lt _ hp
  have h1 := gcells_at S vs (j / sz) _ (List.getElem?_eq_getElem hk) (j % sz) _ (List.getElem?_eq_getElem hr)
  have e : j / sz * sz + j % sz = j := by rw [Nat.mul_comm, Nat.div_add_mod]
  rw [e, hu] at h1
  have h2 := h (j / sz) _ (List.getElem?_eq_getElem hk) (j % sz) _ (List.getElem?_eq_getElem hr)
  rw [addr_add, e] at h2
  rw [h2]; exact h1.symm
section
variable {H : Type} {enc : TypeId × Value → H} {W : World}
theorem open_nd {fuel : Nat} {l : List Value} {y : DataW H × List MemPlace} (hl : l.length = 7) (hf' : DataW.trod enc Tryz.prog W 0 (fun _ => true) true fuel 49 l = some y) :
    ∃ (n : NV) (N : NC), l = n.cs ∧ NIs W Any_ n N := by
  match l, hl, hf' with
  | [e0, e1, e2, e3, e4, e5, e6], _, hf' =>
    obtain ⟨xs, n, _, _, _, hlen, hg⟩ := DataW.trod_struct Tryz.underlying49 hf'
    match xs, hlen with
    | [y0, y1, y2, y3], _ =>
      have g0 : DataW.trod enc Tryz.prog W 0 (fun _ => true) true n 44 [e0] = some y0 := by simpa [Value.cells, cells_frs] using hg 0 _ rfl
      have g1 : DataW.trod enc Tryz.prog W 0 (fun _ => true) true n 45 [e1] = some y1 := by simpa [Value.cells, cells_fls] using hg 1 _ rfl
      have g2 : DataW.trod enc Tryz.prog W 0 (fun _ => true) true n 47 [e2, e3, e4, e5] = some y2 := by simpa [Value.cells, cells_ct] using hg 2 _ rfl
      have g3 : DataW.trod enc Tryz.prog W 0 (fun _ => true) true n 44 [e6] = some y3 := by simpa [Value.cells, cells_frs] using hg 3 _ rfl
      obtain ⟨qa, qm, qc, Q, rfl, hq⟩ := open_frs g0
      obtain ⟨la, lm, lc, ls, rfl, hls⟩ := open_fls g1
      obtain ⟨c, rfl, rfl, rfl, rfl⟩ := open_ct g2
      obtain ⟨ga, gm, gc, G, rfl, hgg⟩ := open_frs g3
      exact ⟨⟨qa, qm, qc, la, lm, lc, c, ga, gm, gc⟩, ⟨Q, ls, c, G⟩, rfl, ⟨hq, hls, rfl, hgg⟩⟩
theorem open_ht {fuel : Nat} {l : List Value} {y : DataW H × List MemPlace} (hl : l.length = 1) (hf' : DataW.trod enc Tryz.prog W 0 (fun _ => true) true fuel 41 l = some y) :
    ∃ (x : HV) (K : List Int), l = x.cs ∧ HIs W Any_ x K := by
  match l, hl, hf' with
  | [e0], _, hf' =>
    obtain ⟨xs, n, _, _, _, hlen, hg⟩ := DataW.trod_struct Tryz.underlying41 hf'
    match xs, hlen with
    | [y0], _ =>
      have g0 : DataW.trod enc Tryz.prog W 0 (fun _ => true) true n 39 [e0] = some y0 := by simpa [Value.cells, cells_ints] using hg 0 _ rfl
      rcases open_ints Tryz.underlying39 Tryz.underlying3 cells_int g0 with ⟨hcs, _⟩ | ⟨x, l, c, zs, hcs, _, hl, hm, hz, _, hcell, hwz⟩
      · cases hcs
        exact ⟨⟨none, 0, 0⟩, [], rfl, ⟨rfl, Nat.le_refl _, .inl rfl, fun _ _ _ => trivial⟩⟩
      · cases hcs
        obtain ⟨dl, h1, h2, h3, h4, _⟩ := row_of_arg (k := .i64) (w := W) (a := some x) (len := l) (cap := c) (zs := zs) (.inr ⟨x, rfl, hl, hm, by simpa using hz, hcell, hwz⟩)
        exact ⟨⟨some x, l, c⟩, dl, rfl, ⟨h1, h3, h2, fun _ _ _ => trivial⟩⟩
theorem open_nodes10 {base : Nat} {v : Value} {d : DataW H} {p : List MemPlace} (hv : Value.okWide Tryz.prog W .any base 22 v) (h : DataW.Trod enc Tryz.prog W 0 (fun _ => true) true 22 v d p) :
    ∃ (a : Option Addr) (len cap : Nat) (Ns : List NC), v = .slice a len cap ∧ NSl W Any_ a len cap Ns := by
  obtain ⟨a, len, cap, rfl⟩ := okWide_slice Tryz.underlying22 hv
  obtain ⟨fuel, hf⟩ := h
  have hf' : DataW.trod enc Tryz.prog W 0 (fun _ => true) true fuel 22 [.slice a len cap] = some (d, p) := by simpa [Value.cells] using hf
  rcases Go.Deep.open_slice Tryz.underlying22 hf' with ⟨hcs, _⟩ | ⟨x, l, c, m, n, D, Pl, hcs, _, hl, hm, hmm, _, hx⟩
  · cases hcs
    exact ⟨none, 0, 0, [], rfl, NSl.none_⟩
  · cases hcs
    simp only [if_true] at hmm
    subst hmm
    rw [cells_nd] at hx
    obtain ⟨F, hF⟩ := Go.Deep.choose_lt (α := NV × NC) (n := m) (p := fun i f => GAt NV.cs W (x.add (i * 7)) f.1 ∧ NIs W Any_ f.1 f.2) (fun i hi => by
      obtain ⟨cs', h1, h2⟩ := hx i hi
      obtain ⟨_, hlen, hcell⟩ := World.cells?_some h1
      obtain ⟨f, F, rfl, hd⟩ := open_nd hlen h2
      refine ⟨(f, F), fun j u hu => ?_, hd⟩
      rw [hcell j (by rw [← hlen]; exact (List.getElem?_eq_some_iff.1 hu).1)]; exact hu)
    refine ⟨some x, len, m, (List.range len).map (fun j => (F j).2), rfl, by simp, hl, Nat.le_trans hl hm, ⟨(List.range len).map (fun j => (F j).1), ?_, by simp, ?_⟩, fun _ _ _ => trivial⟩
    · by_cases h0 : len = 0
      · left; simp [h0]
      · refine grow_of shN ?_ (fun k f hf => ?_)
        · have := World.block_lt_of_cell? W _ ((hF 0 (by omega)).1 0 _ rfl)
          rwa [addr_block, addr_block] at this
        · rw [List.getElem?_map, Option.map_eq_some_iff] at hf
          obtain ⟨j, hj, rfl⟩ := hf
          have hk := (List.getElem?_eq_some_iff.1 hj).1
          rw [List.getElem?_range (by simpa using hk)] at hj
          obtain rfl := Option.some.inj hj
          exact (hF k (by simp at hk; omega)).1
    · intro k f G h1 h2
      rw [List.getElem?_map, Option.map_eq_some_iff] at h1 h2
      obtain ⟨j, hj, rfl⟩ := h1
      obtain ⟨j', hj', rfl⟩ := h2
      obtain rfl := Option.some.inj (hj.symm.trans hj')
      have hk := (List.getElem?_eq_some_iff.1 hj).1
      rw [List.getElem?_range (by simpa using hk)] at hj
      obtain rfl := Option.some.inj hj
      exact (hF k (by simp at hk; omega)).2
end
end Go.Proofs.YtcifjccojmfpaaaGreat

namespace Go.Proofs.YtcifjccojmfpaaaGreat
open Go.RowKit
set_option linter.unusedVariables false
set_option linter.unusedSimpArgs false
abbrev F5 : FC := ⟨false, 5, false, 0, []⟩
abbrev N5 : NC := ⟨[F5], [], newV, []⟩
abbrev N00 : NC := ⟨[], [], newV, []⟩
theorem two_c (w : World) (P : Nat → Prop) (hP : ∀ b, w.heap.size ≤ b → P b) :
    Calls Tryz.prog 37 #[] w fun e w' => ∃ ad : Addr, e = .returned (.slice (some ad) 2 2) ∧ NSl w' P (some ad) 2 2 [N5, N00] ∧ Below w.heap.size w w' := by
  go_enter Tryz.func37, Tryz.ntmps37
  go_wp2_with fail
  obtain ⟨w1, hw1⟩ : ∃ w_, w.alloc (.cells #[.bool false, .int .i64 5, .bool false, .int .i64 0, .slice none 0 0] 34) = w_ := ⟨_, rfl⟩
  have hT1 : Below w.heap.size w w1 := by rw [← hw1]; exact below_alloc1 _ _
  have hq1 : FSl w1 P (some ⟨w.heap.size, 0, none⟩) 1 1 [F5] := by rw [← hw1]; exact fsl_lit1 (f := ⟨false, 5, false, 0, none, 0, 0⟩) (F := F5) (fis_lit false 5 false 0) hP rfl
  rw [hw1]
  clear hw1
  refine (refNew_any w1).mono ?_
  rintro e w2 ⟨rfl, hB2⟩
  have hT2 := below_then hT1 hB2
  have hq2 := FSl.to hq1 hB2
  clear hT1  hq1 hB2
  go_wp2_with fail
  refine (refNew_any w2).mono ?_
  rintro e w3 ⟨rfl, hB3⟩
  have hT3 := below_then hT2 hB3
  have hq3 := FSl.to hq2 hB3
  clear hT2  hq2 hB3
  go_wp2_with fail
  have hB9 : Below w3.heap.size w3 (w3.alloc (.cells (gcells NV.cs [(⟨some ⟨w.heap.size, 0, none⟩, 1, 1, none, 0, 0, newV, none, 0, 0⟩ : NV), (⟨none, 0, 0, none, 0, 0, newV, none, 0, 0⟩ : NV)]).toArray 49)) := below_alloc1 _ _
  go_ret
  exact ⟨⟨w3.heap.size, 0, none⟩, rfl, ⟨rfl, Nat.le_refl _, by decide, ⟨[(⟨some ⟨w.heap.size, 0, none⟩, 1, 1, none, 0, 0, newV, none, 0, 0⟩ : NV), (⟨none, 0, 0, none, 0, 0, newV, none, 0, 0⟩ : NV)], GRow.lit w3 [(⟨some ⟨w.heap.size, 0, none⟩, 1, 1, none, 0, 0, newV, none, 0, 0⟩ : NV), (⟨none, 0, 0, none, 0, 0, newV, none, 0, 0⟩ : NV)] rfl rfl, AllIs.append (AllIs.one ⟨(FSl.to hq3 hB9), LSl.none_, rfl, FSl.none_⟩) (AllIs.one ⟨FSl.none_, LSl.none_, rfl, FSl.none_⟩)⟩, (fun _ ad e => by obtain rfl := Option.some.inj e; exact hP _ hT3.size)⟩, below_then hT3 hB9⟩
end Go.Proofs.YtcifjccojmfpaaaGreat

namespace Go.Proofs.YtcifjccojmfpaaaGreat
open Go.RowKit
set_option linter.unusedVariables false
set_option linter.unusedSimpArgs false
theorem slot10_0 : slotN [N5, N00] [] = [⟨[], [], newV, []⟩, ⟨[], [], newV, [F5]⟩] := by decide +kernel
theorem told10_0 : toldN lenZ [N5, N00] [] = ⟨0, F5, true, lenZ F5 + 3⟩ := by unfold toldN; rw [if_neg (by decide +kernel), show winN [N5, N00] = 0 by decide +kernel, show winF [N5, N00] = F5 by decide +kernel, show okS [N5, N00] [] = true by decide +kernel]; rfl
theorem slot10_1 : slotN [N5, N00] [0, 9] = [⟨[F5], [], ⟨8, 0, 1, 0⟩, []⟩, ⟨[], [], ⟨0, 1, 1, 0⟩, []⟩] := by decide +kernel
theorem told10_1 : toldN lenZ [N5, N00] [0, 9] = ⟨0, F5, false, lenZ F5 + 23⟩ := by unfold toldN; rw [if_neg (by decide +kernel), show winN [N5, N00] = 0 by decide +kernel, show winF [N5, N00] = F5 by decide +kernel, show okS [N5, N00] [0, 9] = false by decide +kernel]; rfl
theorem slot10_2 : slotN [N5, N00] [1, 1] = [⟨[F5], [], ⟨8, 0, 1, 0⟩, []⟩, ⟨[], [], ⟨0, 8, 1, 0⟩, []⟩] := by decide +kernel
theorem told10_2 : toldN lenZ [N5, N00] [1, 1] = ⟨0, F5, false, lenZ F5 + 23⟩ := by unfold toldN; rw [if_neg (by decide +kernel), show winN [N5, N00] = 0 by decide +kernel, show winF [N5, N00] = F5 by decide +kernel, show okS [N5, N00] [1, 1] = false by decide +kernel]; rfl
theorem slot10_3 : slotN [N5] [] = [⟨[F5], [], ⟨8, 0, 1, 0⟩, []⟩] := by decide +kernel
theorem told10_3 : toldN lenZ [N5] [] = ⟨0, F5, false, lenZ F5 + 23⟩ := by unfold toldN; rw [if_neg (by decide +kernel), show winN [N5] = 0 by decide +kernel, show winF [N5] = F5 by decide +kernel, show okS [N5] [] = false by decide +kernel]; rfl
theorem slot10_4 : slotN [N00] [0] = [⟨[], [], newV, []⟩] := by decide +kernel
theorem told10_4 : toldN lenZ [N00] [0] = ⟨-1, zeroF, false, 11⟩ := by unfold toldN; rw [if_pos (by decide +kernel)]
theorem told10_5 : toldN lenZ [⟨[], [], newV, []⟩, ⟨[], [], newV, [F5]⟩] [] = ⟨-1, zeroF, false, 11⟩ := by unfold toldN; rw [if_pos (by decide +kernel)]
theorem ok10_5 : OkNs [N5, N00] := ⟨fun N hN => rightN_iff.1 (by revert N; decide +kernel)⟩
theorem ok10_a : OkNs [N5] := ⟨fun N hN => rightN_iff.1 (by revert N; decide +kernel)⟩
theorem ok10_b : OkNs [N00] := ⟨fun N hN => rightN_iff.1 (by revert N; decide +kernel)⟩
end Go.Proofs.YtcifjccojmfpaaaGreat

namespace Go.Proofs.YtcifjccojmfpaaaGreat
open Go Go.RowKit
set_option linter.unusedVariables false
def pairFree (md : Region.Mode) (ops : Array Oper) (i j : Nat) (oi oj : Oper) : Bool :=
  oi.apart ops oj || (oj.after.any (fun e => Region.binds md e && e.on == i) || oi.after.any (fun e => Region.binds md e && e.on == j))
def allFree (md : Region.Mode) (ops : Array Oper) : Bool :=
  (List.range ops.size).all fun i => (List.range ops.size).all fun j => j == i || (match ops[i]?, ops[j]? with
    | some oi, some oj => pairFree md ops i j oi oj
    | _, _ => true)
def mayCome (md : Region.Mode) (listed : Array Bool) (o : Oper) : Bool := o.after.all fun e => !Region.binds md e || listed.getD e.on false
theorem ready_of {md : Region.Mode} {ops : Array Oper} {listed : Array Bool} {i : Nat} {o : Oper} (hi : ops[i]? = some o) (hu : listed.getD i true = false) (h : mayCome md listed o = true) : (Region.ready md ops listed).contains i = true := by
  have hlt := (Array.getElem?_eq_some_iff.1 hi).1
  have : i ∈ Region.ready md ops listed := by
    unfold Region.ready
    rw [List.mem_filter]
    refine ⟨List.mem_range.2 hlt, ?_⟩
    rw [hu, hi]
    exact h
  simpa using this
theorem free_of {md : Region.Mode} {ops : Array Oper} {listed : Array Bool} {i : Nat} {o : Oper} (ha : allFree md ops = true) (hi : ops[i]? = some o) (h : mayCome md listed o = true) : Region.free md ops listed i = true := by
  have hlt := (Array.getElem?_eq_some_iff.1 hi).1
  unfold allFree at ha
  rw [List.all_eq_true] at ha
  have h1 := ha i (List.mem_range.2 hlt)
  rw [List.all_eq_true] at h1
  unfold Region.free
  rw [hi]
  simp only [List.all_eq_true]
  intro j hj
  have h2 := h1 j hj
  have hjl := List.mem_range.1 hj
  obtain ⟨oj, hoj⟩ : ∃ oj, ops[j]? = some oj := ⟨_, Array.getElem?_eq_getElem hjl⟩
  rw [hi, hoj] at h2
  rw [hoj]
  by_cases e : j = i
  · simp [e]
  · have e2 : (j == i) = false := by simpa using e
    rw [e2, Bool.false_or] at h2 ⊢
    cases hl : listed.getD j true with
    | true => rfl
    | false =>
      rw [Bool.false_or]
      unfold pairFree at h2
      simp only [Bool.or_eq_true] at h2 ⊢
      rcases h2 with h2 | h2 | h2
      · exact .inr h2
      · exact .inl h2
      · exfalso
        obtain ⟨x, hx, hb⟩ := Array.any_eq_true'.1 h2
        simp only [Bool.and_eq_true, beq_iff_eq] at hb
        unfold mayCome at h
        have h3 := Array.all_eq_true_iff_forall_mem.1 h x hx
        rw [hb.1, hb.2, Bool.not_true, Bool.false_or] at h3
        -- what it waits for is listed
        have h4 : listed.getD j true = true := by
          have h5 := h3
          simp only [Array.getD_eq_getD_getElem?] at h5 ⊢
          cases h6 : listed[j]? with
          | none => rfl
          | some b => rw [h6] at h5; exact h5
        rw [hl] at h4; cases h4
theorem wpAnyH_takeL {P : Program} {md : Region.Mode} {ops : Array Oper} {Q : Exit → Act → World → Prop} {S : World → Prop} {i : Nat} {oi : Oper} {v : Value} {fuel : Nat} {listed : Array Bool} {a : Act} {w : World} (d : Nat) (hns : Region.noSelect ops = true) (hall : allFree md ops = true) (hi : ops[i]? = some oi) (hd : oi.dst = some d)
    (hu : listed.getD i true = false) (hc : mayCome md listed oi = true)
    (hQ : ∀ c a w, Q (.panic c) (a.put oi.dst v) w → Q (.panic c) a w) (hy : YieldsIf P ops S oi v a) (hS : S w)
    (h : wpAnyH P md ops Q S fuel (listed.setIfInBounds i true) (a.put (some d) v) w) : wpAnyH P md ops Q S (fuel + 1) listed a w :=
  wpAnyH_take' d hi hd hns (free_of hall hi hc) (ready_of hi hu hc) hQ hy hS h
end Go.Proofs.YtcifjccojmfpaaaGreat

