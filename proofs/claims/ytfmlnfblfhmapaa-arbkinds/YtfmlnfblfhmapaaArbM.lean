/-
  The document's Made (layer 6).
-/
import Derived.Test.YtfmlnfblfhmapaaArbR
import Derived.Lib.MinMax
namespace Go.Proofs.Ytfmlnfblfhmapaa
open Go.RowKit
set_option linter.unusedVariables false
set_option linter.unusedSimpArgs false

/-- What is left of a number under a mask. -/
theorem and_mask (i : Int) (M : Nat) (hM : M < 4611686018427387904) : ∃ U : Nat, bits .and .i64 i M = U ∧ U ≤ M := by
  refine ⟨(BitVec.ofInt 64 i).toNat &&& M, ?_, Nat.and_le_right⟩
  have e : bits .and .i64 i M = IntKind.i64.wrap ((BitVec.ofInt 64 i &&& BitVec.ofInt 64 (M : Int)).toNat : Int) := rfl
  have hle : (BitVec.ofInt 64 i).toNat &&& M ≤ M := Nat.and_le_right
  rw [e, BitVec.ofInt_natCast, BitVec.toNat_and, BitVec.toNat_ofNat, Nat.mod_eq_of_lt (show M < 2 ^ 64 by omega), IntKind.wrap_i64]
  omega
/-- The identifier of a frame that is made. -/
def idm (x : Bool) (i : Int) : Int := if x then bits .and .i64 i 536870911 else bits .and .i64 i 2047
theorem idm_ok (x : Bool) (i : Int) : ∃ U : Nat, idm x i = U ∧ idOk x U := by
  cases x
  · obtain ⟨U, h1, h2⟩ := and_mask i 2047 (by omega)
    exact ⟨U, h1, by simp [idOk]; omega⟩
  · obtain ⟨U, h1, h2⟩ := and_mask i 536870911 (by omega)
    exact ⟨U, h1, by simp [idOk]; omega⟩

/-- A frame that is made of f. -/
structure MadeOf (w' : World) (f f' : FV) : Prop where
  x : f'.x = f.x
  r : f'.r = f.r
  i : f'.i = idm f.x f.i
  small : f'.m ≤ 8
  cap : f'.m ≤ f'.c
  data : ∃ dl : List Int, dl.length = f'.m ∧ Row .u8 w' w'.heap.size f'.a dl
theorem MadeOf.ok {w' : World} {f f' : FV} (h : MadeOf w' f f') : FOk f' := by
  obtain ⟨U, h1, h2⟩ := idm_ok f.x f.i
  exact ⟨U, h.i.trans h1, by rw [h.x]; exact h2⟩

theorem blk2 (w : World) (o1 o2 o3 : Obj) : (((w.alloc o1).alloc o2).alloc o3).heap[w.heap.size + 1]? = some o2 :=
  block_below (below_alloc1 _ _) (by have := World.alloc_heap_new (w.alloc o1) o2; simpa using this)
theorem blk2' (w : World) (o1 o2 o3 o4 : Obj) : ((((w.alloc o1).alloc o2).alloc o3).alloc o4).heap[w.heap.size + 1]? = some o2 :=
  block_below (below_alloc1 _ _) (blk2 w o1 o2 o3)
theorem blk3 (w : World) (o1 o2 o3 o4 : Obj) : ((((w.alloc o1).alloc o2).alloc o3).alloc o4).heap[w.heap.size + 1 + 1]? = some o3 :=
  block_below (below_alloc1 _ _) (by have := World.alloc_heap_new ((w.alloc o1).alloc o2) o3; simpa using this)
theorem below3 (w : World) (o1 o2 o3 : Obj) : Below w.heap.size w (((w.alloc o1).alloc o2).alloc o3) := below_then (below_then (below_alloc1 _ _) (below_alloc1 _ _)) (below_alloc1 _ _)
theorem below4 (w : World) (o1 o2 o3 o4 : Obj) : Below w.heap.size w ((((w.alloc o1).alloc o2).alloc o3).alloc o4) := below_then (below3 _ _ _ _) (below_alloc1 _ _)
theorem own_empty (κ : IntKind) (W : World) (base g : Nat) (t : TypeId) (hg : g = W.heap.size) (hb : base ≤ W.heap.size) : (W.alloc (.cells #[] t)).ownsRow base t 1 (.slice (some ⟨g, 0, none⟩) 0 0) 0 (([] : List Int).map (Value.int κ)) := by
  subst hg
  exact ⟨rfl, .inr ⟨W.heap.size, 0, _, rfl, hb, World.alloc_heap_new _ _, Nat.zero_le _, by decide, by simp, by simp⟩⟩
theorem Try.infoU8 : (Try.prog.info? 5).map (fun i => (i.zero, i.size, i.bytes)) = some (some (.int .u8 0), 1, 1) := by kernel_rfl

set_option maxRecDepth 100000 in
set_option maxHeartbeats 2000000 in
theorem made_r (x : Bool) (i n : Int) (a : Option Addr) (m c : Nat) (w : World) :
    Calls Try.prog 25 #[.agg #[.bool x, .int .i64 i, .bool true, .int .i64 n, .slice a m c]] w fun e w' => ∃ y, e = .returned (.agg #[.bool x, .int .i64 (idm x i), .bool true, .int .i64 y, .slice none 0 0]) ∧ Below w.heap.size w w' := by
  obtain ⟨u, hu⟩ : ∃ u, bits .and .i64 i 536870911 = u := ⟨_, rfl⟩
  obtain ⟨u2, hu2⟩ : ∃ u, bits .and .i64 i 2047 = u := ⟨_, rfl⟩
  obtain ⟨z, hz⟩ : ∃ z, bits .and .i64 n 15 = z := ⟨_, rfl⟩
  obtain ⟨z8, hz8⟩ : ∃ z8, min z 8 = z8 := ⟨_, rfl⟩
  cases x
  · rw [show idm false i = u2 from hu2]
    go_enter Try.func25, Try.ntmps25
    go_wp2_with fail
    refine bodyPost_ret (v := .agg #[.bool false, .int .i64 u2, .bool true, .int .i64 z8, .slice none 0 0]) (results_fr rfl _ rfl (blk2 _ _ _ _)) rfl ?_
    exact ⟨z8, rfl, below3 _ _ _ _⟩
  · rw [show idm true i = u from hu]
    go_enter Try.func25, Try.ntmps25
    go_wp2_with fail
    refine bodyPost_ret (v := .agg #[.bool true, .int .i64 u, .bool true, .int .i64 z8, .slice none 0 0]) (results_fr rfl _ rfl (blk2 _ _ _ _)) rfl ?_
    exact ⟨z8, rfl, below3 _ _ _ _⟩

set_option maxRecDepth 100000 in
set_option maxHeartbeats 2000000 in
theorem made_d (x : Bool) (i n : Int) (a : Option Addr) (m c : Nat) (dl : List Int) (hl : dl.length = m) (w : World) (h : Row .u8 w w.heap.size a dl) (hm : m ≤ maxLen) (hc : m ≤ c) :
    Calls Try.prog 25 #[.agg #[.bool x, .int .i64 i, .bool false, .int .i64 n, .slice a m c]] w fun e w' => ∃ (A' : Option Addr) (k c' : Nat), e = .returned (.agg #[.bool x, .int .i64 (idm x i), .bool false, .int .i64 k, .slice A' k c']) ∧ k ≤ 8 ∧ k ≤ c' ∧ (∃ dl' : List Int, dl'.length = k ∧ Row .u8 w' w'.heap.size A' dl') ∧ Below w.heap.size w w' := by
  obtain ⟨i0, hi, hz0, hz1, hz2⟩ := info_parts Try.infoU8
  obtain ⟨u, hu⟩ : ∃ u, bits .and .i64 i 536870911 = u := ⟨_, rfl⟩
  obtain ⟨u2, hu2⟩ : ∃ u, bits .and .i64 i 2047 = u := ⟨_, rfl⟩
  obtain ⟨z, hz⟩ : ∃ z, bits .and .i64 n 15 = z := ⟨_, rfl⟩
  obtain ⟨z8, hz8⟩ : ∃ z8, min z 8 = z8 := ⟨_, rfl⟩
  obtain ⟨k, hk⟩ : ∃ k : Nat, min m 8 = k := ⟨_, rfl⟩
  have hk2 : min (m : Int) 8 = (k : Int) := by omega
  have hkc : k ≤ c := by omega
  have hk8 : k ≤ 8 := by omega
  have hkm : k ≤ m := by omega
  have hrow : Row .u8 w w.heap.size a (dl.take k) := by
    have := h.sub_ 0 k (Nat.zero_le _) (by rw [hl]; exact hkm) (A' := a) (fun _ => by cases a <;> simp [Addr.add])
    simpa using this
  have hlk : (dl.take k).length = k := by rw [List.length_take, hl]; omega
  have HD := Lib.hid (And.intro hlk hl)
  clear hlk hl hk h
  cases x
  · rw [show idm false i = u2 from hu2]
    go_enter Try.func25, Try.ntmps25
    go_wp2_with (at_builtin; refine wpList_append_row _ .u8 rfl _ _ 33 rfl (w.heap.size + 1 + 1 + 1) 5 i0 (.int .u8 0) 1 Try.underlying33 hi hz0 hz1 hz2 rfl _ 0 [] rfl (own_empty .u8 _ _ _ _ (by simp) (by simp)) a k c w.heap.size (dl.take k) rfl HD.out.1 (hrow.below (below4 _ _ _ _ _)) (by unfold maxLen; omega) (by omega) (by simp) ?_; intro A2 c2 w2 hown2 hc2 hB2; have hF := (hB2.block (w.heap.size + 1 + 1) (by omega)).trans (blk3 _ _ _ _ _); have hR := (hB2.block (w.heap.size + 1) (by omega)).trans (blk2' _ _ _ _ _); have hBB := (below4 w _ _ _ _).trans (hB2.mono (by omega)); obtain ⟨⟨F0, F1, F2, F3, F4⟩, f0, f1, f2, f3, f4⟩ := cells5 hF; obtain ⟨⟨R0, R1, R2, R3, R4⟩, r0, r1, r2, r3, r4⟩ := cells5 hR)
    have hlt := hB2.size
    have g := (grown_setAt w2 (w.heap.size + 1 + 1) 4 (.slice A2 k c2)).trans (grown_setAt _ (w.heap.size + 1 + 1) 3 (.int .i64 k))
    have hR3 := (g.block (w.heap.size + 1) (Array.getElem?_eq_some_iff.1 hR).1 (by simp)).trans hR
    have g5 := set5_grown ((w2.setCell ⟨w.heap.size + 1 + 1, 4, none⟩ (.slice A2 k c2)).setCell ⟨w.heap.size + 1 + 1, 3, none⟩ (.int .i64 k)) (w.heap.size + 1) (.bool false) (.int .i64 u2) (.bool false) (.int .i64 k) (.slice A2 k c2)
    have hown5 := own_grown (own_grown hown2 g (by omega)) g5 (by omega)
    refine bodyPost_ret (v := .agg #[.bool false, .int .i64 u2, .bool false, .int .i64 k, .slice A2 k c2]) (results_fr rfl _ rfl (set5_obj hR3 _ _ _ _ _)) rfl ?_
    refine ⟨A2, k, c2, rfl, hk8, by omega, ⟨dl.take k, HD.out.1, ?_⟩, below_of_grown' (below_of_grown' hBB g (by omega)) g5 (by omega)⟩
    have hr5 := Row.own hown5
    rw [List.nil_append] at hr5
    unfold set5 at hr5
    exact hr5
  · rw [show idm true i = u from hu]
    go_enter Try.func25, Try.ntmps25
    go_wp2_with (at_builtin; refine wpList_append_row _ .u8 rfl _ _ 33 rfl (w.heap.size + 1 + 1 + 1) 5 i0 (.int .u8 0) 1 Try.underlying33 hi hz0 hz1 hz2 rfl _ 0 [] rfl (own_empty .u8 _ _ _ _ (by simp) (by simp)) a k c w.heap.size (dl.take k) rfl HD.out.1 (hrow.below (below4 _ _ _ _ _)) (by unfold maxLen; omega) (by omega) (by simp) ?_; intro A2 c2 w2 hown2 hc2 hB2; have hF := (hB2.block (w.heap.size + 1 + 1) (by omega)).trans (blk3 _ _ _ _ _); have hR := (hB2.block (w.heap.size + 1) (by omega)).trans (blk2' _ _ _ _ _); have hBB := (below4 w _ _ _ _).trans (hB2.mono (by omega)); obtain ⟨⟨F0, F1, F2, F3, F4⟩, f0, f1, f2, f3, f4⟩ := cells5 hF; obtain ⟨⟨R0, R1, R2, R3, R4⟩, r0, r1, r2, r3, r4⟩ := cells5 hR)
    have hlt := hB2.size
    have g := (grown_setAt w2 (w.heap.size + 1 + 1) 4 (.slice A2 k c2)).trans (grown_setAt _ (w.heap.size + 1 + 1) 3 (.int .i64 k))
    have hR3 := (g.block (w.heap.size + 1) (Array.getElem?_eq_some_iff.1 hR).1 (by simp)).trans hR
    have g5 := set5_grown ((w2.setCell ⟨w.heap.size + 1 + 1, 4, none⟩ (.slice A2 k c2)).setCell ⟨w.heap.size + 1 + 1, 3, none⟩ (.int .i64 k)) (w.heap.size + 1) (.bool true) (.int .i64 u) (.bool false) (.int .i64 k) (.slice A2 k c2)
    have hown5 := own_grown (own_grown hown2 g (by omega)) g5 (by omega)
    refine bodyPost_ret (v := .agg #[.bool true, .int .i64 u, .bool false, .int .i64 k, .slice A2 k c2]) (results_fr rfl _ rfl (set5_obj hR3 _ _ _ _ _)) rfl ?_
    refine ⟨A2, k, c2, rfl, hk8, by omega, ⟨dl.take k, HD.out.1, ?_⟩, below_of_grown' (below_of_grown' hBB g (by omega)) g5 (by omega)⟩
    have hr5 := Row.own hown5
    rw [List.nil_append] at hr5
    unfold set5 at hr5
    exact hr5

theorem made_any (f : FV) (w : World) (dl : List Int) (hl : dl.length = f.m) (h : Row .u8 w w.heap.size f.a dl) (hm : f.m ≤ maxLen) (hc : f.m ≤ f.c) :
    Calls Try.prog 25 #[f.v] w fun e w' => ∃ f' : FV, e = .returned f'.v ∧ MadeOf w' f f' ∧ Below w.heap.size w w' := by
  obtain ⟨x, i, r, n, a, m, c⟩ := f
  cases r
  · refine (made_d x i n a m c dl hl w h hm hc).mono ?_
    rintro e w' ⟨A', k, c', rfl, h1, h2, h3, h4⟩
    exact ⟨⟨x, idm x i, false, k, A', k, c'⟩, rfl, ⟨rfl, rfl, rfl, h1, h2, h3⟩, h4⟩
  · refine (made_r x i n a m c w).mono ?_
    rintro e w' ⟨y, rfl, h4⟩
    exact ⟨⟨x, idm x i, true, y, none, 0, 0⟩, rfl, ⟨rfl, rfl, rfl, by simp, by simp, ⟨[], rfl, .inl rfl⟩⟩, h4⟩

end Go.Proofs.Ytfmlnfblfhmapaa
