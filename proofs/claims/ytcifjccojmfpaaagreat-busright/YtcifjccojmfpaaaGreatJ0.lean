/-
  Base · NBi · NFr · NRk · NAm · NAr.
-/
import Derived.WalkKit
import Derived.WalkSpells
import Derived.WalkLawsBesides
import Derived.Deep.QuietTactic
import Derived.BigQuiet
import Derived.Deep.Draws
import Derived.Lib.Hide
import Derived.Laws.BitsAllLaws
import Derived.Laws.BitsLemmas
import Derived.Maps.AppendAt
import Derived.OwnWalk
import Derived.Below
import Derived.RangeFuncBox
import Derived.Test.YtcifjccojmfpaaaGreatProg
import Derived.RangeFuncNested
import Derived.RangeFuncLeaves
import Derived.Shelf.Abstract
import Derived.OwnWalkIn
import Derived.TacticsInMore
import Derived.LoopNIn
import Derived.LoopIn
import Derived.Laws.BytesArg
import Derived.Maps.Range
import Derived.Deep.AppendLies
import Derived.Lib.AppendZeros
import Derived.Deep.RegionHeld3
import Derived.Lib.JoinLaws
import Derived.Deep.OwnRows
import Derived.Lib.MinMax
set_option maxRecDepth 100000
set_option maxHeartbeats 4000000
namespace Go.Proofs.YtcifjccojmfpaaaGreat
theorem siA {α : Type} (l : List α) (i : Nat) (a : α) : l.toArray.setIfInBounds i a = (l.set i a).toArray := List.setIfInBounds_toArray ..
theorem scZ {α : Type} (x : α) (l : List α) (a : α) : (x :: l).set 0 a = a :: l := rfl
theorem scS {α : Type} (x : α) (l : List α) (n : Nat) (a : α) : (x :: l).set (n + 1) a = x :: l.set n a := rfl
end Go.Proofs.YtcifjccojmfpaaaGreat
namespace Go.Proofs.YtcifjccojmfpaaaGreat
open Go.RowKit
def Row (κ : IntKind) (w : World) (B : Nat) (A : Option Addr) (l : List Int) : Prop :=
  l = [] ∨ ∃ ad, A = some ad ∧ ad.block < B ∧ ∀ k x, l[k]? = some x → w.cell? (ad.add k) = some (.int κ x)
theorem addr_block (a : Addr) (n : Nat) : (a.add n).block = a.block := by unfold Addr.add; split <;> rfl
theorem addr_add (a : Addr) (i j : Nat) : (a.add i).add j = a.add (i + j) := by
  unfold Addr.add
  by_cases hi : i = 0 <;> by_cases hj : j = 0 <;> simp [hi, hj, Nat.add_assoc]
section
variable {κ : IntKind} {w w' : World} {B B' : Nat} {A : Option Addr} {l : List Int}
theorem Row.get_ (h : Row κ w B A l) {k : Nat} (hk : k < l.length) : ∃ ad x, A = some ad ∧ l[k]? = some x ∧ w.cell? (ad.add k) = some (.int κ x) := by
  rcases h with rfl | ⟨ad, e, _, hc⟩
  · simp at hk
  · exact ⟨ad, l[k], e, List.getElem?_eq_getElem hk, hc k _ (List.getElem?_eq_getElem hk)⟩
theorem Row.move (h : Row κ w B A l) (hk : ∀ p : Addr, p.block < B → w'.cell? p = w.cell? p) : Row κ w' B A l := by
  rcases h with rfl | ⟨ad, e, hb, hc⟩
  · exact .inl rfl
  · exact .inr ⟨ad, e, hb, fun k x hx => (hk _ (by rw [addr_block]; exact hb)).trans (hc k x hx)⟩
theorem Row.more (h : Row κ w B A l) (hB : B ≤ B') : Row κ w B' A l := by
  rcases h with rfl | ⟨ad, e, hb, hc⟩
  · exact .inl rfl
  · exact .inr ⟨ad, e, by omega, hc⟩
theorem Row.below (h : Row κ w B A l) (hb : Below B w w') : Row κ w' B A l := h.move fun _ hp => hb.cell hp
theorem Row.alloc (h : Row κ w B A l) (hB : B ≤ w.heap.size) (o : Obj) : Row κ (w.alloc o) B A l := h.below ((Below.refl _ _).alloc hB o)
theorem Row.own {base : Nat} {e : TypeId} {n c m : Nat} (h : w.ownsRow base e 1 (.slice A m c) n (l.map (Value.int κ))) : Row κ w w.heap.size A l := by
  rcases h.2 with ⟨e1, e2⟩ | ⟨g, cap, cur, e1, hb, hg, _, _, _, ht⟩
  · left
    have := h.1
    simp [e2] at this
    exact this
  · right
    have hA : A = some ⟨g, 0, none⟩ := by injection e1
    subst hA
    refine ⟨_, rfl, (Array.getElem?_eq_some_iff.1 hg).1, fun k x hx => ?_⟩
    exact h.cells (g := g) rfl k _ (by simp [hx])
theorem Row.sub_ (h : Row κ w B A l) (i j : Nat) (hij : i ≤ j) (hj : j ≤ l.length) {A' : Option Addr} (hA : i < j → A' = A.map (·.add i)) : Row κ w B A' ((l.drop i).take (j - i)) := by
  by_cases hlt : i < j
  · rcases h with rfl | ⟨ad, e, hb, hc⟩
    · simp at hj; omega
    · right
      subst e
      refine ⟨ad.add i, by rw [hA hlt]; rfl, by rw [addr_block]; exact hb, fun k x hx => ?_⟩
      rw [addr_add]
      refine hc _ x ?_
      rw [List.getElem?_take] at hx
      split at hx
      · rw [List.getElem?_drop] at hx; exact hx
      · cases hx
  · left
    rw [show j - i = 0 by omega]; simp
end
def rightB (l : List Int) : Bool := l.all fun x => decide (x = 0 ∨ x = 1)
theorem rightB_snoc (l : List Int) (x : Int) : rightB (l ++ [x]) = (rightB l && decide (x = 0 ∨ x = 1)) := by simp [rightB]
theorem rightB_at {l : List Int} (h : rightB l = true) {k : Nat} {x : Int} (hx : l[k]? = some x) : x = 0 ∨ x = 1 := by
  have := (List.all_eq_true.1 h) x (List.mem_of_getElem? hx)
  simpa using this
theorem take_snoc {l : List Int} {k : Nat} {x : Int} (hx : l[k]? = some x) : l.take (k + 1) = l.take k ++ [x] := by
  rw [List.take_add_one, hx]; rfl
theorem ret_bool {a b : Bool} (h : a = b) : Ending.returned (.bool a) = .returned (.bool b) := by rw [h]
theorem ret_int {k : IntKind} {a b : Int} (h : a = b) : Ending.returned (.int k a) = .returned (.int k b) := by rw [h]
def numOf (l : List Int) : Nat := l.foldl (fun n b => 2 * n + b.toNat) 0
theorem numOf_snoc (l : List Int) (x : Int) : numOf (l ++ [x]) = 2 * numOf l + x.toNat := by simp [numOf]
theorem rightB_drop {l : List Int} (h : rightB l = true) (k : Nat) : rightB (l.drop k) = true := by
  unfold rightB at h ⊢
  rw [List.all_eq_true] at h ⊢
  exact fun x hx => h x (List.mem_of_mem_drop hx)
def sameB (a b : List Int) : Bool := decide (a = b)
theorem Row.lit (W : World) (κ : IntKind) (l : List Int) (t : TypeId) {cs : Array Value} (hcs : cs = (l.map (Value.int κ)).toArray) : Row κ (W.alloc (.cells cs t)) (W.heap.size + 1) (some ⟨W.heap.size, 0, none⟩) l := by
  right
  refine ⟨_, rfl, by simp, fun k x hx => ?_⟩
  have e : (⟨W.heap.size, 0, none⟩ : Addr).add k = ⟨W.heap.size, k, none⟩ := by unfold Addr.add; split <;> simp_all
  have hb := World.alloc_heap_new W (.cells cs t)
  subst hcs
  rw [e]
  simp only [World.cell?, hb]
  simp [hx]
theorem below_drewN' {B : Nat} {a w : World} (h : Below B a w) (n : Nat) : Below B a (w.drewN n) := ⟨h.os, h.tape, h.output, h.size, h.block⟩
theorem below_lit {w w' : World} {o : Obj} (h : Below (w.alloc o).heap.size (w.alloc o) w') : Below w.heap.size w w' := ((Below.refl _ w).alloc (Nat.le_refl _) o).trans (h.mono (by simp))
theorem below_lits {w w' : World} {o : Obj} (h : w.alloc o = w') : Below w.heap.size w w' := by subst h; exact (Below.refl _ w).alloc (Nat.le_refl _) o
theorem below_then {a b c : World} (h : Below a.heap.size a b) (k : Below b.heap.size b c) : Below a.heap.size a c := h.trans (k.mono h.size)
theorem below_drewN0 (a : World) (n : Nat) : Below a.heap.size a (a.drewN n) := below_drewN' (Below.refl _ _) n
theorem Row.to {κ : IntKind} {a b : World} {A : Option Addr} {l : List Int} (h : Row κ a a.heap.size A l) (k : Below a.heap.size a b) : Row κ b b.heap.size A l := (h.below k).more k.size
theorem ints_one (κ : IntKind) (l : List Int) : ∀ u ∈ l.map (Value.int κ), u.oneCell' = true := by
  intro u hu
  obtain ⟨x, _, rfl⟩ := List.mem_map.1 hu
  rfl
theorem run_append_row {P : Program} (w : World) (κ : IntKind) (base : Nat) (t ty e : TypeId) (i : TypeInfo) (z : Value) (bytes : Nat) (ht : P.underlying t = some (.slice e)) (hi : P.info? e = some i) (hz : i.zero = some z)
    (hsize : i.size = 1) (hby : i.bytes = bytes) (hzs : z.cells.size = 1)
    (v : Value) (n : Nat) (l : List Int) (hown : w.ownsRow base e 1 v n (l.map (Value.int κ)))
    (A : Option Addr) (m c B : Nat) (l' : List Int) (hm : l'.length = m) (hr : Row κ w B A l')
    (h63 : n + m ≤ maxLen) (hbytes : (n + m) * bytes ≤ 140737488355328) (hbase : base ≤ w.heap.size) :
    ∃ A' c' w', (Builtin.append_ #[t, t] ty #[v, .slice A m c]).run P w = .ok (.slice A' (n + m) c') w' ∧ w'.ownsRow base e 1 (.slice A' (n + m) c') (n + m) ((l ++ l').map (Value.int κ)) ∧ n + m ≤ c' ∧ Below base w w' := by
  have form : ∀ (v' : Value) (w' : World), w'.ownsRow base e 1 v' (n + m) ((l ++ l').map (Value.int κ)) → ∃ A' c', v' = .slice A' (n + m) c' ∧ n + m ≤ c' := by
    intro v' w' h
    rcases h.2 with ⟨rfl, h0⟩ | ⟨g, cap, cur, rfl, _, _, hc, _⟩
    · exact ⟨none, 0, by rw [h0], by omega⟩
    · exact ⟨_, _, rfl, hc⟩
  have low : ∀ k, v.ownBlock = some k → base ≤ k := fun k e => (hown.lt k e).1
  have any : ∀ ad, A = some ad → ∃ A' c' w', (Builtin.append_ #[t, t] ty #[v, .slice A m c]).run P w = .ok (.slice A' (n + m) c') w' ∧ w'.ownsRow base e 1 (.slice A' (n + m) c') (n + m) ((l ++ l').map (Value.int κ)) ∧ n + m ≤ c' ∧ Below base w w' := by
    rintro ad rfl
    have hcells : ∀ j u, (l'.map (Value.int κ))[j]? = some u → w.cell? (ad.add j) = some u := by
      intro j u hu
      rw [List.getElem?_map, Option.map_eq_some_iff] at hu
      obtain ⟨x, hx, rfl⟩ := hu
      rcases hr with rfl | ⟨ad', e', _, hc⟩
      · simp at hx
      · cases e'
        exact hc j x hx
    obtain ⟨v', w', hrun, h2, h3, _, _⟩ := run_append_own_at (P := P) w base t ty e i z 1 bytes ht hi hz hsize hby hzs (by omega) v n _ hown ad m c _ (by simp [hm]) hcells (ints_one κ l') h63 hbytes hbase
    rw [← List.map_append] at h2
    obtain ⟨A', c', rfl, hc'⟩ := form v' w' h2
    exact ⟨A', c', w', hrun, h2, hc', (Below.refl _ _).grown h3 hbase low⟩
  cases A with
  | some ad => exact any ad rfl
  | none =>
    obtain rfl : l' = [] := by
      rcases hr with rfl | ⟨ad, e', _⟩
      · rfl
      · cases e'
    obtain rfl : m = 0 := hm.symm
    have hrun : (Builtin.append_ #[t, t] ty #[v, .slice none 0 c]).run P w = .ok v w := by
      rcases hown.2 with ⟨rfl, rfl⟩ | ⟨g, cap, cur, rfl, _, _, hnc, _⟩
      · simp [Builtin.append_, run_underlying ht, sizeOf, typeInfo, hi, Builtin.lenOf, Builtin.firstCells]
      · simp [Builtin.append_, run_underlying ht, sizeOf, typeInfo, hi, Builtin.lenOf, Builtin.firstCells, hnc, storeCells]
    have h2 : w.ownsRow base e 1 v (n + 0) ((l ++ []).map (Value.int κ)) := by simpa using hown
    obtain ⟨A', c', rfl, hc'⟩ := form v w h2
    exact ⟨A', c', w, hrun, h2, hc', Below.refl _ _⟩
theorem wpList_append_row {P : Program} (w : World) {ops : Array Oper} {rest : List Oper} {o : Oper} {a : Act} {Q : Exit → Act → World → Prop} (κ : IntKind) (hw : Region.wanted o (yielded ops a.tmps) = true) (s x : Operand) (t : TypeId)
    (ho : o.op = .call { callee := .builtin .append, args := #[s, x], argTypes := #[t, t] })
    (base : Nat) (e : TypeId) (i : TypeInfo) (z : Value) (bytes : Nat) (ht : P.underlying t = some (.slice e)) (hi : P.info? e = some i) (hz : i.zero = some z)
    (hsize : i.size = 1) (hby : i.bytes = bytes) (hzs : z.cells.size = 1)
    (v : Value) (n : Nat) (l : List Int) (hs : a.eval s = v) (hown : w.ownsRow base e 1 v n (l.map (Value.int κ)))
    (A : Option Addr) (m c B : Nat) (l' : List Int) (hx : a.eval x = .slice A m c) (hm : l'.length = m) (hr : Row κ w B A l')
    (h63 : n + m ≤ maxLen) (hbytes : (n + m) * bytes ≤ 140737488355328) (hbase : base ≤ w.heap.size)
    (h : ∀ A' c' w', w'.ownsRow base e 1 (.slice A' (n + m) c') (n + m) ((l ++ l').map (Value.int κ)) → n + m ≤ c' → Below base w w' → wpList P ops Q rest (a.put o.dst (.slice A' (n + m) c')) w') : wpList P ops Q (o :: rest) a w := by
  obtain ⟨A', c', w', hrun, h2, hc', h3⟩ := run_append_row (P := P) w κ base t o.type e i z bytes ht hi hz hsize hby hzs v n l hown A m c B l' hm hr h63 hbytes hbase
  unfold wpList
  rw [if_pos hw]
  left
  unfold Oper.wp execOp
  simp only [ho, resolve, invoke, builtin, Sem.run_bind, Sem.run_pure, Result.andThen_ok, List.map_toArray, List.map_cons, List.map_nil, hs, hx, hrun]
  exact h A' c' w' h2 hc' h3
theorem own_to {W W' : World} {base : Nat} {e : TypeId} {size : Nat} {v : Value} {n : Nat} {xs : List Value} (h : W.ownsRow base e size v n xs) (k : Below W.heap.size W W') : W'.ownsRow base e size v n xs := by
  refine ⟨h.1, ?_⟩
  rcases h.2 with h0 | ⟨g, cap, cur, hv, hb, hg, hrest⟩
  · exact .inl h0
  · exact .inr ⟨g, cap, cur, hv, hb, (k.block g (Array.getElem?_eq_some_iff.1 hg).1).trans hg, hrest⟩
theorem own_lit (W : World) (κ : IntKind) (l : List Int) (n : Nat) (hn : l.length = n) (t : TypeId) {cs : Array Value} (hcs : cs = (l.map (Value.int κ)).toArray) (hm : n ≤ maxLen) : (W.alloc (.cells cs t)).ownsRow W.heap.size t 1 (.slice (some ⟨W.heap.size, 0, none⟩) n n) n (l.map (Value.int κ)) := by
  subst hcs hn
  have := World.ownsRow_lit (base := W.heap.size) (e := t) (size := 1) W (l.map (Value.int κ)).toArray l.length (Nat.le_refl _) hm (by simp)
  simpa using this
def bitAt (n many j : Nat) : Int := ((n / 2 ^ (many - 1 - j) % 2 : Nat) : Int)
def bitRow (n many : Nat) (k : Nat) : List Int := (List.range k).map (bitAt n many)
theorem bits_one (n j : Nat) (hn : n < 4611686018427387904) : bits .and .i64 ((n : Int) / 2 ^ j) 1 = ((n / 2 ^ j % 2 : Nat) : Int) := by
  obtain ⟨m, hm⟩ : ∃ m, n / 2 ^ j = m := ⟨_, rfl⟩
  have hle : m ≤ n := by rw [← hm]; exact Nat.div_le_self _ _
  have e : ((n : Int) / 2 ^ j) = (m : Int) := by rw [← hm]; simp
  rw [e, hm]
  show IntKind.i64.wrap ((BitVec.ofInt 64 (m : Int) &&& BitVec.ofInt 64 ((1 : Nat) : Int)).toNat : Int) = _
  rw [BitVec.ofInt_natCast, BitVec.ofInt_natCast, BitVec.toNat_and, BitVec.toNat_ofNat, BitVec.toNat_ofNat, Nat.mod_eq_of_lt (show m < 2 ^ 64 by omega), Nat.mod_eq_of_lt (show 1 < 2 ^ 64 by omega), Nat.and_one_is_mod, IntKind.wrap_i64]
  omega
theorem bitRow_len (n many k : Nat) : (bitRow n many k).length = k := by simp [bitRow]
theorem bitRow_succ (n many k : Nat) : bitRow n many (k + 1) = bitRow n many k ++ [bitAt n many k] := by simp [bitRow, List.range_succ]
theorem bitAt_01 (n many k : Nat) : bitAt n many k = 0 ∨ bitAt n many k = 1 := by unfold bitAt; omega
theorem bitRow_right (n many : Nat) : ∀ k, rightB (bitRow n many k) = true
  | 0 => rfl
  | k + 1 => by
    rw [bitRow_succ, rightB_snoc, bitRow_right n many k]
    simpa using bitAt_01 n many k
theorem numOf_bitRow {n many : Nat} (h : n < 2 ^ many) : ∀ k, k ≤ many → numOf (bitRow n many k) = n / 2 ^ (many - k)
  | 0, _ => by simp [bitRow, numOf, Nat.div_eq_of_lt h]
  | k + 1, hk => by
    rw [bitRow_succ, numOf_snoc, numOf_bitRow h k (by omega)]
    have e : many - k = (many - 1 - k) + 1 := by omega
    have e2 : many - (k + 1) = many - 1 - k := by omega
    rw [e, e2, Nat.pow_succ, ← Nat.div_div_eq_div_mul]
    unfold bitAt
    omega
theorem numOf_back {n many : Nat} (h : n < 2 ^ many) : numOf (bitRow n many many) = n := by
  rw [numOf_bitRow h many (Nat.le_refl _), Nat.sub_self, Nat.pow_zero, Nat.div_one]
theorem row_of_arg {k : IntKind} {w : World} {a : Option Addr} {len cap : Nat} {zs : List Int}
    (h : (a = none ∧ len = 0 ∧ cap = 0 ∧ zs = []) ∨ ∃ x, a = some x ∧ len ≤ cap ∧ cap ≤ maxLen ∧ zs.length = cap ∧ (∀ i, i < zs.length → w.cell? (x.add i) = some (.int k (zs.getD i 0))) ∧ ∀ n ∈ zs, (Lit.int k n).wf = true) :
    ∃ l : List Int, l.length = len ∧ Row k w w.heap.size a l ∧ len ≤ cap ∧ cap ≤ maxLen ∧ ∀ n ∈ l, (Lit.int k n).wf = true := by
  rcases h with ⟨rfl, rfl, rfl, rfl⟩ | ⟨x, rfl, hl, hm, hz, hc, hw⟩
  · exact ⟨[], rfl, .inl rfl, Nat.le_refl _, by decide, by simp⟩
  · refine ⟨zs.take len, by simp; omega, ?_, hl, hm, fun n hn => hw n (List.mem_of_mem_take hn)⟩
    by_cases h0 : len = 0
    · left; subst h0; simp
    · right
      refine ⟨x, rfl, ?_, fun j y hy => ?_⟩
      · have h1 := hc 0 (by omega)
        rcases Nat.lt_or_ge x.block w.heap.size with h2 | h2
        · exact h2
        · exfalso
          have : (x.add 0).block = x.block := addr_block _ _
          simp [World.cell?, this, Array.getElem?_eq_none h2] at h1
      · rw [List.getElem?_take] at hy
        split at hy
        · rename_i hj
          rw [hc j (by omega)]
          simp [List.getD, hy]
        · cases hy
theorem bitRow_snoc (N b n : Nat) (hb : b < 2) : bitRow (2 * N + b) (n + 1) (n + 1) = bitRow N n n ++ [(b : Int)] := by
  rw [bitRow_succ]
  have e1 : bitAt (2 * N + b) (n + 1) n = (b : Int) := by
    unfold bitAt
    rw [show n + 1 - 1 - n = 0 by omega, Nat.pow_zero, Nat.div_one]
    omega
  have e2 : bitRow (2 * N + b) (n + 1) n = bitRow N n n := by
    unfold bitRow
    apply List.map_congr_left
    intro j hj
    have hj' : j < n := List.mem_range.1 hj
    unfold bitAt
    rw [show n + 1 - 1 - j = (n - 1 - j) + 1 by omega, Nat.pow_succ, Nat.mul_comm (2 ^ (n - 1 - j)) 2, ← Nat.div_div_eq_div_mul]
    rw [show (2 * N + b) / 2 = N by omega]
  rw [e1, e2]
theorem snoc_cases (l : List Int) : l = [] ∨ ∃ l' x, l = l' ++ [x] := by
  rcases List.eq_nil_or_concat l with h | ⟨l', x, h⟩
  · exact .inl h
  · exact .inr ⟨l', x, by simpa using h⟩
theorem bitRow_back : ∀ (n : Nat) (l : List Int), l.length = n → rightB l = true → bitRow (numOf l) n n = l
  | 0, l, h, _ => by obtain rfl := List.eq_nil_of_length_eq_zero h; rfl
  | n + 1, l, h, hr => by
    rcases snoc_cases l with rfl | ⟨l', x, rfl⟩
    · simp at h
    · rw [rightB_snoc] at hr
      simp only [Bool.and_eq_true, decide_eq_true_eq] at hr
      have hl : l'.length = n := by simpa using h
      rw [numOf_snoc, bitRow_snoc _ _ _ (by omega), bitRow_back n l' hl hr.1]
      congr 2
      omega
def byteB (l : List Int) : Prop := ∀ x ∈ l, 0 ≤ x ∧ x ≤ 255
def byteBits (x : Int) : List Int := bitRow x.toNat 8 8
def spreadL (l : List Int) : List Int := l.flatMap byteBits
theorem spreadL_snoc {l : List Int} {k : Nat} {x : Int} (hx : l[k]? = some x) : spreadL (l.take (k + 1)) = spreadL (l.take k) ++ byteBits x := by
  rw [take_snoc hx]; simp [spreadL]
theorem spreadL_len : ∀ l : List Int, (spreadL l).length = 8 * l.length
  | [] => rfl
  | x :: l => by
    have := spreadL_len l
    simp only [spreadL, List.flatMap_cons, List.length_append, List.length_cons] at this ⊢
    rw [this]
    simp [byteBits, bitRow]
    omega
theorem byteBits_len (x : Int) : (byteBits x).length = 8 := by simp [byteBits, bitRow]
theorem spreadL_right : ∀ l : List Int, rightB (spreadL l) = true
  | [] => rfl
  | x :: l => by
    have h := spreadL_right l
    have h2 : rightB (byteBits x) = true := bitRow_right _ _ _
    unfold rightB at h h2 ⊢
    unfold spreadL at h ⊢
    rw [List.flatMap_cons, List.all_append, h, h2]
    rfl
theorem rightB_append (a b : List Int) : rightB (a ++ b) = (rightB a && rightB b) := by simp [rightB]
theorem wrap_pow (many : Nat) (h : many ≤ 32) : wrap64 (2 ^ many) = ((2 ^ many : Nat) : Int) := by
  have h1 : (2 : Nat) ^ many ≤ 2 ^ 32 := Nat.pow_le_pow_right (by omega) h
  have h2 : ((2 : Int) ^ many) = ((2 ^ many : Nat) : Int) := by simp
  have h3 : 0 < (2 : Nat) ^ many := Nat.pow_pos (by omega)
  rw [h2]
  simp only [wrap64]
  omega
theorem Tryz.infoInt : (Tryz.prog.info? 3).map (fun i => (i.zero, i.size, i.bytes)) = some (some (.int .i64 0), 1, 8) := by kernel_rfl
theorem Tryz.infoByte : (Tryz.prog.info? 5).map (fun i => (i.zero, i.size, i.bytes)) = some (some (.int .u8 0), 1, 1) := by kernel_rfl
end Go.Proofs.YtcifjccojmfpaaaGreat

namespace Go.Proofs.YtcifjccojmfpaaaGreat
open Go.RowKit
set_option linter.unusedVariables false
set_option linter.unusedSimpArgs false
open Go.RowKit Go.Shelf
attribute [local go_sem] Oper.semAt_some
theorem bitRow_prefix (n many k : Nat) (h : k ≤ many) : bitRow n many k <+: bitRow n many many := by
  obtain ⟨d, rfl⟩ := Nat.exists_eq_add_of_le h
  refine ⟨(List.range d).map (fun i => bitAt n (k + d) (k + i)), ?_⟩
  simp [bitRow, List.range_add]
def Kept2 (Bm Bn : Nat) (W W' : World) : Prop := (∀ v, W.cell? ⟨Bm, 0, none⟩ = some v → W'.cell? ⟨Bm, 0, none⟩ = some v) ∧ (∀ v, W.cell? ⟨Bn, 0, none⟩ = some v → W'.cell? ⟨Bn, 0, none⟩ = some v)
theorem Kept2.trans {Bm Bn : Nat} {A B C : World} (h : Kept2 Bm Bn A B) (k : Kept2 Bm Bn B C) : Kept2 Bm Bn A C := ⟨fun v e => k.1 v (h.1 v e), fun v e => k.2 v (h.2 v e)⟩
theorem Kept2.putObj {Bm Bn : Nat} (W : World) (l : Nat) (o o' : Obj) (h : W.heap[l]? = some o) (ho : o.isCells = false) : Kept2 Bm Bn W (W.putObj l o') :=
  ⟨fun _ e => cell_kept e (grownBy_putObj' W l o') (fun r er => by cases er; exact ⟨_, h, ho⟩), fun _ e => cell_kept e (grownBy_putObj' W l o') (fun r er => by cases er; exact ⟨_, h, ho⟩)⟩
theorem Kept2.boxed {Bm Bn : Nat} {W W' : World} {t t' u u' : TypeId} {x y : Value} (h1 : Boxed W Bm t x) (h2 : Boxed W Bn u y) (h3 : Boxed W' Bm t' x) (h4 : Boxed W' Bn u' y) : Kept2 Bm Bn W W' :=
  ⟨fun v e => by rw [h1.cell] at e; rw [h3.cell]; exact e, fun v e => by rw [h2.cell] at e; rw [h4.cell]; exact e⟩
theorem shifts1_in (F : Fence) (n : Nat) (h6 : F.fn 131) (hro : F.round = none) (hn : 1 ≤ n) (l Bm Bn : Nat) (num many : Nat) (hm : many ≤ 63) (hnum : num < 4611686018427387904) (J Jx : List Int → World → Prop)
    (hY : ∀ pre x W, J pre W → pre.length < many → YieldAt F (n - 1) Tryz.prog l #[.int .i64 x] W fun e W' =>
      (e = .returned (.bool true) ∧ J (pre ++ [x]) W' ∧ Kept2 Bm Bn W W') ∨ (e = .returned (.bool false) ∧ Jx (pre ++ [x]) W'))
    (W : World) (hcm : W.cell? ⟨Bm, 0, none⟩ = some (.int .i64 many)) (hcn : W.cell? ⟨Bn, 0, none⟩ = some (.int .i64 num)) (h0 : J [] W) :
    CallsIn F n Tryz.prog 131 #[.func (.yield l) #[] #[], .pointer (some ⟨Bm, 0, none⟩), .pointer (some ⟨Bn, 0, none⟩)] W fun e W' => (∃ v, e = .returned v) ∧
      ((∃ ys, ys = bitRow num many many ∧ J ys W') ∨ (∃ pre, pre <+: bitRow num many many ∧ Jx pre W')) := by
  refine callsIn_of_wp Tryz.func131 rfl h6 ?_ hro
  simp only [Tryz.ntmps131, List.size_toArray, List.length_cons, List.length_nil, Nat.reduceAdd, Nat.reduceSub, Array.replicate_succ, Array.replicate_zero, List.push_toArray, List.append_toArray, List.nil_append, List.cons_append]
  gi_wp2
  gi_loopw [4] (fun p wr => ∃ k : Nat, k ≤ many ∧ p = .int .i64 ((many : Int) - 1 - k) ∧ wr.cell? ⟨Bm, 0, none⟩ = some (.int .i64 many) ∧ wr.cell? ⟨Bn, 0, none⟩ = some (.int .i64 num) ∧ J (bitRow num many k) wr)
    (fun p _ => (intOf p + 1).toNat)
  case atStart => exact ⟨0, Nat.zero_le _, by simp, hcm, hcn, h0⟩
  case round =>
    obtain ⟨k, hk, rfl, hm1, hn1, hJ⟩ := hrel
    by_cases hlt : k < many
    · have hb := bits_one num (many - 1 - k) hnum
      have hr : bitRow num many (k + 1) = bitRow num many k ++ [bitAt num many k] := by simp [bitRow, List.range_succ]
      have Hr := Lib.hid hr
      clear hr
      have hx : bits .and .i64 ((num : Int) / 2 ^ (many - 1 - k)) 1 = bitAt num many k := hb
      clear hb
      obtain ⟨fn, tmps, assign, body, hy, hR⟩ := hY (bitRow num many k) (bitAt num many k) wr hJ (by simp [bitRow]; exact hlt)
      gi_wp2
      refine hR.mono ?_
      rintro e W3 (⟨rfl, hJ3, hk3⟩ | ⟨rfl, hJx3⟩)
      · have hm3 : W3.cell? ⟨Bm, 0, none⟩ = some (.int .i64 many) := hk3.1 _ hm1
        have hn3 : W3.cell? ⟨Bn, 0, none⟩ = some (.int .i64 num) := hk3.2 _ hn1
        gi_wp2
        go_roundw
        case rel => exact ⟨k + 1, by omega, by go_num, hm3, hn3, by rw [Hr.out]; exact hJ3⟩
        case measure => simp [intOf]; omega
      · gi_wp2
        refine bodyPost_ret (results_none rfl _ _ _) rfl ?_
        exact ⟨⟨_, rfl⟩, .inr ⟨_, by rw [← Hr.out]; exact bitRow_prefix num many (k + 1) (by omega), hJx3⟩⟩
    · obtain rfl : k = many := by omega
      gi_wp2
      go_end0
      exact ⟨⟨_, rfl⟩, .inl ⟨_, rfl, hJ⟩⟩
theorem shifts_in (F : Fence) (n : Nat) (h5 : F.fn 119) (hro : F.round = none) (num many : Int) (w : World) :
    CallsIn F n Tryz.prog 119 #[.int .i64 num, .int .i64 many] w fun e w' => e = .returned (.func (.func 131) #[] #[.pointer (some ⟨w.heap.size + 1, 0, none⟩), .pointer (some ⟨w.heap.size, 0, none⟩)]) ∧ w' = (w.alloc (.cells #[.int .i64 num] 3)).alloc (.cells #[.int .i64 many] 3) := by
  refine callsIn_of_wp Tryz.func119 rfl h5 ?_ hro
  simp only [Tryz.ntmps119, List.size_toArray, List.length_cons, List.length_nil, Nat.reduceAdd, Nat.reduceSub, Array.replicate_succ, Array.replicate_zero, List.push_toArray, List.append_toArray, List.nil_append, List.cons_append]
  gi_wp2
  go_ret
  exact ⟨rfl, rfl⟩
theorem shifts_stops (F : Fence) (n : Nat) (h6 : F.fn 131) (hro : F.round = none) (hn : 1 ≤ n) (Bm Bn : Nat) (num many : Nat) (hm : many ≤ 63) (hnum : num < 4611686018427387904) (w : World)
    (hbm : Boxed w Bm 3 (.int .i64 many)) (hbn : Boxed w Bn 3 (.int .i64 num)) :
    SeqStopsK F n Tryz.prog 131 #[.pointer (some ⟨Bm, 0, none⟩), .pointer (some ⟨Bn, 0, none⟩)] (fun x : Int => #[Value.int .i64 x]) (Kept2 Bm Bn) (fun ys => ys = bitRow num many many) (fun pre => pre <+: bitRow num many many) many w := fun l J Jx W hW _ _ hY h0 =>
  shifts1_in F n h6 hro hn l Bm Bn num many hm hnum J Jx hY W ((hW.cell (p := ⟨Bm, 0, none⟩) hbm.lt).trans hbm.cell) ((hW.cell (p := ⟨Bn, 0, none⟩) hbn.lt).trans hbn.cell) h0
theorem coll_step {W w1 : World} {n₀ g Bo k m cap : Nat} {t e : TypeId} {v' : Value} {xs ys : List Value} {tmp : Obj}
    (hv : Boxed W Bo t (.slice (some ⟨g, 0, none⟩) k cap)) (hte : t ≠ e) (hrow : W.ownsRow n₀ e 1 (.slice (some ⟨g, 0, none⟩) k cap) k xs) (hn₀ : n₀ ≤ W.heap.size) (hB : n₀ ≤ Bo)
    (hown' : w1.ownsRow n₀ e 1 v' m ys) (hgrow : (W.alloc tmp).grownBy w1 (some g)) :
    Boxed w1 Bo t (.slice (some ⟨g, 0, none⟩) k cap) ∧ Boxed (w1.setCell ⟨Bo, 0, none⟩ v') Bo t v' ∧ (w1.setCell ⟨Bo, 0, none⟩ v').ownsRow n₀ e 1 v' m ys ∧ KeepsOthers W (w1.setCell ⟨Bo, 0, none⟩ v') ∧ Below n₀ W (w1.setCell ⟨Bo, 0, none⟩ v') ∧
      ∀ B u tu, Boxed W B tu u → B ≠ g → B ≠ Bo → Boxed (w1.setCell ⟨Bo, 0, none⟩ v') B tu u := by
  obtain ⟨a1, a2, a3, a4, a5⟩ := hv.appended hte hrow hn₀ hB hown' hgrow
  refine ⟨a1, a2, a3, a4, a5, fun B u tu hb h1 h2 => ?_⟩
  exact ((hb.alloc tmp).kept hgrow (fun e => h1 (by cases e; rfl))).other h2 v'
open Go.RowKit Go.Shelf
attribute [local go_sem] Oper.semAt_some
theorem ownsRow_own {W W' : World} {row : Option Nat} {base : Nat} {e : TypeId} {size : Nat} {v : Value} {k : Nat} {xs : List Value} {B : Nat} (h : W.ownsRow base e size v k xs) (hg : W.grownBy W' row)
    (hr : ∀ r, row = some r → B ≤ r ∧ ∃ o : Obj, W.heap[r]? = some o ∧ o.isCells = false) : W'.ownsRow base e size v k xs := by
  refine h.kept hg ?_
  rcases h.2 with ⟨rfl, _⟩ | ⟨g, cap, cur, rfl, _, hgb, _⟩
  · exact .inl rfl
  · refine .inr fun e' => ?_
    obtain ⟨_, o, ho, hc⟩ := hr g (by simpa [Value.ownBlock] using e'.symm)
    rw [hgb] at ho; cases ho; cases hc
theorem put_yes_in (F : Fence) (n : Nat) (h3 : F.fn 102) (h4 : F.fn 119) (h5 : F.fn 131) (hro : F.round = none) (hn : 3 ≤ n) (num many : Nat) (hm : many ≤ 32) (hnum : num < 2 ^ many) (w : World) :
    CallsIn F n Tryz.prog 102 #[.int .i64 num, .int .i64 many] w fun e W' => e = .returned (.tuple #[.slice (some ⟨w.heap.size, 0, none⟩) many many, .bool true]) ∧ W'.ownsRow w.heap.size 3 1 (.slice (some ⟨w.heap.size, 0, none⟩) many many) many ((bitRow num many many).map (Value.int .i64)) ∧ Below w.heap.size w W' := by
  have h1 : 1 ≤ n := by omega
  obtain ⟨i0, hi, hz0, hz1, hz2⟩ := info_parts Tryz.infoInt
  refine callsIn_of_wp_marks Tryz.func102 rfl h3 ?_ hro
  simp only [Tryz.ntmps102, List.size_toArray, List.length_cons, List.length_nil, Nat.reduceAdd, Nat.reduceSub, Array.replicate_succ, Array.replicate_zero, List.push_toArray, List.append_toArray, List.nil_append, List.cons_append]
  have d1 : decide ((many : Int) < 0) = false := by simp
  have d2 : decide (32 < (many : Int)) = false := by simp; omega
  have d3 : decide ((num : Int) < 0) = false := by simp
  have d4 : decide (wrap64 (2 ^ many) ≤ (num : Int)) = false := by
    rw [wrap_pow many hm]; simp; exact_mod_cast hnum
  have hn62 : num < 4611686018427387904 := by
    have := Nat.pow_le_pow_right (n := 2) (by omega) hm
    omega
  have Hnum := Lib.hid hnum
  clear hnum
  gi_wp2_with (first
    | (gi_at_make; refine wpListIn_make_own _ rfl _ _ 39 rfl w.heap.size 3 i0 (.int .i64 0) 1 Tryz.underlying39 hi hz0 hz1 _ _ _ many rfl rfl rfl (by rw [hz2]; omega) (by unfold maxLen; omega) (Nat.le_refl _) ?_; intro w0 hown0 hgrow0)
    | (gi_at_call 119; refine (shifts_in F (n - 1) h4 hro _ _ _).mono ?_; rintro e w' ⟨rfl, rfl⟩))
  have hz := hgrow0.size
  have hg0 := (hown0.lt w.heap.size rfl).2
  have hB0 : Below w.heap.size w (((w0.alloc (.cells #[.slice (some ⟨w.heap.size, 0, none⟩) 0 many] 39)).alloc (.cells #[.int .i64 num] 3)).alloc (.cells #[.int .i64 many] 3)) :=
    ((((Below.refl _ _).grown hgrow0 (Nat.le_refl _) (fun k h => by cases h)).alloc hz _).alloc (by simp; omega) _).alloc (by simp; omega) _
  have bO := Boxed.new w0 39 (.slice (some ⟨w.heap.size, 0, none⟩) 0 many)
  have bN := Boxed.new (w0.alloc (.cells #[.slice (some ⟨w.heap.size, 0, none⟩) 0 many] 39)) 3 (.int .i64 num)
  have bM := Boxed.new ((w0.alloc (.cells #[.slice (some ⟨w.heap.size, 0, none⟩) 0 many] 39)).alloc (.cells #[.int .i64 num] 3)) 3 (.int .i64 many)
  simp only [World.size_alloc] at bN bM
  refine wpIn_rangeFunc_ownG hro h1 (gf := 131) (lb := #[.pointer (some ⟨w0.heap.size + 1 + 1, 0, none⟩), .pointer (some ⟨w0.heap.size + 1, 0, none⟩)]) rfl h5 (enters_of Tryz.func131 (by kernel_rfl) rfl)
    (shifts_stops F (n - 1) h5 hro (by omega) (w0.heap.size + 1 + 1) (w0.heap.size + 1) num many (by omega) hn62 _ bM (bN.alloc _)) Kept2.trans (fun W l o o' _ h ho _ => Kept2.putObj W l o o' h ho) (Below.refl _ _) (fun _ => rfl)
    (fun pre W => (((Boxed W w0.heap.size 39 (.slice (some ⟨w.heap.size, 0, none⟩) pre.length many) ∧ Boxed W (w0.heap.size + 1) 3 (.int .i64 num)) ∧ Boxed W (w0.heap.size + 1 + 1) 3 (.int .i64 many)) ∧
      W.ownsRow w.heap.size 3 1 (.slice (some ⟨w.heap.size, 0, none⟩) pre.length many) pre.length (pre.map (Value.int .i64))) ∧ Below w.heap.size w W)
    (fun _ _ _ => False)
    (OwnFrom.and (OwnFrom.and (OwnFrom.and (OwnFrom.and (Own.from (boxed_own _ _ _) _) (Own.from (boxed_own _ _ _) _)) (Own.from (boxed_own _ _ _) _)) (fun s A B row hs hg hr => ownsRow_own hs hg hr)) (ownFrom_below (Nat.le_refl _) (by simp; omega)))
    (fun _ _ _ _ _ hs _ _ => hs)
    ⟨⟨⟨⟨(bO.alloc _).alloc _, bN.alloc _⟩, bM⟩, ((hown0.alloc _).alloc _).alloc _⟩, hB0⟩
    (fun x => { tmps := #[.int .i64 num, .int .i64 many, undef, undef, .slice none 0 0, .bool false, .pointer (some ⟨w0.heap.size, 0, none⟩), .int .i64 x, .int .i64 many, .bool false, .bool false, .int .i64 many, .bool false, .bool false, .bool false, .int .i64 num, .bool false, .bool false, .bool false, .int .i64 num, .int .i64 many, .int .i64 (wrap64 (2 ^ many)), .bool false, .bool false, .int .i64 many, .slice (some ⟨w.heap.size, 0, none⟩) 0 many, .int .i64 num, .int .i64 many, .func (.func 131) #[] #[.pointer (some ⟨w0.heap.size + 1 + 1, 0, none⟩), .pointer (some ⟨w0.heap.size + 1, 0, none⟩)], .int .i64 x, undef, undef, undef, undef, undef], defers := [] }) ?assign ?body ?done ?stop
  case assign =>
    intro l x W K hK
    gi_wp2
    exact hK
  case body =>
    rintro l pre x W ⟨⟨⟨⟨hv, hvn⟩, hvm⟩, hrow⟩, hB⟩ hlt
    have hc := hv.cell
    gi_wp2_with (gi_at_builtin; refine wpListIn_append_fits _ rfl _ _ 39 rfl w.heap.size 3 i0 1 Tryz.underlying39 hi hz1 w.heap.size pre.length many _ rfl (hrow.alloc _) ⟨W.heap.size, 0, none⟩ 1 1 [.int .i64 x] rfl rfl (cell_one_new _ _ _) (by simp [Value.oneCell']) (by omega) ?_; intro w1 hown' hgrow; obtain ⟨hv1, hv2, hr2, hk2, hb2, ho2⟩ := coll_step hv (by decide) hrow hB.size hz hown' hgrow; have hc1 := hv1.cell; have hf1 := hv1.frozen)
    have hvn2 := ho2 _ _ _ hvn (by omega) (by omega)
    have hvm2 := ho2 _ _ _ hvm (by omega) (by omega)
    exact ⟨hk2.from _, Kept2.boxed hvm hvn hvm2 hvn2, ⟨⟨⟨by simpa using hv2, hvn2⟩, hvm2⟩, by simpa using hr2⟩, hB.trans hb2⟩
  case done =>
    rintro D ys W hD rfl ⟨⟨⟨⟨hv, hvn⟩, hvm⟩, hrow⟩, hB⟩ hK
    have hc := hv.cell
    have hl : (bitRow num many many).length = many := by simp [bitRow]
    gi_wp2
    refine ⟨by simp, .inl ⟨_, _, rfl, run_takeDeferred hK, ?_⟩⟩
    refine ⟨_, results_tmp2 rfl _ _ _, rfl, ?_, hB.trans (belowK_b (w := w) (Nat.le_refl _) W D _ _ (by simp at hD; omega) hK rfl rfl)⟩
    have h := ownsRow_putObj hrow (.deferred none) hK rfl
    rw [hl] at h
    exact h
  case stop =>
    rintro D c pre W _ _ h _
    exact h.elim
def PutOk (num many : Int) : Prop := 0 ≤ many ∧ many ≤ 32 ∧ 0 ≤ num ∧ num < 2 ^ many.toNat
theorem put_yes (num many : Nat) (hm : many ≤ 32) (hnum : num < 2 ^ many) (w : World) :
    Calls Tryz.prog 102 #[.int .i64 num, .int .i64 many] w fun e W' => e = .returned (.tuple #[.slice (some ⟨w.heap.size, 0, none⟩) many many, .bool true]) ∧ W'.ownsRow w.heap.size 3 1 (.slice (some ⟨w.heap.size, 0, none⟩) many many) many ((bitRow num many many).map (Value.int .i64)) ∧ Below w.heap.size w W' :=
  callsIn_wide.1 (put_yes_in Fence.wide 3 trivial trivial trivial rfl (Nat.le_refl _) num many hm hnum w)
def getOk (l : List Int) : Bool := decide (l.length ≤ 32) && rightB l
theorem run_conv (w : World) (l : List Int) (A : Option Addr) (c B : Nat) (h : Row .u8 w B A l) : (convert 32 9 (.slice A l.length c)).run Tryz.prog w = .ok (.string (strOfNums l)) w := by
  rw [run_convert_bytes_string w 32 9 5 _ _ _ Tryz.underlying32 Tryz.underlying5 Tryz.underlying9]
  cases A with
  | none =>
    rcases h with rfl | ⟨ad, e, _⟩
    · simp [Conv.bytesToString, strOfNums]; rfl
    · cases e
  | some ad =>
    have hl : (loadCells ad l.length).run Tryz.prog w = .ok (l.map (Value.int .u8)).toArray w := by
      have := run_loadCells_list (P := Tryz.prog) w ad (l.map (Value.int .u8)) (fun j v hj => by
        rcases h with rfl | ⟨ad', e, _, hc⟩
        · simp at hj
        · cases e
          simp only [List.getElem?_map, Option.map_eq_some_iff] at hj
          obtain ⟨x, hx, rfl⟩ := hj
          exact hc j x hx)
      simpa using this
    rw [run_bytesToString w _ _ c l hl, foldl_push_bytes]
    simp [strOfNums, ByteArray.empty, ByteArray.emptyWithCapacity]
    rfl
theorem strOfNums_inj : ∀ {a b : List Int}, byteB a → byteB b → strOfNums a = strOfNums b → a = b := by
  intro a b ha hb h
  have h2 : (a.map fun n => UInt8.ofNat n.toNat) = (b.map fun n => UInt8.ofNat n.toNat) := by
    rw [← strOfNums_data, ← strOfNums_data, h]
  clear h
  induction a generalizing b with
  | nil => cases b with
    | nil => rfl
    | cons y b => simp at h2
  | cons x a ih => cases b with
    | nil => simp at h2
    | cons y b =>
      simp only [List.map_cons, List.cons.injEq] at h2
      have hx := ha x (by simp)
      have hy := hb y (by simp)
      have e : x = y := by
        have := congrArg UInt8.toNat h2.1
        simp only [UInt8.toNat_ofNat'] at this
        omega
      rw [e, ih (fun z hz => ha z (by simp [hz])) (fun z hz => hb z (by simp [hz])) h2.2]
theorem sameBytes_any (a b : List Int) (A A' : Option Addr) (c c' B B' : Nat) (w : World) (h : Row .u8 w B A a) (h' : Row .u8 w B' A' b) (ha : byteB a) (hb : byteB b) :
    Calls Tryz.prog 54 #[.slice A a.length c, .slice A' b.length c'] w fun e w' => e = .returned (.bool (sameB a b)) ∧ w = w' := by
  have h1 := run_conv w a A c B h
  have h2 := run_conv w b A' c' B' h'
  have HA := Lib.hid ha
  have HB := Lib.hid hb
  clear ha hb
  go_enter Tryz.func54, Tryz.ntmps54
  go_wp2
  go_ret
  refine ⟨ret_bool ?_, rfl⟩
  rw [ByteArray.toList_eq, ByteArray.toList_eq, strOfNums_data, strOfNums_data, Bool.eq_iff_iff]
  simp only [beq_iff_eq, sameB, decide_eq_true_eq]
  constructor
  · intro e
    refine strOfNums_inj HA.out HB.out ?_
    simp only [strOfNums, e]
  · rintro rfl
    rfl
def joinOk (l : List Int) : Bool := decide (l.length % 8 = 0) && rightB l
def joinTo (l : List Int) (k : Nat) : List Int := (List.range k).map fun i => ((numOf ((l.drop (8 * i)).take 8) : Nat) : Int)
def joinL (l : List Int) : List Int := joinTo l (l.length / 8)
open Go.RowKit Go.Shelf
attribute [local go_sem] Oper.semAt_some
def marks (Ds : List Nat) : List Deferred := Ds.map fun D => { target := .collected D, args := #[] }
theorem leaves_marks {F : Fence} {n : Nat} {P : Program} {fn : Func} {tmps : Array Value} {R : Ending → World → Prop} (Q : World → Prop) (base : Nat)
    (hQ : ∀ W D, base ≤ D → W.heap[D]? = some (.deferred (some [])) → Q W → Q (W.putObj D (.deferred none))) (hend : ∀ W, Q W → LeavesInM F n P fn tmps R [] .returning W) :
    ∀ (Ds : List Nat) (W : World), Ds.Nodup → (∀ D ∈ Ds, base ≤ D ∧ W.heap[D]? = some (.deferred (some []))) → Q W → LeavesInM F n P fn tmps R (marks Ds) .returning W := by
  intro Ds
  induction Ds with
  | nil => intro W _ _ hq; exact hend W hq
  | cons D Ds ih =>
    intro W hnd hD hq
    have hK := (hD D (by simp)).2
    refine ⟨by simp, .inl ⟨D, _, rfl, run_takeDeferred hK, ?_⟩⟩
    rw [List.nodup_cons] at hnd
    refine ih _ hnd.2 (fun D' h' => ⟨(hD D' (by simp [h'])).1, ?_⟩) (hQ W D (hD D (by simp)).1 hK hq)
    have hK' := (hD D' (by simp [h'])).2
    exact ((grownBy_putObj' W D (.deferred none)).block D' (Array.getElem?_eq_some_iff.1 hK').1 (fun e => by cases e; exact hnd.1 h')).trans hK'
theorem defs_own {β : Type} (B : Nat) (Ds : List Nat) (hB : ∀ D ∈ Ds, D < B) : OwnFrom B (fun (_ : β) W => ∀ D ∈ Ds, W.heap[D]? = some (.deferred (some []))) :=
  fun _ X Y row hs hg hr D hD => by
    have h0 := hs D hD
    refine (hg.block D (Array.getElem?_eq_some_iff.1 h0).1 (fun e => ?_)).trans h0
    have h1 := (hr D e.symm).1
    have h2 := hB D hD
    omega
theorem row_own {β : Type} (B base : Nat) (e : TypeId) (size : Nat) (v : β → Value) (k : β → Nat) (f : β → List Value) : OwnFrom B (fun s W => W.ownsRow base e size (v s) (k s) (f s)) :=
  fun _ _ _ _ hs hg hr => ownsRow_own hs hg hr
theorem spread_in (F : Fence) (n : Nat) (h3 : F.fn 125) (h4 : F.fn 119) (h5 : F.fn 131) (hro : F.round = none) (hn : 3 ≤ n) (l : List Int) (A : Option Addr) (c : Nat) (w : World) (h : Row .u8 w w.heap.size A l) (hb : ∀ x ∈ l, 0 ≤ x ∧ x ≤ 255) (hm : l.length * 64 ≤ 140737488355328) :
    CallsIn F n Tryz.prog 125 #[.slice A l.length c] w fun e W' => e = .returned (.slice (some ⟨w.heap.size, 0, none⟩) (8 * l.length) (8 * l.length)) ∧ W'.ownsRow w.heap.size 3 1 (.slice (some ⟨w.heap.size, 0, none⟩) (8 * l.length) (8 * l.length)) (8 * l.length) ((spreadL l).map (Value.int .i64)) ∧ Below w.heap.size w W' := by
  have h1 : 1 ≤ n := by omega
  obtain ⟨i0, hi, hz0, hz1, hz2⟩ := info_parts Tryz.infoInt
  have Hb := Lib.hid hb
  clear hb
  refine callsIn_of_wp_marks Tryz.func125 rfl h3 ?_ hro
  simp only [Tryz.ntmps125, List.size_toArray, List.length_cons, List.length_nil, Nat.reduceAdd, Nat.reduceSub, Array.replicate_succ, Array.replicate_zero, List.push_toArray, List.append_toArray, List.nil_append, List.cons_append]
  gi_wp2_with (first
    | (gi_at_make; refine wpListIn_make_own _ rfl _ _ 39 rfl w.heap.size 3 i0 (.int .i64 0) 1 Tryz.underlying39 hi hz0 hz1 _ _ _ (8 * l.length) rfl rfl (by simp; omega) (by rw [hz2]; omega) (by unfold maxLen; omega) (Nat.le_refl _) ?_; intro w0 hown0 hgrow0))
  have hz := hgrow0.size
  have hg0 := (hown0.lt w.heap.size rfl).2
  have hB0 : Below w.heap.size w (w0.alloc (.cells #[.slice (some ⟨w.heap.size, 0, none⟩) 0 (8 * l.length)] 39)) :=
    ((Below.refl _ _).grown hgrow0 (Nat.le_refl _) (fun k h => by cases h)).alloc hz _
  have bO := Boxed.new w0 39 (.slice (some ⟨w.heap.size, 0, none⟩) 0 (8 * l.length))
  refine wpIn_loop (fun a W => ∃ (k : Nat) (Ds : List Nat) (u5 u6 u14 u15 u16 u17 u18 u19 u20 u21 u22 u23 u24 u25 : Value), k ≤ l.length ∧
      a = { tmps := #[.slice A l.length c, undef, .slice none 0 0, .pointer (some ⟨w0.heap.size, 0, none⟩), undef, u5, u6, .slice A l.length c, .int .i64 l.length, .int .i64 (l.length * 8), .slice (some ⟨w.heap.size, 0, none⟩) 0 (8 * l.length), .slice A l.length c, .int .i64 l.length, .int .i64 k, u14, u15, u16, u17, u18, u19, u20, u21, u22, u23, u24, u25, undef], defers := marks Ds } ∧
      Boxed W w0.heap.size 39 (.slice (some ⟨w.heap.size, 0, none⟩) (8 * k) (8 * l.length)) ∧ W.ownsRow w.heap.size 3 1 (.slice (some ⟨w.heap.size, 0, none⟩) (8 * k) (8 * l.length)) (8 * k) ((spreadL (l.take k)).map (Value.int .i64)) ∧
      Below w.heap.size w W ∧ Ds.Nodup ∧ (∀ D ∈ Ds, w.heap.size ≤ D) ∧ ∀ D ∈ Ds, W.heap[D]? = some (.deferred (some [])))
    (fun a _ => l.length - (intOf (a.tmps.getD 13 undef)).toNat) ?start ?round
  case start => exact ⟨0, [], _, _, _, _, _, _, _, _, _, _, _, _, _, _, Nat.zero_le _, rfl, bO, hown0.alloc _, hB0, by simp, by simp, by simp⟩
  case round =>
    rintro a wr ⟨k, Ds, u5, u6, u14, u15, u16, u17, u18, u19, u20, u21, u22, u23, u24, u25, hk, rfl, hv, hrow, hB, hnd, hDb, hDs⟩
    have Hnd := Lib.hid hnd
    have HDb := Lib.hid hDb
    have HDs := Lib.hid hDs
    clear hnd hDb hDs
    by_cases hlt : k < l.length
    · obtain ⟨ad, x, rfl, hx, hc⟩ := (h.below hB).get_ hlt
      have hxb := Hb.out x (List.mem_of_getElem? hx)
      obtain ⟨N, rfl⟩ := Int.eq_ofNat_of_zero_le hxb.1
      have hN : N ≤ 255 := by omega
      have hsn := spreadL_snoc hx
      have Hsn := Lib.hid hsn
      clear hsn hx hxb
      gi_wp2_with (gi_at_call 119; refine (shifts_in F (n - 1) h4 hro _ _ _).mono ?_; rintro e w' ⟨rfl, rfl⟩)
      have hzr := hB.size
      have bN : Boxed ((wr.alloc (.cells #[.int .i64 N] 3)).alloc (.cells #[.int .i64 8] 3)) wr.heap.size 3 (.int .i64 N) := (Boxed.new wr 3 (.int .i64 N)).alloc _
      have bM : Boxed ((wr.alloc (.cells #[.int .i64 N] 3)).alloc (.cells #[.int .i64 8] 3)) (wr.heap.size + 1) 3 (.int .i64 ((8 : Nat) : Int)) := by
        have := Boxed.new (wr.alloc (.cells #[.int .i64 N] 3)) 3 (.int .i64 8)
        rw [World.size_alloc] at this
        exact this
      have hB1 : Below w.heap.size w ((wr.alloc (.cells #[.int .i64 N] 3)).alloc (.cells #[.int .i64 8] 3)) := (hB.alloc hzr _).alloc (by simp; omega) _
      have hvlt := hv.lt
      have hDlt : ∀ D ∈ Ds, D < wr.heap.size := fun D hD => (Array.getElem?_eq_some_iff.1 (HDs.out D hD)).1
      have HDlt := Lib.hid hDlt
      clear hDlt
      have hDs1 : ∀ D ∈ Ds, ((wr.alloc (.cells #[.int .i64 N] 3)).alloc (.cells #[.int .i64 8] 3)).heap[D]? = some (.deferred (some [])) := fun D hD =>
        (Below.heap_alloc _ _ D (by have := HDlt.out D hD; simp; omega)).trans ((Below.heap_alloc _ _ D (HDlt.out D hD)).trans (HDs.out D hD))
      refine wpIn_rangeFunc_ownG hro h1 (gf := 131) (lb := #[.pointer (some ⟨wr.heap.size + 1, 0, none⟩), .pointer (some ⟨wr.heap.size, 0, none⟩)]) rfl h5 (enters_of Tryz.func131 (by kernel_rfl) rfl)
        (shifts_stops F (n - 1) h5 hro (by omega) (wr.heap.size + 1) wr.heap.size N 8 (by omega) (by omega) _ bM bN) Kept2.trans (fun W l o o' _ h ho _ => Kept2.putObj W l o o' h ho) (Below.refl _ _) (fun _ => rfl)
        (fun pre W => (((((Boxed W w0.heap.size 39 (.slice (some ⟨w.heap.size, 0, none⟩) (8 * k + pre.length) (8 * l.length)) ∧ Boxed W wr.heap.size 3 (.int .i64 N)) ∧ Boxed W (wr.heap.size + 1) 3 (.int .i64 ((8 : Nat) : Int))) ∧
          W.ownsRow w.heap.size 3 1 (.slice (some ⟨w.heap.size, 0, none⟩) (8 * k + pre.length) (8 * l.length)) (8 * k + pre.length) ((spreadL (l.take k) ++ pre).map (Value.int .i64))) ∧ Below w.heap.size w W) ∧ (∀ D ∈ Ds, W.heap[D]? = some (.deferred (some [])))))
        (fun _ _ _ => False)
        (OwnFrom.and (OwnFrom.and (OwnFrom.and (OwnFrom.and (OwnFrom.and (Own.from (boxed_own _ _ _) _) (Own.from (boxed_own _ _ _) _)) (Own.from (boxed_own _ _ _) _)) (row_own _ _ _ _ _ _ _)) (ownFrom_below (Nat.le_refl _) (by simp; omega))) (defs_own _ Ds (fun D hD => by have := HDlt.out D hD; simp; omega)))
        (fun _ _ _ _ _ hs _ _ => hs)
        ⟨⟨⟨⟨⟨(hv.alloc _).alloc _, bN⟩, bM⟩, by simpa using (hrow.alloc _).alloc _⟩, hB1⟩, hDs1⟩
        (fun x => { tmps := #[.slice (some ad) l.length c, undef, .slice none 0 0, .pointer (some ⟨w0.heap.size, 0, none⟩), undef, .int .u8 N, .int .i64 x, .slice (some ad) l.length c, .int .i64 l.length, .int .i64 (l.length * 8), .slice (some ⟨w.heap.size, 0, none⟩) 0 (8 * l.length), .slice (some ad) l.length c, .int .i64 l.length, .int .i64 k, .bool true, .pointer (some (ad.add k)), .int .u8 N, .int .u8 N, .int .i64 N, .func (.func 131) #[] #[.pointer (some ⟨wr.heap.size + 1, 0, none⟩), .pointer (some ⟨wr.heap.size, 0, none⟩)], .int .i64 x, u21, u22, u23, u24, u25, undef], defers := [] }) ?assign ?body ?done ?stop
      case assign =>
        intro l x W K hK
        gi_wp2
        exact hK
      case body =>
        rintro lp pre x W ⟨⟨⟨⟨⟨hv, hvn⟩, hvm⟩, hrow⟩, hB⟩, hDs⟩ hlt8
        have hc := hv.cell
        have HDs2 := Lib.hid hDs
        clear hDs
        gi_wp2_with (gi_at_builtin; refine wpListIn_append_fits _ rfl _ _ 39 rfl w.heap.size 3 i0 1 Tryz.underlying39 hi hz1 w.heap.size (8 * k + pre.length) (8 * l.length) _ rfl (hrow.alloc _) ⟨W.heap.size, 0, none⟩ 1 1 [.int .i64 x] rfl rfl (cell_one_new _ _ _) (by simp [Value.oneCell']) (by omega) ?_; intro w1 hown' hgrow; obtain ⟨hv1, hv2, hr2, hk2, hb2, ho2⟩ := coll_step hv (by decide) hrow hB.size hz hown' hgrow; have hc1 := hv1.cell; have hf1 := hv1.frozen)
        have hvn2 := ho2 _ _ _ hvn (by omega) (by omega)
        have hvm2 := ho2 _ _ _ hvm (by omega) (by omega)
        refine ⟨hk2.from _, Kept2.boxed hvm hvn hvm2 hvn2, ⟨⟨⟨⟨by simpa [Nat.add_assoc] using hv2, hvn2⟩, hvm2⟩, by simpa [Nat.add_assoc] using hr2⟩, hB.trans hb2⟩, fun D hD => hk2.same D _ (HDs2.out D hD) rfl⟩
      case done =>
        rintro D ys W hD rfl ⟨⟨⟨⟨⟨hv, hvn⟩, hvm⟩, hrow⟩, hB⟩, hDs⟩ hK
        have HDs2 := Lib.hid hDs
        clear hDs
        gi_wp2
        have hl8 : (bitRow N 8 8).length = 8 := by simp [bitRow]
        rw [hl8] at hv hrow
        refine ⟨⟨k + 1, D :: Ds, _, _, _, _, _, _, _, _, _, _, _, _, _, _, by omega, rfl, hv, ?_, hB, ?_, ?_, ?_⟩, by simp [intOf]; omega⟩
        · have e : spreadL (l.take (k + 1)) = spreadL (l.take k) ++ bitRow N 8 8 := by rw [Hsn.out]; rfl
          rw [e]
          exact hrow
        · rw [List.nodup_cons]
          refine ⟨fun hin => ?_, Hnd.out⟩
          have := HDlt.out D hin
          simp at hD
          omega
        · intro D' h'
          rcases List.mem_cons.1 h' with rfl | h'
          · simp at hD; omega
          · exact HDb.out D' h'
        · intro D' h'
          rcases List.mem_cons.1 h' with rfl | h'
          · exact hK
          · exact HDs2.out D' h'
      case stop =>
        rintro D c pre W _ _ h _
        exact h.elim
    · obtain rfl : k = l.length := by omega
      have hc := hv.cell
      gi_wp2
      refine leaves_marks (fun W => W.ownsRow w.heap.size 3 1 (.slice (some ⟨w.heap.size, 0, none⟩) (8 * l.length) (8 * l.length)) (8 * l.length) ((spreadL l).map (Value.int .i64)) ∧ Below w.heap.size w W) w.heap.size
        (fun W D hD hK hq => ⟨ownsRow_putObj hq.1 _ hK rfl, hq.2.trans (belowK_b (w := w) (Nat.le_refl _) W D _ _ hD hK rfl rfl)⟩) (fun W hq => ⟨_, results_tmp rfl _ _ _, rfl, hq.1, hq.2⟩) Ds wr Hnd.out (fun D hD => ⟨HDb.out D hD, HDs.out D hD⟩) ⟨?_, hB⟩
      rw [List.take_length] at hrow
      exact hrow
theorem spread_any (l : List Int) (A : Option Addr) (c : Nat) (w : World) (h : Row .u8 w w.heap.size A l) (hb : ∀ x ∈ l, 0 ≤ x ∧ x ≤ 255) (hm : l.length * 64 ≤ 140737488355328) :
    Calls Tryz.prog 125 #[.slice A l.length c] w fun e W' => e = .returned (.slice (some ⟨w.heap.size, 0, none⟩) (8 * l.length) (8 * l.length)) ∧ W'.ownsRow w.heap.size 3 1 (.slice (some ⟨w.heap.size, 0, none⟩) (8 * l.length) (8 * l.length)) (8 * l.length) ((spreadL l).map (Value.int .i64)) ∧ Below w.heap.size w W' :=
  callsIn_wide.1 (spread_in Fence.wide 3 trivial trivial trivial rfl (Nat.le_refl _) l A c w h hb hm)
theorem put_yes_at (n m : Int) (num many : Nat) (hn : n = num) (hm' : m = many) (hm : many ≤ 32) (hnum : num < 2 ^ many) (w : World) :
    Calls Tryz.prog 102 #[.int .i64 n, .int .i64 m] w fun e W' => ∃ A, e = .returned (.tuple #[.slice A many many, .bool true]) ∧ Row .i64 W' W'.heap.size A (bitRow num many many) ∧ Below w.heap.size w W' := by
  subst hn hm'
  exact (put_yes num many hm hnum w).mono fun e W' ⟨h1, h2, h3⟩ => ⟨_, h1, Row.own h2, h3⟩
theorem sameBytes_at (a b : List Int) (n m : Nat) (hn : a.length = n) (hm : b.length = m) (A A' : Option Addr) (c c' B B' : Nat) (w : World) (h : Row .u8 w B A a) (h' : Row .u8 w B' A' b) (ha : byteB a) (hb : byteB b) :
    Calls Tryz.prog 54 #[.slice A n c, .slice A' m c'] w fun e w' => e = .returned (.bool (sameB a b)) ∧ w = w' := by
  subst hn hm; exact sameBytes_any a b A A' c c' B B' w h h' ha hb
theorem spread_at (l : List Int) (n : Nat) (hn : l.length = n) (A : Option Addr) (c B : Nat) (w : World) (h : Row .u8 w B A l) (hB : B ≤ w.heap.size) (hb : byteB l) (hm : n * 64 ≤ 140737488355328) (m : Nat) (hm' : 8 * n = m) :
    Calls Tryz.prog 125 #[.slice A n c] w fun e W' => ∃ A', e = .returned (.slice A' m m) ∧ Row .i64 W' W'.heap.size A' (spreadL l) ∧ Below w.heap.size w W' := by
  subst hn hm'
  exact (spread_any l A c w (h.more hB) hb hm).mono fun e W' ⟨h1, h2, h3⟩ => ⟨_, h1, Row.own h2, h3⟩
theorem joinTo_cons (c l : List Int) (h : c.length = 8) (k : Nat) : joinTo (c ++ l) (k + 1) = ((numOf c : Nat) : Int) :: joinTo l k := by
  unfold joinTo
  rw [List.range_succ_eq_map, List.map_cons, List.map_map]
  congr 1
  · simp [← h]
  · apply List.map_congr_left
    intro i _
    simp only [Function.comp]
    rw [show 8 * (i + 1) = c.length + 8 * i by omega, List.drop_append, List.drop_eq_nil_of_le (by omega)]
    simp
end Go.Proofs.YtcifjccojmfpaaaGreat

namespace Go.Proofs.YtcifjccojmfpaaaGreat
open Go.RowKit
set_option linter.unusedVariables false
set_option linter.unusedSimpArgs false
section
variable {w w' : World} {R : Nat} {A : Option Addr} {n c : Nat} {l : List Int} {k : Nat}
end
structure Fr where
  ext : Bool
  id : Int
  rem : Bool
  len : Int
  data : List Int
deriving DecidableEq
def Fr.none_ : Fr := ⟨false, 0, false, 0, []⟩
def flag (b : Bool) : Int := if b then 1 else 0
def numAt (l : List Int) (a m : Nat) : Int := ((numOf ((l.drop a).take m) : Nat) : Int)
def namedL (l : List Int) : Except Int (Fr × Nat) :=
  if l.length < 14 then .error 40
  else if l.getD 13 0 = 0 then .ok (⟨false, numAt l 1 11, decide (l.getD 12 0 = 1), 0, []⟩, 14)
  else if l.getD 12 0 ≠ 1 then .error 42
  else if l.length < 34 then .error 40
  else if l.getD 33 0 ≠ 0 then .error 42
  else .ok (⟨true, numAt l 1 11 * 262144 + numAt l 14 18, decide (l.getD 32 0 = 1), 0, []⟩, 34)
def tailL (l : List Int) (f : Fr) (k : Nat) : Except Int (Fr × Nat) :=
  if l.length < k + 1 then .error 40
  else if l.getD k 0 ≠ 0 then .error 42
  else if l.length < k + 5 then .error 40
  else if 8 < numAt l (k + 1) 4 then .error 41
  else if f.rem then .ok ({ f with len := numAt l (k + 1) 4 }, k + 5)
  else if l.length < k + 5 + 8 * (numAt l (k + 1) 4).toNat then .error 40
  else .ok ({ f with len := numAt l (k + 1) 4, data := joinL ((l.drop (k + 5)).take (8 * (numAt l (k + 1) 4).toNat)) }, k + 5 + 8 * (numAt l (k + 1) 4).toNat)
def readL (l : List Int) : Except Int (Fr × Nat) :=
  if l.length < 1 then .error 40
  else if l.getD 0 0 ≠ 0 then .error 42
  else match namedL l with
    | .error e => .error e
    | .ok (f, k) => tailL l f k
theorem cells5 {w : World} {F : Nat} {a b c d e : Value} {t : TypeId} (h : w.heap[F]? = some (.cells #[a, b, c, d, e] t)) :
    (w.cell? ⟨F, 0, none⟩ = some a ∧ w.cell? ⟨F, 1, none⟩ = some b ∧ w.cell? ⟨F, 2, none⟩ = some c ∧ w.cell? ⟨F, 3, none⟩ = some d ∧ w.cell? ⟨F, 4, none⟩ = some e) ∧
    w.frozen? ⟨F, 0, none⟩ = false ∧ w.frozen? ⟨F, 1, none⟩ = false ∧ w.frozen? ⟨F, 2, none⟩ = false ∧ w.frozen? ⟨F, 3, none⟩ = false ∧ w.frozen? ⟨F, 4, none⟩ = false := by
  simp [World.cell?, World.frozen?, h]
def set5 (w : World) (F : Nat) (a b c d e : Value) : World := ((((w.setCell ⟨F, 0, none⟩ a).setCell ⟨F, 1, none⟩ b).setCell ⟨F, 2, none⟩ c).setCell ⟨F, 3, none⟩ d).setCell ⟨F, 4, none⟩ e
theorem set5_obj {w : World} {F : Nat} {a b c d e : Value} {t : TypeId} (h : w.heap[F]? = some (.cells #[a, b, c, d, e] t)) (a' b' c' d' e' : Value) :
    (set5 w F a' b' c' d' e').heap[F]? = some (.cells #[a', b', c', d', e'] t) := by
  simp [set5, World.setCell, Array.getElem?_modify, h]
theorem grown_setAt (w : World) (F i : Nat) (v : Value) : w.grownBy (w.setCell ⟨F, i, none⟩ v) (some F) :=
  ⟨rfl, rfl, rfl, by simp [World.setCell], fun k _ hk => Below.heap_setCell _ _ _ k (fun e => hk (by simp at e; rw [e]))⟩
theorem set5_grown (w : World) (F : Nat) (a b c d e : Value) : w.grownBy (set5 w F a b c d e) (some F) :=
  ((((grown_setAt w F 0 a).trans (grown_setAt _ F 1 b)).trans (grown_setAt _ F 2 c)).trans (grown_setAt _ F 3 d)).trans (grown_setAt _ F 4 e)
theorem load_fr {w : World} {F : Nat} {x r : Bool} {i n : Int} {D : Option Addr} {m c : Nat} {t : TypeId} (h : w.heap[F]? = some (.cells #[.bool x, .int .i64 i, .bool r, .int .i64 n, .slice D m c] t)) :
    (loadVar 34 ⟨F, 0, none⟩).run Tryz.prog w = .ok (.agg #[.bool x, .int .i64 i, .bool r, .int .i64 n, .slice D m c]) w := by
  obtain ⟨⟨c0, c1, c2, c3, c4⟩, _⟩ := cells5 h
  simp [go_sem, c0, c1, c2, c3, c4]
theorem results_fr {fn : Func} {p : Tmp} (hf : fn.results = #[.cell p 34]) (tmps : Array Value) {w : World} {F : Nat} {x r : Bool} {i n : Int} {D : Option Addr} {m c : Nat} {t : TypeId} (ht : tmps.getD p undef = .pointer (some ⟨F, 0, none⟩)) (h : w.heap[F]? = some (.cells #[.bool x, .int .i64 i, .bool r, .int .i64 n, .slice D m c] t)) :
    (results fn tmps).run Tryz.prog w = .ok (.agg #[.bool x, .int .i64 i, .bool r, .int .i64 n, .slice D m c]) w := by
  have hl := load_fr h
  have ht' : tmps[p]?.getD undef = .pointer (some ⟨F, 0, none⟩) := by simpa using ht
  simp only [results, hf]
  simp [ht', asAddr, hl]
theorem dec (p : Prop) [Decidable p] : (decide p = true ∧ p) ∨ (decide p = false ∧ ¬ p) := by
  by_cases h : p <;> simp [h]
def rightV (x : Bool) (i : Int) (r : Bool) (n : Int) (m : Nat) : Bool := decide (0 ≤ i ∧ i < (if x then 536870912 else 2048) ∧ 0 ≤ n ∧ n ≤ 8 ∧ (m : Int) = if r then 0 else n)
def sameV (x : Bool) (i : Int) (r : Bool) (n : Int) (a : List Int) (x' : Bool) (i' : Int) (r' : Bool) (n' : Int) (b : List Int) : Bool := decide (x = x' ∧ i = i' ∧ r = r' ∧ n = n' ∧ a = b)
abbrev frV (x : Bool) (i : Int) (r : Bool) (n : Int) (A : Option Addr) (m c : Nat) : Value := .agg #[.bool x, .int .i64 i, .bool r, .int .i64 n, .slice A m c]
theorem bitOf_at (b : Bool) (w : World) : Calls Tryz.prog 87 #[.bool b] w fun e w' => e = .returned (.int .i64 (flag b)) ∧ w = w' := by
  cases b
  all_goals
    go_enter Tryz.func87, Tryz.ntmps87
    go_wp2_with fail
    go_ret
    exact ⟨rfl, rfl⟩
theorem remote_at (x : Bool) (i : Int) (r : Bool) (n : Int) (A : Option Addr) (m c : Nat) (w : World) :
    Calls Tryz.prog 57 #[.agg #[.bool x, .int .i64 i, .bool r, .int .i64 n, .slice A m c]] w fun e w' => e = .returned (.int .i64 (flag r)) ∧ Below w.heap.size w w' := by
  have Hfin := Lib.hid (show Below w.heap.size w (w.alloc (.cells #[.bool x, .int .i64 i, .bool r, .int .i64 n, .slice A m c] 34)) from (Below.refl _ w).alloc (Nat.le_refl _) _)
  cases r
  all_goals
    go_enter Tryz.func57, Tryz.ntmps57
    go_wp2_with fail
    go_ret
    exact ⟨rfl, Hfin.out⟩
theorem equal_at (a b : List Int) (n m : Nat) (hn : a.length = n) (hm : b.length = m) (A A' : Option Addr) (c c' B B' : Nat) (w : World) (h : Row .u8 w B A a) (h' : Row .u8 w B' A' b) (ha : byteB a) (hb : byteB b) :
    Calls Tryz.prog 89 #[.slice A n c, .slice A' m c'] w fun e w' => e = .returned (.bool (sameB a b)) ∧ w = w' := by
  subst hn hm
  have h1 := run_conv w a A c B h
  have h2 := run_conv w b A' c' B' h'
  have HA := Lib.hid ha
  have HB := Lib.hid hb
  clear ha hb
  go_enter Tryz.func89, Tryz.ntmps89
  go_wp2
  go_ret
  refine ⟨ret_bool ?_, rfl⟩
  rw [ByteArray.toList_eq, ByteArray.toList_eq, strOfNums_data, strOfNums_data, Bool.eq_iff_iff]
  simp only [beq_iff_eq, sameB, decide_eq_true_eq]
  constructor
  · intro e
    refine strOfNums_inj HA.out HB.out ?_
    simp only [strOfNums, e]
  · rintro rfl
    rfl
theorem frSame_at (x : Bool) (i : Int) (r : Bool) (n : Int) (a : List Int) (m : Nat) (hm : a.length = m) (A : Option Addr) (c : Nat) (x' : Bool) (i' : Int) (r' : Bool) (n' : Int) (b : List Int) (m' : Nat) (hm' : b.length = m') (A' : Option Addr) (c' : Nat) (w : World)
    (h : Row .u8 w w.heap.size A a) (h' : Row .u8 w w.heap.size A' b) (ha : byteB a) (hb : byteB b) (q : Bool) (hq : sameV x i r n a x' i' r' n' b = q) :
    Calls Tryz.prog 68 #[.agg #[.bool x, .int .i64 i, .bool r, .int .i64 n, .slice A m c], .agg #[.bool x', .int .i64 i', .bool r', .int .i64 n', .slice A' m' c']] w fun e w' => e = .returned (.bool q) ∧ Below w.heap.size w w' := by
  have Hfin := Lib.hid (show Below w.heap.size w ((w.alloc (.cells #[.bool x, .int .i64 i, .bool r, .int .i64 n, .slice A m c] 34)).alloc (.cells #[.bool x', .int .i64 i', .bool r', .int .i64 n', .slice A' m' c'] 34)) from ((Below.refl _ w).alloc (Nat.le_refl _) _).alloc (by simp) _)
  have h1 := (h.alloc (Nat.le_refl _) (.cells #[.bool x, .int .i64 i, .bool r, .int .i64 n, .slice A m c] 34)).alloc (by simp) (.cells #[.bool x', .int .i64 i', .bool r', .int .i64 n', .slice A' m' c'] 34)
  have h2 := (h'.alloc (Nat.le_refl _) (.cells #[.bool x, .int .i64 i, .bool r, .int .i64 n, .slice A m c] 34)).alloc (by simp) (.cells #[.bool x', .int .i64 i', .bool r', .int .i64 n', .slice A' m' c'] 34)
  have HM := Lib.hid hm
  have HM' := Lib.hid hm'
  have HA := Lib.hid ha
  have HB := Lib.hid hb
  have HQ := Lib.hid hq
  clear hm hm' ha hb hq h h'
  by_cases e1 : x = x'
  · subst e1
    by_cases e2 : i = i'
    · subst e2
      by_cases e3 : r = r'
      · subst e3
        by_cases e4 : n = n'
        · subst e4
          go_enter Tryz.func68, Tryz.ntmps68
          go_wp2_with fail
          refine (equal_at a b m m' HM.out HM'.out A A' c c' _ _ _ h1 h2 HA.out HB.out).mono ?_
          rintro e w' ⟨rfl, rfl⟩
          go_wp2_with fail
          go_ret
          exact ⟨ret_bool (by rw [← HQ.out, Bool.eq_iff_iff]; simp [sameB, sameV]), Hfin.out⟩
        · have d4 : (n == n') = false := by simp [e4]
          go_enter Tryz.func68, Tryz.ntmps68
          go_wp2_with fail
          go_ret
          exact ⟨ret_bool (by rw [← HQ.out, Bool.eq_iff_iff]; simp [sameV, e4]), Hfin.out⟩
      · have d3 : (r == r') = false := by simp [e3]
        go_enter Tryz.func68, Tryz.ntmps68
        go_wp2_with fail
        go_ret
        exact ⟨ret_bool (by rw [← HQ.out, Bool.eq_iff_iff]; simp [sameV, e3]), Hfin.out⟩
    · have d2 : (i == i') = false := by simp [e2]
      go_enter Tryz.func68, Tryz.ntmps68
      go_wp2_with fail
      go_ret
      exact ⟨ret_bool (by rw [← HQ.out, Bool.eq_iff_iff]; simp [sameV, e2]), Hfin.out⟩
  · have d1 : (x == x') = false := by simp [e1]
    go_enter Tryz.func68, Tryz.ntmps68
    go_wp2_with fail
    go_ret
    exact ⟨ret_bool (by rw [← HQ.out, Bool.eq_iff_iff]; simp [sameV, e1]), Hfin.out⟩
theorem refFrSame_at (x : Bool) (i : Int) (r : Bool) (n : Int) (a : List Int) (m : Nat) (hm : a.length = m) (A : Option Addr) (c : Nat) (x' : Bool) (i' : Int) (r' : Bool) (n' : Int) (b : List Int) (m' : Nat) (hm' : b.length = m') (A' : Option Addr) (c' : Nat) (w : World)
    (h : Row .u8 w w.heap.size A a) (h' : Row .u8 w w.heap.size A' b) (ha : byteB a) (hb : byteB b) (q : Bool) (hq : sameV x i r n a x' i' r' n' b = q) :
    Calls Tryz.prog 27 #[.agg #[.bool x, .int .i64 i, .bool r, .int .i64 n, .slice A m c], .agg #[.bool x', .int .i64 i', .bool r', .int .i64 n', .slice A' m' c']] w fun e w' => e = .returned (.bool q) ∧ Below w.heap.size w w' := by
  have Hfin := Lib.hid (show Below w.heap.size w ((w.alloc (.cells #[.bool x, .int .i64 i, .bool r, .int .i64 n, .slice A m c] 34)).alloc (.cells #[.bool x', .int .i64 i', .bool r', .int .i64 n', .slice A' m' c'] 34)) from ((Below.refl _ w).alloc (Nat.le_refl _) _).alloc (by simp) _)
  have h1 := (h.alloc (Nat.le_refl _) (.cells #[.bool x, .int .i64 i, .bool r, .int .i64 n, .slice A m c] 34)).alloc (by simp) (.cells #[.bool x', .int .i64 i', .bool r', .int .i64 n', .slice A' m' c'] 34)
  have h2 := (h'.alloc (Nat.le_refl _) (.cells #[.bool x, .int .i64 i, .bool r, .int .i64 n, .slice A m c] 34)).alloc (by simp) (.cells #[.bool x', .int .i64 i', .bool r', .int .i64 n', .slice A' m' c'] 34)
  have HM := Lib.hid hm
  have HM' := Lib.hid hm'
  have HA := Lib.hid ha
  have HB := Lib.hid hb
  have HQ := Lib.hid hq
  clear hm hm' ha hb hq h h'
  by_cases e1 : x = x'
  · subst e1
    by_cases e2 : i = i'
    · subst e2
      by_cases e3 : r = r'
      · subst e3
        by_cases e4 : n = n'
        · subst e4
          go_enter Tryz.func27, Tryz.ntmps27
          go_wp2_with fail
          refine (sameBytes_at a b m m' HM.out HM'.out A A' c c' _ _ _ h1 h2 HA.out HB.out).mono ?_
          rintro e w' ⟨rfl, rfl⟩
          go_wp2_with fail
          go_ret
          exact ⟨ret_bool (by rw [← HQ.out, Bool.eq_iff_iff]; simp [sameB, sameV]), Hfin.out⟩
        · have d4 : (n == n') = false := by simp [e4]
          go_enter Tryz.func27, Tryz.ntmps27
          go_wp2_with fail
          go_ret
          exact ⟨ret_bool (by rw [← HQ.out, Bool.eq_iff_iff]; simp [sameV, e4]), Hfin.out⟩
      · have d3 : (r == r') = false := by simp [e3]
        go_enter Tryz.func27, Tryz.ntmps27
        go_wp2_with fail
        go_ret
        exact ⟨ret_bool (by rw [← HQ.out, Bool.eq_iff_iff]; simp [sameV, e3]), Hfin.out⟩
    · have d2 : (i == i') = false := by simp [e2]
      go_enter Tryz.func27, Tryz.ntmps27
      go_wp2_with fail
      go_ret
      exact ⟨ret_bool (by rw [← HQ.out, Bool.eq_iff_iff]; simp [sameV, e2]), Hfin.out⟩
  · have d1 : (x == x') = false := by simp [e1]
    go_enter Tryz.func27, Tryz.ntmps27
    go_wp2_with fail
    go_ret
    exact ⟨ret_bool (by rw [← HQ.out, Bool.eq_iff_iff]; simp [sameV, e1]), Hfin.out⟩
theorem grow_nil (n : Nat) (hn : n ≤ 1000000) (w : World) :
    Calls Tryz.prog 103 #[.slice none 0 0, .int .i64 n] w fun e w' => ∃ A c, e = .returned (.slice A 0 c) ∧ w'.ownsRow w.heap.size 3 1 (.slice A 0 c) 0 [] ∧ Below w.heap.size w w' := by
  obtain ⟨i0, hi, hz0, hz1, hz2⟩ := info_parts Tryz.infoInt
  by_cases h0 : n = 0
  · subst h0
    go_enter Tryz.func103, Tryz.ntmps103
    go_wp2_with fail
    go_ret
    exact ⟨none, 0, rfl, World.ownsRow_nil _ _ _ _, Below.refl _ _⟩
  · have hz : 0 < n := by omega
    have hc : grownCap w n 0 3 ≤ maxLen := grownCap_le_maxLen w n 0 3 (by unfold maxLen; omega)
    have hge := grownCap_ge w n 0 3
    have hrun := fun ty => Lib.run_append_nil_zeros (P := Tryz.prog) w 39 3 ty 3 i0 (.int .i64 0) .i64 .i64 Tryz.underlying39 Tryz.underlying3 hi hz0 n hz (by rw [hz1]; omega) (by omega) (by rw [hz2]; omega)
    obtain ⟨cap, hcap⟩ : ∃ cap, grownCap w n 0 3 = cap := ⟨_, rfl⟩
    rw [hcap] at hc hge hrun
    unfold maxLen at hc
    have HRun := Lib.hid hrun
    clear hcap hrun
    have d1 : ¬ (n : Int) < 0 := by omega
    have d2 : decide ((0 : Int) < (n : Int)) = true := by simp; omega
    have d3 : decide ((n : Int) < 0) = false := by simp
    go_enter Tryz.func103, Tryz.ntmps103
    go_wp2_with (at_builtin; refine Lib.wpList_append_run _ rfl _ _ _ _ rfl _ _ rfl rfl _ _ (HRun.out _) ?_)
    go_ret
    refine ⟨_, cap, rfl, ⟨rfl, .inr ⟨w.heap.size, cap, _, rfl, Nat.le_refl _, World.alloc_heap_new _ _, Nat.zero_le _, hc, ?_, rfl⟩⟩, ((Below.refl _ w).drew).alloc (Nat.le_refl _) _⟩
    rw [Array.size_append, size_zeroCells, size_zeroCells]
    simp
    omega
structure Parts (w : World) (S : Addr) (ps : List (Value × List Int)) : Prop where
  lt : S.block < w.heap.size
  at_ : ∀ (j : Nat) p, ps[j]? = some p → w.cell? (S.add j) = some p.1 ∧ ∃ A c, p.1 = .slice A p.2.length c ∧ Row .i64 w w.heap.size A p.2
def cat (ps : List (Value × List Int)) : List Int := ps.flatMap (·.2)
theorem cat_snoc {ps : List (Value × List Int)} {k : Nat} {p : Value × List Int} (h : ps[k]? = some p) : cat (ps.take (k + 1)) = cat (ps.take k) ++ p.2 := by
  rw [List.take_add_one, h]; simp [cat]
theorem cat_le (ps : List (Value × List Int)) (k : Nat) : (cat (ps.take k)).length ≤ (cat ps).length := by
  have : cat ps = cat (ps.take k) ++ cat (ps.drop k) := by simp only [cat, ← List.flatMap_append, List.take_append_drop]
  rw [this]; simp
theorem Parts.to {w w' : World} {S : Addr} {ps : List (Value × List Int)} (h : Parts w S ps) (b : Below w.heap.size w w') : Parts w' S ps :=
  ⟨by have := b.size; have := h.lt; omega, fun j p hp => by
    obtain ⟨h1, A, c, h2, h3⟩ := h.at_ j p hp
    exact ⟨(b.cell (by rw [addr_block]; exact h.lt)).trans h1, A, c, h2, h3.to b⟩⟩
theorem concat_at (ps : List (Value × List Int)) (k0 : Nat) (hk0 : ps.length = k0) (S : Addr) (c0 : Nat) (w : World) (h : Parts w S ps) (hk : k0 ≤ 1000) (N : Nat) (hN : (cat ps).length = N) (hN2 : N ≤ 100000) (hc0 : k0 ≤ c0) :
    Calls Tryz.prog 88 #[.slice (some S) k0 c0] w fun e w' => ∃ A c, e = .returned (.slice A N c) ∧ w'.ownsRow w.heap.size 3 1 (.slice A N c) N ((cat ps).map (Value.int .i64)) ∧ Below w.heap.size w w' := by
  obtain ⟨i0, hi, hz0, hz1, hz2⟩ := info_parts Tryz.infoInt
  have HN := Lib.hid hN
  have HK := Lib.hid hk0
  clear hN hk0
  go_enter Tryz.func88, Tryz.ntmps88
  go_wp2_with fail
  go_loop [3, 11] (fun z i => ∃ (k m : Nat), k ≤ k0 ∧ i = .int .i64 k ∧ z = .int .i64 m ∧ (cat (ps.take k)).length = m) (fun _ i => k0 - (intOf i).toNat)
  case atStart => exact ⟨0, 0, Nat.zero_le _, rfl, rfl, rfl⟩
  case round =>
    obtain ⟨k, m, hkk, rfl, rfl, hm⟩ := hrel
    have hmN : m ≤ N := by rw [← hm, ← HN.out]; exact cat_le ps k
    by_cases hlt : k < k0
    · obtain ⟨p, hp⟩ : ∃ p, ps[k]? = some p := ⟨_, List.getElem?_eq_getElem (by rw [HK.out]; exact hlt)⟩
      obtain ⟨hc, A, c, hv, hrow⟩ := h.at_ k p hp
      rw [hv] at hc
      obtain ⟨q, hq⟩ : ∃ q, p.2.length = q := ⟨_, rfl⟩
      rw [hq] at hc
      have hm2 : (cat (ps.take (k + 1))).length = m + q := by rw [cat_snoc hp, List.length_append, hm, hq]
      have hmN2 : m + q ≤ N := by rw [← hm2, ← HN.out]; exact cat_le ps (k + 1)
      have HM := Lib.hid hm2
      clear hm hp hv hrow hq hm2
      have d1 : decide ((m : Int) + (q : Int) < 0) = false := by simp; omega
      go_wp2_with fail
      go_round
      case rel => exact ⟨k + 1, m + q, by omega, by go_num, by go_num, HM.out⟩
      case measure => simp [intOf]; omega
    · obtain rfl : k = k0 := by omega
      obtain rfl : m = N := by rw [← hm, ← HN.out, List.take_of_length_le (by rw [HK.out]; exact Nat.le_refl _)]
      clear hm
      go_wp2_with fail
      refine (grow_nil m (by omega) w).mono ?_
      rintro e w1 ⟨A1, c1, rfl, hown1, hB1⟩
      have h1 := h.to hB1
      go_wp2_with fail
      go_loopw [6, 27] (fun z i wr => ∃ (j q : Nat) (A : Option Addr) (c : Nat), j ≤ k ∧ i = .int .i64 j ∧ z = .slice A q c ∧ (cat (ps.take j)).length = q ∧
          wr.ownsRow w.heap.size 3 1 (.slice A q c) q ((cat (ps.take j)).map (Value.int .i64)) ∧ Below w.heap.size w wr) (fun _ i _ => k - (intOf i).toNat)
      case atStart => exact ⟨0, 0, A1, c1, Nat.zero_le _, rfl, rfl, rfl, hown1, hB1⟩
      case round =>
        obtain ⟨j, q, A, c, hj, rfl, rfl, hq, hown, hB⟩ := hrel
        have hw := h.to hB
        by_cases hlt2 : j < k
        · obtain ⟨p, hp⟩ : ∃ p, ps[j]? = some p := ⟨_, List.getElem?_eq_getElem (by rw [HK.out]; exact hlt2)⟩
          obtain ⟨hc, A2, c2, hv, hrow⟩ := hw.at_ j p hp
          rw [hv] at hc
          obtain ⟨l2, hl2⟩ : ∃ l2, p.2 = l2 := ⟨_, rfl⟩
          have hcs := cat_snoc hp
          rw [hl2] at hc hrow hcs
          obtain ⟨q2, hq2⟩ : ∃ q2, l2.length = q2 := ⟨_, rfl⟩
          rw [hq2] at hc
          have hqq : (cat (ps.take (j + 1))).length = q + q2 := by rw [hcs, List.length_append, hq, hq2]
          have hqN : q + q2 ≤ m := by rw [← hqq, ← HN.out]; exact cat_le ps (j + 1)
          have HC := Lib.hid hcs
          have HQ := Lib.hid hqq
          have HQ2 := Lib.hid hq2
          clear hcs hqq hp hv hl2 hq hq2
          have hs := hB.size
          go_wp2_with (at_builtin; refine wpList_append_row _ .i64 rfl _ _ 39 rfl w.heap.size 3 i0 (.int .i64 0) 8 Tryz.underlying39 hi hz0 hz1 hz2 rfl _ q (cat (ps.take j)) rfl hown A2 q2 c2 _ l2 rfl HQ2.out hrow (by unfold maxLen; omega) (by omega) hs ?_; intro A3 c3 w2 hown2 hc2 hB2)
          exact ⟨⟨j + 1, q + q2, A3, c3, by omega, by go_num, rfl, HQ.out, by rw [HC.out]; exact hown2, hB.trans hB2⟩, by simp [intOf]; omega⟩
        · obtain rfl : j = k := by omega
          have e1 : cat (ps.take j) = cat ps := by rw [List.take_of_length_le (by rw [HK.out]; exact Nat.le_refl _)]
          rw [e1] at hq hown
          obtain rfl : q = m := by rw [← hq]; exact HN.out
          clear hq
          go_wp2_with fail
          go_ret
          exact ⟨A, c, rfl, hown, hB⟩
theorem Parts.lit (W : World) (ps : List (Value × List Int)) (t : TypeId) {cs : Array Value} (hcs : cs = (ps.map (·.1)).toArray) (h : ∀ p ∈ ps, ∃ A c, p.1 = .slice A p.2.length c ∧ Row .i64 W W.heap.size A p.2) :
    Parts (W.alloc (.cells cs t)) ⟨W.heap.size, 0, none⟩ ps := by
  refine ⟨by simp, fun j p hp => ?_⟩
  obtain ⟨A, c, h1, h2⟩ := h p (List.mem_of_getElem? hp)
  refine ⟨?_, A, c, h1, h2.to ((Below.refl _ W).alloc (Nat.le_refl _) _)⟩
  have e : (⟨W.heap.size, 0, none⟩ : Addr).add j = ⟨W.heap.size, j, none⟩ := by unfold Addr.add; split <;> simp_all
  have hb := World.alloc_heap_new W (.cells cs t)
  subst hcs
  rw [e]
  simp only [World.cell?, hb]
  simp [hp]
theorem own_cap {w : World} {base : Nat} {e : TypeId} {n c : Nat} {A : Option Addr} {xs : List Value} (h : w.ownsRow base e 1 (.slice A n c) n xs) : n ≤ c := by
  rcases h.2 with ⟨e1, e2⟩ | ⟨g, cap, cur, e1, _, _, hc, _⟩
  · omega
  · cases e1; exact hc
theorem concat4 (A1 A2 A3 A4 : Option Addr) (n1 n2 n3 n4 c1 c2 c3 c4 : Nat) (l1 l2 l3 l4 : List Int) (e1 : l1.length = n1) (e2 : l2.length = n2) (e3 : l3.length = n3) (e4 : l4.length = n4) (W : World) (t : TypeId)
    (h1 : Row .i64 W W.heap.size A1 l1) (h2 : Row .i64 W W.heap.size A2 l2) (h3 : Row .i64 W W.heap.size A3 l3) (h4 : Row .i64 W W.heap.size A4 l4) (N : Nat) (hN : n1 + (n2 + (n3 + n4)) = N) (hN2 : N ≤ 100000) {S : Nat} (hS : S = W.heap.size) :
    Calls Tryz.prog 88 #[.slice (some ⟨S, 0, none⟩) 4 4] (W.alloc (.cells #[.slice A1 n1 c1, .slice A2 n2 c2, .slice A3 n3 c3, .slice A4 n4 c4] t)) fun e w' =>
      ∃ A c, e = .returned (.slice A N c) ∧ Row .i64 w' w'.heap.size A (l1 ++ (l2 ++ (l3 ++ l4))) ∧ N ≤ c ∧ Below W.heap.size W w' := by
  subst e1 e2 e3 e4 hN hS
  refine (concat_at [(.slice A1 l1.length c1, l1), (.slice A2 l2.length c2, l2), (.slice A3 l3.length c3, l3), (.slice A4 l4.length c4, l4)] 4 rfl _ 4 _ (Parts.lit W _ t rfl ?_) (by omega) _ (by simp [cat]) hN2 (by omega)).mono ?_
  · intro p hp
    simp only [List.mem_cons, List.not_mem_nil, or_false] at hp
    rcases hp with rfl | rfl | rfl | rfl
    · exact ⟨_, _, rfl, h1⟩
    · exact ⟨_, _, rfl, h2⟩
    · exact ⟨_, _, rfl, h3⟩
    · exact ⟨_, _, rfl, h4⟩
  · rintro e w' ⟨A, c, rfl, hown, hB⟩
    have hr := Row.own hown
    simp only [cat, List.flatMap_cons, List.flatMap_nil, List.append_nil] at hr
    exact ⟨A, c, rfl, hr, own_cap hown, below_lit hB⟩
theorem concat5 (A1 A2 A3 A4 A5 : Option Addr) (n1 n2 n3 n4 n5 c1 c2 c3 c4 c5 : Nat) (l1 l2 l3 l4 l5 : List Int) (e1 : l1.length = n1) (e2 : l2.length = n2) (e3 : l3.length = n3) (e4 : l4.length = n4) (e5 : l5.length = n5) (W : World) (t : TypeId)
    (h1 : Row .i64 W W.heap.size A1 l1) (h2 : Row .i64 W W.heap.size A2 l2) (h3 : Row .i64 W W.heap.size A3 l3) (h4 : Row .i64 W W.heap.size A4 l4) (h5 : Row .i64 W W.heap.size A5 l5) (N : Nat) (hN : n1 + (n2 + (n3 + (n4 + n5))) = N) (hN2 : N ≤ 100000) {S : Nat} (hS : S = W.heap.size) :
    Calls Tryz.prog 88 #[.slice (some ⟨S, 0, none⟩) 5 5] (W.alloc (.cells #[.slice A1 n1 c1, .slice A2 n2 c2, .slice A3 n3 c3, .slice A4 n4 c4, .slice A5 n5 c5] t)) fun e w' =>
      ∃ A c, e = .returned (.slice A N c) ∧ Row .i64 w' w'.heap.size A (l1 ++ (l2 ++ (l3 ++ (l4 ++ l5)))) ∧ N ≤ c ∧ Below W.heap.size W w' := by
  subst e1 e2 e3 e4 e5 hN hS
  refine (concat_at [(.slice A1 l1.length c1, l1), (.slice A2 l2.length c2, l2), (.slice A3 l3.length c3, l3), (.slice A4 l4.length c4, l4), (.slice A5 l5.length c5, l5)] 5 rfl _ 5 _ (Parts.lit W _ t rfl ?_) (by omega) _ (by simp [cat]) hN2 (by omega)).mono ?_
  · intro p hp
    simp only [List.mem_cons, List.not_mem_nil, or_false] at hp
    rcases hp with rfl | rfl | rfl | rfl | rfl
    · exact ⟨_, _, rfl, h1⟩
    · exact ⟨_, _, rfl, h2⟩
    · exact ⟨_, _, rfl, h3⟩
    · exact ⟨_, _, rfl, h4⟩
    · exact ⟨_, _, rfl, h5⟩
  · rintro e w' ⟨A, c, rfl, hown, hB⟩
    have hr := Row.own hown
    simp only [cat, List.flatMap_cons, List.flatMap_nil, List.append_nil] at hr
    exact ⟨A, c, rfl, hr, own_cap hown, below_lit hB⟩
theorem frPut_at (n : Int) (num many : Nat) (hn : n = num) (hm : many ≤ 32) (hnum : num < 2 ^ many) (w : World) :
    Calls Tryz.prog 86 #[.int .i64 n, .int .i64 many] w fun e W' => e = .returned (.slice (some ⟨w.heap.size, 0, none⟩) many many) ∧ W'.ownsRow w.heap.size 3 1 (.slice (some ⟨w.heap.size, 0, none⟩) many many) many ((bitRow num many many).map (Value.int .i64)) ∧ Below w.heap.size w W' := by
  subst hn
  have HN := Lib.hid hnum
  clear hnum
  go_enter Tryz.func86, Tryz.ntmps86
  go_wp2_with fail
  refine (put_yes num many hm HN.out w).mono ?_
  rintro e w' ⟨rfl, hown, hB⟩
  go_wp2_with fail
  go_ret
  exact ⟨rfl, hown, hB⟩
theorem frPut_ex (n : Int) (num many : Nat) (hn : n = num) (hm : many ≤ 32) (hnum : num < 2 ^ many) (w : World) :
    Calls Tryz.prog 86 #[.int .i64 n, .int .i64 many] w fun e W' => ∃ A, e = .returned (.slice A many many) ∧ Row .i64 W' W'.heap.size A (bitRow num many many) ∧ Below w.heap.size w W' :=
  (frPut_at n num many hn hm hnum w).mono fun _ _ ⟨h1, h2, h3⟩ => ⟨_, h1, Row.own h2, h3⟩
theorem step_append_row {P : Program} {w : World} {ops : Array Oper} {o : Oper} {a : Act} {K : Act → World → Prop} {Q : Exit → Act → World → Prop} {E : Prop} (κ : IntKind) (hgd : o.guard = none) (s x : Operand) (t : TypeId)
    (ho : o.op = .call { callee := .builtin .append, args := #[s, x], argTypes := #[t, t] })
    (base : Nat) (e : TypeId) (i : TypeInfo) (z : Value) (bytes : Nat) (ht : P.underlying t = some (.slice e)) (hi : P.info? e = some i) (hz : i.zero = some z)
    (hsize : i.size = 1) (hby : i.bytes = bytes) (hzs : z.cells.size = 1)
    (v : Value) (n : Nat) (l : List Int) (hs : a.eval s = v) (hown : w.ownsRow base e 1 v n (l.map (Value.int κ)))
    (A : Option Addr) (m c B : Nat) (l' : List Int) (hx : a.eval x = .slice A m c) (hm : l'.length = m) (hr : Row κ w B A l')
    (h63 : n + m ≤ maxLen) (hbytes : (n + m) * bytes ≤ 140737488355328) (hbase : base ≤ w.heap.size)
    (h : ∀ A' c' w', w'.ownsRow base e 1 (.slice A' (n + m) c') (n + m) ((l ++ l').map (Value.int κ)) → n + m ≤ c' → Below base w w' → K (a.put o.dst (.slice A' (n + m) c')) w') :
    if Region.wanted o (yielded ops a.tmps) = true then Oper.wp P o a w K Q else E := by
  obtain ⟨A', c', w', hrun, h2, hc', h3⟩ := run_append_row (P := P) w κ base t o.type e i z bytes ht hi hz hsize hby hzs v n l hown A m c B l' hm hr h63 hbytes hbase
  have hw : Region.wanted o (yielded ops a.tmps) = true := by simp [Region.wanted, hgd]
  rw [if_pos hw]
  unfold Oper.wp execOp
  simp only [ho, resolve, invoke, builtin, Sem.run_bind, Sem.run_pure, Result.andThen_ok, List.map_toArray, List.map_cons, List.map_nil, hs, hx, hrun]
  exact h A' c' w' h2 hc' h3
theorem block_below {w w' : World} {F : Nat} {o : Obj} (b : Below w.heap.size w w') (h : w.heap[F]? = some o) : w'.heap[F]? = some o :=
  (b.block F (Array.getElem?_eq_some_iff.1 h).1).trans h
theorem below_alloc1 (w : World) (o : Obj) : Below w.heap.size w (w.alloc o) := (Below.refl _ w).alloc (Nat.le_refl _) o
theorem below_drew1 (w : World) : Below w.heap.size w w.drew := (Below.refl _ w).drew
theorem row_step {κ : IntKind} {a b : World} {A : Option Addr} {l : List Int} (k : Below a.heap.size a b) (h : Row κ a a.heap.size A l) : Row κ b b.heap.size A l := h.to k
theorem lit2 (W : World) (κ : IntKind) (a b : Int) (t : TypeId) {k : Nat} (hk : k = W.heap.size) : Row κ (W.alloc (.cells #[.int κ a, .int κ b] t)) (W.alloc (.cells #[.int κ a, .int κ b] t)).heap.size (some ⟨k, 0, none⟩) [a, b] := by
  subst hk
  have := Row.lit W κ [a, b] t (cs := #[.int κ a, .int κ b]) rfl
  simpa using this
theorem lit1 (W : World) (κ : IntKind) (a : Int) (t : TypeId) {k : Nat} (hk : k = W.heap.size) : Row κ (W.alloc (.cells #[.int κ a] t)) (W.alloc (.cells #[.int κ a] t)).heap.size (some ⟨k, 0, none⟩) [a] := by
  subst hk
  have := Row.lit W κ [a] t (cs := #[.int κ a]) rfl
  simpa using this
def rankS (ID : Nat) (r : Bool) : List Int := bitRow ID 11 11 ++ [flag r, 0]
def rankX (ID : Nat) (r : Bool) : List Int := bitRow (ID / 262144) 11 11 ++ ([1, 1] ++ (bitRow (ID % 262144) 18 18 ++ [flag r]))
theorem cells5' {w : World} {F : Nat} {a b c d e : Value} {t : TypeId} (h : w.heap[F]? = some (.cells #[a, b, c, d, e] t)) :
    w.cell? ⟨F, 0, none⟩ = some a ∧ w.cell? ⟨F, 1, none⟩ = some b ∧ w.cell? ⟨F, 2, none⟩ = some c ∧ w.cell? ⟨F, 3, none⟩ = some d ∧ w.cell? ⟨F, 4, none⟩ = some e := (cells5 h).1
theorem rankS_at (ID : Nat) (r : Bool) (n : Int) (A : Option Addr) (m c : Nat) (hID : ID < 2048) (w : World) :
    Calls Tryz.prog 66 #[.agg #[.bool false, .int .i64 ID, .bool r, .int .i64 n, .slice A m c]] w fun e w' => ∃ A' c', e = .returned (.slice A' 13 c') ∧ Row .i64 w' w'.heap.size A' (rankS ID r) ∧ 13 ≤ c' ∧ Below w.heap.size w w' := by
  obtain ⟨i0, hi, hz0, hz1, hz2⟩ := info_parts Tryz.infoInt
  obtain ⟨w0, hw0⟩ : ∃ w0, w.alloc (.cells #[.bool false, .int .i64 ID, .bool r, .int .i64 n, .slice A m c] 34) = w0 := ⟨_, rfl⟩
  have hB0 := below_lits hw0
  have hF0 : w0.heap[w.heap.size]? = some (.cells #[.bool false, .int .i64 ID, .bool r, .int .i64 n, .slice A m c] 34) := by rw [← hw0]; exact World.alloc_heap_new _ _
  have hlt0 : w.heap.size < w0.heap.size := (Array.getElem?_eq_some_iff.1 hF0).1
  have HW := Lib.hid hw0
  clear hw0
  go_enter Tryz.func66, Tryz.ntmps66
  go_wp2_with fail
  rw [HW.out]
  go_region_held3 (fun W => W.cell? ⟨w.heap.size, 0, none⟩ = some (.bool false) ∧ W.cell? ⟨w.heap.size, 1, none⟩ = some (.int .i64 ID) ∧ W.cell? ⟨w.heap.size, 2, none⟩ = some (.bool r) ∧ W.cell? ⟨w.heap.size, 3, none⟩ = some (.int .i64 n) ∧ W.cell? ⟨w.heap.size, 4, none⟩ = some (.slice A m c))
    (exact cells5' (by repeat (first | assumption | exact Below.refl _ _ | ((with_reducible refine lit2 _ _ _ _ _ ?_); (first | (with_reducible rfl) | (simp; done))) | ((with_reducible refine lit1 _ _ _ _ ?_); (first | (with_reducible rfl) | (simp; done))) | refine row_step (by first | assumption | exact below_alloc1 _ _ | exact below_drew1 _ | exact below_drewN0 _ _) ?_ | refine block_below (by first | assumption | exact below_alloc1 _ _ | exact below_drew1 _ | exact below_drewN0 _ _) ?_ | refine below_then ?_ (by first | assumption | exact below_alloc1 _ _ | exact below_drew1 _ | exact below_drewN0 _ _))))
    (first
      | (go_at_call 86; refine (frPut_at _ ID 11 rfl (by omega) (by omega) _).mono ?_; rintro e w1 ⟨rfl, hown1, hB1⟩)
      | (go_at_call 87; refine (bitOf_at r _).mono ?_; rintro e w' ⟨rfl, rfl⟩; have l1 := Row.lit w1 .i64 [flag r, 0] 3 (cs := #[.int .i64 (flag r), .int .i64 0]) rfl; have own1 := own_to hown1 (below_alloc1 w1 (.cells #[.int .i64 (flag r), .int .i64 0] 3)); have hs1 : w0.heap.size ≤ w1.heap.size := hB1.size)
      | (refine step_append_row .i64 rfl _ _ 39 rfl w0.heap.size 3 i0 (.int .i64 0) 8 Tryz.underlying39 hi hz0 hz1 hz2 rfl _ 11 (bitRow ID 11 11) rfl own1 _ 2 2 _ [flag r, 0] rfl rfl l1 (by unfold maxLen; omega) (by omega) (by simp; omega) ?_; intro A3 c3 w3 hown3 hc3 hB3; have hF3 : w3.heap[w.heap.size]? = some (.cells #[.bool false, .int .i64 ID, .bool r, .int .i64 n, .slice A m c] 34) := (hB3.block w.heap.size hlt0).trans (by repeat (first | assumption | exact Below.refl _ _ | ((with_reducible refine lit2 _ _ _ _ _ ?_); (first | (with_reducible rfl) | (simp; done))) | ((with_reducible refine lit1 _ _ _ _ ?_); (first | (with_reducible rfl) | (simp; done))) | refine row_step (by first | assumption | exact below_alloc1 _ _ | exact below_drew1 _ | exact below_drewN0 _ _) ?_ | refine block_below (by first | assumption | exact below_alloc1 _ _ | exact below_drew1 _ | exact below_drewN0 _ _) ?_ | refine below_then ?_ (by first | assumption | exact below_alloc1 _ _ | exact below_drew1 _ | exact below_drewN0 _ _)))))
  go_wp2_with fail
  go_ret
  refine ⟨A3, c3, rfl, Row.own hown3, hc3, hB0.trans (Below.trans ?_ (hB3.mono (by omega)))⟩
  exact ((below_drew1 w0).trans (hB1.trans ((below_alloc1 w1 _).mono hs1))).mono (by omega)
theorem and_low (n : Nat) (hn : n < 4611686018427387904) : bits .and .i64 (n : Int) 262143 = ((n % 262144 : Nat) : Int) := by
  show IntKind.i64.wrap ((BitVec.ofInt 64 (n : Int) &&& BitVec.ofInt 64 ((262143 : Nat) : Int)).toNat : Int) = _
  rw [BitVec.ofInt_natCast, BitVec.ofInt_natCast, BitVec.toNat_and, BitVec.toNat_ofNat, BitVec.toNat_ofNat, Nat.mod_eq_of_lt (show n < 2 ^ 64 by omega), Nat.mod_eq_of_lt (show 262143 < 2 ^ 64 by omega), IntKind.wrap_i64]
  have : n &&& 262143 = n % 262144 := Nat.and_two_pow_sub_one_eq_mod n 18
  rw [this]
  omega
theorem rankX_at (ID : Nat) (r : Bool) (n : Int) (A : Option Addr) (m c : Nat) (hID : ID < 536870912) (w : World) :
    Calls Tryz.prog 66 #[.agg #[.bool true, .int .i64 ID, .bool r, .int .i64 n, .slice A m c]] w fun e w' => ∃ A' c', e = .returned (.slice A' 32 c') ∧ Row .i64 w' w'.heap.size A' (rankX ID r) ∧ 32 ≤ c' ∧ Below w.heap.size w w' := by
  obtain ⟨w0, hw0⟩ : ∃ w0, w.alloc (.cells #[.bool true, .int .i64 ID, .bool r, .int .i64 n, .slice A m c] 34) = w0 := ⟨_, rfl⟩
  have hB0 := below_lits hw0
  have hF0 : w0.heap[w.heap.size]? = some (.cells #[.bool true, .int .i64 ID, .bool r, .int .i64 n, .slice A m c] 34) := by rw [← hw0]; exact World.alloc_heap_new _ _
  have hlt0 : w.heap.size < w0.heap.size := (Array.getElem?_eq_some_iff.1 hF0).1
  have HW := Lib.hid hw0
  have HF0 := Lib.hid hF0
  have hand := and_low ID (by omega)
  obtain ⟨V, hV⟩ : ∃ V, ID % 262144 = V := ⟨_, rfl⟩
  obtain ⟨U, hU⟩ : ∃ U, ID / 262144 = U := ⟨_, rfl⟩
  rw [hV] at hand
  have hsh : (ID : Int) / 262144 = (U : Int) := by omega
  have hsh2 : (ID : Int) / 2 ^ 18 = (U : Int) := hsh
  clear hw0 hF0
  go_enter Tryz.func66, Tryz.ntmps66
  go_wp2_with fail
  rw [HW.out]
  obtain ⟨c0, c1, c2, c3, c4⟩ := cells5' HF0.out
  go_quiet (fail)
  have hF1 : (w0.drewN nq).heap[w.heap.size]? = some (.cells #[.bool true, .int .i64 ID, .bool r, .int .i64 n, .slice A m c] 34) := HF0.out
  have hB1 : Below w.heap.size w (w0.drewN nq) := below_drewN' hB0 nq
  generalize w0.drewN nq = w1 at hF1 hB1 ⊢
  have hUb : U < 2 ^ 11 := by omega
  have hVb : V < 2 ^ 18 := by omega
  have HV := Lib.hid hV
  have HU := Lib.hid hU
  clear c0 c1 c2 c3 c4 hand hsh hsh2 HF0 HW hV hU hB0 hlt0
  go_wp2_with fail
  go_region_held3 (fun W => W.cell? ⟨w.heap.size, 0, none⟩ = some (.bool true) ∧ W.cell? ⟨w.heap.size, 1, none⟩ = some (.int .i64 ID) ∧ W.cell? ⟨w.heap.size, 2, none⟩ = some (.bool r) ∧ W.cell? ⟨w.heap.size, 3, none⟩ = some (.int .i64 n) ∧ W.cell? ⟨w.heap.size, 4, none⟩ = some (.slice A m c))
    (exact cells5' (by repeat (first | assumption | exact Below.refl _ _ | ((with_reducible refine lit2 _ _ _ _ _ ?_); (first | (with_reducible rfl) | (simp; done))) | ((with_reducible refine lit1 _ _ _ _ ?_); (first | (with_reducible rfl) | (simp; done))) | refine row_step (by first | assumption | exact below_alloc1 _ _ | exact below_drew1 _ | exact below_drewN0 _ _) ?_ | refine block_below (by first | assumption | exact below_alloc1 _ _ | exact below_drew1 _ | exact below_drewN0 _ _) ?_ | refine below_then ?_ (by first | assumption | exact below_alloc1 _ _ | exact below_drew1 _ | exact below_drewN0 _ _))))
    (first
      | (go_at_call_of 86 (Value.int IntKind.i64 ↑U); refine (frPut_ex _ U 11 rfl (by omega) hUb _).mono ?_; rintro e w2 ⟨A2, rfl, hr2, hB2⟩)
      | (go_at_call_of 86 (Value.int IntKind.i64 ↑V); refine (frPut_ex _ V 18 rfl (by omega) hVb _).mono ?_; rintro e w3 ⟨A3, rfl, hr3, hB3⟩)
      | (go_at_call 87; refine (bitOf_at r _).mono ?_; rintro e w' ⟨rfl, rfl⟩)
      | (go_at_call 88; refine (concat4 A2 _ A3 _ 11 2 18 1 _ _ _ _ (bitRow U 11 11) [1, 1] (bitRow V 18 18) [flag r] (bitRow_len _ _ _) rfl (bitRow_len _ _ _) rfl _ _ (by repeat (first | assumption | exact Below.refl _ _ | ((with_reducible refine lit2 _ _ _ _ _ ?_); (first | (with_reducible rfl) | (simp; done))) | ((with_reducible refine lit1 _ _ _ _ ?_); (first | (with_reducible rfl) | (simp; done))) | refine row_step (by first | assumption | exact below_alloc1 _ _ | exact below_drew1 _ | exact below_drewN0 _ _) ?_ | refine block_below (by first | assumption | exact below_alloc1 _ _ | exact below_drew1 _ | exact below_drewN0 _ _) ?_ | refine below_then ?_ (by first | assumption | exact below_alloc1 _ _ | exact below_drew1 _ | exact below_drewN0 _ _))) (by repeat (first | assumption | exact Below.refl _ _ | ((with_reducible refine lit2 _ _ _ _ _ ?_); (first | (with_reducible rfl) | (simp; done))) | ((with_reducible refine lit1 _ _ _ _ ?_); (first | (with_reducible rfl) | (simp; done))) | refine row_step (by first | assumption | exact below_alloc1 _ _ | exact below_drew1 _ | exact below_drewN0 _ _) ?_ | refine block_below (by first | assumption | exact below_alloc1 _ _ | exact below_drew1 _ | exact below_drewN0 _ _) ?_ | refine below_then ?_ (by first | assumption | exact below_alloc1 _ _ | exact below_drew1 _ | exact below_drewN0 _ _))) (by repeat (first | assumption | exact Below.refl _ _ | ((with_reducible refine lit2 _ _ _ _ _ ?_); (first | (with_reducible rfl) | (simp; done))) | ((with_reducible refine lit1 _ _ _ _ ?_); (first | (with_reducible rfl) | (simp; done))) | refine row_step (by first | assumption | exact below_alloc1 _ _ | exact below_drew1 _ | exact below_drewN0 _ _) ?_ | refine block_below (by first | assumption | exact below_alloc1 _ _ | exact below_drew1 _ | exact below_drewN0 _ _) ?_ | refine below_then ?_ (by first | assumption | exact below_alloc1 _ _ | exact below_drew1 _ | exact below_drewN0 _ _))) (by repeat (first | assumption | exact Below.refl _ _ | ((with_reducible refine lit2 _ _ _ _ _ ?_); (first | (with_reducible rfl) | (simp; done))) | ((with_reducible refine lit1 _ _ _ _ ?_); (first | (with_reducible rfl) | (simp; done))) | refine row_step (by first | assumption | exact below_alloc1 _ _ | exact below_drew1 _ | exact below_drewN0 _ _) ?_ | refine block_below (by first | assumption | exact below_alloc1 _ _ | exact below_drew1 _ | exact below_drewN0 _ _) ?_ | refine below_then ?_ (by first | assumption | exact below_alloc1 _ _ | exact below_drew1 _ | exact below_drewN0 _ _))) 32 rfl (by omega) (by simp)).mono ?_; rintro e w5 ⟨A5, c5, rfl, hr5, hc5, hB5⟩))
  all_goals
    go_wp2_with fail
    go_ret
    refine ⟨A5, c5, rfl, ?_, hc5, hB1.trans (Below.mono (B := w1.heap.size) (by repeat (first | assumption | exact Below.refl _ _ | ((with_reducible refine lit2 _ _ _ _ _ ?_); (first | (with_reducible rfl) | (simp; done))) | ((with_reducible refine lit1 _ _ _ _ ?_); (first | (with_reducible rfl) | (simp; done))) | refine row_step (by first | assumption | exact below_alloc1 _ _ | exact below_drew1 _ | exact below_drewN0 _ _) ?_ | refine block_below (by first | assumption | exact below_alloc1 _ _ | exact below_drew1 _ | exact below_drewN0 _ _) ?_ | refine below_then ?_ (by first | assumption | exact below_alloc1 _ _ | exact below_drew1 _ | exact below_drewN0 _ _))) hB1.size)⟩
    unfold rankX
    rw [HU.out, HV.out]
    exact hr5
theorem rankS_len (ID : Nat) (r : Bool) : (rankS ID r).length = 13 := by simp [rankS, bitRow_len]
theorem rankX_len (ID : Nat) (r : Bool) : (rankX ID r).length = 32 := by simp [rankX, bitRow_len]
theorem headS_at (ID : Nat) (r : Bool) (L : Nat) (dl : List Int) (m : Nat) (hdl : dl.length = m) (A : Option Addr) (c : Nat) (hID : ID < 2048) (hL : L ≤ 15) (w : World) (h : Row .u8 w w.heap.size A dl) (hb : byteB dl) (hm : m ≤ 1000) (M : Nat) (hM : 8 * m = M) (N : Nat) (hN : 19 + M = N) :
    Calls Tryz.prog 112 #[.agg #[.bool false, .int .i64 ID, .bool r, .int .i64 L, .slice A m c]] w fun e w' => ∃ A' c', e = .returned (.slice A' N c') ∧ Row .i64 w' w'.heap.size A' ([0] ++ (rankS ID r ++ ([0] ++ (bitRow L 4 4 ++ spreadL dl)))) ∧ N ≤ c' ∧ Below w.heap.size w w' := by
  obtain ⟨w0, hw0⟩ : ∃ w0, w.alloc (.cells #[.bool false, .int .i64 ID, .bool r, .int .i64 L, .slice A m c] 34) = w0 := ⟨_, rfl⟩
  have hB0 := below_lits hw0
  have hF0 : w0.heap[w.heap.size]? = some (.cells #[.bool false, .int .i64 ID, .bool r, .int .i64 L, .slice A m c] 34) := by rw [← hw0]; exact World.alloc_heap_new _ _
  have hD0 : Row .u8 w0 w0.heap.size A dl := h.to hB0
  have hs0 : w0.heap.size = w.heap.size + 1 := by rw [← hw0]; simp
  obtain ⟨w1, hw1⟩ : ∃ w1, w0.alloc (.cells #[.int .i64 0] 3) = w1 := ⟨_, rfl⟩
  have hB1 := below_lits hw1
  have hres : Row .i64 w1 w1.heap.size (some ⟨w.heap.size + 1, 0, none⟩) [0] := by rw [← hw1]; exact lit1 _ _ _ _ hs0.symm
  have hF1 := block_below hB1 hF0
  have hD1 := hD0.to hB1
  have HW := Lib.hid hw1
  have HW0 := Lib.hid hw0
  have HF1 := Lib.hid hF1
  have HD := Lib.hid hdl
  have HM := Lib.hid hM
  have HN := Lib.hid hN
  have HB := Lib.hid hb
  have hL2 : L < 2 ^ 4 := by omega
  clear hw0 hw1 hF0 hF1 hs0 hdl hM hN hb
  have hBB := below_then hB0 hB1
  clear hB0 hB1 hD0 h
  go_enter Tryz.func112, Tryz.ntmps112
  go_wp2_with fail
  rw [HW0.out, HW.out]
  have hF1 := HF1.out
  clear HF1 HW HW0
  go_region_held3 (fun W => W.cell? ⟨w.heap.size, 0, none⟩ = some (.bool false) ∧ W.cell? ⟨w.heap.size, 1, none⟩ = some (.int .i64 ID) ∧ W.cell? ⟨w.heap.size, 2, none⟩ = some (.bool r) ∧ W.cell? ⟨w.heap.size, 3, none⟩ = some (.int .i64 L) ∧ W.cell? ⟨w.heap.size, 4, none⟩ = some (.slice A m c))
    (exact cells5' (by repeat (first | assumption | exact Below.refl _ _ | ((with_reducible refine lit2 _ _ _ _ _ ?_); (first | (with_reducible rfl) | (simp; done))) | ((with_reducible refine lit1 _ _ _ _ ?_); (first | (with_reducible rfl) | (simp; done))) | refine row_step (by first | assumption | exact below_alloc1 _ _ | exact below_drew1 _ | exact below_drewN0 _ _) ?_ | refine block_below (by first | assumption | exact below_alloc1 _ _ | exact below_drew1 _ | exact below_drewN0 _ _) ?_ | refine below_then ?_ (by first | assumption | exact below_alloc1 _ _ | exact below_drew1 _ | exact below_drewN0 _ _))))
    (first
      | (go_at_call 66; refine (rankS_at ID r L A m c hID _).mono ?_; rintro e w2 ⟨A2, c2, rfl, hr2, hc2, hB2⟩)
      | (go_at_call 86; refine (frPut_ex _ L 4 rfl (by omega) hL2 _).mono ?_; rintro e w3 ⟨A3, rfl, hr3, hB3⟩)
      | (go_at_call 125; refine (spread_at dl m HD.out A c _ _ (show Row .u8 _ _ A dl by repeat (first | assumption | exact Below.refl _ _ | ((with_reducible refine lit2 _ _ _ _ _ ?_); (first | (with_reducible rfl) | (simp; done))) | ((with_reducible refine lit1 _ _ _ _ ?_); (first | (with_reducible rfl) | (simp; done))) | refine row_step (by first | assumption | exact below_alloc1 _ _ | exact below_drew1 _ | exact below_drewN0 _ _) ?_ | refine block_below (by first | assumption | exact below_alloc1 _ _ | exact below_drew1 _ | exact below_drewN0 _ _) ?_ | refine below_then ?_ (by first | assumption | exact below_alloc1 _ _ | exact below_drew1 _ | exact below_drewN0 _ _))) (Nat.le_refl _) HB.out (by omega) M HM.out).mono ?_; rintro e w4 ⟨A4, rfl, hr4, hB4⟩)
      | (go_at_call 88; refine (concat5 _ A2 _ A3 A4 1 13 1 4 M _ _ _ _ _ [0] (rankS ID r) [0] (bitRow L 4 4) (spreadL dl) rfl (rankS_len _ _) rfl (bitRow_len _ _ _) (by rw [spreadL_len, HD.out, HM.out]) _ _ (by repeat (first | assumption | exact Below.refl _ _ | ((with_reducible refine lit2 _ _ _ _ _ ?_); (first | (with_reducible rfl) | (simp; done))) | ((with_reducible refine lit1 _ _ _ _ ?_); (first | (with_reducible rfl) | (simp; done))) | refine row_step (by first | assumption | exact below_alloc1 _ _ | exact below_drew1 _ | exact below_drewN0 _ _) ?_ | refine block_below (by first | assumption | exact below_alloc1 _ _ | exact below_drew1 _ | exact below_drewN0 _ _) ?_ | refine below_then ?_ (by first | assumption | exact below_alloc1 _ _ | exact below_drew1 _ | exact below_drewN0 _ _))) (by repeat (first | assumption | exact Below.refl _ _ | ((with_reducible refine lit2 _ _ _ _ _ ?_); (first | (with_reducible rfl) | (simp; done))) | ((with_reducible refine lit1 _ _ _ _ ?_); (first | (with_reducible rfl) | (simp; done))) | refine row_step (by first | assumption | exact below_alloc1 _ _ | exact below_drew1 _ | exact below_drewN0 _ _) ?_ | refine block_below (by first | assumption | exact below_alloc1 _ _ | exact below_drew1 _ | exact below_drewN0 _ _) ?_ | refine below_then ?_ (by first | assumption | exact below_alloc1 _ _ | exact below_drew1 _ | exact below_drewN0 _ _))) (by repeat (first | assumption | exact Below.refl _ _ | ((with_reducible refine lit2 _ _ _ _ _ ?_); (first | (with_reducible rfl) | (simp; done))) | ((with_reducible refine lit1 _ _ _ _ ?_); (first | (with_reducible rfl) | (simp; done))) | refine row_step (by first | assumption | exact below_alloc1 _ _ | exact below_drew1 _ | exact below_drewN0 _ _) ?_ | refine block_below (by first | assumption | exact below_alloc1 _ _ | exact below_drew1 _ | exact below_drewN0 _ _) ?_ | refine below_then ?_ (by first | assumption | exact below_alloc1 _ _ | exact below_drew1 _ | exact below_drewN0 _ _))) (by repeat (first | assumption | exact Below.refl _ _ | ((with_reducible refine lit2 _ _ _ _ _ ?_); (first | (with_reducible rfl) | (simp; done))) | ((with_reducible refine lit1 _ _ _ _ ?_); (first | (with_reducible rfl) | (simp; done))) | refine row_step (by first | assumption | exact below_alloc1 _ _ | exact below_drew1 _ | exact below_drewN0 _ _) ?_ | refine block_below (by first | assumption | exact below_alloc1 _ _ | exact below_drew1 _ | exact below_drewN0 _ _) ?_ | refine below_then ?_ (by first | assumption | exact below_alloc1 _ _ | exact below_drew1 _ | exact below_drewN0 _ _))) (by repeat (first | assumption | exact Below.refl _ _ | ((with_reducible refine lit2 _ _ _ _ _ ?_); (first | (with_reducible rfl) | (simp; done))) | ((with_reducible refine lit1 _ _ _ _ ?_); (first | (with_reducible rfl) | (simp; done))) | refine row_step (by first | assumption | exact below_alloc1 _ _ | exact below_drew1 _ | exact below_drewN0 _ _) ?_ | refine block_below (by first | assumption | exact below_alloc1 _ _ | exact below_drew1 _ | exact below_drewN0 _ _) ?_ | refine below_then ?_ (by first | assumption | exact below_alloc1 _ _ | exact below_drew1 _ | exact below_drewN0 _ _))) N (by rw [← HN.out]; omega) (by have := HN.out; have := HM.out; omega) (by simp)).mono ?_; rintro e w5 ⟨A5, c5, rfl, hr5, hc5, hB5⟩))
  all_goals
    go_wp2_with fail
    go_ret
    exact ⟨A5, c5, rfl, hr5, hc5, hBB.trans (Below.mono (B := w1.heap.size) (by repeat (first | assumption | exact Below.refl _ _ | ((with_reducible refine lit2 _ _ _ _ _ ?_); (first | (with_reducible rfl) | (simp; done))) | ((with_reducible refine lit1 _ _ _ _ ?_); (first | (with_reducible rfl) | (simp; done))) | refine row_step (by first | assumption | exact below_alloc1 _ _ | exact below_drew1 _ | exact below_drewN0 _ _) ?_ | refine block_below (by first | assumption | exact below_alloc1 _ _ | exact below_drew1 _ | exact below_drewN0 _ _) ?_ | refine below_then ?_ (by first | assumption | exact below_alloc1 _ _ | exact below_drew1 _ | exact below_drewN0 _ _))) hBB.size)⟩
theorem headX_at (ID : Nat) (r : Bool) (L : Nat) (dl : List Int) (m : Nat) (hdl : dl.length = m) (A : Option Addr) (c : Nat) (hID : ID < 536870912) (hL : L ≤ 15) (w : World) (h : Row .u8 w w.heap.size A dl) (hb : byteB dl) (hm : m ≤ 1000) (M : Nat) (hM : 8 * m = M) (N : Nat) (hN : 39 + M = N) :
    Calls Tryz.prog 112 #[.agg #[.bool true, .int .i64 ID, .bool r, .int .i64 L, .slice A m c]] w fun e w' => ∃ A' c', e = .returned (.slice A' N c') ∧ Row .i64 w' w'.heap.size A' ([0] ++ (rankX ID r ++ ([0, 0] ++ (bitRow L 4 4 ++ spreadL dl)))) ∧ N ≤ c' ∧ Below w.heap.size w w' := by
  obtain ⟨w0, hw0⟩ : ∃ w0, w.alloc (.cells #[.bool true, .int .i64 ID, .bool r, .int .i64 L, .slice A m c] 34) = w0 := ⟨_, rfl⟩
  have hB0 := below_lits hw0
  have hF0 : w0.heap[w.heap.size]? = some (.cells #[.bool true, .int .i64 ID, .bool r, .int .i64 L, .slice A m c] 34) := by rw [← hw0]; exact World.alloc_heap_new _ _
  have hD0 : Row .u8 w0 w0.heap.size A dl := h.to hB0
  have hs0 : w0.heap.size = w.heap.size + 1 := by rw [← hw0]; simp
  obtain ⟨w1, hw1⟩ : ∃ w1, (w0.alloc (.cells #[.int .i64 0] 3)).alloc (.cells #[.int .i64 0, .int .i64 0] 3) = w1 := ⟨_, rfl⟩
  have hB1 : Below w0.heap.size w0 w1 := by rw [← hw1]; exact below_then (below_alloc1 _ _) (below_alloc1 _ _)
  have hres : Row .i64 w1 w1.heap.size (some ⟨w.heap.size + 1 + 1, 0, none⟩) [0, 0] := by rw [← hw1]; exact lit2 _ _ _ _ _ (by simp [hs0])
  have hF1 := block_below hB1 hF0
  have hD1 := hD0.to hB1
  have HW := Lib.hid hw1
  have HW0 := Lib.hid hw0
  have HF1 := Lib.hid hF1
  have HD := Lib.hid hdl
  have HM := Lib.hid hM
  have HN := Lib.hid hN
  have HB := Lib.hid hb
  have hL2 : L < 2 ^ 4 := by omega
  clear hw0 hw1 hF0 hF1 hs0 hdl hM hN hb
  have hBB := below_then hB0 hB1
  clear hB0 hB1 hD0 h
  go_enter Tryz.func112, Tryz.ntmps112
  go_wp2_with fail
  rw [HW0.out, HW.out]
  have hF1 := HF1.out
  clear HF1 HW HW0
  go_region_held3 (fun W => W.cell? ⟨w.heap.size, 0, none⟩ = some (.bool true) ∧ W.cell? ⟨w.heap.size, 1, none⟩ = some (.int .i64 ID) ∧ W.cell? ⟨w.heap.size, 2, none⟩ = some (.bool r) ∧ W.cell? ⟨w.heap.size, 3, none⟩ = some (.int .i64 L) ∧ W.cell? ⟨w.heap.size, 4, none⟩ = some (.slice A m c))
    (exact cells5' (by repeat (first | assumption | exact Below.refl _ _ | ((with_reducible refine lit2 _ _ _ _ _ ?_); (first | (with_reducible rfl) | (simp; done))) | ((with_reducible refine lit1 _ _ _ _ ?_); (first | (with_reducible rfl) | (simp; done))) | refine row_step (by first | assumption | exact below_alloc1 _ _ | exact below_drew1 _ | exact below_drewN0 _ _) ?_ | refine block_below (by first | assumption | exact below_alloc1 _ _ | exact below_drew1 _ | exact below_drewN0 _ _) ?_ | refine below_then ?_ (by first | assumption | exact below_alloc1 _ _ | exact below_drew1 _ | exact below_drewN0 _ _))))
    (first
      | (go_at_call 66; refine (rankX_at ID r L A m c hID _).mono ?_; rintro e w2 ⟨A2, c2, rfl, hr2, hc2, hB2⟩)
      | (go_at_call 86; refine (frPut_ex _ L 4 rfl (by omega) hL2 _).mono ?_; rintro e w3 ⟨A3, rfl, hr3, hB3⟩)
      | (go_at_call 125; refine (spread_at dl m HD.out A c _ _ (show Row .u8 _ _ A dl by repeat (first | assumption | exact Below.refl _ _ | ((with_reducible refine lit2 _ _ _ _ _ ?_); (first | (with_reducible rfl) | (simp; done))) | ((with_reducible refine lit1 _ _ _ _ ?_); (first | (with_reducible rfl) | (simp; done))) | refine row_step (by first | assumption | exact below_alloc1 _ _ | exact below_drew1 _ | exact below_drewN0 _ _) ?_ | refine block_below (by first | assumption | exact below_alloc1 _ _ | exact below_drew1 _ | exact below_drewN0 _ _) ?_ | refine below_then ?_ (by first | assumption | exact below_alloc1 _ _ | exact below_drew1 _ | exact below_drewN0 _ _))) (Nat.le_refl _) HB.out (by omega) M HM.out).mono ?_; rintro e w4 ⟨A4, rfl, hr4, hB4⟩)
      | (go_at_call 88; refine (concat5 _ A2 _ A3 A4 1 32 2 4 M _ _ _ _ _ [0] (rankX ID r) [0, 0] (bitRow L 4 4) (spreadL dl) rfl (rankX_len _ _) rfl (bitRow_len _ _ _) (by rw [spreadL_len, HD.out, HM.out]) _ _ (by repeat (first | assumption | exact Below.refl _ _ | ((with_reducible refine lit2 _ _ _ _ _ ?_); (first | (with_reducible rfl) | (simp; done))) | ((with_reducible refine lit1 _ _ _ _ ?_); (first | (with_reducible rfl) | (simp; done))) | refine row_step (by first | assumption | exact below_alloc1 _ _ | exact below_drew1 _ | exact below_drewN0 _ _) ?_ | refine block_below (by first | assumption | exact below_alloc1 _ _ | exact below_drew1 _ | exact below_drewN0 _ _) ?_ | refine below_then ?_ (by first | assumption | exact below_alloc1 _ _ | exact below_drew1 _ | exact below_drewN0 _ _))) (by repeat (first | assumption | exact Below.refl _ _ | ((with_reducible refine lit2 _ _ _ _ _ ?_); (first | (with_reducible rfl) | (simp; done))) | ((with_reducible refine lit1 _ _ _ _ ?_); (first | (with_reducible rfl) | (simp; done))) | refine row_step (by first | assumption | exact below_alloc1 _ _ | exact below_drew1 _ | exact below_drewN0 _ _) ?_ | refine block_below (by first | assumption | exact below_alloc1 _ _ | exact below_drew1 _ | exact below_drewN0 _ _) ?_ | refine below_then ?_ (by first | assumption | exact below_alloc1 _ _ | exact below_drew1 _ | exact below_drewN0 _ _))) (by repeat (first | assumption | exact Below.refl _ _ | ((with_reducible refine lit2 _ _ _ _ _ ?_); (first | (with_reducible rfl) | (simp; done))) | ((with_reducible refine lit1 _ _ _ _ ?_); (first | (with_reducible rfl) | (simp; done))) | refine row_step (by first | assumption | exact below_alloc1 _ _ | exact below_drew1 _ | exact below_drewN0 _ _) ?_ | refine block_below (by first | assumption | exact below_alloc1 _ _ | exact below_drew1 _ | exact below_drewN0 _ _) ?_ | refine below_then ?_ (by first | assumption | exact below_alloc1 _ _ | exact below_drew1 _ | exact below_drewN0 _ _))) (by repeat (first | assumption | exact Below.refl _ _ | ((with_reducible refine lit2 _ _ _ _ _ ?_); (first | (with_reducible rfl) | (simp; done))) | ((with_reducible refine lit1 _ _ _ _ ?_); (first | (with_reducible rfl) | (simp; done))) | refine row_step (by first | assumption | exact below_alloc1 _ _ | exact below_drew1 _ | exact below_drewN0 _ _) ?_ | refine block_below (by first | assumption | exact below_alloc1 _ _ | exact below_drew1 _ | exact below_drewN0 _ _) ?_ | refine below_then ?_ (by first | assumption | exact below_alloc1 _ _ | exact below_drew1 _ | exact below_drewN0 _ _))) (by repeat (first | assumption | exact Below.refl _ _ | ((with_reducible refine lit2 _ _ _ _ _ ?_); (first | (with_reducible rfl) | (simp; done))) | ((with_reducible refine lit1 _ _ _ _ ?_); (first | (with_reducible rfl) | (simp; done))) | refine row_step (by first | assumption | exact below_alloc1 _ _ | exact below_drew1 _ | exact below_drewN0 _ _) ?_ | refine block_below (by first | assumption | exact below_alloc1 _ _ | exact below_drew1 _ | exact below_drewN0 _ _) ?_ | refine below_then ?_ (by first | assumption | exact below_alloc1 _ _ | exact below_drew1 _ | exact below_drewN0 _ _))) N (by rw [← HN.out]; omega) (by have := HN.out; have := HM.out; omega) (by simp)).mono ?_; rintro e w5 ⟨A5, c5, rfl, hr5, hc5, hB5⟩))
  all_goals
    go_wp2_with fail
    go_ret
    exact ⟨A5, c5, rfl, hr5, hc5, hBB.trans (Below.mono (B := w1.heap.size) (by repeat (first | assumption | exact Below.refl _ _ | ((with_reducible refine lit2 _ _ _ _ _ ?_); (first | (with_reducible rfl) | (simp; done))) | ((with_reducible refine lit1 _ _ _ _ ?_); (first | (with_reducible rfl) | (simp; done))) | refine row_step (by first | assumption | exact below_alloc1 _ _ | exact below_drew1 _ | exact below_drewN0 _ _) ?_ | refine block_below (by first | assumption | exact below_alloc1 _ _ | exact below_drew1 _ | exact below_drewN0 _ _) ?_ | refine below_then ?_ (by first | assumption | exact below_alloc1 _ _ | exact below_drew1 _ | exact below_drewN0 _ _))) hBB.size)⟩
abbrev H1 : List Int := [0, 0, 0, 0, 0, 0, 0, 0, 0, 0, 0, 1, 0, 0, 0, 0, 0, 0, 1, 1, 0, 0, 0, 0, 0, 0, 0]
abbrev H2 : List Int := [0, 0, 0, 0, 0, 0, 0, 0, 0, 0, 0, 1, 0, 0, 0, 0, 0, 0, 1]
def idOk (x : Bool) (ID : Nat) : Prop := ID < if x then 536870912 else 2048
def rn (x : Bool) : Nat := if x then 32 else 13
def hn (x : Bool) : Nat := if x then 39 else 19
def rankV (x : Bool) (ID : Nat) (r : Bool) : List Int := if x then rankX ID r else rankS ID r
def headV (x : Bool) (ID : Nat) (r : Bool) (L : Nat) (dl : List Int) : List Int :=
  if x then [0] ++ (rankX ID r ++ ([0, 0] ++ (bitRow L 4 4 ++ spreadL dl))) else [0] ++ (rankS ID r ++ ([0] ++ (bitRow L 4 4 ++ spreadL dl)))
theorem rankV_len (x : Bool) (ID : Nat) (r : Bool) : (rankV x ID r).length = rn x := by cases x <;> simp [rankV, rn, rankS_len, rankX_len]
theorem headV_len (x : Bool) (ID : Nat) (r : Bool) (L : Nat) (dl : List Int) : (headV x ID r L dl).length = hn x + 8 * dl.length := by
  cases x <;> simp only [headV, hn, if_true, if_false, Bool.false_eq_true, List.length_append, rankS_len, rankX_len, bitRow_len, spreadL_len, List.length_cons, List.length_nil] <;> omega
theorem head_at (x : Bool) (ID : Nat) (r : Bool) (L : Nat) (dl : List Int) (m : Nat) (hdl : dl.length = m) (A : Option Addr) (c : Nat) (hID : idOk x ID) (hL : L ≤ 8) (w : World) (h : Row .u8 w w.heap.size A dl) (hb : byteB dl) (hm : m ≤ 1000) (M : Nat) (hM : 8 * m = M) (N : Nat) (hN : hn x + M = N) :
    Calls Tryz.prog 112 #[.agg #[.bool x, .int .i64 ID, .bool r, .int .i64 L, .slice A m c]] w fun e w' => ∃ A' c', e = .returned (.slice A' N c') ∧ Row .i64 w' w'.heap.size A' (headV x ID r L dl) ∧ N ≤ c' ∧ Below w.heap.size w w' := by
  cases x
  · exact headS_at ID r L dl m hdl A c hID (by omega) w h hb hm M hM N hN
  · exact headX_at ID r L dl m hdl A c hID (by omega) w h hb hm M hM N hN
theorem right_ok {x : Bool} {i : Int} {r : Bool} {n : Int} {m : Nat} (h : rightV x i r n m = true) :
    ∃ ID L : Nat, i = ID ∧ n = L ∧ idOk x ID ∧ L ≤ 8 ∧ m = (if r then 0 else L) := by
  simp only [rightV, decide_eq_true_eq] at h
  obtain ⟨h1, h2, h3, h4, h5⟩ := h
  obtain ⟨ID, rfl⟩ := Int.eq_ofNat_of_zero_le h1
  obtain ⟨L, rfl⟩ := Int.eq_ofNat_of_zero_le h3
  refine ⟨ID, L, rfl, rfl, ?_, by omega, ?_⟩
  · unfold idOk; cases x <;> simp at h2 ⊢ <;> omega
  · cases r <;> simp at h5 ⊢ <;> omega
theorem Row.some_ {κ : IntKind} {w : World} {B : Nat} {A : Option Addr} {l : List Int} (h : Row κ w B A l) (hl : 0 < l.length) : ∃ ad, A = some ad := by
  rcases h with rfl | ⟨ad, e, _⟩
  · simp at hl
  · exact ⟨ad, e⟩
theorem flag_inj {a b : Bool} (h : flag a = flag b) : a = b := by cases a <;> cases b <;> first | rfl | (simp [flag] at h)
theorem bitRow_inj {n a b : Nat} (ha : a < 2 ^ n) (hb : b < 2 ^ n) (h : bitRow a n n = bitRow b n n) : a = b := by rw [← numOf_back ha, ← numOf_back hb, h]
theorem rankSS {a b : Nat} {r s : Bool} (ha : a < 2048) (hb : b < 2048) : rankS a r = rankS b s ↔ a = b ∧ r = s := by
  constructor
  · intro h
    unfold rankS at h
    obtain ⟨h1, h2⟩ := List.append_inj h (by simp [bitRow_len])
    refine ⟨bitRow_inj (n := 11) (by omega) (by omega) h1, flag_inj ?_⟩
    simpa using h2
  · rintro ⟨rfl, rfl⟩; rfl
theorem rankXX {a b : Nat} {r s : Bool} (ha : a < 536870912) (hb : b < 536870912) : rankX a r = rankX b s ↔ a = b ∧ r = s := by
  constructor
  · intro h
    unfold rankX at h
    obtain ⟨h1, h2⟩ := List.append_inj h (by simp [bitRow_len])
    obtain ⟨_, h3⟩ := List.append_inj h2 (by simp)
    obtain ⟨h4, h5⟩ := List.append_inj h3 (by simp [bitRow_len])
    have e1 := bitRow_inj (n := 11) (by omega) (by omega) h1
    have e2 := bitRow_inj (n := 18) (Nat.mod_lt _ (by omega)) (Nat.mod_lt _ (by omega)) h4
    exact ⟨by omega, flag_inj (by simpa using h5)⟩
  · rintro ⟨rfl, rfl⟩; rfl
theorem rankX_take (b : Nat) (s : Bool) : (rankX b s).take 13 = bitRow (b / 262144) 11 11 ++ [1, 1] := by
  unfold rankX
  rw [← List.append_assoc, List.take_left' (by simp [bitRow_len])]
theorem rankSX (a b : Nat) (r s : Bool) : rankS a r ≠ (rankX b s).take 13 := by
  rw [rankX_take]
  unfold rankS
  intro h
  obtain ⟨_, h2⟩ := List.append_inj h (by simp [bitRow_len])
  simp at h2
theorem rankSX' (a b : Nat) (r s : Bool) : rankS a r ≠ rankX b s := by
  intro h
  have := congrArg List.length h
  rw [rankS_len, rankX_len] at this
  cases this
theorem rankV_eq {x x' : Bool} {a b : Nat} {r s : Bool} (ha : idOk x a) (hb : idOk x' b) : rankV x a r = rankV x' b s ↔ x = x' ∧ a = b ∧ r = s := by
  cases x <;> cases x'
  · simpa [rankV] using rankSS ha hb
  · simpa [rankV] using rankSX' a b r s
  · simpa [rankV] using fun e => rankSX' b a s r e.symm
  · simpa [rankV] using rankXX ha hb
theorem rankV_pre {x x' : Bool} {a b : Nat} {r s : Bool} (ha : idOk x a) (hb : idOk x' b) : (rankV x a r).take (min (rn x) (rn x')) = (rankV x' b s).take (min (rn x) (rn x')) ↔ x = x' ∧ a = b ∧ r = s := by
  rw [← rankV_eq ha hb]
  cases x <;> cases x'
  · show (rankS a r).take 13 = (rankS b s).take 13 ↔ rankS a r = rankS b s
    rw [List.take_of_length_le (by rw [rankS_len]; omega), List.take_of_length_le (by rw [rankS_len]; omega)]
  · show (rankS a r).take 13 = (rankX b s).take 13 ↔ rankS a r = rankX b s
    rw [List.take_of_length_le (by rw [rankS_len]; omega)]
    exact ⟨fun e => absurd e (rankSX _ _ _ _), fun e => absurd e (rankSX' _ _ _ _)⟩
  · show (rankX a r).take 13 = (rankS b s).take 13 ↔ rankX a r = rankS b s
    rw [List.take_of_length_le (l := rankS b s) (by rw [rankS_len]; omega)]
    exact ⟨fun e => absurd e.symm (rankSX _ _ _ _), fun e => absurd e.symm (rankSX' _ _ _ _)⟩
  · show (rankX a r).take 32 = (rankX b s).take 32 ↔ rankX a r = rankX b s
    rw [List.take_of_length_le (by rw [rankX_len]; omega), List.take_of_length_le (by rw [rankX_len]; omega)]
structure IsS (l : List Int) (ID : Nat) (r : Bool) (L : Nat) (t : List Int) : Prop where
  g0 : l.getD 0 0 = 0
  n1 : (l.drop 1).take 11 = bitRow ID 11 11
  g12 : l.getD 12 0 = flag r
  g13 : l.getD 13 0 = 0
  g14 : l.getD 14 0 = 0
  n2 : (l.drop 15).take 4 = bitRow L 4 4
  d : l.drop 19 = t
  len : l.length = 19 + t.length
structure IsX (l : List Int) (ID : Nat) (r : Bool) (L : Nat) (t : List Int) : Prop where
  g0 : l.getD 0 0 = 0
  n1 : (l.drop 1).take 11 = bitRow (ID / 262144) 11 11
  g12 : l.getD 12 0 = 1
  g13 : l.getD 13 0 = 1
  n3 : (l.drop 14).take 18 = bitRow (ID % 262144) 18 18
  g32 : l.getD 32 0 = flag r
  g33 : l.getD 33 0 = 0
  g34 : l.getD 34 0 = 0
  n2 : (l.drop 35).take 4 = bitRow L 4 4
  d : l.drop 39 = t
  len : l.length = 39 + t.length
theorem refPut_yes (num many : Nat) (hm : many ≤ 32) (hnum : num < 2 ^ many) (w : World) :
    Calls Tryz.prog 78 #[.int .i64 num, .int .i64 many] w fun e W' => ∃ A c, e = .returned (.tuple #[.slice A many c, .bool true]) ∧ W'.ownsRow w.heap.size 3 1 (.slice A many c) many ((bitRow num many many).map (Value.int .i64)) ∧ Below w.heap.size w W' := by
  obtain ⟨i0, hi, hz0, hz1, hz2⟩ := info_parts Tryz.infoInt
  have d1 : decide ((many : Int) < 0) = false := by simp
  have d2 : decide (32 < (many : Int)) = false := by simp; omega
  have d3 : decide ((num : Int) < 0) = false := by simp
  have d4 : decide (wrap64 (2 ^ many) ≤ (num : Int)) = false := by
    rw [wrap_pow many hm]; simp; exact_mod_cast hnum
  have hn62 : num < 4611686018427387904 := by
    have := Nat.pow_le_pow_right (n := 2) (by omega) hm
    omega
  clear hnum
  go_enter Tryz.func78, Tryz.ntmps78
  go_wp2_with fail
  go_loopw [6, 7] (fun o i wr => ∃ (k : Nat) (A : Option Addr) (c : Nat), k ≤ many ∧ i = .int .i64 ((many : Int) - 1 - k) ∧ o = .slice A k c ∧ wr.ownsRow w.heap.size 3 1 (.slice A k c) k ((bitRow num many k).map (Value.int .i64)) ∧ Below w.heap.size w wr)
    (fun _ i _ => (intOf i + 1).toNat)
  case atStart => exact ⟨0, none, 0, Nat.zero_le _, by simp, rfl, World.ownsRow_nil _ _ _ _, Below.refl _ _⟩
  case round =>
    obtain ⟨k, A, c, hk, rfl, rfl, hown, hB⟩ := hrel
    by_cases hlt : k < many
    · have hx : bits .and .i64 ((num : Int) / 2 ^ (many - 1 - k)) 1 = bitAt num many k := bits_one num (many - 1 - k) hn62
      have Hr := Lib.hid (bitRow_succ num many k)
      go_wp2_with (at_builtin; refine wpList_append_row _ .i64 rfl _ _ 39 rfl w.heap.size 3 i0 (.int .i64 0) 8 Tryz.underlying39 hi hz0 hz1 hz2 rfl _ k (bitRow num many k) rfl (hown.alloc _) (some ⟨wr.heap.size, 0, none⟩) 1 1 _ [bitAt num many k] rfl rfl (Row.lit wr .i64 [bitAt num many k] 3 rfl) (by unfold maxLen; omega) (by omega) (by have := hB.size; simp; omega) ?_; intro A' c' w1 hown1 hc1 hB1)
      have hBB : Below w.heap.size w w1 := (hB.alloc hB.size _).trans hB1
      exact ⟨⟨k + 1, A', c', by omega, by go_num, rfl, by rw [Hr.out]; exact hown1, hBB⟩, by simp [intOf]; omega⟩
    · obtain rfl : k = many := by omega
      go_wp2
      go_ret2
      exact ⟨A, c, rfl, hown, hB⟩
theorem refPut_at (n m : Int) (num many : Nat) (hn : n = num) (hm' : m = many) (hm : many ≤ 32) (hnum : num < 2 ^ many) (w : World) :
    Calls Tryz.prog 78 #[.int .i64 n, .int .i64 m] w fun e W' => ∃ A c, e = .returned (.tuple #[.slice A many c, .bool true]) ∧ Row .i64 W' W'.heap.size A (bitRow num many many) ∧ Below w.heap.size w W' := by
  subst hn hm'
  exact (refPut_yes num many hm hnum w).mono fun e W' ⟨A, c, h1, h2, h3⟩ => ⟨A, c, h1, Row.own h2, h3⟩
theorem refSpread_any (l : List Int) (A : Option Addr) (c : Nat) (w : World) (h : Row .u8 w w.heap.size A l) (hb : byteB l) (hm : l.length * 64 ≤ 140737488355328) :
    Calls Tryz.prog 99 #[.slice A l.length c] w fun e w' => ∃ A' c', e = .returned (.slice A' (8 * l.length) c') ∧
      w'.ownsRow w.heap.size 3 1 (.slice A' (8 * l.length) c') (8 * l.length) ((spreadL l).map (Value.int .i64)) ∧ Below w.heap.size w w' := by
  obtain ⟨i0, hi, hz0, hz1, hz2⟩ := info_parts Tryz.infoInt
  have Hb := Lib.hid hb
  clear hb
  go_enter Tryz.func99, Tryz.ntmps99
  go_wp2_with fail
  go_loopw [3, 4] (fun o i wr => ∃ (k : Nat) (A' : Option Addr) (c' : Nat), k ≤ l.length ∧ i = .int .i64 k ∧ o = .slice A' (8 * k) c' ∧
      wr.ownsRow w.heap.size 3 1 (.slice A' (8 * k) c') (8 * k) ((spreadL (l.take k)).map (Value.int .i64)) ∧ Below w.heap.size w wr)
    (fun _ i _ => l.length - (intOf i).toNat)
  case atStart => exact ⟨0, none, 0, Nat.zero_le _, rfl, rfl, World.ownsRow_nil _ _ _ _, Below.refl _ _⟩
  case round =>
    obtain ⟨k, A', c', hk, rfl, rfl, hown, hB⟩ := hrel
    by_cases hlt : k < l.length
    · obtain ⟨ad, x, rfl, hx, hc⟩ := (h.below hB).get_ hlt
      have hxb := Hb.out x (List.mem_of_getElem? hx)
      obtain ⟨N, rfl⟩ := Int.eq_ofNat_of_zero_le hxb.1
      have hN : N ≤ 255 := by omega
      have Hsn := Lib.hid (spreadL_snoc hx)
      clear hx hxb
      have hsz := hB.size
      go_wp2_with (first
        | (go_at_call 78; refine (refPut_at _ _ N 8 rfl rfl (by omega) (by omega) _).mono ?_; rintro e w1 ⟨A2, c2, rfl, hr1, hB1⟩; have own1 := own_to hown (hB1.mono (Nat.le_refl _)))
        | (at_builtin; refine wpList_append_row _ .i64 rfl _ _ 39 rfl w.heap.size 3 i0 (.int .i64 0) 8 Tryz.underlying39 hi hz0 hz1 hz2 rfl _ (8 * k) (spreadL (l.take k)) rfl own1 A2 8 c2 _ (bitRow N 8 8) rfl (bitRow_len _ _ _) hr1 (by unfold maxLen; omega) (by omega) (by have := hB1.size; omega) ?_; intro A3 c3 w2 hown2 hc2 hB2))
      have hBB : Below w.heap.size w w2 := (hB.trans (hB1.mono hsz)).trans hB2
      exact ⟨⟨k + 1, A3, c3, by omega, by go_num, rfl, by rw [Hsn.out]; exact hown2, hBB⟩, by simp [intOf]; omega⟩
    · obtain rfl : k = l.length := by omega
      go_wp2
      go_ret
      exact ⟨A', c', rfl, by rw [List.take_length] at hown; exact hown, hB⟩
theorem headV_right (x : Bool) (ID : Nat) (r : Bool) (L : Nat) (dl : List Int) : rightB (headV x ID r L dl) = true := by
  have hf : ∀ b, rightB [flag b] = true := by decide
  cases x
  · simp only [headV, Bool.false_eq_true, if_false, rankS, rightB_append, bitRow_right, spreadL_right]
    cases r <;> decide
  · simp only [headV, if_true, rankX, rightB_append, bitRow_right, spreadL_right]
    cases r <;> decide
def preV (x : Bool) (ID : Nat) (r : Bool) : List Int := if x then [0] ++ (rankX ID r ++ [0, 0]) else [0] ++ (rankS ID r ++ [0])
theorem refSpread_ex (l : List Int) (n : Nat) (hn : l.length = n) (A : Option Addr) (c : Nat) (w : World) (h : Row .u8 w w.heap.size A l) (hb : byteB l) (hm : n * 64 ≤ 140737488355328) (m : Nat) (hm' : 8 * n = m) :
    Calls Tryz.prog 99 #[.slice A n c] w fun e w' => ∃ A' c', e = .returned (.slice A' m c') ∧ Row .i64 w' w'.heap.size A' (spreadL l) ∧ Below w.heap.size w w' := by
  subst hn hm'
  exact (refSpread_any l A c w h hb hm).mono fun _ _ ⟨A', c', h1, h2, h3⟩ => ⟨A', c', h1, Row.own h2, h3⟩
theorem bits_11 : bitRow 3 2 2 = [1, 1] := by decide
theorem bits_0 : bitRow 0 1 1 = [0] := by decide
theorem bits_f (r : Bool) : bitRow (flag r).toNat 1 1 = [flag r] := by cases r <;> decide
theorem refFrPut_at (l : List Int) (k : Nat) (hk : l.length = k) (A : Option Addr) (c : Nat) (n : Int) (num many : Nat) (hn : n = num) (hm : many ≤ 32) (hnum : num < 2 ^ many) (hk2 : k ≤ 1000) (w : World) (h : Row .i64 w w.heap.size A l) (s : Nat) (hs : k + many = s) :
    Calls Tryz.prog 56 #[.slice A k c, .int .i64 n, .int .i64 many] w fun e w' => ∃ A' c', e = .returned (.slice A' s c') ∧ Row .i64 w' w'.heap.size A' (l ++ bitRow num many many) ∧ s ≤ c' ∧ Below w.heap.size w w' := by
  obtain ⟨i0, hi, hz0, hz1, hz2⟩ := info_parts Tryz.infoInt
  subst hn hs
  have HK := Lib.hid hk
  have HN := Lib.hid hnum
  clear hk hnum
  go_enter Tryz.func56, Tryz.ntmps56
  go_wp2_with fail
  refine (refPut_at _ _ num many rfl rfl hm HN.out w).mono ?_
  rintro e w1 ⟨A1, c1, rfl, hr1, hB1⟩
  have hl1 := h.to hB1
  have o2 := own_lit w1 .i64 [] 0 rfl 3 (cs := #[]) rfl (by decide)
  have r2 := hl1.to (below_alloc1 w1 (.cells #[] 3))
  have s2 := hr1.to (below_alloc1 w1 (.cells #[] 3))
  go_wp2_with (first
    | (at_builtin; have hq_ := hown3; clear hq_; refine wpList_append_row _ .i64 rfl _ _ 39 rfl w1.heap.size 3 i0 (.int .i64 0) 8 Tryz.underlying39 hi hz0 hz1 hz2 rfl _ k l rfl hown3 A1 many c1 _ (bitRow num many many) rfl (bitRow_len _ _ _) hr3 (by unfold maxLen; omega) (by omega) hs3 ?_; intro A4 c4 w4 hown4 hc4 hB4)
    | (at_builtin; refine wpList_append_row _ .i64 rfl _ _ 39 rfl w1.heap.size 3 i0 (.int .i64 0) 8 Tryz.underlying39 hi hz0 hz1 hz2 rfl _ 0 [] rfl o2 A k c _ l rfl HK.out r2 (by unfold maxLen; omega) (by omega) (by simp) ?_; intro A3 c3 w3 hown3 hc3 hB3; rw [Nat.zero_add, List.nil_append] at hown3; have hs3 : w1.heap.size ≤ w3.heap.size := (by have := hB3.size; simp at this; omega); have hr3 : Row .i64 w3 w1.heap.size A1 (bitRow num many many) := (hr1.below (below_alloc1 w1 (.cells #[] 3))).below hB3))
  go_ret
  exact ⟨A4, c4, rfl, Row.own hown4, hc4, hB1.trans ((((below_alloc1 w1 _).trans hB3).trans hB4).mono hB1.size)⟩
theorem refRankS_at (ID : Nat) (r : Bool) (n : Int) (A : Option Addr) (m c : Nat) (hID : ID < 2048) (w : World) :
    Calls Tryz.prog 32 #[.agg #[.bool false, .int .i64 ID, .bool r, .int .i64 n, .slice A m c]] w fun e w' => ∃ A' c', e = .returned (.slice A' 13 c') ∧ Row .i64 w' w'.heap.size A' (rankS ID r) ∧ 13 ≤ c' ∧ Below w.heap.size w w' := by
  obtain ⟨w0, hw0⟩ : ∃ w0, w.alloc (.cells #[.bool false, .int .i64 ID, .bool r, .int .i64 n, .slice A m c] 34) = w0 := ⟨_, rfl⟩
  have hB0 := below_lits hw0
  have hF0 : w0.heap[w.heap.size]? = some (.cells #[.bool false, .int .i64 ID, .bool r, .int .i64 n, .slice A m c] 34) := by rw [← hw0]; exact World.alloc_heap_new _ _
  have HW := Lib.hid hw0
  have hfl : flag r = ((flag r).toNat : Int) := by cases r <;> rfl
  have hfb : (flag r).toNat < 2 ^ 1 := by cases r <;> decide
  have HFl := Lib.hid hfl
  clear hw0 hfl
  go_enter Tryz.func32, Tryz.ntmps32
  go_wp2_with fail
  rw [HW.out]
  clear HW
  go_region_held3 (fun W => W.cell? ⟨w.heap.size, 0, none⟩ = some (.bool false) ∧ W.cell? ⟨w.heap.size, 1, none⟩ = some (.int .i64 ID) ∧ W.cell? ⟨w.heap.size, 2, none⟩ = some (.bool r) ∧ W.cell? ⟨w.heap.size, 3, none⟩ = some (.int .i64 n) ∧ W.cell? ⟨w.heap.size, 4, none⟩ = some (.slice A m c))
    (exact cells5' (by repeat (first | assumption | exact Below.refl _ _ | ((with_reducible refine lit2 _ _ _ _ _ ?_); (first | (with_reducible rfl) | (simp; done))) | ((with_reducible refine lit1 _ _ _ _ ?_); (first | (with_reducible rfl) | (simp; done))) | refine row_step (by first | assumption | exact below_alloc1 _ _ | exact below_drew1 _ | exact below_drewN0 _ _) ?_ | refine block_below (by first | assumption | exact below_alloc1 _ _ | exact below_drew1 _ | exact below_drewN0 _ _) ?_ | refine below_then ?_ (by first | assumption | exact below_alloc1 _ _ | exact below_drew1 _ | exact below_drewN0 _ _))))
    (first
      | (go_at_call 56; have hq_ := hr4; clear hq_; refine (refFrPut_at (bitRow ID 11 11 ++ bitRow (flag r).toNat 1 1) 12 (by rw [List.length_append, bitRow_len, bitRow_len]) A4 c4 0 0 1 rfl (by omega) (by omega) (by omega) _ (by repeat (first | assumption | exact Below.refl _ _ | ((with_reducible refine lit2 _ _ _ _ _ ?_); (first | (with_reducible rfl) | (simp; done))) | ((with_reducible refine lit1 _ _ _ _ ?_); (first | (with_reducible rfl) | (simp; done))) | refine row_step (by first | assumption | exact below_alloc1 _ _ | exact below_drew1 _ | exact below_drewN0 _ _) ?_ | refine block_below (by first | assumption | exact below_alloc1 _ _ | exact below_drew1 _ | exact below_drewN0 _ _) ?_ | refine below_then ?_ (by first | assumption | exact below_alloc1 _ _ | exact below_drew1 _ | exact below_drewN0 _ _))) 13 rfl).mono ?_; rintro e w5 ⟨A5, c5, rfl, hr5, hc5, hB5⟩)
      | (go_at_call 56; have hq_ := hB3; clear hq_; refine (refFrPut_at (bitRow ID 11 11) 11 (bitRow_len _ _ _) A2 c2 (flag r) (flag r).toNat 1 HFl.out (by omega) hfb (by omega) _ (by repeat (first | assumption | exact Below.refl _ _ | ((with_reducible refine lit2 _ _ _ _ _ ?_); (first | (with_reducible rfl) | (simp; done))) | ((with_reducible refine lit1 _ _ _ _ ?_); (first | (with_reducible rfl) | (simp; done))) | refine row_step (by first | assumption | exact below_alloc1 _ _ | exact below_drew1 _ | exact below_drewN0 _ _) ?_ | refine block_below (by first | assumption | exact below_alloc1 _ _ | exact below_drew1 _ | exact below_drewN0 _ _) ?_ | refine below_then ?_ (by first | assumption | exact below_alloc1 _ _ | exact below_drew1 _ | exact below_drewN0 _ _))) 12 rfl).mono ?_; rintro e w4 ⟨A4, c4, rfl, hr4, hc4, hB4⟩)
      | (go_at_call 56; refine (refFrPut_at [] 0 rfl none 0 (ID : Int) ID 11 rfl (by omega) (by omega) (by omega) _ (.inl rfl) 11 rfl).mono ?_; rintro e w2 ⟨A2, c2, rfl, hr2, hc2, hB2⟩; rw [List.nil_append] at hr2)
      | (go_at_call 57; refine (remote_at false ID r n A m c _).mono ?_; rintro e w3 ⟨rfl, hB3⟩))
  all_goals
    go_wp2_with fail
    go_ret
    refine ⟨A5, c5, rfl, ?_, hc5, by repeat (first | assumption | exact Below.refl _ _ | ((with_reducible refine lit2 _ _ _ _ _ ?_); (first | (with_reducible rfl) | (simp; done))) | ((with_reducible refine lit1 _ _ _ _ ?_); (first | (with_reducible rfl) | (simp; done))) | refine row_step (by first | assumption | exact below_alloc1 _ _ | exact below_drew1 _ | exact below_drewN0 _ _) ?_ | refine block_below (by first | assumption | exact below_alloc1 _ _ | exact below_drew1 _ | exact below_drewN0 _ _) ?_ | refine below_then ?_ (by first | assumption | exact below_alloc1 _ _ | exact below_drew1 _ | exact below_drewN0 _ _))⟩
    unfold rankS
    rw [bits_f, bits_0, List.append_assoc] at hr5
    exact hr5
theorem refRankX_at (ID : Nat) (r : Bool) (n : Int) (A : Option Addr) (m c : Nat) (hID : ID < 536870912) (w : World) :
    Calls Tryz.prog 32 #[.agg #[.bool true, .int .i64 ID, .bool r, .int .i64 n, .slice A m c]] w fun e w' => ∃ A' c', e = .returned (.slice A' 32 c') ∧ Row .i64 w' w'.heap.size A' (rankX ID r) ∧ 32 ≤ c' ∧ Below w.heap.size w w' := by
  obtain ⟨w0, hw0⟩ : ∃ w0, w.alloc (.cells #[.bool true, .int .i64 ID, .bool r, .int .i64 n, .slice A m c] 34) = w0 := ⟨_, rfl⟩
  have hB0 := below_lits hw0
  have hF0 : w0.heap[w.heap.size]? = some (.cells #[.bool true, .int .i64 ID, .bool r, .int .i64 n, .slice A m c] 34) := by rw [← hw0]; exact World.alloc_heap_new _ _
  have HW := Lib.hid hw0
  have hfl : flag r = ((flag r).toNat : Int) := by cases r <;> rfl
  have hfb : (flag r).toNat < 2 ^ 1 := by cases r <;> decide
  have HFl := Lib.hid hfl
  obtain ⟨V, hV⟩ : ∃ V, ID % 262144 = V := ⟨_, rfl⟩
  obtain ⟨U, hU⟩ : ∃ U, ID / 262144 = U := ⟨_, rfl⟩
  have hsh : (ID : Int) / 262144 = (U : Int) := by omega
  have hsh2 : (ID : Int) / 2 ^ 18 = (U : Int) := hsh
  have hmd : (ID : Int) % 262144 = (V : Int) := by omega
  have htm : Int.tmod (ID : Int) 262144 = (V : Int) := by rw [Int.tmod_eq_emod_of_nonneg (by omega)]; exact hmd
  have hUb : U < 2 ^ 11 := by omega
  have hVb : V < 2 ^ 18 := by omega
  have HV := Lib.hid hV
  have HU := Lib.hid hU
  clear hw0 hfl hV hU
  go_enter Tryz.func32, Tryz.ntmps32
  go_wp2_with fail
  rw [HW.out]
  clear HW
  go_region_held3 (fun W => W.cell? ⟨w.heap.size, 0, none⟩ = some (.bool true) ∧ W.cell? ⟨w.heap.size, 1, none⟩ = some (.int .i64 ID) ∧ W.cell? ⟨w.heap.size, 2, none⟩ = some (.bool r) ∧ W.cell? ⟨w.heap.size, 3, none⟩ = some (.int .i64 n) ∧ W.cell? ⟨w.heap.size, 4, none⟩ = some (.slice A m c))
    (exact cells5' (by repeat (first | assumption | exact Below.refl _ _ | ((with_reducible refine lit2 _ _ _ _ _ ?_); (first | (with_reducible rfl) | (simp; done))) | ((with_reducible refine lit1 _ _ _ _ ?_); (first | (with_reducible rfl) | (simp; done))) | refine row_step (by first | assumption | exact below_alloc1 _ _ | exact below_drew1 _ | exact below_drewN0 _ _) ?_ | refine block_below (by first | assumption | exact below_alloc1 _ _ | exact below_drew1 _ | exact below_drewN0 _ _) ?_ | refine below_then ?_ (by first | assumption | exact below_alloc1 _ _ | exact below_drew1 _ | exact below_drewN0 _ _))))
    (first
      | (go_at_call 56; have hq_ := hB5; clear hq_; refine (refFrPut_at (bitRow U 11 11 ++ bitRow 3 2 2 ++ bitRow V 18 18) 31 (by simp only [List.length_append, bitRow_len]) A4 c4 (flag r) (flag r).toNat 1 HFl.out (by omega) hfb (by omega) _ (by repeat (first | assumption | exact Below.refl _ _ | ((with_reducible refine lit2 _ _ _ _ _ ?_); (first | (with_reducible rfl) | (simp; done))) | ((with_reducible refine lit1 _ _ _ _ ?_); (first | (with_reducible rfl) | (simp; done))) | refine row_step (by first | assumption | exact below_alloc1 _ _ | exact below_drew1 _ | exact below_drewN0 _ _) ?_ | refine block_below (by first | assumption | exact below_alloc1 _ _ | exact below_drew1 _ | exact below_drewN0 _ _) ?_ | refine below_then ?_ (by first | assumption | exact below_alloc1 _ _ | exact below_drew1 _ | exact below_drewN0 _ _))) 32 rfl).mono ?_; rintro e w6 ⟨A6, c6, rfl, hr6, hc6, hB6⟩)
      | (go_at_call 56; have hq_ := hr3; clear hq_; refine (refFrPut_at (bitRow U 11 11 ++ bitRow 3 2 2) 13 (by simp only [List.length_append, bitRow_len]) A3 c3 (V : Int) V 18 rfl (by omega) hVb (by omega) _ (by repeat (first | assumption | exact Below.refl _ _ | ((with_reducible refine lit2 _ _ _ _ _ ?_); (first | (with_reducible rfl) | (simp; done))) | ((with_reducible refine lit1 _ _ _ _ ?_); (first | (with_reducible rfl) | (simp; done))) | refine row_step (by first | assumption | exact below_alloc1 _ _ | exact below_drew1 _ | exact below_drewN0 _ _) ?_ | refine block_below (by first | assumption | exact below_alloc1 _ _ | exact below_drew1 _ | exact below_drewN0 _ _) ?_ | refine below_then ?_ (by first | assumption | exact below_alloc1 _ _ | exact below_drew1 _ | exact below_drewN0 _ _))) 31 rfl).mono ?_; rintro e w4 ⟨A4, c4, rfl, hr4, hc4, hB4⟩)
      | (go_at_call 56; have hq_ := hr2; clear hq_; refine (refFrPut_at (bitRow U 11 11) 11 (bitRow_len _ _ _) A2 c2 3 3 2 rfl (by omega) (by omega) (by omega) _ (by repeat (first | assumption | exact Below.refl _ _ | ((with_reducible refine lit2 _ _ _ _ _ ?_); (first | (with_reducible rfl) | (simp; done))) | ((with_reducible refine lit1 _ _ _ _ ?_); (first | (with_reducible rfl) | (simp; done))) | refine row_step (by first | assumption | exact below_alloc1 _ _ | exact below_drew1 _ | exact below_drewN0 _ _) ?_ | refine block_below (by first | assumption | exact below_alloc1 _ _ | exact below_drew1 _ | exact below_drewN0 _ _) ?_ | refine below_then ?_ (by first | assumption | exact below_alloc1 _ _ | exact below_drew1 _ | exact below_drewN0 _ _))) 13 rfl).mono ?_; rintro e w3 ⟨A3, c3, rfl, hr3, hc3, hB3⟩)
      | (go_at_call 56; refine (refFrPut_at [] 0 rfl none 0 (U : Int) U 11 rfl (by omega) hUb (by omega) _ (.inl rfl) 11 rfl).mono ?_; rintro e w2 ⟨A2, c2, rfl, hr2, hc2, hB2⟩; rw [List.nil_append] at hr2)
      | (go_at_call 57; refine (remote_at true ID r n A m c _).mono ?_; rintro e w5 ⟨rfl, hB5⟩))
  all_goals
    go_wp2_with fail
    go_ret
    refine ⟨A6, c6, rfl, ?_, hc6, by repeat (first | assumption | exact Below.refl _ _ | ((with_reducible refine lit2 _ _ _ _ _ ?_); (first | (with_reducible rfl) | (simp; done))) | ((with_reducible refine lit1 _ _ _ _ ?_); (first | (with_reducible rfl) | (simp; done))) | refine row_step (by first | assumption | exact below_alloc1 _ _ | exact below_drew1 _ | exact below_drewN0 _ _) ?_ | refine block_below (by first | assumption | exact below_alloc1 _ _ | exact below_drew1 _ | exact below_drewN0 _ _) ?_ | refine below_then ?_ (by first | assumption | exact below_alloc1 _ _ | exact below_drew1 _ | exact below_drewN0 _ _))⟩
    unfold rankX
    rw [HU.out, HV.out]
    rw [bits_f, bits_11, List.append_assoc, List.append_assoc] at hr6
    exact hr6
theorem step_append_new {w : World} {ops : Array Oper} {o : Oper} {a : Act} {K : Act → World → Prop} {Q : Exit → Act → World → Prop} {E : Prop} (hgd : o.guard = none) (s x : Operand)
    (ho : o.op = .call { callee := .builtin .append, args := #[s, x], argTypes := #[39, 39] })
    (i0 : TypeInfo) (hi : Tryz.prog.info? 3 = some i0) (hz : i0.zero = some (.int .i64 0)) (hsize : i0.size = 1) (hby : i0.bytes = 8)
    (b : Addr) (hs : a.eval s = .slice (some b) 0 0)
    (A : Option Addr) (m c : Nat) (l' : List Int) (hx : a.eval x = .slice A m c) (hm : l'.length = m) (hr : Row .i64 w w.heap.size A l') (h0 : 0 < m) (hmb : m ≤ 100000)
    (h : ∀ A' c' w', w'.ownsRow w.heap.size 3 1 (.slice A' m c') m (l'.map (Value.int .i64)) → Below w.heap.size w w' → K (a.put o.dst (.slice A' m c')) w') :
    if Region.wanted o (yielded ops a.tmps) = true then Oper.wp Tryz.prog o a w K Q else E := by
  obtain ⟨ad, rfl⟩ : ∃ ad, A = some ad := hr.some_ (by omega)
  have hcells : ∀ j u, (l'.map (Value.int .i64))[j]? = some u → w.cell? (ad.add j) = some u := by
    intro j u hu
    rw [List.getElem?_map, Option.map_eq_some_iff] at hu
    obtain ⟨y, hy, rfl⟩ := hu
    rcases hr with rfl | ⟨ad', e', _, hc⟩
    · simp at hy
    · cases e'; exact hc j y hy
  have hge := grownCap_ge w (0 + m) 0 3
  have hcm : grownCap w (0 + m) 0 3 ≤ maxLen := grownCap_le_maxLen w (0 + m) 0 3 (by unfold maxLen; omega)
  have hrun := fun ty => run_append_grow (P := Tryz.prog) (w := w) 39 ty 3 i0 (.int .i64 0) Tryz.underlying39 hi hz b 0 0 [] (by simp) (by simp) ad m c (l'.map (Value.int .i64)) (by simp [hsize, hm]) hcells (by omega) (by omega) (by rw [hby, Nat.zero_add, nextslicecap_zero h0]; omega)
  have hw : Region.wanted o (yielded ops a.tmps) = true := by simp [Region.wanted, hgd]
  rw [if_pos hw]
  unfold Oper.wp execOp
  simp only [ho, resolve, invoke, builtin, Sem.run_bind, Sem.run_pure, Result.andThen_ok, List.map_toArray, List.map_cons, List.map_nil, hs, hx, hrun]
  rw [Nat.zero_add] at hge hcm ⊢
  refine h _ _ _ ⟨by simp [hm], .inr ⟨w.heap.size, _, _, rfl, Nat.le_refl _, World.alloc_heap_new w.drew _, hge, hcm, ?_, ?_⟩⟩ ((below_drew1 w).trans ((below_alloc1 w.drew _)))
  · rw [Array.size_append, Array.size_append, size_zeroCells, show (Value.int IntKind.i64 0).cells.size = 1 from rfl]; simp [hm]; omega
  · simp [hm]
theorem refHeadS_at (ID : Nat) (r : Bool) (L : Nat) (dl : List Int) (m : Nat) (hdl : dl.length = m) (A : Option Addr) (c : Nat) (hID : ID < 2048) (hL : L ≤ 8) (w : World) (h : Row .u8 w w.heap.size A dl) (hb : byteB dl) (hm : m ≤ 1000) (M : Nat) (hM : 8 * m = M) (N : Nat) (hN : 19 + M = N) :
    Calls Tryz.prog 80 #[.agg #[.bool false, .int .i64 ID, .bool r, .int .i64 L, .slice A m c]] w fun e w' => ∃ A' c', e = .returned (.slice A' N c') ∧ Row .i64 w' w'.heap.size A' (headV false ID r L dl) ∧ Below w.heap.size w w' := by
  obtain ⟨i0, hi, hz0, hz1, hz2⟩ := info_parts Tryz.infoInt
  obtain ⟨w0, hw0⟩ : ∃ w0, w.alloc (.cells #[.bool false, .int .i64 ID, .bool r, .int .i64 L, .slice A m c] 34) = w0 := ⟨_, rfl⟩
  have hB0 := below_lits hw0
  have hF0 : w0.heap[w.heap.size]? = some (.cells #[.bool false, .int .i64 ID, .bool r, .int .i64 L, .slice A m c] 34) := by rw [← hw0]; exact World.alloc_heap_new _ _
  have hs0 : w0.heap.size = w.heap.size + 1 := by rw [← hw0]; simp
  have hD0 := h.to hB0
  have o0 := own_lit w0 .i64 [0] 1 rfl 3 (cs := #[.int .i64 0]) rfl (by decide)
  have hF1 : (w0.alloc (.cells #[.int .i64 0] 3)).heap[w.heap.size]? = some (.cells #[.bool false, .int .i64 ID, .bool r, .int .i64 L, .slice A m c] 34) := block_below (below_alloc1 _ _) hF0
  obtain ⟨c0, c1, c2, c3, c4⟩ := cells5' hF1
  rw [hs0] at o0
  rw [← hw0] at c0 c1 c2 c3 c4 o0
  have HW := Lib.hid hw0
  have HS0 := Lib.hid hs0
  have HD := Lib.hid hdl
  have HB := Lib.hid hb
  have HM := Lib.hid hM
  have HN := Lib.hid hN
  clear hw0 hdl hb hM hN hs0
  have hL2 : L < 2 ^ 4 := by omega
  go_enter Tryz.func80, Tryz.ntmps80
  go_wp2_with fail
  refine (refRankS_at ID r L A m c hID _).mono ?_
  rintro e w1 ⟨A1, c1', rfl, hr1, hc1, hB1⟩
  clear hID
  have own1 := own_to o0 hB1
  rw [HW.out] at hB1
  have hF2 : w1.heap[w.heap.size]? = some (.cells #[.bool false, .int .i64 ID, .bool r, .int .i64 L, .slice A m c] 34) := block_below hB1 hF1
  have hs1 : w.heap.size + 1 ≤ w1.heap.size := by have := hB1.size; simp at this; have := HS0.out; omega
  clear c0 c1 c2 c3 c4
  go_wp2_with (at_builtin; refine wpList_append_row _ .i64 rfl _ _ 39 rfl (w.heap.size + 1) 3 i0 (.int .i64 0) 8 Tryz.underlying39 hi hz0 hz1 hz2 rfl _ 1 [0] rfl own1 A1 13 c1' _ (rankS ID r) rfl (rankS_len _ _) hr1 (by decide) (by decide) hs1 ?_; intro A2 c2' w2 hown2 hc2 hB2; have hF3 := (hB2.block w.heap.size (by omega)).trans hF2; obtain ⟨c0, c1, c2, c3, c4⟩ := cells5' hF3)
  have hr2 := Row.own hown2
  have hB2' : Below w0.heap.size w0 w2 := ((below_alloc1 w0 _).trans (hB1.mono (by simp))).trans (hB2.mono (by rw [HS0.out]; exact Nat.le_refl _))
  have hD2 := hD0.to hB2'
  have hBB : Below w.heap.size w w2 := below_then hB0 hB2'
  clear hB1 hB2 hB2' hB0 hown2 own1 o0 hF0 hF1 hF2 hD0 hr1 c0 c1 c2 c3 c4 h
  obtain ⟨l2, hl2⟩ : ∃ l2, ([0] ++ rankS ID r) = l2 := ⟨_, rfl⟩
  have HLn := Lib.hid (show l2.length = 14 by rw [← hl2]; exact (by rw [List.length_append, rankS_len]; rfl))
  rw [hl2] at hr2
  have HL2 := Lib.hid hl2
  clear hl2
  go_region_held3 (fun W => W.cell? ⟨w.heap.size, 0, none⟩ = some (.bool false) ∧ W.cell? ⟨w.heap.size, 1, none⟩ = some (.int .i64 ID) ∧ W.cell? ⟨w.heap.size, 2, none⟩ = some (.bool r) ∧ W.cell? ⟨w.heap.size, 3, none⟩ = some (.int .i64 L) ∧ W.cell? ⟨w.heap.size, 4, none⟩ = some (.slice A m c))
    (exact cells5' (by repeat (first | assumption | exact Below.refl _ _ | ((with_reducible refine lit2 _ _ _ _ _ ?_); (first | (with_reducible rfl) | (simp; done))) | ((with_reducible refine lit1 _ _ _ _ ?_); (first | (with_reducible rfl) | (simp; done))) | refine row_step (by first | assumption | exact below_alloc1 _ _ | exact below_drew1 _ | exact below_drewN0 _ _) ?_ | refine block_below (by first | assumption | exact below_alloc1 _ _ | exact below_drew1 _ | exact below_drewN0 _ _) ?_ | refine below_then ?_ (by first | assumption | exact below_alloc1 _ _ | exact below_drew1 _ | exact below_drewN0 _ _))))
    (first
      | (go_at_call 56; have hq_ := hr3; clear hq_; refine (refFrPut_at (l2 ++ bitRow 0 1 1) 15 (by rw [List.length_append, bitRow_len, HLn.out]) A3 c3' (L : Int) L 4 rfl (by omega) hL2 (by omega) _ (by repeat (first | assumption | exact Below.refl _ _ | ((with_reducible refine lit2 _ _ _ _ _ ?_); (first | (with_reducible rfl) | (simp; done))) | ((with_reducible refine lit1 _ _ _ _ ?_); (first | (with_reducible rfl) | (simp; done))) | refine row_step (by first | assumption | exact below_alloc1 _ _ | exact below_drew1 _ | exact below_drewN0 _ _) ?_ | refine block_below (by first | assumption | exact below_alloc1 _ _ | exact below_drew1 _ | exact below_drewN0 _ _) ?_ | refine below_then ?_ (by first | assumption | exact below_alloc1 _ _ | exact below_drew1 _ | exact below_drewN0 _ _))) 19 rfl).mono ?_; rintro e w4 ⟨A4, c4', rfl, hr4, hc4, hB4⟩)
      | (go_at_call 56; refine (refFrPut_at l2 14 HLn.out A2 c2' 0 0 1 rfl (by omega) (by omega) (by omega) _ (by repeat (first | assumption | exact Below.refl _ _ | ((with_reducible refine lit2 _ _ _ _ _ ?_); (first | (with_reducible rfl) | (simp; done))) | ((with_reducible refine lit1 _ _ _ _ ?_); (first | (with_reducible rfl) | (simp; done))) | refine row_step (by first | assumption | exact below_alloc1 _ _ | exact below_drew1 _ | exact below_drewN0 _ _) ?_ | refine block_below (by first | assumption | exact below_alloc1 _ _ | exact below_drew1 _ | exact below_drewN0 _ _) ?_ | refine below_then ?_ (by first | assumption | exact below_alloc1 _ _ | exact below_drew1 _ | exact below_drewN0 _ _))) 15 rfl).mono ?_; rintro e w3 ⟨A3, c3', rfl, hr3, hc3, hB3⟩))
  have hF5 : w4.heap[w.heap.size]? = some (.cells #[.bool false, .int .i64 ID, .bool r, .int .i64 L, .slice A m c] 34) := by repeat (first | assumption | exact Below.refl _ _ | ((with_reducible refine lit2 _ _ _ _ _ ?_); (first | (with_reducible rfl) | (simp; done))) | ((with_reducible refine lit1 _ _ _ _ ?_); (first | (with_reducible rfl) | (simp; done))) | refine row_step (by first | assumption | exact below_alloc1 _ _ | exact below_drew1 _ | exact below_drewN0 _ _) ?_ | refine block_below (by first | assumption | exact below_alloc1 _ _ | exact below_drew1 _ | exact below_drewN0 _ _) ?_ | refine below_then ?_ (by first | assumption | exact below_alloc1 _ _ | exact below_drew1 _ | exact below_drewN0 _ _))
  have hD5 : Row .u8 w4 w4.heap.size A dl := by repeat (first | assumption | exact Below.refl _ _ | ((with_reducible refine lit2 _ _ _ _ _ ?_); (first | (with_reducible rfl) | (simp; done))) | ((with_reducible refine lit1 _ _ _ _ ?_); (first | (with_reducible rfl) | (simp; done))) | refine row_step (by first | assumption | exact below_alloc1 _ _ | exact below_drew1 _ | exact below_drewN0 _ _) ?_ | refine block_below (by first | assumption | exact below_alloc1 _ _ | exact below_drew1 _ | exact below_drewN0 _ _) ?_ | refine below_then ?_ (by first | assumption | exact below_alloc1 _ _ | exact below_drew1 _ | exact below_drewN0 _ _))
  have hBB5 : Below w.heap.size w w4 := by repeat (first | assumption | exact Below.refl _ _ | ((with_reducible refine lit2 _ _ _ _ _ ?_); (first | (with_reducible rfl) | (simp; done))) | ((with_reducible refine lit1 _ _ _ _ ?_); (first | (with_reducible rfl) | (simp; done))) | refine row_step (by first | assumption | exact below_alloc1 _ _ | exact below_drew1 _ | exact below_drewN0 _ _) ?_ | refine block_below (by first | assumption | exact below_alloc1 _ _ | exact below_drew1 _ | exact below_drewN0 _ _) ?_ | refine below_then ?_ (by first | assumption | exact below_alloc1 _ _ | exact below_drew1 _ | exact below_drewN0 _ _))
  have hl4 : (l2 ++ bitRow 0 1 1 ++ bitRow L 4 4).length = 19 := by rw [List.length_append, List.length_append, bitRow_len, bitRow_len, HLn.out]
  have HL4 := Lib.hid hl4
  have hlt4 : w.heap.size < w4.heap.size := (Array.getElem?_eq_some_iff.1 hF5).1
  have hM2 : M ≤ 8000 := by rw [← HM.out]; omega
  clear hl4 hB3 hB4 hr3 hBB
  go_wp2_with fail
  go_region_held3 (fun W => W.cell? ⟨w.heap.size, 0, none⟩ = some (.bool false) ∧ W.cell? ⟨w.heap.size, 1, none⟩ = some (.int .i64 ID) ∧ W.cell? ⟨w.heap.size, 2, none⟩ = some (.bool r) ∧ W.cell? ⟨w.heap.size, 3, none⟩ = some (.int .i64 L) ∧ W.cell? ⟨w.heap.size, 4, none⟩ = some (.slice A m c))
    (exact cells5' (by repeat (first | assumption | exact Below.refl _ _ | ((with_reducible refine lit2 _ _ _ _ _ ?_); (first | (with_reducible rfl) | (simp; done))) | ((with_reducible refine lit1 _ _ _ _ ?_); (first | (with_reducible rfl) | (simp; done))) | refine row_step (by first | assumption | exact below_alloc1 _ _ | exact below_drew1 _ | exact below_drewN0 _ _) ?_ | refine block_below (by first | assumption | exact below_alloc1 _ _ | exact below_drew1 _ | exact below_drewN0 _ _) ?_ | refine below_then ?_ (by first | assumption | exact below_alloc1 _ _ | exact below_drew1 _ | exact below_drewN0 _ _))))
    (first
      | (go_at_call 99; refine (refSpread_ex dl m HD.out A c _ (by repeat (first | assumption | exact Below.refl _ _ | ((with_reducible refine lit2 _ _ _ _ _ ?_); (first | (with_reducible rfl) | (simp; done))) | ((with_reducible refine lit1 _ _ _ _ ?_); (first | (with_reducible rfl) | (simp; done))) | refine row_step (by first | assumption | exact below_alloc1 _ _ | exact below_drew1 _ | exact below_drewN0 _ _) ?_ | refine block_below (by first | assumption | exact below_alloc1 _ _ | exact below_drew1 _ | exact below_drewN0 _ _) ?_ | refine below_then ?_ (by first | assumption | exact below_alloc1 _ _ | exact below_drew1 _ | exact below_drewN0 _ _))) HB.out (by omega) M HM.out).mono ?_; rintro e w6 ⟨A6, c6, rfl, hr6, hB6⟩)
      | (have hq_ := own7; clear hq_; (refine step_append_row .i64 rfl _ _ 39 rfl _ 3 i0 (.int .i64 0) 8 Tryz.underlying39 hi hz0 hz1 hz2 rfl _ 19 (l2 ++ bitRow 0 1 1 ++ bitRow L 4 4) rfl (own_to own7 (by repeat (first | assumption | exact Below.refl _ _ | ((with_reducible refine lit2 _ _ _ _ _ ?_); (first | (with_reducible rfl) | (simp; done))) | ((with_reducible refine lit1 _ _ _ _ ?_); (first | (with_reducible rfl) | (simp; done))) | refine row_step (by first | assumption | exact below_alloc1 _ _ | exact below_drew1 _ | exact below_drewN0 _ _) ?_ | refine block_below (by first | assumption | exact below_alloc1 _ _ | exact below_drew1 _ | exact below_drewN0 _ _) ?_ | refine below_then ?_ (by first | assumption | exact below_alloc1 _ _ | exact below_drew1 _ | exact below_drewN0 _ _)))) A6 M c6 _ (spreadL dl) rfl (by rw [spreadL_len, HD.out, HM.out]) (show Row .i64 _ _ A6 (spreadL dl) by repeat (first | assumption | exact Below.refl _ _ | ((with_reducible refine lit2 _ _ _ _ _ ?_); (first | (with_reducible rfl) | (simp; done))) | ((with_reducible refine lit1 _ _ _ _ ?_); (first | (with_reducible rfl) | (simp; done))) | refine row_step (by first | assumption | exact below_alloc1 _ _ | exact below_drew1 _ | exact below_drewN0 _ _) ?_ | refine block_below (by first | assumption | exact below_alloc1 _ _ | exact below_drew1 _ | exact below_drewN0 _ _) ?_ | refine below_then ?_ (by first | assumption | exact below_alloc1 _ _ | exact below_drew1 _ | exact below_drewN0 _ _))) (by unfold maxLen; omega) (by omega) (by have h1 := hB7.size; have h2 := hB6.size; (try simp at h1); (try simp at h2); (first | omega | (simp; omega))) ?_; intro A8 c8 w8 own8 hc8 hB8; have hF8 : w8.heap[w.heap.size]? = some (.cells #[.bool false, .int .i64 ID, .bool r, .int .i64 L, .slice A m c] 34) := (hB8.block w.heap.size (by first | omega | (simp; omega))).trans (by repeat (first | assumption | exact Below.refl _ _ | ((with_reducible refine lit2 _ _ _ _ _ ?_); (first | (with_reducible rfl) | (simp; done))) | ((with_reducible refine lit1 _ _ _ _ ?_); (first | (with_reducible rfl) | (simp; done))) | refine row_step (by first | assumption | exact below_alloc1 _ _ | exact below_drew1 _ | exact below_drewN0 _ _) ?_ | refine block_below (by first | assumption | exact below_alloc1 _ _ | exact below_drew1 _ | exact below_drewN0 _ _) ?_ | refine below_then ?_ (by first | assumption | exact below_alloc1 _ _ | exact below_drew1 _ | exact below_drewN0 _ _)))))
      | (refine step_append_new rfl _ _ rfl i0 hi hz0 hz1 hz2 _ rfl A4 19 c4' (l2 ++ bitRow 0 1 1 ++ bitRow L 4 4) rfl HL4.out (by repeat (first | assumption | exact Below.refl _ _ | ((with_reducible refine lit2 _ _ _ _ _ ?_); (first | (with_reducible rfl) | (simp; done))) | ((with_reducible refine lit1 _ _ _ _ ?_); (first | (with_reducible rfl) | (simp; done))) | refine row_step (by first | assumption | exact below_alloc1 _ _ | exact below_drew1 _ | exact below_drewN0 _ _) ?_ | refine block_below (by first | assumption | exact below_alloc1 _ _ | exact below_drew1 _ | exact below_drewN0 _ _) ?_ | refine below_then ?_ (by first | assumption | exact below_alloc1 _ _ | exact below_drew1 _ | exact below_drewN0 _ _))) (by omega) (by omega) ?_; intro A7 c7 w7 own7 hB7))
  all_goals
    go_wp2_with fail
    go_ret
    refine ⟨A8, c8, by rw [← HN.out]; rfl, ?_, ?_⟩
    · have hrf := Row.own own8
      rw [← HL2.out] at hrf
      have e : headV false ID r L dl = ([0] ++ rankS ID r) ++ bitRow 0 1 1 ++ bitRow L 4 4 ++ spreadL dl := by simp [headV, bits_0]
      rw [e]
      exact hrf
    · refine Below.trans (b := _) ?_ (hB8.mono (by first | omega | (simp; omega)))
      exact hBB5.trans (Below.mono (B := w4.heap.size) (by repeat (first | assumption | exact Below.refl _ _ | ((with_reducible refine lit2 _ _ _ _ _ ?_); (first | (with_reducible rfl) | (simp; done))) | ((with_reducible refine lit1 _ _ _ _ ?_); (first | (with_reducible rfl) | (simp; done))) | refine row_step (by first | assumption | exact below_alloc1 _ _ | exact below_drew1 _ | exact below_drewN0 _ _) ?_ | refine block_below (by first | assumption | exact below_alloc1 _ _ | exact below_drew1 _ | exact below_drewN0 _ _) ?_ | refine below_then ?_ (by first | assumption | exact below_alloc1 _ _ | exact below_drew1 _ | exact below_drewN0 _ _))) hBB5.size)
theorem refHeadX_at (ID : Nat) (r : Bool) (L : Nat) (dl : List Int) (m : Nat) (hdl : dl.length = m) (A : Option Addr) (c : Nat) (hID : ID < 536870912) (hL : L ≤ 8) (w : World) (h : Row .u8 w w.heap.size A dl) (hb : byteB dl) (hm : m ≤ 1000) (M : Nat) (hM : 8 * m = M) (N : Nat) (hN : 39 + M = N) :
    Calls Tryz.prog 80 #[.agg #[.bool true, .int .i64 ID, .bool r, .int .i64 L, .slice A m c]] w fun e w' => ∃ A' c', e = .returned (.slice A' N c') ∧ Row .i64 w' w'.heap.size A' (headV true ID r L dl) ∧ Below w.heap.size w w' := by
  obtain ⟨i0, hi, hz0, hz1, hz2⟩ := info_parts Tryz.infoInt
  obtain ⟨w0, hw0⟩ : ∃ w0, w.alloc (.cells #[.bool true, .int .i64 ID, .bool r, .int .i64 L, .slice A m c] 34) = w0 := ⟨_, rfl⟩
  have hB0 := below_lits hw0
  have hF0 : w0.heap[w.heap.size]? = some (.cells #[.bool true, .int .i64 ID, .bool r, .int .i64 L, .slice A m c] 34) := by rw [← hw0]; exact World.alloc_heap_new _ _
  have hs0 : w0.heap.size = w.heap.size + 1 := by rw [← hw0]; simp
  have hD0 := h.to hB0
  have o0 := own_lit w0 .i64 [0] 1 rfl 3 (cs := #[.int .i64 0]) rfl (by decide)
  have hF1 : (w0.alloc (.cells #[.int .i64 0] 3)).heap[w.heap.size]? = some (.cells #[.bool true, .int .i64 ID, .bool r, .int .i64 L, .slice A m c] 34) := block_below (below_alloc1 _ _) hF0
  obtain ⟨c0, c1, c2, c3, c4⟩ := cells5' hF1
  rw [hs0] at o0
  rw [← hw0] at c0 c1 c2 c3 c4 o0
  have HW := Lib.hid hw0
  have HS0 := Lib.hid hs0
  have HD := Lib.hid hdl
  have HB := Lib.hid hb
  have HM := Lib.hid hM
  have HN := Lib.hid hN
  clear hw0 hdl hb hM hN hs0
  have hL2 : L < 2 ^ 4 := by omega
  go_enter Tryz.func80, Tryz.ntmps80
  go_wp2_with fail
  refine (refRankX_at ID r L A m c hID _).mono ?_
  rintro e w1 ⟨A1, c1', rfl, hr1, hc1, hB1⟩
  clear hID
  have own1 := own_to o0 hB1
  rw [HW.out] at hB1
  have hF2 : w1.heap[w.heap.size]? = some (.cells #[.bool true, .int .i64 ID, .bool r, .int .i64 L, .slice A m c] 34) := block_below hB1 hF1
  have hs1 : w.heap.size + 1 ≤ w1.heap.size := by have := hB1.size; simp at this; have := HS0.out; omega
  clear c0 c1 c2 c3 c4
  go_wp2_with (at_builtin; refine wpList_append_row _ .i64 rfl _ _ 39 rfl (w.heap.size + 1) 3 i0 (.int .i64 0) 8 Tryz.underlying39 hi hz0 hz1 hz2 rfl _ 1 [0] rfl own1 A1 32 c1' _ (rankX ID r) rfl (rankX_len _ _) hr1 (by decide) (by decide) hs1 ?_; intro A2 c2' w2 hown2 hc2 hB2; have hF3 := (hB2.block w.heap.size (by omega)).trans hF2; obtain ⟨c0, c1, c2, c3, c4⟩ := cells5' hF3)
  have hr2 := Row.own hown2
  have hB2' : Below w0.heap.size w0 w2 := ((below_alloc1 w0 _).trans (hB1.mono (by simp))).trans (hB2.mono (by rw [HS0.out]; exact Nat.le_refl _))
  have hD2 := hD0.to hB2'
  have hBB : Below w.heap.size w w2 := below_then hB0 hB2'
  clear hB1 hB2 hB2' hB0 hown2 own1 o0 hF0 hF1 hF2 hD0 hr1 c0 c1 c2 c3 c4 h
  refine (refFrPut_at ([0] ++ rankX ID r) 33 (by rw [List.length_append, rankX_len]; rfl) A2 c2' 0 0 1 rfl (by omega) (by omega) (by omega) _ hr2 34 rfl).mono ?_
  rintro e w2a ⟨A2a, c2a, rfl, hr2a, hc2a, hB2a⟩
  have hF3a := block_below hB2a hF3
  have hD2a := hD2.to hB2a
  have hBBa := below_then hBB hB2a
  clear hBB hB2a hD2 hF3 hr2
  go_wp2_with fail
  obtain ⟨l2, hl2⟩ : ∃ l2, ([0] ++ rankX ID r ++ bitRow 0 1 1) = l2 := ⟨_, rfl⟩
  have HLn := Lib.hid (show l2.length = 34 by rw [← hl2]; exact (by simp only [List.length_append, rankX_len, bitRow_len]; rfl))
  rw [hl2] at hr2a
  have HL2 := Lib.hid hl2
  clear hl2
  go_region_held3 (fun W => W.cell? ⟨w.heap.size, 0, none⟩ = some (.bool true) ∧ W.cell? ⟨w.heap.size, 1, none⟩ = some (.int .i64 ID) ∧ W.cell? ⟨w.heap.size, 2, none⟩ = some (.bool r) ∧ W.cell? ⟨w.heap.size, 3, none⟩ = some (.int .i64 L) ∧ W.cell? ⟨w.heap.size, 4, none⟩ = some (.slice A m c))
    (exact cells5' (by repeat (first | assumption | exact Below.refl _ _ | ((with_reducible refine lit2 _ _ _ _ _ ?_); (first | (with_reducible rfl) | (simp; done))) | ((with_reducible refine lit1 _ _ _ _ ?_); (first | (with_reducible rfl) | (simp; done))) | refine row_step (by first | assumption | exact below_alloc1 _ _ | exact below_drew1 _ | exact below_drewN0 _ _) ?_ | refine block_below (by first | assumption | exact below_alloc1 _ _ | exact below_drew1 _ | exact below_drewN0 _ _) ?_ | refine below_then ?_ (by first | assumption | exact below_alloc1 _ _ | exact below_drew1 _ | exact below_drewN0 _ _))))
    (first
      | (go_at_call 56; have hq_ := hr3; clear hq_; refine (refFrPut_at (l2 ++ bitRow 0 1 1) 35 (by rw [List.length_append, bitRow_len, HLn.out]) A3 c3' (L : Int) L 4 rfl (by omega) hL2 (by omega) _ (by repeat (first | assumption | exact Below.refl _ _ | ((with_reducible refine lit2 _ _ _ _ _ ?_); (first | (with_reducible rfl) | (simp; done))) | ((with_reducible refine lit1 _ _ _ _ ?_); (first | (with_reducible rfl) | (simp; done))) | refine row_step (by first | assumption | exact below_alloc1 _ _ | exact below_drew1 _ | exact below_drewN0 _ _) ?_ | refine block_below (by first | assumption | exact below_alloc1 _ _ | exact below_drew1 _ | exact below_drewN0 _ _) ?_ | refine below_then ?_ (by first | assumption | exact below_alloc1 _ _ | exact below_drew1 _ | exact below_drewN0 _ _))) 39 rfl).mono ?_; rintro e w4 ⟨A4, c4', rfl, hr4, hc4, hB4⟩)
      | (go_at_call 56; refine (refFrPut_at l2 34 HLn.out A2a c2a 0 0 1 rfl (by omega) (by omega) (by omega) _ (by repeat (first | assumption | exact Below.refl _ _ | ((with_reducible refine lit2 _ _ _ _ _ ?_); (first | (with_reducible rfl) | (simp; done))) | ((with_reducible refine lit1 _ _ _ _ ?_); (first | (with_reducible rfl) | (simp; done))) | refine row_step (by first | assumption | exact below_alloc1 _ _ | exact below_drew1 _ | exact below_drewN0 _ _) ?_ | refine block_below (by first | assumption | exact below_alloc1 _ _ | exact below_drew1 _ | exact below_drewN0 _ _) ?_ | refine below_then ?_ (by first | assumption | exact below_alloc1 _ _ | exact below_drew1 _ | exact below_drewN0 _ _))) 35 rfl).mono ?_; rintro e w3 ⟨A3, c3', rfl, hr3, hc3, hB3⟩))
  have hF5 : w4.heap[w.heap.size]? = some (.cells #[.bool true, .int .i64 ID, .bool r, .int .i64 L, .slice A m c] 34) := by repeat (first | assumption | exact Below.refl _ _ | ((with_reducible refine lit2 _ _ _ _ _ ?_); (first | (with_reducible rfl) | (simp; done))) | ((with_reducible refine lit1 _ _ _ _ ?_); (first | (with_reducible rfl) | (simp; done))) | refine row_step (by first | assumption | exact below_alloc1 _ _ | exact below_drew1 _ | exact below_drewN0 _ _) ?_ | refine block_below (by first | assumption | exact below_alloc1 _ _ | exact below_drew1 _ | exact below_drewN0 _ _) ?_ | refine below_then ?_ (by first | assumption | exact below_alloc1 _ _ | exact below_drew1 _ | exact below_drewN0 _ _))
  have hD5 : Row .u8 w4 w4.heap.size A dl := by repeat (first | assumption | exact Below.refl _ _ | ((with_reducible refine lit2 _ _ _ _ _ ?_); (first | (with_reducible rfl) | (simp; done))) | ((with_reducible refine lit1 _ _ _ _ ?_); (first | (with_reducible rfl) | (simp; done))) | refine row_step (by first | assumption | exact below_alloc1 _ _ | exact below_drew1 _ | exact below_drewN0 _ _) ?_ | refine block_below (by first | assumption | exact below_alloc1 _ _ | exact below_drew1 _ | exact below_drewN0 _ _) ?_ | refine below_then ?_ (by first | assumption | exact below_alloc1 _ _ | exact below_drew1 _ | exact below_drewN0 _ _))
  have hBB5 : Below w.heap.size w w4 := by repeat (first | assumption | exact Below.refl _ _ | ((with_reducible refine lit2 _ _ _ _ _ ?_); (first | (with_reducible rfl) | (simp; done))) | ((with_reducible refine lit1 _ _ _ _ ?_); (first | (with_reducible rfl) | (simp; done))) | refine row_step (by first | assumption | exact below_alloc1 _ _ | exact below_drew1 _ | exact below_drewN0 _ _) ?_ | refine block_below (by first | assumption | exact below_alloc1 _ _ | exact below_drew1 _ | exact below_drewN0 _ _) ?_ | refine below_then ?_ (by first | assumption | exact below_alloc1 _ _ | exact below_drew1 _ | exact below_drewN0 _ _))
  have hl4 : (l2 ++ bitRow 0 1 1 ++ bitRow L 4 4).length = 39 := by rw [List.length_append, List.length_append, bitRow_len, bitRow_len, HLn.out]
  have HL4 := Lib.hid hl4
  have hlt4 : w.heap.size < w4.heap.size := (Array.getElem?_eq_some_iff.1 hF5).1
  have hM2 : M ≤ 8000 := by rw [← HM.out]; omega
  clear hl4 hB3 hB4 hr3 hBBa
  go_wp2_with fail
  go_region_held3 (fun W => W.cell? ⟨w.heap.size, 0, none⟩ = some (.bool true) ∧ W.cell? ⟨w.heap.size, 1, none⟩ = some (.int .i64 ID) ∧ W.cell? ⟨w.heap.size, 2, none⟩ = some (.bool r) ∧ W.cell? ⟨w.heap.size, 3, none⟩ = some (.int .i64 L) ∧ W.cell? ⟨w.heap.size, 4, none⟩ = some (.slice A m c))
    (exact cells5' (by repeat (first | assumption | exact Below.refl _ _ | ((with_reducible refine lit2 _ _ _ _ _ ?_); (first | (with_reducible rfl) | (simp; done))) | ((with_reducible refine lit1 _ _ _ _ ?_); (first | (with_reducible rfl) | (simp; done))) | refine row_step (by first | assumption | exact below_alloc1 _ _ | exact below_drew1 _ | exact below_drewN0 _ _) ?_ | refine block_below (by first | assumption | exact below_alloc1 _ _ | exact below_drew1 _ | exact below_drewN0 _ _) ?_ | refine below_then ?_ (by first | assumption | exact below_alloc1 _ _ | exact below_drew1 _ | exact below_drewN0 _ _))))
    (first
      | (go_at_call 99; refine (refSpread_ex dl m HD.out A c _ (by repeat (first | assumption | exact Below.refl _ _ | ((with_reducible refine lit2 _ _ _ _ _ ?_); (first | (with_reducible rfl) | (simp; done))) | ((with_reducible refine lit1 _ _ _ _ ?_); (first | (with_reducible rfl) | (simp; done))) | refine row_step (by first | assumption | exact below_alloc1 _ _ | exact below_drew1 _ | exact below_drewN0 _ _) ?_ | refine block_below (by first | assumption | exact below_alloc1 _ _ | exact below_drew1 _ | exact below_drewN0 _ _) ?_ | refine below_then ?_ (by first | assumption | exact below_alloc1 _ _ | exact below_drew1 _ | exact below_drewN0 _ _))) HB.out (by omega) M HM.out).mono ?_; rintro e w6 ⟨A6, c6, rfl, hr6, hB6⟩)
      | (have hq_ := own7; clear hq_; (refine step_append_row .i64 rfl _ _ 39 rfl _ 3 i0 (.int .i64 0) 8 Tryz.underlying39 hi hz0 hz1 hz2 rfl _ 39 (l2 ++ bitRow 0 1 1 ++ bitRow L 4 4) rfl (own_to own7 (by repeat (first | assumption | exact Below.refl _ _ | ((with_reducible refine lit2 _ _ _ _ _ ?_); (first | (with_reducible rfl) | (simp; done))) | ((with_reducible refine lit1 _ _ _ _ ?_); (first | (with_reducible rfl) | (simp; done))) | refine row_step (by first | assumption | exact below_alloc1 _ _ | exact below_drew1 _ | exact below_drewN0 _ _) ?_ | refine block_below (by first | assumption | exact below_alloc1 _ _ | exact below_drew1 _ | exact below_drewN0 _ _) ?_ | refine below_then ?_ (by first | assumption | exact below_alloc1 _ _ | exact below_drew1 _ | exact below_drewN0 _ _)))) A6 M c6 _ (spreadL dl) rfl (by rw [spreadL_len, HD.out, HM.out]) (show Row .i64 _ _ A6 (spreadL dl) by repeat (first | assumption | exact Below.refl _ _ | ((with_reducible refine lit2 _ _ _ _ _ ?_); (first | (with_reducible rfl) | (simp; done))) | ((with_reducible refine lit1 _ _ _ _ ?_); (first | (with_reducible rfl) | (simp; done))) | refine row_step (by first | assumption | exact below_alloc1 _ _ | exact below_drew1 _ | exact below_drewN0 _ _) ?_ | refine block_below (by first | assumption | exact below_alloc1 _ _ | exact below_drew1 _ | exact below_drewN0 _ _) ?_ | refine below_then ?_ (by first | assumption | exact below_alloc1 _ _ | exact below_drew1 _ | exact below_drewN0 _ _))) (by unfold maxLen; omega) (by omega) (by have h1 := hB7.size; have h2 := hB6.size; (try simp at h1); (try simp at h2); (first | omega | (simp; omega))) ?_; intro A8 c8 w8 own8 hc8 hB8; have hF8 : w8.heap[w.heap.size]? = some (.cells #[.bool true, .int .i64 ID, .bool r, .int .i64 L, .slice A m c] 34) := (hB8.block w.heap.size (by first | omega | (simp; omega))).trans (by repeat (first | assumption | exact Below.refl _ _ | ((with_reducible refine lit2 _ _ _ _ _ ?_); (first | (with_reducible rfl) | (simp; done))) | ((with_reducible refine lit1 _ _ _ _ ?_); (first | (with_reducible rfl) | (simp; done))) | refine row_step (by first | assumption | exact below_alloc1 _ _ | exact below_drew1 _ | exact below_drewN0 _ _) ?_ | refine block_below (by first | assumption | exact below_alloc1 _ _ | exact below_drew1 _ | exact below_drewN0 _ _) ?_ | refine below_then ?_ (by first | assumption | exact below_alloc1 _ _ | exact below_drew1 _ | exact below_drewN0 _ _)))))
      | (refine step_append_new rfl _ _ rfl i0 hi hz0 hz1 hz2 _ rfl A4 39 c4' (l2 ++ bitRow 0 1 1 ++ bitRow L 4 4) rfl HL4.out (by repeat (first | assumption | exact Below.refl _ _ | ((with_reducible refine lit2 _ _ _ _ _ ?_); (first | (with_reducible rfl) | (simp; done))) | ((with_reducible refine lit1 _ _ _ _ ?_); (first | (with_reducible rfl) | (simp; done))) | refine row_step (by first | assumption | exact below_alloc1 _ _ | exact below_drew1 _ | exact below_drewN0 _ _) ?_ | refine block_below (by first | assumption | exact below_alloc1 _ _ | exact below_drew1 _ | exact below_drewN0 _ _) ?_ | refine below_then ?_ (by first | assumption | exact below_alloc1 _ _ | exact below_drew1 _ | exact below_drewN0 _ _))) (by omega) (by omega) ?_; intro A7 c7 w7 own7 hB7))
  all_goals
    go_wp2_with fail
    go_ret
    refine ⟨A8, c8, by rw [← HN.out]; rfl, ?_, ?_⟩
    · have hrf := Row.own own8
      rw [← HL2.out] at hrf
      have e : headV true ID r L dl = ([0] ++ rankX ID r ++ bitRow 0 1 1) ++ bitRow 0 1 1 ++ bitRow L 4 4 ++ spreadL dl := by simp [headV, bits_0]
      rw [e]
      exact hrf
    · refine Below.trans (b := _) ?_ (hB8.mono (by first | omega | (simp; omega)))
      exact hBB5.trans (Below.mono (B := w4.heap.size) (by repeat (first | assumption | exact Below.refl _ _ | ((with_reducible refine lit2 _ _ _ _ _ ?_); (first | (with_reducible rfl) | (simp; done))) | ((with_reducible refine lit1 _ _ _ _ ?_); (first | (with_reducible rfl) | (simp; done))) | refine row_step (by first | assumption | exact below_alloc1 _ _ | exact below_drew1 _ | exact below_drewN0 _ _) ?_ | refine block_below (by first | assumption | exact below_alloc1 _ _ | exact below_drew1 _ | exact below_drewN0 _ _) ?_ | refine below_then ?_ (by first | assumption | exact below_alloc1 _ _ | exact below_drew1 _ | exact below_drewN0 _ _))) hBB5.size)
end Go.Proofs.YtcifjccojmfpaaaGreat

namespace Go.Proofs.YtcifjccojmfpaaaGreat
open Go.RowKit
set_option linter.unusedVariables false
set_option linter.unusedSimpArgs false
def fresh (B : Nat) (A : Option Addr) : Prop := ∀ ad, A = some ad → B ≤ ad.block
theorem fresh.mono {B B' : Nat} {A : Option Addr} (h : fresh B A) (hB : B' ≤ B) : fresh B' A := fun ad e => Nat.le_trans hB (h ad e)
theorem fresh_own {w : World} {base : Nat} {e : TypeId} {size : Nat} {A : Option Addr} {m c n : Nat} {xs : List Value} (h : w.ownsRow base e size (.slice A m c) n xs) : fresh base A := by
  intro ad hA
  rcases h.2 with ⟨e1, _⟩ | ⟨g, cap, cur, e1, hb, _⟩
  · injection e1 with e1; rw [e1] at hA; cases hA
  · injection e1 with e1; rw [e1] at hA; obtain rfl := Option.some.inj hA; exact hb
theorem concat4_new (A1 A2 A3 A4 : Option Addr) (n1 n2 n3 n4 c1 c2 c3 c4 : Nat) (l1 l2 l3 l4 : List Int) (e1 : l1.length = n1) (e2 : l2.length = n2) (e3 : l3.length = n3) (e4 : l4.length = n4) (W : World) (t : TypeId)
    (h1 : Row .i64 W W.heap.size A1 l1) (h2 : Row .i64 W W.heap.size A2 l2) (h3 : Row .i64 W W.heap.size A3 l3) (h4 : Row .i64 W W.heap.size A4 l4) (N : Nat) (hN : n1 + (n2 + (n3 + n4)) = N) (hN2 : N ≤ 100000) {S : Nat} (hS : S = W.heap.size) :
    Calls Tryz.prog 88 #[.slice (some ⟨S, 0, none⟩) 4 4] (W.alloc (.cells #[.slice A1 n1 c1, .slice A2 n2 c2, .slice A3 n3 c3, .slice A4 n4 c4] t)) fun e w' =>
      ∃ A c, e = .returned (.slice A N c) ∧ Row .i64 w' w'.heap.size A (l1 ++ (l2 ++ (l3 ++ l4))) ∧ N ≤ c ∧ Below W.heap.size W w' ∧ fresh W.heap.size A := by
  subst e1 e2 e3 e4 hN hS
  refine (concat_at [(.slice A1 l1.length c1, l1), (.slice A2 l2.length c2, l2), (.slice A3 l3.length c3, l3), (.slice A4 l4.length c4, l4)] 4 rfl _ 4 _ (Parts.lit W _ t rfl ?_) (by omega) _ (by simp [cat]) hN2 (by omega)).mono ?_
  · intro p hp
    simp only [List.mem_cons, List.not_mem_nil, or_false] at hp
    rcases hp with rfl | rfl | rfl | rfl
    · exact ⟨_, _, rfl, h1⟩
    · exact ⟨_, _, rfl, h2⟩
    · exact ⟨_, _, rfl, h3⟩
    · exact ⟨_, _, rfl, h4⟩
  · rintro e w' ⟨A, c, rfl, hown, hB⟩
    have hr := Row.own hown
    simp only [cat, List.flatMap_cons, List.flatMap_nil, List.append_nil] at hr
    exact ⟨A, c, rfl, hr, own_cap hown, below_lit hB, (fresh_own hown).mono (by simp)⟩
theorem rankS_new (ID : Nat) (r : Bool) (n : Int) (A : Option Addr) (m c : Nat) (hID : ID < 2048) (w : World) :
    Calls Tryz.prog 66 #[.agg #[.bool false, .int .i64 ID, .bool r, .int .i64 n, .slice A m c]] w fun e w' => ∃ A' c', e = .returned (.slice A' 13 c') ∧ Row .i64 w' w'.heap.size A' (rankS ID r) ∧ 13 ≤ c' ∧ Below w.heap.size w w' ∧ fresh w.heap.size A' := by
  obtain ⟨i0, hi, hz0, hz1, hz2⟩ := info_parts Tryz.infoInt
  obtain ⟨w0, hw0⟩ : ∃ w0, w.alloc (.cells #[.bool false, .int .i64 ID, .bool r, .int .i64 n, .slice A m c] 34) = w0 := ⟨_, rfl⟩
  have hB0 := below_lits hw0
  have hF0 : w0.heap[w.heap.size]? = some (.cells #[.bool false, .int .i64 ID, .bool r, .int .i64 n, .slice A m c] 34) := by rw [← hw0]; exact World.alloc_heap_new _ _
  have hlt0 : w.heap.size < w0.heap.size := (Array.getElem?_eq_some_iff.1 hF0).1
  have HW := Lib.hid hw0
  clear hw0
  go_enter Tryz.func66, Tryz.ntmps66
  go_wp2_with fail
  rw [HW.out]
  go_region_held3 (fun W => W.cell? ⟨w.heap.size, 0, none⟩ = some (.bool false) ∧ W.cell? ⟨w.heap.size, 1, none⟩ = some (.int .i64 ID) ∧ W.cell? ⟨w.heap.size, 2, none⟩ = some (.bool r) ∧ W.cell? ⟨w.heap.size, 3, none⟩ = some (.int .i64 n) ∧ W.cell? ⟨w.heap.size, 4, none⟩ = some (.slice A m c))
    (exact cells5' (by repeat (first | assumption | exact Below.refl _ _ | ((with_reducible refine lit2 _ _ _ _ _ ?_); (first | (with_reducible rfl) | (simp; done))) | ((with_reducible refine lit1 _ _ _ _ ?_); (first | (with_reducible rfl) | (simp; done))) | refine row_step (by first | assumption | exact below_alloc1 _ _ | exact below_drew1 _ | exact below_drewN0 _ _) ?_ | refine block_below (by first | assumption | exact below_alloc1 _ _ | exact below_drew1 _ | exact below_drewN0 _ _) ?_ | refine below_then ?_ (by first | assumption | exact below_alloc1 _ _ | exact below_drew1 _ | exact below_drewN0 _ _))))
    (first
      | (go_at_call 86; refine (frPut_at _ ID 11 rfl (by omega) (by omega) _).mono ?_; rintro e w1 ⟨rfl, hown1, hB1⟩)
      | (go_at_call 87; refine (bitOf_at r _).mono ?_; rintro e w' ⟨rfl, rfl⟩; have l1 := Row.lit w1 .i64 [flag r, 0] 3 (cs := #[.int .i64 (flag r), .int .i64 0]) rfl; have own1 := own_to hown1 (below_alloc1 w1 (.cells #[.int .i64 (flag r), .int .i64 0] 3)); have hs1 : w0.heap.size ≤ w1.heap.size := hB1.size)
      | (refine step_append_row .i64 rfl _ _ 39 rfl w0.heap.size 3 i0 (.int .i64 0) 8 Tryz.underlying39 hi hz0 hz1 hz2 rfl _ 11 (bitRow ID 11 11) rfl own1 _ 2 2 _ [flag r, 0] rfl rfl l1 (by unfold maxLen; omega) (by omega) (by simp; omega) ?_; intro A3 c3 w3 hown3 hc3 hB3; have hF3 : w3.heap[w.heap.size]? = some (.cells #[.bool false, .int .i64 ID, .bool r, .int .i64 n, .slice A m c] 34) := (hB3.block w.heap.size hlt0).trans (by repeat (first | assumption | exact Below.refl _ _ | ((with_reducible refine lit2 _ _ _ _ _ ?_); (first | (with_reducible rfl) | (simp; done))) | ((with_reducible refine lit1 _ _ _ _ ?_); (first | (with_reducible rfl) | (simp; done))) | refine row_step (by first | assumption | exact below_alloc1 _ _ | exact below_drew1 _ | exact below_drewN0 _ _) ?_ | refine block_below (by first | assumption | exact below_alloc1 _ _ | exact below_drew1 _ | exact below_drewN0 _ _) ?_ | refine below_then ?_ (by first | assumption | exact below_alloc1 _ _ | exact below_drew1 _ | exact below_drewN0 _ _)))))
  go_wp2_with fail
  go_ret
  refine ⟨A3, c3, rfl, Row.own hown3, hc3, hB0.trans (Below.trans ?_ (hB3.mono (by omega))), (fresh_own hown3).mono (by omega)⟩
  exact ((below_drew1 w0).trans (hB1.trans ((below_alloc1 w1 _).mono hs1))).mono (by omega)
theorem rankX_new (ID : Nat) (r : Bool) (n : Int) (A : Option Addr) (m c : Nat) (hID : ID < 536870912) (w : World) :
    Calls Tryz.prog 66 #[.agg #[.bool true, .int .i64 ID, .bool r, .int .i64 n, .slice A m c]] w fun e w' => ∃ A' c', e = .returned (.slice A' 32 c') ∧ Row .i64 w' w'.heap.size A' (rankX ID r) ∧ 32 ≤ c' ∧ Below w.heap.size w w' ∧ fresh w.heap.size A' := by
  obtain ⟨w0, hw0⟩ : ∃ w0, w.alloc (.cells #[.bool true, .int .i64 ID, .bool r, .int .i64 n, .slice A m c] 34) = w0 := ⟨_, rfl⟩
  have hB0 := below_lits hw0
  have hF0 : w0.heap[w.heap.size]? = some (.cells #[.bool true, .int .i64 ID, .bool r, .int .i64 n, .slice A m c] 34) := by rw [← hw0]; exact World.alloc_heap_new _ _
  have hlt0 : w.heap.size < w0.heap.size := (Array.getElem?_eq_some_iff.1 hF0).1
  have HW := Lib.hid hw0
  have HF0 := Lib.hid hF0
  have hand := and_low ID (by omega)
  obtain ⟨V, hV⟩ : ∃ V, ID % 262144 = V := ⟨_, rfl⟩
  obtain ⟨U, hU⟩ : ∃ U, ID / 262144 = U := ⟨_, rfl⟩
  rw [hV] at hand
  have hsh : (ID : Int) / 262144 = (U : Int) := by omega
  have hsh2 : (ID : Int) / 2 ^ 18 = (U : Int) := hsh
  clear hw0 hF0
  go_enter Tryz.func66, Tryz.ntmps66
  go_wp2_with fail
  rw [HW.out]
  obtain ⟨c0, c1, c2, c3, c4⟩ := cells5' HF0.out
  go_quiet (fail)
  have hF1 : (w0.drewN nq).heap[w.heap.size]? = some (.cells #[.bool true, .int .i64 ID, .bool r, .int .i64 n, .slice A m c] 34) := HF0.out
  have hB1 : Below w.heap.size w (w0.drewN nq) := below_drewN' hB0 nq
  generalize w0.drewN nq = w1 at hF1 hB1 ⊢
  have hUb : U < 2 ^ 11 := by omega
  have hVb : V < 2 ^ 18 := by omega
  have HV := Lib.hid hV
  have HU := Lib.hid hU
  clear c0 c1 c2 c3 c4 hand hsh hsh2 HF0 HW hV hU hB0 hlt0
  go_wp2_with fail
  go_region_held3 (fun W => W.cell? ⟨w.heap.size, 0, none⟩ = some (.bool true) ∧ W.cell? ⟨w.heap.size, 1, none⟩ = some (.int .i64 ID) ∧ W.cell? ⟨w.heap.size, 2, none⟩ = some (.bool r) ∧ W.cell? ⟨w.heap.size, 3, none⟩ = some (.int .i64 n) ∧ W.cell? ⟨w.heap.size, 4, none⟩ = some (.slice A m c))
    (exact cells5' (by repeat (first | assumption | exact Below.refl _ _ | ((with_reducible refine lit2 _ _ _ _ _ ?_); (first | (with_reducible rfl) | (simp; done))) | ((with_reducible refine lit1 _ _ _ _ ?_); (first | (with_reducible rfl) | (simp; done))) | refine row_step (by first | assumption | exact below_alloc1 _ _ | exact below_drew1 _ | exact below_drewN0 _ _) ?_ | refine block_below (by first | assumption | exact below_alloc1 _ _ | exact below_drew1 _ | exact below_drewN0 _ _) ?_ | refine below_then ?_ (by first | assumption | exact below_alloc1 _ _ | exact below_drew1 _ | exact below_drewN0 _ _))))
    (first
      | (go_at_call_of 86 (Value.int IntKind.i64 ↑U); refine (frPut_ex _ U 11 rfl (by omega) hUb _).mono ?_; rintro e w2 ⟨A2, rfl, hr2, hB2⟩)
      | (go_at_call_of 86 (Value.int IntKind.i64 ↑V); refine (frPut_ex _ V 18 rfl (by omega) hVb _).mono ?_; rintro e w3 ⟨A3, rfl, hr3, hB3⟩)
      | (go_at_call 87; refine (bitOf_at r _).mono ?_; rintro e w' ⟨rfl, rfl⟩)
      | (go_at_call 88; refine (concat4_new A2 _ A3 _ 11 2 18 1 _ _ _ _ (bitRow U 11 11) [1, 1] (bitRow V 18 18) [flag r] (bitRow_len _ _ _) rfl (bitRow_len _ _ _) rfl _ _ (by repeat (first | assumption | exact Below.refl _ _ | ((with_reducible refine lit2 _ _ _ _ _ ?_); (first | (with_reducible rfl) | (simp; done))) | ((with_reducible refine lit1 _ _ _ _ ?_); (first | (with_reducible rfl) | (simp; done))) | refine row_step (by first | assumption | exact below_alloc1 _ _ | exact below_drew1 _ | exact below_drewN0 _ _) ?_ | refine block_below (by first | assumption | exact below_alloc1 _ _ | exact below_drew1 _ | exact below_drewN0 _ _) ?_ | refine below_then ?_ (by first | assumption | exact below_alloc1 _ _ | exact below_drew1 _ | exact below_drewN0 _ _))) (by repeat (first | assumption | exact Below.refl _ _ | ((with_reducible refine lit2 _ _ _ _ _ ?_); (first | (with_reducible rfl) | (simp; done))) | ((with_reducible refine lit1 _ _ _ _ ?_); (first | (with_reducible rfl) | (simp; done))) | refine row_step (by first | assumption | exact below_alloc1 _ _ | exact below_drew1 _ | exact below_drewN0 _ _) ?_ | refine block_below (by first | assumption | exact below_alloc1 _ _ | exact below_drew1 _ | exact below_drewN0 _ _) ?_ | refine below_then ?_ (by first | assumption | exact below_alloc1 _ _ | exact below_drew1 _ | exact below_drewN0 _ _))) (by repeat (first | assumption | exact Below.refl _ _ | ((with_reducible refine lit2 _ _ _ _ _ ?_); (first | (with_reducible rfl) | (simp; done))) | ((with_reducible refine lit1 _ _ _ _ ?_); (first | (with_reducible rfl) | (simp; done))) | refine row_step (by first | assumption | exact below_alloc1 _ _ | exact below_drew1 _ | exact below_drewN0 _ _) ?_ | refine block_below (by first | assumption | exact below_alloc1 _ _ | exact below_drew1 _ | exact below_drewN0 _ _) ?_ | refine below_then ?_ (by first | assumption | exact below_alloc1 _ _ | exact below_drew1 _ | exact below_drewN0 _ _))) (by repeat (first | assumption | exact Below.refl _ _ | ((with_reducible refine lit2 _ _ _ _ _ ?_); (first | (with_reducible rfl) | (simp; done))) | ((with_reducible refine lit1 _ _ _ _ ?_); (first | (with_reducible rfl) | (simp; done))) | refine row_step (by first | assumption | exact below_alloc1 _ _ | exact below_drew1 _ | exact below_drewN0 _ _) ?_ | refine block_below (by first | assumption | exact below_alloc1 _ _ | exact below_drew1 _ | exact below_drewN0 _ _) ?_ | refine below_then ?_ (by first | assumption | exact below_alloc1 _ _ | exact below_drew1 _ | exact below_drewN0 _ _))) 32 rfl (by omega) (by simp)).mono ?_; rintro e w5 ⟨A5, c5, rfl, hr5, hc5, hB5, hf5⟩))
  all_goals
    go_wp2_with fail
    go_ret
    refine ⟨A5, c5, rfl, ?_, hc5, hB1.trans (Below.mono (B := w1.heap.size) (by repeat (first | assumption | exact Below.refl _ _ | ((with_reducible refine lit2 _ _ _ _ _ ?_); (first | (with_reducible rfl) | (simp; done))) | ((with_reducible refine lit1 _ _ _ _ ?_); (first | (with_reducible rfl) | (simp; done))) | refine row_step (by first | assumption | exact below_alloc1 _ _ | exact below_drew1 _ | exact below_drewN0 _ _) ?_ | refine block_below (by first | assumption | exact below_alloc1 _ _ | exact below_drew1 _ | exact below_drewN0 _ _) ?_ | refine below_then ?_ (by first | assumption | exact below_alloc1 _ _ | exact below_drew1 _ | exact below_drewN0 _ _))) hB1.size), hf5.mono (Nat.le_trans hB1.size (Below.size (B := w1.heap.size) (by clear hB5; repeat (first | assumption | exact Below.refl _ _ | ((with_reducible refine lit2 _ _ _ _ _ ?_); (first | (with_reducible rfl) | (simp; done))) | ((with_reducible refine lit1 _ _ _ _ ?_); (first | (with_reducible rfl) | (simp; done))) | refine row_step (by first | assumption | exact below_alloc1 _ _ | exact below_drew1 _ | exact below_drewN0 _ _) ?_ | refine block_below (by first | assumption | exact below_alloc1 _ _ | exact below_drew1 _ | exact below_drewN0 _ _) ?_ | refine below_then ?_ (by first | assumption | exact below_alloc1 _ _ | exact below_drew1 _ | exact below_drewN0 _ _)))))⟩
    unfold rankX
    rw [HU.out, HV.out]
    exact hr5
theorem rank_new (x : Bool) (ID : Nat) (r : Bool) (n : Int) (A : Option Addr) (m c : Nat) (hID : idOk x ID) (k : Nat) (hk : rn x = k) (w : World) :
    Calls Tryz.prog 66 #[.agg #[.bool x, .int .i64 ID, .bool r, .int .i64 n, .slice A m c]] w fun e w' => ∃ A' c', e = .returned (.slice A' k c') ∧ Row .i64 w' w'.heap.size A' (rankV x ID r) ∧ k ≤ c' ∧ Below w.heap.size w w' ∧ fresh w.heap.size A' := by
  subst hk
  cases x
  · exact rankS_new ID r n A m c hID w
  · exact rankX_new ID r n A m c hID w
end Go.Proofs.YtcifjccojmfpaaaGreat

namespace Go.Proofs.YtcifjccojmfpaaaGreat
open Go.RowKit
set_option linter.unusedVariables false
set_option linter.unusedSimpArgs false
def lessAt (a b : List Int) (k : Nat) : Prop := a.take k = b.take k ∧ a[k]? = some 0 ∧ b[k]? = some 1
def lessR (a b : List Int) : Prop := ∃ k, lessAt a b k
structure LeastE (W : List Int) (rs : List (List Int)) : Prop where
  all : ∀ r ∈ rs, r = W ∨ lessR W r
  mem : W ≠ [] → W ∈ rs
  right : ∀ r ∈ rs, rightB r = true
  rw_ : rightB W = true
  none_ : rs = [] → W = []
  pos : ∀ r ∈ rs, r ≠ []
theorem take_get {a b : List Int} {p k : Nat} (h : a.take p = b.take p) (hk : k < p) : a[k]? = b[k]? := by
  have := congrArg (fun l => l[k]?) h
  simpa [List.getElem?_take, hk] using this
theorem take_more {a b : List Int} {p k : Nat} (h : a.take p = b.take p) (hk : k ≤ p) : a.take k = b.take k := by
  have := congrArg (fun l => l.take k) h
  simpa [List.take_take, Nat.min_eq_left hk] using this
theorem take_next {a b : List Int} {p : Nat} (h : a.take p = b.take p) (hp : a[p]? = b[p]?) : a.take (p + 1) = b.take (p + 1) := by
  rw [List.take_add_one, List.take_add_one, h, hp]
theorem less_trans {a b c : List Int} (h : lessR a b) (h' : lessR b c) : lessR a c := by
  obtain ⟨k, h1, h2, h3⟩ := h
  obtain ⟨j, g1, g2, g3⟩ := h'
  rcases Nat.lt_trichotomy k j with hk | rfl | hk
  · exact ⟨k, h1.trans (take_more g1 (by omega)), h2, by rw [← take_get g1 hk]; exact h3⟩
  · rw [h3] at g2; simp at g2
  · exact ⟨j, (take_more h1 (by omega)).trans g1, by rw [take_get h1 hk]; exact g2, g3⟩
def Chain (rs : List (List Int)) : Prop := ∀ a ∈ rs, ∀ b ∈ rs, a = b ∨ lessR a b ∨ lessR b a
theorem least_ex : ∀ (rs : List (List Int)), Chain rs → (∀ r ∈ rs, rightB r = true) → (∀ r ∈ rs, r ≠ []) → ∃ W, LeastE W rs
  | [], _, _, _ => ⟨[], by simp, by simp, by simp, rfl, fun _ => rfl, by simp⟩
  | [r], _, hr, hp => ⟨r, by simp, by simp, by simpa using hr, hr r (by simp), by simp, by simpa using hp⟩
  | r :: s :: rs, hc, hr, hp => by
    obtain ⟨W, hall, hmem, _, hW, _, _⟩ := least_ex (s :: rs) (fun a ha b hb => hc a (List.mem_cons_of_mem _ ha) b (List.mem_cons_of_mem _ hb)) (fun x hx => hr x (List.mem_cons_of_mem _ hx)) (fun x hx => hp x (List.mem_cons_of_mem _ hx))
    have hm : W ∈ s :: rs := by
      apply hmem
      intro e
      subst e
      rcases hall s (by simp) with h | ⟨k, _, h2, _⟩
      · exact hp s (by simp) h
      · simp at h2
    rcases hc r (by simp) W (List.mem_cons_of_mem _ hm) with rfl | h | h
    · refine ⟨r, fun x hx => ?_, by simp, hr, hr r (by simp), by simp, hp⟩
      rcases List.mem_cons.1 hx with rfl | hx
      · exact .inl rfl
      · exact hall x hx
    · refine ⟨r, fun x hx => ?_, by simp, hr, hr r (by simp), by simp, hp⟩
      rcases List.mem_cons.1 hx with rfl | hx
      · exact .inl rfl
      · rcases hall x hx with rfl | h'
        · exact .inr h
        · exact .inr (less_trans h h')
    · refine ⟨W, fun x hx => ?_, fun _ => List.mem_cons_of_mem _ hm, hr, hW, by simp, hp⟩
      rcases List.mem_cons.1 hx with rfl | hx
      · exact .inr h
      · exact hall x hx
def stays (W : List Int) (p : Nat) (r : List Int) : Bool := decide (r.take p = W.take p)
theorem stay_end {W r : List Int} (h : r = W ∨ lessR W r) (hs : stays W W.length r = true) : r = W := by
  have hs := of_decide_eq_true hs
  rcases h with h | ⟨k, h1, h2, h3⟩
  · exact h
  · have hk : k < W.length := (List.getElem?_eq_some_iff.1 h2).1
    have := take_get hs hk
    rw [h2, h3] at this; simp at this
theorem stay_bit {W r : List Int} {p : Nat} (hp : p < W.length) (hW : rightB W = true) (h : r = W ∨ lessR W r) (hs : stays W p r = true) : ∃ b, r[p]? = some b ∧ (b = 0 → W[p]? = some 0) := by
  have hs := of_decide_eq_true hs
  rcases h with rfl | ⟨k, h1, h2, h3⟩
  · exact ⟨_, List.getElem?_eq_getElem hp, fun e => by rw [List.getElem?_eq_getElem hp, e]⟩
  · rcases Nat.lt_trichotomy k p with hk | rfl | hk
    · have := take_get hs hk; rw [h2, h3] at this; simp at this
    · exact ⟨1, h3, fun e => by simp at e⟩
    · have e := take_get h1 hk
      refine ⟨W[p], by rw [← e]; exact List.getElem?_eq_getElem hp, fun e' => by rw [List.getElem?_eq_getElem hp, e']⟩
def andL (l : List Int) : Int := if 0 ∈ l then 0 else 1
def keepB (p : Nat) (level : Int) (r : List Int) : Bool := decide (r[p]? = none ∨ r[p]? = some level)
theorem stays_succ {W r : List Int} {p : Nat} {x : Int} (hx : W[p]? = some x) (hW : rightB W = true) (h : r = W ∨ lessR W r) : (keepB p x r && stays W p r) = stays W (p + 1) r := by
  have hp : p < W.length := (List.getElem?_eq_some_iff.1 hx).1
  rw [Bool.eq_iff_iff]
  constructor
  · intro he
    simp only [Bool.and_eq_true] at he
    obtain ⟨h1, h2⟩ := he
    obtain ⟨b, hb, _⟩ := stay_bit hp hW h h2
    have h1 := of_decide_eq_true h1
    rw [hb] at h1
    simp at h1
    subst h1
    exact decide_eq_true (take_next (of_decide_eq_true h2) (by rw [hb, hx]))
  · intro he
    have he := of_decide_eq_true he
    have h2 : stays W p r = true := decide_eq_true (take_more he (by omega))
    simp only [Bool.and_eq_true]
    refine ⟨decide_eq_true (.inr ?_), h2⟩
    rw [take_get he (Nat.lt_succ_self p), hx]
theorem and_stays {W : List Int} {rs : List (List Int)} (h : LeastE W rs) {p : Nat} {x : Int} (hx : W[p]? = some x) : andL ((rs.filter (stays W p)).filterMap (·[p]?)) = x := by
  have hp : p < W.length := (List.getElem?_eq_some_iff.1 hx).1
  have hm : W ∈ rs := h.mem (by intro e; subst e; simp at hp)
  unfold andL
  split
  · rename_i h0
    obtain ⟨r, hr, h1⟩ := List.mem_filterMap.1 h0
    obtain ⟨hr, hs⟩ := List.mem_filter.1 hr
    obtain ⟨b, hb, hb0⟩ := stay_bit hp h.rw_ (h.all r hr) hs
    rw [hb] at h1
    have := hb0 (Option.some.inj h1)
    rw [hx] at this
    exact (Option.some.inj this).symm
  · rename_i h0
    rcases rightB_at h.rw_ hx with rfl | rfl
    · exfalso
      apply h0
      exact List.mem_filterMap.2 ⟨W, List.mem_filter.2 ⟨hm, decide_eq_true rfl⟩, hx⟩
    · rfl
theorem stays_len {W : List Int} {rs : List (List Int)} (h : LeastE W rs) {p : Nat} (hp : p < W.length) : (rs.filter (stays W p)).filterMap (·[p]?) ≠ [] := by
  have hm : W ∈ rs := h.mem (by intro e; subst e; simp at hp)
  intro e
  have : W[p] ∈ (rs.filter (stays W p)).filterMap (·[p]?) := List.mem_filterMap.2 ⟨W, List.mem_filter.2 ⟨hm, decide_eq_true rfl⟩, List.getElem?_eq_getElem hp⟩
  rw [e] at this
  simp at this
theorem stays_none {W : List Int} {rs : List (List Int)} (h : LeastE W rs) : (rs.filter (stays W W.length)).filterMap (·[W.length]?) = [] := by
  rw [List.filterMap_eq_nil_iff]
  intro r hr
  obtain ⟨hr, hs⟩ := List.mem_filter.1 hr
  have := stay_end (h.all r hr) hs
  subst this
  exact List.getElem?_eq_none (Nat.le_refl _)
def diffAt : List Int → List Int → Nat
  | a :: sa, b :: sb => if a = b then diffAt sa sb + 1 else 0
  | _, _ => 0
theorem diffAt_at : ∀ (k : Nat) (a b : List Int) (x y : Int), a.take k = b.take k → a[k]? = some x → b[k]? = some y → x ≠ y → diffAt a b = k
  | 0, a :: sa, b :: sb, x, y, _, hx, hy, hn => by
    simp at hx hy
    subst hx hy
    simp [diffAt, hn]
  | k + 1, a :: sa, b :: sb, x, y, ht, hx, hy, hn => by
    simp at ht hx hy
    simp [diffAt, ht.1, diffAt_at k sa sb x y ht.2 hx hy hn]
  | 0, [], _, _, _, _, hx, _, _ => by simp at hx
  | 0, _ :: _, [], _, _, _, _, hy, _ => by simp at hy
  | k + 1, [], _, _, _, _, hx, _, _ => by simp at hx
  | k + 1, _ :: _, [], _, _, _, _, hy, _ => by simp at hy
def lostOf (W r : List Int) : Int := if r = W then -1 else (diffAt W r : Int)
theorem lostOf_self (W : List Int) : lostOf W W = -1 := by simp [lostOf]
theorem lostOf_no {W r : List Int} (h : lostOf W r = -1) : r = W := by
  unfold lostOf at h
  split at h
  · assumption
  · omega
theorem lostOf_diff {W r : List Int} {k : Nat} {x y : Int} (h : W.take k = r.take k) (hx : W[k]? = some x) (hy : r[k]? = some y) (hn : x ≠ y) : lostOf W r = k := by
  have hne : r ≠ W := by
    intro e
    subst e
    rw [hx] at hy
    exact hn (Option.some.inj hy)
  rw [lostOf, if_neg hne, diffAt_at k W r x y h hx hy hn]
def idxI (v : Int) : List Int → Int
  | [] => -1
  | x :: xs => if v = x then 0 else if idxI v xs < 0 then -1 else idxI v xs + 1
theorem idxI_none : ∀ {v : Int} {l : List Int}, v ∉ l → idxI v l = -1
  | v, [], _ => rfl
  | v, x :: xs, h => by
    simp only [List.mem_cons, not_or] at h
    simp [idxI, h.1, idxI_none h.2]
theorem idxI_at : ∀ {v : Int} {l : List Int} {k : Nat}, l[k]? = some v → (∀ j, j < k → l[j]? ≠ some v) → idxI v l = k
  | v, [], k, h, _ => by simp at h
  | v, x :: xs, 0, h, _ => by simp at h; simp [idxI, h]
  | v, x :: xs, k + 1, h, hn => by
    have h0 : v ≠ x := by
      intro e
      exact hn 0 (by omega) (by simp [e])
    have := idxI_at (v := v) (l := xs) (k := k) (by simpa using h) (fun j hj => by simpa using hn (j + 1) (by omega))
    simp only [idxI, if_neg h0, this]
    rw [if_neg (by omega)]
    omega
theorem idxI_cases (v : Int) : ∀ (l : List Int), (v ∉ l ∧ idxI v l = -1) ∨ ∃ k : Nat, l[k]? = some v ∧ (∀ j : Nat, j < k → l[j]? ≠ some v) ∧ idxI v l = k
  | [] => .inl ⟨by simp, rfl⟩
  | x :: xs => by
    by_cases hx : v = x
    · subst hx
      exact .inr ⟨0, by simp, by intro j hj; omega, by simp [idxI]⟩
    · rcases idxI_cases v xs with ⟨h1, h2⟩ | ⟨k, h1, h2, h3⟩
      · exact .inl ⟨by simp [hx, h1], by simp [idxI, hx, h2]⟩
      · have hk : (x :: xs)[k + 1]? = some v := by simpa using h1
        have hj : ∀ j : Nat, j < k + 1 → (x :: xs)[j]? ≠ some v := by
          intro j hj
          cases j with
          | zero => simp; exact fun e => hx e.symm
          | succ j => simpa using h2 j (by omega)
        exact .inr ⟨k + 1, hk, hj, idxI_at hk hj⟩
def winOf (W : List Int) (rs : List (List Int)) : Int := idxI (-1) (rs.map (lostOf W))
theorem winOf_none (W : List Int) : winOf W [] = -1 := rfl
theorem winOf_at {W : List Int} {rs : List (List Int)} {i : Nat} (h1 : rs[i]? = some W) (h2 : ∀ j, j < i → rs[j]? ≠ some W) : winOf W rs = i := by
  unfold winOf
  refine idxI_at (by rw [List.getElem?_map, h1]; simp [lostOf_self]) fun j hj e => ?_
  rw [List.getElem?_map, Option.map_eq_some_iff] at e
  obtain ⟨r, hr, e⟩ := e
  exact h2 j hj (by rw [hr, lostOf_no e])
def lessB : List Int → List Int → Bool
  | a :: sa, b :: sb => if a = b then lessB sa sb else decide (a < b)
  | _, _ => false
theorem lessB_at : ∀ (k : Nat) (a b : List Int) (x y : Int), a.take k = b.take k → a[k]? = some x → b[k]? = some y → x ≠ y → lessB a b = decide (x < y)
  | 0, a :: sa, b :: sb, x, y, _, hx, hy, hn => by
    simp at hx hy
    subst hx hy
    simp [lessB, hn]
  | k + 1, a :: sa, b :: sb, x, y, ht, hx, hy, hn => by
    simp at ht hx hy
    simp [lessB, ht.1, lessB_at k sa sb x y ht.2 hx hy hn]
  | 0, [], _, _, _, _, hx, _, _ => by simp at hx
  | 0, _ :: _, [], _, _, _, _, hy, _ => by simp at hy
  | k + 1, [], _, _, _, _, hx, _, _ => by simp at hx
  | k + 1, _ :: _, [], _, _, _, _, hy, _ => by simp at hy
theorem lessB_end : ∀ (k : Nat) (a b : List Int), a.take k = b.take k → (a.length ≤ k ∨ b.length ≤ k) → lessB a b = false
  | _, [], _, _, _ => by simp [lessB]
  | _, _ :: _, [], _, _ => by simp [lessB]
  | 0, _ :: _, _ :: _, _, h => by simp at h
  | k + 1, a :: sa, b :: sb, ht, h => by
    simp at ht
    simp only [lessB, ht.1, if_true]
    exact lessB_end k sa sb ht.2 (by simpa using h)
theorem lessB_yes {a b : List Int} (h : lessR a b) : lessB a b = true := by
  obtain ⟨k, h1, h2, h3⟩ := h
  rw [lessB_at k a b 0 1 h1 h2 h3 (by decide)]
  decide
theorem lessB_no {a b : List Int} (h : lessR b a) : lessB a b = false := by
  obtain ⟨k, h1, h2, h3⟩ := h
  rw [lessB_at k a b 1 0 h1.symm h3 h2 (by decide)]
  decide
theorem lessB_self (a : List Int) : lessB a a = false := lessB_end a.length a a rfl (.inl (Nat.le_refl _))
end Go.Proofs.YtcifjccojmfpaaaGreat

namespace Go.Proofs.YtcifjccojmfpaaaGreat
open Go.RowKit
set_option linter.unusedVariables false
set_option linter.unusedSimpArgs false
theorem index_any (l : List Int) (v : Int) (n : Nat) (hn : l.length = n) (A : Option Addr) (c B : Nat) (w : World) (h : Row .i64 w B A l) (hl : n ≤ maxLen) :
    Calls Tryz.prog 84 #[.slice A n c, .int .i64 v] w fun e w' => e = .returned (.int .i64 (idxI v l)) ∧ w = w' := by
  unfold maxLen at hl
  have Hn := Lib.hid hn
  clear hn
  go_enter Tryz.func84, Tryz.ntmps84
  go_wp2
  go_loop [8] (fun i => ∃ k : Nat, k ≤ n ∧ i = .int .i64 k ∧ (∀ j : Nat, j < k → l[j]? ≠ some v)) (fun i => n - (intOf i).toNat)
  case atStart => exact ⟨0, Nat.zero_le _, rfl, fun j hj => absurd hj (by omega)⟩
  case round =>
    obtain ⟨k, hk, rfl, hr⟩ := hrel
    have Hr := Lib.hid hr
    clear hr
    by_cases hlt : k < n
    · obtain ⟨ad, x, rfl, hx, hc⟩ := h.get_ (k := k) (by rw [Hn.out]; exact hlt)
      have Hx := Lib.hid hx
      clear hx
      by_cases hxy : v = x
      · have hd2 : (v == x) = true := by simp [hxy]
        have Hxy := Lib.hid hxy
        clear hxy
        go_wp2
        go_ret
        refine ⟨ret_int ?_, rfl⟩
        exact (idxI_at (by rw [Hx.out, Hxy.out]) Hr.out).symm
      · have hd2 : (v == x) = false := by simp [hxy]
        have Hxy := Lib.hid hxy
        clear hxy
        go_wp2
        go_round
        case measure => simp [intOf]; omega
        refine ⟨k + 1, by omega, by go_num, fun j hj => ?_⟩
        by_cases hjk : j < k
        · exact Hr.out j hjk
        · obtain rfl : j = k := by omega
          rw [Hx.out]
          exact fun e => Hxy.out (Option.some.inj e).symm
    · obtain rfl : k = n := by omega
      go_wp2
      go_ret
      refine ⟨ret_int ?_, rfl⟩
      refine (idxI_none fun hm => ?_).symm
      obtain ⟨j, hj, e⟩ := List.getElem_of_mem hm
      exact Hr.out j (by rw [← Hn.out]; exact hj) (by rw [List.getElem?_eq_getElem hj, e])
def idxGe (l : List Int) (v : Int) : Bool := decide (0 ≤ idxI v l)
theorem idxGe_mem (l : List Int) (v : Int) : idxGe l v = decide (v ∈ l) := by
  unfold idxGe
  rcases idxI_cases v l with ⟨h1, h2⟩ | ⟨k, h1, _, h2⟩
  · simp [h1, h2]
  · have := List.mem_of_getElem? h1
    simp [this, h2]
theorem contains_any (l : List Int) (v : Int) (n : Nat) (hn : l.length = n) (A : Option Addr) (c B : Nat) (w : World) (h : Row .i64 w B A l) (hl : n ≤ maxLen) (q : Bool) (hq : decide (v ∈ l) = q) :
    Calls Tryz.prog 98 #[.slice A n c, .int .i64 v] w fun e w' => e = .returned (.bool q) ∧ w = w' := by
  obtain ⟨x, hx⟩ : ∃ x, idxI v l = x := ⟨_, rfl⟩
  have hg := (idxGe_mem l v).trans hq
  unfold idxGe at hg
  rw [hx] at hg
  have Hx := Lib.hid hx
  clear hx hq
  go_enter Tryz.func98, Tryz.ntmps98
  go_wp2_with (go_at_call 84; refine (index_any l v n hn A c B w h hl).mono ?_; rw [Hx.out]; rintro e w' ⟨rfl, rfl⟩)
  go_ret
  exact ⟨rfl, rfl⟩
theorem and_any (l : List Int) (n : Nat) (hn : l.length = n) (A : Option Addr) (c B : Nat) (w : World) (h : Row .i64 w B A l) (hl : n ≤ maxLen) (x : Int) (hx : andL l = x) :
    Calls Tryz.prog 116 #[.slice A n c] w fun e w' => e = .returned (.int .i64 x) ∧ w = w' := by
  have Hn := Lib.hid hn
  clear hn
  by_cases h0 : (0 : Int) ∈ l
  · obtain rfl : 0 = x := by rw [← hx]; simp [andL, h0]
    clear hx
    go_enter Tryz.func116, Tryz.ntmps116
    go_wp2_with (go_at_call 98; refine (contains_any l 0 n Hn.out A c B w h hl true (by simp [h0])).mono ?_; rintro e w' ⟨rfl, rfl⟩)
    go_ret
    exact ⟨rfl, rfl⟩
  · obtain rfl : 1 = x := by rw [← hx]; simp [andL, h0]
    clear hx
    go_enter Tryz.func116, Tryz.ntmps116
    go_wp2_with (go_at_call 98; refine (contains_any l 0 n Hn.out A c B w h hl false (by simp [h0])).mono ?_; rintro e w' ⟨rfl, rfl⟩)
    go_ret
    exact ⟨rfl, rfl⟩
theorem bit_yes (l : List Int) (n : Nat) (hn : l.length = n) (A : Option Addr) (c B p : Nat) (x : Int) (hx : l[p]? = some x) (w : World) (h : Row .i64 w B A l) (hl : n ≤ 1000) :
    Calls Tryz.prog 118 #[.slice A n c, .int .i64 p] w fun e w' => e = .returned (.tuple #[.int .i64 x, .bool true]) ∧ w = w' := by
  have hp : p < n := by rw [← hn]; exact (List.getElem?_eq_some_iff.1 hx).1
  obtain ⟨ad, y, rfl, hy, hc⟩ := h.get_ (k := p) (by rw [hn]; exact hp)
  obtain rfl : y = x := by rw [hx] at hy; exact (Option.some.inj hy).symm
  clear hx hy h hn
  go_enter Tryz.func118, Tryz.ntmps118
  go_wp2
  go_ret2
  exact ⟨rfl, rfl⟩
theorem bit_no (n : Nat) (A : Option Addr) (c p : Nat) (hp : n ≤ p) (w : World) (hl : p ≤ 1000) :
    Calls Tryz.prog 118 #[.slice A n c, .int .i64 p] w fun e w' => e = .returned (.tuple #[.int .i64 0, .bool false]) ∧ w = w' := by
  go_enter Tryz.func118, Tryz.ntmps118
  go_wp2
  go_ret2
  exact ⟨rfl, rfl⟩
structure FV where
  x : Bool
  i : Int
  r : Bool
  n : Int
  a : Option Addr
  m : Nat
  c : Nat
abbrev FV.v (f : FV) : Value := .agg #[.bool f.x, .int .i64 f.i, .bool f.r, .int .i64 f.n, .slice f.a f.m f.c]
def FV.cs (f : FV) : List Value := [.bool f.x, .int .i64 f.i, .bool f.r, .int .i64 f.n, .slice f.a f.m f.c]
def FAt (w : World) (a : Addr) (f : FV) : Prop :=
  w.cell? a = some (.bool f.x) ∧ w.cell? ⟨a.block, a.off + 1, none⟩ = some (.int .i64 f.i) ∧ w.cell? ⟨a.block, a.off + 2, none⟩ = some (.bool f.r) ∧ w.cell? ⟨a.block, a.off + 3, none⟩ = some (.int .i64 f.n) ∧ w.cell? ⟨a.block, a.off + 4, none⟩ = some (.slice f.a f.m f.c)
def FRow (w : World) (B : Nat) (A : Option Addr) (fs : List FV) : Prop :=
  fs = [] ∨ ∃ ad, A = some ad ∧ ad.block < B ∧ ∀ k f, fs[k]? = some f → FAt w (ad.add (k * 5)) f
def FOk (f : FV) : Prop := ∃ ID : Nat, f.i = ID ∧ idOk f.x ID
def rankF (f : FV) : List Int := rankV f.x f.i.toNat f.r
def ranks (fs : List FV) : List (List Int) := fs.map rankF
theorem rankF_len (f : FV) : (rankF f).length = rn f.x := rankV_len _ _ _
theorem FRow.get_ {w : World} {B : Nat} {A : Option Addr} {fs : List FV} (h : FRow w B A fs) {k : Nat} (hk : k < fs.length) : ∃ ad f, A = some ad ∧ fs[k]? = some f ∧ FAt w (ad.add (k * 5)) f := by
  rcases h with rfl | ⟨ad, e, _, hc⟩
  · simp at hk
  · exact ⟨ad, fs[k], e, List.getElem?_eq_getElem hk, hc k _ (List.getElem?_eq_getElem hk)⟩
theorem FRow.move {w w' : World} {B : Nat} {A : Option Addr} {fs : List FV} (h : FRow w B A fs) (hk : ∀ p : Addr, p.block < B → w'.cell? p = w.cell? p) : FRow w' B A fs := by
  rcases h with rfl | ⟨ad, e, hb, hc⟩
  · exact .inl rfl
  · refine .inr ⟨ad, e, hb, fun k f hf => ?_⟩
    obtain ⟨h0, h1, h2, h3, h4⟩ := hc k f hf
    have hb' : (ad.add (k * 5)).block < B := by rw [addr_block]; exact hb
    exact ⟨(hk _ hb').trans h0, (hk ⟨_, _, none⟩ hb').trans h1, (hk ⟨_, _, none⟩ hb').trans h2, (hk ⟨_, _, none⟩ hb').trans h3, (hk ⟨_, _, none⟩ hb').trans h4⟩
theorem FRow.more {w : World} {B B' : Nat} {A : Option Addr} {fs : List FV} (h : FRow w B A fs) (hB : B ≤ B') : FRow w B' A fs := by
  rcases h with rfl | ⟨ad, e, hb, hc⟩
  · exact .inl rfl
  · exact .inr ⟨ad, e, by omega, hc⟩
theorem FRow.below {w w' : World} {B : Nat} {A : Option Addr} {fs : List FV} (h : FRow w B A fs) (hb : Below B w w') : FRow w' B A fs := h.move fun _ hp => hb.cell hp
theorem FRow.to {a b : World} {A : Option Addr} {fs : List FV} (h : FRow a a.heap.size A fs) (k : Below a.heap.size a b) : FRow b b.heap.size A fs := (h.below k).more k.size
theorem rankF_at (f : FV) (hf : FOk f) (n : Nat) (hn : (rankF f).length = n) (w : World) :
    Calls Tryz.prog 66 #[f.v] w fun e w' => ∃ ad c', e = .returned (.slice (some ad) n c') ∧ Row .i64 w' w'.heap.size (some ad) (rankF f) ∧ n ≤ c' ∧ Below w.heap.size w w' ∧ w.heap.size ≤ ad.block := by
  obtain ⟨x, i, r, m, a, l, c⟩ := f
  obtain ⟨ID, rfl, hID⟩ := hf
  have e : rn x = n := by rw [← hn, rankF_len]
  refine (rank_new x ID r m a l c hID n e w).mono ?_
  rintro e' w' ⟨A', c', rfl, hr, hc, hB, hfr⟩
  obtain ⟨ad, rfl⟩ := hr.some_ (by rw [rankV_len]; cases x <;> decide)
  exact ⟨ad, c', rfl, by simpa [rankF] using hr, hc, hB, hfr ad rfl⟩
structure Src where
  ad : Addr
  n : Nat
  c : Nat
  r : List Int
abbrev Src.v (s : Src) : Value := .func (.func 118) #[.slice (some s.ad) s.n s.c] #[]
structure SrcOk (w : World) (G : Nat) (s : Src) : Prop where
  len : s.r.length = s.n
  small : s.n ≤ 32
  lt : s.ad.block < w.heap.size
  ne : s.ad.block ≠ G
  row : Row .i64 w w.heap.size (some s.ad) s.r
theorem SrcOk.to {w w' : World} {G : Nat} {s : Src} (h : SrcOk w G s) (g : w.grownBy w' (some G)) : SrcOk w' G s := by
  refine ⟨h.len, h.small, by have := g.size; have := h.lt; omega, h.ne, ?_⟩
  rcases h.row with e | ⟨ad, e, hb, hc⟩
  · exact .inl e
  · obtain rfl := Option.some.inj e
    refine .inr ⟨_, rfl, by have := g.size; omega, fun k x hx => ?_⟩
    rw [← hc k x hx]
    exact World.cell?_of_block (by rw [addr_block]; exact g.block _ h.lt (by simp; exact h.ne))
def SBlk (w : World) (G : Nat) (cs : List Value) : Prop := w.heap[G]? = some (.cells cs.toArray 119 (0, 0))
theorem SBlk.cell {w : World} {G : Nat} {cs : List Value} (h : SBlk w G cs) {k : Nat} {v : Value} (hk : cs[k]? = some v) : w.cell? ⟨G, k, none⟩ = some v := by
  simp [World.cell?, show w.heap[G]? = _ from h, hk]
theorem SBlk.lt {w : World} {G : Nat} {cs : List Value} (h : SBlk w G cs) : G < w.heap.size := (Array.getElem?_eq_some_iff.1 h).1
theorem SBlk.to {w w' : World} {G : Nat} {cs : List Value} (h : SBlk w G cs) (b : Below w.heap.size w w') : SBlk w' G cs := (b.block G h.lt).trans h
theorem Tryz.infoSrc : (Tryz.prog.info? 119).map (fun i => (i.zero, i.size, i.bytes)) = some (some .nilFunc, 1, 8) := by kernel_rfl
theorem run_append_src (w : World) (ty : TypeId) (G j cap : Nat) (cs : List Value) (hG : SBlk w G cs) (hcap : cs.length = cap) (hj : j < cap) (a : Addr) (c : Nat) (v : Value) (hv : w.cell? a = some v) (h1 : v.oneCell' = true) :
    (Builtin.append_ #[116, 116] ty #[.slice (some ⟨G, 0, none⟩) j cap, .slice (some a) 1 c]).run Tryz.prog w = .ok (.slice (some ⟨G, 0, none⟩) (j + 1) cap) (w.setRow G (cs.set j v).toArray) := by
  obtain ⟨i0, hi, hz0, hz1, hz2⟩ := info_parts Tryz.infoSrc
  have h := run_append_room (P := Tryz.prog) w 116 ty 119 i0 Tryz.underlying116 hi G j cap cs.toArray hG a 1 c [v] (by simp [hz1]) (by
    intro k u hu
    cases k with
    | zero => simp at hu; subst hu; simpa [Addr.add] using hv
    | succ k => simp at hu) (by simpa using h1) (by omega) (by simp [hz1]; omega)
  rw [h]
  congr 3
  simp only [hz1, Nat.mul_one, List.length_singleton]
  rw [List.set_eq_take_append_cons_drop, if_pos (by omega)]
  simp
theorem SBlk.set {w : World} {G : Nat} {cs : List Value} (h : SBlk w G cs) (cs' : List Value) : SBlk (w.setRow G cs'.toArray) G cs' := setRow_heap _ _ _ _ _ _ h
theorem grown_setRow (w : World) (G : Nat) (cs : Array Value) : w.grownBy (w.setRow G cs) (some G) :=
  ⟨rfl, rfl, rfl, by simp [World.setRow], fun k _ hk => setRow_other _ _ _ _ (by intro e; subst e; exact hk rfl)⟩
theorem below_setRow {w : World} {B G : Nat} (cs : Array Value) (h : B ≤ G) : Below B w (w.setRow G cs) :=
  ⟨rfl, rfl, rfl, by simp [World.setRow], fun k hk => setRow_other _ _ _ _ (by omega)⟩
def isFn (v : Value) : Prop := ∀ n, v ≠ .int .i64 n
theorem SBlk.ne {w : World} {G B : Nat} {cs : List Value} (h : SBlk w G cs) (hf : ∀ v ∈ cs, isFn v) {ad : Addr} {r : List Int} (hr : Row .i64 w B (some ad) r) (h0 : r ≠ []) : ad.block ≠ G := by
  intro e
  rcases hr with e' | ⟨ad', e', _, hc⟩
  · exact h0 e'
  · obtain rfl := Option.some.inj e'
    obtain ⟨x, r', rfl⟩ : ∃ x r', r = x :: r' := by cases r with | nil => exact absurd rfl h0 | cons x r' => exact ⟨x, r', rfl⟩
    have := hc 0 x rfl
    have hh : w.heap[(ad.add 0).block]? = some (.cells cs.toArray 119 (0, 0)) := by rw [addr_block, e]; exact h
    simp only [World.cell?, hh] at this
    have hm : Value.int .i64 x ∈ cs := by
      have h2 := this
      simp at h2
      first
        | exact List.mem_of_getElem? h2
        | exact List.mem_of_getElem? h2.2
    exact hf _ hm x rfl
theorem below_grown {w w' : World} (b : Below w.heap.size w w') (row : Option Nat) : w.grownBy w' row := ⟨b.os, b.tape, b.output, b.size, fun k hk _ => b.block k hk⟩
theorem isFn_src (s : Src) : isFn s.v := fun n e => by cases e
theorem isFn_nil : isFn .nilFunc := fun n e => by cases e
def srcCells (ss : List Src) (n : Nat) : List Value := ss.map Src.v ++ List.replicate (n - ss.length) .nilFunc
theorem srcCells_len {ss : List Src} {n : Nat} (h : ss.length ≤ n) : (srcCells ss n).length = n := by simp [srcCells]; omega
theorem srcCells_fn (ss : List Src) (n : Nat) : ∀ v ∈ srcCells ss n, isFn v := by
  intro v hv
  rcases List.mem_append.1 hv with h | h
  · obtain ⟨s, _, rfl⟩ := List.mem_map.1 h
    exact isFn_src s
  · rw [List.eq_of_mem_replicate h]
    exact isFn_nil
theorem srcCells_set {ss : List Src} {n : Nat} (h : ss.length < n) (s : Src) : (srcCells ss n).set ss.length s.v = srcCells (ss ++ [s]) n := by
  unfold srcCells
  rw [List.set_append_right _ _ (by simp)]
  simp only [List.length_map, Nat.sub_self, List.map_append, List.append_assoc, List.length_append, List.length_singleton]
  obtain ⟨m, hm⟩ : ∃ m, n - ss.length = m + 1 := ⟨n - ss.length - 1, by omega⟩
  rw [hm, show n - (ss.length + 1) = m by omega, List.replicate_succ]
  simp
theorem madeCells_src (n : Nat) : madeCells #[Value.nilFunc] n = (srcCells [] n).toArray := by
  apply Array.ext
  · simp [madeCells, srcCells]
  · intro i h1 h2
    simp [madeCells, srcCells, Nat.mod_one]
theorem sourcesOf_any (fs : List FV) (n : Nat) (hn : fs.length = n) (A : Option Addr) (c : Nat) (w : World) (h : FRow w w.heap.size A fs) (hok : ∀ f ∈ fs, FOk f) (hm : n ≤ 100) :
    Calls Tryz.prog 101 #[.slice A n c] w fun e w' => ∃ (G : Nat) (ss : List Src), e = .returned (.slice (some ⟨G, 0, none⟩) n n) ∧ w.heap.size ≤ G ∧ SBlk w' G (ss.map Src.v) ∧ ss.map (·.r) = ranks fs ∧ (∀ s ∈ ss, SrcOk w' G s) ∧ (∀ s ∈ ss, w.heap.size ≤ s.ad.block) ∧ Below w.heap.size w w' := by
  have hmk := run_make_room (P := Tryz.prog) 116 119 .nilFunc 8 Tryz.underlying116 Tryz.infoSrc rfl .i64 .i64 n (by omega) (by omega)
  rw [madeCells_src n] at hmk
  have Hn := Lib.hid hn
  obtain ⟨G, hG⟩ : ∃ G, w.heap.size = G := ⟨_, rfl⟩
  have HG := Lib.hid hG
  clear hn
  go_enter Tryz.func101, Tryz.ntmps101
  go_wp2_with fail
  go_loopw [3, 11] (fun o i wr => ∃ (k : Nat) (ss : List Src), k ≤ n ∧ i = .int .i64 k ∧ o = .slice (some ⟨G, 0, none⟩) k n ∧ ss.length = k ∧ SBlk wr G (srcCells ss n) ∧ ss.map (·.r) = (ranks fs).take k ∧ (∀ s ∈ ss, SrcOk wr G s) ∧ (∀ s ∈ ss, w.heap.size ≤ s.ad.block) ∧ Below w.heap.size w wr)
    (fun _ i _ => n - (intOf i).toNat)
  case atStart =>
    refine ⟨0, [], Nat.zero_le _, rfl, rfl, rfl, ?_, by simp, by simp, by simp, (Below.refl _ _).alloc (Nat.le_refl _) _⟩
    rw [← HG.out]
    exact World.alloc_heap_new _ _
  case round =>
    obtain ⟨k, ss, hk, rfl, rfl, hsl, hS, hss, hso, hnew, hB⟩ := hrel
    have hsz := hB.size
    by_cases hlt : k < n
    · obtain ⟨ad, f, rfl, hf, h0, h1, h2, h3, h4⟩ := (h.below hB).get_ (k := k) (by rw [Hn.out]; exact hlt)
      have hfok : FOk f := hok f (List.mem_of_getElem? hf)
      have hnext : (ranks fs).take (k + 1) = (ranks fs).take k ++ [rankF f] := by
        rw [List.take_add_one]
        simp [ranks, hf]
      obtain ⟨q, hq⟩ : ∃ q, (rankF f).length = q := ⟨_, rfl⟩
      have hq32 : q ≤ 32 := by rw [← hq, rankF_len]; cases f.x <;> decide
      have hne : rankF f ≠ [] := by intro e; have := rankF_len f; rw [e] at this; cases hfx : f.x <;> rw [hfx] at this <;> cases this
      have HX := Lib.hid (And.intro hnext (And.intro hq (And.intro hsl (And.intro hss hG))))
      have HSO := Lib.hid (And.intro hso hnew)
      have HOK := Lib.hid hok
      have HNE := Lib.hid hne
      clear hnext hsl hss hf hso hok hne hG hnew
      go_wp2_with fail
      refine (rankF_at f hfok q hq _).mono ?_
      rintro e w1 ⟨ad1, c1, rfl, hr1, hc1, hB1, hfr1⟩
      have hfr1 : w.heap.size ≤ ad1.block := by simp at hfr1; omega
      obtain ⟨s, hs⟩ : ∃ s : Src, s = ⟨ad1, q, c1, rankF f⟩ := ⟨_, rfl⟩
      have hB1' := below_lit hB1
      have hS1 : SBlk w1 G (srcCells ss n) := hS.to hB1'
      obtain ⟨w2, hw2⟩ : ∃ w2, w1.alloc (.cells #[.func (.func 118) #[.slice (some ad1) q c1] #[]] 119) = w2 := ⟨_, rfl⟩
      have hB2 := below_lits hw2
      have hS2 : SBlk w2 G (srcCells ss n) := hS1.to hB2
      have hlen : (srcCells ss n).length = n := srcCells_len (by rw [HX.out.2.2.1]; omega)
      have hc2 : w2.cell? ⟨w1.heap.size, 0, none⟩ = some (.func (.func 118) #[.slice (some ad1) q c1] #[]) := by
        have := World.alloc_heap_new w1 (.cells #[.func (.func 118) #[.slice (some ad1) q c1] #[]] 119)
        rw [hw2] at this
        simp [World.cell?, this]
      have hrun := fun ty => run_append_src w2 ty G k n (srcCells ss n) hS2 hlen hlt ⟨w1.heap.size, 0, none⟩ 1 _ hc2 rfl
      have HRun := Lib.hid hrun
      have HW2 := Lib.hid hw2
      have HL := Lib.hid (And.intro hs hlen)
      clear hrun hc2 hw2 hs hlen hq h0 h1 h2 h3 h4
      go_wp2_with (at_builtin; rw [HW2.out]; refine Lib.wpList_append_run _ rfl _ _ _ _ rfl _ _ rfl rfl _ _ (HRun.out _) ?_)
      have hset : (srcCells ss n).set k (.func (.func 118) #[.slice (some ad1) q c1] #[]) = srcCells (ss ++ [s]) n := by
        have := srcCells_set (ss := ss) (n := n) (by rw [HX.out.2.2.1]; exact hlt) s
        rw [HX.out.2.2.1, HL.out.1] at this
        rw [HL.out.1]
        exact this
      have hg : wr.grownBy (w2.setRow G (srcCells (ss ++ [s]) n).toArray) (some G) := (below_grown (below_then hB1' hB2) _).trans (grown_setRow _ _ _)
      have hs1 : SrcOk w1 G s := by
        rw [HL.out.1]
        refine ⟨HX.out.2.1, hq32, ?_, hS1.ne (srcCells_fn _ _) hr1 HNE.out, hr1⟩
        rcases hr1 with e | ⟨ad', e, hb, _⟩
        · exact absurd e HNE.out
        · obtain rfl := Option.some.inj e
          exact hb
      rw [hset]
      refine ⟨⟨k + 1, ss ++ [s], by omega, by go_num, rfl, by simp [HX.out.2.2.1], hS2.set _, ?_, ?_, ?_, ?_⟩, by simp [intOf]; omega⟩
      · rw [List.map_append, HX.out.2.2.2.1, HX.out.1, HL.out.1]; rfl
      · intro s' hs'
        rcases List.mem_append.1 hs' with h' | h'
        · exact (HSO.out.1 s' h').to hg
        · obtain rfl : s' = s := by simpa using h'
          exact hs1.to ((below_grown hB2 _).trans (grown_setRow _ _ _))
      · intro s' hs'
        rcases List.mem_append.1 hs' with h' | h'
        · exact HSO.out.2 s' h'
        · obtain rfl : s' = s := by simpa using h'
          rw [HL.out.1]
          exact hfr1
      · exact (hB.trans ((below_then hB1' hB2).mono hsz)).trans (below_setRow _ (by rw [HG.out]; exact Nat.le_refl _))
    · obtain rfl : k = n := by omega
      go_wp2
      go_ret
      refine ⟨G, ss, rfl, by rw [HG.out]; exact Nat.le_refl _, ?_, ?_, hso, hnew, hB⟩
      · have : srcCells ss k = ss.map Src.v := by simp [srcCells, hsl]
        rw [this] at hS
        exact hS
      · rw [hss, List.take_of_length_le (by simp [ranks]; exact Nat.le_of_eq Hn.out)]
theorem own_grown {w w' : World} {base : Nat} {e : TypeId} {size : Nat} {v : Value} {n G : Nat} {xs : List Value} (h : w.ownsRow base e size v n xs) (g : w.grownBy w' (some G)) (hG : G < base) : w'.ownsRow base e size v n xs := by
  refine ⟨h.1, ?_⟩
  rcases h.2 with h0 | ⟨b, cap, cur, hv, hb, hg, hrest⟩
  · exact .inl h0
  · exact .inr ⟨b, cap, cur, hv, hb, (g.block b (Array.getElem?_eq_some_iff.1 hg).1 (by simp; omega)).trans hg, hrest⟩
theorem below_of_grown' {w w1 wr : World} {G : Nat} (b : Below w.heap.size w w1) (g : w1.grownBy wr (some G)) (hG : w.heap.size ≤ G) : Below w.heap.size w wr :=
  ⟨g.os.trans b.os, g.tape.trans b.tape, g.output.trans b.output, Nat.le_trans b.size g.size, fun k hk => (g.block k (by have := b.size; omega) (by simp; omega)).trans (b.block k hk)⟩
def low (x : Int) : Int := bits .and .i64 x 1
def lowM (M : Nat) (l : List Int) : List Int := (l.take M).map low
theorem lessGo_any (a b : List Int) (n m : Nat) (hn : a.length = n) (hm : b.length = m) (A A' : Option Addr) (c c' : Nat) (w : World) (h : Row .i64 w w.heap.size A a) (h' : Row .i64 w w.heap.size A' b) (hl : n ≤ 1000) (hlb : m ≤ 1000) (q : Bool) (hq : lessB a b = q) :
    Calls Tryz.prog 31 #[.slice A n c, .slice A' m c'] w fun e w' => e = .returned (.bool q) ∧ Below w.heap.size w w' := by
  have Hq := Lib.hid (And.intro hq (And.intro hn hm))
  clear hq hn hm
  go_enter Tryz.func31, Tryz.ntmps31
  go_wp2
  go_loopw [5] (fun i wr => ∃ k j : Nat, k ≤ n ∧ k ≤ m ∧ i = .int .i64 k ∧ a.take k = b.take k ∧ wr = w.drewN j) (fun i _ => n - (intOf i).toNat)
  case atStart => exact ⟨0, 0, Nat.zero_le _, Nat.zero_le _, rfl, by simp, rfl⟩
  case round =>
    obtain ⟨k, j, hk, hk2, rfl, hr, rfl⟩ := hrel
    have Hr := Lib.hid hr
    clear hr
    by_cases hlt : k < n
    · by_cases hlt2 : k < m
      · obtain ⟨ad, x, rfl, hx, hc⟩ := h.get_ (k := k) (by rw [Hq.out.2.1]; exact hlt)
        obtain ⟨ad', y, rfl, hy, hc'⟩ := h'.get_ (k := k) (by rw [Hq.out.2.2]; exact hlt2)
        have Hx := Lib.hid (And.intro hx hy)
        clear hx hy
        by_cases hxy : x = y
        · have hd2 : (x != y) = false := by simp [hxy]
          have Hxy := Lib.hid hxy
          clear hxy
          go_wp2
          go_quiet (fail)
          go_wp2
          exact ⟨⟨k + 1, _, by omega, by omega, by go_num, take_next Hr.out (by rw [Hx.out.1, Hx.out.2, Hxy.out]), rfl⟩, by simp [intOf]; omega⟩
        · have hd2 : (x != y) = true := by simp [hxy]
          have hl2 : lessB a b = decide (x < y) := lessB_at k a b x y Hr.out Hx.out.1 Hx.out.2 hxy
          rw [Hq.out.1] at hl2
          have hd3 : decide (x < y) = q := hl2.symm
          have Hxy := Lib.hid hxy
          clear hxy hl2
          go_wp2
          go_quiet (fail)
          go_wp2
          go_quiet (fail)
          go_wp2
          go_ret
          exact ⟨rfl, by first | exact below_drewN0 _ _ | (rw [World.drewN_drewN]; exact below_drewN0 _ _) | (rw [World.drewN_drewN, World.drewN_drewN]; exact below_drewN0 _ _)⟩
      · have hf : false = q := by rw [← Hq.out.1]; exact (lessB_end k a b Hr.out (.inr (by rw [Hq.out.2.2]; omega))).symm
        subst hf
        go_wp2
        go_ret
        exact ⟨rfl, below_drewN0 _ _⟩
    · have hf : false = q := by rw [← Hq.out.1]; exact (lessB_end k a b Hr.out (.inl (by rw [Hq.out.2.1]; omega))).symm
      subst hf
      go_wp2
      go_ret
      exact ⟨rfl, below_drewN0 _ _⟩
theorem refRankF_at (f : FV) (hf : FOk f) (n : Nat) (hn : (rankF f).length = n) (w : World) :
    Calls Tryz.prog 32 #[f.v] w fun e w' => ∃ A' c', e = .returned (.slice A' n c') ∧ Row .i64 w' w'.heap.size A' (rankF f) ∧ n ≤ c' ∧ Below w.heap.size w w' := by
  obtain ⟨x, i, r, m, a, l, c⟩ := f
  obtain ⟨ID, rfl, hID⟩ := hf
  have e : rn x = n := by rw [← hn, rankF_len]
  subst e
  cases x
  · refine (refRankS_at ID r m a l c hID w).mono ?_
    rintro e w' ⟨A', c', rfl, h1, h2, h3⟩
    exact ⟨A', c', rfl, by simpa [rankF, rankV] using h1, h2, h3⟩
  · refine (refRankX_at ID r m a l c hID w).mono ?_
    rintro e w' ⟨A', c', rfl, h1, h2, h3⟩
    exact ⟨A', c', rfl, by simpa [rankF, rankV] using h1, h2, h3⟩
theorem and_mask (i : Int) (M : Nat) (hM : M < 4611686018427387904) : ∃ U : Nat, bits .and .i64 i M = U ∧ U ≤ M := by
  refine ⟨(BitVec.ofInt 64 i).toNat &&& M, ?_, Nat.and_le_right⟩
  have e : bits .and .i64 i M = IntKind.i64.wrap ((BitVec.ofInt 64 i &&& BitVec.ofInt 64 (M : Int)).toNat : Int) := rfl
  have hle : (BitVec.ofInt 64 i).toNat &&& M ≤ M := Nat.and_le_right
  rw [e, BitVec.ofInt_natCast, BitVec.toNat_and, BitVec.toNat_ofNat, Nat.mod_eq_of_lt (show M < 2 ^ 64 by omega), IntKind.wrap_i64]
  omega
def idm (x : Bool) (i : Int) : Int := if x then bits .and .i64 i 536870911 else bits .and .i64 i 2047
theorem idm_ok (x : Bool) (i : Int) : ∃ U : Nat, idm x i = U ∧ idOk x U := by
  cases x
  · obtain ⟨U, h1, h2⟩ := and_mask i 2047 (by omega)
    exact ⟨U, h1, by simp [idOk]; omega⟩
  · obtain ⟨U, h1, h2⟩ := and_mask i 536870911 (by omega)
    exact ⟨U, h1, by simp [idOk]; omega⟩
structure MadeOf (w' : World) (f f' : FV) : Prop where
  x : f'.x = f.x
  r : f'.r = f.r
  i : f'.i = idm f.x f.i
  small : f'.m ≤ 8
  cap : f'.m ≤ f'.c
  data : ∃ dl : List Int, dl.length = f'.m ∧ Row .u8 w' w'.heap.size f'.a dl
theorem blk2 (w : World) (o1 o2 o3 : Obj) : (((w.alloc o1).alloc o2).alloc o3).heap[w.heap.size + 1]? = some o2 :=
  block_below (below_alloc1 _ _) (by have := World.alloc_heap_new (w.alloc o1) o2; simpa using this)
theorem blk2' (w : World) (o1 o2 o3 o4 : Obj) : ((((w.alloc o1).alloc o2).alloc o3).alloc o4).heap[w.heap.size + 1]? = some o2 :=
  block_below (below_alloc1 _ _) (blk2 w o1 o2 o3)
theorem blk3 (w : World) (o1 o2 o3 o4 : Obj) : ((((w.alloc o1).alloc o2).alloc o3).alloc o4).heap[w.heap.size + 1 + 1]? = some o3 :=
  block_below (below_alloc1 _ _) (by have := World.alloc_heap_new ((w.alloc o1).alloc o2) o3; simpa using this)
theorem below3 (w : World) (o1 o2 o3 : Obj) : Below w.heap.size w (((w.alloc o1).alloc o2).alloc o3) := below_then (below_then (below_alloc1 _ _) (below_alloc1 _ _)) (below_alloc1 _ _)
theorem below4 (w : World) (o1 o2 o3 o4 : Obj) : Below w.heap.size w ((((w.alloc o1).alloc o2).alloc o3).alloc o4) := below_then (below3 _ _ _ _) (below_alloc1 _ _)
theorem own_empty (κ : IntKind) (W : World) (base g : Nat) (t : TypeId) (hg : g = W.heap.size) (hb : base ≤ W.heap.size) : (W.alloc (.cells #[] t)).ownsRow base t 1 (.slice (some ⟨g, 0, none⟩) 0 0) 0 (([] : List Int).map (Value.int κ)) := by
  subst hg
  exact ⟨rfl, .inr ⟨W.heap.size, 0, _, rfl, hb, World.alloc_heap_new _ _, Nat.zero_le _, by decide, by simp, by simp⟩⟩
theorem Tryz.infoU8 : (Tryz.prog.info? 5).map (fun i => (i.zero, i.size, i.bytes)) = some (some (.int .u8 0), 1, 1) := by kernel_rfl
def fcells (fs : List FV) : List Value := fs.flatMap FV.cs
theorem fcells_len (fs : List FV) : (fcells fs).length = fs.length * 5 := by
  induction fs with
  | nil => rfl
  | cons f fs ih => simp only [fcells, List.flatMap_cons, List.length_append, List.length_cons] at ih ⊢; rw [ih]; simp [FV.cs]; omega
theorem fcells_app (a b : List FV) : fcells (a ++ b) = fcells a ++ fcells b := by simp [fcells]
theorem fcells_at : ∀ (fs : List FV) (k : Nat) (f : FV), fs[k]? = some f → (fcells fs)[k * 5]? = some (.bool f.x) ∧ (fcells fs)[k * 5 + 1]? = some (.int .i64 f.i) ∧ (fcells fs)[k * 5 + 2]? = some (.bool f.r) ∧ (fcells fs)[k * 5 + 3]? = some (.int .i64 f.n) ∧ (fcells fs)[k * 5 + 4]? = some (.slice f.a f.m f.c)
  | [], k, f, h => by simp at h
  | g :: fs, 0, f, h => by
    simp at h
    subst h
    simp [fcells, FV.cs]
  | g :: fs, k + 1, f, h => by
    obtain ⟨h0, h1, h2, h3, h4⟩ := fcells_at fs k f (by simpa using h)
    have e : fcells (g :: fs) = FV.cs g ++ fcells fs := rfl
    have hl : (FV.cs g).length = 5 := rfl
    rw [e]
    refine ⟨?_, ?_, ?_, ?_, ?_⟩
    · rw [List.getElem?_append_right (by omega), hl, show (k + 1) * 5 - 5 = k * 5 by omega]; exact h0
    · rw [List.getElem?_append_right (by omega), hl, show (k + 1) * 5 + 1 - 5 = k * 5 + 1 by omega]; exact h1
    · rw [List.getElem?_append_right (by omega), hl, show (k + 1) * 5 + 2 - 5 = k * 5 + 2 by omega]; exact h2
    · rw [List.getElem?_append_right (by omega), hl, show (k + 1) * 5 + 3 - 5 = k * 5 + 3 by omega]; exact h3
    · rw [List.getElem?_append_right (by omega), hl, show (k + 1) * 5 + 4 - 5 = k * 5 + 4 by omega]; exact h4
theorem fcells_one (fs : List FV) : ∀ u ∈ fcells fs, u.oneCell' = true := by
  intro u hu
  obtain ⟨f, _, hf⟩ := List.mem_flatMap.1 hu
  simp only [FV.cs, List.mem_cons, List.not_mem_nil, or_false] at hf
  rcases hf with rfl | rfl | rfl | rfl | rfl <;> rfl
abbrev FOwn (w : World) (base : Nat) (A : Option Addr) (n c : Nat) (fs : List FV) : Prop := w.ownsRow base 34 5 (.slice A n c) n (fcells fs)
theorem add_pos (a : Addr) (i : Nat) (h : 0 < i) : a.add i = ⟨a.block, a.off + i, none⟩ := by
  unfold Addr.add
  split
  · omega
  · rfl
theorem FRow.cells {w : World} {B : Nat} {ad : Addr} {fs : List FV} (h : FRow w B (some ad) fs) : ∀ j u, (fcells fs)[j]? = some u → w.cell? (ad.add j) = some u := by
  intro j u hu
  rcases h with rfl | ⟨ad', e, _, hc⟩
  · simp [fcells] at hu
  · obtain rfl := Option.some.inj e
    have hj : j < fs.length * 5 := by rw [← fcells_len]; exact (List.getElem?_eq_some_iff.1 hu).1
    obtain ⟨f, hf⟩ : ∃ f, fs[j / 5]? = some f := ⟨_, List.getElem?_eq_getElem (by omega)⟩
    obtain ⟨h0, h1, h2, h3, h4⟩ := fcells_at fs (j / 5) f hf
    obtain ⟨g0, g1, g2, g3, g4⟩ := hc (j / 5) f hf
    have key : ∀ i, 0 < i → ad.add (j / 5 * 5 + i) = ⟨(ad.add (j / 5 * 5)).block, (ad.add (j / 5 * 5)).off + i, none⟩ := by
      intro i h0
      rw [← addr_add, add_pos _ _ h0]
    obtain ⟨K, hK⟩ : ∃ K, j / 5 = K := ⟨_, rfl⟩
    rw [hK] at h0 h1 h2 h3 h4 g0 g1 g2 g3 g4 key
    have hr : j = K * 5 ∨ j = K * 5 + 1 ∨ j = K * 5 + 2 ∨ j = K * 5 + 3 ∨ j = K * 5 + 4 := by omega
    clear hK hf hj
    rcases hr with rfl | rfl | rfl | rfl | rfl
    · rw [h0] at hu
      rw [← Option.some.inj hu]
      exact g0
    · rw [h1] at hu
      rw [key 1 (by omega), ← Option.some.inj hu]
      exact g1
    · rw [h2] at hu
      rw [key 2 (by omega), ← Option.some.inj hu]
      exact g2
    · rw [h3] at hu
      rw [key 3 (by omega), ← Option.some.inj hu]
      exact g3
    · rw [h4] at hu
      rw [key 4 (by omega), ← Option.some.inj hu]
      exact g4
theorem add0 (g k : Nat) : (⟨g, 0, none⟩ : Addr).add k = ⟨g, k, none⟩ := by unfold Addr.add; split <;> simp_all
theorem FRow.of_cells {w : World} {g : Nat} {fs : List FV} (hg : g < w.heap.size) (h : ∀ j u, (fcells fs)[j]? = some u → w.cell? ((⟨g, 0, none⟩ : Addr).add j) = some u) : FRow w w.heap.size (some ⟨g, 0, none⟩) fs := by
  refine .inr ⟨_, rfl, hg, fun k f hf => ?_⟩
  obtain ⟨h0, h1, h2, h3, h4⟩ := fcells_at fs k f hf
  have e : ∀ i, (⟨g, 0, none⟩ : Addr).add (k * 5 + i) = ⟨((⟨g, 0, none⟩ : Addr).add (k * 5)).block, ((⟨g, 0, none⟩ : Addr).add (k * 5)).off + i, none⟩ := by
    intro i
    rw [add0, add0]
  exact ⟨h _ _ h0, by rw [← e]; exact h _ _ h1, by rw [← e]; exact h _ _ h2, by rw [← e]; exact h _ _ h3, by rw [← e]; exact h _ _ h4⟩
theorem FRow.own {w : World} {base : Nat} {A : Option Addr} {n c : Nat} {fs : List FV} (h : FOwn w base A n c fs) : FRow w w.heap.size A fs := by
  rcases h.2 with ⟨e1, e2⟩ | ⟨g, cap, cur, e1, hb, hg, _, _, _, ht⟩
  · left
    have := h.1
    rw [fcells_len] at this
    cases fs with
    | nil => rfl
    | cons f fs => simp at this; omega
  · have hA : A = some ⟨g, 0, none⟩ := by injection e1
    subst hA
    exact FRow.of_cells (Array.getElem?_eq_some_iff.1 hg).1 (h.cells (g := g) rfl)
theorem FOwn.len {w : World} {base : Nat} {A : Option Addr} {n c : Nat} {fs : List FV} (h : FOwn w base A n c fs) : fs.length = n := by
  have := h.1
  rw [fcells_len] at this
  omega
theorem FOwn.cap {w : World} {base : Nat} {A : Option Addr} {n c : Nat} {fs : List FV} (h : FOwn w base A n c fs) : n ≤ c := by
  rcases h.2 with ⟨e1, e2⟩ | ⟨g, cap, cur, e1, hb, hg, hn, _⟩
  · omega
  · injection e1 with _ _ e; omega
theorem FRow.sub_ {w : World} {B : Nat} {A : Option Addr} {fs : List FV} (h : FRow w B A fs) (i j : Nat) (hij : i ≤ j) (hj : j ≤ fs.length) {A' : Option Addr} (hA : i < j → A' = A.map (·.add (i * 5))) : FRow w B A' ((fs.drop i).take (j - i)) := by
  by_cases hlt : i < j
  · rcases h with rfl | ⟨ad, e, hb, hc⟩
    · simp at hj; omega
    · right
      subst e
      refine ⟨ad.add (i * 5), by rw [hA hlt]; rfl, by rw [addr_block]; exact hb, fun k x hx => ?_⟩
      rw [addr_add, show i * 5 + k * 5 = (i + k) * 5 by omega]
      refine hc _ x ?_
      rw [List.getElem?_take] at hx
      split at hx
      · rw [List.getElem?_drop] at hx; exact hx
      · cases hx
  · left
    rw [show j - i = 0 by omega]; simp
theorem Tryz.infoFr : (Tryz.prog.info? 34).map (fun i => (i.zero, i.size, i.bytes)) = some (some (.agg #[.bool false, .int .i64 0, .bool false, .int .i64 0, .slice none 0 0]), 5, 56) := by kernel_rfl
theorem run_append_fr (w : World) (base : Nat) (ty : TypeId) (v : Value) (n : Nat) (fs : List FV) (hown : w.ownsRow base 34 5 v n (fcells fs))
    (A : Option Addr) (m c B : Nat) (fs' : List FV) (hm : fs'.length = m) (hr : FRow w B A fs') (h63 : n + m ≤ 1000) (hbase : base ≤ w.heap.size) :
    ∃ A' c' w', (Builtin.append_ #[44, 44] ty #[v, .slice A m c]).run Tryz.prog w = .ok (.slice A' (n + m) c') w' ∧ FOwn w' base A' (n + m) c' (fs ++ fs') ∧ n + m ≤ c' ∧ Below base w w' := by
  obtain ⟨i, hi, hz, hsize, hby⟩ := info_parts Tryz.infoFr
  have hu := Tryz.underlying44
  have form : ∀ (v' : Value) (w' : World), w'.ownsRow base 34 5 v' (n + m) (fcells (fs ++ fs')) → ∃ A' c', v' = .slice A' (n + m) c' ∧ n + m ≤ c' := by
    intro v' w' h
    rcases h.2 with ⟨rfl, h0⟩ | ⟨g, cap, cur, rfl, _, _, hc, _⟩
    · exact ⟨none, 0, by rw [h0], by omega⟩
    · exact ⟨_, _, rfl, hc⟩
  have low : ∀ k, v.ownBlock = some k → base ≤ k := fun k e => (hown.lt k e).1
  cases A with
  | some ad =>
    obtain ⟨v', w', hrun, h2, h3, _, _⟩ := run_append_own_at (P := Tryz.prog) w base 44 ty 34 i _ 5 56 hu hi hz hsize hby rfl (by omega) v n _ hown ad m c (fcells fs') (by rw [fcells_len, hm]) hr.cells (fcells_one fs') (by unfold maxLen; omega) (by omega) hbase
    rw [← fcells_app] at h2
    obtain ⟨A', c', rfl, hc'⟩ := form v' w' h2
    exact ⟨A', c', w', hrun, h2, hc', (Below.refl _ _).grown h3 hbase low⟩
  | none =>
    obtain rfl : fs' = [] := by
      rcases hr with rfl | ⟨ad, e', _⟩
      · rfl
      · cases e'
    obtain rfl : m = 0 := hm.symm
    have hrun : (Builtin.append_ #[44, 44] ty #[v, .slice none 0 c]).run Tryz.prog w = .ok v w := by
      rcases hown.2 with ⟨rfl, rfl⟩ | ⟨g, cap, cur, rfl, _, _, hnc, _⟩
      · simp [Builtin.append_, run_underlying hu, sizeOf, typeInfo, hi, Builtin.lenOf, Builtin.firstCells]
      · simp [Builtin.append_, run_underlying hu, sizeOf, typeInfo, hi, Builtin.lenOf, Builtin.firstCells, hnc, storeCells]
    have h2 : w.ownsRow base 34 5 v (n + 0) (fcells (fs ++ [])) := by simpa using hown
    obtain ⟨A', c', rfl, hc'⟩ := form v w h2
    exact ⟨A', c', w, hrun, h2, hc', Below.refl _ _⟩
theorem wpList_append_fr (w : World) {ops : Array Oper} {rest : List Oper} {o : Oper} {a : Act} {Q : Exit → Act → World → Prop} (hw : Region.wanted o (yielded ops a.tmps) = true) (s x : Operand)
    (ho : o.op = .call { callee := .builtin .append, args := #[s, x], argTypes := #[44, 44] })
    (base : Nat) (v : Value) (n : Nat) (fs : List FV) (hs : a.eval s = v) (hown : w.ownsRow base 34 5 v n (fcells fs))
    (A : Option Addr) (m c B : Nat) (fs' : List FV) (hx : a.eval x = .slice A m c) (hm : fs'.length = m) (hr : FRow w B A fs')
    (h63 : n + m ≤ 1000) (hbase : base ≤ w.heap.size)
    (h : ∀ A' c' w', FOwn w' base A' (n + m) c' (fs ++ fs') → n + m ≤ c' → Below base w w' → wpList Tryz.prog ops Q rest (a.put o.dst (.slice A' (n + m) c')) w') : wpList Tryz.prog ops Q (o :: rest) a w := by
  obtain ⟨A', c', w', hrun, h2, hc', h3⟩ := run_append_fr w base o.type v n fs hown A m c B fs' hm hr h63 hbase
  unfold wpList
  rw [if_pos hw]
  left
  unfold Oper.wp execOp
  simp only [ho, resolve, invoke, builtin, Sem.run_bind, Sem.run_pure, Result.andThen_ok, List.map_toArray, List.map_cons, List.map_nil, hs, hx, hrun]
  exact h A' c' w' h2 hc' h3
theorem FRow.lit1 (W : World) (f : FV) {k : Nat} (hk : k = W.heap.size) : FRow (W.alloc (.cells #[.bool f.x, .int .i64 f.i, .bool f.r, .int .i64 f.n, .slice f.a f.m f.c] 34)) (W.alloc (.cells #[.bool f.x, .int .i64 f.i, .bool f.r, .int .i64 f.n, .slice f.a f.m f.c] 34)).heap.size (some ⟨k, 0, none⟩) [f] := by
  subst hk
  refine FRow.of_cells (by simp) fun j u hu => ?_
  rw [add0]
  have hb := World.alloc_heap_new W (.cells #[.bool f.x, .int .i64 f.i, .bool f.r, .int .i64 f.n, .slice f.a f.m f.c] 34)
  simp only [World.cell?, hb]
  simpa [fcells, FV.cs] using hu
theorem fown_empty (W : World) (base g : Nat) (hg : g = W.heap.size) (hb : base ≤ W.heap.size) : FOwn (W.alloc (.cells #[] 34)) base (some ⟨g, 0, none⟩) 0 0 [] := by
  subst hg
  exact ⟨rfl, .inr ⟨W.heap.size, 0, _, rfl, hb, World.alloc_heap_new _ _, Nat.zero_le _, by decide, by simp, by simp [fcells]⟩⟩
def FData (w : World) (f : FV) : Prop := f.m ≤ maxLen ∧ f.m ≤ f.c ∧ ∃ dl : List Int, dl.length = f.m ∧ Row .u8 w w.heap.size f.a dl
theorem rightB_app (a b : List Int) : rightB (a ++ b) = (rightB a && rightB b) := by simp [rightB]
theorem flag_right (r : Bool) : rightB [flag r] = true := by cases r <;> decide
theorem flag_right2 (r : Bool) : rightB [flag r, 0] = true := by cases r <;> decide
theorem rankV_right (x : Bool) (ID : Nat) (r : Bool) : rightB (rankV x ID r) = true := by
  cases x
  · simp only [rankV, rankS, Bool.false_eq_true, if_false]
    rw [rightB_app, bitRow_right, flag_right2]; rfl
  · simp only [rankV, rankX, if_true]
    rw [rightB_app, rightB_app, rightB_app, bitRow_right, bitRow_right, flag_right]; decide
theorem rankF_right (f : FV) : rightB (rankF f) = true := rankV_right _ _ _
theorem rankF_ne (f : FV) : rankF f ≠ [] := by
  intro e
  have := rankF_len f
  rw [e] at this
  cases h : f.x <;> rw [h] at this <;> cases this
theorem rankF_le (f : FV) : (rankF f).length ≤ 32 := by rw [rankF_len]; cases f.x <;> decide
theorem first_diff : ∀ (m : Nat) (a b : List Int), m ≤ a.length → m ≤ b.length → a.take m ≠ b.take m → ∃ k x y, k < m ∧ a.take k = b.take k ∧ a[k]? = some x ∧ b[k]? = some y ∧ x ≠ y
  | 0, a, b, _, _, h => absurd (by simp) h
  | m + 1, [], b, h, _, _ => by simp at h
  | m + 1, _ :: _, [], _, h, _ => by simp at h
  | m + 1, x :: a, y :: b, ha, hb, h => by
    by_cases e : x = y
    · subst e
      obtain ⟨k, u, v, h1, h2, h3, h4, h5⟩ := first_diff m a b (by simpa using ha) (by simpa using hb) (by simpa using h)
      exact ⟨k + 1, u, v, by omega, by simp [h2], by simpa using h3, by simpa using h4, h5⟩
    · exact ⟨0, x, y, by omega, by simp, by simp, by simp, e⟩
theorem cmp_of {a b : List Int} (ha : rightB a = true) (hb : rightB b = true) {k : Nat} {x y : Int} (h1 : a.take k = b.take k) (h2 : a[k]? = some x) (h3 : b[k]? = some y) (h4 : x ≠ y) : lessR a b ∨ lessR b a := by
  rcases rightB_at ha h2 with rfl | rfl <;> rcases rightB_at hb h3 with rfl | rfl
  · exact absurd rfl h4
  · exact .inl ⟨k, h1, h2, h3⟩
  · exact .inr ⟨k, h1.symm, h3, h2⟩
  · exact absurd rfl h4
theorem rank_cmp {f g : FV} (hf : FOk f) (hg : FOk g) : rankF f = rankF g ∨ lessR (rankF f) (rankF g) ∨ lessR (rankF g) (rankF f) := by
  obtain ⟨a, ha, ia⟩ := hf
  obtain ⟨b, hb, ib⟩ := hg
  have ea : rankF f = rankV f.x a f.r := by unfold rankF; rw [ha]; simp
  have eb : rankF g = rankV g.x b g.r := by unfold rankF; rw [hb]; simp
  rw [ea, eb]
  by_cases h : (rankV f.x a f.r).take (min (rn f.x) (rn g.x)) = (rankV g.x b g.r).take (min (rn f.x) (rn g.x))
  · obtain ⟨h1, h2, h3⟩ := (rankV_pre ia ib).1 h
    left
    rw [h1, h2, h3]
  · right
    obtain ⟨k, x, y, _, h1, h2, h3, h4⟩ := first_diff _ _ _ (by rw [rankV_len]; omega) (by rw [rankV_len]; omega) h
    exact cmp_of (rankV_right _ _ _) (rankV_right _ _ _) h1 h2 h3 h4
theorem ranks_mem {fs : List FV} {r : List Int} (h : r ∈ ranks fs) : ∃ f ∈ fs, rankF f = r := by
  obtain ⟨f, h1, h2⟩ := List.mem_map.1 h
  exact ⟨f, h1, h2⟩
theorem least_fs (fs : List FV) (hok : ∀ f ∈ fs, FOk f) : ∃ W q, LeastE W (ranks fs) ∧ W.length = q ∧ q ≤ 32 := by
  obtain ⟨W, hW⟩ := least_ex (ranks fs) (fun a ha b hb => by
      obtain ⟨f, hf, rfl⟩ := ranks_mem ha
      obtain ⟨g, hg, rfl⟩ := ranks_mem hb
      exact rank_cmp (hok f hf) (hok g hg)) (fun r hr => by
      obtain ⟨f, hf, rfl⟩ := ranks_mem hr
      exact rankF_right f) (fun r hr => by
      obtain ⟨f, hf, rfl⟩ := ranks_mem hr
      exact rankF_ne f)
  refine ⟨W, _, hW, rfl, ?_⟩
  by_cases e : W = []
  · rw [e]; simp
  · obtain ⟨f, _, hf⟩ := ranks_mem (hW.mem e)
    rw [← hf]
    exact rankF_le f
theorem least_of (fs : List FV) (hok : ∀ f ∈ fs, FOk f) (f0 : FV) (h0 : f0 ∈ fs) (h : ∀ f ∈ fs, lessB (rankF f) (rankF f0) = false) : LeastE (rankF f0) (ranks fs) where
  all := by
    intro r hr
    obtain ⟨f, hf, rfl⟩ := ranks_mem hr
    rcases rank_cmp (hok f hf) (hok f0 h0) with e | e | e
    · exact .inl e
    · have := h f hf
      rw [lessB_yes e] at this
      cases this
    · exact .inr e
  mem := fun _ => List.mem_map.2 ⟨f0, h0, rfl⟩
  right := fun r hr => by
    obtain ⟨f, hf, rfl⟩ := ranks_mem hr
    exact rankF_right f
  rw_ := rankF_right f0
  none_ := fun e => by
    have : rankF f0 ∈ ranks fs := List.mem_map.2 ⟨f0, h0, rfl⟩
    rw [e] at this
    cases this
  pos := fun r hr => by
    obtain ⟨f, hf, rfl⟩ := ranks_mem hr
    exact rankF_ne f
theorem Row.at_ {κ : IntKind} {w : World} {B : Nat} {ad : Addr} {l : List Int} (h : Row κ w B (some ad) l) {k : Nat} {x : Int} (hx : l[k]? = some x) : w.cell? (ad.add k) = some (.int κ x) := by
  rcases h with rfl | ⟨ad', e, _, hc⟩
  · simp at hx
  · cases e
    exact hc k x hx
def TwoRows (v v2 : Value) : Prop := ∀ g, v.ownBlock = some g → v2.ownBlock ≠ some g
theorem own_low {w : World} {base base' : Nat} {e : TypeId} {size : Nat} {v : Value} {n : Nat} {xs : List Value} (h : w.ownsRow base e size v n xs) (hb : base' ≤ base) : w.ownsRow base' e size v n xs := by
  refine ⟨h.1, ?_⟩
  rcases h.2 with h0 | ⟨g, cap, cur, hv, hg, hrest⟩
  · exact .inl h0
  · exact .inr ⟨g, cap, cur, hv, by omega, hrest⟩
def firstD : List Int → List Int → Int
  | a :: s, b :: t => if a - b = 0 then firstD s t else a - b
  | _, _ => 0
theorem firstD_nil (t : List Int) : firstD [] t = 0 := by simp [firstD]
theorem firstD_nil' (s : List Int) : firstD s [] = 0 := by cases s <;> simp [firstD]
end Go.Proofs.YtcifjccojmfpaaaGreat

