/-
  Slices of whole numbers that read as lists (nil let in), rows of bits, appends, and what is left as it was: no function of the program's.
-/
import Derived.WalkKit
import Derived.WalkSpells
import Derived.WalkLawsBesides
import Derived.Deep.QuietTactic
import Derived.BigQuiet
import Derived.Deep.Draws
import Derived.Lib.Hide
import Derived.Laws.BitsAllLaws
import Derived.Laws.BitsLemmas
import Derived.Maps.AppendAt
import Derived.OwnWalk
import Derived.Below
import Derived.RangeFuncBox
import Derived.Test.YtlbgilbigcnleaaProg
namespace Go.Proofs.Ytlbgilbigcnleaa
open Go.RowKit

/-- The slice with address A holds the numbers l, of kind κ, in a block below B; of an empty one nothing is said. -/
def Row (κ : IntKind) (w : World) (B : Nat) (A : Option Addr) (l : List Int) : Prop :=
  l = [] ∨ ∃ ad, A = some ad ∧ ad.block < B ∧ ∀ k x, l[k]? = some x → w.cell? (ad.add k) = some (.int κ x)

theorem addr_block (a : Addr) (n : Nat) : (a.add n).block = a.block := by unfold Addr.add; split <;> rfl
theorem addr_add (a : Addr) (i j : Nat) : (a.add i).add j = a.add (i + j) := by
  unfold Addr.add
  by_cases hi : i = 0 <;> by_cases hj : j = 0 <;> simp [hi, hj, Nat.add_assoc]

section
variable {κ : IntKind} {w w' : World} {B B' : Nat} {A : Option Addr} {l : List Int}
theorem Row.none_ : Row κ w B A [] := .inl rfl
theorem Row.get_ (h : Row κ w B A l) {k : Nat} (hk : k < l.length) : ∃ ad x, A = some ad ∧ l[k]? = some x ∧ w.cell? (ad.add k) = some (.int κ x) := by
  rcases h with rfl | ⟨ad, e, _, hc⟩
  · simp at hk
  · exact ⟨ad, l[k], e, List.getElem?_eq_getElem hk, hc k _ (List.getElem?_eq_getElem hk)⟩
theorem Row.move (h : Row κ w B A l) (hk : ∀ p : Addr, p.block < B → w'.cell? p = w.cell? p) : Row κ w' B A l := by
  rcases h with rfl | ⟨ad, e, hb, hc⟩
  · exact .inl rfl
  · exact .inr ⟨ad, e, hb, fun k x hx => (hk _ (by rw [addr_block]; exact hb)).trans (hc k x hx)⟩
theorem Row.more (h : Row κ w B A l) (hB : B ≤ B') : Row κ w B' A l := by
  rcases h with rfl | ⟨ad, e, hb, hc⟩
  · exact .inl rfl
  · exact .inr ⟨ad, e, by omega, hc⟩
theorem Row.below (h : Row κ w B A l) (hb : Below B w w') : Row κ w' B A l := h.move fun _ hp => hb.cell hp
theorem Row.alloc (h : Row κ w B A l) (hB : B ≤ w.heap.size) (o : Obj) : Row κ (w.alloc o) B A l := h.below ((Below.refl _ _).alloc hB o)
/-- What the call itself made reads so. -/
theorem Row.own {base : Nat} {e : TypeId} {n c m : Nat} (h : w.ownsRow base e 1 (.slice A m c) n (l.map (Value.int κ))) : Row κ w w.heap.size A l := by
  rcases h.2 with ⟨e1, e2⟩ | ⟨g, cap, cur, e1, hb, hg, _, _, _, ht⟩
  · left
    have := h.1
    simp [e2] at this
    exact this
  · right
    have hA : A = some ⟨g, 0, none⟩ := by injection e1
    subst hA
    refine ⟨_, rfl, (Array.getElem?_eq_some_iff.1 hg).1, fun k x hx => ?_⟩
    exact h.cells (g := g) rfl k _ (by simp [hx])
theorem Row.sub_ (h : Row κ w B A l) (i j : Nat) (hij : i ≤ j) (hj : j ≤ l.length) {A' : Option Addr} (hA : i < j → A' = A.map (·.add i)) : Row κ w B A' ((l.drop i).take (j - i)) := by
  by_cases hlt : i < j
  · rcases h with rfl | ⟨ad, e, hb, hc⟩
    · simp at hj; omega
    · right
      subst e
      refine ⟨ad.add i, by rw [hA hlt]; rfl, by rw [addr_block]; exact hb, fun k x hx => ?_⟩
      rw [addr_add]
      refine hc _ x ?_
      rw [List.getElem?_take] at hx
      split at hx
      · rw [List.getElem?_drop] at hx; exact hx
      · cases hx
  · left
    rw [show j - i = 0 by omega]; simp
end

/-- A row of bits? -/
def rightB (l : List Int) : Bool := l.all fun x => decide (x = 0 ∨ x = 1)
theorem rightB_snoc (l : List Int) (x : Int) : rightB (l ++ [x]) = (rightB l && decide (x = 0 ∨ x = 1)) := by simp [rightB]
theorem rightB_at {l : List Int} (h : rightB l = true) {k : Nat} {x : Int} (hx : l[k]? = some x) : x = 0 ∨ x = 1 := by
  have := (List.all_eq_true.1 h) x (List.mem_of_getElem? hx)
  simpa using this
theorem rightB_no {l : List Int} {k : Nat} {x : Int} (hx : l[k]? = some x) (h : ¬ (x = 0 ∨ x = 1)) : rightB l = false := by
  cases e : rightB l with
  | false => rfl
  | true => exact absurd (rightB_at e hx) h
theorem take_snoc {l : List Int} {k : Nat} {x : Int} (hx : l[k]? = some x) : l.take (k + 1) = l.take k ++ [x] := by
  rw [List.take_add_one, hx]; rfl

theorem ret_bool {a b : Bool} (h : a = b) : Ending.returned (.bool a) = .returned (.bool b) := by rw [h]
theorem ret_int {k : IntKind} {a b : Int} (h : a = b) : Ending.returned (.int k a) = .returned (.int k b) := by rw [h]

/-- The number of a row of bits. -/
def numOf (l : List Int) : Nat := l.foldl (fun n b => 2 * n + b.toNat) 0
theorem numOf_snoc (l : List Int) (x : Int) : numOf (l ++ [x]) = 2 * numOf l + x.toNat := by simp [numOf]
theorem numOf_lt : ∀ (l : List Int), rightB l = true → numOf l < 2 ^ l.length := by
  intro l
  induction h : l.length generalizing l with
  | zero => intro _; obtain rfl := List.eq_nil_of_length_eq_zero h; simp [numOf]
  | succ n ih =>
    intro hr
    obtain ⟨x, l', rfl⟩ : ∃ x l', l = l' ++ [x] := ⟨l.getLast (by intro e; subst e; simp at h), l.dropLast, (List.dropLast_concat_getLast _).symm⟩
    simp at h
    rw [rightB_snoc] at hr
    simp only [Bool.and_eq_true, decide_eq_true_eq] at hr
    have := ih l' h hr.1
    rw [numOf_snoc, Nat.pow_succ]
    rcases hr.2 with rfl | rfl <;> simp <;> omega
theorem rightB_take {l : List Int} (h : rightB l = true) (k : Nat) : rightB (l.take k) = true := by
  unfold rightB at h ⊢
  rw [List.all_eq_true] at h ⊢
  exact fun x hx => h x (List.mem_of_mem_take hx)
theorem rightB_drop {l : List Int} (h : rightB l = true) (k : Nat) : rightB (l.drop k) = true := by
  unfold rightB at h ⊢
  rw [List.all_eq_true] at h ⊢
  exact fun x hx => h x (List.mem_of_mem_drop hx)
/-- Alike rows? -/
def sameB (a b : List Int) : Bool := decide (a = b)

theorem take_all {a b : List Int} (hl : a.length = b.length) (h : ∀ j, j < a.length → a[j]? = b[j]?) : a = b := by
  apply List.ext_getElem?
  intro i
  by_cases hi : i < a.length
  · exact h i hi
  · rw [List.getElem?_eq_none (by omega), List.getElem?_eq_none (by omega)]

/-- A slice that is written out in the text. -/
theorem Row.lit (W : World) (κ : IntKind) (l : List Int) (t : TypeId) {cs : Array Value} (hcs : cs = (l.map (Value.int κ)).toArray) : Row κ (W.alloc (.cells cs t)) (W.heap.size + 1) (some ⟨W.heap.size, 0, none⟩) l := by
  right
  refine ⟨_, rfl, by simp, fun k x hx => ?_⟩
  have e : (⟨W.heap.size, 0, none⟩ : Addr).add k = ⟨W.heap.size, k, none⟩ := by unfold Addr.add; split <;> simp_all
  have hb := World.alloc_heap_new W (.cells cs t)
  subst hcs
  rw [e]
  simp only [World.cell?, hb]
  simp [hx]

theorem Row.drewN {κ : IntKind} {w : World} {B : Nat} {A : Option Addr} {l : List Int} (h : Row κ w B A l) (k : Nat) : Row κ (w.drewN k) B A l := h
theorem below_drewN' {B : Nat} {a w : World} (h : Below B a w) (n : Nat) : Below B a (w.drewN n) := ⟨h.os, h.tape, h.output, h.size, h.block⟩

theorem below_lit {w w' : World} {o : Obj} (h : Below (w.alloc o).heap.size (w.alloc o) w') : Below w.heap.size w w' := ((Below.refl _ w).alloc (Nat.le_refl _) o).trans (h.mono (by simp))
theorem below_lits {w w' : World} {o : Obj} (h : w.alloc o = w') : Below w.heap.size w w' := by subst h; exact (Below.refl _ w).alloc (Nat.le_refl _) o
/-- One behind the other. -/
theorem below_then {a b c : World} (h : Below a.heap.size a b) (k : Below b.heap.size b c) : Below a.heap.size a c := h.trans (k.mono h.size)
theorem below_drewN0 (a : World) (n : Nat) : Below a.heap.size a (a.drewN n) := below_drewN' (Below.refl _ _) n
theorem Row.to {κ : IntKind} {a b : World} {A : Option Addr} {l : List Int} (h : Row κ a a.heap.size A l) (k : Below a.heap.size a b) : Row κ b b.heap.size A l := (h.below k).more k.size

theorem ints_one (κ : IntKind) (l : List Int) : ∀ u ∈ l.map (Value.int κ), u.oneCell' = true := by
  intro u hu
  obtain ⟨x, _, rfl⟩ := List.mem_map.1 hu
  rfl

theorem run_append_row {P : Program} (w : World) (κ : IntKind) (base : Nat) (t ty e : TypeId) (i : TypeInfo) (z : Value) (bytes : Nat) (ht : P.underlying t = some (.slice e)) (hi : P.info? e = some i) (hz : i.zero = some z)
    (hsize : i.size = 1) (hby : i.bytes = bytes) (hzs : z.cells.size = 1)
    (v : Value) (n : Nat) (l : List Int) (hown : w.ownsRow base e 1 v n (l.map (Value.int κ)))
    (A : Option Addr) (m c B : Nat) (l' : List Int) (hm : l'.length = m) (hr : Row κ w B A l')
    (h63 : n + m ≤ maxLen) (hbytes : (n + m) * bytes ≤ 140737488355328) (hbase : base ≤ w.heap.size) :
    ∃ A' c' w', (Builtin.append_ #[t, t] ty #[v, .slice A m c]).run P w = .ok (.slice A' (n + m) c') w' ∧ w'.ownsRow base e 1 (.slice A' (n + m) c') (n + m) ((l ++ l').map (Value.int κ)) ∧ n + m ≤ c' ∧ Below base w w' := by
  have form : ∀ (v' : Value) (w' : World), w'.ownsRow base e 1 v' (n + m) ((l ++ l').map (Value.int κ)) → ∃ A' c', v' = .slice A' (n + m) c' ∧ n + m ≤ c' := by
    intro v' w' h
    rcases h.2 with ⟨rfl, h0⟩ | ⟨g, cap, cur, rfl, _, _, hc, _⟩
    · exact ⟨none, 0, by rw [h0], by omega⟩
    · exact ⟨_, _, rfl, hc⟩
  have low : ∀ k, v.ownBlock = some k → base ≤ k := fun k e => (hown.lt k e).1
  have any : ∀ ad, A = some ad → ∃ A' c' w', (Builtin.append_ #[t, t] ty #[v, .slice A m c]).run P w = .ok (.slice A' (n + m) c') w' ∧ w'.ownsRow base e 1 (.slice A' (n + m) c') (n + m) ((l ++ l').map (Value.int κ)) ∧ n + m ≤ c' ∧ Below base w w' := by
    rintro ad rfl
    have hcells : ∀ j u, (l'.map (Value.int κ))[j]? = some u → w.cell? (ad.add j) = some u := by
      intro j u hu
      rw [List.getElem?_map, Option.map_eq_some_iff] at hu
      obtain ⟨x, hx, rfl⟩ := hu
      rcases hr with rfl | ⟨ad', e', _, hc⟩
      · simp at hx
      · cases e'
        exact hc j x hx
    obtain ⟨v', w', hrun, h2, h3, _, _⟩ := run_append_own_at (P := P) w base t ty e i z 1 bytes ht hi hz hsize hby hzs (by omega) v n _ hown ad m c _ (by simp [hm]) hcells (ints_one κ l') h63 hbytes hbase
    rw [← List.map_append] at h2
    obtain ⟨A', c', rfl, hc'⟩ := form v' w' h2
    exact ⟨A', c', w', hrun, h2, hc', (Below.refl _ _).grown h3 hbase low⟩
  cases A with
  | some ad => exact any ad rfl
  | none =>
    obtain rfl : l' = [] := by
      rcases hr with rfl | ⟨ad, e', _⟩
      · rfl
      · cases e'
    obtain rfl : m = 0 := hm.symm
    have hrun : (Builtin.append_ #[t, t] ty #[v, .slice none 0 c]).run P w = .ok v w := by
      rcases hown.2 with ⟨rfl, rfl⟩ | ⟨g, cap, cur, rfl, _, _, hnc, _⟩
      · simp [Builtin.append_, run_underlying ht, sizeOf, typeInfo, hi, Builtin.lenOf, Builtin.firstCells]
      · simp [Builtin.append_, run_underlying ht, sizeOf, typeInfo, hi, Builtin.lenOf, Builtin.firstCells, hnc, storeCells]
    have h2 : w.ownsRow base e 1 v (n + 0) ((l ++ []).map (Value.int κ)) := by simpa using hown
    obtain ⟨A', c', rfl, hc'⟩ := form v w h2
    exact ⟨A', c', w, hrun, h2, hc', Below.refl _ _⟩

theorem wpList_append_row {P : Program} (w : World) {ops : Array Oper} {rest : List Oper} {o : Oper} {a : Act} {Q : Exit → Act → World → Prop} (κ : IntKind) (hw : Region.wanted o (yielded ops a.tmps) = true) (s x : Operand) (t : TypeId)
    (ho : o.op = .call { callee := .builtin .append, args := #[s, x], argTypes := #[t, t] })
    (base : Nat) (e : TypeId) (i : TypeInfo) (z : Value) (bytes : Nat) (ht : P.underlying t = some (.slice e)) (hi : P.info? e = some i) (hz : i.zero = some z)
    (hsize : i.size = 1) (hby : i.bytes = bytes) (hzs : z.cells.size = 1)
    (v : Value) (n : Nat) (l : List Int) (hs : a.eval s = v) (hown : w.ownsRow base e 1 v n (l.map (Value.int κ)))
    (A : Option Addr) (m c B : Nat) (l' : List Int) (hx : a.eval x = .slice A m c) (hm : l'.length = m) (hr : Row κ w B A l')
    (h63 : n + m ≤ maxLen) (hbytes : (n + m) * bytes ≤ 140737488355328) (hbase : base ≤ w.heap.size)
    (h : ∀ A' c' w', w'.ownsRow base e 1 (.slice A' (n + m) c') (n + m) ((l ++ l').map (Value.int κ)) → n + m ≤ c' → Below base w w' → wpList P ops Q rest (a.put o.dst (.slice A' (n + m) c')) w') : wpList P ops Q (o :: rest) a w := by
  obtain ⟨A', c', w', hrun, h2, hc', h3⟩ := run_append_row (P := P) w κ base t o.type e i z bytes ht hi hz hsize hby hzs v n l hown A m c B l' hm hr h63 hbytes hbase
  unfold wpList
  rw [if_pos hw]
  left
  unfold Oper.wp execOp
  simp only [ho, resolve, invoke, builtin, Sem.run_bind, Sem.run_pure, Result.andThen_ok, List.map_toArray, List.map_cons, List.map_nil, hs, hx, hrun]
  exact h A' c' w' h2 hc' h3

theorem own_to {W W' : World} {base : Nat} {e : TypeId} {size : Nat} {v : Value} {n : Nat} {xs : List Value} (h : W.ownsRow base e size v n xs) (k : Below W.heap.size W W') : W'.ownsRow base e size v n xs := by
  refine ⟨h.1, ?_⟩
  rcases h.2 with h0 | ⟨g, cap, cur, hv, hb, hg, hrest⟩
  · exact .inl h0
  · exact .inr ⟨g, cap, cur, hv, hb, (k.block g (Array.getElem?_eq_some_iff.1 hg).1).trans hg, hrest⟩
/-- An empty slice, or one of some numbers, that is written out in the text, is the call's own. -/
theorem own_lit (W : World) (κ : IntKind) (l : List Int) (n : Nat) (hn : l.length = n) (t : TypeId) {cs : Array Value} (hcs : cs = (l.map (Value.int κ)).toArray) (hm : n ≤ maxLen) : (W.alloc (.cells cs t)).ownsRow W.heap.size t 1 (.slice (some ⟨W.heap.size, 0, none⟩) n n) n (l.map (Value.int κ)) := by
  subst hcs hn
  have := World.ownsRow_lit (base := W.heap.size) (e := t) (size := 1) W (l.map (Value.int κ)).toArray l.length (Nat.le_refl _) hm (by simp)
  simpa using this

/-- bit number j (from the most significant) of a number of many bits. -/
def bitAt (n many j : Nat) : Int := ((n / 2 ^ (many - 1 - j) % 2 : Nat) : Int)
def bitRow (n many : Nat) (k : Nat) : List Int := (List.range k).map (bitAt n many)
/-- The lowest bit of a number that is not below 0. -/
theorem bits_one (n j : Nat) (hn : n < 4611686018427387904) : bits .and .i64 ((n : Int) / 2 ^ j) 1 = ((n / 2 ^ j % 2 : Nat) : Int) := by
  obtain ⟨m, hm⟩ : ∃ m, n / 2 ^ j = m := ⟨_, rfl⟩
  have hle : m ≤ n := by rw [← hm]; exact Nat.div_le_self _ _
  have e : ((n : Int) / 2 ^ j) = (m : Int) := by rw [← hm]; simp
  rw [e, hm]
  show IntKind.i64.wrap ((BitVec.ofInt 64 (m : Int) &&& BitVec.ofInt 64 ((1 : Nat) : Int)).toNat : Int) = _
  rw [BitVec.ofInt_natCast, BitVec.ofInt_natCast, BitVec.toNat_and, BitVec.toNat_ofNat, BitVec.toNat_ofNat, Nat.mod_eq_of_lt (show m < 2 ^ 64 by omega), Nat.mod_eq_of_lt (show 1 < 2 ^ 64 by omega), Nat.and_one_is_mod, IntKind.wrap_i64]
  omega

theorem bitRow_len (n many k : Nat) : (bitRow n many k).length = k := by simp [bitRow]
theorem bitRow_succ (n many k : Nat) : bitRow n many (k + 1) = bitRow n many k ++ [bitAt n many k] := by simp [bitRow, List.range_succ]
theorem bitAt_01 (n many k : Nat) : bitAt n many k = 0 ∨ bitAt n many k = 1 := by unfold bitAt; omega
theorem bitRow_right (n many : Nat) : ∀ k, rightB (bitRow n many k) = true
  | 0 => rfl
  | k + 1 => by
    rw [bitRow_succ, rightB_snoc, bitRow_right n many k]
    simpa using bitAt_01 n many k
theorem numOf_bitRow {n many : Nat} (h : n < 2 ^ many) : ∀ k, k ≤ many → numOf (bitRow n many k) = n / 2 ^ (many - k)
  | 0, _ => by simp [bitRow, numOf, Nat.div_eq_of_lt h]
  | k + 1, hk => by
    rw [bitRow_succ, numOf_snoc, numOf_bitRow h k (by omega)]
    have e : many - k = (many - 1 - k) + 1 := by omega
    have e2 : many - (k + 1) = many - 1 - k := by omega
    rw [e, e2, Nat.pow_succ, ← Nat.div_div_eq_div_mul]
    unfold bitAt
    omega
theorem numOf_back {n many : Nat} (h : n < 2 ^ many) : numOf (bitRow n many many) = n := by
  rw [numOf_bitRow h many (Nat.le_refl _), Nat.sub_self, Nat.pow_zero, Nat.div_one]
/-- A slice of whole numbers that came in, as the frame of a row tells it. -/
theorem row_of_arg {k : IntKind} {w : World} {a : Option Addr} {len cap : Nat} {zs : List Int}
    (h : (a = none ∧ len = 0 ∧ cap = 0 ∧ zs = []) ∨ ∃ x, a = some x ∧ len ≤ cap ∧ cap ≤ maxLen ∧ zs.length = cap ∧ (∀ i, i < zs.length → w.cell? (x.add i) = some (.int k (zs.getD i 0))) ∧ ∀ n ∈ zs, (Lit.int k n).wf = true) :
    ∃ l : List Int, l.length = len ∧ Row k w w.heap.size a l ∧ len ≤ cap ∧ cap ≤ maxLen ∧ ∀ n ∈ l, (Lit.int k n).wf = true := by
  rcases h with ⟨rfl, rfl, rfl, rfl⟩ | ⟨x, rfl, hl, hm, hz, hc, hw⟩
  · exact ⟨[], rfl, .inl rfl, Nat.le_refl _, by decide, by simp⟩
  · refine ⟨zs.take len, by simp; omega, ?_, hl, hm, fun n hn => hw n (List.mem_of_mem_take hn)⟩
    by_cases h0 : len = 0
    · left; subst h0; simp
    · right
      refine ⟨x, rfl, ?_, fun j y hy => ?_⟩
      · have h1 := hc 0 (by omega)
        rcases Nat.lt_or_ge x.block w.heap.size with h2 | h2
        · exact h2
        · exfalso
          have : (x.add 0).block = x.block := addr_block _ _
          simp [World.cell?, this, Array.getElem?_eq_none h2] at h1
      · rw [List.getElem?_take] at hy
        split at hy
        · rename_i hj
          rw [hc j (by omega)]
          simp [List.getD, hy]
        · cases hy

theorem bitRow_snoc (N b n : Nat) (hb : b < 2) : bitRow (2 * N + b) (n + 1) (n + 1) = bitRow N n n ++ [(b : Int)] := by
  rw [bitRow_succ]
  have e1 : bitAt (2 * N + b) (n + 1) n = (b : Int) := by
    unfold bitAt
    rw [show n + 1 - 1 - n = 0 by omega, Nat.pow_zero, Nat.div_one]
    omega
  have e2 : bitRow (2 * N + b) (n + 1) n = bitRow N n n := by
    unfold bitRow
    apply List.map_congr_left
    intro j hj
    have hj' : j < n := List.mem_range.1 hj
    unfold bitAt
    rw [show n + 1 - 1 - j = (n - 1 - j) + 1 by omega, Nat.pow_succ, Nat.mul_comm (2 ^ (n - 1 - j)) 2, ← Nat.div_div_eq_div_mul]
    rw [show (2 * N + b) / 2 = N by omega]
  rw [e1, e2]

theorem snoc_cases (l : List Int) : l = [] ∨ ∃ l' x, l = l' ++ [x] := by
  rcases List.eq_nil_or_concat l with h | ⟨l', x, h⟩
  · exact .inl h
  · exact .inr ⟨l', x, by simpa using h⟩

theorem bitRow_back : ∀ (n : Nat) (l : List Int), l.length = n → rightB l = true → bitRow (numOf l) n n = l
  | 0, l, h, _ => by obtain rfl := List.eq_nil_of_length_eq_zero h; rfl
  | n + 1, l, h, hr => by
    rcases snoc_cases l with rfl | ⟨l', x, rfl⟩
    · simp at h
    · rw [rightB_snoc] at hr
      simp only [Bool.and_eq_true, decide_eq_true_eq] at hr
      have hl : l'.length = n := by simpa using h
      rw [numOf_snoc, bitRow_snoc _ _ _ (by omega), bitRow_back n l' hl hr.1]
      congr 2
      omega

def byteB (l : List Int) : Prop := ∀ x ∈ l, 0 ≤ x ∧ x ≤ 255
def byteBits (x : Int) : List Int := bitRow x.toNat 8 8
def spreadL (l : List Int) : List Int := l.flatMap byteBits

theorem spreadL_snoc {l : List Int} {k : Nat} {x : Int} (hx : l[k]? = some x) : spreadL (l.take (k + 1)) = spreadL (l.take k) ++ byteBits x := by
  rw [take_snoc hx]; simp [spreadL]
theorem spreadL_len : ∀ l : List Int, (spreadL l).length = 8 * l.length
  | [] => rfl
  | x :: l => by
    have := spreadL_len l
    simp only [spreadL, List.flatMap_cons, List.length_append, List.length_cons] at this ⊢
    rw [this]
    simp [byteBits, bitRow]
    omega

theorem byteBits_len (x : Int) : (byteBits x).length = 8 := by simp [byteBits, bitRow]
theorem spreadL_right : ∀ l : List Int, rightB (spreadL l) = true
  | [] => rfl
  | x :: l => by
    have h := spreadL_right l
    have h2 : rightB (byteBits x) = true := bitRow_right _ _ _
    unfold rightB at h h2 ⊢
    unfold spreadL at h ⊢
    rw [List.flatMap_cons, List.all_append, h, h2]
    rfl
theorem rightB_append (a b : List Int) : rightB (a ++ b) = (rightB a && rightB b) := by simp [rightB]
theorem wrap_pow (many : Nat) (h : many ≤ 32) : wrap64 (2 ^ many) = ((2 ^ many : Nat) : Int) := by
  have h1 : (2 : Nat) ^ many ≤ 2 ^ 32 := Nat.pow_le_pow_right (by omega) h
  have h2 : ((2 : Int) ^ many) = ((2 ^ many : Nat) : Int) := by simp
  have h3 : 0 < (2 : Nat) ^ many := Nat.pow_pos (by omega)
  rw [h2]
  simp only [wrap64]
  omega

theorem Try.infoInt : (Try.prog.info? 3).map (fun i => (i.zero, i.size, i.bytes)) = some (some (.int .i64 0), 1, 8) := by kernel_rfl
theorem Try.infoByte : (Try.prog.info? 5).map (fun i => (i.zero, i.size, i.bytes)) = some (some (.int .u8 0), 1, 1) := by kernel_rfl

end Go.Proofs.Ytlbgilbigcnleaa
