/-
  Rcv · Rcv2 · Rcv3 · Rcv4 · WMath · WRead · WBits · WRefBits · WRef2 · WPass · WLaw · WLaw2: what this seat needs of them.
-/
import Derived.Test.YtajabpjphobabaaTBi
import Derived.Test.YtajabpjphobabaaTFr
import Derived.Test.YtajabpjphobabaaTSt
import Derived.Test.YtajabpjphobabaaTCr
import Derived.WalkMore
import Derived.Laws.EntriesVeiled
namespace Go.Proofs.Ytajabpjphobabaa
open Go.RowKit
set_option linter.unusedVariables false
set_option linter.unusedSimpArgs false

/-- Two slices that own no block together. -/
def TwoRows (v v2 : Value) : Prop := ∀ g, v.ownBlock = some g → v2.ownBlock ≠ some g

theorem TwoRows.symm {v v2 : Value} (h : TwoRows v v2) : TwoRows v2 v := fun g e e' => h g e' e

theorem own_low {w : World} {base base' : Nat} {e : TypeId} {size : Nat} {v : Value} {n : Nat} {xs : List Value} (h : w.ownsRow base e size v n xs) (hb : base' ≤ base) : w.ownsRow base' e size v n xs := by
  refine ⟨h.1, ?_⟩
  rcases h.2 with h0 | ⟨g, cap, cur, hv, hg, hrest⟩
  · exact .inl h0
  · exact .inr ⟨g, cap, cur, hv, by omega, hrest⟩

theorem own_kept {w w' : World} {base : Nat} {e : TypeId} {size : Nat} {v v2 : Value} {n : Nat} {xs : List Value} (h : w.ownsRow base e size v2 n xs) (hg : w.grownBy w' v.ownBlock) (ht : TwoRows v v2) : w'.ownsRow base e size v2 n xs := by
  refine h.kept hg ?_
  rcases h.2 with ⟨rfl, _⟩ | ⟨g, cap, cur, rfl, _⟩
  · exact .inl rfl
  · refine .inr fun e' => ?_
    exact ht g (by rw [← e']; rfl) rfl

theorem own_form {w : World} {base : Nat} {e : TypeId} {v : Value} {n : Nat} {xs : List Value} (h : w.ownsRow base e 1 v n xs) : ∃ A c, v = .slice A n c ∧ n ≤ c := by
  rcases h.2 with ⟨rfl, h0⟩ | ⟨g, cap, cur, rfl, _, _, hc, _⟩
  · exact ⟨none, 0, by rw [h0], by omega⟩
  · exact ⟨_, _, rfl, hc⟩

section

variable {w w' : World} {R : Nat} {hv pv : Value} {D : Option Addr} {m c : Nat} {H P : List Int} {n q : Nat} {hd : Nat} {f : Fr} {t : Nat}

theorem data_to {g : Option Nat} (hr : Row .u8 w w.heap.size D f.data) (ha : f.data = [] ∨ ∃ ad, D = some ad ∧ some ad.block ≠ g) (hg : w.grownBy w' g) : Row .u8 w' w'.heap.size D f.data := by
  rcases hr with e | ⟨ad, e, hlt, hc⟩
  · exact .inl e
  · rcases ha with e' | ⟨ad', e', hne⟩
    · exact .inl e'
    · rw [e] at e'; cases e'
      refine .inr ⟨ad, e, Nat.lt_of_lt_of_le hlt hg.size, fun k x hx => ?_⟩
      rw [World.cell?_of_block (hg.block _ (by rw [addr_block]; exact hlt) (by rw [addr_block]; exact hne))]
      exact hc k x hx

theorem own_ne (h : w.ownsRow (R + 1) 3 1 hv n (H.map (Value.int .i64))) : hv.ownBlock = none ∨ hv.ownBlock ≠ some R := by
  refine .inr fun e => ?_
  have := (h.lt R e).1
  omega

end

/-- Are the last five alike? -/
theorem runs5 (a b c d e : Int) (s : Int × Nat) : (runsL [a, b, c, d, e] = 5) ↔ 5 ≤ ([a, b, c, d, e].foldl tick s).2 := by
  by_cases h1 : b = a <;> by_cases h2 : c = b <;> by_cases h3 : d = c <;> by_cases h4 : e = d <;> by_cases h5 : a = s.1 <;> by_cases h6 : a = 0 <;> simp_all [runsL, runsF, tick] <;> omega

theorem due_runs {H : List Int} {k : Nat} (h : H.length = k + 5) : decide (runsL (H.drop k) = 5) = fiveB H := by
  obtain ⟨a, b, c, d, e, h5⟩ : ∃ a b c d e, H.drop k = [a, b, c, d, e] := by
    have hl : (H.drop k).length = 5 := by simp [h]
    match H.drop k, hl with
    | [a, b, c, d, e], _ => exact ⟨a, b, c, d, e, rfl⟩
  have e1 : H = H.take k ++ [a, b, c, d, e] := by rw [← h5, List.take_append_drop]
  unfold fiveB
  rw [h5]
  have e2 : runOf H = [a, b, c, d, e].foldl tick (runOf (H.take k)) := by
    conv => lhs; rw [e1]
    simp [runOf]
  rw [e2]
  exact decide_eq_decide.2 (runs5 a b c d e _)

theorem ret_int' {k : IntKind} {a b : Int} (h : a = b) : Ending.returned (.int k a) = .returned (.int k b) := by rw [h]

def trailF (t : Nat) (b : Int) : Int := if t ≠ 1 ∧ b ≠ 1 then 3 else 0

theorem read_err' {l : List Int} {e : Int} (h : readL l = .error e) : e = 40 ∨ e = 42 ∨ e = 41 := by
  unfold readL at h
  split at h
  · cases h; exact .inl rfl
  split at h
  · cases h; exact .inr (.inl rfl)
  cases hn : namedL l with
  | error e' =>
    rw [hn] at h
    cases h
    unfold namedL at hn
    repeat' split at hn
    all_goals first
      | (cases hn; omega)
      | cases hn
  | ok p =>
    obtain ⟨f, k⟩ := p
    rw [hn] at h
    simp only at h
    unfold tailL at h
    repeat' split at h
    all_goals first
      | (cases h; omega)
      | cases h

/-- What is known of a head: its length, its frame. -/
def hdOf : Except Int (Fr × Nat) → Nat × Fr
  | .ok (f, k) => (k, f)
  | .error _ => (0, Fr.none_)

def formOk : Except Int (Fr × Nat) → Bool
  | .ok _ => true
  | .error e => decide (e = 40)

section

variable {w w' : World} {R : Nat} {hv pv : Value} {D : Option Addr} {m c : Nat} {H P : List Int} {n q : Nat} {hd : Nat} {f : Fr} {t : Nat}

end

theorem crcBits_at (l : List Int) (n : Nat) (hn : l.length = n) (A : Option Addr) (c : Nat) (w : World) (h : Row .i64 w w.heap.size A l) (hr : rightB l = true) (hm : n ≤ maxLen) (v : Int) (hv : ((crc15 l).toNat : Int) = v) :
    Calls Try.prog 13 #[.slice A n c] w fun e w' => e = .returned (.int .i64 v) ∧ Below w.heap.size w w' := by
  subst hv; exact bits_any l n hn A c w h hr hm

theorem rc12 {w : World} {R : Nat} {a b d e1 e2 e3 e4 e5 e6 : Value} {t : TypeId} (h : w.heap[R]? = some (.cells #[a, b, d, e1, e2, e3, e4, e5, e6] t)) : w.cell? ⟨R, 1, none⟩ = some b ∧ w.cell? ⟨R, 2, none⟩ = some d := by
  constructor <;> simp [World.cell?, h]

def wholeB (H P : List Int) : Bool := decide (0 < (hdOf (readL P)).1) && decide (P.length = (hdOf (readL P)).1 + 15) && !fiveB H

def sumB (P : List Int) : Bool := decide (numOf (P.drop (hdOf (readL P)).1) = (crc15 (P.take (hdOf (readL P)).1)).toNat)

def plainOf (H P : List Int) (b : Int) : List Int := if fiveB H then P else P ++ [b]

def judged (H P : List Int) : Int := if formOk (readL P) then (if wholeB H P && !sumB P then 4 else 0) else 3

def stuffedF (H P : List Int) (b : Int) : Int := if fiveB H ∧ b = (runOf H).1 then 2 else judged (H ++ [b]) (plainOf H P b)

section

variable {w w' : World} {R : Nat} {hv pv : Value} {D : Option Addr} {m c : Nat} {H P : List Int} {n q : Nat} {hd : Nat} {f : Fr} {t : Nat}

end

/-- From the trailing bits on: the stuffed part had e bits, t of the ten are past. -/
def rdT (l : List Int) (e : Nat) (f : Fr) : Nat → List Int → Fr × Int × Int
  | t, [] => (Fr.none_, 1, ((e + t : Nat) : Int))
  | t, b :: r => if trailF t b = 0 then (if t + 1 = 10 then (if l.getD (e + 1) 0 = 0 then (f, 0, -1) else (f, 5, ((e + 1 : Nat) : Int))) else rdT l e f (t + 1) r) else (Fr.none_, 3, ((e + t : Nat) : Int))

/-- From a bit of the stuffed part on: H was heard, P without the inserted bits. -/
def rdS (l : List Int) : List Int → List Int → List Int → Fr × Int × Int
  | H, _, [] => (Fr.none_, 1, (H.length : Int))
  | H, P, b :: r => if stuffedF H P b = 0 then (if wholeB (H ++ [b]) (plainOf H P b) then rdT l (H.length + 1) (hdOf (readL (plainOf H P b))).2 0 r else rdS l (H ++ [b]) (plainOf H P b) r) else (Fr.none_, stuffedF H P b, (H.length : Int))

def wireRd (l : List Int) : Fr × Int × Int := rdS l [] [] l

theorem read_more {P : List Int} (hr : rightB P = true) {f : Fr} {k : Nat} (h : readL P = .ok (f, k)) (more : List Int) : readL (P ++ more) = .ok (f, k) := by
  obtain ⟨ID, L, hf, hID, hL, hd, hb, hk, hh, hn'⟩ := read_back hr h
  have e : P ++ more = headV f.ext ID f.rem L f.data ++ (P.drop k ++ more) := by rw [hh, ← List.append_assoc, List.take_append_drop]
  rw [e, read_head _ _ _ _ _ _ hID hL hb hd, hh]
  have : (P.take k).length = k := by simp; omega
  rw [this, ← hf]

theorem read_pos {P : List Int} (hr : rightB P = true) {f : Fr} {k : Nat} (h : readL P = .ok (f, k)) : 19 ≤ k ∧ k ≤ P.length := by
  obtain ⟨ID, L, hf, hID, hL, hd, hb, hk, hh, hn'⟩ := read_back hr h
  refine ⟨?_, hk⟩
  rw [hn']
  have : 19 ≤ hn f.ext := by cases f.ext <;> decide
  omega

theorem hd_le {P : List Int} (hr : rightB P = true) : (hdOf (readL P)).1 ≤ P.length := by
  cases h : readL P with
  | error e => simp [hdOf]
  | ok p => obtain ⟨f, k⟩ := p; exact (read_pos hr h).2

theorem plain_right {H P : List Int} {b : Int} (hr : rightB P = true) (hb : b = 0 ∨ b = 1) : rightB (plainOf H P b) = true := by
  unfold plainOf
  split
  · exact hr
  · rw [rightB_snoc, hr]; simpa using hb

theorem plain_len (H P : List Int) (b : Int) : (plainOf H P b).length ≤ P.length + 1 := by
  unfold plainOf; split <;> simp

theorem known_next {H P : List Int} {b : Int} (hr : rightB P = true) :
    (0 < (hdOf (readL P)).1 ∧ readL (plainOf H P b) = .ok ((hdOf (readL P)).2, (hdOf (readL P)).1)) ∨ ((hdOf (readL P)).1 = 0 ∧ (hdOf (readL P)).2 = Fr.none_) := by
  cases h : readL P with
  | error e => exact .inr ⟨rfl, rfl⟩
  | ok p =>
    obtain ⟨f, k⟩ := p
    left
    refine ⟨?_, ?_⟩
    · have := (read_pos hr h).1; simp only [hdOf]; omega
    · unfold plainOf
      split
      · exact h
      · exact read_more hr h [b]

section

variable {l P : List Int} {k : Nat} {x : Int} {e t : Nat} {f : Fr}

theorem take_len {l : List Int} {k : Nat} {x : Int} (hx : l[k]? = some x) : (l.take k).length = k := by
  have := (List.getElem?_eq_some_iff.1 hx).1
  simp; omega

theorem S_fault (h : wireRd l = rdS l (l.take k) P (l.drop k)) (hx : l[k]? = some x) {v : Int} (hv : stuffedF (l.take k) P x = v) (h0 : v ≠ 0) : wireRd l = (Fr.none_, v, (k : Int)) := by
  rw [h, drop_at hx]
  simp only [rdS]
  rw [hv, if_neg h0, take_len hx]

theorem S_whole (h : wireRd l = rdS l (l.take k) P (l.drop k)) (hx : l[k]? = some x) (hv : stuffedF (l.take k) P x = 0) (hw : wholeB (l.take (k + 1)) (plainOf (l.take k) P x) = true) : wireRd l = rdT l (k + 1) (hdOf (readL (plainOf (l.take k) P x))).2 0 (l.drop (k + 1)) := by
  rw [h, drop_at hx]
  simp only [rdS]
  rw [if_pos hv, ← take_snoc hx, if_pos hw, take_len hx]

theorem S_go (h : wireRd l = rdS l (l.take k) P (l.drop k)) (hx : l[k]? = some x) (hv : stuffedF (l.take k) P x = 0) (hw : wholeB (l.take (k + 1)) (plainOf (l.take k) P x) = false) : wireRd l = rdS l (l.take (k + 1)) (plainOf (l.take k) P x) (l.drop (k + 1)) := by
  rw [h, drop_at hx]
  conv => lhs; simp only [rdS]
  rw [if_pos hv, ← take_snoc hx, if_neg (by rw [hw]; simp)]

theorem S_short (h : wireRd l = rdS l (l.take k) P (l.drop k)) (hk : k = l.length) : wireRd l = (Fr.none_, 1, (k : Int)) := by
  subst hk
  rw [h]; simp [rdS]

theorem T_fault (h : wireRd l = rdT l e f t (l.drop (e + t))) (hx : l[e + t]? = some x) (hv : trailF t x = 3) : wireRd l = (Fr.none_, 3, ((e + t : Nat) : Int)) := by
  rw [h, drop_at hx]
  simp only [rdT]
  rw [hv, if_neg (by decide)]

theorem T_go (h : wireRd l = rdT l e f t (l.drop (e + t))) (hx : l[e + t]? = some x) (hv : trailF t x = 0) (ht : t + 1 < 10) : wireRd l = rdT l e f (t + 1) (l.drop (e + (t + 1))) := by
  rw [h, drop_at hx]
  conv => lhs; simp only [rdT]
  rw [if_pos hv, if_neg (by omega), ← Nat.add_assoc]

theorem T_end (h : wireRd l = rdT l e f t (l.drop (e + t))) (hx : l[e + t]? = some x) (hv : trailF t x = 0) (ht : t + 1 = 10) : wireRd l = if l.getD (e + 1) 0 = 0 then (f, 0, -1) else (f, 5, ((e + 1 : Nat) : Int)) := by
  rw [h, drop_at hx]
  simp only [rdT]
  rw [if_pos hv, if_pos ht]

theorem T_short (h : wireRd l = rdT l e f t (l.drop (e + t))) (hk : e + t = l.length) : wireRd l = (Fr.none_, 1, ((e + t : Nat) : Int)) := by
  rw [h, hk]; simp [rdT]; omega

end

theorem results_c2 {fn : Func} {p q r : Tmp} (hf : fn.results = #[.cell p 24, .tmp q, .tmp r]) (tmps : Array Value) {w : World} {F : Nat} {x y : Bool} {i n : Int} {D : Option Addr} {m c : Nat} {t : TypeId} {u v : Value}
    (ht : tmps.getD p undef = .pointer (some ⟨F, 0, none⟩)) (hq : tmps.getD q undef = u) (hr : tmps.getD r undef = v)
    (h : w.heap[F]? = some (.cells #[.bool x, .int .i64 i, .bool y, .int .i64 n, .slice D m c] t)) :
    (results fn tmps).run Try.prog w = .ok (.tuple #[.agg #[.bool x, .int .i64 i, .bool y, .int .i64 n, .slice D m c], u, v]) w := by
  have hl := load_fr h
  have ht' : tmps[p]?.getD undef = .pointer (some ⟨F, 0, none⟩) := by simpa using ht
  have hq' : tmps[q]?.getD undef = u := by simpa using hq
  have hr' : tmps[r]?.getD undef = v := by simpa using hr
  simp only [results, hf]
  simp [ht', hq', hr', asAddr, hl]

/-- What Read hands back. -/
def WirePost (w : World) (r : Fr × Int × Int) (en : Ending) (w' : World) : Prop :=
  ∃ D m c', en = .returned (.tuple #[.agg #[.bool r.1.ext, .int .i64 r.1.id, .bool r.1.rem, .int .i64 r.1.len, .slice D m c'], .int .i64 r.2.1, .int .i64 r.2.2]) ∧ r.1.data.length = m ∧ m ≤ c' ∧ Row .u8 w' w'.heap.size D r.1.data ∧ (r.1.data = [] ∨ ∃ ad, D = some ad ∧ w.heap.size ≤ ad.block) ∧ Below w.heap.size w w'

theorem fin_fault {l : List Int} {w w1 : World} {t : TypeId} {a b d e g : Value} (hB : Below w.heap.size w w1) (_hF : w1.heap[w.heap.size]? = some (.cells #[a, b, d, e, g] t)) {v p : Int} (hres : wireRd l = (Fr.none_, v, p)) :
    WirePost w (wireRd l) (.returned (.tuple #[.agg #[.bool false, .int .i64 0, .bool false, .int .i64 0, .slice none 0 0], .int .i64 v, .int .i64 p])) (set5 w1 w.heap.size (.bool false) (.int .i64 0) (.bool false) (.int .i64 0) (.slice none 0 0)) := by
  rw [hres]
  exact ⟨none, 0, 0, rfl, rfl, Nat.le_refl _, .inl rfl, .inl rfl, hB.trans (below_of_grown (set5_grown _ _ _ _ _ _ _) (Nat.le_refl _) hB.size)⟩

theorem concat2 (A1 A2 : Option Addr) (n1 n2 c1 c2 : Nat) (l1 l2 : List Int) (e1 : l1.length = n1) (e2 : l2.length = n2) (W : World) (t : TypeId)
    (h1 : Row .i64 W W.heap.size A1 l1) (h2 : Row .i64 W W.heap.size A2 l2) (N : Nat) (hN : n1 + n2 = N) (hN2 : N ≤ 100000) {S : Nat} (hS : S = W.heap.size) :
    Calls Try.prog 23 #[.slice (some ⟨S, 0, none⟩) 2 2] (W.alloc (.cells #[.slice A1 n1 c1, .slice A2 n2 c2] t)) fun e w' =>
      ∃ A c, e = .returned (.slice A N c) ∧ Row .i64 w' w'.heap.size A (l1 ++ l2) ∧ N ≤ c ∧ Below W.heap.size W w' := by
  subst e1 e2 hN hS
  refine (concat_at [(.slice A1 l1.length c1, l1), (.slice A2 l2.length c2, l2)] 2 rfl _ 2 _ (Parts.lit W _ t rfl ?_) (by omega) _ (by simp [cat]) hN2 (by omega)).mono ?_
  · intro p hp
    simp only [List.mem_cons, List.not_mem_nil, or_false] at hp
    rcases hp with rfl | rfl
    · exact ⟨_, _, rfl, h1⟩
    · exact ⟨_, _, rfl, h2⟩
  · rintro e w' ⟨A, c, rfl, hown, hB⟩
    have hr := Row.own hown
    simp only [cat, List.flatMap_cons, List.flatMap_nil, List.append_nil] at hr
    exact ⟨A, c, rfl, hr, own_cap hown, below_lit hB⟩

/-- The checksum's fifteen bits; what is stuffed; what is sent. -/
def sumV (h : List Int) : List Int := bitRow (crc15 h).toNat 15 15

def bareV (h : List Int) : List Int := h ++ sumV h

def ones (k : Nat) : List Int := List.replicate k 1

def sentV (h : List Int) : List Int := stuffL (bareV h) ++ ones 10

theorem crc_lt (h : List Int) : (crc15 h).toNat < 2 ^ 15 := (crc15 h).isLt

theorem sumV_len (h : List Int) : (sumV h).length = 15 := bitRow_len _ _ _

theorem bareV_len (h : List Int) : (bareV h).length = h.length + 15 := by simp [bareV, sumV_len]

theorem bareV_right {h : List Int} (hr : rightB h = true) : rightB (bareV h) = true := by unfold bareV sumV; rw [rightB_append, hr, bitRow_right]; rfl

theorem ones_succ (k : Nat) : ones (k + 1) = ones k ++ [1] := by simp [ones, List.replicate_succ']

theorem stuffL_most (h : List Int) : (stuffL h).length ≤ h.length + h.length / 4 := by
  have := stuffL_len h
  omega

theorem sentV_len (h : List Int) : (sentV h).length = (stuffL (bareV h)).length + 10 := by simp [sentV, ones]

theorem stuff_at (l : List Int) (n : Nat) (hn : l.length = n) (A : Option Addr) (c : Nat) (w : World) (h : Row .i64 w w.heap.size A l) (hr : rightB l = true) (hm : n ≤ 100000) (M : Nat) (hM : (stuffL l).length = M) :
    Calls Try.prog 14 #[.slice A n c] w fun e w' => ∃ cap, e = .returned (.slice (some ⟨w.heap.size, 0, none⟩) M cap) ∧
      w'.ownsRow w.heap.size 3 1 (.slice (some ⟨w.heap.size, 0, none⟩) M cap) M ((stuffL l).map (Value.int .i64)) ∧ Below w.heap.size w w' := by
  subst hn hM; exact stuff_any l A c w h hr hm

set_option maxRecDepth 100000 in
set_option maxHeartbeats 2000000 in
theorem wireBits_at (x : Bool) (ID : Nat) (r : Bool) (L : Nat) (dl : List Int) (m : Nat) (hdl : dl.length = m) (A : Option Addr) (c : Nat) (hID : idOk x ID) (hL : L ≤ 8) (w : World) (h : Row .u8 w w.heap.size A dl) (hb : byteB dl) (hm : m ≤ 1000) (T : List Int) (hT : headV x ID r L dl = T) (N : Nat) (hN : (sentV T).length = N) :
    Calls Try.prog 8 #[.agg #[.bool x, .int .i64 ID, .bool r, .int .i64 L, .slice A m c]] w fun e w' => ∃ A' c', e = .returned (.slice A' N c') ∧ Row .i64 w' w'.heap.size A' (sentV T) ∧ N ≤ c' ∧ Below w.heap.size w w' := by
  obtain ⟨i0, hi, hz0, hz1, hz2⟩ := info_parts Try.infoInt
  obtain ⟨K, hK⟩ : ∃ K, T.length = K := ⟨_, rfl⟩
  have hKn : hn x + 8 * m = K := by rw [← hK, ← hT, headV_len, hdl]
  have hK2 : K ≤ 8100 := by have : hn x ≤ 39 := (by cases x <;> decide); omega
  obtain ⟨M, hM⟩ : ∃ M, (stuffL (bareV T)).length = M := ⟨_, rfl⟩
  have hM2 : M ≤ 20000 := by have := stuffL_most (bareV T); rw [bareV_len, hK] at this; omega
  have hrT : rightB T = true := by rw [← hT]; exact headV_right _ _ _ _ _
  have hNM : M + 10 = N := by rw [← hN, sentV_len, hM]
  have hlb := bareV_len T
  rw [hK] at hlb
  have HT := Lib.hid hT
  have HdL := Lib.hid hdl
  have HK := Lib.hid hK
  have HKn := Lib.hid hKn
  have HM := Lib.hid hM
  have HrT := Lib.hid hrT
  have Hlb := Lib.hid hlb
  have HrB := Lib.hid (bareV_right hrT)
  have HB := Lib.hid hb
  clear hT hdl hK hKn hM hN hrT hlb hb
  have hB0 := below_alloc1 w (.cells #[.bool x, .int .i64 ID, .bool r, .int .i64 L, .slice A m c] 24)
  have r0 := h.to hB0
  go_enter Try.func8, Try.ntmps8
  go_wp2_with fail
  refine (head_at x ID r L dl m HdL.out A c hID hL _ r0 HB.out hm (8 * m) rfl K HKn.out).mono ?_
  rintro e w1 ⟨A1, c1, rfl, hr1, hc1, hB1⟩
  rw [HT.out] at hr1
  go_wp2_with fail
  refine (crcBits_at T K HK.out A1 c1 w1 hr1 HrT.out (by unfold maxLen; omega) _ rfl).mono ?_
  rintro e w2 ⟨rfl, hB2⟩
  go_wp2_with fail
  refine (put_yes_at _ 15 (crc15 T).toNat 15 rfl rfl (by omega) (crc_lt T) w2).mono ?_
  rintro e w3 ⟨A3, rfl, hr3, hB3⟩
  have r1 := (hr1.to hB2).to hB3
  have hBa := below_then (below_then (below_then hB0 hB1) hB2) hB3
  clear hB0 hB1 hB2 hB3 hr1
  go_wp2_with fail
  refine (concat2 A1 A3 K 15 c1 15 T (sumV T) HK.out (sumV_len T) w3 _ r1 hr3 (K + 15) rfl (by omega) rfl).mono ?_
  rintro e w4 ⟨A4, c4, rfl, hr4, hc4, hB4⟩
  go_wp2_with fail
  refine (stuff_at (bareV T) (K + 15) Hlb.out A4 c4 w4 hr4 HrB.out (by omega) M HM.out).mono ?_
  rintro e w5 ⟨cap, rfl, hown5, hB5⟩
  have hBb := below_then (below_then hBa hB4) hB5
  have hsz4 := (below_then hBa hB4).size
  clear hBa hB4 hB5 hr4 r1 hr3
  go_wp2_with fail
  go_loopw [6, 20] (fun o i wr => ∃ (k : Nat) (A' : Option Addr) (c' : Nat), k ≤ 10 ∧ i = .int .i64 k ∧ o = .slice A' (M + k) c' ∧ wr.ownsRow w.heap.size 3 1 (.slice A' (M + k) c') (M + k) ((stuffL (bareV T) ++ ones k).map (Value.int .i64)) ∧ Below w.heap.size w wr) (fun _ i _ => 10 - (intOf i).toNat)
  case atStart => exact ⟨0, _, cap, by omega, rfl, rfl, by simpa [ones] using own_low hown5 hsz4, hBb⟩
  case round =>
    clear hown5 hBb hsz4
    obtain ⟨k, A', c', hk, rfl, rfl, hown, hB⟩ := hrel
    have hsz := hB.size
    by_cases hlt : k < 10
    · go_wp2_with (at_builtin; refine wpList_append_row _ .i64 rfl _ _ 27 rfl w.heap.size 3 i0 (.int .i64 0) 8 Try.underlying27 hi hz0 hz1 hz2 rfl _ (M + k) (stuffL (bareV T) ++ ones k) rfl (hown.alloc _) (some ⟨wr.heap.size, 0, none⟩) 1 1 _ [1] rfl rfl (Row.lit wr .i64 [1] 3 rfl) (by unfold maxLen; omega) (by omega) (by simp; omega) ?_; intro A2 c2 w2 hown2 hc2 hB2)
      refine ⟨⟨k + 1, A2, c2, by omega, by go_num, rfl, ?_, (hB.alloc hsz _).trans hB2⟩, by simp [intOf]; omega⟩
      rw [ones_succ, ← List.append_assoc]
      exact hown2
    · obtain rfl : k = 10 := by omega
      go_wp2_with fail
      go_ret
      rw [hNM] at hown ⊢
      exact ⟨A', c', rfl, Row.own hown, own_cap hown, hB⟩

def mostV (x : Bool) (n : Nat) : Nat := (if x then 54 else 34) + 8 * n + ((if x then 54 else 34) + 8 * n - 1) / 4 + 10

theorem ownsRow_set {w : World} {base : Nat} {e : TypeId} {g n cap : Nat} {κ : IntKind} {l : List Int} (h : w.ownsRow base e 1 (.slice (some ⟨g, 0, none⟩) n cap) n (l.map (Value.int κ))) (j : Nat) (z : Int) :
    (w.setCell ⟨g, j, none⟩ (.int κ z)).ownsRow base e 1 (.slice (some ⟨g, 0, none⟩) n cap) n ((l.set j z).map (Value.int κ)) := by
  obtain ⟨h1, h2⟩ := h
  refine ⟨by simpa using h1, ?_⟩
  rcases h2 with ⟨e1, _⟩ | ⟨g', cap', cur, e1, hb, hg, hc, hm, hs, ht⟩
  · cases e1
  · cases e1
    refine .inr ⟨g, cap, cur.setIfInBounds j (.int κ z), rfl, hb, ?_, hc, hm, by simpa using hs, ?_⟩
    · rw [heap_setCell_same w g j _ _ _ hg]
    · rw [Array.toList_setIfInBounds, List.map_set, ← ht, List.take_set]

theorem ownsRow_cell {w : World} {base : Nat} {e : TypeId} {g n cap : Nat} {κ : IntKind} {l : List Int} (h : w.ownsRow base e 1 (.slice (some ⟨g, 0, none⟩) n cap) n (l.map (Value.int κ))) {j : Nat} {x : Int} (hx : l[j]? = some x) :
    w.cell? ⟨g, j, none⟩ = some (.int κ x) ∧ w.frozen? ⟨g, j, none⟩ = false := by
  have hc := h.cells (g := g) rfl j (.int κ x) (by simp [hx])
  have e : (⟨g, 0, none⟩ : Addr).add j = ⟨g, j, none⟩ := by unfold Addr.add; split <;> simp_all
  rw [e] at hc
  refine ⟨hc, ?_⟩
  rcases h.2 with ⟨e1, _⟩ | ⟨g', cap', cur, e1, _, hg, _⟩
  · cases e1
  · cases e1
    simp [World.frozen?, hg]

/-- As it is heard. -/
def heardV (h : List Int) : List Int := (sentV h).set ((sentV h).length - 9) 0

/-- A head, and the frame that it tells. -/
structure HeadOf (T : List Int) (f : Fr) : Prop where
  ok : ∀ more, readL (T ++ more) = .ok (f, T.length)
  cut : ∀ q, q < T.length → readL (T.take q) = .error 40
  right : rightB T = true
  pos : 0 < T.length

theorem headOf (x : Bool) (ID : Nat) (r : Bool) (L : Nat) (dl : List Int) (hID : idOk x ID) (hL : L ≤ 8) (hb : byteB dl) (hd : dl.length = if r then 0 else L) : HeadOf (headV x ID r L dl) ⟨x, ID, r, L, dl⟩ :=
  ⟨fun more => read_head x ID r L dl more hID hL hb hd, fun q hq => read_cut x ID r L dl hL hd q hq, headV_right _ _ _ _ _, by rw [headV_len]; cases x <;> simp [hn] <;> omega⟩

theorem fiveB_stuff (a : List Int) : fiveB (stuffL a) = false := by
  unfold fiveB
  rw [runOf_stuff]
  have := stuffS_le a (0, 0) (by simp)
  simp; omega

theorem take_pre {a b T S : List Int} (hab : a ++ b = T ++ S) (hl : a.length ≤ T.length) : a = T.take a.length := by
  have := congrArg (List.take a.length) hab
  rw [List.take_left, List.take_append_of_le_length hl] at this
  exact this

theorem app_pre {a b T S : List Int} (hab : a ++ b = T ++ S) (hl : T.length ≤ a.length) : a = T ++ a.drop T.length := by
  have := congrArg (List.take T.length) hab
  rw [List.take_append_of_le_length hl, List.take_left] at this
  have e := List.take_append_drop T.length a
  rw [this] at e
  exact e.symm

theorem bare_ne (T : List Int) : bareV T ≠ [] := by
  intro e
  have := bareV_len T
  rw [e] at this
  simp at this

section

variable {T : List Int} {f : Fr} (h : HeadOf T f)
include h

theorem bare_form {a b : List Int} (hab : a ++ b = bareV T) : formOk (readL a) = true := by
  by_cases hl : a.length < T.length
  · have e : a = T.take a.length := take_pre hab (Nat.le_of_lt hl)
    rw [e, h.cut _ hl]
    rfl
  · have e : a = T ++ a.drop T.length := app_pre hab (Nat.le_of_not_lt hl)
    rw [e, h.ok]
    rfl

theorem bare_whole {H a b : List Int} (hab : a ++ b = bareV T) (hH : fiveB H = false) : wholeB H a = decide (b = []) := by
  have hlen : a.length + b.length = T.length + 15 := by rw [← List.length_append, hab, bareV_len]
  by_cases hl : a.length < T.length
  · have e : a = T.take a.length := take_pre hab (Nat.le_of_lt hl)
    have hb : b ≠ [] := by rintro rfl; simp at hlen; omega
    unfold wholeB
    rw [show readL a = .error 40 by rw [e]; exact h.cut _ hl]
    simp [hdOf, hb]
  · have e : a = T ++ a.drop T.length := app_pre hab (Nat.le_of_not_lt hl)
    unfold wholeB
    rw [show readL a = .ok (f, T.length) by rw [e]; exact h.ok _]
    have hp := h.pos
    by_cases hb : b = []
    · subst hb
      have : a.length = T.length + 15 := by simpa using hlen
      simp [hdOf, hp, this, hH]
    · have hb1 : 0 < b.length := List.length_pos_iff.2 hb
      have : ¬ a.length = T.length + 15 := by omega
      simp [hdOf, this, hb]

theorem bare_sum : sumB (bareV T) = true := by
  unfold sumB
  rw [decide_eq_true_eq]
  unfold bareV
  rw [h.ok]
  show numOf ((T ++ sumV T).drop T.length) = (crc15 ((T ++ sumV T).take T.length)).toNat
  rw [List.drop_left, List.take_left]
  exact numOf_back (crc_lt T)

theorem bare_hd : (hdOf (readL (bareV T))).2 = f := by unfold bareV; rw [h.ok]; rfl

theorem bare_judged {H a b : List Int} (hab : a ++ b = bareV T) (hH : fiveB H = false) : judged H a = 0 := by
  unfold judged
  rw [bare_form h hab, bare_whole h hab hH]
  by_cases hb : b = []
  · subst hb
    rw [List.append_nil] at hab
    rw [hab, bare_sum h]
    simp
  · simp [hb]

theorem bare_judged5 {H a b : List Int} (hab : a ++ b = bareV T) (hH : fiveB H = true) : judged H a = 0 ∧ wholeB H a = false := by
  have : wholeB H a = false := by unfold wholeB; rw [hH]; simp
  refine ⟨?_, this⟩
  unfold judged
  rw [bare_form h hab, this]
  simp

end

theorem stuffL_snoc {a : List Int} {x : Int} (hq : (tick (stuffS (0, 0) a) x).2 ≠ 5) : stuffL (a ++ [x]) = stuffL a ++ [x] := by
  unfold stuffL
  rw [stuffF_append]
  simp [stuffF, hq]

theorem stuffL_snoc5 {a : List Int} {x : Int} (hq : (tick (stuffS (0, 0) a) x).2 = 5) : stuffL (a ++ [x]) = stuffL a ++ [x] ++ [1 - x] := by
  unfold stuffL
  rw [stuffF_append]
  simp [stuffF, hq]

section

variable {T : List Int} {f : Fr} (h : HeadOf T f) (l : List Int)
include h

theorem pass_one {a b : List Int} {x : Int} (hab : a ++ [x] ++ b = bareV T) (hq : (tick (stuffS (0, 0) a) x).2 ≠ 5) (Z : List Int) :
    rdS l (stuffL a) a (x :: Z) = if b = [] then rdT l (stuffL (bareV T)).length f 0 Z else rdS l (stuffL (a ++ [x])) (a ++ [x]) Z := by
  have h5 := fiveB_stuff a
  have hs := stuffL_snoc hq
  have hP : plainOf (stuffL a) a x = a ++ [x] := by unfold plainOf; rw [h5]; rfl
  have hj := bare_judged h (H := stuffL (a ++ [x])) hab (fiveB_stuff _)
  have hw := bare_whole h (H := stuffL (a ++ [x])) hab (fiveB_stuff _)
  have hv : stuffedF (stuffL a) a x = 0 := by unfold stuffedF; rw [if_neg (by rw [h5]; simp), hP, ← hs]; exact hj
  conv => lhs; simp only [rdS]
  rw [if_pos hv, hP, ← hs, hw]
  by_cases hb : b = []
  · subst hb
    rw [List.append_nil] at hab
    simp only [decide_true, if_true]
    rw [hab, bare_hd h, ← hab, hs, List.length_append]
    rfl
  · simp [hb]

theorem pass_five1 {a b : List Int} {x : Int} (hab : a ++ [x] ++ b = bareV T) (hq : (tick (stuffS (0, 0) a) x).2 = 5) (Z : List Int) :
    rdS l (stuffL a) a (x :: Z) = rdS l (stuffL a ++ [x]) (a ++ [x]) Z := by
  have h5 := fiveB_stuff a
  have hP : plainOf (stuffL a) a x = a ++ [x] := by unfold plainOf; rw [h5]; rfl
  have hf : fiveB (stuffL a ++ [x]) = true := by unfold fiveB; rw [runOf_snoc, runOf_stuff, hq]; rfl
  have ⟨hj, hw⟩ := bare_judged5 h hab hf
  have hv : stuffedF (stuffL a) a x = 0 := by unfold stuffedF; rw [if_neg (by rw [h5]; simp), hP]; exact hj
  conv => lhs; simp only [rdS]
  rw [if_pos hv, hP, hw]
  simp

theorem pass_five2 {a b : List Int} {x : Int} (hab : a ++ [x] ++ b = bareV T) (hq : (tick (stuffS (0, 0) a) x).2 = 5) (Z : List Int) :
    rdS l (stuffL a ++ [x]) (a ++ [x]) ((1 - x) :: Z) = if b = [] then rdT l (stuffL (bareV T)).length f 0 Z else rdS l (stuffL (a ++ [x])) (a ++ [x]) Z := by
  have hs := stuffL_snoc5 hq
  have hf : fiveB (stuffL a ++ [x]) = true := by unfold fiveB; rw [runOf_snoc, runOf_stuff, hq]; rfl
  have hr : (runOf (stuffL a ++ [x])).1 = x := by rw [runOf_snoc, tick_fst]
  have hP : plainOf (stuffL a ++ [x]) (a ++ [x]) (1 - x) = a ++ [x] := by unfold plainOf; rw [hf]; rfl
  have hj := bare_judged h (H := stuffL (a ++ [x])) hab (fiveB_stuff _)
  have hw := bare_whole h (H := stuffL (a ++ [x])) hab (fiveB_stuff _)
  have hv : stuffedF (stuffL a ++ [x]) (a ++ [x]) (1 - x) = 0 := by
    unfold stuffedF
    rw [if_neg (by rw [hr]; rintro ⟨_, e⟩; omega), hP, ← hs]; exact hj
  conv => lhs; simp only [rdS]
  rw [if_pos hv, hP, ← hs, hw]
  by_cases hb : b = []
  · subst hb
    rw [List.append_nil] at hab
    simp only [decide_true, if_true]
    have hl : (stuffL (bareV T)).length = (stuffL a ++ [x]).length + 1 := by rw [← hab, hs, List.length_append]; rfl
    rw [hab, bare_hd h, hl]
  · simp [hb]

/-- Along what is stuffed. -/
theorem pass : ∀ (b a : List Int), a ++ b = bareV T → b ≠ [] → ∀ (i : Nat) (Z : List Int), i ≤ (stuffF (stuffS (0, 0) a) b).length →
    (i < (stuffF (stuffS (0, 0) a) b).length ∧ ∃ P', rdS l (stuffL a) a ((stuffF (stuffS (0, 0) a) b).take i ++ Z) = rdS l (stuffL a ++ (stuffF (stuffS (0, 0) a) b).take i) P' Z) ∨
    (i = (stuffF (stuffS (0, 0) a) b).length ∧ rdS l (stuffL a) a ((stuffF (stuffS (0, 0) a) b).take i ++ Z) = rdT l (stuffL (bareV T)).length f 0 Z)
  | [], _, _, hne, _, _, _ => absurd rfl hne
  | x :: b, a, hab, _, i, Z, hi => by
    have hab' : a ++ [x] ++ b = bareV T := by rw [← hab]; simp
    by_cases hq : (tick (stuffS (0, 0) a) x).2 = 5
    · have hS : stuffS (0, 0) (a ++ [x]) = (1 - x, 1) := by rw [stuffS_append]; simp [stuffS, hq]
      have hF : stuffF (stuffS (0, 0) a) (x :: b) = x :: (1 - x) :: stuffF (stuffS (0, 0) (a ++ [x])) b := by rw [hS]; simp [stuffF, hq]
      have hs := stuffL_snoc5 hq
      rw [hF] at hi ⊢
      match i, hi with
      | 0, _ => left; exact ⟨by simp, a, by simp⟩
      | 1, _ =>
        left
        refine ⟨by simp, a ++ [x], ?_⟩
        simpa using pass_five1 h l hab' hq Z
      | i + 2, hi =>
        simp only [List.take_succ_cons, List.cons_append, List.length_cons] at hi ⊢
        rw [pass_five1 h l hab' hq, pass_five2 h l hab' hq]
        by_cases hb : b = []
        · subst hb
          simp [stuffF] at hi
          subst hi
          right
          simp [stuffF]
        · rw [if_neg hb]
          rcases pass b (a ++ [x]) hab' hb i Z (by omega) with ⟨h1, P', h2⟩ | ⟨h1, h2⟩
          · left; refine ⟨by omega, P', ?_⟩
            rw [h2, hs]; simp
          · right; exact ⟨by omega, h2⟩
    · have hS : stuffS (0, 0) (a ++ [x]) = tick (stuffS (0, 0) a) x := by rw [stuffS_append]; simp [stuffS, hq]
      have hF : stuffF (stuffS (0, 0) a) (x :: b) = x :: stuffF (stuffS (0, 0) (a ++ [x])) b := by rw [hS]; simp [stuffF, hq]
      have hs := stuffL_snoc hq
      rw [hF] at hi ⊢
      match i, hi with
      | 0, _ => left; exact ⟨by simp, a, by simp⟩
      | i + 1, hi =>
        simp only [List.take_succ_cons, List.cons_append, List.length_cons] at hi ⊢
        rw [pass_one h l hab' hq]
        by_cases hb : b = []
        · subst hb
          simp [stuffF] at hi
          subst hi
          right
          simp [stuffF]
        · rw [if_neg hb]
          rcases pass b (a ++ [x]) hab' hb i Z (by omega) with ⟨h1, P', h2⟩ | ⟨h1, h2⟩
          · left; refine ⟨by omega, P', ?_⟩
            rw [h2, hs]; simp
          · right; exact ⟨by omega, h2⟩

/-- The whole of what is stuffed. -/
theorem pass_all (Z : List Int) : rdS l [] [] (stuffL (bareV T) ++ Z) = rdT l (stuffL (bareV T)).length f 0 Z := by
  rcases pass h l (bareV T) [] rfl (bare_ne T) (stuffL (bareV T)).length Z (Nat.le_refl _) with ⟨h1, _⟩ | ⟨_, h2⟩
  · exact absurd h1 (Nat.lt_irrefl _)
  · have e : (stuffF (stuffS (0, 0) []) (bareV T)).take (stuffL (bareV T)).length = stuffL (bareV T) := List.take_length
    rw [e] at h2
    exact h2

theorem pass_cut (i : Nat) (hi : i < (stuffL (bareV T)).length) : rdS l [] [] ((stuffL (bareV T)).take i) = (Fr.none_, 1, (i : Int)) := by
  rcases pass h l (bareV T) [] rfl (bare_ne T) i [] (Nat.le_of_lt hi) with ⟨_, P', h2⟩ | ⟨h1, _⟩
  · have e : rdS l [] [] ((stuffL (bareV T)).take i ++ []) = rdS l ([] ++ (stuffL (bareV T)).take i) P' [] := h2
    rw [List.append_nil] at e
    rw [e]
    simp [rdS]; omega
  · exfalso
    have : i = (stuffL (bareV T)).length := h1
    omega

end

/-- The ten behind: all of them, fewer, one that is another one. -/
def tenV (k : Int) : List Int := [1, k, 1, 1, 1, 1, 1, 1, 1, 1]

theorem ten_all (l : List Int) (e : Nat) (f : Fr) (k : Int) (Z : List Int) : rdT l e f 0 (tenV k ++ Z) = if l.getD (e + 1) 0 = 0 then (f, 0, -1) else (f, 5, ((e + 1 : Nat) : Int)) := by
  simp [tenV, rdT, trailF]

theorem ten_cut (l : List Int) (e : Nat) (f : Fr) (k : Int) (j : Nat) (hj : j < 10) : rdT l e f 0 ((tenV k).take j) = (Fr.none_, 1, ((e + j : Nat) : Int)) := by
  have : j = 0 ∨ j = 1 ∨ j = 2 ∨ j = 3 ∨ j = 4 ∨ j = 5 ∨ j = 6 ∨ j = 7 ∨ j = 8 ∨ j = 9 := by omega
  rcases this with rfl | rfl | rfl | rfl | rfl | rfl | rfl | rfl | rfl | rfl <;> simp [tenV, rdT, trailF]

theorem ten_flip (l : List Int) (e : Nat) (f : Fr) (k : Int) (j : Nat) (hj : j < 10) (h1 : j ≠ 1) (Z : List Int) : rdT l e f 0 ((tenV k).set j 0 ++ Z) = (Fr.none_, 3, ((e + j : Nat) : Int)) := by
  have : j = 0 ∨ j = 2 ∨ j = 3 ∨ j = 4 ∨ j = 5 ∨ j = 6 ∨ j = 7 ∨ j = 8 ∨ j = 9 := by omega
  rcases this with rfl | rfl | rfl | rfl | rfl | rfl | rfl | rfl | rfl <;> simp [tenV, rdT, trailF]

theorem sent_ten (T : List Int) : sentV T = stuffL (bareV T) ++ tenV 1 := rfl

theorem set_ten (S : List Int) (j : Nat) (b : Int) (X : List Int) : (S ++ X).set (S.length + j) b = S ++ X.set j b := by
  rw [List.set_append_right _ _ (by omega)]
  congr 1
  congr 1
  omega

theorem get_ten (S X : List Int) (j : Nat) : (S ++ X).getD (S.length + j) 0 = X.getD j 0 := by
  simp [List.getD, List.getElem?_append_right]

theorem heard_ten {T : List Int} {K : Nat} (hK : (sentV T).length = K + 9) (more : List Int) : (sentV T ++ more).set K 0 = stuffL (bareV T) ++ (tenV 0 ++ more) := by
  have hl := sentV_len T
  rw [hK] at hl
  obtain rfl : K = (stuffL (bareV T)).length + 1 := by omega
  rw [sent_ten, List.append_assoc, set_ten]
  rfl

theorem heardV_ten (T : List Int) : heardV T = stuffL (bareV T) ++ tenV 0 := by
  have hl := sentV_len T
  have := heard_ten (T := T) (K := (sentV T).length - 9) (by omega) []
  simpa [heardV] using this

theorem heard_at (T : List Int) {j : Nat} (hj : j < 10) : (heardV T)[(stuffL (bareV T)).length + j]? = some (if j = 1 then 0 else 1) := by
  rw [heardV_ten, List.getElem?_append_right (by omega), Nat.add_sub_cancel_left]
  have : j = 0 ∨ j = 1 ∨ j = 2 ∨ j = 3 ∨ j = 4 ∨ j = 5 ∨ j = 6 ∨ j = 7 ∨ j = 8 ∨ j = 9 := by omega
  rcases this with rfl | rfl | rfl | rfl | rfl | rfl | rfl | rfl | rfl | rfl <;> rfl

theorem stuffF_right : ∀ (l : List Int) (s : Int × Nat), rightB l = true → rightB (stuffF s l) = true
  | [], _, _ => rfl
  | x :: l, s, hr => by
    have hx : x = 0 ∨ x = 1 := rightB_at hr (k := 0) rfl
    have hl : rightB l = true := rightB_drop hr 1
    simp only [stuffF]
    split
    · have := stuffF_right l (1 - x, 1) hl
      unfold rightB at this ⊢
      rw [List.all_cons, List.all_cons, this]
      rcases hx with rfl | rfl <;> simp
    · have := stuffF_right l (tick s x) hl
      unfold rightB at this ⊢
      rw [List.all_cons, this]
      rcases hx with rfl | rfl <;> simp

theorem sent_min (T : List Int) : T.length + 25 ≤ (sentV T).length := by
  rw [sentV_len]
  have := (stuffL_len (bareV T)).1
  rw [bareV_len] at this
  omega

section

variable {T : List Int} {f : Fr} (h : HeadOf T f)
include h

theorem sent_back (more : List Int) {K : Nat} (hK : (sentV T).length = K + 9) : wireRd (sentV T ++ more) = (f, 5, (K : Int)) := by
  have hl := sentV_len T
  rw [hK] at hl
  have e : sentV T ++ more = stuffL (bareV T) ++ (tenV 1 ++ more) := by rw [sent_ten, List.append_assoc]
  unfold wireRd
  rw [e, pass_all h, ten_all, get_ten]
  rw [if_neg (by simp [tenV])]
  congr 2
  omega

theorem heard_back (more : List Int) {K : Nat} (hK : (sentV T).length = K + 9) : wireRd ((sentV T ++ more).set K 0) = (f, 0, -1) := by
  rw [heard_ten hK]
  unfold wireRd
  rw [pass_all h, ten_all, get_ten, if_pos (by simp [tenV])]

theorem heard_cut {k : Nat} (hk : k < (sentV T).length) : wireRd ((heardV T).take k) = (Fr.none_, 1, (k : Int)) := by
  have hl := sentV_len T
  rw [heardV_ten]
  unfold wireRd
  by_cases hM : k < (stuffL (bareV T)).length
  · rw [List.take_append_of_le_length (Nat.le_of_lt hM)]
    exact pass_cut h _ k hM
  · obtain ⟨j, rfl⟩ : ∃ j, k = (stuffL (bareV T)).length + j := ⟨k - (stuffL (bareV T)).length, by omega⟩
    rw [List.take_append, List.take_of_length_le (by omega), Nat.add_sub_cancel_left, pass_all h, ten_cut _ _ _ _ _ (by omega)]

theorem heard_flip1 {K : Nat} (hK : (sentV T).length = K + 9) : wireRd ((heardV T).set K 1) = (f, 5, (K : Int)) := by
  have e : (heardV T).set K 1 = sentV T ++ [] := by
    have hl := sentV_len T
    rw [hK] at hl
    obtain rfl : K = (stuffL (bareV T)).length + 1 := by omega
    rw [heardV_ten, set_ten, sent_ten, List.append_nil]
    rfl
  rw [e]
  exact sent_back h [] hK

theorem heard_flip {j : Nat} (hj : j < 10) (h1 : j ≠ 1) : wireRd ((heardV T).set ((stuffL (bareV T)).length + j) 0) = (Fr.none_, 3, (((stuffL (bareV T)).length + j : Nat) : Int)) := by
  rw [heardV_ten, set_ten]
  unfold wireRd
  have := ten_flip (stuffL (bareV T) ++ (tenV 0).set j 0) (stuffL (bareV T)).length f 0 j hj h1 []
  rw [List.append_nil] at this
  rw [pass_all h, this]

theorem sent_right : rightB (sentV T) = true := by
  unfold sentV
  rw [rightB_append]
  have : rightB (stuffL (bareV T)) = true := stuffF_right _ _ (bareV_right h.right)
  rw [this]
  rfl

end

theorem row_set {κ : IntKind} {w : World} {B : Nat} {A : Option Addr} {l : List Int} (h : Row κ w B A l) {g k : Nat} {v : Value} (hg : l = [] ∨ ∃ ad, A = some ad ∧ ad.block ≠ g) : Row κ (w.setCell ⟨g, k, none⟩ v) B A l := by
  rcases h with e | ⟨ad, e, hlt, hc⟩
  · exact .inl e
  · rcases hg with e' | ⟨ad', e', hne⟩
    · exact .inl e'
    · rw [e] at e'; cases e'
      exact .inr ⟨ad, e, hlt, fun j x hx => (World.cell?_of_block (Below.heap_setCell _ _ _ _ (by simp [addr_block]; exact hne))).trans (hc j x hx)⟩

theorem set_right {l : List Int} (hr : rightB l = true) (k : Nat) (b : Int) (hb : b = 0 ∨ b = 1) : rightB (l.set k b) = true := by
  unfold rightB at hr ⊢
  rw [List.all_eq_true] at hr ⊢
  intro x hx
  rcases List.mem_or_eq_of_mem_set hx with h | h
  · exact hr x h
  · subst h; simpa using hb

theorem pre_eq {a b : List Int} {n : Nat} (hn : n = min a.length b.length) (h : a.take n = b.take n) (hab : a.length ≤ b.length) : ∃ more, b = a ++ more := by
  have e : n = a.length := by omega
  rw [e, List.take_length] at h
  exact ⟨b.drop a.length, by conv => lhs; rw [← List.take_append_drop a.length b]; rw [← h]⟩

theorem apart {T T' : List Int} {f f' : Fr} (hO : HeadOf T f) (hO' : HeadOf T' f') (hT : f = f' → T = T') {n : Nat} (hn : n = min (sentV T).length (sentV T').length) : (sentV T).take n = (sentV T').take n ↔ f = f' := by
  constructor
  · intro h
    have e1 := sentV_len T
    have e2 := sentV_len T'
    have r1 := sent_back hO [] (K := (sentV T).length - 9) (by omega)
    have r2 := sent_back hO' [] (K := (sentV T').length - 9) (by omega)
    rw [List.append_nil] at r1 r2
    by_cases hab : (sentV T).length ≤ (sentV T').length
    · obtain ⟨more, hm⟩ := pre_eq hn h hab
      have := sent_back hO more (K := (sentV T).length - 9) (by omega)
      rw [← hm, r2] at this
      exact (congrArg Prod.fst this).symm
    · obtain ⟨more, hm⟩ := pre_eq (a := sentV T') (b := sentV T) (by omega) h.symm (by omega)
      have := sent_back hO' more (K := (sentV T').length - 9) (by omega)
      rw [← hm, r1] at this
      exact congrArg Prod.fst this
  · intro h
    rw [hT h]

theorem sent_take {T : List Int} {n : Nat} (hn : n ≤ T.length) : (sentV T).take n = (stuffL (T.take n)).take n := by
  have e1 : (bareV T).take n = T.take n := by unfold bareV; rw [List.take_append_of_le_length hn]
  have e2 := (stuffL_len (T.take n)).1
  rw [List.length_take, Nat.min_eq_left hn] at e2
  obtain ⟨s, hs⟩ := stuffF_take (bareV T) (0, 0) n
  rw [e1] at hs
  unfold sentV
  have hs' : stuffL (bareV T) = stuffL (T.take n) ++ s := hs.symm
  rw [hs', List.append_assoc, List.take_append_of_le_length e2]

theorem shares {T T' : List Int} {n : Nat} (h1 : n ≤ T.length) (h2 : n ≤ T'.length) (h : T.take n = T'.take n) : (sentV T).take n = (sentV T').take n := by
  rw [sent_take h1, sent_take h2, h]

theorem runs_pre : ∀ (l : List Int) (s : Int × Nat) (k : Nat), 1 ≤ k → k ≤ l.length → ((l.take k).foldl tick s).2 ≤ runsF s l
  | [], _, k, h1, h2 => by simp at h2; omega
  | x :: l, s, k, h1, h2 => by
    obtain ⟨j, rfl⟩ : ∃ j, k = j + 1 := ⟨k - 1, by omega⟩
    rw [List.take_succ_cons, List.foldl_cons]
    simp only [runsF]
    by_cases hj : j = 0
    · subst hj; simp; omega
    · have := runs_pre l (tick s x) j (by omega) (by simpa using h2)
      omega

theorem sent_run {T : List Int} {k : Nat} (hk : k + 1 ≤ (stuffL (bareV T)).length) : (runOf ((sentV T).take (k + 1))).2 ≤ 5 := by
  unfold sentV
  rw [List.take_append_of_le_length hk]
  have h1 := runs_pre (stuffL (bareV T)) (0, 0) (k + 1) (by omega) hk
  have h2 := runs_stuffF (bareV T) (0, 0) (by simp)
  unfold runOf
  unfold stuffL at h1
  unfold stuffL
  omega

theorem sent_one {T : List Int} {j : Nat} (hj : j < 10) : (sentV T)[(stuffL (bareV T)).length + j]? = some 1 := by
  unfold sentV
  rw [List.getElem?_append_right (by omega), Nat.add_sub_cancel_left]
  unfold ones
  rw [List.getElem?_replicate, if_pos hj]

theorem sent_most {T : List Int} {x : Bool} {m : Nat} (hT : T.length = hn x + 8 * m) : (sentV T).length ≤ mostV x m := by
  have h1 := (stuffL_len (bareV T)).2
  have h2 := (stuffL_len (bareV T)).1
  rw [bareV_len, hT] at h1 h2
  rw [sentV_len]
  cases x <;> simp only [mostV, hn, if_true, if_false, Bool.false_eq_true] at h1 h2 ⊢ <;> omega

theorem run_next {l : List Int} {k : Nat} {x : Int} (hx : l[k]? = some x) : runOf (l.take (k + 1)) = tick (runOf (l.take k)) x := by rw [take_snoc hx, runOf_snoc]

theorem run_last {l : List Int} {k : Nat} {y : Int} (hy : l[k]? = some y) : (runOf (l.take (k + 1))).1 = y := by rw [run_next hy, tick_fst]

end Go.Proofs.Ytajabpjphobabaa
