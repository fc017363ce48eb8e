/-
  ArbMath: what this seat needs of them.
-/
import Derived.Test.YtlbgilbigcnleaaNBi
import Derived.Test.YtlbgilbigcnleaaNFr
import Derived.Test.YtlbgilbigcnleaaNRk
namespace Go.Proofs.Ytlbgilbigcnleaa
open Go.RowKit
set_option linter.unusedVariables false
set_option linter.unusedSimpArgs false

/-- a is ahead of b at place k. -/
def lessAt (a b : List Int) (k : Nat) : Prop := a.take k = b.take k ∧ a[k]? = some 0 ∧ b[k]? = some 1

def lessR (a b : List Int) : Prop := ∃ k, lessAt a b k

/-- W is the least of the rows (of none: no row). -/
structure LeastE (W : List Int) (rs : List (List Int)) : Prop where
  all : ∀ r ∈ rs, r = W ∨ lessR W r
  mem : W ≠ [] → W ∈ rs
  right : ∀ r ∈ rs, rightB r = true
  rw_ : rightB W = true
  none_ : rs = [] → W = []
  pos : ∀ r ∈ rs, r ≠ []

theorem take_get {a b : List Int} {p k : Nat} (h : a.take p = b.take p) (hk : k < p) : a[k]? = b[k]? := by
  have := congrArg (fun l => l[k]?) h
  simpa [List.getElem?_take, hk] using this

theorem take_more {a b : List Int} {p k : Nat} (h : a.take p = b.take p) (hk : k ≤ p) : a.take k = b.take k := by
  have := congrArg (fun l => l.take k) h
  simpa [List.take_take, Nat.min_eq_left hk] using this

theorem take_next {a b : List Int} {p : Nat} (h : a.take p = b.take p) (hp : a[p]? = b[p]?) : a.take (p + 1) = b.take (p + 1) := by
  rw [List.take_add_one, List.take_add_one, h, hp]

theorem less_asym {a b : List Int} (h : lessR a b) (h' : lessR b a) : False := by
  obtain ⟨k, h1, h2, h3⟩ := h
  obtain ⟨j, g1, g2, g3⟩ := h'
  rcases Nat.lt_trichotomy k j with hk | rfl | hk
  · have := take_get g1 hk; rw [h2, h3] at this; simp at this
  · rw [h2] at g3; simp at g3
  · have := take_get h1 hk; rw [g2, g3] at this; simp at this

theorem less_irr {a : List Int} (h : lessR a a) : False := less_asym h h

theorem less_trans {a b c : List Int} (h : lessR a b) (h' : lessR b c) : lessR a c := by
  obtain ⟨k, h1, h2, h3⟩ := h
  obtain ⟨j, g1, g2, g3⟩ := h'
  rcases Nat.lt_trichotomy k j with hk | rfl | hk
  · exact ⟨k, h1.trans (take_more g1 (by omega)), h2, by rw [← take_get g1 hk]; exact h3⟩
  · rw [h3] at g2; simp at g2
  · exact ⟨j, (take_more h1 (by omega)).trans g1, by rw [take_get h1 hk]; exact g2, g3⟩

/-- Any two rows are comparable. -/
def Chain (rs : List (List Int)) : Prop := ∀ a ∈ rs, ∀ b ∈ rs, a = b ∨ lessR a b ∨ lessR b a

theorem least_ex : ∀ (rs : List (List Int)), Chain rs → (∀ r ∈ rs, rightB r = true) → (∀ r ∈ rs, r ≠ []) → ∃ W, LeastE W rs
  | [], _, _, _ => ⟨[], by simp, by simp, by simp, rfl, fun _ => rfl, by simp⟩
  | [r], _, hr, hp => ⟨r, by simp, by simp, by simpa using hr, hr r (by simp), by simp, by simpa using hp⟩
  | r :: s :: rs, hc, hr, hp => by
    obtain ⟨W, hall, hmem, _, hW, _, _⟩ := least_ex (s :: rs) (fun a ha b hb => hc a (List.mem_cons_of_mem _ ha) b (List.mem_cons_of_mem _ hb)) (fun x hx => hr x (List.mem_cons_of_mem _ hx)) (fun x hx => hp x (List.mem_cons_of_mem _ hx))
    have hm : W ∈ s :: rs := by
      apply hmem
      intro e
      subst e
      rcases hall s (by simp) with h | ⟨k, _, h2, _⟩
      · exact hp s (by simp) h
      · simp at h2
    rcases hc r (by simp) W (List.mem_cons_of_mem _ hm) with rfl | h | h
    · refine ⟨r, fun x hx => ?_, by simp, hr, hr r (by simp), by simp, hp⟩
      rcases List.mem_cons.1 hx with rfl | hx
      · exact .inl rfl
      · exact hall x hx
    · refine ⟨r, fun x hx => ?_, by simp, hr, hr r (by simp), by simp, hp⟩
      rcases List.mem_cons.1 hx with rfl | hx
      · exact .inl rfl
      · rcases hall x hx with rfl | h'
        · exact .inr h
        · exact .inr (less_trans h h')
    · refine ⟨W, fun x hx => ?_, fun _ => List.mem_cons_of_mem _ hm, hr, hW, by simp, hp⟩
      rcases List.mem_cons.1 hx with rfl | hx
      · exact .inr h
      · exact hall x hx

theorem LeastE.ne {W : List Int} {rs : List (List Int)} (h : LeastE W rs) (hn : rs ≠ []) : W ∈ rs := by
  apply h.mem
  intro e
  subst e
  obtain ⟨r, hr⟩ := List.exists_mem_of_ne_nil _ hn
  rcases h.all r hr with h' | ⟨k, _, h2, _⟩
  · exact h.pos r hr h'
  · simp at h2

theorem LeastE.uniq {W V : List Int} {rs ss : List (List Int)} (h : LeastE W rs) (h' : LeastE V ss) (h1 : W ∈ ss) (h2 : V ∈ rs) : W = V := by
  rcases h.all V h2 with e | e
  · exact e.symm
  · rcases h'.all W h1 with e' | e'
    · exact e'
    · exact (less_asym e e').elim

/-- Still in at place p. -/
def stays (W : List Int) (p : Nat) (r : List Int) : Bool := decide (r.take p = W.take p)

theorem stay_end {W r : List Int} (h : r = W ∨ lessR W r) (hs : stays W W.length r = true) : r = W := by
  have hs := of_decide_eq_true hs
  rcases h with h | ⟨k, h1, h2, h3⟩
  · exact h
  · have hk : k < W.length := (List.getElem?_eq_some_iff.1 h2).1
    have := take_get hs hk
    rw [h2, h3] at this; simp at this

theorem stay_bit {W r : List Int} {p : Nat} (hp : p < W.length) (hW : rightB W = true) (h : r = W ∨ lessR W r) (hs : stays W p r = true) : ∃ b, r[p]? = some b ∧ (b = 0 → W[p]? = some 0) := by
  have hs := of_decide_eq_true hs
  rcases h with rfl | ⟨k, h1, h2, h3⟩
  · exact ⟨_, List.getElem?_eq_getElem hp, fun e => by rw [List.getElem?_eq_getElem hp, e]⟩
  · rcases Nat.lt_trichotomy k p with hk | rfl | hk
    · have := take_get hs hk; rw [h2, h3] at this; simp at this
    · exact ⟨1, h3, fun e => by simp at e⟩
    · have e := take_get h1 hk
      refine ⟨W[p], by rw [← e]; exact List.getElem?_eq_getElem hp, fun e' => by rw [List.getElem?_eq_getElem hp, e']⟩

/-- The level of bits. -/
def andL (l : List Int) : Int := if 0 ∈ l then 0 else 1

/-- What is kept at place p, the level known. -/
def keepB (p : Nat) (level : Int) (r : List Int) : Bool := decide (r[p]? = none ∨ r[p]? = some level)

theorem stays_succ {W r : List Int} {p : Nat} {x : Int} (hx : W[p]? = some x) (hW : rightB W = true) (h : r = W ∨ lessR W r) : (keepB p x r && stays W p r) = stays W (p + 1) r := by
  have hp : p < W.length := (List.getElem?_eq_some_iff.1 hx).1
  rw [Bool.eq_iff_iff]
  constructor
  · intro he
    simp only [Bool.and_eq_true] at he
    obtain ⟨h1, h2⟩ := he
    obtain ⟨b, hb, _⟩ := stay_bit hp hW h h2
    have h1 := of_decide_eq_true h1
    rw [hb] at h1
    simp at h1
    subst h1
    exact decide_eq_true (take_next (of_decide_eq_true h2) (by rw [hb, hx]))
  · intro he
    have he := of_decide_eq_true he
    have h2 : stays W p r = true := decide_eq_true (take_more he (by omega))
    simp only [Bool.and_eq_true]
    refine ⟨decide_eq_true (.inr ?_), h2⟩
    rw [take_get he (Nat.lt_succ_self p), hx]

theorem and_stays {W : List Int} {rs : List (List Int)} (h : LeastE W rs) {p : Nat} {x : Int} (hx : W[p]? = some x) : andL ((rs.filter (stays W p)).filterMap (·[p]?)) = x := by
  have hp : p < W.length := (List.getElem?_eq_some_iff.1 hx).1
  have hm : W ∈ rs := h.mem (by intro e; subst e; simp at hp)
  unfold andL
  split
  · rename_i h0
    obtain ⟨r, hr, h1⟩ := List.mem_filterMap.1 h0
    obtain ⟨hr, hs⟩ := List.mem_filter.1 hr
    obtain ⟨b, hb, hb0⟩ := stay_bit hp h.rw_ (h.all r hr) hs
    rw [hb] at h1
    have := hb0 (Option.some.inj h1)
    rw [hx] at this
    exact (Option.some.inj this).symm
  · rename_i h0
    rcases rightB_at h.rw_ hx with rfl | rfl
    · exfalso
      apply h0
      exact List.mem_filterMap.2 ⟨W, List.mem_filter.2 ⟨hm, decide_eq_true rfl⟩, hx⟩
    · rfl

theorem stays_len {W : List Int} {rs : List (List Int)} (h : LeastE W rs) {p : Nat} (hp : p < W.length) : (rs.filter (stays W p)).filterMap (·[p]?) ≠ [] := by
  have hm : W ∈ rs := h.mem (by intro e; subst e; simp at hp)
  intro e
  have : W[p] ∈ (rs.filter (stays W p)).filterMap (·[p]?) := List.mem_filterMap.2 ⟨W, List.mem_filter.2 ⟨hm, decide_eq_true rfl⟩, List.getElem?_eq_getElem hp⟩
  rw [e] at this
  simp at this

theorem stays_none {W : List Int} {rs : List (List Int)} (h : LeastE W rs) : (rs.filter (stays W W.length)).filterMap (·[W.length]?) = [] := by
  rw [List.filterMap_eq_nil_iff]
  intro r hr
  obtain ⟨hr, hs⟩ := List.mem_filter.1 hr
  have := stay_end (h.all r hr) hs
  subst this
  exact List.getElem?_eq_none (Nat.le_refl _)

theorem stays_zero (W : List Int) (rs : List (List Int)) : rs.filter (stays W 0) = rs := by
  rw [List.filter_eq_self]
  intro r _
  simp [stays]

/-- Where two rows differ first. -/
def diffAt : List Int → List Int → Nat
  | a :: sa, b :: sb => if a = b then diffAt sa sb + 1 else 0
  | _, _ => 0

theorem diffAt_at : ∀ (k : Nat) (a b : List Int) (x y : Int), a.take k = b.take k → a[k]? = some x → b[k]? = some y → x ≠ y → diffAt a b = k
  | 0, a :: sa, b :: sb, x, y, _, hx, hy, hn => by
    simp at hx hy
    subst hx hy
    simp [diffAt, hn]
  | k + 1, a :: sa, b :: sb, x, y, ht, hx, hy, hn => by
    simp at ht hx hy
    simp [diffAt, ht.1, diffAt_at k sa sb x y ht.2 hx hy hn]
  | 0, [], _, _, _, _, hx, _, _ => by simp at hx
  | 0, _ :: _, [], _, _, _, _, hy, _ => by simp at hy
  | k + 1, [], _, _, _, _, hx, _, _ => by simp at hx
  | k + 1, _ :: _, [], _, _, _, _, hy, _ => by simp at hy

/-- Where r is lost to W: nowhere, if it is W. -/
def lostOf (W r : List Int) : Int := if r = W then -1 else (diffAt W r : Int)

theorem lostOf_self (W : List Int) : lostOf W W = -1 := by simp [lostOf]

theorem lostOf_at {W r : List Int} {k : Nat} (h : lessAt W r k) : lostOf W r = k := by
  have hne : r ≠ W := by
    intro e
    subst e
    exact less_irr ⟨k, h⟩
  rw [lostOf, if_neg hne, diffAt_at k W r 0 1 h.1 h.2.1 h.2.2 (by decide)]

theorem lostOf_no {W r : List Int} (h : lostOf W r = -1) : r = W := by
  unfold lostOf at h
  split at h
  · assumption
  · omega

theorem lostOf_diff {W r : List Int} {k : Nat} {x y : Int} (h : W.take k = r.take k) (hx : W[k]? = some x) (hy : r[k]? = some y) (hn : x ≠ y) : lostOf W r = k := by
  have hne : r ≠ W := by
    intro e
    subst e
    rw [hx] at hy
    exact hn (Option.some.inj hy)
  rw [lostOf, if_neg hne, diffAt_at k W r x y h hx hy hn]

/-- The first place of a number, or -1. -/
def idxI (v : Int) : List Int → Int
  | [] => -1
  | x :: xs => if v = x then 0 else if idxI v xs < 0 then -1 else idxI v xs + 1

theorem idxI_none : ∀ {v : Int} {l : List Int}, v ∉ l → idxI v l = -1
  | v, [], _ => rfl
  | v, x :: xs, h => by
    simp only [List.mem_cons, not_or] at h
    simp [idxI, h.1, idxI_none h.2]

theorem idxI_at : ∀ {v : Int} {l : List Int} {k : Nat}, l[k]? = some v → (∀ j, j < k → l[j]? ≠ some v) → idxI v l = k
  | v, [], k, h, _ => by simp at h
  | v, x :: xs, 0, h, _ => by simp at h; simp [idxI, h]
  | v, x :: xs, k + 1, h, hn => by
    have h0 : v ≠ x := by
      intro e
      exact hn 0 (by omega) (by simp [e])
    have := idxI_at (v := v) (l := xs) (k := k) (by simpa using h) (fun j hj => by simpa using hn (j + 1) (by omega))
    simp only [idxI, if_neg h0, this]
    rw [if_neg (by omega)]
    omega

theorem idxI_cases (v : Int) : ∀ (l : List Int), (v ∉ l ∧ idxI v l = -1) ∨ ∃ k : Nat, l[k]? = some v ∧ (∀ j : Nat, j < k → l[j]? ≠ some v) ∧ idxI v l = k
  | [] => .inl ⟨by simp, rfl⟩
  | x :: xs => by
    by_cases hx : v = x
    · subst hx
      exact .inr ⟨0, by simp, by intro j hj; omega, by simp [idxI]⟩
    · rcases idxI_cases v xs with ⟨h1, h2⟩ | ⟨k, h1, h2, h3⟩
      · exact .inl ⟨by simp [hx, h1], by simp [idxI, hx, h2]⟩
      · have hk : (x :: xs)[k + 1]? = some v := by simpa using h1
        have hj : ∀ j : Nat, j < k + 1 → (x :: xs)[j]? ≠ some v := by
          intro j hj
          cases j with
          | zero => simp; exact fun e => hx e.symm
          | succ j => simpa using h2 j (by omega)
        exact .inr ⟨k + 1, hk, hj, idxI_at hk hj⟩

/-- Who wins. -/
def winOf (W : List Int) (rs : List (List Int)) : Int := idxI (-1) (rs.map (lostOf W))

theorem winOf_spec {W : List Int} {rs : List (List Int)} (h : LeastE W rs) (hn : rs ≠ []) : ∃ i : Nat, i < rs.length ∧ rs[i]? = some W ∧ (∀ j, j < i → rs[j]? ≠ some W) ∧ winOf W rs = i := by
  have hm := h.ne hn
  unfold winOf
  rcases idxI_cases (-1) (rs.map (lostOf W)) with ⟨h1, _⟩ | ⟨k, h1, h2, h3⟩
  · exact absurd (List.mem_map.2 ⟨W, hm, lostOf_self W⟩) h1
  · rw [List.getElem?_map, Option.map_eq_some_iff] at h1
    obtain ⟨r, hr, e⟩ := h1
    have := lostOf_no e
    subst this
    refine ⟨k, (List.getElem?_eq_some_iff.1 hr).1, hr, fun j hj e => h2 j hj ?_, h3⟩
    rw [List.getElem?_map, e]
    simp [lostOf_self]

theorem winOf_none (W : List Int) : winOf W [] = -1 := rfl

theorem winOf_at {W : List Int} {rs : List (List Int)} {i : Nat} (h1 : rs[i]? = some W) (h2 : ∀ j, j < i → rs[j]? ≠ some W) : winOf W rs = i := by
  unfold winOf
  refine idxI_at (by rw [List.getElem?_map, h1]; simp [lostOf_self]) fun j hj e => ?_
  rw [List.getElem?_map, Option.map_eq_some_iff] at e
  obtain ⟨r, hr, e⟩ := e
  exact h2 j hj (by rw [hr, lostOf_no e])

/-- The document's 'Less'. -/
def lessB : List Int → List Int → Bool
  | a :: sa, b :: sb => if a = b then lessB sa sb else decide (a < b)
  | _, _ => false

theorem lessB_at : ∀ (k : Nat) (a b : List Int) (x y : Int), a.take k = b.take k → a[k]? = some x → b[k]? = some y → x ≠ y → lessB a b = decide (x < y)
  | 0, a :: sa, b :: sb, x, y, _, hx, hy, hn => by
    simp at hx hy
    subst hx hy
    simp [lessB, hn]
  | k + 1, a :: sa, b :: sb, x, y, ht, hx, hy, hn => by
    simp at ht hx hy
    simp [lessB, ht.1, lessB_at k sa sb x y ht.2 hx hy hn]
  | 0, [], _, _, _, _, hx, _, _ => by simp at hx
  | 0, _ :: _, [], _, _, _, _, hy, _ => by simp at hy
  | k + 1, [], _, _, _, _, hx, _, _ => by simp at hx
  | k + 1, _ :: _, [], _, _, _, _, hy, _ => by simp at hy

theorem lessB_end : ∀ (k : Nat) (a b : List Int), a.take k = b.take k → (a.length ≤ k ∨ b.length ≤ k) → lessB a b = false
  | _, [], _, _, _ => by simp [lessB]
  | _, _ :: _, [], _, _ => by simp [lessB]
  | 0, _ :: _, _ :: _, _, h => by simp at h
  | k + 1, a :: sa, b :: sb, ht, h => by
    simp at ht
    simp only [lessB, ht.1, if_true]
    exact lessB_end k sa sb ht.2 (by simpa using h)

theorem lessB_yes {a b : List Int} (h : lessR a b) : lessB a b = true := by
  obtain ⟨k, h1, h2, h3⟩ := h
  rw [lessB_at k a b 0 1 h1 h2 h3 (by decide)]
  decide

theorem lessB_no {a b : List Int} (h : lessR b a) : lessB a b = false := by
  obtain ⟨k, h1, h2, h3⟩ := h
  rw [lessB_at k a b 1 0 h1.symm h3 h2 (by decide)]
  decide

theorem lessB_self (a : List Int) : lessB a a = false := lessB_end a.length a a rfl (.inl (Nat.le_refl _))

end Go.Proofs.Ytlbgilbigcnleaa
