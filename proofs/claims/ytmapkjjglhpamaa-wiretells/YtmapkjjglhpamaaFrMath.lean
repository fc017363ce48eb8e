/-
  A frame is read of its head, of less than its head none is; bits of which a frame is read begin with its head: lists alone.
-/
import Derived.Test.YtmapkjjglhpamaaLaw4
namespace Go.Proofs.Ytmapkjjglhpamaa
open Go.RowKit

theorem row4 (n : Nat) : bitRow n 4 4 = [bitAt n 4 0, bitAt n 4 1, bitAt n 4 2, bitAt n 4 3] := rfl
theorem row11 (n : Nat) : bitRow n 11 11 = [bitAt n 11 0, bitAt n 11 1, bitAt n 11 2, bitAt n 11 3, bitAt n 11 4, bitAt n 11 5, bitAt n 11 6, bitAt n 11 7, bitAt n 11 8, bitAt n 11 9, bitAt n 11 10] := rfl
theorem row18 (n : Nat) : bitRow n 18 18 = [bitAt n 18 0, bitAt n 18 1, bitAt n 18 2, bitAt n 18 3, bitAt n 18 4, bitAt n 18 5, bitAt n 18 6, bitAt n 18 7, bitAt n 18 8, bitAt n 18 9, bitAt n 18 10, bitAt n 18 11, bitAt n 18 12, bitAt n 18 13, bitAt n 18 14, bitAt n 18 15, bitAt n 18 16, bitAt n 18 17] := rfl

theorem flag_one (r : Bool) : decide (flag r = 1) = r := by cases r <;> rfl

/-- What stands where in a short head, whatever follows. -/
structure IsS (l : List Int) (ID : Nat) (r : Bool) (L : Nat) (t : List Int) : Prop where
  g0 : l.getD 0 0 = 0
  n1 : (l.drop 1).take 11 = bitRow ID 11 11
  g12 : l.getD 12 0 = flag r
  g13 : l.getD 13 0 = 0
  g14 : l.getD 14 0 = 0
  n2 : (l.drop 15).take 4 = bitRow L 4 4
  d : l.drop 19 = t
  len : l.length = 19 + t.length
theorem isS (ID : Nat) (r : Bool) (L : Nat) (t : List Int) : IsS ([0] ++ (rankS ID r ++ ([0] ++ (bitRow L 4 4 ++ t)))) ID r L t := by
  unfold rankS
  rw [row11, row4]
  exact ⟨rfl, by rw [row11]; rfl, rfl, rfl, rfl, by rw [row4]; rfl, rfl, by simp; omega⟩
structure IsX (l : List Int) (ID : Nat) (r : Bool) (L : Nat) (t : List Int) : Prop where
  g0 : l.getD 0 0 = 0
  n1 : (l.drop 1).take 11 = bitRow (ID / 262144) 11 11
  g12 : l.getD 12 0 = 1
  g13 : l.getD 13 0 = 1
  n3 : (l.drop 14).take 18 = bitRow (ID % 262144) 18 18
  g32 : l.getD 32 0 = flag r
  g33 : l.getD 33 0 = 0
  g34 : l.getD 34 0 = 0
  n2 : (l.drop 35).take 4 = bitRow L 4 4
  d : l.drop 39 = t
  len : l.length = 39 + t.length
theorem isX (ID : Nat) (r : Bool) (L : Nat) (t : List Int) : IsX ([0] ++ (rankX ID r ++ ([0, 0] ++ (bitRow L 4 4 ++ t)))) ID r L t := by
  unfold rankX
  rw [row11, row18, row4]
  exact ⟨rfl, by rw [row11]; rfl, rfl, rfl, by rw [row18]; rfl, rfl, rfl, rfl, by rw [row4]; rfl, rfl, by simp; omega⟩

theorem num4 {L : Nat} (hL : L ≤ 8) : numOf (bitRow L 4 4) = L := numOf_back (by omega)

/-- The tail of a head, at either place. -/
theorem tail_ok {l : List Int} {k : Nat} {x : Bool} {i : Int} {r : Bool} {L : Nat} {dl more : List Int} (hk : l.getD k 0 = 0) (n2 : (l.drop (k + 1)).take 4 = bitRow L 4 4) (d : l.drop (k + 5) = spreadL dl ++ more) (len : l.length = k + 5 + (spreadL dl ++ more).length)
    (hL : L ≤ 8) (hb : byteB dl) (hd : dl.length = if r then 0 else L) : tailL l ⟨x, i, r, 0, []⟩ k = .ok (⟨x, i, r, L, dl⟩, k + 5 + 8 * dl.length) := by
  have hn : numAt l (k + 1) 4 = (L : Int) := by unfold numAt; rw [n2, num4 hL]
  have hs := spreadL_len dl
  rw [List.length_append, hs] at len
  unfold tailL
  rw [if_neg (by omega), if_neg (by rw [hk]; decide), if_neg (by omega), hn, if_neg (by omega)]
  cases r
  · simp only [Bool.false_eq_true, if_false, Int.toNat_natCast] at hd ⊢
    rw [if_neg (by omega), d, List.take_left' (by rw [hs, hd]), joinL_spread hb, hd]
  · simp only [if_true] at hd ⊢
    obtain rfl := List.eq_nil_of_length_eq_zero hd
    simp

theorem read_head (x : Bool) (ID : Nat) (r : Bool) (L : Nat) (dl more : List Int) (hID : idOk x ID) (hL : L ≤ 8) (hb : byteB dl) (hd : dl.length = if r then 0 else L) :
    readL (headV x ID r L dl ++ more) = .ok (⟨x, ID, r, L, dl⟩, (headV x ID r L dl).length) := by
  rw [headV_len]
  cases x
  · have e : headV false ID r L dl ++ more = [0] ++ (rankS ID r ++ ([0] ++ (bitRow L 4 4 ++ (spreadL dl ++ more)))) := by simp [headV]
    rw [e]
    have I := isS ID r L (spreadL dl ++ more)
    generalize [0] ++ (rankS ID r ++ ([0] ++ (bitRow L 4 4 ++ (spreadL dl ++ more)))) = l at I
    have hl := I.len
    have hid : numAt l 1 11 = (ID : Int) := by unfold numAt; rw [I.n1, numOf_back (show ID < 2 ^ 11 from hID)]
    unfold readL
    rw [if_neg (by omega), if_neg (by rw [I.g0]; decide)]
    unfold namedL
    rw [if_neg (by omega), if_pos I.g13, hid, I.g12, flag_one]
    exact tail_ok (k := 14) I.g14 I.n2 I.d hl hL hb hd
  · have e : headV true ID r L dl ++ more = [0] ++ (rankX ID r ++ ([0, 0] ++ (bitRow L 4 4 ++ (spreadL dl ++ more)))) := by simp [headV]
    rw [e]
    have I := isX ID r L (spreadL dl ++ more)
    generalize [0] ++ (rankX ID r ++ ([0, 0] ++ (bitRow L 4 4 ++ (spreadL dl ++ more)))) = l at I
    have hl := I.len
    have hID' : ID < 536870912 := hID
    have hid : numAt l 1 11 * 262144 + numAt l 14 18 = (ID : Int) := by
      unfold numAt
      rw [I.n1, I.n3, numOf_back (show ID / 262144 < 2 ^ 11 by omega), numOf_back (show ID % 262144 < 2 ^ 18 from Nat.mod_lt _ (by omega))]
      omega
    unfold readL
    rw [if_neg (by omega), if_neg (by rw [I.g0]; decide)]
    unfold namedL
    rw [if_neg (by omega), if_neg (by rw [I.g13]; decide), if_neg (by rw [I.g12]; decide), if_neg (by omega), if_neg (by rw [I.g33]; decide), hid, I.g32, flag_one]
    exact tail_ok (k := 34) I.g34 I.n2 I.d hl hL hb hd

theorem take_getD {l : List Int} {k j : Nat} (h : j < k) : (l.take k).getD j 0 = l.getD j 0 := by
  simp [List.getD, h]
theorem take_num {l : List Int} {k a m : Nat} (h : a + m ≤ k) : ((l.take k).drop a).take m = (l.drop a).take m := by
  rw [List.drop_take, List.take_take, Nat.min_eq_left (by omega)]

theorem tail_cut {l : List Int} {k q : Nat} {x : Bool} {i : Int} {r : Bool} {L : Nat} {dl : List Int} (hk : l.getD k 0 = 0) (n2 : (l.drop (k + 1)).take 4 = bitRow L 4 4)
    (hL : L ≤ 8) (hd : dl.length = if r then 0 else L) (hq : q < k + 5 + 8 * dl.length) (hql : q ≤ l.length) : tailL (l.take q) ⟨x, i, r, 0, []⟩ k = .error 40 := by
  have hlen : (l.take q).length = q := by simp; omega
  unfold tailL
  rw [hlen]
  by_cases h1 : q < k + 1
  · rw [if_pos h1]
  rw [if_neg h1, if_neg (by rw [take_getD (by omega), hk]; decide)]
  by_cases h2 : q < k + 5
  · rw [if_pos h2]
  have hn : numAt (l.take q) (k + 1) 4 = (L : Int) := by unfold numAt; rw [take_num (by omega), n2, num4 hL]
  rw [if_neg h2, hn, if_neg (by omega)]
  cases r
  · simp only [Bool.false_eq_true, if_false, Int.toNat_natCast] at hd ⊢
    rw [if_pos (by omega)]
  · simp only [if_true] at hd
    omega

theorem read_cut (x : Bool) (ID : Nat) (r : Bool) (L : Nat) (dl : List Int) (hL : L ≤ 8) (hd : dl.length = if r then 0 else L) (q : Nat) (hq : q < (headV x ID r L dl).length) :
    readL ((headV x ID r L dl).take q) = .error 40 := by
  have hq' := hq
  rw [headV_len] at hq'
  have hlen : ((headV x ID r L dl).take q).length = q := by simp; omega
  unfold readL
  rw [hlen]
  by_cases h1 : q < 1
  · rw [if_pos h1]
  cases x
  · have I := isS ID r L (spreadL dl)
    change IsS (headV false ID r L dl) ID r L (spreadL dl) at I
    generalize headV false ID r L dl = l at I hq hlen
    change q < 19 + 8 * dl.length at hq'
    rw [if_neg h1, if_neg (by rw [take_getD (by omega), I.g0]; decide)]
    unfold namedL
    rw [hlen]
    by_cases h2 : q < 14
    · rw [if_pos h2]
    rw [if_neg h2, if_pos (by rw [take_getD (by omega), I.g13]), take_getD (show 12 < q by omega), I.g12, flag_one]
    exact tail_cut (k := 14) I.g14 I.n2 hL hd hq' (by omega)
  · have I := isX ID r L (spreadL dl)
    change IsX (headV true ID r L dl) ID r L (spreadL dl) at I
    generalize headV true ID r L dl = l at I hq hlen
    change q < 39 + 8 * dl.length at hq'
    rw [if_neg h1, if_neg (by rw [take_getD (by omega), I.g0]; decide)]
    unfold namedL
    rw [hlen]
    by_cases h2 : q < 14
    · rw [if_pos h2]
    rw [if_neg h2, if_neg (by rw [take_getD (by omega), I.g13]; decide), if_neg (by rw [take_getD (by omega), I.g12]; decide)]
    by_cases h3 : q < 34
    · rw [if_pos h3]
    rw [if_neg h3, if_neg (by rw [take_getD (by omega), I.g33]; decide), take_getD (show 32 < q by omega), I.g32, flag_one]
    exact tail_cut (k := 34) I.g34 I.n2 hL hd hq' (by omega)

theorem read_err {l : List Int} {e : Int} (h : readL l = .error e) : e = 40 ∨ e = 42 ∨ e = 41 := by
  unfold readL at h
  split at h
  · cases h; exact .inl rfl
  split at h
  · cases h; exact .inr (.inl rfl)
  cases hn : namedL l with
  | error e' =>
    rw [hn] at h
    cases h
    unfold namedL at hn
    repeat' split at hn
    all_goals first
      | (cases hn; omega)
      | cases hn
  | ok p =>
    obtain ⟨f, k⟩ := p
    rw [hn] at h
    simp only at h
    unfold tailL at h
    repeat' split at h
    all_goals first
      | (cases h; omega)
      | cases h

theorem cutd (l : List Int) (o a b : Nat) : (l.drop o).take (a + b) = (l.drop o).take a ++ (l.drop (o + a)).take b := by rw [List.take_add, List.drop_drop]
theorem take_1 {l : List Int} {j : Nat} (h : j < l.length) : (l.drop j).take 1 = [l.getD j 0] := by
  rw [List.drop_eq_getElem_cons h, List.take_succ_cons, List.take_zero]; simp [List.getD, List.getElem?_eq_getElem h]
theorem num_lt {l : List Int} (hr : rightB l = true) (a m : Nat) (h : a + m ≤ l.length) : numOf ((l.drop a).take m) < 2 ^ m := by
  have := numOf_lt ((l.drop a).take m) (rightB_take (rightB_drop hr a) m)
  rwa [show ((l.drop a).take m).length = m by simp; omega] at this
theorem back_at {l : List Int} (hr : rightB l = true) (a m : Nat) (h : a + m ≤ l.length) : bitRow (numOf ((l.drop a).take m)) m m = (l.drop a).take m :=
  bitRow_back m _ (by simp; omega) (rightB_take (rightB_drop hr a) m)
theorem flag_of {b : Int} (h : b = 0 ∨ b = 1) : flag (decide (b = 1)) = b := by rcases h with rfl | rfl <;> rfl
/-- What the tail's frame is. -/
theorem tail_back {l : List Int} (hr : rightB l = true) {x : Bool} {i : Int} {r : Bool} {k n : Nat} {f : Fr} (h : tailL l ⟨x, i, r, 0, []⟩ k = .ok (f, n)) :
    ∃ L : Nat, f = ⟨x, i, r, L, f.data⟩ ∧ L ≤ 8 ∧ f.data.length = (if r then 0 else L) ∧ byteB f.data ∧ n = k + 5 + 8 * f.data.length ∧ n ≤ l.length ∧ [0] ++ (bitRow L 4 4 ++ spreadL f.data) = (l.drop k).take (5 + 8 * f.data.length) := by
  unfold tailL at h
  split at h
  · cases h
  rename_i h1
  split at h
  · cases h
  rename_i h2
  split at h
  · cases h
  rename_i h3
  split at h
  · cases h
  rename_i h4
  have hnb := numAt_lt hr (k + 1) 4 (by omega)
  obtain ⟨L, hL⟩ := Int.eq_ofNat_of_zero_le hnb.1
  rw [hL] at h h4
  have e0 : l.getD k 0 = 0 := by omega
  have e4 : bitRow L 4 4 = (l.drop (k + 1)).take 4 := by
    have := back_at hr (k + 1) 4 (by omega)
    unfold numAt at hL
    rw [show numOf ((l.drop (k + 1)).take 4) = L by omega] at this
    exact this
  have key : ∀ s : List Int, ∀ M, s = (l.drop (k + 5)).take M → [0] ++ (bitRow L 4 4 ++ s) = (l.drop k).take (5 + M) := by
    intro s M hs
    rw [show 5 + M = 1 + (4 + M) by omega, cutd, cutd, take_1 (by omega), e0, e4, hs]
  cases r
  · simp only [Bool.false_eq_true, if_false, Int.toNat_natCast] at h
    split at h
    · cases h
    rename_i h5
    cases h
    have hl : ((l.drop (k + 5)).take (8 * L)).length = 8 * L := by simp; omega
    have hj : (joinL ((l.drop (k + 5)).take (8 * L))).length = L := by rw [joinL_len, hl]; omega
    refine ⟨L, rfl, by omega, ?_, joinL_byte (rightB_take (rightB_drop hr _) _), ?_, ?_, ?_⟩
    · simp only [Bool.false_eq_true, if_false]; exact hj
    · simp only [hj]
    · omega
    · simp only [hj]
      exact key _ _ (spread_joinL L _ hl (rightB_take (rightB_drop hr _) _))
  · simp only [if_true] at h
    cases h
    exact ⟨L, rfl, by omega, rfl, byte_nil, rfl, by omega, key [] 0 (by simp)⟩

theorem read_back {l : List Int} (hr : rightB l = true) {f : Fr} {n : Nat} (h : readL l = .ok (f, n)) :
    ∃ ID L : Nat, f = ⟨f.ext, ID, f.rem, L, f.data⟩ ∧ idOk f.ext ID ∧ L ≤ 8 ∧ f.data.length = (if f.rem then 0 else L) ∧ byteB f.data ∧ n ≤ l.length ∧ headV f.ext ID f.rem L f.data = l.take n ∧ n = hn f.ext + 8 * f.data.length := by
  unfold readL at h
  split at h
  · cases h
  rename_i h1
  split at h
  · cases h
  rename_i h2
  have e0 : l.getD 0 0 = 0 := by omega
  unfold namedL at h
  by_cases c1 : l.length < 14
  · rw [if_pos c1] at h; cases h
  rw [if_neg c1] at h
  have eU : bitRow (numOf ((l.drop 1).take 11)) 11 11 = (l.drop 1).take 11 := back_at hr 1 11 (by omega)
  have bU : numOf ((l.drop 1).take 11) < 2048 := num_lt hr 1 11 (by omega)
  by_cases c2 : l.getD 13 0 = 0
  · rw [if_pos c2] at h
    simp only at h
    obtain ⟨L, hf, hL, hd, hb, hn', hnl, hk⟩ := tail_back hr h
    rw [hf] at hd hb ⊢
    simp only at hd hb ⊢
    refine ⟨numOf ((l.drop 1).take 11), L, rfl, ?_, hL, hd, hb, hnl, ?_, ?_⟩
    · exact bU
    · simp only [headV, Bool.false_eq_true, if_false, rankS]
      rw [hn', show 14 + 5 + 8 * f.data.length = 1 + (11 + (1 + (1 + (5 + 8 * f.data.length)))) by omega]
      have := cutd l 0 1 (11 + (1 + (1 + (5 + 8 * f.data.length))))
      rw [List.drop_zero] at this
      rw [this, cutd, cutd, cutd, ← hk, eU, take_1 (by omega), take_1 (by omega), flag_of (getD_01 hr 12), c2]
      have t0 := take_1 (l := l) (j := 0) (by omega)
      rw [List.drop_zero] at t0
      rw [t0, e0]
      simp
    · rw [hn']; simp [hn]
  · rw [if_neg c2] at h
    have b13 := getD_01 hr 13
    have e13 : l.getD 13 0 = 1 := by omega
    by_cases c3 : l.getD 12 0 ≠ 1
    · rw [if_pos c3] at h; cases h
    rw [if_neg c3] at h
    have e12 : l.getD 12 0 = 1 := by omega
    by_cases c4 : l.length < 34
    · rw [if_pos c4] at h; cases h
    rw [if_neg c4] at h
    by_cases c5 : l.getD 33 0 ≠ 0
    · rw [if_pos c5] at h; cases h
    rw [if_neg c5] at h
    have e33 : l.getD 33 0 = 0 := by omega
    have eV : bitRow (numOf ((l.drop 14).take 18)) 18 18 = (l.drop 14).take 18 := back_at hr 14 18 (by omega)
    have bV : numOf ((l.drop 14).take 18) < 262144 := num_lt hr 14 18 (by omega)
    simp only at h
    obtain ⟨L, hf, hL, hd, hb, hn', hnl, hk⟩ := tail_back hr h
    rw [hf] at hd hb ⊢
    simp only at hd hb ⊢
    refine ⟨numOf ((l.drop 1).take 11) * 262144 + numOf ((l.drop 14).take 18), L, by simp [numAt], ?_, hL, hd, hb, hnl, ?_, ?_⟩
    · show _ < 536870912; omega
    · simp only [headV, if_true, rankX]
      rw [show (numOf ((l.drop 1).take 11) * 262144 + numOf ((l.drop 14).take 18)) / 262144 = numOf ((l.drop 1).take 11) by omega, show (numOf ((l.drop 1).take 11) * 262144 + numOf ((l.drop 14).take 18)) % 262144 = numOf ((l.drop 14).take 18) by omega]
      rw [hn', show 34 + 5 + 8 * f.data.length = 1 + (11 + (1 + (1 + (18 + (1 + (1 + (5 + 8 * f.data.length))))))) by omega]
      have := cutd l 0 1 (11 + (1 + (1 + (18 + (1 + (1 + (5 + 8 * f.data.length)))))))
      rw [List.drop_zero] at this
      rw [this, cutd, cutd, cutd, cutd, cutd, cutd, ← hk, eU, eV, take_1 (by omega), take_1 (by omega), take_1 (by omega), take_1 (by omega), flag_of (getD_01 hr 32), e33, e12, e13]
      have t0 := take_1 (l := l) (j := 0) (by omega)
      rw [List.drop_zero] at t0
      rw [t0, e0]
      simp
    · rw [hn']; simp [hn]

end Go.Proofs.Ytmapkjjglhpamaa
