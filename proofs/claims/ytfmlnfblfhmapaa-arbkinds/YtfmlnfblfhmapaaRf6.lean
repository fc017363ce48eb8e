/-
  Ref · FrMath · Fr5: what this seat needs of them.
-/
import Derived.Test.YtfmlnfblfhmapaaFr6
namespace Go.Proofs.Ytfmlnfblfhmapaa
open Go.RowKit

set_option maxRecDepth 100000 in
set_option maxHeartbeats 1000000 in
theorem refPut_yes (num many : Nat) (hm : many ≤ 32) (hnum : num < 2 ^ many) (w : World) :
    Calls Try.prog 39 #[.int .i64 num, .int .i64 many] w fun e W' => ∃ A c, e = .returned (.tuple #[.slice A many c, .bool true]) ∧ W'.ownsRow w.heap.size 3 1 (.slice A many c) many ((bitRow num many many).map (Value.int .i64)) ∧ Below w.heap.size w W' := by
  obtain ⟨i0, hi, hz0, hz1, hz2⟩ := info_parts Try.infoInt
  have d1 : decide ((many : Int) < 0) = false := by simp
  have d2 : decide (32 < (many : Int)) = false := by simp; omega
  have d3 : decide ((num : Int) < 0) = false := by simp
  have d4 : decide (wrap64 (2 ^ many) ≤ (num : Int)) = false := by
    rw [wrap_pow many hm]; simp; exact_mod_cast hnum
  have hn62 : num < 4611686018427387904 := by
    have := Nat.pow_le_pow_right (n := 2) (by omega) hm
    omega
  clear hnum
  go_enter Try.func39, Try.ntmps39
  go_wp2_with fail
  go_loopw [6, 7] (fun o i wr => ∃ (k : Nat) (A : Option Addr) (c : Nat), k ≤ many ∧ i = .int .i64 ((many : Int) - 1 - k) ∧ o = .slice A k c ∧ wr.ownsRow w.heap.size 3 1 (.slice A k c) k ((bitRow num many k).map (Value.int .i64)) ∧ Below w.heap.size w wr)
    (fun _ i _ => (intOf i + 1).toNat)
  case atStart => exact ⟨0, none, 0, Nat.zero_le _, by simp, rfl, World.ownsRow_nil _ _ _ _, Below.refl _ _⟩
  case round =>
    obtain ⟨k, A, c, hk, rfl, rfl, hown, hB⟩ := hrel
    by_cases hlt : k < many
    · have hx : bits .and .i64 ((num : Int) / 2 ^ (many - 1 - k)) 1 = bitAt num many k := bits_one num (many - 1 - k) hn62
      have Hr := Lib.hid (bitRow_succ num many k)
      go_wp2_with (at_builtin; refine wpList_append_row _ .i64 rfl _ _ 23 rfl w.heap.size 3 i0 (.int .i64 0) 8 Try.underlying23 hi hz0 hz1 hz2 rfl _ k (bitRow num many k) rfl (hown.alloc _) (some ⟨wr.heap.size, 0, none⟩) 1 1 _ [bitAt num many k] rfl rfl (Row.lit wr .i64 [bitAt num many k] 3 rfl) (by unfold maxLen; omega) (by omega) (by have := hB.size; simp; omega) ?_; intro A' c' w1 hown1 hc1 hB1)
      have hBB : Below w.heap.size w w1 := (hB.alloc hB.size _).trans hB1
      exact ⟨⟨k + 1, A', c', by omega, by go_num, rfl, by rw [Hr.out]; exact hown1, hBB⟩, by simp [intOf]; omega⟩
    · obtain rfl : k = many := by omega
      go_wp2
      go_ret2
      exact ⟨A, c, rfl, hown, hB⟩

set_option maxHeartbeats 1000000 in
theorem refPut_no (num many : Int) (h : ¬ PutOk num many) (w : World) :
    Calls Try.prog 39 #[.int .i64 num, .int .i64 many] w fun e w' => e = .returned (.tuple #[.slice none 0 0, .bool false]) ∧ w = w' := by
  by_cases h1 : many < 0
  · have d1 : decide (many < 0) = true := by simp; omega
    clear h
    go_enter Try.func39, Try.ntmps39
    go_wp2
    go_ret2
    exact ⟨rfl, rfl⟩
  · obtain ⟨m, rfl⟩ := Int.eq_ofNat_of_zero_le (Int.not_lt.1 h1)
    have d1 : decide ((m : Int) < 0) = false := by simp
    by_cases h2 : 32 < m
    · have d2 : decide (32 < (m : Int)) = true := by simp; omega
      clear h
      go_enter Try.func39, Try.ntmps39
      go_wp2
      go_ret2
      exact ⟨rfl, rfl⟩
    · have d2 : decide (32 < (m : Int)) = false := by simp; omega
      by_cases h3 : num < 0
      · have d3 : decide (num < 0) = true := by simp; omega
        clear h
        go_enter Try.func39, Try.ntmps39
        go_wp2
        go_ret2
        exact ⟨rfl, rfl⟩
      · have d3 : decide (num < 0) = false := by simp; omega
        have d4 : decide (wrap64 (2 ^ m) ≤ num) = true := by
          rw [wrap_pow m (by omega)]
          have e : ((2 : Int) ^ m) = ((2 ^ m : Nat) : Int) := by simp
          unfold PutOk at h
          rw [Int.toNat_natCast, e] at h
          simp only [decide_eq_true_eq]
          omega
        clear h
        go_enter Try.func39, Try.ntmps39
        go_wp2
        go_ret2
        exact ⟨rfl, rfl⟩

theorem refPut_at (n m : Int) (num many : Nat) (hn : n = num) (hm' : m = many) (hm : many ≤ 32) (hnum : num < 2 ^ many) (w : World) :
    Calls Try.prog 39 #[.int .i64 n, .int .i64 m] w fun e W' => ∃ A c, e = .returned (.tuple #[.slice A many c, .bool true]) ∧ Row .i64 W' W'.heap.size A (bitRow num many many) ∧ Below w.heap.size w W' := by
  subst hn hm'
  exact (refPut_yes num many hm hnum w).mono fun e W' ⟨A, c, h1, h2, h3⟩ => ⟨A, c, h1, Row.own h2, h3⟩

theorem row4 (n : Nat) : bitRow n 4 4 = [bitAt n 4 0, bitAt n 4 1, bitAt n 4 2, bitAt n 4 3] := rfl

theorem row11 (n : Nat) : bitRow n 11 11 = [bitAt n 11 0, bitAt n 11 1, bitAt n 11 2, bitAt n 11 3, bitAt n 11 4, bitAt n 11 5, bitAt n 11 6, bitAt n 11 7, bitAt n 11 8, bitAt n 11 9, bitAt n 11 10] := rfl

theorem row18 (n : Nat) : bitRow n 18 18 = [bitAt n 18 0, bitAt n 18 1, bitAt n 18 2, bitAt n 18 3, bitAt n 18 4, bitAt n 18 5, bitAt n 18 6, bitAt n 18 7, bitAt n 18 8, bitAt n 18 9, bitAt n 18 10, bitAt n 18 11, bitAt n 18 12, bitAt n 18 13, bitAt n 18 14, bitAt n 18 15, bitAt n 18 16, bitAt n 18 17] := rfl

theorem flag_one (r : Bool) : decide (flag r = 1) = r := by cases r <;> rfl

/-- What stands where in a short head, whatever follows. -/
structure IsS (l : List Int) (ID : Nat) (r : Bool) (L : Nat) (t : List Int) : Prop where
  g0 : l.getD 0 0 = 0
  n1 : (l.drop 1).take 11 = bitRow ID 11 11
  g12 : l.getD 12 0 = flag r
  g13 : l.getD 13 0 = 0
  g14 : l.getD 14 0 = 0
  n2 : (l.drop 15).take 4 = bitRow L 4 4
  d : l.drop 19 = t
  len : l.length = 19 + t.length

theorem isS (ID : Nat) (r : Bool) (L : Nat) (t : List Int) : IsS ([0] ++ (rankS ID r ++ ([0] ++ (bitRow L 4 4 ++ t)))) ID r L t := by
  unfold rankS
  rw [row11, row4]
  exact ⟨rfl, by rw [row11]; rfl, rfl, rfl, rfl, by rw [row4]; rfl, rfl, by simp; omega⟩

structure IsX (l : List Int) (ID : Nat) (r : Bool) (L : Nat) (t : List Int) : Prop where
  g0 : l.getD 0 0 = 0
  n1 : (l.drop 1).take 11 = bitRow (ID / 262144) 11 11
  g12 : l.getD 12 0 = 1
  g13 : l.getD 13 0 = 1
  n3 : (l.drop 14).take 18 = bitRow (ID % 262144) 18 18
  g32 : l.getD 32 0 = flag r
  g33 : l.getD 33 0 = 0
  g34 : l.getD 34 0 = 0
  n2 : (l.drop 35).take 4 = bitRow L 4 4
  d : l.drop 39 = t
  len : l.length = 39 + t.length

theorem isX (ID : Nat) (r : Bool) (L : Nat) (t : List Int) : IsX ([0] ++ (rankX ID r ++ ([0, 0] ++ (bitRow L 4 4 ++ t)))) ID r L t := by
  unfold rankX
  rw [row11, row18, row4]
  exact ⟨rfl, by rw [row11]; rfl, rfl, rfl, by rw [row18]; rfl, rfl, rfl, rfl, by rw [row4]; rfl, rfl, by simp; omega⟩

theorem num4 {L : Nat} (hL : L ≤ 8) : numOf (bitRow L 4 4) = L := numOf_back (by omega)

/-- The tail of a head, at either place. -/
theorem tail_ok {l : List Int} {k : Nat} {x : Bool} {i : Int} {r : Bool} {L : Nat} {dl more : List Int} (hk : l.getD k 0 = 0) (n2 : (l.drop (k + 1)).take 4 = bitRow L 4 4) (d : l.drop (k + 5) = spreadL dl ++ more) (len : l.length = k + 5 + (spreadL dl ++ more).length)
    (hL : L ≤ 8) (hb : byteB dl) (hd : dl.length = if r then 0 else L) : tailL l ⟨x, i, r, 0, []⟩ k = .ok (⟨x, i, r, L, dl⟩, k + 5 + 8 * dl.length) := by
  have hn : numAt l (k + 1) 4 = (L : Int) := by unfold numAt; rw [n2, num4 hL]
  have hs := spreadL_len dl
  rw [List.length_append, hs] at len
  unfold tailL
  rw [if_neg (by omega), if_neg (by rw [hk]; decide), if_neg (by omega), hn, if_neg (by omega)]
  cases r
  · simp only [Bool.false_eq_true, if_false, Int.toNat_natCast] at hd ⊢
    rw [if_neg (by omega), d, List.take_left' (by rw [hs, hd]), joinL_spread hb, hd]
  · simp only [if_true] at hd ⊢
    obtain rfl := List.eq_nil_of_length_eq_zero hd
    simp

theorem read_head (x : Bool) (ID : Nat) (r : Bool) (L : Nat) (dl more : List Int) (hID : idOk x ID) (hL : L ≤ 8) (hb : byteB dl) (hd : dl.length = if r then 0 else L) :
    readL (headV x ID r L dl ++ more) = .ok (⟨x, ID, r, L, dl⟩, (headV x ID r L dl).length) := by
  rw [headV_len]
  cases x
  · have e : headV false ID r L dl ++ more = [0] ++ (rankS ID r ++ ([0] ++ (bitRow L 4 4 ++ (spreadL dl ++ more)))) := by simp [headV]
    rw [e]
    have I := isS ID r L (spreadL dl ++ more)
    generalize [0] ++ (rankS ID r ++ ([0] ++ (bitRow L 4 4 ++ (spreadL dl ++ more)))) = l at I
    have hl := I.len
    have hid : numAt l 1 11 = (ID : Int) := by unfold numAt; rw [I.n1, numOf_back (show ID < 2 ^ 11 from hID)]
    unfold readL
    rw [if_neg (by omega), if_neg (by rw [I.g0]; decide)]
    unfold namedL
    rw [if_neg (by omega), if_pos I.g13, hid, I.g12, flag_one]
    exact tail_ok (k := 14) I.g14 I.n2 I.d hl hL hb hd
  · have e : headV true ID r L dl ++ more = [0] ++ (rankX ID r ++ ([0, 0] ++ (bitRow L 4 4 ++ (spreadL dl ++ more)))) := by simp [headV]
    rw [e]
    have I := isX ID r L (spreadL dl ++ more)
    generalize [0] ++ (rankX ID r ++ ([0, 0] ++ (bitRow L 4 4 ++ (spreadL dl ++ more)))) = l at I
    have hl := I.len
    have hID' : ID < 536870912 := hID
    have hid : numAt l 1 11 * 262144 + numAt l 14 18 = (ID : Int) := by
      unfold numAt
      rw [I.n1, I.n3, numOf_back (show ID / 262144 < 2 ^ 11 by omega), numOf_back (show ID % 262144 < 2 ^ 18 from Nat.mod_lt _ (by omega))]
      omega
    unfold readL
    rw [if_neg (by omega), if_neg (by rw [I.g0]; decide)]
    unfold namedL
    rw [if_neg (by omega), if_neg (by rw [I.g13]; decide), if_neg (by rw [I.g12]; decide), if_neg (by omega), if_neg (by rw [I.g33]; decide), hid, I.g32, flag_one]
    exact tail_ok (k := 34) I.g34 I.n2 I.d hl hL hb hd

theorem take_getD {l : List Int} {k j : Nat} (h : j < k) : (l.take k).getD j 0 = l.getD j 0 := by
  simp [List.getD, h]

theorem take_num {l : List Int} {k a m : Nat} (h : a + m ≤ k) : ((l.take k).drop a).take m = (l.drop a).take m := by
  rw [List.drop_take, List.take_take, Nat.min_eq_left (by omega)]

theorem tail_cut {l : List Int} {k q : Nat} {x : Bool} {i : Int} {r : Bool} {L : Nat} {dl : List Int} (hk : l.getD k 0 = 0) (n2 : (l.drop (k + 1)).take 4 = bitRow L 4 4)
    (hL : L ≤ 8) (hd : dl.length = if r then 0 else L) (hq : q < k + 5 + 8 * dl.length) (hql : q ≤ l.length) : tailL (l.take q) ⟨x, i, r, 0, []⟩ k = .error 40 := by
  have hlen : (l.take q).length = q := by simp; omega
  unfold tailL
  rw [hlen]
  by_cases h1 : q < k + 1
  · rw [if_pos h1]
  rw [if_neg h1, if_neg (by rw [take_getD (by omega), hk]; decide)]
  by_cases h2 : q < k + 5
  · rw [if_pos h2]
  have hn : numAt (l.take q) (k + 1) 4 = (L : Int) := by unfold numAt; rw [take_num (by omega), n2, num4 hL]
  rw [if_neg h2, hn, if_neg (by omega)]
  cases r
  · simp only [Bool.false_eq_true, if_false, Int.toNat_natCast] at hd ⊢
    rw [if_pos (by omega)]
  · simp only [if_true] at hd
    omega

theorem read_cut (x : Bool) (ID : Nat) (r : Bool) (L : Nat) (dl : List Int) (hL : L ≤ 8) (hd : dl.length = if r then 0 else L) (q : Nat) (hq : q < (headV x ID r L dl).length) :
    readL ((headV x ID r L dl).take q) = .error 40 := by
  have hq' := hq
  rw [headV_len] at hq'
  have hlen : ((headV x ID r L dl).take q).length = q := by simp; omega
  unfold readL
  rw [hlen]
  by_cases h1 : q < 1
  · rw [if_pos h1]
  cases x
  · have I := isS ID r L (spreadL dl)
    change IsS (headV false ID r L dl) ID r L (spreadL dl) at I
    generalize headV false ID r L dl = l at I hq hlen
    change q < 19 + 8 * dl.length at hq'
    rw [if_neg h1, if_neg (by rw [take_getD (by omega), I.g0]; decide)]
    unfold namedL
    rw [hlen]
    by_cases h2 : q < 14
    · rw [if_pos h2]
    rw [if_neg h2, if_pos (by rw [take_getD (by omega), I.g13]), take_getD (show 12 < q by omega), I.g12, flag_one]
    exact tail_cut (k := 14) I.g14 I.n2 hL hd hq' (by omega)
  · have I := isX ID r L (spreadL dl)
    change IsX (headV true ID r L dl) ID r L (spreadL dl) at I
    generalize headV true ID r L dl = l at I hq hlen
    change q < 39 + 8 * dl.length at hq'
    rw [if_neg h1, if_neg (by rw [take_getD (by omega), I.g0]; decide)]
    unfold namedL
    rw [hlen]
    by_cases h2 : q < 14
    · rw [if_pos h2]
    rw [if_neg h2, if_neg (by rw [take_getD (by omega), I.g13]; decide), if_neg (by rw [take_getD (by omega), I.g12]; decide)]
    by_cases h3 : q < 34
    · rw [if_pos h3]
    rw [if_neg h3, if_neg (by rw [take_getD (by omega), I.g33]; decide), take_getD (show 32 < q by omega), I.g32, flag_one]
    exact tail_cut (k := 34) I.g34 I.n2 hL hd hq' (by omega)

theorem read_err {l : List Int} {e : Int} (h : readL l = .error e) : e = 40 ∨ e = 42 ∨ e = 41 := by
  unfold readL at h
  split at h
  · cases h; exact .inl rfl
  split at h
  · cases h; exact .inr (.inl rfl)
  cases hn : namedL l with
  | error e' =>
    rw [hn] at h
    cases h
    unfold namedL at hn
    repeat' split at hn
    all_goals first
      | (cases hn; omega)
      | cases hn
  | ok p =>
    obtain ⟨f, k⟩ := p
    rw [hn] at h
    simp only at h
    unfold tailL at h
    repeat' split at h
    all_goals first
      | (cases h; omega)
      | cases h

theorem cutd (l : List Int) (o a b : Nat) : (l.drop o).take (a + b) = (l.drop o).take a ++ (l.drop (o + a)).take b := by rw [List.take_add, List.drop_drop]

theorem take_1 {l : List Int} {j : Nat} (h : j < l.length) : (l.drop j).take 1 = [l.getD j 0] := by
  rw [List.drop_eq_getElem_cons h, List.take_succ_cons, List.take_zero]; simp [List.getD, List.getElem?_eq_getElem h]

theorem num_lt {l : List Int} (hr : rightB l = true) (a m : Nat) (h : a + m ≤ l.length) : numOf ((l.drop a).take m) < 2 ^ m := by
  have := numOf_lt ((l.drop a).take m) (rightB_take (rightB_drop hr a) m)
  rwa [show ((l.drop a).take m).length = m by simp; omega] at this

theorem back_at {l : List Int} (hr : rightB l = true) (a m : Nat) (h : a + m ≤ l.length) : bitRow (numOf ((l.drop a).take m)) m m = (l.drop a).take m :=
  bitRow_back m _ (by simp; omega) (rightB_take (rightB_drop hr a) m)

theorem flag_of {b : Int} (h : b = 0 ∨ b = 1) : flag (decide (b = 1)) = b := by rcases h with rfl | rfl <;> rfl

/-- What the tail's frame is. -/
theorem tail_back {l : List Int} (hr : rightB l = true) {x : Bool} {i : Int} {r : Bool} {k n : Nat} {f : Fr} (h : tailL l ⟨x, i, r, 0, []⟩ k = .ok (f, n)) :
    ∃ L : Nat, f = ⟨x, i, r, L, f.data⟩ ∧ L ≤ 8 ∧ f.data.length = (if r then 0 else L) ∧ byteB f.data ∧ n = k + 5 + 8 * f.data.length ∧ n ≤ l.length ∧ [0] ++ (bitRow L 4 4 ++ spreadL f.data) = (l.drop k).take (5 + 8 * f.data.length) := by
  unfold tailL at h
  split at h
  · cases h
  rename_i h1
  split at h
  · cases h
  rename_i h2
  split at h
  · cases h
  rename_i h3
  split at h
  · cases h
  rename_i h4
  have hnb := numAt_lt hr (k + 1) 4 (by omega)
  obtain ⟨L, hL⟩ := Int.eq_ofNat_of_zero_le hnb.1
  rw [hL] at h h4
  have e0 : l.getD k 0 = 0 := by omega
  have e4 : bitRow L 4 4 = (l.drop (k + 1)).take 4 := by
    have := back_at hr (k + 1) 4 (by omega)
    unfold numAt at hL
    rw [show numOf ((l.drop (k + 1)).take 4) = L by omega] at this
    exact this
  have key : ∀ s : List Int, ∀ M, s = (l.drop (k + 5)).take M → [0] ++ (bitRow L 4 4 ++ s) = (l.drop k).take (5 + M) := by
    intro s M hs
    rw [show 5 + M = 1 + (4 + M) by omega, cutd, cutd, take_1 (by omega), e0, e4, hs]
  cases r
  · simp only [Bool.false_eq_true, if_false, Int.toNat_natCast] at h
    split at h
    · cases h
    rename_i h5
    cases h
    have hl : ((l.drop (k + 5)).take (8 * L)).length = 8 * L := by simp; omega
    have hj : (joinL ((l.drop (k + 5)).take (8 * L))).length = L := by rw [joinL_len, hl]; omega
    refine ⟨L, rfl, by omega, ?_, joinL_byte (rightB_take (rightB_drop hr _) _), ?_, ?_, ?_⟩
    · simp only [Bool.false_eq_true, if_false]; exact hj
    · simp only [hj]
    · omega
    · simp only [hj]
      exact key _ _ (spread_joinL L _ hl (rightB_take (rightB_drop hr _) _))
  · simp only [if_true] at h
    cases h
    exact ⟨L, rfl, by omega, rfl, byte_nil, rfl, by omega, key [] 0 (by simp)⟩

theorem read_back {l : List Int} (hr : rightB l = true) {f : Fr} {n : Nat} (h : readL l = .ok (f, n)) :
    ∃ ID L : Nat, f = ⟨f.ext, ID, f.rem, L, f.data⟩ ∧ idOk f.ext ID ∧ L ≤ 8 ∧ f.data.length = (if f.rem then 0 else L) ∧ byteB f.data ∧ n ≤ l.length ∧ headV f.ext ID f.rem L f.data = l.take n ∧ n = hn f.ext + 8 * f.data.length := by
  unfold readL at h
  split at h
  · cases h
  rename_i h1
  split at h
  · cases h
  rename_i h2
  have e0 : l.getD 0 0 = 0 := by omega
  unfold namedL at h
  by_cases c1 : l.length < 14
  · rw [if_pos c1] at h; cases h
  rw [if_neg c1] at h
  have eU : bitRow (numOf ((l.drop 1).take 11)) 11 11 = (l.drop 1).take 11 := back_at hr 1 11 (by omega)
  have bU : numOf ((l.drop 1).take 11) < 2048 := num_lt hr 1 11 (by omega)
  by_cases c2 : l.getD 13 0 = 0
  · rw [if_pos c2] at h
    simp only at h
    obtain ⟨L, hf, hL, hd, hb, hn', hnl, hk⟩ := tail_back hr h
    rw [hf] at hd hb ⊢
    simp only at hd hb ⊢
    refine ⟨numOf ((l.drop 1).take 11), L, rfl, ?_, hL, hd, hb, hnl, ?_, ?_⟩
    · exact bU
    · simp only [headV, Bool.false_eq_true, if_false, rankS]
      rw [hn', show 14 + 5 + 8 * f.data.length = 1 + (11 + (1 + (1 + (5 + 8 * f.data.length)))) by omega]
      have := cutd l 0 1 (11 + (1 + (1 + (5 + 8 * f.data.length))))
      rw [List.drop_zero] at this
      rw [this, cutd, cutd, cutd, ← hk, eU, take_1 (by omega), take_1 (by omega), flag_of (getD_01 hr 12), c2]
      have t0 := take_1 (l := l) (j := 0) (by omega)
      rw [List.drop_zero] at t0
      rw [t0, e0]
      simp
    · rw [hn']; simp [hn]
  · rw [if_neg c2] at h
    have b13 := getD_01 hr 13
    have e13 : l.getD 13 0 = 1 := by omega
    by_cases c3 : l.getD 12 0 ≠ 1
    · rw [if_pos c3] at h; cases h
    rw [if_neg c3] at h
    have e12 : l.getD 12 0 = 1 := by omega
    by_cases c4 : l.length < 34
    · rw [if_pos c4] at h; cases h
    rw [if_neg c4] at h
    by_cases c5 : l.getD 33 0 ≠ 0
    · rw [if_pos c5] at h; cases h
    rw [if_neg c5] at h
    have e33 : l.getD 33 0 = 0 := by omega
    have eV : bitRow (numOf ((l.drop 14).take 18)) 18 18 = (l.drop 14).take 18 := back_at hr 14 18 (by omega)
    have bV : numOf ((l.drop 14).take 18) < 262144 := num_lt hr 14 18 (by omega)
    simp only at h
    obtain ⟨L, hf, hL, hd, hb, hn', hnl, hk⟩ := tail_back hr h
    rw [hf] at hd hb ⊢
    simp only at hd hb ⊢
    refine ⟨numOf ((l.drop 1).take 11) * 262144 + numOf ((l.drop 14).take 18), L, by simp [numAt], ?_, hL, hd, hb, hnl, ?_, ?_⟩
    · show _ < 536870912; omega
    · simp only [headV, if_true, rankX]
      rw [show (numOf ((l.drop 1).take 11) * 262144 + numOf ((l.drop 14).take 18)) / 262144 = numOf ((l.drop 1).take 11) by omega, show (numOf ((l.drop 1).take 11) * 262144 + numOf ((l.drop 14).take 18)) % 262144 = numOf ((l.drop 14).take 18) by omega]
      rw [hn', show 34 + 5 + 8 * f.data.length = 1 + (11 + (1 + (1 + (18 + (1 + (1 + (5 + 8 * f.data.length))))))) by omega]
      have := cutd l 0 1 (11 + (1 + (1 + (18 + (1 + (1 + (5 + 8 * f.data.length)))))))
      rw [List.drop_zero] at this
      rw [this, cutd, cutd, cutd, cutd, cutd, cutd, ← hk, eU, eV, take_1 (by omega), take_1 (by omega), take_1 (by omega), take_1 (by omega), flag_of (getD_01 hr 32), e33, e12, e13]
      have t0 := take_1 (l := l) (j := 0) (by omega)
      rw [List.drop_zero] at t0
      rw [t0, e0]
      simp
    · rw [hn']; simp [hn]

theorem rightV_of (x : Bool) (ID : Nat) (r : Bool) (L m : Nat) (hID : idOk x ID) (hL : L ≤ 8) (hm : m = if r then 0 else L) : rightV x ID r L m = true := by
  unfold rightV idOk at *
  rw [decide_eq_true_eq]
  refine ⟨by omega, ?_, by omega, by omega, ?_⟩
  · cases x <;> simp at hID ⊢ <;> omega
  · cases r <;> simp at hm ⊢ <;> omega

theorem sameV_self (x : Bool) (i : Int) (r : Bool) (n : Int) (a : List Int) : sameV x i r n a x i r n a = true := by simp [sameV]

theorem headV_right (x : Bool) (ID : Nat) (r : Bool) (L : Nat) (dl : List Int) : rightB (headV x ID r L dl) = true := by
  have hf : ∀ b, rightB [flag b] = true := by decide
  cases x
  · simp only [headV, Bool.false_eq_true, if_false, rankS, rightB_append, bitRow_right, spreadL_right]
    cases r <;> decide
  · simp only [headV, if_true, rankX, rightB_append, bitRow_right, spreadL_right]
    cases r <;> decide

/-- What stands ahead of the count of bytes. -/
def preV (x : Bool) (ID : Nat) (r : Bool) : List Int := if x then [0] ++ (rankX ID r ++ [0, 0]) else [0] ++ (rankS ID r ++ [0])

theorem preV_len (x : Bool) (ID : Nat) (r : Bool) : (preV x ID r).length + 4 = hn x := by
  cases x <;> simp [preV, hn, rankS_len, rankX_len]

theorem headV_split (x : Bool) (ID : Nat) (r : Bool) (L : Nat) (dl : List Int) : headV x ID r L dl = preV x ID r ++ (bitRow L 4 4 ++ spreadL dl) := by
  cases x <;> simp [preV, headV]

theorem headV_front (x : Bool) (ID : Nat) (r : Bool) (L : Nat) (dl : List Int) {k : Nat} (hk : k + 4 = hn x) : (headV x ID r L dl).take k = preV x ID r := by
  rw [headV_split]
  exact List.take_left' (by have := preV_len x ID r; omega)

theorem headV_all (x : Bool) (ID : Nat) (r : Bool) (L : Nat) (dl : List Int) {k : Nat} (hk : k = hn x) : (headV x ID r L dl).take k = preV x ID r ++ bitRow L 4 4 := by
  rw [headV_split, ← List.append_assoc]
  exact List.take_left' (by have := preV_len x ID r; rw [List.length_append, bitRow_len]; omega)

theorem headV_data (x : Bool) (ID : Nat) (r : Bool) (L : Nat) (dl : List Int) {k : Nat} (hk : k = hn x) : (headV x ID r L dl).drop k = spreadL dl := by
  rw [headV_split, ← List.append_assoc]
  exact List.drop_left' (by have := preV_len x ID r; rw [List.length_append, bitRow_len]; omega)

theorem spreadL_app (a b : List Int) : spreadL (a ++ b) = spreadL a ++ spreadL b := by simp [spreadL]

theorem byteB_take {l : List Int} (h : byteB l) (k : Nat) : byteB (l.take k) := fun x hx => h x (List.mem_of_mem_take hx)

theorem bits_11 : bitRow 3 2 2 = [1, 1] := by decide

theorem bits_0 : bitRow 0 1 1 = [0] := by decide

theorem bits_f (r : Bool) : bitRow (flag r).toNat 1 1 = [flag r] := by cases r <;> decide

set_option maxRecDepth 100000 in
set_option maxHeartbeats 2000000 in
theorem refFrPut_at (l : List Int) (k : Nat) (hk : l.length = k) (A : Option Addr) (c : Nat) (n : Int) (num many : Nat) (hn : n = num) (hm : many ≤ 32) (hnum : num < 2 ^ many) (hk2 : k ≤ 1000) (w : World) (h : Row .i64 w w.heap.size A l) (s : Nat) (hs : k + many = s) :
    Calls Try.prog 34 #[.slice A k c, .int .i64 n, .int .i64 many] w fun e w' => ∃ A' c', e = .returned (.slice A' s c') ∧ Row .i64 w' w'.heap.size A' (l ++ bitRow num many many) ∧ s ≤ c' ∧ Below w.heap.size w w' := by
  obtain ⟨i0, hi, hz0, hz1, hz2⟩ := info_parts Try.infoInt
  subst hn hs
  have HK := Lib.hid hk
  have HN := Lib.hid hnum
  clear hk hnum
  go_enter Try.func34, Try.ntmps34
  go_wp2_with fail
  refine (refPut_at _ _ num many rfl rfl hm HN.out w).mono ?_
  rintro e w1 ⟨A1, c1, rfl, hr1, hB1⟩
  have hl1 := h.to hB1
  have o2 := own_lit w1 .i64 [] 0 rfl 3 (cs := #[]) rfl (by decide)
  have r2 := hl1.to (below_alloc1 w1 (.cells #[] 3))
  have s2 := hr1.to (below_alloc1 w1 (.cells #[] 3))
  go_wp2_with (first
    | (at_builtin; have hq_ := hown3; clear hq_; refine wpList_append_row _ .i64 rfl _ _ 23 rfl w1.heap.size 3 i0 (.int .i64 0) 8 Try.underlying23 hi hz0 hz1 hz2 rfl _ k l rfl hown3 A1 many c1 _ (bitRow num many many) rfl (bitRow_len _ _ _) hr3 (by unfold maxLen; omega) (by omega) hs3 ?_; intro A4 c4 w4 hown4 hc4 hB4)
    | (at_builtin; refine wpList_append_row _ .i64 rfl _ _ 23 rfl w1.heap.size 3 i0 (.int .i64 0) 8 Try.underlying23 hi hz0 hz1 hz2 rfl _ 0 [] rfl o2 A k c _ l rfl HK.out r2 (by unfold maxLen; omega) (by omega) (by simp) ?_; intro A3 c3 w3 hown3 hc3 hB3; rw [Nat.zero_add, List.nil_append] at hown3; have hs3 : w1.heap.size ≤ w3.heap.size := (by have := hB3.size; simp at this; omega); have hr3 : Row .i64 w3 w1.heap.size A1 (bitRow num many many) := (hr1.below (below_alloc1 w1 (.cells #[] 3))).below hB3))
  go_ret
  exact ⟨A4, c4, rfl, Row.own hown4, hc4, hB1.trans ((((below_alloc1 w1 _).trans hB3).trans hB4).mono hB1.size)⟩

set_option maxRecDepth 100000 in
set_option maxHeartbeats 4000000 in
theorem refRankS_at (ID : Nat) (r : Bool) (n : Int) (A : Option Addr) (m c : Nat) (hID : ID < 2048) (w : World) :
    Calls Try.prog 31 #[.agg #[.bool false, .int .i64 ID, .bool r, .int .i64 n, .slice A m c]] w fun e w' => ∃ A' c', e = .returned (.slice A' 13 c') ∧ Row .i64 w' w'.heap.size A' (rankS ID r) ∧ 13 ≤ c' ∧ Below w.heap.size w w' := by
  obtain ⟨w0, hw0⟩ : ∃ w0, w.alloc (.cells #[.bool false, .int .i64 ID, .bool r, .int .i64 n, .slice A m c] 35) = w0 := ⟨_, rfl⟩
  have hB0 := below_lits hw0
  have hF0 : w0.heap[w.heap.size]? = some (.cells #[.bool false, .int .i64 ID, .bool r, .int .i64 n, .slice A m c] 35) := by rw [← hw0]; exact World.alloc_heap_new _ _
  have HW := Lib.hid hw0
  have hfl : flag r = ((flag r).toNat : Int) := by cases r <;> rfl
  have hfb : (flag r).toNat < 2 ^ 1 := by cases r <;> decide
  have HFl := Lib.hid hfl
  clear hw0 hfl
  go_enter Try.func31, Try.ntmps31
  go_wp2_with fail
  rw [HW.out]
  clear HW
  go_region_held3 (fun W => W.cell? ⟨w.heap.size, 0, none⟩ = some (.bool false) ∧ W.cell? ⟨w.heap.size, 1, none⟩ = some (.int .i64 ID) ∧ W.cell? ⟨w.heap.size, 2, none⟩ = some (.bool r) ∧ W.cell? ⟨w.heap.size, 3, none⟩ = some (.int .i64 n) ∧ W.cell? ⟨w.heap.size, 4, none⟩ = some (.slice A m c))
    (exact cells5' (by repeat (first | assumption | exact Below.refl _ _ | ((with_reducible refine lit2 _ _ _ _ _ ?_); (first | (with_reducible rfl) | (simp; done))) | ((with_reducible refine lit1 _ _ _ _ ?_); (first | (with_reducible rfl) | (simp; done))) | refine row_step (by first | assumption | exact below_alloc1 _ _ | exact below_drew1 _ | exact below_drewN0 _ _) ?_ | refine block_below (by first | assumption | exact below_alloc1 _ _ | exact below_drew1 _ | exact below_drewN0 _ _) ?_ | refine below_then ?_ (by first | assumption | exact below_alloc1 _ _ | exact below_drew1 _ | exact below_drewN0 _ _))))
    (first
      | (go_at_call 34; have hq_ := hr4; clear hq_; refine (refFrPut_at (bitRow ID 11 11 ++ bitRow (flag r).toNat 1 1) 12 (by rw [List.length_append, bitRow_len, bitRow_len]) A4 c4 0 0 1 rfl (by omega) (by omega) (by omega) _ (by repeat (first | assumption | exact Below.refl _ _ | ((with_reducible refine lit2 _ _ _ _ _ ?_); (first | (with_reducible rfl) | (simp; done))) | ((with_reducible refine lit1 _ _ _ _ ?_); (first | (with_reducible rfl) | (simp; done))) | refine row_step (by first | assumption | exact below_alloc1 _ _ | exact below_drew1 _ | exact below_drewN0 _ _) ?_ | refine block_below (by first | assumption | exact below_alloc1 _ _ | exact below_drew1 _ | exact below_drewN0 _ _) ?_ | refine below_then ?_ (by first | assumption | exact below_alloc1 _ _ | exact below_drew1 _ | exact below_drewN0 _ _))) 13 rfl).mono ?_; rintro e w5 ⟨A5, c5, rfl, hr5, hc5, hB5⟩)
      | (go_at_call 34; have hq_ := hB3; clear hq_; refine (refFrPut_at (bitRow ID 11 11) 11 (bitRow_len _ _ _) A2 c2 (flag r) (flag r).toNat 1 HFl.out (by omega) hfb (by omega) _ (by repeat (first | assumption | exact Below.refl _ _ | ((with_reducible refine lit2 _ _ _ _ _ ?_); (first | (with_reducible rfl) | (simp; done))) | ((with_reducible refine lit1 _ _ _ _ ?_); (first | (with_reducible rfl) | (simp; done))) | refine row_step (by first | assumption | exact below_alloc1 _ _ | exact below_drew1 _ | exact below_drewN0 _ _) ?_ | refine block_below (by first | assumption | exact below_alloc1 _ _ | exact below_drew1 _ | exact below_drewN0 _ _) ?_ | refine below_then ?_ (by first | assumption | exact below_alloc1 _ _ | exact below_drew1 _ | exact below_drewN0 _ _))) 12 rfl).mono ?_; rintro e w4 ⟨A4, c4, rfl, hr4, hc4, hB4⟩)
      | (go_at_call 34; refine (refFrPut_at [] 0 rfl none 0 (ID : Int) ID 11 rfl (by omega) (by omega) (by omega) _ (.inl rfl) 11 rfl).mono ?_; rintro e w2 ⟨A2, c2, rfl, hr2, hc2, hB2⟩; rw [List.nil_append] at hr2)
      | (go_at_call 35; refine (remote_at false ID r n A m c _).mono ?_; rintro e w3 ⟨rfl, hB3⟩))
  all_goals
    go_wp2_with fail
    go_ret
    refine ⟨A5, c5, rfl, ?_, hc5, by repeat (first | assumption | exact Below.refl _ _ | ((with_reducible refine lit2 _ _ _ _ _ ?_); (first | (with_reducible rfl) | (simp; done))) | ((with_reducible refine lit1 _ _ _ _ ?_); (first | (with_reducible rfl) | (simp; done))) | refine row_step (by first | assumption | exact below_alloc1 _ _ | exact below_drew1 _ | exact below_drewN0 _ _) ?_ | refine block_below (by first | assumption | exact below_alloc1 _ _ | exact below_drew1 _ | exact below_drewN0 _ _) ?_ | refine below_then ?_ (by first | assumption | exact below_alloc1 _ _ | exact below_drew1 _ | exact below_drewN0 _ _))⟩
    unfold rankS
    rw [bits_f, bits_0, List.append_assoc] at hr5
    exact hr5

set_option maxRecDepth 100000 in
set_option maxHeartbeats 4000000 in
theorem refRankX_at (ID : Nat) (r : Bool) (n : Int) (A : Option Addr) (m c : Nat) (hID : ID < 536870912) (w : World) :
    Calls Try.prog 31 #[.agg #[.bool true, .int .i64 ID, .bool r, .int .i64 n, .slice A m c]] w fun e w' => ∃ A' c', e = .returned (.slice A' 32 c') ∧ Row .i64 w' w'.heap.size A' (rankX ID r) ∧ 32 ≤ c' ∧ Below w.heap.size w w' := by
  obtain ⟨w0, hw0⟩ : ∃ w0, w.alloc (.cells #[.bool true, .int .i64 ID, .bool r, .int .i64 n, .slice A m c] 35) = w0 := ⟨_, rfl⟩
  have hB0 := below_lits hw0
  have hF0 : w0.heap[w.heap.size]? = some (.cells #[.bool true, .int .i64 ID, .bool r, .int .i64 n, .slice A m c] 35) := by rw [← hw0]; exact World.alloc_heap_new _ _
  have HW := Lib.hid hw0
  have hfl : flag r = ((flag r).toNat : Int) := by cases r <;> rfl
  have hfb : (flag r).toNat < 2 ^ 1 := by cases r <;> decide
  have HFl := Lib.hid hfl
  obtain ⟨V, hV⟩ : ∃ V, ID % 262144 = V := ⟨_, rfl⟩
  obtain ⟨U, hU⟩ : ∃ U, ID / 262144 = U := ⟨_, rfl⟩
  have hsh : (ID : Int) / 262144 = (U : Int) := by omega
  have hsh2 : (ID : Int) / 2 ^ 18 = (U : Int) := hsh
  have hmd : (ID : Int) % 262144 = (V : Int) := by omega
  have htm : Int.tmod (ID : Int) 262144 = (V : Int) := by rw [Int.tmod_eq_emod_of_nonneg (by omega)]; exact hmd
  have hUb : U < 2 ^ 11 := by omega
  have hVb : V < 2 ^ 18 := by omega
  have HV := Lib.hid hV
  have HU := Lib.hid hU
  clear hw0 hfl hV hU
  go_enter Try.func31, Try.ntmps31
  go_wp2_with fail
  rw [HW.out]
  clear HW
  go_region_held3 (fun W => W.cell? ⟨w.heap.size, 0, none⟩ = some (.bool true) ∧ W.cell? ⟨w.heap.size, 1, none⟩ = some (.int .i64 ID) ∧ W.cell? ⟨w.heap.size, 2, none⟩ = some (.bool r) ∧ W.cell? ⟨w.heap.size, 3, none⟩ = some (.int .i64 n) ∧ W.cell? ⟨w.heap.size, 4, none⟩ = some (.slice A m c))
    (exact cells5' (by repeat (first | assumption | exact Below.refl _ _ | ((with_reducible refine lit2 _ _ _ _ _ ?_); (first | (with_reducible rfl) | (simp; done))) | ((with_reducible refine lit1 _ _ _ _ ?_); (first | (with_reducible rfl) | (simp; done))) | refine row_step (by first | assumption | exact below_alloc1 _ _ | exact below_drew1 _ | exact below_drewN0 _ _) ?_ | refine block_below (by first | assumption | exact below_alloc1 _ _ | exact below_drew1 _ | exact below_drewN0 _ _) ?_ | refine below_then ?_ (by first | assumption | exact below_alloc1 _ _ | exact below_drew1 _ | exact below_drewN0 _ _))))
    (first
      | (go_at_call 34; have hq_ := hB5; clear hq_; refine (refFrPut_at (bitRow U 11 11 ++ bitRow 3 2 2 ++ bitRow V 18 18) 31 (by simp only [List.length_append, bitRow_len]) A4 c4 (flag r) (flag r).toNat 1 HFl.out (by omega) hfb (by omega) _ (by repeat (first | assumption | exact Below.refl _ _ | ((with_reducible refine lit2 _ _ _ _ _ ?_); (first | (with_reducible rfl) | (simp; done))) | ((with_reducible refine lit1 _ _ _ _ ?_); (first | (with_reducible rfl) | (simp; done))) | refine row_step (by first | assumption | exact below_alloc1 _ _ | exact below_drew1 _ | exact below_drewN0 _ _) ?_ | refine block_below (by first | assumption | exact below_alloc1 _ _ | exact below_drew1 _ | exact below_drewN0 _ _) ?_ | refine below_then ?_ (by first | assumption | exact below_alloc1 _ _ | exact below_drew1 _ | exact below_drewN0 _ _))) 32 rfl).mono ?_; rintro e w6 ⟨A6, c6, rfl, hr6, hc6, hB6⟩)
      | (go_at_call 34; have hq_ := hr3; clear hq_; refine (refFrPut_at (bitRow U 11 11 ++ bitRow 3 2 2) 13 (by simp only [List.length_append, bitRow_len]) A3 c3 (V : Int) V 18 rfl (by omega) hVb (by omega) _ (by repeat (first | assumption | exact Below.refl _ _ | ((with_reducible refine lit2 _ _ _ _ _ ?_); (first | (with_reducible rfl) | (simp; done))) | ((with_reducible refine lit1 _ _ _ _ ?_); (first | (with_reducible rfl) | (simp; done))) | refine row_step (by first | assumption | exact below_alloc1 _ _ | exact below_drew1 _ | exact below_drewN0 _ _) ?_ | refine block_below (by first | assumption | exact below_alloc1 _ _ | exact below_drew1 _ | exact below_drewN0 _ _) ?_ | refine below_then ?_ (by first | assumption | exact below_alloc1 _ _ | exact below_drew1 _ | exact below_drewN0 _ _))) 31 rfl).mono ?_; rintro e w4 ⟨A4, c4, rfl, hr4, hc4, hB4⟩)
      | (go_at_call 34; have hq_ := hr2; clear hq_; refine (refFrPut_at (bitRow U 11 11) 11 (bitRow_len _ _ _) A2 c2 3 3 2 rfl (by omega) (by omega) (by omega) _ (by repeat (first | assumption | exact Below.refl _ _ | ((with_reducible refine lit2 _ _ _ _ _ ?_); (first | (with_reducible rfl) | (simp; done))) | ((with_reducible refine lit1 _ _ _ _ ?_); (first | (with_reducible rfl) | (simp; done))) | refine row_step (by first | assumption | exact below_alloc1 _ _ | exact below_drew1 _ | exact below_drewN0 _ _) ?_ | refine block_below (by first | assumption | exact below_alloc1 _ _ | exact below_drew1 _ | exact below_drewN0 _ _) ?_ | refine below_then ?_ (by first | assumption | exact below_alloc1 _ _ | exact below_drew1 _ | exact below_drewN0 _ _))) 13 rfl).mono ?_; rintro e w3 ⟨A3, c3, rfl, hr3, hc3, hB3⟩)
      | (go_at_call 34; refine (refFrPut_at [] 0 rfl none 0 (U : Int) U 11 rfl (by omega) hUb (by omega) _ (.inl rfl) 11 rfl).mono ?_; rintro e w2 ⟨A2, c2, rfl, hr2, hc2, hB2⟩; rw [List.nil_append] at hr2)
      | (go_at_call 35; refine (remote_at true ID r n A m c _).mono ?_; rintro e w5 ⟨rfl, hB5⟩))
  all_goals
    go_wp2_with fail
    go_ret
    refine ⟨A6, c6, rfl, ?_, hc6, by repeat (first | assumption | exact Below.refl _ _ | ((with_reducible refine lit2 _ _ _ _ _ ?_); (first | (with_reducible rfl) | (simp; done))) | ((with_reducible refine lit1 _ _ _ _ ?_); (first | (with_reducible rfl) | (simp; done))) | refine row_step (by first | assumption | exact below_alloc1 _ _ | exact below_drew1 _ | exact below_drewN0 _ _) ?_ | refine block_below (by first | assumption | exact below_alloc1 _ _ | exact below_drew1 _ | exact below_drewN0 _ _) ?_ | refine below_then ?_ (by first | assumption | exact below_alloc1 _ _ | exact below_drew1 _ | exact below_drewN0 _ _))⟩
    unfold rankX
    rw [HU.out, HV.out]
    rw [bits_f, bits_11, List.append_assoc, List.append_assoc] at hr6
    exact hr6

/-- An append of some numbers onto a slice without room, as one step of a drawn region: a new row; nothing old is turned. -/
theorem step_append_new {w : World} {ops : Array Oper} {o : Oper} {a : Act} {K : Act → World → Prop} {Q : Exit → Act → World → Prop} {E : Prop} (hgd : o.guard = none) (s x : Operand)
    (ho : o.op = .call { callee := .builtin .append, args := #[s, x], argTypes := #[23, 23] })
    (i0 : TypeInfo) (hi : Try.prog.info? 3 = some i0) (hz : i0.zero = some (.int .i64 0)) (hsize : i0.size = 1) (hby : i0.bytes = 8)
    (b : Addr) (hs : a.eval s = .slice (some b) 0 0)
    (A : Option Addr) (m c : Nat) (l' : List Int) (hx : a.eval x = .slice A m c) (hm : l'.length = m) (hr : Row .i64 w w.heap.size A l') (h0 : 0 < m) (hmb : m ≤ 100000)
    (h : ∀ A' c' w', w'.ownsRow w.heap.size 3 1 (.slice A' m c') m (l'.map (Value.int .i64)) → Below w.heap.size w w' → K (a.put o.dst (.slice A' m c')) w') :
    if Region.wanted o (yielded ops a.tmps) = true then Oper.wp Try.prog o a w K Q else E := by
  obtain ⟨ad, rfl⟩ : ∃ ad, A = some ad := hr.some_ (by omega)
  have hcells : ∀ j u, (l'.map (Value.int .i64))[j]? = some u → w.cell? (ad.add j) = some u := by
    intro j u hu
    rw [List.getElem?_map, Option.map_eq_some_iff] at hu
    obtain ⟨y, hy, rfl⟩ := hu
    rcases hr with rfl | ⟨ad', e', _, hc⟩
    · simp at hy
    · cases e'; exact hc j y hy
  have hge := grownCap_ge w (0 + m) 0 3
  have hcm : grownCap w (0 + m) 0 3 ≤ maxLen := grownCap_le_maxLen w (0 + m) 0 3 (by unfold maxLen; omega)
  have hrun := fun ty => run_append_grow (P := Try.prog) (w := w) 23 ty 3 i0 (.int .i64 0) Try.underlying23 hi hz b 0 0 [] (by simp) (by simp) ad m c (l'.map (Value.int .i64)) (by simp [hsize, hm]) hcells (by omega) (by omega) (by rw [hby, Nat.zero_add, nextslicecap_zero h0]; omega)
  have hw : Region.wanted o (yielded ops a.tmps) = true := by simp [Region.wanted, hgd]
  rw [if_pos hw]
  unfold Oper.wp execOp
  simp only [ho, resolve, invoke, builtin, Sem.run_bind, Sem.run_pure, Result.andThen_ok, List.map_toArray, List.map_cons, List.map_nil, hs, hx, hrun]
  rw [Nat.zero_add] at hge hcm ⊢
  refine h _ _ _ ⟨by simp [hm], .inr ⟨w.heap.size, _, _, rfl, Nat.le_refl _, World.alloc_heap_new w.drew _, hge, hcm, ?_, ?_⟩⟩ ((below_drew1 w).trans ((below_alloc1 w.drew _)))
  · rw [Array.size_append, Array.size_append, size_zeroCells, show (Value.int IntKind.i64 0).cells.size = 1 from rfl]; simp [hm]; omega
  · simp [hm]

end Go.Proofs.Ytfmlnfblfhmapaa
