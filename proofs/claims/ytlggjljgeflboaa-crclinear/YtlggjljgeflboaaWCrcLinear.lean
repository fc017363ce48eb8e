/-
  CrcLinear: of three rows of as many bits, or bytes, the sum of all put together, exclusively, is that of their sums.
-/
import Derived.Test.YtlggjljgeflboaaHead
import Derived.Test.YtlggjljgeflboaaSplice
import Derived.Deep.RegionHeld3
namespace Go.Proofs.Ytlggjljgeflboaa
open Go.RowKit

/-- Two rows of bytes put together, exclusively. -/
def xorL (a b : List Int) : List Int := List.zipWith (fun x y => ((x.toNat ^^^ y.toNat : Nat) : Int)) a b
theorem xorL_len (a b : List Int) (h : a.length = b.length) : (xorL a b).length = a.length := by simp [xorL, h]
theorem hiBits_xor (m x y : Nat) : hiBits m (x ^^^ y) = List.zipWith Bool.xor (hiBits m x) (hiBits m y) := by
  unfold hiBits
  rw [List.zipWith_map, List.zipWith_self]
  apply List.map_congr_left
  intro j _
  exact Nat.testBit_xor _ _ _
theorem loBits_xor (m x y : Nat) : loBits m (x ^^^ y) = List.zipWith Bool.xor (loBits m x) (loBits m y) := by
  unfold loBits
  rw [List.zipWith_map, List.zipWith_self]
  apply List.map_congr_left
  intro j _
  exact Nat.testBit_xor _ _ _
theorem hiAll_xor : ∀ (a b : List Int), a.length = b.length → hiAll (xorL a b) = List.zipWith Bool.xor (hiAll a) (hiAll b)
  | [], [], _ => rfl
  | x :: a, y :: b, h => by
    rw [show xorL (x :: a) (y :: b) = ((x.toNat ^^^ y.toNat : Nat) : Int) :: xorL a b from rfl, hiAll_cons, hiAll_cons, hiAll_cons, hiAll_xor a b (by simpa using h), Int.toNat_natCast, hiBits_xor, List.zipWith_append (by rw [hiBits_len, hiBits_len])]
  | [], _ :: _, h => by simp at h
  | _ :: _, [], h => by simp at h
theorem loAll_xor : ∀ (a b : List Int), a.length = b.length → loAll (xorL a b) = List.zipWith Bool.xor (loAll a) (loAll b)
  | [], [], _ => rfl
  | x :: a, y :: b, h => by
    rw [show xorL (x :: a) (y :: b) = ((x.toNat ^^^ y.toNat : Nat) : Int) :: xorL a b from rfl, loAll_cons, loAll_cons, loAll_cons, loAll_xor a b (by simpa using h), Int.toNat_natCast, loBits_xor, List.zipWith_append (by rw [loBits_len, loBits_len])]
  | [], _ :: _, h => by simp at h
  | _ :: _, [], h => by simp at h
theorem boolsOf_spread : ∀ l : List Int, boolsOf (spreadL l) = hiAll l
  | [] => rfl
  | x :: l => by
    rw [show spreadL (x :: l) = byteBits x ++ spreadL l by simp [spreadL], boolsOf_append, boolsOf_spread l, hiAll_cons]
    unfold byteBits
    rw [boolsOf_bitRow]
section
variable (a b c : List Int) (h1 : a.length = b.length) (h2 : a.length = c.length)
include h1 h2
theorem three8 : crc8 (xorL (xorL a b) c) = crc8 a ^^^ crc8 b ^^^ crc8 c := by
  unfold crc8
  rw [hiAll_xor _ _ (by rw [xorL_len a b h1, h2]), hiAll_xor a b h1]
  exact reg8.three _ _ _ _ (by rw [hiAll_len, hiAll_len, h1]) (by rw [hiAll_len, hiAll_len, h2])
theorem three32 (s : BitVec 32) : crc32 s (xorL (xorL a b) c) = crc32 s a ^^^ crc32 s b ^^^ crc32 s c := by
  unfold crc32
  rw [loAll_xor _ _ (by rw [xorL_len a b h1, h2]), loAll_xor a b h1]
  exact reg32.three _ _ _ _ (by rw [loAll_len, loAll_len, h1]) (by rw [loAll_len, loAll_len, h2])
theorem three15 : crc15 (spreadL (xorL (xorL a b) c)) = crc15 (spreadL a) ^^^ crc15 (spreadL b) ^^^ crc15 (spreadL c) := by
  unfold crc15
  rw [boolsOf_spread, boolsOf_spread, boolsOf_spread, boolsOf_spread, hiAll_xor _ _ (by rw [xorL_len a b h1, h2]), hiAll_xor a b h1]
  exact reg15.three _ _ _ _ (by rw [hiAll_len, hiAll_len, h1]) (by rw [hiAll_len, hiAll_len, h2])
end
theorem xor3_same (a b c k : Nat) : (a ^^^ b ^^^ c) ^^^ k = (a ^^^ k) ^^^ (b ^^^ k) ^^^ (c ^^^ k) := by
  apply Nat.eq_of_testBit_eq
  intro i
  simp only [Nat.testBit_xor]
  cases a.testBit i <;> cases b.testBit i <;> cases c.testBit i <;> cases k.testBit i <;> rfl
theorem xorL_byte (a b : List Int) (ha : byteB a) (hb : byteB b) : byteB (xorL a b) := by
  intro z hz
  obtain ⟨i, hi⟩ := List.getElem?_of_mem hz
  unfold xorL at hi
  rw [List.getElem?_zipWith] at hi
  cases hx : a[i]? with
  | none => rw [hx] at hi; cases hi
  | some x =>
    cases hy : b[i]? with
    | none => rw [hx, hy] at hi; cases hi
    | some y =>
      rw [hx, hy] at hi
      have e := Option.some.inj hi
      have hx' := ha x (List.mem_of_getElem? hx)
      have hy' := hb y (List.mem_of_getElem? hy)
      have : x.toNat ^^^ y.toNat < 2 ^ 8 := Nat.xor_lt_two_pow (by omega) (by omega)
      omega
theorem xorL_get {a b : List Int} {k : Nat} {x y : Int} (hx : a[k]? = some x) (hy : b[k]? = some y) : (xorL a b)[k]? = some ((x.toNat ^^^ y.toNat : Nat) : Int) := by
  unfold xorL
  rw [List.getElem?_zipWith, hx, hy]
theorem xor3_u8 (x y z : Nat) (hx : x < 256) (hy : y < 256) (hz : z < 256) : bits .xor .u8 (bits .xor .u8 (x : Int) (y : Int)) (z : Int) = (((x ^^^ y) ^^^ z : Nat) : Int) := by
  have : x ^^^ y < 2 ^ 8 := Nat.xor_lt_two_pow hx hy
  rw [u8_xor_nat x y hx hy, u8_xor_nat _ z (by omega) hz]
theorem xor3_i64 (x y z : Nat) (hx : x < 4294967296) (hy : y < 4294967296) (hz : z < 4294967296) : bits .xor .i64 (bits .xor .i64 (x : Int) (y : Int)) (z : Int) = (((x ^^^ y) ^^^ z : Nat) : Int) := by
  have : x ^^^ y < 2 ^ 32 := Nat.xor_lt_two_pow hx hy
  rw [xor64 x y (by omega) (by omega), xor64 _ z (by omega) (by omega)]

theorem min4 {P : Program} (ts : Array TypeId) (t : TypeId) (x y z : Nat) (N : Nat) (hN : min (min (min x y) z) 300 = N) (w : World) : (Builtin.min_ ts t #[.int .i64 x, .int .i64 y, .int .i64 z, .int .i64 300]).run P w = .ok (.int .i64 N) w := by
  have e : (if (300 : Int) < (if (z : Int) < (if (y : Int) < (x : Int) then (y : Int) else (x : Int)) then (z : Int) else (if (y : Int) < (x : Int) then (y : Int) else (x : Int))) then (300 : Int) else (if (z : Int) < (if (y : Int) < (x : Int) then (y : Int) else (x : Int)) then (z : Int) else (if (y : Int) < (x : Int) then (y : Int) else (x : Int)))) = (N : Int) := by
    subst hN
    repeat' split
    all_goals omega
  rw [← e]
  simp [Builtin.min_, Builtin.min2]

set_option maxRecDepth 100000 in
set_option maxHeartbeats 2000000 in
theorem crcLinear_walk (a b c : List Int) (na nb nc : Nat) (hna : a.length = na) (hnb : b.length = nb) (hnc : c.length = nc) (A0 A1 A2 : Option Addr) (c0 c1 c2 : Nat) (w : World)
    (ha : Row .u8 w w.heap.size A0 a) (hb : Row .u8 w w.heap.size A1 b) (hc : Row .u8 w w.heap.size A2 c) (ba : byteB a) (bb : byteB b) (bc : byteB c) (k0 : na ≤ c0) (k1 : nb ≤ c1) (k2 : nc ≤ c2) (m0 : c0 ≤ maxLen) (m1 : c1 ≤ maxLen) (m2 : c2 ≤ maxLen) :
    Calls Try.prog 7 #[.slice A0 na c0, .slice A1 nb c1, .slice A2 nc c2] w fun e w' => e = .returned (.bool true) ∧ Below w.heap.size w w' := by
  unfold maxLen at m0 m1 m2
  obtain ⟨N, hN⟩ : ∃ N, min (min (min na nb) nc) 300 = N := ⟨_, rfl⟩
  have hN0 : N ≤ na := by omega
  have hN1 : N ≤ nb := by omega
  have hN2 : N ≤ nc := by omega
  have hN3 : N ≤ 300 := by omega
  have hmin := fun ts t => min4 (P := Try.prog) ts t na nb nc N hN
  obtain ⟨x, hx⟩ : ∃ x, a.take N = x := ⟨_, rfl⟩
  obtain ⟨y, hy⟩ : ∃ y, b.take N = y := ⟨_, rfl⟩
  obtain ⟨z, hz⟩ : ∃ z, c.take N = z := ⟨_, rfl⟩
  have rx : Row .u8 w w.heap.size A0 x := by
    have := ha.sub_ 0 N (by omega) (by omega) (A' := A0) (fun _ => by cases A0 <;> rfl)
    rwa [List.drop_zero, Nat.sub_zero, hx] at this
  have ry : Row .u8 w w.heap.size A1 y := by
    have := hb.sub_ 0 N (by omega) (by omega) (A' := A1) (fun _ => by cases A1 <;> rfl)
    rwa [List.drop_zero, Nat.sub_zero, hy] at this
  have rz : Row .u8 w w.heap.size A2 z := by
    have := hc.sub_ 0 N (by omega) (by omega) (A' := A2) (fun _ => by cases A2 <;> rfl)
    rwa [List.drop_zero, Nat.sub_zero, hz] at this
  have bx : byteB x := fun t ht => ba t (by rw [← hx] at ht; exact List.mem_of_mem_take ht)
  have by_ : byteB y := fun t ht => bb t (by rw [← hy] at ht; exact List.mem_of_mem_take ht)
  have bz : byteB z := fun t ht => bc t (by rw [← hz] at ht; exact List.mem_of_mem_take ht)
  have lx : x.length = N := by rw [← hx]; simp; omega
  have ly : y.length = N := by rw [← hy]; simp; omega
  have lz : z.length = N := by rw [← hz]; simp; omega
  clear hx hy hz ha hb hc ba bb bc hna hnb hnc hN
  have lall : (xorL (xorL x y) z).length = N := by rw [xorL_len _ _ (by rw [xorL_len _ _ (by omega)]; omega), xorL_len _ _ (by omega), lx]
  have ball := xorL_byte _ z (xorL_byte x y bx by_) bz
  have t8 := three8 x y z (by omega) (by omega)
  have t32 := three32 x y z (by omega) (by omega) 0xFFFFFFFF#32
  have t15 := three15 x y z (by omega) (by omega)
  obtain ⟨all, hall⟩ : ∃ l, xorL (xorL x y) z = l := ⟨_, rfl⟩
  rw [hall] at lall ball t8 t32 t15
  -- the twelve sums
  obtain ⟨p0, hp0⟩ : ∃ v, (crc8 all).toNat ^^^ 255 = v := ⟨_, rfl⟩
  obtain ⟨p1, hp1⟩ : ∃ v, (crc8 x).toNat ^^^ 255 = v := ⟨_, rfl⟩
  obtain ⟨p2, hp2⟩ : ∃ v, (crc8 y).toNat ^^^ 255 = v := ⟨_, rfl⟩
  obtain ⟨p3, hp3⟩ : ∃ v, (crc8 z).toNat ^^^ 255 = v := ⟨_, rfl⟩
  have l8 : ∀ v : BitVec 8, v.toNat ^^^ 255 < 4294967296 := fun v => Nat.lt_of_lt_of_le (Nat.xor_lt_two_pow (n := 8) v.isLt (by omega)) (by omega)
  have ep : bits .xor .i64 (bits .xor .i64 (p1 : Int) (p2 : Int)) (p3 : Int) = (p0 : Int) := by
    rw [xor3_i64 _ _ _ (by rw [← hp1]; exact l8 _) (by rw [← hp2]; exact l8 _) (by rw [← hp3]; exact l8 _), ← hp0, ← hp1, ← hp2, ← hp3, t8, BitVec.toNat_xor, BitVec.toNat_xor]
    exact congrArg _ (xor3_same _ _ _ _).symm
  obtain ⟨q0, hq0⟩ : ∃ v, (crc32 0xFFFFFFFF#32 all).toNat ^^^ 4294967295 = v := ⟨_, rfl⟩
  obtain ⟨q1, hq1⟩ : ∃ v, (crc32 0xFFFFFFFF#32 x).toNat ^^^ 4294967295 = v := ⟨_, rfl⟩
  obtain ⟨q2, hq2⟩ : ∃ v, (crc32 0xFFFFFFFF#32 y).toNat ^^^ 4294967295 = v := ⟨_, rfl⟩
  obtain ⟨q3, hq3⟩ : ∃ v, (crc32 0xFFFFFFFF#32 z).toNat ^^^ 4294967295 = v := ⟨_, rfl⟩
  have l32 : ∀ v : BitVec 32, v.toNat ^^^ 4294967295 < 4294967296 := fun v => Nat.xor_lt_two_pow (n := 32) v.isLt (by omega)
  have eq : bits .xor .i64 (bits .xor .i64 (q1 : Int) (q2 : Int)) (q3 : Int) = (q0 : Int) := by
    rw [xor3_i64 _ _ _ (by rw [← hq1]; exact l32 _) (by rw [← hq2]; exact l32 _) (by rw [← hq3]; exact l32 _), ← hq0, ← hq1, ← hq2, ← hq3, t32, BitVec.toNat_xor, BitVec.toNat_xor]
    exact congrArg _ (xor3_same _ _ _ _).symm
  obtain ⟨s0, hs0⟩ : ∃ v, (crc15 (spreadL all)).toNat = v := ⟨_, rfl⟩
  obtain ⟨s1, hs1⟩ : ∃ v, (crc15 (spreadL x)).toNat = v := ⟨_, rfl⟩
  obtain ⟨s2, hs2⟩ : ∃ v, (crc15 (spreadL y)).toNat = v := ⟨_, rfl⟩
  obtain ⟨s3, hs3⟩ : ∃ v, (crc15 (spreadL z)).toNat = v := ⟨_, rfl⟩
  have l15 : ∀ v : BitVec 15, v.toNat < 4294967296 := fun v => Nat.lt_of_lt_of_le v.isLt (by omega)
  have es : bits .xor .i64 (bits .xor .i64 (s1 : Int) (s2 : Int)) (s3 : Int) = (s0 : Int) := by
    rw [xor3_i64 _ _ _ (by rw [← hs1]; exact l15 _) (by rw [← hs2]; exact l15 _) (by rw [← hs3]; exact l15 _), ← hs0, ← hs1, ← hs2, ← hs3, t15, BitVec.toNat_xor, BitVec.toNat_xor]
  have P0 := Lib.hid (show (((crc8 all).toNat ^^^ 255 : Nat) : Int) = (p0 : Int) by rw [hp0])
  have P1 := Lib.hid (show (((crc8 x).toNat ^^^ 255 : Nat) : Int) = (p1 : Int) by rw [hp1])
  have P2 := Lib.hid (show (((crc8 y).toNat ^^^ 255 : Nat) : Int) = (p2 : Int) by rw [hp2])
  have P3 := Lib.hid (show (((crc8 z).toNat ^^^ 255 : Nat) : Int) = (p3 : Int) by rw [hp3])
  have Q0 := Lib.hid (show (((crc32 0xFFFFFFFF#32 all).toNat ^^^ 4294967295 : Nat) : Int) = (q0 : Int) by rw [hq0])
  have Q1 := Lib.hid (show (((crc32 0xFFFFFFFF#32 x).toNat ^^^ 4294967295 : Nat) : Int) = (q1 : Int) by rw [hq1])
  have Q2 := Lib.hid (show (((crc32 0xFFFFFFFF#32 y).toNat ^^^ 4294967295 : Nat) : Int) = (q2 : Int) by rw [hq2])
  have Q3 := Lib.hid (show (((crc32 0xFFFFFFFF#32 z).toNat ^^^ 4294967295 : Nat) : Int) = (q3 : Int) by rw [hq3])
  have S0 := Lib.hid (show ((crc15 (spreadL all)).toNat : Int) = (s0 : Int) by rw [hs0])
  have S1 := Lib.hid (show ((crc15 (spreadL x)).toNat : Int) = (s1 : Int) by rw [hs1])
  have S2 := Lib.hid (show ((crc15 (spreadL y)).toNat : Int) = (s2 : Int) by rw [hs2])
  have S3 := Lib.hid (show ((crc15 (spreadL z)).toNat : Int) = (s3 : Int) by rw [hs3])
  have Lx := Lib.hid lx
  have Ly := Lib.hid ly
  have Lz := Lib.hid lz
  have La := Lib.hid lall
  have Bx := Lib.hid bx
  have By := Lib.hid by_
  have Bz := Lib.hid bz
  have Ba := Lib.hid ball
  have Hall := Lib.hid hall
  have Hm := Lib.hid (show N ≤ maxLen by unfold maxLen; omega)
  have Hm8 := Lib.hid (show 8 * N ≤ maxLen by unfold maxLen; omega)
  have Hm64 := Lib.hid (show N * 64 ≤ 140737488355328 by omega)
  clear hp0 hp1 hp2 hp3 hq0 hq1 hq2 hq3 hs0 hs1 hs2 hs3 l8 l32 l15 t8 t32 t15 lx ly lz lall bx by_ bz ball hall
  obtain ⟨j0, hj, hy0, hy1, hy2⟩ := info_parts Try.infoByte
  go_enter Try.func7, Try.ntmps7
  go_wp2_with fail
  refine (head_any _).mono ?_
  rintro e w1 ⟨rfl, hB1⟩
  go_wp2_with fail
  clear hmin
  go_loopw [12, 13] (fun o i wr => ∃ (k : Nat) (A' : Option Addr) (c' : Nat), k ≤ N ∧ i = .int .i64 k ∧ o = .slice A' k c' ∧ wr.ownsRow w1.heap.size 5 1 (.slice A' k c') k ((all.take k).map (Value.int .u8)) ∧ Below w1.heap.size w1 wr)
    (fun _ i _ => N - (intOf i).toNat)
  case atStart => exact ⟨0, none, 0, Nat.zero_le _, rfl, rfl, World.ownsRow_nil _ _ _ _, Below.refl _ _⟩
  case round =>
    obtain ⟨k, A', c', hk, rfl, rfl, hown, hB⟩ := hrel
    have eb := below_next hB1 hB
    by_cases hlt : k < N
    · obtain ⟨adx, vx, rfl, hvx, _⟩ := rx.get_ (k := k) (by rw [Lx.out]; exact hlt)
      obtain ⟨ady, vy, rfl, hvy, _⟩ := ry.get_ (k := k) (by rw [Ly.out]; exact hlt)
      obtain ⟨adz, vz, rfl, hvz, _⟩ := rz.get_ (k := k) (by rw [Lz.out]; exact hlt)
      have mkS : ∀ W, Below w.heap.size w W → W.cell? (adx.add k) = some (.int .u8 vx) ∧ W.cell? (ady.add k) = some (.int .u8 vy) ∧ W.cell? (adz.add k) = some (.int .u8 vz) := fun W hW =>
        ⟨(rx.to hW).cell_ hvx, (ry.to hW).cell_ hvy, (rz.to hW).cell_ hvz⟩
      have bvx := Bx.out vx (List.mem_of_getElem? hvx)
      have bvy := By.out vy (List.mem_of_getElem? hvy)
      have bvz := Bz.out vz (List.mem_of_getElem? hvz)
      obtain ⟨X, rfl⟩ := Int.eq_ofNat_of_zero_le bvx.1
      obtain ⟨Y, rfl⟩ := Int.eq_ofNat_of_zero_le bvy.1
      obtain ⟨Z, rfl⟩ := Int.eq_ofNat_of_zero_le bvz.1
      have hget := xorL_get (xorL_get hvx hvy) hvz
      rw [Hall.out] at hget
      simp only [Int.toNat_natCast] at hget
      have Hs := Lib.hid (take_snoc hget)
      have e3 := xor3_u8 X Y Z (by omega) (by omega) (by omega)
      clear hvx hvy hvz bvx bvy bvz hget
      have HkS := Lib.hid mkS
      have HeB := Lib.hid eb
      have hsz := hB.size
      have hsz1 := hB1.size
      clear mkS eb
      go_wp2_with fail
      go_region_held3 (fun W => W.cell? (adx.add k) = some (.int .u8 (X : Int)) ∧ W.cell? (ady.add k) = some (.int .u8 (Y : Int)) ∧ W.cell? (adz.add k) = some (.int .u8 (Z : Int)))
        (first
          | exact HkS.out _ HeB.out.drew
          | exact HkS.out _ ((HeB.out.alloc (by have := HeB.out.size; omega) _).drew)
          | exact HkS.out _ (((HeB.out.alloc (by have := HeB.out.size; omega) _).drew).trans (hB2.mono hsz1)))
        ((refine step_append_row .u8 (by rfl) _ _ 23 (by rfl) w1.heap.size 5 j0 (.int .u8 0) 1 Try.underlying23 hj hy0 hy1 hy2 (by rfl) _ k (all.take k) (by rfl) (hown.alloc (.cells #[.int .u8 (((X ^^^ Y) ^^^ Z : Nat) : Int)] 5)) (some ⟨wr.heap.size, 0, none⟩) 1 1 _ [(((X ^^^ Y) ^^^ Z : Nat) : Int)] (by rfl) rfl (Row.lit wr .u8 [(((X ^^^ Y) ^^^ Z : Nat) : Int)] 5 rfl) (by unfold maxLen; omega) (by omega) (by simp; omega) ?_; intro A3 c3 w2 own2 hc3 hB2))
      go_wp2_with fail
      have hBB : Below w1.heap.size w1 w2 := ((hB.alloc hB.size _).drew).trans hB2
      exact ⟨⟨k + 1, A3, c3, by omega, by go_num, rfl, by rw [Hs.out]; exact own2, hBB⟩, by simp [intOf]; omega⟩
    · obtain rfl : k = N := by omega
      rw [List.take_of_length_le (by rw [La.out]; exact Nat.le_refl _)] at hown
      have ra := Row.own hown
      have rx1 := rx.to eb
      have ry1 := ry.to eb
      have rz1 := rz.to eb
      clear hown
      go_wp2_with fail
      refine (byte_S c' La.out ra (Below.refl _ _) Ba.out Hm.out P0.out).mono ?_
      rintro e v0 ⟨rfl, hB_v0⟩
      go_wp2_with fail
      refine (byte_S c0 Lx.out rx1 hB_v0 Bx.out Hm.out P1.out).mono ?_
      rintro e v1 ⟨rfl, hB_v1⟩
      go_wp2_with fail
      refine (byte_S c1 Ly.out ry1 hB_v1 By.out Hm.out P2.out).mono ?_
      rintro e v2 ⟨rfl, hB_v2⟩
      go_wp2_with fail
      refine (byte_S c2 Lz.out rz1 hB_v2 Bz.out Hm.out P3.out).mono ?_
      rintro e v3 ⟨rfl, hB_v3⟩
      go_wp2_with fail
      refine (word_S c' La.out ra hB_v3 Ba.out Hm.out Q0.out).mono ?_
      rintro e v4 ⟨rfl, hB_v4⟩
      go_wp2_with fail
      refine (word_S c0 Lx.out rx1 hB_v4 Bx.out Hm.out Q1.out).mono ?_
      rintro e v5 ⟨rfl, hB_v5⟩
      go_wp2_with fail
      refine (word_S c1 Ly.out ry1 hB_v5 By.out Hm.out Q2.out).mono ?_
      rintro e v6 ⟨rfl, hB_v6⟩
      go_wp2_with fail
      refine (word_S c2 Lz.out rz1 hB_v6 Bz.out Hm.out Q3.out).mono ?_
      rintro e v7 ⟨rfl, hB_v7⟩
      go_wp2_with fail
      refine (spread_S c' La.out ra hB_v7 Ba.out Hm64.out rfl).mono ?_
      rintro e s0w ⟨A0s, c0s, rfl, r0s, hB_s0⟩
      go_wp2_with fail
      refine (bits_S c0s (by rw [spreadL_len, La.out]) r0s (Below.refl _ _) (spreadL_right _) Hm8.out S0.out).mono ?_
      rintro e t0w ⟨rfl, hB_t0⟩
      have hB_u0 := below_next hB_s0 hB_t0
      clear r0s
      go_wp2_with fail
      refine (spread_S c0 Lx.out rx1 hB_u0 Bx.out Hm64.out rfl).mono ?_
      rintro e s1w ⟨A1s, c1s, rfl, r1s, hB_s1⟩
      go_wp2_with fail
      refine (bits_S c1s (by rw [spreadL_len, Lx.out]) r1s (Below.refl _ _) (spreadL_right _) Hm8.out S1.out).mono ?_
      rintro e t1w ⟨rfl, hB_t1⟩
      have hB_u1 := below_next hB_s1 hB_t1
      clear r1s
      go_wp2_with fail
      refine (spread_S c1 Ly.out ry1 hB_u1 By.out Hm64.out rfl).mono ?_
      rintro e s2w ⟨A2s, c2s, rfl, r2s, hB_s2⟩
      go_wp2_with fail
      refine (bits_S c2s (by rw [spreadL_len, Ly.out]) r2s (Below.refl _ _) (spreadL_right _) Hm8.out S2.out).mono ?_
      rintro e t2w ⟨rfl, hB_t2⟩
      have hB_u2 := below_next hB_s2 hB_t2
      clear r2s
      go_wp2_with fail
      refine (spread_S c2 Lz.out rz1 hB_u2 Bz.out Hm64.out rfl).mono ?_
      rintro e s3w ⟨A3s, c3s, rfl, r3s, hB_s3⟩
      go_wp2_with fail
      refine (bits_S c3s (by rw [spreadL_len, Lz.out]) r3s (Below.refl _ _) (spreadL_right _) Hm8.out S3.out).mono ?_
      rintro e t3w ⟨rfl, hB_t3⟩
      have hB_u3 := below_next hB_s3 hB_t3
      clear r3s
      go_wp2_with fail
      go_ret
      exact ⟨rfl, below_then eb hB_u3⟩

end Go.Proofs.Ytlggjljgeflboaa
