/-
  CrcBytes: bytes of which one differs have unlike sums of 8 bits; of which four, one behind the other, do, unlike ones of 32.
-/
import Derived.Test.YtlggjljgeflboaaHead
import Derived.Test.YtlggjljgeflboaaSplice
import Derived.RegionTactic
import Derived.ChangeAlike
import Derived.BigRegion
namespace Go.Proofs.Ytlggjljgeflboaa
open Go.RowKit

set_option maxRecDepth 100000 in
set_option maxHeartbeats 1000000 in
theorem crcBytes_out (n at_ x : Nat) (A : Option Addr) (c : Nat) (w : World) (h : 1000 < n ∨ n < 4 ∨ x = 0) :
    Calls Try.prog 6 #[.slice A n c, .int .u16 at_, .int .u32 x] w fun e w' => e = .returned (.bool true) ∧ Below w.heap.size w w' := by
  by_cases h1 : 1000 < n
  · have d1 : decide (1000 < (n : Int)) = true := by simp; omega
    clear h
    go_enter Try.func6, Try.ntmps6
    go_wp2_with fail
    refine (head_any _).mono ?_
    rintro e w1 ⟨rfl, hB1⟩
    go_wp2_with fail
    go_ret
    exact ⟨rfl, hB1⟩
  · have d1 : decide (1000 < (n : Int)) = false := by simp; omega
    by_cases h2 : n < 4
    · have d2 : decide ((n : Int) < 4) = true := by simp; omega
      clear h
      go_enter Try.func6, Try.ntmps6
      go_wp2_with fail
      refine (head_any _).mono ?_
      rintro e w1 ⟨rfl, hB1⟩
      go_wp2_with fail
      go_ret
      exact ⟨rfl, hB1⟩
    · have d2 : decide ((n : Int) < 4) = false := by simp; omega
      have hx : x = 0 := by omega
      subst hx
      clear h
      go_enter Try.func6, Try.ntmps6
      go_wp2_with fail
      refine (head_any _).mono ?_
      rintro e w1 ⟨rfl, hB1⟩
      go_wp2_with fail
      go_ret
      exact ⟨rfl, hB1⟩

/-- A byte, turned by byte number j of x; turned by y. -/
def turn8 (x : Nat) (j : Nat) (v : Int) : Int := ((v.toNat ^^^ x / 2 ^ (8 * j) % 256 : Nat) : Int)
def turnY (y : Nat) (_ : Nat) (v : Int) : Int := ((v.toNat ^^^ y : Nat) : Int)
theorem turnY_eq (y : Nat) (V : Int) (hV : 0 ≤ V ∧ V ≤ 255) (hy : y < 256) (j : Nat) : bits .xor .u8 V (y : Int) = turnY y j V := by
  obtain ⟨v, rfl⟩ := Int.eq_ofNat_of_zero_le hV.1
  rw [u8_xor_nat v y (by omega) hy]
  rfl
theorem turn8_Y (x j : Nat) (V : Int) : turn8 x j V = turnY (x / 2 ^ (8 * j) % 256) j V := rfl
theorem turnY_byte (y j : Nat) (V : Int) (hV : 0 ≤ V ∧ V ≤ 255) (hy : y < 256) : 0 ≤ turnY y j V ∧ turnY y j V ≤ 255 := by
  have : V.toNat ^^^ y < 2 ^ 8 := Nat.xor_lt_two_pow (by omega) hy
  unfold turnY
  omega
theorem turnY_ne (y j : Nat) (V : Int) (hV : 0 ≤ V) (hy : y ≠ 0) : turnY y j V ≠ V := by
  unfold turnY
  intro e
  have e2 : V.toNat ^^^ y = V.toNat := by omega
  have : V.toNat ^^^ (V.toNat ^^^ y) = V.toNat ^^^ V.toNat := by rw [e2]
  rw [← Nat.xor_assoc, Nat.xor_self, Nat.zero_xor] at this
  exact hy this
theorem some_byte {x : Nat} (hx : x < 4294967296) (h : x ≠ 0) : ∃ j, j < 4 ∧ x / 2 ^ (8 * j) % 256 ≠ 0 := by
  apply Classical.byContradiction
  intro hno
  have k0 : x / 2 ^ (8 * 0) % 256 = 0 := Classical.byContradiction fun e => hno ⟨0, by omega, e⟩
  have k1 : x / 2 ^ (8 * 1) % 256 = 0 := Classical.byContradiction fun e => hno ⟨1, by omega, e⟩
  have k2 : x / 2 ^ (8 * 2) % 256 = 0 := Classical.byContradiction fun e => hno ⟨2, by omega, e⟩
  have k3 : x / 2 ^ (8 * 3) % 256 = 0 := Classical.byContradiction fun e => hno ⟨3, by omega, e⟩
  simp at k0 k1 k2 k3
  omega
theorem getD_byte {l : List Int} (h : byteB l) (j : Nat) : 0 ≤ l.getD j 0 ∧ l.getD j 0 ≤ 255 := by
  by_cases hj : j < l.length
  · rw [List.getD_eq_getElem?_getD, List.getElem?_eq_getElem hj]
    exact h _ (List.getElem_mem hj)
  · simp [List.getD_eq_getElem?_getD, List.getElem?_eq_none (show l.length ≤ j by omega)]
theorem map_byte {l : List Int} (f : Nat → Int → Int) (hf : ∀ j V, 0 ≤ V ∧ V ≤ 255 → 0 ≤ f j V ∧ f j V ≤ 255) (h : byteB l) (K i : Nat) : byteB ((List.range i).map (fun j => f j (l.getD (K + j) 0))) := by
  intro z hz
  obtain ⟨j, _, rfl⟩ := List.mem_map.1 hz
  exact hf j _ (getD_byte h _)
theorem splice_byte {l : List Int} (f : Nat → Int → Int) (hf : ∀ j V, 0 ≤ V ∧ V ≤ 255 → 0 ≤ f j V ∧ f j V ≤ 255) (h : byteB l) (K i : Nat) : byteB (splice l K f i) := by
  intro z hz
  unfold splice at hz
  rcases List.mem_append.1 hz with hz | hz
  · exact h z (List.mem_of_mem_take hz)
  · rcases List.mem_append.1 hz with hz | hz
    · exact map_byte f hf h K i z hz
    · exact h z (List.mem_of_mem_drop hz)
theorem turn8_byte (x : Nat) (j : Nat) (V : Int) (hV : 0 ≤ V ∧ V ≤ 255) : 0 ≤ turn8 x j V ∧ turn8 x j V ≤ 255 := turnY_byte _ j V hV (Nat.mod_lt _ (by omega))
theorem bytes_ne32 {l : List Int} (h : byteB l) {x K : Nat} (hK : K + 4 ≤ l.length) (hx : x < 4294967296) (hx0 : x ≠ 0) : crc32 0xFFFFFFFF#32 (splice l K (turn8 x) 4) ≠ crc32 0xFFFFFFFF#32 l := by
  obtain ⟨j, hj, hb⟩ := some_byte hx hx0
  have hne := stretch_ne l K (turn8 x) 4 hK j hj (turnY_ne _ j _ (getD_byte h _).1 hb)
  have := crc32_apart 0xFFFFFFFF#32 (l.take K) (l.drop (K + 4)) ((l.drop K).take 4) ((List.range 4).map (fun j => turn8 x j (l.getD (K + j) 0))) (by simp; omega) (by simp; omega) (fun z hz => h z (List.mem_of_mem_drop (List.mem_of_mem_take hz))) (map_byte _ (turn8_byte x) h K 4) hne
  rw [← splice_self] at this
  exact this.symm
theorem bytes_ne8 {l : List Int} (h : byteB l) {y K : Nat} (hK : K + 1 ≤ l.length) (hy : y < 256) (hy0 : y ≠ 0) : crc8 (splice l K (turnY y) 1) ≠ crc8 l := by
  have hb := getD_byte h K
  have := crc8_apart (l.take K) (l.drop (K + 1)) (turnY y 0 (l.getD K 0)) (l.getD K 0) (turnY_byte y 0 _ hb hy) hb (turnY_ne y 0 _ hb.1 hy0)
  rw [← drop_cons (by omega), List.take_append_drop] at this
  exact this

set_option maxRecDepth 100000 in
set_option maxHeartbeats 2000000 in
theorem crcBytes_in (l : List Int) (n : Nat) (hn : l.length = n) (at_ x : Nat) (hat : at_ < 65536) (hx : x < 4294967296) (A : Option Addr) (c : Nat) (w : World)
    (h : Row .u8 w w.heap.size A l) (h1000 : n ≤ 1000) (h4 : 4 ≤ n) (hr : byteB l) (hx0 : x ≠ 0) :
    Calls Try.prog 6 #[.slice A n c, .int .u16 at_, .int .u32 x] w fun e w' => e = .returned (.bool true) ∧ Below w.heap.size w w' := by
  have d1 : decide (1000 < (n : Int)) = false := by simp; omega
  have d2 : decide ((n : Int) < 4) = false := by simp; omega
  have d3 : ((x : Int) == 0) = false := by simp; omega
  obtain ⟨K, hK⟩ : ∃ K, at_ % (n - 3) = K := ⟨_, rfl⟩
  have hKlt : K + 4 ≤ n := by
    have := Nat.mod_lt at_ (show 0 < n - 3 by omega)
    omega
  have hKI : ((at_ : Int) % ((n : Int) - 3)) = (K : Int) := by
    rw [← hK, show ((n : Int) - 3) = ((n - 3 : Nat) : Int) by omega]; simp
  obtain ⟨y, hy⟩ : ∃ y, x % 255 + 1 = y := ⟨_, rfl⟩
  have hy1 : y < 256 := by omega
  have hy0 : y ≠ 0 := by omega
  have hyI : ((x : Int) % 255 + 1) = (y : Int) := by omega
  have Hm := Lib.hid (show n ≤ maxLen by unfold maxLen; omega)
  have Hn := Lib.hid hn
  have Hr := Lib.hid hr
  obtain ⟨V0, hV0⟩ : ∃ V, (crc32 0xFFFFFFFF#32 l).toNat ^^^ 4294967295 = V := ⟨_, rfl⟩
  obtain ⟨V1, hV1⟩ : ∃ V, (crc32 0xFFFFFFFF#32 (splice l K (turn8 x) 4)).toNat ^^^ 4294967295 = V := ⟨_, rfl⟩
  have hV : V1 ≠ V0 := by
    rw [← hV0, ← hV1]
    intro e
    exact bytes_ne32 hr (by rw [hn]; exact hKlt) hx hx0 (BitVec.eq_of_toNat_eq (xor_cancel e))
  have dV : ((V1 : Int) != (V0 : Int)) = true := by simp; omega
  have HV0 := Lib.hid (show (((crc32 0xFFFFFFFF#32 l).toNat ^^^ 4294967295 : Nat) : Int) = (V0 : Int) by rw [hV0])
  have HV1 := Lib.hid (show (((crc32 0xFFFFFFFF#32 (splice l K (turn8 x) 4)).toNat ^^^ 4294967295 : Nat) : Int) = (V1 : Int) by rw [hV1])
  obtain ⟨T0, hT0⟩ : ∃ T, (crc8 l).toNat ^^^ 255 = T := ⟨_, rfl⟩
  obtain ⟨T1, hT1⟩ : ∃ T, (crc8 (splice l K (turnY y) 1)).toNat ^^^ 255 = T := ⟨_, rfl⟩
  have hT : T1 ≠ T0 := by
    rw [← hT0, ← hT1]
    intro e
    exact bytes_ne8 hr (by rw [hn]; omega) hy1 hy0 (BitVec.eq_of_toNat_eq (xor_cancel e))
  have dT : ((T1 : Int) != (T0 : Int)) = true := by simp; omega
  have HT0 := Lib.hid (show (((crc8 l).toNat ^^^ 255 : Nat) : Int) = (T0 : Int) by rw [hT0])
  have HT1 := Lib.hid (show (((crc8 (splice l K (turnY y) 1)).toNat ^^^ 255 : Nat) : Int) = (T1 : Int) by rw [hT1])
  have Hb4 := Lib.hid (splice_byte _ (turn8_byte x) hr K 4)
  have Hb1 := Lib.hid (splice_byte (turnY y) (fun j V hV => turnY_byte y j V hV hy1) hr K 1)
  have Hl4 := Lib.hid (show (splice l K (turn8 x) 4).length = n by rw [splice_len _ _ _ _ (by rw [hn]; exact hKlt), hn])
  have Hl1 := Lib.hid (show (splice l K (turnY y) 1).length = n by rw [splice_len _ _ _ _ (by rw [hn]; omega), hn])
  have hs1 : l.set K (turnY y 0 (l.getD K 0)) = splice l K (turnY y) 1 := by
    have := splice_succ (turnY y) (i := 0) (K := K) (l := l) (by rw [hn]; omega)
    rw [splice_zero] at this
    exact this
  have ht1 := turnY_eq y (l.getD K 0) (getD_byte hr K) hy1 0
  have hgK : l[K]? = some (l.getD K 0) := by rw [List.getElem?_eq_getElem (by omega)]; simp [List.getD, show K < l.length by omega]
  obtain ⟨VK, hVK⟩ : ∃ V, l.getD K 0 = V := ⟨_, rfl⟩
  rw [hVK] at hs1 ht1 hgK
  have Hs1 := Lib.hid hs1
  have Ht1 := Lib.hid ht1
  have HgK := Lib.hid hgK
  clear hs1 ht1 hVK
  clear hK hn hr hy hV0 hV1 hV hT0 hT1 hT hgK
  obtain ⟨j0, hj, hy0', hy1', hy2'⟩ := info_parts Try.infoByte
  go_enter Try.func6, Try.ntmps6
  go_wp2_with fail
  refine (head_any _).mono ?_
  rintro e w1 ⟨rfl, hB1⟩
  have o1 := own_lit w1 .u8 [] 0 rfl 5 (cs := #[]) rfl (by decide)
  have l1 := (h.to hB1).to (below_lits (w := w1) (o := .cells #[] 5) rfl)
  go_wp2_with (at_builtin; refine wpList_append_row _ .u8 rfl (.tmp 32) (.tmp 33) 23 rfl w1.heap.size 5 j0 (.int .u8 0) 1 Try.underlying23 hj hy0' hy1' hy2' rfl _ 0 [] rfl o1 A n c _ l rfl Hn.out l1 (by unfold maxLen; omega) (by omega) (by simp) ?_; intro A2 c2 w2 own2 hc2 hB2; simp only [Nat.zero_add, List.nil_append] at own2 hc2 ⊢)
  have e2 : Below w1.heap.size w1 w2 := (below_lits (w := w1) (o := .cells #[] 5) rfl).trans hB2
  obtain ⟨g, rfl⟩ : ∃ g, A2 = some ⟨g, 0, none⟩ := by
    rcases own2.2 with ⟨_, h0⟩ | ⟨g, cap, cur, e1, _⟩
    · omega
    · cases e1; exact ⟨g, rfl⟩
  have hg := (own2.lt g rfl).1
  go_loopw [10] (fun i wr => ∃ k : Nat, k ≤ 4 ∧ i = .int .i64 k ∧ wr.ownsRow w1.heap.size 5 1 (.slice (some ⟨g, 0, none⟩) n c2) n ((splice l K (turn8 x) k).map (Value.int .u8)) ∧ Below w1.heap.size w1 wr) (fun i _ => 4 - (intOf i).toNat)
  case atStart => exact ⟨0, Nat.zero_le _, rfl, by rw [splice_zero]; exact own2, e2⟩
  case round =>
    obtain ⟨k, hk, rfl, hown, hB⟩ := hrel
    by_cases hlt : k < 4
    · obtain ⟨hc1, hf1⟩ := ownsRow_cell hown (splice_get (turn8 x) (i := k) (K := K) (l := l) (by rw [Hn.out]; omega))
      have Hs := Lib.hid (splice_succ (turn8 x) (i := k) (K := K) (l := l) (by rw [Hn.out]; omega))
      have ht := turnY_eq (x / 2 ^ (8 * k) % 256) _ (getD_byte Hr.out (K + k)) (Nat.mod_lt _ (by omega)) k
      rw [show ((x / 2 ^ (8 * k) % 256 : Nat) : Int) = (x : Int) / 2 ^ (8 * k) % 256 by simp] at ht
      have Ht := Lib.hid ht
      clear ht
      generalize l.getD (K + k) 0 = V at *
      go_wp2_with fail
      go_region
      go_wp2_with fail
      refine ⟨⟨k + 1, by omega, by go_num, ?_, (hB.setCell (by exact hg) _).drew⟩, by simp [intOf]; omega⟩
      have ho := ownsRow_set hown (K + k) (bits .xor .u8 V ((x : Int) / 2 ^ (8 * k) % 256))
      rw [Ht.out, ← turn8_Y, Hs.out] at ho
      rw [Ht.out]
      exact ho
    · obtain rfl : k = 4 := by omega
      have rm := Row.own hown
      have eb := below_next hB1 hB
      have rl := h.to eb
      have o3 := own_lit wr .u8 [] 0 rfl 5 (cs := #[]) rfl (by decide)
      have l3 := rl.to (below_lits (w := wr) (o := .cells #[] 5) rfl)
      go_wp2_with (at_builtin; refine wpList_append_row _ .u8 rfl (.tmp 56) (.tmp 57) 23 rfl wr.heap.size 5 j0 (.int .u8 0) 1 Try.underlying23 hj hy0' hy1' hy2' rfl _ 0 [] rfl o3 A n c _ l rfl Hn.out l3 (by unfold maxLen; omega) (by omega) (by simp) ?_; intro A4 c4 w4 own4 hc4 hB4; simp only [Nat.zero_add, List.nil_append] at own4 hc4 ⊢; obtain ⟨g4, rfl⟩ : ∃ g, A4 = some ⟨g, 0, none⟩ := (by rcases own4.2 with ⟨_, h0⟩ | ⟨g, cap, cur, e1, _⟩; omega; cases e1; exact ⟨g, rfl⟩); obtain ⟨hcK, hfK⟩ := ownsRow_cell own4 HgK.out)
      have hg4 := (own4.lt g4 rfl).1
      have own5 := ownsRow_set own4 K (bits .xor .u8 VK (y : Int))
      obtain ⟨w5, hw5⟩ : ∃ w5, w4.setCell ⟨g4, K, none⟩ (.int .u8 (bits .xor .u8 VK (y : Int))) = w5 := ⟨_, rfl⟩
      rw [hw5] at own5 ⊢
      have e5 : Below wr.heap.size wr w5 := by
        rw [← hw5]
        exact (((below_lits (w := wr) (o := .cells #[] 5) rfl).trans hB4).setCell (by exact hg4) _)
      rw [Ht1.out, Hs1.out] at own5
      have rd := Row.own own5
      have rc := rm.to e5
      have rb := rl.to e5
      clear hw5 own4 own5 hown o3 l3 hcK hfK hB4
      refine (word_S c2 Hl4.out rc (Below.refl _ _) Hb4.out Hm.out HV1.out).mono ?_
      rintro e w6 ⟨rfl, hB6⟩
      go_wp2_with fail
      refine (word_S c Hn.out rb hB6 Hr.out Hm.out HV0.out).mono ?_
      rintro e w7 ⟨rfl, hB7⟩
      go_wp2_with fail
      refine (byte_S c4 Hl1.out rd hB7 Hb1.out Hm.out HT1.out).mono ?_
      rintro e w8 ⟨rfl, hB8⟩
      go_wp2_with fail
      refine (byte_S c Hn.out rb hB8 Hr.out Hm.out HT0.out).mono ?_
      rintro e w9 ⟨rfl, hB9⟩
      go_wp2_with fail
      go_ret
      exact ⟨rfl, below_then eb (below_then e5 hB9)⟩

theorem crcBytes_walk (l : List Int) (n : Nat) (hn : l.length = n) (at_ x : Nat) (hat : at_ < 65536) (hx : x < 4294967296) (A : Option Addr) (c : Nat) (w : World)
    (h : Row .u8 w w.heap.size A l) (hr : byteB l) :
    Calls Try.prog 6 #[.slice A n c, .int .u16 at_, .int .u32 x] w fun e w' => e = .returned (.bool true) ∧ Below w.heap.size w w' := by
  by_cases hlong : 1000 < n ∨ n < 4 ∨ x = 0
  · exact crcBytes_out n at_ x A c w hlong
  · exact crcBytes_in l n hn at_ x hat hx A c w h (by omega) (by omega) hr (by omega)

end Go.Proofs.Ytlggjljgeflboaa
