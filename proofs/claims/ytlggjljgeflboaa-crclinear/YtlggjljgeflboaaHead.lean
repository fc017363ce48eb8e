/-
  The live question 'head', and contracts that carry what lies below on.
-/
import Derived.Test.YtlggjljgeflboaaCrc
import Derived.Test.YtlggjljgeflboaaRefA
import Derived.Deep.RegionHeld3
import Derived.Lib.SlBytesConst
namespace Go.Proofs.Ytlggjljgeflboaa
open Go.RowKit

theorem Row.keep {κ : IntKind} {w W : World} {A : Option Addr} {l : List Int} (h : Row κ w w.heap.size A l) (hS : Below w.heap.size w W) : Row κ W W.heap.size A l := h.to hS
theorem below_next {w W W' : World} (hS : Below w.heap.size w W) (hB : Below W.heap.size W W') : Below w.heap.size w W' := hS.trans (hB.mono hS.size)

section
variable {w W : World} {A : Option Addr} {l : List Int} {n : Nat} (c : Nat)
theorem bits_S (hn : l.length = n) (h : Row .i64 w w.heap.size A l) (hS : Below w.heap.size w W) (hr : rightB l = true) (hm : n ≤ maxLen) {v : Int} (hv : ((crc15 l).toNat : Int) = v) :
    Calls Try.prog 12 #[.slice A n c] W fun e w' => e = .returned (.int .i64 v) ∧ Below w.heap.size w w' := by
  subst hv
  exact (bits_any l n hn A c W (h.keep hS) hr hm).mono fun e w' ⟨h1, h2⟩ => ⟨h1, below_next hS h2⟩
theorem byte_S (hn : l.length = n) (h : Row .u8 w w.heap.size A l) (hS : Below w.heap.size w W) (hr : byteB l) (hm : n ≤ maxLen) {v : Int} (hv : (((crc8 l).toNat ^^^ 255 : Nat) : Int) = v) :
    Calls Try.prog 14 #[.slice A n c] W fun e w' => e = .returned (.int .i64 v) ∧ Below w.heap.size w w' := by
  subst hv
  exact (byte_any l n hn A c W (h.keep hS) hr hm).mono fun e w' ⟨h1, h2⟩ => ⟨h1, below_next hS h2⟩
theorem word_S (hn : l.length = n) (h : Row .u8 w w.heap.size A l) (hS : Below w.heap.size w W) (hr : byteB l) (hm : n ≤ maxLen) {v : Int} (hv : (((crc32 0xFFFFFFFF#32 l).toNat ^^^ 4294967295 : Nat) : Int) = v) :
    Calls Try.prog 16 #[.slice A n c] W fun e w' => e = .returned (.int .i64 v) ∧ Below w.heap.size w w' := by
  subst hv
  exact (word_any l n hn A c W (h.keep hS) hr hm).mono fun e w' ⟨h1, h2⟩ => ⟨h1, below_next hS h2⟩
/-- What More makes of a sum. -/
def moreN (x : Int) (l : List Int) : Nat := (crc32 (BitVec.ofInt 32 x ^^^ 0xFFFFFFFF#32) l).toNat ^^^ 4294967295
theorem ofInt_mod (x : Int) : ((BitVec.ofInt 32 x).toNat : Int) = x % 4294967296 := by
  rw [BitVec.toNat_ofInt]
  have : (0 : Int) ≤ x % 4294967296 := Int.emod_nonneg _ (by omega)
  show (((x % ((2 ^ 32 : Nat) : Int)).toNat : Nat) : Int) = _
  rw [show ((2 ^ 32 : Nat) : Int) = 4294967296 from rfl]
  omega
theorem more_S (x : Int) (hn : l.length = n) (h : Row .u8 w w.heap.size A l) (hS : Below w.heap.size w W) (hr : byteB l) (hm : n ≤ maxLen) {v : Int} (hv : ((moreN x l : Nat) : Int) = v) :
    Calls Try.prog 18 #[.int .i64 x, .slice A n c] W fun e w' => e = .returned (.int .i64 v) ∧ Below w.heap.size w w' := by
  subst hv
  exact (more_any x (BitVec.ofInt 32 x).toNat (ofInt_mod x).symm (BitVec.isLt _) (BitVec.ofInt 32 x ^^^ 0xFFFFFFFF#32) (by rw [BitVec.toNat_xor]; rfl) l n hn A c W (h.keep hS) hr hm).mono fun e w' ⟨h1, h2⟩ => ⟨h1, below_next hS h2⟩
theorem spread_S (hn : l.length = n) (h : Row .u8 w w.heap.size A l) (hS : Below w.heap.size w W) (hr : byteB l) (hm : n * 64 ≤ 140737488355328) {m : Nat} (hm' : 8 * n = m) :
    Calls Try.prog 20 #[.slice A n c] W fun e w' => ∃ A' c', e = .returned (.slice A' m c') ∧ Row .i64 w' w'.heap.size A' (spreadL l) ∧ Below w.heap.size w w' :=
  (refSpread_at l n hn A c W (h.keep hS) hr hm m hm').mono fun _ _ ⟨A', c', h1, h2, h3⟩ => ⟨A', c', h1, h2, below_next hS h3⟩
end

abbrev digits : List Int := [49, 50, 51, 52, 53, 54, 55, 56, 57]
theorem digits_byte : byteB digits := by unfold byteB; decide

theorem Row.litF (W : World) (κ : IntKind) (l : List Int) (t : TypeId) (fr : Nat × Nat) {cs : Array Value} (hcs : cs = (l.map (Value.int κ)).toArray) : Row κ (W.alloc (.cells cs t fr)) (W.heap.size + 1) (some ⟨W.heap.size, 0, none⟩) l := by
  right
  refine ⟨_, rfl, by simp, fun k x hx => ?_⟩
  have e : (⟨W.heap.size, 0, none⟩ : Addr).add k = ⟨W.heap.size, k, none⟩ := by unfold Addr.add; split <;> simp_all
  have hb := World.alloc_heap_new W (.cells cs t fr)
  subst hcs
  rw [e]
  simp only [World.cell?, hb]
  simp [hx]

theorem v1 : (((crc8 digits).toNat ^^^ 255 : Nat) : Int) = 75 := by kernel_rfl
theorem v2 : (((crc32 0xFFFFFFFF#32 digits).toNat ^^^ 4294967295 : Nat) : Int) = 3421780262 := by kernel_rfl
theorem v3 : ((crc15 (spreadL digits)).toNat : Int) = 1438 := by kernel_rfl
theorem v4 : ((crc32 0xFFFFFFFF#32 [49, 50, 51, 52]).toNat ^^^ 4294967295 : Nat) = 2615402659 := by kernel_rfl
theorem v5 : ((moreN 2615402659 [53, 54, 55, 56, 57] : Nat) : Int) = 3421780262 := by kernel_rfl

set_option maxRecDepth 100000 in
set_option maxHeartbeats 1000000 in
theorem head_any (w : World) : Calls Try.prog 10 #[] w fun e w' => e = .returned (.bool true) ∧ Below w.heap.size w w' := by
  have hcv := Lib.run_convert_bytes_const (P := Try.prog) w 23 5 #[.int .u8 49, .int .u8 50, .int .u8 51, .int .u8 52, .int .u8 53, .int .u8 54, .int .u8 55, .int .u8 56, .int .u8 57] 9 9 Try.underlying23 Try.underlying5
  go_enter Try.func10, Try.ntmps10
  go_wp2_with fail
  clear hcv
  obtain ⟨w0, hw0⟩ : ∃ w0, w.alloc (.cells #[.int .u8 49, .int .u8 50, .int .u8 51, .int .u8 52, .int .u8 53, .int .u8 54, .int .u8 55, .int .u8 56, .int .u8 57] 5 (9, 10)) = w0 := ⟨_, rfl⟩
  rw [hw0]
  have hB0 := below_lits hw0
  have hz0 : w0.heap.size = w.heap.size + 1 := by rw [← hw0]; simp
  have r0 : Row .u8 w0 w0.heap.size (some ⟨w.heap.size, 0, none⟩) digits := by rw [hz0, ← hw0]; exact Row.litF w .u8 digits 5 (9, 10) rfl
  have r4 : Row .u8 w0 w0.heap.size (some ⟨w.heap.size, 0, none⟩) [49, 50, 51, 52] := r0.sub_ 0 4 (by omega) (by decide) (fun _ => rfl)
  have r5 : Row .u8 w0 w0.heap.size (some ⟨w.heap.size, 4, none⟩) [53, 54, 55, 56, 57] := r0.sub_ 4 9 (by omega) (by decide) (fun _ => rfl)
  clear hw0 hz0
  go_region_held3 (fun W => Below w0.heap.size w0 W) (first | assumption | exact (Below.refl _ _).drew)
    (first
      | (go_at_call_of 14 (Value.slice (some ⟨w.heap.size, 0, none⟩) 9 9); refine (byte_S _ rfl r0 (by assumption) digits_byte (by decide) v1).mono ?_; rintro e w' ⟨rfl, hB⟩)
      | (go_at_call_of 16 (Value.slice (some ⟨w.heap.size, 0, none⟩) 9 9); refine (word_S _ rfl r0 (by assumption) digits_byte (by decide) v2).mono ?_; rintro e w' ⟨rfl, hB⟩)
      | (go_at_call 20; refine (spread_S _ rfl r0 (by assumption) digits_byte (by decide) (m := 72) rfl).mono ?_; rintro e w' ⟨A', c', rfl, hr', hB⟩)
      | (go_at_call_of 12 (Value.slice none 0 0); refine (bits_S (A := none) (l := []) _ rfl (.inl rfl) (by assumption) rfl (by decide) (v := 0) rfl).mono ?_; rintro e w' ⟨rfl, hB⟩)
      | (go_at_call 12; refine (bits_S _ (by rw [spreadL_len]; rfl) hr' (Below.refl _ _) (spreadL_right _) (by decide) v3).mono ?_; rintro e w'' ⟨rfl, hB2⟩; have hB := below_next hB hB2)
      | (go_at_call 16; refine (word_S _ rfl r4 (by assumption) (by unfold byteB; decide) (by decide) (v := 2615402659) (by rw [v4]; rfl)).mono ?_; rintro e w' ⟨rfl, hB⟩)
      | (go_at_call 18; refine (more_S _ 2615402659 rfl r5 (by assumption) (by unfold byteB; decide) (by decide) v5).mono ?_; rintro e w' ⟨rfl, hB⟩)
      | (go_at_call_of 14 (Value.slice none 0 0); refine (byte_S (A := none) (l := []) _ rfl (.inl rfl) (by assumption) (by unfold byteB; decide) (by decide) (v := 0) rfl).mono ?_; rintro e w' ⟨rfl, hB⟩))
  go_wp2_with fail
  go_ret
  exact ⟨rfl, below_then hB0 hB⟩

end Go.Proofs.Ytlggjljgeflboaa
