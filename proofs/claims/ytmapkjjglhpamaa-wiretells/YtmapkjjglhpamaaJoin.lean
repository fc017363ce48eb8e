/-
  bits.Join and the document's SameBytes.
-/
import Derived.Laws.BytesArg
import Derived.OwnWalk
import Derived.Maps.AppendAt
import Derived.Test.YtmapkjjglhpamaaRow
namespace Go.Proofs.Ytmapkjjglhpamaa
open Go.RowKit

theorem run_conv (w : World) (l : List Int) (A : Option Addr) (c B : Nat) (h : Row .u8 w B A l) : (convert 22 9 (.slice A l.length c)).run Try.prog w = .ok (.string (strOfNums l)) w := by
  rw [run_convert_bytes_string w 22 9 5 _ _ _ Try.underlying22 Try.underlying5 Try.underlying9]
  cases A with
  | none =>
    rcases h with rfl | ⟨ad, e, _⟩
    · simp [Conv.bytesToString, strOfNums]; rfl
    · cases e
  | some ad =>
    have hl : (loadCells ad l.length).run Try.prog w = .ok (l.map (Value.int .u8)).toArray w := by
      have := run_loadCells_list (P := Try.prog) w ad (l.map (Value.int .u8)) (fun j v hj => by
        rcases h with rfl | ⟨ad', e, _, hc⟩
        · simp at hj
        · cases e
          simp only [List.getElem?_map, Option.map_eq_some_iff] at hj
          obtain ⟨x, hx, rfl⟩ := hj
          exact hc j x hx)
      simpa using this
    rw [run_bytesToString w _ _ c l hl, foldl_push_bytes]
    simp [strOfNums, ByteArray.empty, ByteArray.emptyWithCapacity]
    rfl

theorem strOfNums_inj : ∀ {a b : List Int}, byteB a → byteB b → strOfNums a = strOfNums b → a = b := by
  intro a b ha hb h
  have h2 : (a.map fun n => UInt8.ofNat n.toNat) = (b.map fun n => UInt8.ofNat n.toNat) := by
    rw [← strOfNums_data, ← strOfNums_data, h]
  clear h
  induction a generalizing b with
  | nil => cases b with
    | nil => rfl
    | cons y b => simp at h2
  | cons x a ih => cases b with
    | nil => simp at h2
    | cons y b =>
      simp only [List.map_cons, List.cons.injEq] at h2
      have hx := ha x (by simp)
      have hy := hb y (by simp)
      have e : x = y := by
        have := congrArg UInt8.toNat h2.1
        simp only [UInt8.toNat_ofNat'] at this
        omega
      rw [e, ih (fun z hz => ha z (by simp [hz])) (fun z hz => hb z (by simp [hz])) h2.2]

set_option maxHeartbeats 400000 in
theorem sameBytes_any (a b : List Int) (A A' : Option Addr) (c c' B B' : Nat) (w : World) (h : Row .u8 w B A a) (h' : Row .u8 w B' A' b) (ha : byteB a) (hb : byteB b) :
    Calls Try.prog 49 #[.slice A a.length c, .slice A' b.length c'] w fun e w' => e = .returned (.bool (sameB a b)) ∧ w = w' := by
  have h1 := run_conv w a A c B h
  have h2 := run_conv w b A' c' B' h'
  have HA := Lib.hid ha
  have HB := Lib.hid hb
  clear ha hb
  go_enter Try.func49, Try.ntmps49
  go_wp2
  go_ret
  refine ⟨ret_bool ?_, rfl⟩
  rw [ByteArray.toList_eq, ByteArray.toList_eq, strOfNums_data, strOfNums_data, Bool.eq_iff_iff]
  simp only [beq_iff_eq, sameB, decide_eq_true_eq]
  constructor
  · intro e
    refine strOfNums_inj HA.out HB.out ?_
    simp only [strOfNums, e]
  · rintro rfl
    rfl

def joinOk (l : List Int) : Bool := decide (l.length % 8 = 0) && rightB l
def joinTo (l : List Int) (k : Nat) : List Int := (List.range k).map fun i => ((numOf ((l.drop (8 * i)).take 8) : Nat) : Int)
def joinL (l : List Int) : List Int := joinTo l (l.length / 8)

set_option maxRecDepth 100000 in
set_option maxHeartbeats 1000000 in
theorem join_yes (l : List Int) (A : Option Addr) (c : Nat) (w : World) (h : Row .i64 w w.heap.size A l) (hm : l.length * 8 ≤ 140737488355328) (hc : l.length ≤ c) (hg : joinOk l = true) :
    Calls Try.prog 74 #[.slice A l.length c] w fun e w' => e = .returned (.tuple #[.slice (some ⟨w.heap.size, 0, none⟩) (l.length / 8) (l.length / 8), .bool true]) ∧
      w'.ownsRow w.heap.size 5 1 (.slice (some ⟨w.heap.size, 0, none⟩) (l.length / 8) (l.length / 8)) (l.length / 8) ((joinL l).map (Value.int .u8)) ∧ Below w.heap.size w w' := by
  simp only [joinOk, Bool.and_eq_true, decide_eq_true_eq] at hg
  obtain ⟨h8, hr⟩ := hg
  obtain ⟨i0, hi, hz0, hz1, hz2⟩ := info_parts Try.infoByte
  have d1 : (((l.length : Int) % 8) != 0) = false := by simp; omega
  have HR := Lib.hid hr
  have H8 := Lib.hid h8
  have hml : l.length ≤ maxLen := by unfold maxLen; omega
  have hml' : l.length ≤ 9223372036854775807 := by omega
  clear h8
  go_enter Try.func74, Try.ntmps74
  go_wp2_with (first
    | (go_at_call 83; refine (right_any l A c _ _ h hml).mono ?_; rintro e w' ⟨rfl, rfl⟩)
    | (at_make; refine wpList_make_own _ rfl _ _ 22 rfl w.heap.size 5 i0 (.int .u8 0) 1 Try.underlying22 hi hz0 hz1 _ _ _ (l.length / 8) rfl rfl (by simp) (by rw [hz2]; omega) (by unfold maxLen; omega) (Nat.le_refl _) ?_; intro w0 hown0 hgrow0))
  have hz := hgrow0.size
  go_loopw [4, 5] (fun b i wr => ∃ k : Nat, k ≤ l.length / 8 ∧ i = .int .i64 ((8 * k : Nat) : Int) ∧ b = .slice (some ⟨w.heap.size, 0, none⟩) k (l.length / 8) ∧
      wr.ownsRow w.heap.size 5 1 (.slice (some ⟨w.heap.size, 0, none⟩) k (l.length / 8)) k ((joinTo l k).map (Value.int .u8)) ∧ Below w.heap.size w wr)
    (fun _ i _ => l.length - (intOf i).toNat)
  case atStart => exact ⟨0, Nat.zero_le _, rfl, rfl, hown0, (Below.refl _ _).grown hgrow0 (Nat.le_refl _) (fun k h => by cases h)⟩
  case round =>
    obtain ⟨k, hk, rfl, rfl, hown, hB⟩ := hrel
    have h8 := H8.out
    by_cases hlt : k < l.length / 8
    · have hlt' : 8 * k < l.length := by omega
      have hle' : 8 * k + 8 ≤ l.length := by omega
      obtain ⟨ad, x, rfl, _, _⟩ := h.get_ hlt'
      clear h8
      have hsub : Row .i64 wr w.heap.size (some (ad.add (8 * k))) ((l.drop (8 * k)).take 8) := by
        have := (h.below hB).sub_ (8 * k) (8 * k + 8) (by omega) hle' (A' := some (ad.add (8 * k))) (fun _ => rfl)
        rwa [show 8 * k + 8 - 8 * k = 8 by omega] at this
      have hln : ((l.drop (8 * k)).take 8).length = 8 := by simp; omega
      have hrs : rightB ((l.drop (8 * k)).take 8) = true := rightB_take (rightB_drop HR.out _) _
      have hlt8 : numOf ((l.drop (8 * k)).take 8) < 256 := by
        have := numOf_lt _ hrs
        rw [hln] at this
        omega
      have hsn : joinTo l (k + 1) = joinTo l k ++ [((numOf ((l.drop (8 * k)).take 8) : Nat) : Int)] := by simp [joinTo, List.range_succ]
      have Hln := Lib.hid hln
      have Hrs := Lib.hid hrs
      have Hsn := Lib.hid hsn
      clear hln hrs hsn
      generalize hnum : numOf ((l.drop (8 * k)).take 8) = N at *
      have Hnum := Lib.hid hnum
      clear hnum
      go_wp2_with (first
        | (go_at_call 84; refine (number_at _ 8 Hln.out _ _ _ _ hsub Hrs.out).mono ?_; rintro e w' ⟨rfl, rfl⟩; rw [Hnum.out])
        | (at_builtin; refine wpList_append_fits _ rfl _ _ 22 rfl w.heap.size 5 i0 1 Try.underlying22 hi hz1 w.heap.size k (l.length / 8) _ rfl (hown.alloc _) ⟨wr.heap.size, 0, none⟩ 1 1 [.int .u8 N] rfl rfl (cell_one_new _ _ _) (by simp [Value.oneCell']) (by omega) ?_; intro w1 hown' hgrow))
      have hB1 : Below w.heap.size w w1 := (hB.alloc hB.size _).grown hgrow (by have := hB.size; simp; omega) (fun k e => by cases e; exact Nat.le_refl _)
      exact ⟨⟨k + 1, by omega, by go_num, rfl, by rw [Hsn.out, List.map_append, ← Hnum.out]; rw [Hnum.out]; exact hown', hB1⟩, by simp [intOf]; omega⟩
    · obtain rfl : k = l.length / 8 := by omega
      have hge : ¬ 8 * (l.length / 8) < l.length := by omega
      clear h8
      go_wp2
      go_ret2
      exact ⟨rfl, hown, hB⟩

set_option maxHeartbeats 400000 in
theorem join_no (l : List Int) (A : Option Addr) (c B : Nat) (w : World) (h : Row .i64 w B A l) (hm : l.length ≤ maxLen) (hg : joinOk l = false) :
    Calls Try.prog 74 #[.slice A l.length c] w fun e w' => e = .returned (.tuple #[.slice none 0 0, .bool false]) ∧ w = w' := by
  by_cases hl : l.length % 8 = 0
  · have d1 : (((l.length : Int) % 8) != 0) = false := by simp; omega
    have hr : rightB l = false := by
      cases e : rightB l with
      | false => rfl
      | true => rw [joinOk, e, Bool.and_true] at hg; simp at hg; omega
    clear hg hl
    have hm' : l.length ≤ 9223372036854775807 := by unfold maxLen at hm; omega
    go_enter Try.func74, Try.ntmps74
    go_wp2_with (go_at_call 83; refine (right_any l A c B _ h hm).mono ?_; rintro e w' ⟨rfl, rfl⟩)
    go_ret2
    exact ⟨rfl, rfl⟩
  · have d1 : (((l.length : Int) % 8) != 0) = true := by simp; omega
    clear hg hl
    have hm' : l.length ≤ 9223372036854775807 := by unfold maxLen at hm; omega
    go_enter Try.func74, Try.ntmps74
    go_wp2
    go_ret2
    exact ⟨rfl, rfl⟩

theorem joinTo_len (l : List Int) (k : Nat) : (joinTo l k).length = k := by simp [joinTo]
theorem joinL_len (l : List Int) : (joinL l).length = l.length / 8 := joinTo_len _ _
theorem joinL_byte {l : List Int} (h : rightB l = true) : byteB (joinL l) := by
  intro x hx
  simp only [joinL, joinTo, List.mem_map, List.mem_range] at hx
  obtain ⟨i, hi, rfl⟩ := hx
  have h1 := numOf_lt _ (rightB_take (rightB_drop h (8 * i)) 8)
  have h2 : ((l.drop (8 * i)).take 8).length ≤ 8 := by simp; omega
  have h3 := Nat.pow_le_pow_right (n := 2) (by omega) h2
  omega

end Go.Proofs.Ytmapkjjglhpamaa
