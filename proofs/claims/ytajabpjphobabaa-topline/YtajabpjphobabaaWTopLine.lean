/-
  TopLine.
-/
import Derived.Test.YtajabpjphobabaaWTopLineA
import Derived.Test.YtajabpjphobabaaWTopLine0
import Derived.Test.YtajabpjphobabaaWTopLine1
namespace Go.Proofs.Ytajabpjphobabaa
open Go.RowKit
set_option linter.unusedVariables false
set_option linter.unusedSimpArgs false

theorem topLine_any (x : Bool) (i : Int) (r : Bool) (n : Int) (dl : List Int) (m : Nat) (hdl : dl.length = m) (A : Option Addr) (c : Nat) (x' : Bool) (i' : Int) (r' : Bool) (n' : Int) (dl' : List Int) (m' : Nat) (hdl' : dl'.length = m') (A' : Option Addr) (c' : Nat) (w : World)
    (hd : Row .u8 w w.heap.size A dl) (hb : byteB dl) (he : Row .u8 w w.heap.size A' dl') (hb' : byteB dl') :
    Calls Try.prog 4 #[.agg #[.bool x, .int .i64 i, .bool r, .int .i64 n, .slice A m c], .agg #[.bool x', .int .i64 i', .bool r', .int .i64 n', .slice A' m' c']] w fun e w' => e = .returned (.bool true) ∧ Below w.heap.size w w' := by
  by_cases hb1 : 8 < m
  · exact topLine_a x i r n dl m hdl A c x' i' r' n' dl' m' hdl' A' c' w hd hb he hb' hb1
  by_cases hb2 : 8 < m'
  · exact topLine_b x i r n dl m hdl A c x' i' r' n' dl' m' hdl' A' c' w hd hb he hb' hb1 hb2
  cases hq : rightV x i r n m
  · exact topLine_c x i r n dl m hdl A c x' i' r' n' dl' m' hdl' A' c' w hd hb he hb' hb1 hb2 hq
  cases hp : rightV x' i' r' n' m'
  · exact topLine_d x i r n dl m hdl A c x' i' r' n' dl' m' hdl' A' c' w hd hb he hb' hb1 hb2 hq hp
  by_cases hs : rankF (⟨x, i, r, n, A, m, c⟩ : FV) = rankF (⟨x', i', r', n', A', m', c'⟩ : FV)
  · exact topLine_e x i r n dl m hdl A c x' i' r' n' dl' m' hdl' A' c' w hd hb he hb' hb1 hb2 hq hp (by simp [sameB, hs])
  have hs2 : sameB (rankF (⟨x, i, r, n, A, m, c⟩ : FV)) (rankF (⟨x', i', r', n', A', m', c'⟩ : FV)) = false := by simp [sameB, hs]
  rcases (rank_cmp (right_fok (f := ⟨x, i, r, n, A, m, c⟩) hq) (right_fok (f := ⟨x', i', r', n', A', m', c'⟩) hp)).resolve_left hs with h | h
  · exact topLine_0 x i r n dl m hdl A c x' i' r' n' dl' m' hdl' A' c' w hd hb he hb' hb1 hb2 hq hp hs2 h
  · exact topLine_1 x i r n dl m hdl A c x' i' r' n' dl' m' hdl' A' c' w hd hb he hb' hb1 hb2 hq hp hs2 h


end Go.Proofs.Ytajabpjphobabaa
