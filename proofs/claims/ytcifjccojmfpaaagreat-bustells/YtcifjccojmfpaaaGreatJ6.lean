/-
  NeG · NdO · NgR · NbH · NgS · NeB · NeH · NdY · NbS · NgH · NbT.
-/
import Derived.Test.YtcifjccojmfpaaaGreatJ0
import Derived.Test.YtcifjccojmfpaaaGreatJ1
import Derived.Test.YtcifjccojmfpaaaGreatJ2
import Derived.Test.YtcifjccojmfpaaaGreatJ3
import Derived.Deep.CutRange
set_option maxRecDepth 100000
set_option maxHeartbeats 4000000
namespace Go.Proofs.YtcifjccojmfpaaaGreat
open Go.RowKit
set_option linter.unusedVariables false
theorem run_append_frG (w : World) (base : Nat) (ty : TypeId) (v : Value) (n : Nat) (fs : List FV) (hown : w.ownsRow base 34 5 v n (fcells fs))
    (A : Option Addr) (m c B : Nat) (fs' : List FV) (hm : fs'.length = m) (hr : FRow w B A fs') (h63 : n + m ≤ 1000) (hbase : base ≤ w.heap.size) :
    ∃ A' c' w', (Builtin.append_ #[44, 44] ty #[v, .slice A m c]).run Tryz.prog w = .ok (.slice A' (n + m) c') w' ∧ FOwn w' base A' (n + m) c' (fs ++ fs') ∧ n + m ≤ c' ∧ w.grownBy w' v.ownBlock ∧ Below base w w' := by
  obtain ⟨i, hi, hz, hsize, hby⟩ := info_parts Tryz.infoFr
  have hu := Tryz.underlying44
  have form : ∀ (v' : Value) (w' : World), w'.ownsRow base 34 5 v' (n + m) (fcells (fs ++ fs')) → ∃ A' c', v' = .slice A' (n + m) c' ∧ n + m ≤ c' := by
    intro v' w' h
    rcases h.2 with ⟨rfl, h0⟩ | ⟨g, cap, cur, rfl, _, _, hc, _⟩
    · exact ⟨none, 0, by rw [h0], by omega⟩
    · exact ⟨_, _, rfl, hc⟩
  have low : ∀ k, v.ownBlock = some k → base ≤ k := fun k e => (hown.lt k e).1
  cases A with
  | some ad =>
    obtain ⟨v', w', hrun, h2, h3, _, _⟩ := run_append_own_at (P := Tryz.prog) w base 44 ty 34 i _ 5 56 hu hi hz hsize hby rfl (by omega) v n _ hown ad m c (fcells fs') (by rw [fcells_len, hm]) hr.cells (fcells_one fs') (by unfold maxLen; omega) (by omega) hbase
    rw [← fcells_app] at h2
    obtain ⟨A', c', rfl, hc'⟩ := form v' w' h2
    exact ⟨A', c', w', hrun, h2, hc', h3, (Below.refl _ _).grown h3 hbase low⟩
  | none =>
    obtain rfl : fs' = [] := by
      rcases hr with rfl | ⟨ad, e', _⟩
      · rfl
      · cases e'
    obtain rfl : m = 0 := hm.symm
    have hrun : (Builtin.append_ #[44, 44] ty #[v, .slice none 0 c]).run Tryz.prog w = .ok v w := by
      rcases hown.2 with ⟨rfl, rfl⟩ | ⟨g, cap, cur, rfl, _, _, hnc, _⟩
      · simp [Builtin.append_, run_underlying hu, sizeOf, typeInfo, hi, Builtin.lenOf, Builtin.firstCells]
      · simp [Builtin.append_, run_underlying hu, sizeOf, typeInfo, hi, Builtin.lenOf, Builtin.firstCells, hnc, storeCells]
    have h2 : w.ownsRow base 34 5 v (n + 0) (fcells (fs ++ [])) := by simpa using hown
    obtain ⟨A', c', rfl, hc'⟩ := form v w h2
    exact ⟨A', c', w, hrun, h2, hc', ⟨rfl, rfl, rfl, Nat.le_refl _, fun _ _ _ => rfl⟩, Below.refl _ _⟩
theorem step_append_frG {w : World} {ops : Array Oper} {o : Oper} {a : Act} {K : Act → World → Prop} {Q : Exit → Act → World → Prop} {E : Prop} (hgd : o.guard = none) (s x : Operand)
    (ho : o.op = .call { callee := .builtin .append, args := #[s, x], argTypes := #[44, 44] })
    (base : Nat) (v : Value) (n : Nat) (fs : List FV) (hs : a.eval s = v) (hown : w.ownsRow base 34 5 v n (fcells fs))
    (A : Option Addr) (m c B : Nat) (fs' : List FV) (hx : a.eval x = .slice A m c) (hm : fs'.length = m) (hr : FRow w B A fs')
    (h63 : n + m ≤ 1000) (hbase : base ≤ w.heap.size) (d : Nat) (hd : o.dst = some d)
    (h : ∀ A' c' w', FOwn w' base A' (n + m) c' (fs ++ fs') → n + m ≤ c' → w.grownBy w' v.ownBlock → Below base w w' → K (a.put (some d) (.slice A' (n + m) c')) w') :
    if Region.wanted o (yielded ops a.tmps) = true then Oper.wp Tryz.prog o a w K Q else E := by
  obtain ⟨A', c', w', hrun, h2, hc', hg3, h3⟩ := run_append_frG w base o.type v n fs hown A m c B fs' hm hr h63 hbase
  have hw : Region.wanted o (yielded ops a.tmps) = true := by simp [Region.wanted, hgd]
  rw [if_pos hw]
  unfold Oper.wp execOp
  simp only [ho, resolve, invoke, builtin, Sem.run_bind, Sem.run_pure, Result.andThen_ok, List.map_toArray, List.map_cons, List.map_nil, hs, hx, hrun]
  rw [← hd] at h
  exact h A' c' w' h2 hc' hg3 h3
end Go.Proofs.YtcifjccojmfpaaaGreat

namespace Go.Proofs.YtcifjccojmfpaaaGreat
open Go.RowKit
set_option linter.unusedVariables false
set_option linter.unusedSimpArgs false
theorem out_cons {L : List Nat} {X s : Nat} (h : s ≤ X) : ∀ b, b < s → Out L b → Out (X :: L) b := fun b hb h1 Y hY => by
  rcases List.mem_cons.1 hY with rfl | h2
  · omega
  · exact h1 Y h2
end Go.Proofs.YtcifjccojmfpaaaGreat

namespace Go.Proofs.YtcifjccojmfpaaaGreat
open Go.RowKit
set_option linter.unusedVariables false
set_option linter.unusedSimpArgs false
section
variable {V : Type} {cs : V → List Value} {sz : Nat}
variable {t ts : TypeId}
theorem GOwn.grow {w w' : World} {base : Nat} {A : Option Addr} {n c X : Nat} {vs : List V} (h : GOwn cs sz t w base A n c vs) (g : w.grownBy w' (some X)) (hX : X < base) : GOwn cs sz t w' base A n c vs :=
  h.kept g (by
    cases e : (Value.slice A n c).ownBlock with
    | none => exact .inl rfl
    | some k => exact .inr (fun e' => by have := (h.lt _ e).1; have := Option.some.inj e'; omega))
theorem GOwn.mono {w : World} {base base' : Nat} {A : Option Addr} {n c : Nat} {vs : List V} (h : GOwn cs sz t w base A n c vs) (hb : base' ≤ base) : GOwn cs sz t w base' A n c vs := by
  refine ⟨h.1, ?_⟩
  rcases h.2 with hn | ⟨g, cap, cur, e, hg, rest⟩
  · exact .inl hn
  · exact .inr ⟨g, cap, cur, e, Nat.le_trans hb hg, rest⟩
end
section
variable {V C : Type} {R R' : V → C → Prop} {vs vs' : List V} {Cs Cs' : List C}
end
end Go.Proofs.YtcifjccojmfpaaaGreat

namespace Go.Proofs.YtcifjccojmfpaaaGreat
open Go.RowKit
set_option linter.unusedVariables false
set_option linter.unusedSimpArgs false
theorem ackTo_mono {Ns : List NC} {k n : Nat} (h : k ≤ n) (e : ackTo Ns k = true) : ackTo Ns n = true := by
  induction n with
  | zero => obtain rfl : k = 0 := by omega
            exact e
  | succ n ih =>
    by_cases hk : k = n + 1
    · subst hk; exact e
    · rw [ackTo, ih (by omega), Bool.true_or]
theorem hitTo_mono {Ns : List NC} {H : List Int} {k n : Nat} (h : k ≤ n) (e : hitTo Ns H k = true) : hitTo Ns H n = true := by
  induction n with
  | zero => obtain rfl : k = 0 := by omega
            exact e
  | succ n ih =>
    by_cases hk : k = n + 1
    · subst hk; exact e
    · rw [hitTo, ih (by omega), Bool.true_or]
theorem ack_c {w : World} {P : Nat → Prop} {A : Option Addr} {n c : Nat} {Ns : List NC} (h : NSl w P A n c Ns) (hok : OkNs Ns) (hm : n ≤ 100) (q : Bool) (hq : ackN Ns = q) :
    Calls Tryz.prog 50 #[.slice A n c] w fun e w' => e = .returned (.bool q) ∧ Below w.heap.size w w' := by
  have Hok := Lib.hid hok
  have Hl := Lib.hid h.len
  unfold ackN at hq
  rw [h.len] at hq
  have Hq := Lib.hid hq
  clear hok hq
  have hT0 : Below w.heap.size w w := Below.refl _ _
  go_enter Tryz.func50, Tryz.ntmps50
  go_wp2_with fail
  go_loopw [3] (fun i wr => ∃ (k : Nat), k ≤ n ∧ i = .int .i64 k ∧ Hid (ackTo Ns k = false) ∧ Below w.heap.size w wr) (fun i _ => n - (intOf i).toNat)
  case atStart => exact ⟨0, Nat.zero_le _, rfl, Lib.hid rfl, hT0⟩
  case round =>
    clear hT0
    obtain ⟨k, hk, rfl, Hno, hT50⟩ := hrel
    by_cases hlt : k < n
    · skip
      have j1 : (k : Int) < (n : Int) := by omega
      have Hst := Lib.hid (show ackTo Ns (k + 1) = ackAt Ns k by rw [ackTo, Hno.out, Bool.false_or])
      go_wp2_with fail
      obtain ⟨al, hal⟩ : ∃ q, alongN Ns k = q := ⟨_, rfl⟩
      have Hal := Lib.hid hal
      clear hal
      cases al
      rotate_left
      · skip
        refine (along_c (h.to hT50) Hok.out hm k hlt true Hal.out).mono ?_
        rintro e w51 ⟨rfl, hB51⟩
        have hT51 := below_then hT50 hB51
        clear hT50   hB51
        go_wp2_with fail
        go_round
        case measure => simp [intOf]; omega
        exact ⟨k + 1, by omega, by go_num, Lib.hid (by rw [Hst.out]; unfold ackAt; rw [Hal.out]; rfl), hT51⟩
      refine (along_c (h.to hT50) Hok.out hm k hlt false Hal.out).mono ?_
      rintro e w51 ⟨rfl, hB51⟩
      have hT51 := below_then hT50 hB51
      clear hT50   hB51
      obtain ⟨ad, m, ea_, hAt51, hV51⟩ := NSl.at_ (h.to hT51) hlt
      obtain ⟨N, hN_⟩ : ∃ N_, Ns.getD k zeroN = N_ := ⟨_, rfl⟩
      rw [hN_] at hV51
      have HN := Lib.hid hN_
      clear hN_
      subst ea_
      have hks : m.k.s = N.k.s := by rw [hV51.k]
      by_cases hs : m.k.s = 3
      · skip
        have d1 : (m.k.s != 3) = false := by simp [hs]
        have d2 : (m.k.s == 3) = true := by simp [hs]
        have Hs := Lib.hid (show N.k.s = 3 by rw [← hks]; exact hs)
        clear hs hks
        have ht_ := hAt51
        obtain ⟨t0, t1, t2, t3, t4, t5, t6⟩ := ht_
        go_wp2_with fail
        clear t0 t1 t2 t3 t4 t5 t6
        go_round
        case measure => simp [intOf]; omega
        exact ⟨k + 1, by omega, by go_num, Lib.hid (by rw [Hst.out]; unfold ackAt; rw [show nd Ns k = N from HN.out, Hs.out]; simp), hT51⟩
      have d1 : (m.k.s != 3) = true := by simp [bne, hs]
      have d2 : (m.k.s == 3) = false := by simpa using hs
      have Hs := Lib.hid (show N.k.s ≠ 3 by rw [← hks]; exact hs)
      clear hks
      obtain rfl : true = q := by
        rw [← Hq.out]
        exact (ackTo_mono (by omega : k + 1 ≤ n) (by rw [Hst.out]; unfold ackAt; rw [Hal.out, show nd Ns k = N from HN.out, decide_eq_true Hs.out]; rfl)).symm
      have ht_ := hAt51
      obtain ⟨t0, t1, t2, t3, t4, t5, t6⟩ := ht_
      go_wp2_with fail
      clear t0 t1 t2 t3 t4 t5 t6
      go_ret
      exact ⟨rfl, hT51⟩
    obtain rfl : k = n := by omega
    have j1 : ¬ (k : Int) < (k : Int) := by omega
    obtain rfl : false = q := by rw [← Hq.out, Hno.out]
    go_wp2_with fail
    go_ret
    exact ⟨rfl, hT50⟩
theorem hit_c {w : World} {P : Nat → Prop} {A : Option Addr} {n c : Nat} {Ns : List NC} {wa : Option Addr} {wn wc : Nat} {H : List Int} (h : NSl w P A n c Ns) (hok : OkNs Ns) (hm : n ≤ 100) (hH : Row .i64 w w.heap.size wa H) (hHl : H.length = wn) (hwm : wn ≤ 1000) (a : Nat) (hw : winN Ns = a) (q : Bool) (hq : hitN Ns H = q) :
    Calls Tryz.prog 49 #[.slice A n c, .agg #[.slice wa wn wc]] w fun e w' => e = .returned (.bool q) ∧ Below w.heap.size w w' := by
  have Hok := Lib.hid hok
  have Hl := Lib.hid h.len
  have HHl := Lib.hid hHl
  unfold hitN at hq
  rw [h.len] at hq
  have Hq := Lib.hid hq
  have ha : a < n := by have := winTo_lt Ns Ns.length; rw [show winTo Ns Ns.length = a from hw, h.len] at this; omega
  have Hw := Lib.hid hw
  obtain ⟨F, hF_⟩ : ∃ F, winF Ns = F := ⟨_, rfl⟩
  have HFw := Lib.hid hF_
  clear hok hq hw hHl hF_
  have j3 : ¬ (a : Int) < 0 := by omega
  have j4 : (a : Int) < (n : Int) := by omega
  obtain ⟨w0, hw0⟩ : ∃ w0, (w.alloc (.cells #[.slice wa wn wc] 41)) = w0 := ⟨_, rfl⟩
  have hT0 : Below w.heap.size w w0 := by rw [← hw0]; exact below_alloc1 _ _
  have hh0 : w0.heap[w.heap.size]? = some (.cells #[.slice wa wn wc] 41) := by rw [← hw0]; exact World.alloc_heap_new _ _
  have hs0 : w0.heap.size = w.heap.size + 1 := by rw [← hw0]; simp
  have Hs0 := Lib.hid hs0
  clear hs0
  have hlh := (Array.getElem?_eq_some_iff.1 hh0).1
  have hc0 := cells1' hh0
  go_enter Tryz.func49, Tryz.ntmps49
  go_wp2_with fail
  clear hlh hc0
  clear hw0
  have hZ0 := Below.refl w0.heap.size w0
  refine (winner_c (h.to hT0) Hok.out hm a Hw.out).mono ?_
  rintro e w1 ⟨rfl, hB1⟩
  have hT1 := below_then hT0 hB1
  have hZ1 := below_then hZ0 hB1
  clear hZ0
  have hh1 := block_below hB1 hh0
  clear hT0 hh0  hB1
  obtain ⟨ad, m, ea_, hAt1, hV1⟩ := NSl.at_ (h.to hT1) ha
  obtain ⟨N, hN_⟩ : ∃ N_, Ns.getD a zeroN = N_ := ⟨_, rfl⟩
  rw [hN_] at hV1
  have HN := Lib.hid hN_
  clear hN_
  have HokN := Lib.hid (show OkN N by rw [← HN.out]; exact Hok.out.at_ (by rw [Hl.out]; exact ha))
  subst ea_
  have HFn := Lib.hid (show nextF N = F by rw [← HFw.out, ← HN.out]; unfold winF; rw [Hw.out, Int.toNat_natCast])
  have ht_ := hAt1
  obtain ⟨t0, t1, t2, t3, t4, t5, t6⟩ := ht_
  have hlh := (Array.getElem?_eq_some_iff.1 hh1).1
  have hc0 := cells1' hh1
  go_wp2_with fail
  clear t0 t1 t2 t3 t4 t5 t6 hlh hc0
  obtain ⟨b0, hb0⟩ : ∃ q, hasN N = q := ⟨_, rfl⟩
  have Hb0 := Lib.hid hb0
  clear hb0
  refine (refNext_c hV1 HokN.out b0 Hb0.out F HFn.out).mono ?_
  rintro e w2 ⟨f, rfl, hF_, hB2⟩
  have hT2 := below_then hT1 hB2
  have hZ2 := below_then hZ1 hB2
  clear hZ1
  have hh2 := block_below hB2 hh1
  have hV2 := NIs.to hV1 hB2
  have hAt2 := nat_to hAt1 hB2
  clear hT1 hh1 hV1 hAt1 hB2
  have hF2 := hF_
  clear hF_
  clear hAt2
  clear hV2
  have hlh := (Array.getElem?_eq_some_iff.1 hh2).1
  have hc0 := cells1' hh2
  go_wp2_with fail
  clear hlh hc0
  obtain ⟨w3, hw3⟩ : ∃ w3, w2.alloc (.cells #[.bool f.x, .int .i64 f.i, .bool f.r, .int .i64 f.n, .slice f.a f.m f.c] 34) = w3 := ⟨_, rfl⟩
  have hB3 : Below w2.heap.size w2 w3 := by rw [← hw3]; exact below_alloc1 _ _
  have hf3 : w3.heap[w2.heap.size]? = some (.cells #[.bool f.x, .int .i64 f.i, .bool f.r, .int .i64 f.n, .slice f.a f.m f.c] 34) := by rw [← hw3]; exact World.alloc_heap_new _ _
  rw [hw3]
  clear hw3
  have hT3 := below_then hT2 hB3
  have hZ3 := below_then hZ2 hB3
  clear hZ2
  have hh3 := block_below hB3 hh2
  have hF3 := FIs.to hF2 hB3
  clear hT2 hh2 hF2 hB3
  go_loopw [8] (fun i wr => ∃ (k : Nat), k ≤ n ∧ i = .int .i64 k ∧ Hid (hitTo Ns H k = false) ∧ wr.heap[w.heap.size]? = some (.cells #[.slice wa wn wc] 41) ∧ wr.heap[w2.heap.size]? = some (.cells #[.bool f.x, .int .i64 f.i, .bool f.r, .int .i64 f.n, .slice f.a f.m f.c] 34) ∧ FIs wr P f F ∧ Below w.heap.size w wr) (fun i _ => n - (intOf i).toNat)
  case atStart => exact ⟨0, Nat.zero_le _, rfl, Lib.hid rfl, hh3, hf3, hF3, hT3⟩
  case round =>
    clear hh3 hf3 hF3 hT3 hZ3
    obtain ⟨k, hk, rfl, Hno, hh50, hf50, hF50, hT50⟩ := hrel
    by_cases hlt : k < n
    · skip
      have j1 : (k : Int) < (n : Int) := by omega
      have Hst := Lib.hid (show hitTo Ns H (k + 1) = hitAt Ns H k by rw [hitTo, Hno.out, Bool.false_or])
      have Hmn := Lib.hid (show hitAt Ns H k = true → true = q by intro e; rw [← Hq.out]; exact (hitTo_mono (by omega : k + 1 ≤ n) (Hst.out.trans e)).symm)
      obtain ⟨ad2, m2, ea_, hAt50, hV50⟩ := NSl.at_ (h.to hT50) hlt
      obtain ⟨N2, hN_⟩ : ∃ N_, Ns.getD k zeroN = N_ := ⟨_, rfl⟩
      rw [hN_] at hV50
      have HN2 := Lib.hid hN_
      clear hN_
      obtain rfl := Option.some.inj ea_
      clear ea_
      have HokN2 := Lib.hid (show OkN N2 by rw [← HN2.out]; exact Hok.out.at_ (by rw [Hl.out]; exact hlt))
      obtain ⟨b, hb⟩ : ∃ q, hasN N2 = q := ⟨_, rfl⟩
      have Hb := Lib.hid hb
      clear hb
      obtain ⟨G, hG⟩ : ∃ q, nextF N2 = q := ⟨_, rfl⟩
      have HG := Lib.hid hG
      clear hG
      have ht_ := hAt50
      obtain ⟨t0, t1, t2, t3, t4, t5, t6⟩ := ht_
      go_wp2_with fail
      clear t0 t1 t2 t3 t4 t5 t6
      refine (refNext_c hV50 HokN2.out b Hb.out G HG.out).mono ?_
      rintro e w51 ⟨g, rfl, hG_, hB51⟩
      have hT51 := below_then hT50 hB51
      have hh51 := block_below hB51 hh50
      have hf51 := block_below hB51 hf50
      have hF51 := FIs.to hF50 hB51
      have hV51 := NIs.to hV50 hB51
      have hAt51 := nat_to hAt50 hB51
      clear hT50 hh50 hf50 hF50 hV50 hAt50 hB51
      have hG51 := hG_
      clear hG_
      go_wp2_with fail
      obtain ⟨w52, hw52⟩ : ∃ w52, w51.alloc (.cells #[.bool g.x, .int .i64 g.i, .bool g.r, .int .i64 g.n, .slice g.a g.m g.c] 34) = w52 := ⟨_, rfl⟩
      have hB52 : Below w51.heap.size w51 w52 := by rw [← hw52]; exact below_alloc1 _ _
      have hgb52 : w52.heap[w51.heap.size]? = some (.cells #[.bool g.x, .int .i64 g.i, .bool g.r, .int .i64 g.n, .slice g.a g.m g.c] 34) := by rw [← hw52]; exact World.alloc_heap_new _ _
      rw [hw52]
      clear hw52
      have hT52 := below_then hT51 hB52
      have hh52 := block_below hB52 hh51
      have hf52 := block_below hB52 hf51
      have hF52 := FIs.to hF51 hB52
      have hV52 := NIs.to hV51 hB52
      have hAt52 := nat_to hAt51 hB52
      have hG52 := FIs.to hG51 hB52
      clear hT51 hh51 hf51 hF51 hV51 hAt51 hG51 hB52
      obtain ⟨al, hal⟩ : ∃ q, alongN Ns k = q := ⟨_, rfl⟩
      have Hal := Lib.hid hal
      clear hal
      obtain ⟨ih, hih⟩ : ∃ q, inH H k = q := ⟨_, rfl⟩
      have Hih := Lib.hid hih
      clear hih
      obtain ⟨sm, hsm⟩ : ∃ q, sameF G F = q := ⟨_, rfl⟩
      have Hsm := Lib.hid hsm
      clear hsm
      have Hin := Lib.hid (show decide ((k : Int) ∈ H) = ih from Hih.out)
      have hks : m2.k.s = N2.k.s := by rw [hV52.k]
      cases al
      · skip
        refine (along_c (h.to hT52) Hok.out hm k hlt false Hal.out).mono ?_
        rintro e w53 ⟨rfl, hB53⟩
        have hT53 := below_then hT52 hB53
        have hh53 := block_below hB53 hh52
        have hf53 := block_below hB53 hf52
        have hgb53 := block_below hB53 hgb52
        have hF53 := FIs.to hF52 hB53
        have hV53 := NIs.to hV52 hB53
        have hAt53 := nat_to hAt52 hB53
        have hG53 := FIs.to hG52 hB53
        clear hT52 hh52 hf52 hgb52 hF52 hV52 hAt52 hG52 hB53
        have hlh := (Array.getElem?_eq_some_iff.1 hh53).1
        have hc0 := cells1' hh53
        have hlf := (Array.getElem?_eq_some_iff.1 hf53).1
        obtain ⟨fc0, fc1, fc2, fc3, fc4⟩ := cells5' hf53
        have hlgb := (Array.getElem?_eq_some_iff.1 hgb53).1
        obtain ⟨gbc0, gbc1, gbc2, gbc3, gbc4⟩ := cells5' hgb53
        go_wp2_with fail
        clear hlh hc0 hlf fc0 fc1 fc2 fc3 fc4 hlgb gbc0 gbc1 gbc2 gbc3 gbc4
        refine (along_c (h.to hT53) Hok.out hm k hlt false Hal.out).mono ?_
        rintro e w54 ⟨rfl, hB54⟩
        have hT54 := below_then hT53 hB54
        have hh54 := block_below hB54 hh53
        have hf54 := block_below hB54 hf53
        have hgb54 := block_below hB54 hgb53
        have hF54 := FIs.to hF53 hB54
        have hV54 := NIs.to hV53 hB54
        have hAt54 := nat_to hAt53 hB54
        have hG54 := FIs.to hG53 hB54
        clear hT53 hh53 hf53 hgb53 hF53 hV53 hAt53 hG53 hB54
        have hlh := (Array.getElem?_eq_some_iff.1 hh54).1
        have hc0 := cells1' hh54
        have hlf := (Array.getElem?_eq_some_iff.1 hf54).1
        obtain ⟨fc0, fc1, fc2, fc3, fc4⟩ := cells5' hf54
        have hlgb := (Array.getElem?_eq_some_iff.1 hgb54).1
        obtain ⟨gbc0, gbc1, gbc2, gbc3, gbc4⟩ := cells5' hgb54
        go_wp2_with fail
        clear hlh hc0 hlf fc0 fc1 fc2 fc3 fc4 hlgb gbc0 gbc1 gbc2 gbc3 gbc4
        cases ih
        · skip
          refine (in10_c (hH.to hT54) HHl.out hwm k false Hin.out).mono ?_
          rintro e w55 ⟨rfl, hB55⟩
          have hT55 := below_then hT54 hB55
          have hh55 := block_below hB55 hh54
          have hf55 := block_below hB55 hf54
          have hgb55 := block_below hB55 hgb54
          have hF55 := FIs.to hF54 hB55
          have hV55 := NIs.to hV54 hB55
          have hAt55 := nat_to hAt54 hB55
          have hG55 := FIs.to hG54 hB55
          clear hT54 hh54 hf54 hgb54 hF54 hV54 hAt54 hG54 hB55
          have hlh := (Array.getElem?_eq_some_iff.1 hh55).1
          have hc0 := cells1' hh55
          have hlf := (Array.getElem?_eq_some_iff.1 hf55).1
          obtain ⟨fc0, fc1, fc2, fc3, fc4⟩ := cells5' hf55
          have hlgb := (Array.getElem?_eq_some_iff.1 hgb55).1
          obtain ⟨gbc0, gbc1, gbc2, gbc3, gbc4⟩ := cells5' hgb55
          go_wp2_with fail
          clear hlh hc0 hlf fc0 fc1 fc2 fc3 fc4 hlgb gbc0 gbc1 gbc2 gbc3 gbc4
          go_round
          case measure => simp [intOf]; omega
          exact ⟨k + 1, by omega, by go_num, Lib.hid (by rw [Hst.out]; unfold hitAt; rw [Hal.out, Hih.out]; rfl), hh55, hf55, hF55, hT55⟩
        refine (in10_c (hH.to hT54) HHl.out hwm k true Hin.out).mono ?_
        rintro e w55 ⟨rfl, hB55⟩
        have hT55 := below_then hT54 hB55
        have hh55 := block_below hB55 hh54
        have hf55 := block_below hB55 hf54
        have hgb55 := block_below hB55 hgb54
        have hF55 := FIs.to hF54 hB55
        have hV55 := NIs.to hV54 hB55
        have hAt55 := nat_to hAt54 hB55
        have hG55 := FIs.to hG54 hB55
        clear hT54 hh54 hf54 hgb54 hF54 hV54 hAt54 hG54 hB55
        by_cases hs : m2.k.s = 1
        · skip
          have d1 : (m2.k.s == 1) = true := by simp [hs]
          have Hs := Lib.hid (show N2.k.s = 1 by rw [← hks]; exact hs)
          clear hs hks
          obtain rfl : true = q := Hmn.out (by unfold hitAt; rw [Hal.out, Hih.out, show nd Ns k = N2 from HN2.out, Hs.out]; rfl)
          have ht_ := hAt55
          obtain ⟨t0, t1, t2, t3, t4, t5, t6⟩ := ht_
          have hlh := (Array.getElem?_eq_some_iff.1 hh55).1
          have hc0 := cells1' hh55
          have hlf := (Array.getElem?_eq_some_iff.1 hf55).1
          obtain ⟨fc0, fc1, fc2, fc3, fc4⟩ := cells5' hf55
          have hlgb := (Array.getElem?_eq_some_iff.1 hgb55).1
          obtain ⟨gbc0, gbc1, gbc2, gbc3, gbc4⟩ := cells5' hgb55
          go_wp2_with fail
          clear t0 t1 t2 t3 t4 t5 t6 hlh hc0 hlf fc0 fc1 fc2 fc3 fc4 hlgb gbc0 gbc1 gbc2 gbc3 gbc4
          go_ret
          exact ⟨rfl, hT55⟩
        have d1 : (m2.k.s == 1) = false := by simpa using hs
        have Hs := Lib.hid (show N2.k.s ≠ 1 by rw [← hks]; exact hs)
        clear hks
        have ht_ := hAt55
        obtain ⟨t0, t1, t2, t3, t4, t5, t6⟩ := ht_
        have hlh := (Array.getElem?_eq_some_iff.1 hh55).1
        have hc0 := cells1' hh55
        have hlf := (Array.getElem?_eq_some_iff.1 hf55).1
        obtain ⟨fc0, fc1, fc2, fc3, fc4⟩ := cells5' hf55
        have hlgb := (Array.getElem?_eq_some_iff.1 hgb55).1
        obtain ⟨gbc0, gbc1, gbc2, gbc3, gbc4⟩ := cells5' hgb55
        go_wp2_with fail
        clear t0 t1 t2 t3 t4 t5 t6 hlh hc0 hlf fc0 fc1 fc2 fc3 fc4 hlgb gbc0 gbc1 gbc2 gbc3 gbc4
        go_round
        case measure => simp [intOf]; omega
        exact ⟨k + 1, by omega, by go_num, Lib.hid (by rw [Hst.out]; unfold hitAt; rw [Hal.out, Hih.out, show nd Ns k = N2 from HN2.out, decide_eq_false Hs.out]; rfl), hh55, hf55, hF55, hT55⟩
      refine (along_c (h.to hT52) Hok.out hm k hlt true Hal.out).mono ?_
      rintro e w53 ⟨rfl, hB53⟩
      have hT53 := below_then hT52 hB53
      have hh53 := block_below hB53 hh52
      have hf53 := block_below hB53 hf52
      have hgb53 := block_below hB53 hgb52
      have hF53 := FIs.to hF52 hB53
      have hV53 := NIs.to hV52 hB53
      have hAt53 := nat_to hAt52 hB53
      have hG53 := FIs.to hG52 hB53
      clear hT52 hh52 hf52 hgb52 hF52 hV52 hAt52 hG52 hB53
      have hlh := (Array.getElem?_eq_some_iff.1 hh53).1
      have hc0 := cells1' hh53
      have hlf := (Array.getElem?_eq_some_iff.1 hf53).1
      obtain ⟨fc0, fc1, fc2, fc3, fc4⟩ := cells5' hf53
      have hlgb := (Array.getElem?_eq_some_iff.1 hgb53).1
      obtain ⟨gbc0, gbc1, gbc2, gbc3, gbc4⟩ := cells5' hgb53
      go_wp2_with fail
      clear hlh hc0 hlf fc0 fc1 fc2 fc3 fc4 hlgb gbc0 gbc1 gbc2 gbc3 gbc4
      cases sm
      · skip
        refine (refFrSame_c hG53 hF53 false Hsm.out).mono ?_
        rintro e w54 ⟨rfl, hB54⟩
        have hT54 := below_then hT53 hB54
        have hh54 := block_below hB54 hh53
        have hf54 := block_below hB54 hf53
        have hgb54 := block_below hB54 hgb53
        have hF54 := FIs.to hF53 hB54
        have hV54 := NIs.to hV53 hB54
        have hAt54 := nat_to hAt53 hB54
        have hG54 := FIs.to hG53 hB54
        clear hT53 hh53 hf53 hgb53 hF53 hV53 hAt53 hG53 hB54
        obtain rfl : true = q := Hmn.out (by unfold hitAt; rw [Hal.out, show nd Ns k = N2 from HN2.out, HG.out, HFw.out, Hsm.out, Hih.out]; rfl)
        have hlh := (Array.getElem?_eq_some_iff.1 hh54).1
        have hc0 := cells1' hh54
        have hlf := (Array.getElem?_eq_some_iff.1 hf54).1
        obtain ⟨fc0, fc1, fc2, fc3, fc4⟩ := cells5' hf54
        have hlgb := (Array.getElem?_eq_some_iff.1 hgb54).1
        obtain ⟨gbc0, gbc1, gbc2, gbc3, gbc4⟩ := cells5' hgb54
        go_wp2_with fail
        clear hlh hc0 hlf fc0 fc1 fc2 fc3 fc4 hlgb gbc0 gbc1 gbc2 gbc3 gbc4
        go_ret
        exact ⟨rfl, hT54⟩
      refine (refFrSame_c hG53 hF53 true Hsm.out).mono ?_
      rintro e w54 ⟨rfl, hB54⟩
      have hT54 := below_then hT53 hB54
      have hh54 := block_below hB54 hh53
      have hf54 := block_below hB54 hf53
      have hgb54 := block_below hB54 hgb53
      have hF54 := FIs.to hF53 hB54
      have hV54 := NIs.to hV53 hB54
      have hAt54 := nat_to hAt53 hB54
      have hG54 := FIs.to hG53 hB54
      clear hT53 hh53 hf53 hgb53 hF53 hV53 hAt53 hG53 hB54
      have hlh := (Array.getElem?_eq_some_iff.1 hh54).1
      have hc0 := cells1' hh54
      have hlf := (Array.getElem?_eq_some_iff.1 hf54).1
      obtain ⟨fc0, fc1, fc2, fc3, fc4⟩ := cells5' hf54
      have hlgb := (Array.getElem?_eq_some_iff.1 hgb54).1
      obtain ⟨gbc0, gbc1, gbc2, gbc3, gbc4⟩ := cells5' hgb54
      go_wp2_with fail
      clear hlh hc0 hlf fc0 fc1 fc2 fc3 fc4 hlgb gbc0 gbc1 gbc2 gbc3 gbc4
      cases ih
      rotate_left
      · skip
        refine (in10_c (hH.to hT54) HHl.out hwm k true Hin.out).mono ?_
        rintro e w55 ⟨rfl, hB55⟩
        have hT55 := below_then hT54 hB55
        have hh55 := block_below hB55 hh54
        have hf55 := block_below hB55 hf54
        have hgb55 := block_below hB55 hgb54
        have hF55 := FIs.to hF54 hB55
        have hV55 := NIs.to hV54 hB55
        have hAt55 := nat_to hAt54 hB55
        have hG55 := FIs.to hG54 hB55
        clear hT54 hh54 hf54 hgb54 hF54 hV54 hAt54 hG54 hB55
        obtain rfl : true = q := Hmn.out (by unfold hitAt; rw [Hal.out, show nd Ns k = N2 from HN2.out, HG.out, HFw.out, Hsm.out, Hih.out]; rfl)
        have hlh := (Array.getElem?_eq_some_iff.1 hh55).1
        have hc0 := cells1' hh55
        have hlf := (Array.getElem?_eq_some_iff.1 hf55).1
        obtain ⟨fc0, fc1, fc2, fc3, fc4⟩ := cells5' hf55
        have hlgb := (Array.getElem?_eq_some_iff.1 hgb55).1
        obtain ⟨gbc0, gbc1, gbc2, gbc3, gbc4⟩ := cells5' hgb55
        go_wp2_with fail
        clear hlh hc0 hlf fc0 fc1 fc2 fc3 fc4 hlgb gbc0 gbc1 gbc2 gbc3 gbc4
        go_ret
        exact ⟨rfl, hT55⟩
      refine (in10_c (hH.to hT54) HHl.out hwm k false Hin.out).mono ?_
      rintro e w55 ⟨rfl, hB55⟩
      have hT55 := below_then hT54 hB55
      have hh55 := block_below hB55 hh54
      have hf55 := block_below hB55 hf54
      have hgb55 := block_below hB55 hgb54
      have hF55 := FIs.to hF54 hB55
      have hV55 := NIs.to hV54 hB55
      have hAt55 := nat_to hAt54 hB55
      have hG55 := FIs.to hG54 hB55
      clear hT54 hh54 hf54 hgb54 hF54 hV54 hAt54 hG54 hB55
      have hlh := (Array.getElem?_eq_some_iff.1 hh55).1
      have hc0 := cells1' hh55
      have hlf := (Array.getElem?_eq_some_iff.1 hf55).1
      obtain ⟨fc0, fc1, fc2, fc3, fc4⟩ := cells5' hf55
      have hlgb := (Array.getElem?_eq_some_iff.1 hgb55).1
      obtain ⟨gbc0, gbc1, gbc2, gbc3, gbc4⟩ := cells5' hgb55
      go_wp2_with fail
      clear hlh hc0 hlf fc0 fc1 fc2 fc3 fc4 hlgb gbc0 gbc1 gbc2 gbc3 gbc4
      refine (along_c (h.to hT55) Hok.out hm k hlt true Hal.out).mono ?_
      rintro e w56 ⟨rfl, hB56⟩
      have hT56 := below_then hT55 hB56
      have hh56 := block_below hB56 hh55
      have hf56 := block_below hB56 hf55
      have hgb56 := block_below hB56 hgb55
      have hF56 := FIs.to hF55 hB56
      have hV56 := NIs.to hV55 hB56
      have hAt56 := nat_to hAt55 hB56
      have hG56 := FIs.to hG55 hB56
      clear hT55 hh55 hf55 hgb55 hF55 hV55 hAt55 hG55 hB56
      have hlh := (Array.getElem?_eq_some_iff.1 hh56).1
      have hc0 := cells1' hh56
      have hlf := (Array.getElem?_eq_some_iff.1 hf56).1
      obtain ⟨fc0, fc1, fc2, fc3, fc4⟩ := cells5' hf56
      have hlgb := (Array.getElem?_eq_some_iff.1 hgb56).1
      obtain ⟨gbc0, gbc1, gbc2, gbc3, gbc4⟩ := cells5' hgb56
      go_wp2_with fail
      clear hlh hc0 hlf fc0 fc1 fc2 fc3 fc4 hlgb gbc0 gbc1 gbc2 gbc3 gbc4
      go_round
      case measure => simp [intOf]; omega
      exact ⟨k + 1, by omega, by go_num, Lib.hid (by rw [Hst.out]; unfold hitAt; rw [Hal.out, show nd Ns k = N2 from HN2.out, HG.out, HFw.out, Hsm.out, Hih.out]; rfl), hh56, hf56, hF56, hT56⟩
    obtain rfl : k = n := by omega
    have j1 : ¬ (k : Int) < (k : Int) := by omega
    obtain rfl : false = q := by rw [← Hq.out, Hno.out]
    have hlh := (Array.getElem?_eq_some_iff.1 hh50).1
    have hc0 := cells1' hh50
    have hlf := (Array.getElem?_eq_some_iff.1 hf50).1
    obtain ⟨fc0, fc1, fc2, fc3, fc4⟩ := cells5' hf50
    go_wp2_with fail
    clear hlh hc0 hlf fc0 fc1 fc2 fc3 fc4
    go_ret
    exact ⟨rfl, hT50⟩
end Go.Proofs.YtcifjccojmfpaaaGreat

namespace Go.Proofs.YtcifjccojmfpaaaGreat
open Go Go.RowKit
set_option linter.unusedVariables false
theorem wpTill_skip {P : Program} {md : Region.Mode} {ops : Array Oper} {Q : Exit → Act → World → Prop} {S : World → Prop} {z i : Nat} {o : Oper} {left : Nat} {listed : Array Bool} {a : Act} {w : World} (d : Nat) (hi : ops[i]? = some o) (hd : o.dst = some d) (hr : Region.ready md ops listed = [i])
    (hw : Region.wanted o (yielded ops a.tmps) = false) (hS : S w) (h : wpTill P md ops Q S z left (listed.setIfInBounds i true) (a.put (some d) undef) w) : wpTill P md ops Q S z (left + 1) listed a w := by
  refine ⟨fun h0 => absurd (hr.symm.trans h0) (by simp), ?_⟩
  rw [hr]
  intro j hj
  obtain rfl := List.mem_singleton.1 hj
  exact YieldsIf.wpOp hi (Or.inr ⟨hw, rfl⟩) hS ⟨fun _ => hS, by rw [hd]; exact h⟩
theorem plo_off {s t X base n c : Nat} {P : Nat → Prop} {w : World} {A : Option Addr} {V : Type} {cs : V → List Value} {sz : Nat} {ty : TypeId} {vs : List V} (h : GOwn cs sz ty w base A n c vs) (hX : X < base) (hs : s ≤ X) : ∀ b, b < t → PLo P s b → Off P (X :: ownL A) b := by
  intro b _ hb
  refine ⟨hb.1, fun Y hY => ?_⟩
  have hbs := hb.2
  rcases List.mem_cons.1 hY with rfl | hY
  · omega
  · have := gown_ge h Y hY; omega
theorem off_cons {P : Nat → Prop} {L : List Nat} {X s : Nat} (h : s ≤ X) : ∀ b, b < s → Off P L b → Off P (X :: L) b := fun b hb hp => ⟨hp.1, out_cons h b hb hp.2⟩
theorem off_drop {P : Nat → Prop} {X : Nat} {L : List Nat} {s : Nat} : ∀ b, b < s → Off P (X :: L) b → Off P L b := fun b _ h => ⟨h.1, fun Y hY => h.2 Y (List.mem_cons_of_mem _ hY)⟩
theorem nsl_off {w w' : World} {P : Nat → Prop} {L : List Nat} {A A' B : Option Addr} {n c k d : Nat} {Ns : List NC} (h : NSl w (Off P (L ++ ownL A)) B k d Ns) (g : w.grownBy w' (Value.slice A n c).ownBlock) (e : ownL A' = ownL A ∨ ownL A' = [w.heap.size]) : NSl w' (Off P (L ++ ownL A')) B k d Ns :=
  beside_off (Rp := fun w P => NSl w P B k d Ns) (fun _ _ _ h hq => h.mono hq) (fun _ _ _ h b => h.to b) (fun _ _ _ _ h g hX => h.grow g hX) h g e
end Go.Proofs.YtcifjccojmfpaaaGreat

namespace Go.Proofs.YtcifjccojmfpaaaGreat
open Go.RowKit
set_option linter.unusedVariables false
set_option linter.unusedSimpArgs false
theorem ups9 {a b w : World} {o : Obj} (h : Below (w.heap.size + 1) a b) : Below (w.alloc o).heap.size a b := by simpa using h
end Go.Proofs.YtcifjccojmfpaaaGreat

namespace Go.Proofs.YtcifjccojmfpaaaGreat
open Go.RowKit
set_option linter.unusedVariables false
set_option linter.unusedSimpArgs false
theorem refHeard_c {w : World} {P : Nat → Prop} {n : NV} {N : NC} {f : FV} {F : FC} (h : NIs w P n N) (hf : FIs w P f F) (hok : OkN N) (hP : ∀ b, w.heap.size ≤ b → P b) (ok long : Bool) (M : NC) (hM : heardN N F ok long = M) :
    Calls Tryz.prog 51 #[n.v, f.v, .bool ok, .bool long] w fun e w' => ∃ n' : NV, e = .returned n'.v ∧ NIs w' P n' M ∧ Below w.heap.size w w' := by
  have hm := gm_le h hok
  have hlm := lm_le h hok
  have hkk := okC_of_nis h hok
  have Hok := Lib.hid hok
  unfold heardN at hM
  clear hok
  by_cases hs : n.k.s = 3
  · skip
    rw [if_pos (by rw [← h.k]; exact hs)] at hM
    obtain rfl : N = M := hM
    have hs3 : (n.k.s == 3) = true := by simpa using hs
    clear hs
    obtain ⟨w0, hw0⟩ : ∃ w0, (((w.alloc (.cells #[.slice n.qa n.qm n.qc, .slice n.la n.lm n.lc, .int .i64 n.k.t, .int .i64 n.k.r, .int .i64 n.k.s, .int .i64 n.k.q, .slice n.ga n.gm n.gc] 49)).alloc (.cells #[.bool f.x, .int .i64 f.i, .bool f.r, .int .i64 f.n, .slice f.a f.m f.c] 34)).alloc (.cells #[.slice none 0 0, .slice none 0 0, .int .i64 0, .int .i64 0, .int .i64 0, .int .i64 0, .slice none 0 0] 49)) = w0 := ⟨_, rfl⟩
    have hT0 : Below w.heap.size w w0 := by rw [← hw0]; exact below_then (below_then (below_alloc1 _ _) (below_alloc1 _ _)) (below_alloc1 _ _)
    have hn0 : w0.heap[w.heap.size]? = some (.cells #[.slice n.qa n.qm n.qc, .slice n.la n.lm n.lc, .int .i64 n.k.t, .int .i64 n.k.r, .int .i64 n.k.s, .int .i64 n.k.q, .slice n.ga n.gm n.gc] 49) := by rw [← hw0]; exact block_below (below_alloc1 _ _) (block_below (below_alloc1 _ _) (World.alloc_heap_new _ _))
    have hf0 : w0.heap[(w.heap.size + 1)]? = some (.cells #[.bool f.x, .int .i64 f.i, .bool f.r, .int .i64 f.n, .slice f.a f.m f.c] 34) := by rw [← hw0]; exact block_below (below_alloc1 _ _) (alloc_at _ _ (by simp))
    have hr0 : w0.heap[(w.heap.size + 2)]? = some (.cells #[.slice none 0 0, .slice none 0 0, .int .i64 0, .int .i64 0, .int .i64 0, .int .i64 0, .slice none 0 0] 49) := by rw [← hw0]; exact alloc_at _ _ (by simp)
    have hs0 : w0.heap.size = w.heap.size + 3 := by rw [← hw0]; simp
    have Hs0 := Lib.hid hs0
    clear hs0
    obtain ⟨nc0, nc1, nc2, nc3, nc4, nc5, nc6⟩ := cells7' hn0
    obtain ⟨fc0, fc1, fc2, fc3, fc4⟩ := cells5' hf0
    obtain ⟨⟨rc0, rc1, rc2, rc3, rc4, rc5, rc6⟩, rf0, rf1, rf2, rf3, rf4, rf5, rf6⟩ := cells7 hr0
    go_enter Tryz.func51, Tryz.ntmps51
    go_wp2_with fail
    clear nc0 nc1 nc2 nc3 nc4 nc5 nc6 fc0 fc1 fc2 fc3 fc4 rc0 rc1 rc2 rc3 rc4 rc5 rc6 rf0 rf1 rf2 rf3 rf4 rf5 rf6
    clear hw0
    have hZ0 := Below.refl w0.heap.size w0
    exact bodyPost_ret (v := NV.v n) (results_n (n := n) rfl _ rfl (set7_obj hr0 _ _ _ _ _ _ _)) rfl (⟨n, rfl, h.to (below_g hT0 (set7_grown _ _ _ _ _ _ _ _ _) (by omega)), (below_g hT0 (set7_grown _ _ _ _ _ _ _ _ _) (by omega))⟩)
  rw [if_neg (by rw [← h.k]; exact hs)] at hM
  have hs3 : (n.k.s == 3) = false := by simpa using hs
  clear hs
  cases ok
  · skip
    cases long
    · skip
      obtain ⟨d, hd⟩ : ∃ d, stepV n.k 4 = d := ⟨_, rfl⟩
      have Hd2 := Lib.hid hd
      obtain rfl : (⟨N.q, N.l, d, N.g⟩ : NC) = M := by rw [← hM, ← hd, h.k]; rfl
      clear hd hM
      obtain ⟨w0, hw0⟩ : ∃ w0, (((w.alloc (.cells #[.slice n.qa n.qm n.qc, .slice n.la n.lm n.lc, .int .i64 n.k.t, .int .i64 n.k.r, .int .i64 n.k.s, .int .i64 n.k.q, .slice n.ga n.gm n.gc] 49)).alloc (.cells #[.bool f.x, .int .i64 f.i, .bool f.r, .int .i64 f.n, .slice f.a f.m f.c] 34)).alloc (.cells #[.slice none 0 0, .slice none 0 0, .int .i64 0, .int .i64 0, .int .i64 0, .int .i64 0, .slice none 0 0] 49)) = w0 := ⟨_, rfl⟩
      have hT0 : Below w.heap.size w w0 := by rw [← hw0]; exact below_then (below_then (below_alloc1 _ _) (below_alloc1 _ _)) (below_alloc1 _ _)
      have hn0 : w0.heap[w.heap.size]? = some (.cells #[.slice n.qa n.qm n.qc, .slice n.la n.lm n.lc, .int .i64 n.k.t, .int .i64 n.k.r, .int .i64 n.k.s, .int .i64 n.k.q, .slice n.ga n.gm n.gc] 49) := by rw [← hw0]; exact block_below (below_alloc1 _ _) (block_below (below_alloc1 _ _) (World.alloc_heap_new _ _))
      have hf0 : w0.heap[(w.heap.size + 1)]? = some (.cells #[.bool f.x, .int .i64 f.i, .bool f.r, .int .i64 f.n, .slice f.a f.m f.c] 34) := by rw [← hw0]; exact block_below (below_alloc1 _ _) (alloc_at _ _ (by simp))
      have hr0 : w0.heap[(w.heap.size + 2)]? = some (.cells #[.slice none 0 0, .slice none 0 0, .int .i64 0, .int .i64 0, .int .i64 0, .int .i64 0, .slice none 0 0] 49) := by rw [← hw0]; exact alloc_at _ _ (by simp)
      have hs0 : w0.heap.size = w.heap.size + 3 := by rw [← hw0]; simp
      have Hs0 := Lib.hid hs0
      clear hs0
      obtain ⟨nc0, nc1, nc2, nc3, nc4, nc5, nc6⟩ := cells7' hn0
      obtain ⟨fc0, fc1, fc2, fc3, fc4⟩ := cells5' hf0
      obtain ⟨rc0, rc1, rc2, rc3, rc4, rc5, rc6⟩ := cells7' hr0
      go_enter Tryz.func51, Tryz.ntmps51
      go_wp2_with fail
      clear nc0 nc1 nc2 nc3 nc4 nc5 nc6 fc0 fc1 fc2 fc3 fc4 rc0 rc1 rc2 rc3 rc4 rc5 rc6
      clear hw0
      have hZ0 := Below.refl w0.heap.size w0
      refine (refStep_any n.k d 4 Hd2.out hkk w0).mono ?_
      rintro e w1 ⟨rfl, hB1⟩
      have hT1 := below_then hT0 hB1
      have hZ1 := below_then hZ0 hB1
      clear hZ0
      have hn1 := block_below hB1 hn0
      have hf1 := block_below hB1 hf0
      have hr1 := block_below hB1 hr0
      clear hT0 hn0 hf0 hr0  hB1
      obtain ⟨⟨nc0, nc1, nc2, nc3, nc4, nc5, nc6⟩, nf0, nf1, nf2, nf3, nf4, nf5, nf6⟩ := cells7 hn1
      obtain ⟨fc0, fc1, fc2, fc3, fc4⟩ := cells5' hf1
      obtain ⟨⟨rc0, rc1, rc2, rc3, rc4, rc5, rc6⟩, rf0, rf1, rf2, rf3, rf4, rf5, rf6⟩ := cells7 hr1
      go_wp2_with fail
      clear nc0 nc1 nc2 nc3 nc4 nc5 nc6 nf0 nf1 nf2 nf3 nf4 nf5 nf6 fc0 fc1 fc2 fc3 fc4 rc0 rc1 rc2 rc3 rc4 rc5 rc6 rf0 rf1 rf2 rf3 rf4 rf5 rf6
      exact bodyPost_ret (v := NV.v ⟨n.qa, n.qm, n.qc, n.la, n.lm, n.lc, d, n.ga, n.gm, n.gc⟩) (results_n (n := ⟨n.qa, n.qm, n.qc, n.la, n.lm, n.lc, d, n.ga, n.gm, n.gc⟩) rfl _ rfl (set7_obj (other_g (set25_grown _ _ _ _ _ _) hr1 (by omega)) _ _ _ _ _ _ _)) rfl ⟨⟨n.qa, n.qm, n.qc, n.la, n.lm, n.lc, d, n.ga, n.gm, n.gc⟩, rfl, ⟨h.q.to (below_g (below_g hT1 (set25_grown _ _ _ _ _ _) (Nat.le_refl _)) (set7_grown _ _ _ _ _ _ _ _ _) (by omega)), h.l.to (below_g (below_g hT1 (set25_grown _ _ _ _ _ _) (Nat.le_refl _)) (set7_grown _ _ _ _ _ _ _ _ _) (by omega)), rfl, h.g.to (below_g (below_g hT1 (set25_grown _ _ _ _ _ _) (Nat.le_refl _)) (set7_grown _ _ _ _ _ _ _ _ _) (by omega))⟩, (below_g (below_g hT1 (set25_grown _ _ _ _ _ _) (Nat.le_refl _)) (set7_grown _ _ _ _ _ _ _ _ _) (by omega))⟩
    obtain ⟨d, hd⟩ : ∃ d, stepV n.k 5 = d := ⟨_, rfl⟩
    have Hd2 := Lib.hid hd
    obtain rfl : (⟨N.q, N.l, d, N.g⟩ : NC) = M := by rw [← hM, ← hd, h.k]; rfl
    clear hd hM
    obtain ⟨w0, hw0⟩ : ∃ w0, (((w.alloc (.cells #[.slice n.qa n.qm n.qc, .slice n.la n.lm n.lc, .int .i64 n.k.t, .int .i64 n.k.r, .int .i64 n.k.s, .int .i64 n.k.q, .slice n.ga n.gm n.gc] 49)).alloc (.cells #[.bool f.x, .int .i64 f.i, .bool f.r, .int .i64 f.n, .slice f.a f.m f.c] 34)).alloc (.cells #[.slice none 0 0, .slice none 0 0, .int .i64 0, .int .i64 0, .int .i64 0, .int .i64 0, .slice none 0 0] 49)) = w0 := ⟨_, rfl⟩
    have hT0 : Below w.heap.size w w0 := by rw [← hw0]; exact below_then (below_then (below_alloc1 _ _) (below_alloc1 _ _)) (below_alloc1 _ _)
    have hn0 : w0.heap[w.heap.size]? = some (.cells #[.slice n.qa n.qm n.qc, .slice n.la n.lm n.lc, .int .i64 n.k.t, .int .i64 n.k.r, .int .i64 n.k.s, .int .i64 n.k.q, .slice n.ga n.gm n.gc] 49) := by rw [← hw0]; exact block_below (below_alloc1 _ _) (block_below (below_alloc1 _ _) (World.alloc_heap_new _ _))
    have hf0 : w0.heap[(w.heap.size + 1)]? = some (.cells #[.bool f.x, .int .i64 f.i, .bool f.r, .int .i64 f.n, .slice f.a f.m f.c] 34) := by rw [← hw0]; exact block_below (below_alloc1 _ _) (alloc_at _ _ (by simp))
    have hr0 : w0.heap[(w.heap.size + 2)]? = some (.cells #[.slice none 0 0, .slice none 0 0, .int .i64 0, .int .i64 0, .int .i64 0, .int .i64 0, .slice none 0 0] 49) := by rw [← hw0]; exact alloc_at _ _ (by simp)
    have hs0 : w0.heap.size = w.heap.size + 3 := by rw [← hw0]; simp
    have Hs0 := Lib.hid hs0
    clear hs0
    obtain ⟨nc0, nc1, nc2, nc3, nc4, nc5, nc6⟩ := cells7' hn0
    obtain ⟨fc0, fc1, fc2, fc3, fc4⟩ := cells5' hf0
    obtain ⟨rc0, rc1, rc2, rc3, rc4, rc5, rc6⟩ := cells7' hr0
    go_enter Tryz.func51, Tryz.ntmps51
    go_wp2_with fail
    clear nc0 nc1 nc2 nc3 nc4 nc5 nc6 fc0 fc1 fc2 fc3 fc4 rc0 rc1 rc2 rc3 rc4 rc5 rc6
    clear hw0
    have hZ0 := Below.refl w0.heap.size w0
    refine (refStep_any n.k d 5 Hd2.out hkk w0).mono ?_
    rintro e w1 ⟨rfl, hB1⟩
    have hT1 := below_then hT0 hB1
    have hZ1 := below_then hZ0 hB1
    clear hZ0
    have hn1 := block_below hB1 hn0
    have hf1 := block_below hB1 hf0
    have hr1 := block_below hB1 hr0
    clear hT0 hn0 hf0 hr0  hB1
    obtain ⟨⟨nc0, nc1, nc2, nc3, nc4, nc5, nc6⟩, nf0, nf1, nf2, nf3, nf4, nf5, nf6⟩ := cells7 hn1
    obtain ⟨fc0, fc1, fc2, fc3, fc4⟩ := cells5' hf1
    obtain ⟨⟨rc0, rc1, rc2, rc3, rc4, rc5, rc6⟩, rf0, rf1, rf2, rf3, rf4, rf5, rf6⟩ := cells7 hr1
    go_wp2_with fail
    clear nc0 nc1 nc2 nc3 nc4 nc5 nc6 nf0 nf1 nf2 nf3 nf4 nf5 nf6 fc0 fc1 fc2 fc3 fc4 rc0 rc1 rc2 rc3 rc4 rc5 rc6 rf0 rf1 rf2 rf3 rf4 rf5 rf6
    exact bodyPost_ret (v := NV.v ⟨n.qa, n.qm, n.qc, n.la, n.lm, n.lc, d, n.ga, n.gm, n.gc⟩) (results_n (n := ⟨n.qa, n.qm, n.qc, n.la, n.lm, n.lc, d, n.ga, n.gm, n.gc⟩) rfl _ rfl (set7_obj (other_g (set25_grown _ _ _ _ _ _) hr1 (by omega)) _ _ _ _ _ _ _)) rfl ⟨⟨n.qa, n.qm, n.qc, n.la, n.lm, n.lc, d, n.ga, n.gm, n.gc⟩, rfl, ⟨h.q.to (below_g (below_g hT1 (set25_grown _ _ _ _ _ _) (Nat.le_refl _)) (set7_grown _ _ _ _ _ _ _ _ _) (by omega)), h.l.to (below_g (below_g hT1 (set25_grown _ _ _ _ _ _) (Nat.le_refl _)) (set7_grown _ _ _ _ _ _ _ _ _) (by omega)), rfl, h.g.to (below_g (below_g hT1 (set25_grown _ _ _ _ _ _) (Nat.le_refl _)) (set7_grown _ _ _ _ _ _ _ _ _) (by omega))⟩, (below_g (below_g hT1 (set25_grown _ _ _ _ _ _) (Nat.le_refl _)) (set7_grown _ _ _ _ _ _ _ _ _) (by omega))⟩
  rw [if_pos rfl] at hM
  obtain ⟨d, hd⟩ : ∃ d, stepV n.k 2 = d := ⟨_, rfl⟩
  have Hd2 := Lib.hid hd
  obtain ⟨Gs, hGs⟩ : ∃ Gs, gotN N F = Gs := ⟨_, rfl⟩
  obtain rfl : (⟨N.q, N.l, d, Gs⟩ : NC) = M := by rw [← hM, ← hd, hGs, h.k]
  unfold gotN at hGs
  rw [h.g.len] at hGs
  clear hd hM
  obtain ⟨q, hq⟩ : ∃ q, anyV N.l F.x F.i = q := ⟨_, rfl⟩
  have Hq := Lib.hid hq
  rw [hq] at hGs
  clear hq
  cases q
  · skip
    rw [Bool.and_false, if_neg (by decide)] at hGs
    obtain rfl : N.g = Gs := hGs
    obtain ⟨w0, hw0⟩ : ∃ w0, (((w.alloc (.cells #[.slice n.qa n.qm n.qc, .slice n.la n.lm n.lc, .int .i64 n.k.t, .int .i64 n.k.r, .int .i64 n.k.s, .int .i64 n.k.q, .slice n.ga n.gm n.gc] 49)).alloc (.cells #[.bool f.x, .int .i64 f.i, .bool f.r, .int .i64 f.n, .slice f.a f.m f.c] 34)).alloc (.cells #[.slice none 0 0, .slice none 0 0, .int .i64 0, .int .i64 0, .int .i64 0, .int .i64 0, .slice none 0 0] 49)) = w0 := ⟨_, rfl⟩
    have hT0 : Below w.heap.size w w0 := by rw [← hw0]; exact below_then (below_then (below_alloc1 _ _) (below_alloc1 _ _)) (below_alloc1 _ _)
    have hn0 : w0.heap[w.heap.size]? = some (.cells #[.slice n.qa n.qm n.qc, .slice n.la n.lm n.lc, .int .i64 n.k.t, .int .i64 n.k.r, .int .i64 n.k.s, .int .i64 n.k.q, .slice n.ga n.gm n.gc] 49) := by rw [← hw0]; exact block_below (below_alloc1 _ _) (block_below (below_alloc1 _ _) (World.alloc_heap_new _ _))
    have hf0 : w0.heap[(w.heap.size + 1)]? = some (.cells #[.bool f.x, .int .i64 f.i, .bool f.r, .int .i64 f.n, .slice f.a f.m f.c] 34) := by rw [← hw0]; exact block_below (below_alloc1 _ _) (alloc_at _ _ (by simp))
    have hr0 : w0.heap[(w.heap.size + 2)]? = some (.cells #[.slice none 0 0, .slice none 0 0, .int .i64 0, .int .i64 0, .int .i64 0, .int .i64 0, .slice none 0 0] 49) := by rw [← hw0]; exact alloc_at _ _ (by simp)
    have hs0 : w0.heap.size = w.heap.size + 3 := by rw [← hw0]; simp
    have Hs0 := Lib.hid hs0
    clear hs0
    obtain ⟨nc0, nc1, nc2, nc3, nc4, nc5, nc6⟩ := cells7' hn0
    obtain ⟨fc0, fc1, fc2, fc3, fc4⟩ := cells5' hf0
    obtain ⟨rc0, rc1, rc2, rc3, rc4, rc5, rc6⟩ := cells7' hr0
    go_enter Tryz.func51, Tryz.ntmps51
    go_wp2_with fail
    clear nc0 nc1 nc2 nc3 nc4 nc5 nc6 fc0 fc1 fc2 fc3 fc4 rc0 rc1 rc2 rc3 rc4 rc5 rc6
    clear hw0
    have hZ0 := Below.refl w0.heap.size w0
    refine (refAny_c (h.l.to hT0) (hf.to hT0) (by omega) false Hq.out).mono ?_
    rintro e w1 ⟨rfl, hB1⟩
    have hT1 := below_then hT0 hB1
    have hZ1 := below_then hZ0 hB1
    clear hZ0
    have hn1 := block_below hB1 hn0
    have hf1 := block_below hB1 hf0
    have hr1 := block_below hB1 hr0
    clear hT0 hn0 hf0 hr0  hB1
    obtain ⟨nc0, nc1, nc2, nc3, nc4, nc5, nc6⟩ := cells7' hn1
    obtain ⟨fc0, fc1, fc2, fc3, fc4⟩ := cells5' hf1
    obtain ⟨rc0, rc1, rc2, rc3, rc4, rc5, rc6⟩ := cells7' hr1
    go_wp2_with fail
    clear nc0 nc1 nc2 nc3 nc4 nc5 nc6 fc0 fc1 fc2 fc3 fc4 rc0 rc1 rc2 rc3 rc4 rc5 rc6
    refine (refStep_any n.k d 2 Hd2.out hkk w1).mono ?_
    rintro e w2 ⟨rfl, hB2⟩
    have hT2 := below_then hT1 hB2
    have hZ2 := below_then hZ1 hB2
    clear hZ1
    have hn2 := block_below hB2 hn1
    have hf2 := block_below hB2 hf1
    have hr2 := block_below hB2 hr1
    clear hT1 hn1 hf1 hr1  hB2
    obtain ⟨⟨nc0, nc1, nc2, nc3, nc4, nc5, nc6⟩, nf0, nf1, nf2, nf3, nf4, nf5, nf6⟩ := cells7 hn2
    obtain ⟨fc0, fc1, fc2, fc3, fc4⟩ := cells5' hf2
    obtain ⟨⟨rc0, rc1, rc2, rc3, rc4, rc5, rc6⟩, rf0, rf1, rf2, rf3, rf4, rf5, rf6⟩ := cells7 hr2
    go_wp2_with fail
    clear nc0 nc1 nc2 nc3 nc4 nc5 nc6 nf0 nf1 nf2 nf3 nf4 nf5 nf6 fc0 fc1 fc2 fc3 fc4 rc0 rc1 rc2 rc3 rc4 rc5 rc6 rf0 rf1 rf2 rf3 rf4 rf5 rf6
    exact bodyPost_ret (v := NV.v ⟨n.qa, n.qm, n.qc, n.la, n.lm, n.lc, d, n.ga, n.gm, n.gc⟩) (results_n (n := ⟨n.qa, n.qm, n.qc, n.la, n.lm, n.lc, d, n.ga, n.gm, n.gc⟩) rfl _ rfl (set7_obj (other_g (set25_grown _ _ _ _ _ _) hr2 (by omega)) _ _ _ _ _ _ _)) rfl ⟨⟨n.qa, n.qm, n.qc, n.la, n.lm, n.lc, d, n.ga, n.gm, n.gc⟩, rfl, ⟨h.q.to (below_g (below_g hT2 (set25_grown _ _ _ _ _ _) (Nat.le_refl _)) (set7_grown _ _ _ _ _ _ _ _ _) (by omega)), h.l.to (below_g (below_g hT2 (set25_grown _ _ _ _ _ _) (Nat.le_refl _)) (set7_grown _ _ _ _ _ _ _ _ _) (by omega)), rfl, h.g.to (below_g (below_g hT2 (set25_grown _ _ _ _ _ _) (Nat.le_refl _)) (set7_grown _ _ _ _ _ _ _ _ _) (by omega))⟩, (below_g (below_g hT2 (set25_grown _ _ _ _ _ _) (Nat.le_refl _)) (set7_grown _ _ _ _ _ _ _ _ _) (by omega))⟩
  by_cases hg : n.gm < 64
  · skip
    rw [decide_eq_true hg] at hGs
    have i1 : (n.gm : Int) < 64 := by omega
    obtain rfl : N.g ++ [F] = Gs := hGs
    obtain ⟨fs, hrow, his⟩ := h.g.row
    have Hfl := Lib.hid (show fs.length = n.gm from his.1.trans h.g.len)
    have Hds := Lib.hid (show FsIs w P (fs ++ [f]) (N.g ++ [F]) from his.append (FsIs.one hf))
    obtain ⟨w0, hw0⟩ : ∃ w0, (((w.alloc (.cells #[.slice n.qa n.qm n.qc, .slice n.la n.lm n.lc, .int .i64 n.k.t, .int .i64 n.k.r, .int .i64 n.k.s, .int .i64 n.k.q, .slice n.ga n.gm n.gc] 49)).alloc (.cells #[.bool f.x, .int .i64 f.i, .bool f.r, .int .i64 f.n, .slice f.a f.m f.c] 34)).alloc (.cells #[.slice none 0 0, .slice none 0 0, .int .i64 0, .int .i64 0, .int .i64 0, .int .i64 0, .slice none 0 0] 49)) = w0 := ⟨_, rfl⟩
    have hT0 : Below w.heap.size w w0 := by rw [← hw0]; exact below_then (below_then (below_alloc1 _ _) (below_alloc1 _ _)) (below_alloc1 _ _)
    have hn0 : w0.heap[w.heap.size]? = some (.cells #[.slice n.qa n.qm n.qc, .slice n.la n.lm n.lc, .int .i64 n.k.t, .int .i64 n.k.r, .int .i64 n.k.s, .int .i64 n.k.q, .slice n.ga n.gm n.gc] 49) := by rw [← hw0]; exact block_below (below_alloc1 _ _) (block_below (below_alloc1 _ _) (World.alloc_heap_new _ _))
    have hf0 : w0.heap[(w.heap.size + 1)]? = some (.cells #[.bool f.x, .int .i64 f.i, .bool f.r, .int .i64 f.n, .slice f.a f.m f.c] 34) := by rw [← hw0]; exact block_below (below_alloc1 _ _) (alloc_at _ _ (by simp))
    have hr0 : w0.heap[(w.heap.size + 2)]? = some (.cells #[.slice none 0 0, .slice none 0 0, .int .i64 0, .int .i64 0, .int .i64 0, .int .i64 0, .slice none 0 0] 49) := by rw [← hw0]; exact alloc_at _ _ (by simp)
    have hs0 : w0.heap.size = w.heap.size + 3 := by rw [← hw0]; simp
    have Hs0 := Lib.hid hs0
    clear hs0
    obtain ⟨nc0, nc1, nc2, nc3, nc4, nc5, nc6⟩ := cells7' hn0
    obtain ⟨fc0, fc1, fc2, fc3, fc4⟩ := cells5' hf0
    obtain ⟨rc0, rc1, rc2, rc3, rc4, rc5, rc6⟩ := cells7' hr0
    go_enter Tryz.func51, Tryz.ntmps51
    go_wp2_with fail
    clear nc0 nc1 nc2 nc3 nc4 nc5 nc6 fc0 fc1 fc2 fc3 fc4 rc0 rc1 rc2 rc3 rc4 rc5 rc6
    clear hw0
    have hZ0 := Below.refl w0.heap.size w0
    refine (refAny_c (h.l.to hT0) (hf.to hT0) (by omega) true Hq.out).mono ?_
    rintro e w1 ⟨rfl, hB1⟩
    have hT1 := below_then hT0 hB1
    have hZ1 := below_then hZ0 hB1
    clear hZ0
    have hn1 := block_below hB1 hn0
    have hf1 := block_below hB1 hf0
    have hr1 := block_below hB1 hr0
    clear hT0 hn0 hf0 hr0  hB1
    obtain ⟨nc0, nc1, nc2, nc3, nc4, nc5, nc6⟩ := cells7' hn1
    obtain ⟨fc0, fc1, fc2, fc3, fc4⟩ := cells5' hf1
    obtain ⟨rc0, rc1, rc2, rc3, rc4, rc5, rc6⟩ := cells7' hr1
    go_wp2_with fail
    clear nc0 nc1 nc2 nc3 nc4 nc5 nc6 fc0 fc1 fc2 fc3 fc4 rc0 rc1 rc2 rc3 rc4 rc5 rc6
    have hBd0 : Below w1.heap.size w1 (w1.alloc (.cells #[] 34)).drew := below_then (below_alloc1 _ _) (below_drew1 _)
    have hBd05 : Below w1.heap.size w1 ((w1.alloc (.cells #[] 34)).alloc (.cells #[.bool f.x, .int .i64 f.i, .bool f.r, .int .i64 f.n, .slice f.a f.m f.c] 34)).drew := below_then (below_then (below_alloc1 _ _) (below_alloc1 _ _)) (below_drew1 _)
    have hBd5 : Below w1.heap.size w1 (w1.alloc (.cells #[.bool f.x, .int .i64 f.i, .bool f.r, .int .i64 f.n, .slice f.a f.m f.c] 34)).drew := below_then (below_alloc1 _ _) (below_drew1 _)
    have hBd50 : Below w1.heap.size w1 ((w1.alloc (.cells #[.bool f.x, .int .i64 f.i, .bool f.r, .int .i64 f.n, .slice f.a f.m f.c] 34)).alloc (.cells #[] 34)).drew := below_then (below_then (below_alloc1 _ _) (below_alloc1 _ _)) (below_drew1 _)
    have hlr40 := (Array.getElem?_eq_some_iff.1 hr1).1
    have hle40 := hT1.size
    refine wp_region_till 8 (S := fun W => (W.cell? ⟨w.heap.size, 0, none⟩ = some (.slice n.qa n.qm n.qc) ∧ W.cell? ⟨w.heap.size, 1, none⟩ = some (.slice n.la n.lm n.lc) ∧ W.cell? ⟨w.heap.size, 2, none⟩ = some (.int .i64 n.k.t) ∧ W.cell? ⟨w.heap.size, 3, none⟩ = some (.int .i64 n.k.r) ∧ W.cell? ⟨w.heap.size, 4, none⟩ = some (.int .i64 n.k.s) ∧ W.cell? ⟨w.heap.size, 5, none⟩ = some (.int .i64 n.k.q) ∧ W.cell? ⟨w.heap.size, 6, none⟩ = some (.slice n.ga n.gm n.gc)) ∧ (W.cell? ⟨(w.heap.size + 1), 0, none⟩ = some (.bool f.x) ∧ W.cell? ⟨(w.heap.size + 1), 1, none⟩ = some (.int .i64 f.i) ∧ W.cell? ⟨(w.heap.size + 1), 2, none⟩ = some (.bool f.r) ∧ W.cell? ⟨(w.heap.size + 1), 3, none⟩ = some (.int .i64 f.n) ∧ W.cell? ⟨(w.heap.size + 1), 4, none⟩ = some (.slice f.a f.m f.c))) (by kernel_rfl) (by exact ⟨cells7' (block_below (below_drew1 _) hn1), cells5' (block_below (below_drew1 _) hf1)⟩) (fun hHeld_ => ?_)
    refine wpTill_take (i := 1) (v := ?vT2_1_0_) 27 rfl rfl (by kernel_rfl) (by kernel_rfl) (by kernel_rfl) (fun _ _ _ h => h) (Or.inl ⟨by kernel_rfl, ?hyT2_1_0_⟩) (by assumption) (by kernel_rfl) ?restT2_1_0_
    case hyT2_1_0_ => (intro W_ hS_; (try dsimp only at hS_); go_simp; (try (with_reducible rfl)))
    try simp only [Act.put, siA, scZ, scS]
    refine wpTill_take (i := 2) (v := ?vT2_2_0_) 28 rfl rfl (by kernel_rfl) (by kernel_rfl) (by kernel_rfl) (fun _ _ _ h => h) (Or.inl ⟨by kernel_rfl, ?hyT2_2_0_⟩) (by assumption) (by kernel_rfl) ?restT2_2_0_
    case hyT2_2_0_ => (intro W_ hS_; (try dsimp only at hS_); go_simp; (try (with_reducible rfl)))
    try simp only [Act.put, siA, scZ, scS]
    refine wpTill_take (i := 4) (v := ?vT2_4_0_) 30 rfl rfl (by kernel_rfl) (by kernel_rfl) (by kernel_rfl) (fun _ _ _ h => h) (Or.inl ⟨by kernel_rfl, ?hyT2_4_0_⟩) (by assumption) (by kernel_rfl) ?restT2_4_0_
    case hyT2_4_0_ => (intro W_ hS_; (try dsimp only at hS_); go_simp; (try (with_reducible rfl)))
    try simp only [Act.put, siA, scZ, scS]
    refine wpTill_ready (rs := [0, 5]) (by kernel_rfl) (by simp) ?_
    refine (AllTill.cons rfl (fun K_ hK_ => ?_) (AllTill.cons rfl (fun K_ hK_ => ?_) AllTill.nil))
    · go_simp
      go_wp2_with fail
      refine hK_.out _ _ (fun _ => by exact ⟨cells7' (block_below hBd0 hn1), cells5' (block_below hBd0 hf1)⟩) (fun hHeld_0_0 => ?_)
      replace hHeld_0_0 := hHeld_0_0 (by decide)
      clear hK_
      try simp only [Act.put, siA, scZ, scS]
      refine wpTill_ready (rs := [3, 5]) (by kernel_rfl) (by simp) ?_
      refine (AllTill.cons rfl (fun K_ hK_ => ?_) (AllTill.cons rfl (fun K_ hK_ => ?_) AllTill.nil))
      · refine step_append_fr rfl _ _ rfl w1.heap.size _ 0 [] rfl (own_to (fown_empty w1 _ _ rfl (Nat.le_refl _)) (below_drew1 _)) _ _ _ _ fs rfl Hfl.out (hrow.below (below_then hT1 hBd0)) (by omega) hBd0.size 29 rfl ?_
        intro A5 c5 w5 hown5 hc5 hB5
        simp only [Nat.zero_add, List.nil_append] at hown5 hc5 ⊢
        have hBk5 : Below w1.heap.size w1 w5 := hBd0.trans hB5
        refine hK_.out _ _ (fun _ => by exact ⟨cells7' (block_below hBk5 hn1), cells5' (block_below hBk5 hf1)⟩) (fun hHeld_3_1 => ?_)
        replace hHeld_3_1 := hHeld_3_1 (by decide)
        clear hK_
        try simp only [Act.put, siA, scZ, scS]
        refine wpTill_ready (rs := [5]) (by kernel_rfl) (by simp) ?_
        refine (AllTill.cons rfl (fun K_ hK_ => ?_) AllTill.nil)
        go_simp
        go_wp2_with fail
        refine hK_.out _ _ (fun _ => by exact ⟨cells7' (block_below (below_then hBk5 (below_alloc1 _ _)) hn1), cells5' (block_below (below_then hBk5 (below_alloc1 _ _)) hf1)⟩) (fun hHeld_5_2 => ?_)
        replace hHeld_5_2 := hHeld_5_2 (by decide)
        clear hK_
        try simp only [Act.put, siA, scZ, scS]
        refine wpTill_ready (rs := [6]) (by kernel_rfl) (by simp) ?_
        refine (AllTill.cons rfl (fun K_ hK_ => ?_) AllTill.nil)
        refine step_append_fr rfl _ _ rfl w1.heap.size _ n.gm fs rfl (own_to hown5 (below_alloc1 _ _)) _ _ _ _ [f] rfl rfl (FRow.lit1 w5 f rfl) (by omega) (below_then hBk5 (below_alloc1 _ _)).size 32 rfl ?_
        intro A6 c6 w6 hown6 hc6 hB6
        have hBk6 : Below w1.heap.size w1 w6 := (below_then hBk5 (below_alloc1 _ _)).trans hB6
        refine hK_.out _ _ (fun _ => by exact ⟨cells7' (block_below hBk6 hn1), cells5' (block_below hBk6 hf1)⟩) (fun hHeld_6_3 => ?_)
        replace hHeld_6_3 := hHeld_6_3 (by decide)
        clear hK_
        try simp only [Act.put, siA, scZ, scS]
        refine wpTill_take (i := 7) (v := ?vT2_7_4_0_3_5_6) 33 rfl rfl (by kernel_rfl) (by kernel_rfl) (by kernel_rfl) (fun _ _ _ h => h) (Or.inl ⟨by kernel_rfl, ?hyT2_7_4_0_3_5_6⟩) (by assumption) (by kernel_rfl) ?restT2_7_4_0_3_5_6
        case hyT2_7_4_0_3_5_6 => (intro W_ hS_; (try dsimp only at hS_); go_simp; (try (with_reducible rfl)))
        try simp only [Act.put, siA, scZ, scS]
        refine wpTill_ready (rs := [8]) (by kernel_rfl) (by simp) ?_
        refine (AllTill.cons rfl (fun K_ hK_ => ?_) AllTill.nil)
        obtain ⟨⟨nc0, nc1, nc2, nc3, nc4, nc5, nc6⟩, nf0, nf1, nf2, nf3, nf4, nf5, nf6⟩ := cells7 (block_below hBk6 hn1)
        go_simp
        go_wp2_with fail
        clear nc0 nc1 nc2 nc3 nc4 nc5 nc6 nf0 nf1 nf2 nf3 nf4 nf5 nf6
        refine hK_.out _ _ (fun h_ => absurd rfl h_) (fun hHeld_8_4 => ?_)
        clear hK_
        try simp only [Act.put, siA, scZ, scS]
        refine wpTill_done (by kernel_rfl) ?_ _
        have hT40 := below_then hT1 hBk6
        have hn40 := block_below hBk6 hn1
        have hf40 := block_below hBk6 hf1
        have hr40 := block_below hBk6 hr1
        have hs40 : FSl w6 (Gap P w.heap.size (w.heap.size + 3)) A6 (n.gm + 1) c6 (N.g ++ [F]) := FSl.own hown6 ((Hds.out.mono (fun b hb hp => ⟨hp, .inl hb⟩)).to hT40) (by omega) (fun b hb => gap_up hP (by omega) b (by omega))
        clear hown5 hown6 hc5 hc6 hB5 hB6 hBk5 hBk6 hBd0 hBd5 hBd05 hBd50 hle40 hlr40 hn1 hf1 hr1 hT1
        obtain ⟨w41, hw41⟩ : ∃ w_, w6.setCell ⟨w.heap.size, 6, none⟩ (.slice A6 (n.gm + 1) c6) = w_ := ⟨_, rfl⟩
        have hG41 : w6.grownBy w41 (some w.heap.size) := by rw [← hw41]; exact grown_setAt _ _ _ _
        have hT41 := below_g hT40 hG41 (by omega)
        have hn41 : w41.heap[w.heap.size]? = some (.cells #[.slice n.qa n.qm n.qc, .slice n.la n.lm n.lc, .int .i64 n.k.t, .int .i64 n.k.r, .int .i64 n.k.s, .int .i64 n.k.q, .slice A6 (n.gm + 1) c6] 49) := by rw [← hw41]; exact set6_obj7 hn40 _
        have hf41 := other_g hG41 hf40 (by omega)
        have hr41 := other_g hG41 hr40 (by omega)
        have hs41 := FSl.grow hs40 hG41 (gap_not (by omega) (by omega))
        rw [hw41]
        clear hw41 hG41 hT40 hn40 hf40 hr40 hs40
        obtain ⟨nc0, nc1, nc2, nc3, nc4, nc5, nc6⟩ := cells7' hn41
        obtain ⟨fc0, fc1, fc2, fc3, fc4⟩ := cells5' hf41
        obtain ⟨rc0, rc1, rc2, rc3, rc4, rc5, rc6⟩ := cells7' hr41
        go_wp2_with fail
        clear nc0 nc1 nc2 nc3 nc4 nc5 nc6 fc0 fc1 fc2 fc3 fc4 rc0 rc1 rc2 rc3 rc4 rc5 rc6
        refine (refStep_any n.k d 2 Hd2.out hkk w41).mono ?_
        rintro e w42 ⟨rfl, hB42⟩
        have hT42 := below_then hT41 hB42
        have hn42 := block_below hB42 hn41
        have hf42 := block_below hB42 hf41
        have hr42 := block_below hB42 hr41
        have hs42 := FSl.to hs41 hB42
        clear hT41 hn41 hf41 hr41 hs41 hB42
        obtain ⟨⟨nc0, nc1, nc2, nc3, nc4, nc5, nc6⟩, nf0, nf1, nf2, nf3, nf4, nf5, nf6⟩ := cells7 hn42
        obtain ⟨fc0, fc1, fc2, fc3, fc4⟩ := cells5' hf42
        obtain ⟨⟨rc0, rc1, rc2, rc3, rc4, rc5, rc6⟩, rf0, rf1, rf2, rf3, rf4, rf5, rf6⟩ := cells7 hr42
        go_wp2_with fail
        clear nc0 nc1 nc2 nc3 nc4 nc5 nc6 nf0 nf1 nf2 nf3 nf4 nf5 nf6 fc0 fc1 fc2 fc3 fc4 rc0 rc1 rc2 rc3 rc4 rc5 rc6 rf0 rf1 rf2 rf3 rf4 rf5 rf6
        exact bodyPost_ret (v := NV.v ⟨n.qa, n.qm, n.qc, n.la, n.lm, n.lc, d, A6, n.gm + 1, c6⟩) (results_n (n := ⟨n.qa, n.qm, n.qc, n.la, n.lm, n.lc, d, A6, n.gm + 1, c6⟩) rfl _ rfl (set7_obj (other_g (set25_grown _ _ _ _ _ _) hr42 (by omega)) _ _ _ _ _ _ _)) rfl ⟨⟨n.qa, n.qm, n.qc, n.la, n.lm, n.lc, d, A6, n.gm + 1, c6⟩, rfl, ⟨h.q.to (below_g (below_g hT42 (set25_grown _ _ _ _ _ _) (Nat.le_refl _)) (set7_grown _ _ _ _ _ _ _ _ _) (by omega)), h.l.to (below_g (below_g hT42 (set25_grown _ _ _ _ _ _) (Nat.le_refl _)) (set7_grown _ _ _ _ _ _ _ _ _) (by omega)), rfl, ((hs42.grow (set25_grown _ _ _ _ _ _) (gap_not (Nat.le_refl _) (by omega))).grow (set7_grown _ _ _ _ _ _ _ _ _) (gap_not (by omega) (by omega))).ungap⟩, (below_g (below_g hT42 (set25_grown _ _ _ _ _ _) (Nat.le_refl _)) (set7_grown _ _ _ _ _ _ _ _ _) (by omega))⟩
      · go_simp
        go_wp2_with fail
        refine hK_.out _ _ (fun _ => by exact ⟨cells7' (block_below hBd05 hn1), cells5' (block_below hBd05 hf1)⟩) (fun hHeld_5_1 => ?_)
        replace hHeld_5_1 := hHeld_5_1 (by decide)
        clear hK_
        try simp only [Act.put, siA, scZ, scS]
        refine wpTill_ready (rs := [3]) (by kernel_rfl) (by simp) ?_
        refine (AllTill.cons rfl (fun K_ hK_ => ?_) AllTill.nil)
        refine step_append_frG rfl _ _ rfl w1.heap.size _ 0 [] rfl (own_to (fown_empty w1 _ _ rfl (Nat.le_refl _)) (below_then (below_alloc1 _ _) (below_drew1 _))) _ _ _ _ fs rfl Hfl.out (hrow.below (below_then hT1 hBd05)) (by omega) hBd05.size 29 rfl ?_
        intro A5 c5 w5 hown5 hc5 hG5 hB5
        simp only [Nat.zero_add, List.nil_append] at hown5 hc5 ⊢
        have hBk5 : Below w1.heap.size w1 w5 := hBd05.trans hB5
        have hlit5 : FRow w5 w5.heap.size (some ⟨w1.heap.size + 1, 0, none⟩) [f] := frow_grow ((FRow.lit1 (w1.alloc (.cells #[] 34)) f (by simp)).to (below_drew1 _)) hG5 (fun _ ad e => by obtain rfl := Option.some.inj e; show w1.heap.size + 1 ≠ w1.heap.size; omega)
        refine hK_.out _ _ (fun _ => by exact ⟨cells7' (block_below hBk5 hn1), cells5' (block_below hBk5 hf1)⟩) (fun hHeld_3_2 => ?_)
        replace hHeld_3_2 := hHeld_3_2 (by decide)
        clear hK_
        try simp only [Act.put, siA, scZ, scS]
        refine wpTill_ready (rs := [6]) (by kernel_rfl) (by simp) ?_
        refine (AllTill.cons rfl (fun K_ hK_ => ?_) AllTill.nil)
        refine step_append_fr rfl _ _ rfl w1.heap.size _ n.gm fs rfl hown5 _ _ _ _ [f] rfl rfl hlit5 (by omega) hBk5.size 32 rfl ?_
        intro A6 c6 w6 hown6 hc6 hB6
        have hBk6 : Below w1.heap.size w1 w6 := hBk5.trans hB6
        refine hK_.out _ _ (fun _ => by exact ⟨cells7' (block_below hBk6 hn1), cells5' (block_below hBk6 hf1)⟩) (fun hHeld_6_3 => ?_)
        replace hHeld_6_3 := hHeld_6_3 (by decide)
        clear hK_
        try simp only [Act.put, siA, scZ, scS]
        refine wpTill_take (i := 7) (v := ?vT2_7_4_0_5_3_6) 33 rfl rfl (by kernel_rfl) (by kernel_rfl) (by kernel_rfl) (fun _ _ _ h => h) (Or.inl ⟨by kernel_rfl, ?hyT2_7_4_0_5_3_6⟩) (by assumption) (by kernel_rfl) ?restT2_7_4_0_5_3_6
        case hyT2_7_4_0_5_3_6 => (intro W_ hS_; (try dsimp only at hS_); go_simp; (try (with_reducible rfl)))
        try simp only [Act.put, siA, scZ, scS]
        refine wpTill_ready (rs := [8]) (by kernel_rfl) (by simp) ?_
        refine (AllTill.cons rfl (fun K_ hK_ => ?_) AllTill.nil)
        obtain ⟨⟨nc0, nc1, nc2, nc3, nc4, nc5, nc6⟩, nf0, nf1, nf2, nf3, nf4, nf5, nf6⟩ := cells7 (block_below hBk6 hn1)
        go_simp
        go_wp2_with fail
        clear nc0 nc1 nc2 nc3 nc4 nc5 nc6 nf0 nf1 nf2 nf3 nf4 nf5 nf6
        refine hK_.out _ _ (fun h_ => absurd rfl h_) (fun hHeld_8_4 => ?_)
        clear hK_
        try simp only [Act.put, siA, scZ, scS]
        refine wpTill_done (by kernel_rfl) ?_ _
        have hT40 := below_then hT1 hBk6
        have hn40 := block_below hBk6 hn1
        have hf40 := block_below hBk6 hf1
        have hr40 := block_below hBk6 hr1
        have hs40 : FSl w6 (Gap P w.heap.size (w.heap.size + 3)) A6 (n.gm + 1) c6 (N.g ++ [F]) := FSl.own hown6 ((Hds.out.mono (fun b hb hp => ⟨hp, .inl hb⟩)).to hT40) (by omega) (fun b hb => gap_up hP (by omega) b (by omega))
        clear hown5 hown6 hc5 hc6 hB5 hB6 hBk5 hBk6 hBd0 hBd5 hBd05 hBd50 hle40 hlr40 hn1 hf1 hr1 hT1
        obtain ⟨w41, hw41⟩ : ∃ w_, w6.setCell ⟨w.heap.size, 6, none⟩ (.slice A6 (n.gm + 1) c6) = w_ := ⟨_, rfl⟩
        have hG41 : w6.grownBy w41 (some w.heap.size) := by rw [← hw41]; exact grown_setAt _ _ _ _
        have hT41 := below_g hT40 hG41 (by omega)
        have hn41 : w41.heap[w.heap.size]? = some (.cells #[.slice n.qa n.qm n.qc, .slice n.la n.lm n.lc, .int .i64 n.k.t, .int .i64 n.k.r, .int .i64 n.k.s, .int .i64 n.k.q, .slice A6 (n.gm + 1) c6] 49) := by rw [← hw41]; exact set6_obj7 hn40 _
        have hf41 := other_g hG41 hf40 (by omega)
        have hr41 := other_g hG41 hr40 (by omega)
        have hs41 := FSl.grow hs40 hG41 (gap_not (by omega) (by omega))
        rw [hw41]
        clear hw41 hG41 hT40 hn40 hf40 hr40 hs40
        obtain ⟨nc0, nc1, nc2, nc3, nc4, nc5, nc6⟩ := cells7' hn41
        obtain ⟨fc0, fc1, fc2, fc3, fc4⟩ := cells5' hf41
        obtain ⟨rc0, rc1, rc2, rc3, rc4, rc5, rc6⟩ := cells7' hr41
        go_wp2_with fail
        clear nc0 nc1 nc2 nc3 nc4 nc5 nc6 fc0 fc1 fc2 fc3 fc4 rc0 rc1 rc2 rc3 rc4 rc5 rc6
        refine (refStep_any n.k d 2 Hd2.out hkk w41).mono ?_
        rintro e w42 ⟨rfl, hB42⟩
        have hT42 := below_then hT41 hB42
        have hn42 := block_below hB42 hn41
        have hf42 := block_below hB42 hf41
        have hr42 := block_below hB42 hr41
        have hs42 := FSl.to hs41 hB42
        clear hT41 hn41 hf41 hr41 hs41 hB42
        obtain ⟨⟨nc0, nc1, nc2, nc3, nc4, nc5, nc6⟩, nf0, nf1, nf2, nf3, nf4, nf5, nf6⟩ := cells7 hn42
        obtain ⟨fc0, fc1, fc2, fc3, fc4⟩ := cells5' hf42
        obtain ⟨⟨rc0, rc1, rc2, rc3, rc4, rc5, rc6⟩, rf0, rf1, rf2, rf3, rf4, rf5, rf6⟩ := cells7 hr42
        go_wp2_with fail
        clear nc0 nc1 nc2 nc3 nc4 nc5 nc6 nf0 nf1 nf2 nf3 nf4 nf5 nf6 fc0 fc1 fc2 fc3 fc4 rc0 rc1 rc2 rc3 rc4 rc5 rc6 rf0 rf1 rf2 rf3 rf4 rf5 rf6
        exact bodyPost_ret (v := NV.v ⟨n.qa, n.qm, n.qc, n.la, n.lm, n.lc, d, A6, n.gm + 1, c6⟩) (results_n (n := ⟨n.qa, n.qm, n.qc, n.la, n.lm, n.lc, d, A6, n.gm + 1, c6⟩) rfl _ rfl (set7_obj (other_g (set25_grown _ _ _ _ _ _) hr42 (by omega)) _ _ _ _ _ _ _)) rfl ⟨⟨n.qa, n.qm, n.qc, n.la, n.lm, n.lc, d, A6, n.gm + 1, c6⟩, rfl, ⟨h.q.to (below_g (below_g hT42 (set25_grown _ _ _ _ _ _) (Nat.le_refl _)) (set7_grown _ _ _ _ _ _ _ _ _) (by omega)), h.l.to (below_g (below_g hT42 (set25_grown _ _ _ _ _ _) (Nat.le_refl _)) (set7_grown _ _ _ _ _ _ _ _ _) (by omega)), rfl, ((hs42.grow (set25_grown _ _ _ _ _ _) (gap_not (Nat.le_refl _) (by omega))).grow (set7_grown _ _ _ _ _ _ _ _ _) (gap_not (by omega) (by omega))).ungap⟩, (below_g (below_g hT42 (set25_grown _ _ _ _ _ _) (Nat.le_refl _)) (set7_grown _ _ _ _ _ _ _ _ _) (by omega))⟩
    · go_simp
      go_wp2_with fail
      refine hK_.out _ _ (fun _ => by exact ⟨cells7' (block_below hBd5 hn1), cells5' (block_below hBd5 hf1)⟩) (fun hHeld_5_0 => ?_)
      replace hHeld_5_0 := hHeld_5_0 (by decide)
      clear hK_
      try simp only [Act.put, siA, scZ, scS]
      refine wpTill_ready (rs := [0]) (by kernel_rfl) (by simp) ?_
      refine (AllTill.cons rfl (fun K_ hK_ => ?_) AllTill.nil)
      go_simp
      go_wp2_with fail
      refine hK_.out _ _ (fun _ => by exact ⟨cells7' (block_below hBd50 hn1), cells5' (block_below hBd50 hf1)⟩) (fun hHeld_0_1 => ?_)
      replace hHeld_0_1 := hHeld_0_1 (by decide)
      clear hK_
      try simp only [Act.put, siA, scZ, scS]
      refine wpTill_ready (rs := [3]) (by kernel_rfl) (by simp) ?_
      refine (AllTill.cons rfl (fun K_ hK_ => ?_) AllTill.nil)
      refine step_append_fr rfl _ _ rfl (w1.heap.size + 1) _ 0 [] rfl (own_to (fown_empty (w1.alloc (.cells #[.bool f.x, .int .i64 f.i, .bool f.r, .int .i64 f.n, .slice f.a f.m f.c] 34)) _ _ (by simp) (by simp)) (below_drew1 _)) _ _ _ _ fs rfl Hfl.out (hrow.below (below_then hT1 hBd50)) (by omega) (by simp) 29 rfl ?_
      intro A5 c5 w5 hown5 hc5 hB5
      simp only [Nat.zero_add, List.nil_append] at hown5 hc5 ⊢
      have hBk5 : Below w1.heap.size w1 w5 := hBd50.trans (hB5.mono (Nat.le_succ _))
      have hlit5 : FRow w5 w5.heap.size (some ⟨w1.heap.size, 0, none⟩) [f] := (FRow.lit1 w1 f rfl).to (Below.trans (below_then (below_alloc1 _ _) (below_drew1 _)) (ups9 hB5))
      refine hK_.out _ _ (fun _ => by exact ⟨cells7' (block_below hBk5 hn1), cells5' (block_below hBk5 hf1)⟩) (fun hHeld_3_2 => ?_)
      replace hHeld_3_2 := hHeld_3_2 (by decide)
      clear hK_
      try simp only [Act.put, siA, scZ, scS]
      refine wpTill_ready (rs := [6]) (by kernel_rfl) (by simp) ?_
      refine (AllTill.cons rfl (fun K_ hK_ => ?_) AllTill.nil)
      refine step_append_fr rfl _ _ rfl (w1.heap.size + 1) _ n.gm fs rfl hown5 _ _ _ _ [f] rfl rfl hlit5 (by omega) (by have := hB5.size; simp at this; omega) 32 rfl ?_
      intro A6 c6 w6 hown6 hc6 hB6
      have hBk6 : Below w1.heap.size w1 w6 := hBk5.trans (hB6.mono (Nat.le_succ _))
      refine hK_.out _ _ (fun _ => by exact ⟨cells7' (block_below hBk6 hn1), cells5' (block_below hBk6 hf1)⟩) (fun hHeld_6_3 => ?_)
      replace hHeld_6_3 := hHeld_6_3 (by decide)
      clear hK_
      try simp only [Act.put, siA, scZ, scS]
      refine wpTill_take (i := 7) (v := ?vT2_7_4_5_0_3_6) 33 rfl rfl (by kernel_rfl) (by kernel_rfl) (by kernel_rfl) (fun _ _ _ h => h) (Or.inl ⟨by kernel_rfl, ?hyT2_7_4_5_0_3_6⟩) (by assumption) (by kernel_rfl) ?restT2_7_4_5_0_3_6
      case hyT2_7_4_5_0_3_6 => (intro W_ hS_; (try dsimp only at hS_); go_simp; (try (with_reducible rfl)))
      try simp only [Act.put, siA, scZ, scS]
      refine wpTill_ready (rs := [8]) (by kernel_rfl) (by simp) ?_
      refine (AllTill.cons rfl (fun K_ hK_ => ?_) AllTill.nil)
      obtain ⟨⟨nc0, nc1, nc2, nc3, nc4, nc5, nc6⟩, nf0, nf1, nf2, nf3, nf4, nf5, nf6⟩ := cells7 (block_below hBk6 hn1)
      go_simp
      go_wp2_with fail
      clear nc0 nc1 nc2 nc3 nc4 nc5 nc6 nf0 nf1 nf2 nf3 nf4 nf5 nf6
      refine hK_.out _ _ (fun h_ => absurd rfl h_) (fun hHeld_8_4 => ?_)
      clear hK_
      try simp only [Act.put, siA, scZ, scS]
      refine wpTill_done (by kernel_rfl) ?_ _
      have hT40 := below_then hT1 hBk6
      have hn40 := block_below hBk6 hn1
      have hf40 := block_below hBk6 hf1
      have hr40 := block_below hBk6 hr1
      have hs40 : FSl w6 (Gap P w.heap.size (w.heap.size + 3)) A6 (n.gm + 1) c6 (N.g ++ [F]) := FSl.own hown6 ((Hds.out.mono (fun b hb hp => ⟨hp, .inl hb⟩)).to hT40) (by omega) (fun b hb => gap_up hP (by omega) b (by omega))
      clear hown5 hown6 hc5 hc6 hB5 hB6 hBk5 hBk6 hBd0 hBd5 hBd05 hBd50 hle40 hlr40 hn1 hf1 hr1 hT1
      obtain ⟨w41, hw41⟩ : ∃ w_, w6.setCell ⟨w.heap.size, 6, none⟩ (.slice A6 (n.gm + 1) c6) = w_ := ⟨_, rfl⟩
      have hG41 : w6.grownBy w41 (some w.heap.size) := by rw [← hw41]; exact grown_setAt _ _ _ _
      have hT41 := below_g hT40 hG41 (by omega)
      have hn41 : w41.heap[w.heap.size]? = some (.cells #[.slice n.qa n.qm n.qc, .slice n.la n.lm n.lc, .int .i64 n.k.t, .int .i64 n.k.r, .int .i64 n.k.s, .int .i64 n.k.q, .slice A6 (n.gm + 1) c6] 49) := by rw [← hw41]; exact set6_obj7 hn40 _
      have hf41 := other_g hG41 hf40 (by omega)
      have hr41 := other_g hG41 hr40 (by omega)
      have hs41 := FSl.grow hs40 hG41 (gap_not (by omega) (by omega))
      rw [hw41]
      clear hw41 hG41 hT40 hn40 hf40 hr40 hs40
      obtain ⟨nc0, nc1, nc2, nc3, nc4, nc5, nc6⟩ := cells7' hn41
      obtain ⟨fc0, fc1, fc2, fc3, fc4⟩ := cells5' hf41
      obtain ⟨rc0, rc1, rc2, rc3, rc4, rc5, rc6⟩ := cells7' hr41
      go_wp2_with fail
      clear nc0 nc1 nc2 nc3 nc4 nc5 nc6 fc0 fc1 fc2 fc3 fc4 rc0 rc1 rc2 rc3 rc4 rc5 rc6
      refine (refStep_any n.k d 2 Hd2.out hkk w41).mono ?_
      rintro e w42 ⟨rfl, hB42⟩
      have hT42 := below_then hT41 hB42
      have hn42 := block_below hB42 hn41
      have hf42 := block_below hB42 hf41
      have hr42 := block_below hB42 hr41
      have hs42 := FSl.to hs41 hB42
      clear hT41 hn41 hf41 hr41 hs41 hB42
      obtain ⟨⟨nc0, nc1, nc2, nc3, nc4, nc5, nc6⟩, nf0, nf1, nf2, nf3, nf4, nf5, nf6⟩ := cells7 hn42
      obtain ⟨fc0, fc1, fc2, fc3, fc4⟩ := cells5' hf42
      obtain ⟨⟨rc0, rc1, rc2, rc3, rc4, rc5, rc6⟩, rf0, rf1, rf2, rf3, rf4, rf5, rf6⟩ := cells7 hr42
      go_wp2_with fail
      clear nc0 nc1 nc2 nc3 nc4 nc5 nc6 nf0 nf1 nf2 nf3 nf4 nf5 nf6 fc0 fc1 fc2 fc3 fc4 rc0 rc1 rc2 rc3 rc4 rc5 rc6 rf0 rf1 rf2 rf3 rf4 rf5 rf6
      exact bodyPost_ret (v := NV.v ⟨n.qa, n.qm, n.qc, n.la, n.lm, n.lc, d, A6, n.gm + 1, c6⟩) (results_n (n := ⟨n.qa, n.qm, n.qc, n.la, n.lm, n.lc, d, A6, n.gm + 1, c6⟩) rfl _ rfl (set7_obj (other_g (set25_grown _ _ _ _ _ _) hr42 (by omega)) _ _ _ _ _ _ _)) rfl ⟨⟨n.qa, n.qm, n.qc, n.la, n.lm, n.lc, d, A6, n.gm + 1, c6⟩, rfl, ⟨h.q.to (below_g (below_g hT42 (set25_grown _ _ _ _ _ _) (Nat.le_refl _)) (set7_grown _ _ _ _ _ _ _ _ _) (by omega)), h.l.to (below_g (below_g hT42 (set25_grown _ _ _ _ _ _) (Nat.le_refl _)) (set7_grown _ _ _ _ _ _ _ _ _) (by omega)), rfl, ((hs42.grow (set25_grown _ _ _ _ _ _) (gap_not (Nat.le_refl _) (by omega))).grow (set7_grown _ _ _ _ _ _ _ _ _) (gap_not (by omega) (by omega))).ungap⟩, (below_g (below_g hT42 (set25_grown _ _ _ _ _ _) (Nat.le_refl _)) (set7_grown _ _ _ _ _ _ _ _ _) (by omega))⟩
  rw [decide_eq_false hg] at hGs
  obtain rfl : N.g = Gs := hGs
  have i1 : ¬ (n.gm : Int) < 64 := by omega
  obtain ⟨w0, hw0⟩ : ∃ w0, (((w.alloc (.cells #[.slice n.qa n.qm n.qc, .slice n.la n.lm n.lc, .int .i64 n.k.t, .int .i64 n.k.r, .int .i64 n.k.s, .int .i64 n.k.q, .slice n.ga n.gm n.gc] 49)).alloc (.cells #[.bool f.x, .int .i64 f.i, .bool f.r, .int .i64 f.n, .slice f.a f.m f.c] 34)).alloc (.cells #[.slice none 0 0, .slice none 0 0, .int .i64 0, .int .i64 0, .int .i64 0, .int .i64 0, .slice none 0 0] 49)) = w0 := ⟨_, rfl⟩
  have hT0 : Below w.heap.size w w0 := by rw [← hw0]; exact below_then (below_then (below_alloc1 _ _) (below_alloc1 _ _)) (below_alloc1 _ _)
  have hn0 : w0.heap[w.heap.size]? = some (.cells #[.slice n.qa n.qm n.qc, .slice n.la n.lm n.lc, .int .i64 n.k.t, .int .i64 n.k.r, .int .i64 n.k.s, .int .i64 n.k.q, .slice n.ga n.gm n.gc] 49) := by rw [← hw0]; exact block_below (below_alloc1 _ _) (block_below (below_alloc1 _ _) (World.alloc_heap_new _ _))
  have hf0 : w0.heap[(w.heap.size + 1)]? = some (.cells #[.bool f.x, .int .i64 f.i, .bool f.r, .int .i64 f.n, .slice f.a f.m f.c] 34) := by rw [← hw0]; exact block_below (below_alloc1 _ _) (alloc_at _ _ (by simp))
  have hr0 : w0.heap[(w.heap.size + 2)]? = some (.cells #[.slice none 0 0, .slice none 0 0, .int .i64 0, .int .i64 0, .int .i64 0, .int .i64 0, .slice none 0 0] 49) := by rw [← hw0]; exact alloc_at _ _ (by simp)
  have hs0 : w0.heap.size = w.heap.size + 3 := by rw [← hw0]; simp
  have Hs0 := Lib.hid hs0
  clear hs0
  obtain ⟨nc0, nc1, nc2, nc3, nc4, nc5, nc6⟩ := cells7' hn0
  obtain ⟨fc0, fc1, fc2, fc3, fc4⟩ := cells5' hf0
  obtain ⟨rc0, rc1, rc2, rc3, rc4, rc5, rc6⟩ := cells7' hr0
  go_enter Tryz.func51, Tryz.ntmps51
  go_wp2_with fail
  clear nc0 nc1 nc2 nc3 nc4 nc5 nc6 fc0 fc1 fc2 fc3 fc4 rc0 rc1 rc2 rc3 rc4 rc5 rc6
  clear hw0
  have hZ0 := Below.refl w0.heap.size w0
  refine (refAny_c (h.l.to hT0) (hf.to hT0) (by omega) true Hq.out).mono ?_
  rintro e w1 ⟨rfl, hB1⟩
  have hT1 := below_then hT0 hB1
  have hZ1 := below_then hZ0 hB1
  clear hZ0
  have hn1 := block_below hB1 hn0
  have hf1 := block_below hB1 hf0
  have hr1 := block_below hB1 hr0
  clear hT0 hn0 hf0 hr0  hB1
  obtain ⟨nc0, nc1, nc2, nc3, nc4, nc5, nc6⟩ := cells7' hn1
  obtain ⟨fc0, fc1, fc2, fc3, fc4⟩ := cells5' hf1
  obtain ⟨rc0, rc1, rc2, rc3, rc4, rc5, rc6⟩ := cells7' hr1
  go_wp2_with fail
  clear nc0 nc1 nc2 nc3 nc4 nc5 nc6 fc0 fc1 fc2 fc3 fc4 rc0 rc1 rc2 rc3 rc4 rc5 rc6
  refine (refStep_any n.k d 2 Hd2.out hkk w1).mono ?_
  rintro e w2 ⟨rfl, hB2⟩
  have hT2 := below_then hT1 hB2
  have hZ2 := below_then hZ1 hB2
  clear hZ1
  have hn2 := block_below hB2 hn1
  have hf2 := block_below hB2 hf1
  have hr2 := block_below hB2 hr1
  clear hT1 hn1 hf1 hr1  hB2
  obtain ⟨⟨nc0, nc1, nc2, nc3, nc4, nc5, nc6⟩, nf0, nf1, nf2, nf3, nf4, nf5, nf6⟩ := cells7 hn2
  obtain ⟨fc0, fc1, fc2, fc3, fc4⟩ := cells5' hf2
  obtain ⟨⟨rc0, rc1, rc2, rc3, rc4, rc5, rc6⟩, rf0, rf1, rf2, rf3, rf4, rf5, rf6⟩ := cells7 hr2
  go_wp2_with fail
  clear nc0 nc1 nc2 nc3 nc4 nc5 nc6 nf0 nf1 nf2 nf3 nf4 nf5 nf6 fc0 fc1 fc2 fc3 fc4 rc0 rc1 rc2 rc3 rc4 rc5 rc6 rf0 rf1 rf2 rf3 rf4 rf5 rf6
  exact bodyPost_ret (v := NV.v ⟨n.qa, n.qm, n.qc, n.la, n.lm, n.lc, d, n.ga, n.gm, n.gc⟩) (results_n (n := ⟨n.qa, n.qm, n.qc, n.la, n.lm, n.lc, d, n.ga, n.gm, n.gc⟩) rfl _ rfl (set7_obj (other_g (set25_grown _ _ _ _ _ _) hr2 (by omega)) _ _ _ _ _ _ _)) rfl ⟨⟨n.qa, n.qm, n.qc, n.la, n.lm, n.lc, d, n.ga, n.gm, n.gc⟩, rfl, ⟨h.q.to (below_g (below_g hT2 (set25_grown _ _ _ _ _ _) (Nat.le_refl _)) (set7_grown _ _ _ _ _ _ _ _ _) (by omega)), h.l.to (below_g (below_g hT2 (set25_grown _ _ _ _ _ _) (Nat.le_refl _)) (set7_grown _ _ _ _ _ _ _ _ _) (by omega)), rfl, h.g.to (below_g (below_g hT2 (set25_grown _ _ _ _ _ _) (Nat.le_refl _)) (set7_grown _ _ _ _ _ _ _ _ _) (by omega))⟩, (below_g (below_g hT2 (set25_grown _ _ _ _ _ _) (Nat.le_refl _)) (set7_grown _ _ _ _ _ _ _ _ _) (by omega))⟩
end Go.Proofs.YtcifjccojmfpaaaGreat

namespace Go.Proofs.YtcifjccojmfpaaaGreat
open Go.RowKit
set_option linter.unusedVariables false
set_option linter.unusedSimpArgs false
theorem refQuiet_c {w : World} {P : Nat → Prop} {n : NV} {N : NC} (h : NIs w P n N) (hok : OkN N) (M : NC) (hM : quietN N = M) :
    Calls Tryz.prog 48 #[n.v] w fun e w' => ∃ n' : NV, e = .returned n'.v ∧ NIs w' P n' M ∧ Below w.heap.size w w' := by
  subst hM
  have hk := okC_of_nis h hok
  obtain ⟨d, hd⟩ : ∃ d, stepV n.k 6 = d := ⟨_, rfl⟩
  have Hd := Lib.hid hd
  have HD := Lib.hid (show d = stepV N.k 6 by rw [← h.k, hd])
  clear hd
  obtain ⟨w0, hw0⟩ : ∃ w0, ((w.alloc (.cells #[.slice n.qa n.qm n.qc, .slice n.la n.lm n.lc, .int .i64 n.k.t, .int .i64 n.k.r, .int .i64 n.k.s, .int .i64 n.k.q, .slice n.ga n.gm n.gc] 49)).alloc (.cells #[.slice none 0 0, .slice none 0 0, .int .i64 0, .int .i64 0, .int .i64 0, .int .i64 0, .slice none 0 0] 49)) = w0 := ⟨_, rfl⟩
  have hT0 : Below w.heap.size w w0 := by rw [← hw0]; exact below_then (below_alloc1 _ _) (below_alloc1 _ _)
  have hn0 : w0.heap[w.heap.size]? = some (.cells #[.slice n.qa n.qm n.qc, .slice n.la n.lm n.lc, .int .i64 n.k.t, .int .i64 n.k.r, .int .i64 n.k.s, .int .i64 n.k.q, .slice n.ga n.gm n.gc] 49) := by rw [← hw0]; exact block_below (below_alloc1 _ _) (World.alloc_heap_new _ _)
  have hr0 : w0.heap[(w.heap.size + 1)]? = some (.cells #[.slice none 0 0, .slice none 0 0, .int .i64 0, .int .i64 0, .int .i64 0, .int .i64 0, .slice none 0 0] 49) := by rw [← hw0]; exact alloc_at _ _ (by simp)
  have hs0 : w0.heap.size = w.heap.size + 2 := by rw [← hw0]; simp
  have Hs0 := Lib.hid hs0
  clear hs0
  obtain ⟨nc0, nc1, nc2, nc3, nc4, nc5, nc6⟩ := cells7' hn0
  obtain ⟨rc0, rc1, rc2, rc3, rc4, rc5, rc6⟩ := cells7' hr0
  go_enter Tryz.func48, Tryz.ntmps48
  go_wp2_with fail
  clear nc0 nc1 nc2 nc3 nc4 nc5 nc6 rc0 rc1 rc2 rc3 rc4 rc5 rc6
  clear hw0
  have hZ0 := Below.refl w0.heap.size w0
  refine (refStep_any n.k d 6 Hd.out hk w0).mono ?_
  rintro e w1 ⟨rfl, hB1⟩
  have hT1 := below_then hT0 hB1
  have hZ1 := below_then hZ0 hB1
  clear hZ0
  have hn1 := block_below hB1 hn0
  have hr1 := block_below hB1 hr0
  clear hT0 hn0 hr0  hB1
  obtain ⟨⟨nc0, nc1, nc2, nc3, nc4, nc5, nc6⟩, nf0, nf1, nf2, nf3, nf4, nf5, nf6⟩ := cells7 hn1
  obtain ⟨⟨rc0, rc1, rc2, rc3, rc4, rc5, rc6⟩, rf0, rf1, rf2, rf3, rf4, rf5, rf6⟩ := cells7 hr1
  go_wp2_with fail
  clear nc0 nc1 nc2 nc3 nc4 nc5 nc6 nf0 nf1 nf2 nf3 nf4 nf5 nf6 rc0 rc1 rc2 rc3 rc4 rc5 rc6 rf0 rf1 rf2 rf3 rf4 rf5 rf6
  exact bodyPost_ret (v := NV.v ⟨n.qa, n.qm, n.qc, n.la, n.lm, n.lc, d, n.ga, n.gm, n.gc⟩) (results_n (n := ⟨n.qa, n.qm, n.qc, n.la, n.lm, n.lc, d, n.ga, n.gm, n.gc⟩) rfl _ rfl (set7_obj (other_g (set25_grown _ _ _ _ _ _) hr1 (by omega)) _ _ _ _ _ _ _)) rfl ⟨⟨n.qa, n.qm, n.qc, n.la, n.lm, n.lc, d, n.ga, n.gm, n.gc⟩, rfl, ⟨h.q.to (below_g (below_g hT1 (set25_grown _ _ _ _ _ _) (Nat.le_refl _)) (set7_grown _ _ _ _ _ _ _ _ _) (by omega)), h.l.to (below_g (below_g hT1 (set25_grown _ _ _ _ _ _) (Nat.le_refl _)) (set7_grown _ _ _ _ _ _ _ _ _) (by omega)), HD.out, h.g.to (below_g (below_g hT1 (set25_grown _ _ _ _ _ _) (Nat.le_refl _)) (set7_grown _ _ _ _ _ _ _ _ _) (by omega))⟩, (below_g (below_g hT1 (set25_grown _ _ _ _ _ _) (Nat.le_refl _)) (set7_grown _ _ _ _ _ _ _ _ _) (by omega))⟩
end Go.Proofs.YtcifjccojmfpaaaGreat

namespace Go.Proofs.YtcifjccojmfpaaaGreat
open Go.RowKit
set_option linter.unusedVariables false
set_option linter.unusedSimpArgs false
theorem ownBlock_ne {A : Option Addr} {n c X : Nat} (h : ∀ Y ∈ ownL A, Y ≠ X) : some X ≠ (Value.slice A n c).ownBlock := by
  cases A with
  | none => exact fun e => by cases e
  | some a => exact fun e => h a.block (by simp [ownL]) (Option.some.inj e).symm
theorem box_app {w w' : World} {A : Option Addr} {n c X : Nat} {o : Obj} (h : w.heap[X]? = some o) (g : w.grownBy w' (Value.slice A n c).ownBlock) (hne : ∀ Y ∈ ownL A, Y ≠ X) : w'.heap[X]? = some o :=
  (g.block X (Array.getElem?_eq_some_iff.1 h).1 (ownBlock_ne hne)).trans h
theorem fis_plo_app {w w' : World} {P : Nat → Prop} {s : Nat} {A : Option Addr} {n c : Nat} {f : FV} {F : FC} (h : FIs w (PLo P s) f F) (g : w.grownBy w' (Value.slice A n c).ownBlock) (hge : ∀ Y ∈ ownL A, s ≤ Y) : FIs w' (PLo P s) f F := by
  cases A with
  | none => exact h.to ((Below.refl _ _).grown g (Nat.le_refl _) (fun k hk => by cases hk))
  | some a => exact h.grow (X := a.block) g (plo_not (hge _ (by simp [ownL])))
theorem ownL_ne {A A' : Option Addr} {X s : Nat} (h : ∀ Y ∈ ownL A, Y ≠ X) (e : ownL A' = ownL A ∨ ownL A' = [s]) (hX : X < s) : ∀ Y ∈ ownL A', Y ≠ X := by
  intro Y hY
  rcases e with e | e
  · rw [e] at hY; exact h Y hY
  · rw [e] at hY; simp at hY; omega
theorem gown_ne {V : Type} {cs : V → List Value} {sz : Nat} {t : TypeId} {w w' : World} {base : Nat} {A : Option Addr} {n c X : Nat} {vs : List V} (h : GOwn cs sz t w base A n c vs) (g : w.grownBy w' (some X)) (hX : ∀ Y ∈ ownL A, Y ≠ X) : GOwn cs sz t w' base A n c vs :=
  h.kept g (by
    cases A with
    | none => exact .inl rfl
    | some a => exact .inr (fun e' => hX a.block (by simp [ownL]) (Option.some.inj e')))
theorem refSlot_none {w : World} {P : Nat → Prop} {A : Option Addr} {n c : Nat} {Ns : List NC} {wa : Option Addr} {wn wc : Nat} {H : List Int} (h : NSl w P A n c Ns) (hok : OkNs Ns) (hm : n ≤ 100) (hH : Row .i64 w w.heap.size wa H) (hHl : H.length = wn) (hwm : wn ≤ 1000) (hP : ∀ b, w.heap.size ≤ b → P b) (hw : winN Ns = -1) :
    Calls Tryz.prog 19 #[.slice A n c, .agg #[.slice wa wn wc]] w fun e w' => ∃ (A' : Option Addr) (c' : Nat) (t : TV), e = .returned (.tuple #[.slice A' n c', t.v]) ∧ NSl w' P A' n c' (slotN Ns H) ∧ TIs w' P t (toldN lenZ Ns H) ∧ Below w.heap.size w w' := by
  have Hok := Lib.hid hok
  have Hl := Lib.hid h.len
  have HHl := Lib.hid hHl
  have hlen := h.len
  have hS : NSl w (PLo P w.heap.size) A n c Ns := h.mono plo_up
  clear hok hHl h
  have Hw := Lib.hid hw
  have Hq := Lib.hid (show ∀ k, slotTo Ns H (k + 1) = slotTo Ns H k ++ [quietN (nd Ns k)] by intro k; rw [slotTo, if_pos (by rw [hw]; decide)])
  clear hw
  obtain ⟨w0, hw0⟩ : ∃ w0, ((w.alloc (.cells #[.slice wa wn wc] 41)).alloc (.cells #[.int .i64 0, .bool false, .int .i64 0, .bool false, .int .i64 0, .slice none 0 0, .bool false, .int .i64 0] 36)) = w0 := ⟨_, rfl⟩
  have hT0 : Below w.heap.size w w0 := by rw [← hw0]; exact below_then (below_alloc1 _ _) (below_alloc1 _ _)
  have hh0 : w0.heap[w.heap.size]? = some (.cells #[.slice wa wn wc] 41) := by rw [← hw0]; exact block_below (below_alloc1 _ _) (World.alloc_heap_new _ _)
  have hd0 : w0.heap[(w.heap.size + 1)]? = some (.cells #[.int .i64 0, .bool false, .int .i64 0, .bool false, .int .i64 0, .slice none 0 0, .bool false, .int .i64 0] 36) := by rw [← hw0]; exact alloc_at _ _ (by simp)
  have hs0 : w0.heap.size = w.heap.size + 2 := by rw [← hw0]; simp
  have Hs0 := Lib.hid hs0
  clear hs0
  have hlh := (Array.getElem?_eq_some_iff.1 hh0).1
  have hc0 := cells1' hh0
  have hld := (Array.getElem?_eq_some_iff.1 hd0).1
  obtain ⟨dc0, dc1, dc2, dc3, dc4, dc5, dc6, dc7⟩ := cells8' hd0
  go_enter Tryz.func19, Tryz.ntmps19
  go_wp2_with fail
  clear hlh hc0 hld dc0 dc1 dc2 dc3 dc4 dc5 dc6 dc7
  clear hw0
  have hZ0 := Below.refl w0.heap.size w0
  have hs0_ := Hs0.out
  obtain ⟨w1, hw1⟩ : ∃ w_, w0.alloc (.cells #[] 49) = w_ := ⟨_, rfl⟩
  have hB1 : Below w0.heap.size w0 w1 := by rw [← hw1]; exact below_alloc1 _ _
  have hO_ : NOwn w1 (w.heap.size + 2) (some ⟨w0.heap.size, 0, none⟩) 0 0 [] := by rw [← hw1]; exact gown_empty shN w0 _ _ rfl (by omega)
  rw [hw1]
  clear hw1 hs0_
  have hT1 := below_then hT0 hB1
  have hZ1 := below_then hZ0 hB1
  clear hZ0
  have hh1 := block_below hB1 hh0
  have hd1 := block_below hB1 hd0
  clear hT0 hh0 hd0  hB1
  have hO1 := hO_
  clear hO_
  obtain ⟨e0, he0⟩ : ∃ e0, w0.heap.size = e0 := ⟨_, rfl⟩
  rw [he0] at hO1
  rw [he0]
  have He0 := Lib.hid he0
  clear he0
  refine (winner_c (hS.to hT1) Hok.out hm (-1) Hw.out).mono ?_
  rintro e w2 ⟨rfl, hB2⟩
  have hT2 := below_then hT1 hB2
  have hZ2 := below_then hZ1 hB2
  clear hZ1
  have hh2 := block_below hB2 hh1
  have hd2 := block_below hB2 hd1
  have hO2 := GOwn.to hO1 hB2
  clear hT1 hh1 hd1 hO1 hB2
  have hlh := (Array.getElem?_eq_some_iff.1 hh2).1
  have hc0 := cells1' hh2
  have hld := (Array.getElem?_eq_some_iff.1 hd2).1
  obtain ⟨dc0, dc1, dc2, dc3, dc4, dc5, dc6, dc7⟩ := cells8' hd2
  go_wp2_with fail
  clear hlh hc0 hld dc0 dc1 dc2 dc3 dc4 dc5 dc6 dc7
  go_loopw [6, 8] (fun o i wr => ∃ (k c2 : Nat) (A2 : Option Addr) (ns : List NV), k ≤ n ∧ i = .int .i64 k ∧ o = .slice A2 k c2 ∧ NOwn wr (w.heap.size + 2) A2 k c2 ns ∧ NsIs wr (Off P ([(w.heap.size + 1)] ++ ownL A2)) ns (slotTo Ns H k) ∧ wr.heap[w.heap.size]? = some (.cells #[.slice wa wn wc] 41) ∧ wr.heap[(w.heap.size + 1)]? = some (.cells #[.int .i64 0, .bool false, .int .i64 0, .bool false, .int .i64 0, .slice none 0 0, .bool false, .int .i64 0] 36) ∧ Below w.heap.size w wr) (fun _ i _ => n - (intOf i).toNat)
  case atStart => exact ⟨0, 0, _, [], Nat.zero_le _, rfl, rfl, hO2, AllIs.nil, hh2, hd2, hT2⟩
  case round =>
    clear hh2 hd2 hO2 hT2 hZ2
    obtain ⟨k, c2, A2, ns, hk, rfl, rfl, hO50, hA50, hh50, hd50, hT50⟩ := hrel
    by_cases hlt : k < n
    · skip
      have j1 : (k : Int) < (n : Int) := by omega
      obtain ⟨ad, m, ea_, hAt50, hV50⟩ := NSl.at_ (hS.to hT50) hlt
      obtain ⟨N, hN_⟩ : ∃ N_, Ns.getD k zeroN = N_ := ⟨_, rfl⟩
      rw [hN_] at hV50
      have HN := Lib.hid hN_
      clear hN_
      subst ea_
      have HokN := Lib.hid (show OkN N by rw [← HN.out]; exact Hok.out.at_ (by rw [Hl.out]; exact hlt))
      have ht_ := hAt50
      obtain ⟨t0, t1, t2, t3, t4, t5, t6⟩ := ht_
      go_wp2_with fail
      clear t0 t1 t2 t3 t4 t5 t6
      have hV250 := hV50.mono (plo_off hO50 (X := (w.heap.size + 1)) (by omega) (by omega))
      clear hV50
      obtain ⟨M, hM⟩ : ∃ q, quietN N = q := ⟨_, rfl⟩
      have HM := Lib.hid hM
      clear hM
      refine (refQuiet_c hV250 HokN.out M HM.out).mono ?_
      rintro e w51 ⟨m2, rfl, hV_, hB51⟩
      have hT51 := below_then hT50 hB51
      have hh51 := block_below hB51 hh50
      have hd51 := block_below hB51 hd50
      have hO51 := GOwn.to hO50 hB51
      have hA51 := NsIs.to hA50 hB51
      have hAt51 := nat_to hAt50 hB51
      have hV251 := NIs.to hV250 hB51
      clear hT50 hh50 hd50 hO50 hA50 hAt50 hV250 hB51
      have hV51 := hV_
      clear hV_
      clear hAt51
      clear hV251
      have hOx : NOwn (w51.alloc (.cells #[.slice m2.qa m2.qm m2.qc, .slice m2.la m2.lm m2.lc, .int .i64 m2.k.t, .int .i64 m2.k.r, .int .i64 m2.k.s, .int .i64 m2.k.q, .slice m2.ga m2.gm m2.gc] 49)) (w.heap.size + 2) A2 k c2 ns := GOwn.to hO51 (below_alloc1 _ _)
      have hAx : NsIs (w51.alloc (.cells #[.slice m2.qa m2.qm m2.qc, .slice m2.la m2.lm m2.lc, .int .i64 m2.k.t, .int .i64 m2.k.r, .int .i64 m2.k.s, .int .i64 m2.k.q, .slice m2.ga m2.gm m2.gc] 49)) (Off P ([(w.heap.size + 1)] ++ ownL A2)) ns (slotTo Ns H k) := NsIs.to hA51 (below_alloc1 _ _)
      have hVx : NIs (w51.alloc (.cells #[.slice m2.qa m2.qm m2.qc, .slice m2.la m2.lm m2.lc, .int .i64 m2.k.t, .int .i64 m2.k.r, .int .i64 m2.k.s, .int .i64 m2.k.q, .slice m2.ga m2.gm m2.gc] 49)) (Off P ([(w.heap.size + 1)] ++ ownL A2)) m2 M := NIs.to hV51 (below_alloc1 _ _)
      have hTx := below_then hT51 (below_alloc1 w51 (.cells #[.slice m2.qa m2.qm m2.qc, .slice m2.la m2.lm m2.lc, .int .i64 m2.k.t, .int .i64 m2.k.r, .int .i64 m2.k.s, .int .i64 m2.k.q, .slice m2.ga m2.gm m2.gc] 49))
      have hdx := (Array.getElem?_eq_some_iff.1 hd51).1
      have hbx : (w.heap.size + 2) ≤ (w51.alloc (.cells #[.slice m2.qa m2.qm m2.qc, .slice m2.la m2.lm m2.lc, .int .i64 m2.k.t, .int .i64 m2.k.r, .int .i64 m2.k.s, .int .i64 m2.k.q, .slice m2.ga m2.gm m2.gc] 49)).heap.size := by simp; omega
      have hbh := block_below (below_alloc1 w51 (.cells #[.slice m2.qa m2.qm m2.qc, .slice m2.la m2.lm m2.lc, .int .i64 m2.k.t, .int .i64 m2.k.r, .int .i64 m2.k.s, .int .i64 m2.k.q, .slice m2.ga m2.gm m2.gc] 49)) hh51
      have hbd := block_below (below_alloc1 w51 (.cells #[.slice m2.qa m2.qm m2.qc, .slice m2.la m2.lm m2.lc, .int .i64 m2.k.t, .int .i64 m2.k.r, .int .i64 m2.k.s, .int .i64 m2.k.q, .slice m2.ga m2.gm m2.gc] 49)) hd51
      have hlh := (Array.getElem?_eq_some_iff.1 hh51).1
      have hc0 := cells1' hh51
      have hld := (Array.getElem?_eq_some_iff.1 hd51).1
      obtain ⟨dc0, dc1, dc2, dc3, dc4, dc5, dc6, dc7⟩ := cells8' hd51
      go_wp2_with (at_builtin; refine wpList_append_g shN Tryz.infoN _ rfl _ _ rfl (w.heap.size + 2) A2 k c2 ns rfl hOx _ 1 _ _ [m2] rfl rfl (GRow.lit w51 [m2] rfl rfl) (by omega) hbx ?_; intro A3 c3 w90 hO90 hc90 hg90 he90 hB90)
      clear hlh hc0 hld dc0 dc1 dc2 dc3 dc4 dc5 dc6 dc7
      have hA90 := AllIs.append (nsis_off hAx hg90 he90) (AllIs.one (nis_off hVx hg90 he90))
      have hT90 : Below w.heap.size w w90 := hTx.trans (hB90.mono (by omega))
      have hh90 := (hB90.block _ (by omega)).trans hbh
      have hd90 := (hB90.block _ (by omega)).trans hbd
      go_round
      case measure => simp [intOf]; omega
      exact ⟨k + 1, c3, A3, ns ++ [m2], by omega, by go_num, rfl, hO90, (by rw [Hq.out k, show nd Ns k = N from HN.out, HM.out]; exact hA90), hh90, hd90, hT90⟩
    obtain rfl : k = n := by omega
    have j1 : ¬ (k : Int) < (k : Int) := by omega
    have hlh := (Array.getElem?_eq_some_iff.1 hh50).1
    have hc0 := cells1' hh50
    have hld := (Array.getElem?_eq_some_iff.1 hd50).1
    obtain ⟨⟨dc0, dc1, dc2, dc3, dc4, dc5, dc6, dc7⟩, df0, df1, df2, df3, df4, df5, df6, df7⟩ := cells8 hd50
    go_wp2_with fail
    clear hlh hc0 hld dc0 dc1 dc2 dc3 dc4 dc5 dc6 dc7 df0 df1 df2 df3 df4 df5 df6 df7
    exact bodyPost_ret (v := .tuple #[.slice A2 k c2, TV.v ⟨-1, zeroFV, false, 11⟩]) (results_st (n := ⟨-1, zeroFV, false, 11⟩) rfl _ rfl rfl (set8_obj hd50 _ _ _ _ _ _ _ _)) rfl ⟨A2, c2, ⟨-1, zeroFV, false, 11⟩, rfl, NSl.own (base := w.heap.size) ((GOwn.grow hO50 (set8_grown _ _ _ _ _ _ _ _ _ _) (by omega)).mono (by omega)) (by unfold slotN; rw [hlen]; exact (NsIs.grow hA50 (set8_grown _ _ _ _ _ _ _ _ _ _) (off_not (by simp))).mono off_base) (by omega) hP, (by unfold toldN; rw [Hw.out]; exact ⟨rfl, fis_zero, rfl, rfl⟩), below_g hT50 (set8_grown _ _ _ _ _ _ _ _ _ _) (by omega)⟩
theorem gown_ne9.grow {V : Type} {cs : V → List Value} {sz : Nat} {t : TypeId} {w w' : World} {base : Nat} {A : Option Addr} {n c X : Nat} {vs : List V} (h : GOwn cs sz t w base A n c vs) (g : w.grownBy w' (some X)) (hX : ∀ Y ∈ ownL A, Y ≠ X) : GOwn cs sz t w' base A n c vs := gown_ne h g hX
theorem plo_off2 {s t X X2 base n c : Nat} {P : Nat → Prop} {w : World} {A : Option Addr} {V : Type} {cs : V → List Value} {sz : Nat} {ty : TypeId} {vs : List V} (h : GOwn cs sz ty w base A n c vs) (hX : X < base) (hs : s ≤ X) (hs2 : s ≤ X2) : ∀ b, b < t → PLo P s b → Off P ([X2, X] ++ ownL A) b := by
  intro b hb hp
  have h1 := plo_off h hX hs b hb hp
  refine ⟨hp.1, fun Y hY => ?_⟩
  rcases List.mem_cons.1 hY with rfl | hY
  · have := hp.2; omega
  · exact h1.2 Y hY
theorem refSlot_some {w : World} {P : Nat → Prop} {A : Option Addr} {n c : Nat} {Ns : List NC} {wa : Option Addr} {wn wc : Nat} {H : List Int} (h : NSl w P A n c Ns) (hok : OkNs Ns) (hm : n ≤ 100) (hH : Row .i64 w w.heap.size wa H) (hHl : H.length = wn) (hwm : wn ≤ 1000) (hP : ∀ b, w.heap.size ≤ b → P b) (a : Nat) (hw : winN Ns = a) :
    Calls Tryz.prog 19 #[.slice A n c, .agg #[.slice wa wn wc]] w fun e w' => ∃ (A' : Option Addr) (c' : Nat) (t : TV), e = .returned (.tuple #[.slice A' n c', t.v]) ∧ NSl w' P A' n c' (slotN Ns H) ∧ TIs w' P t (toldN lenZ Ns H) ∧ Below w.heap.size w w' := by
  have Hok := Lib.hid hok
  have Hl := Lib.hid h.len
  have HHl := Lib.hid hHl
  have hlen := h.len
  have hS : NSl w (PLo P w.heap.size) A n c Ns := h.mono plo_up
  clear hok hHl h
  have Hw := Lib.hid hw
  have ha : a < n := by have := winTo_lt Ns Ns.length; rw [show winTo Ns Ns.length = a from hw, hlen] at this; omega
  obtain ⟨F, hF_⟩ : ∃ F, winF Ns = F := ⟨_, rfl⟩
  have HFw := Lib.hid hF_
  have HFr := Lib.hid (show rightC F = true by rw [← hF_]; exact winF_right Hok.out (by omega))
  have j3 : ¬ (a : Int) < 0 := by omega
  have j4 : (a : Int) < (n : Int) := by omega
  obtain ⟨bad, hbad⟩ : ∃ bad, hitN Ns H = bad := ⟨_, rfl⟩
  obtain ⟨ak, hak⟩ : ∃ ak, ackN Ns = ak := ⟨_, rfl⟩
  obtain ⟨ok, hok_⟩ : ∃ ok, okS Ns H = ok := ⟨_, rfl⟩
  have Hoe := Lib.hid (show (!bad && ak) = ok by rw [← hok_, ← hbad, ← hak]; rfl)
  have Hbad := Lib.hid hbad
  have Hak := Lib.hid hak
  have HOK := Lib.hid hok_
  have Hq := Lib.hid (show ∀ k, slotTo Ns H (k + 1) = slotTo Ns H k ++ [afterN Ns H k] by intro k; rw [slotTo, if_neg (by rw [hw]; omega)])
  obtain ⟨L, hL⟩ : ∃ L, lenC F = L := ⟨_, rfl⟩
  have hLe : L ≤ 1000 := by rw [← hL]; exact lenC_le HFr.out
  have HL := Lib.hid hL
  clear hw hF_ hbad hak hok_ hL
  obtain ⟨w0, hw0⟩ : ∃ w0, ((w.alloc (.cells #[.slice wa wn wc] 41)).alloc (.cells #[.int .i64 0, .bool false, .int .i64 0, .bool false, .int .i64 0, .slice none 0 0, .bool false, .int .i64 0] 36)) = w0 := ⟨_, rfl⟩
  have hT0 : Below w.heap.size w w0 := by rw [← hw0]; exact below_then (below_alloc1 _ _) (below_alloc1 _ _)
  have hh0 : w0.heap[w.heap.size]? = some (.cells #[.slice wa wn wc] 41) := by rw [← hw0]; exact block_below (below_alloc1 _ _) (World.alloc_heap_new _ _)
  have hd0 : w0.heap[(w.heap.size + 1)]? = some (.cells #[.int .i64 0, .bool false, .int .i64 0, .bool false, .int .i64 0, .slice none 0 0, .bool false, .int .i64 0] 36) := by rw [← hw0]; exact alloc_at _ _ (by simp)
  have hs0 : w0.heap.size = w.heap.size + 2 := by rw [← hw0]; simp
  have Hs0 := Lib.hid hs0
  clear hs0
  have hlh := (Array.getElem?_eq_some_iff.1 hh0).1
  have hc0 := cells1' hh0
  have hld := (Array.getElem?_eq_some_iff.1 hd0).1
  obtain ⟨dc0, dc1, dc2, dc3, dc4, dc5, dc6, dc7⟩ := cells8' hd0
  go_enter Tryz.func19, Tryz.ntmps19
  go_wp2_with fail
  clear hlh hc0 hld dc0 dc1 dc2 dc3 dc4 dc5 dc6 dc7
  clear hw0
  have hZ0 := Below.refl w0.heap.size w0
  have hs0_ := Hs0.out
  obtain ⟨w1, hw1⟩ : ∃ w_, w0.alloc (.cells #[] 49) = w_ := ⟨_, rfl⟩
  have hB1 : Below w0.heap.size w0 w1 := by rw [← hw1]; exact below_alloc1 _ _
  have hO_ : NOwn w1 (w.heap.size + 2) (some ⟨w0.heap.size, 0, none⟩) 0 0 [] := by rw [← hw1]; exact gown_empty shN w0 _ _ rfl (by omega)
  rw [hw1]
  clear hw1 hs0_
  have hT1 := below_then hT0 hB1
  have hZ1 := below_then hZ0 hB1
  clear hZ0
  have hh1 := block_below hB1 hh0
  have hd1 := block_below hB1 hd0
  clear hT0 hh0 hd0  hB1
  have hO1 := hO_
  clear hO_
  obtain ⟨e0, he0⟩ : ∃ e0, w0.heap.size = e0 := ⟨_, rfl⟩
  rw [he0] at hO1
  rw [he0]
  have He0 := Lib.hid he0
  clear he0
  refine (winner_c (hS.to hT1) Hok.out hm a Hw.out).mono ?_
  rintro e w2 ⟨rfl, hB2⟩
  have hT2 := below_then hT1 hB2
  have hZ2 := below_then hZ1 hB2
  clear hZ1
  have hh2 := block_below hB2 hh1
  have hd2 := block_below hB2 hd1
  have hO2 := GOwn.to hO1 hB2
  clear hT1 hh1 hd1 hO1 hB2
  obtain ⟨ad, m, ea_, hAt2, hV2⟩ := NSl.at_ (hS.to hT2) ha
  obtain ⟨N, hN_⟩ : ∃ N_, Ns.getD a zeroN = N_ := ⟨_, rfl⟩
  rw [hN_] at hV2
  have HN := Lib.hid hN_
  clear hN_
  have HokN := Lib.hid (show OkN N by rw [← HN.out]; exact Hok.out.at_ (by rw [Hl.out]; exact ha))
  subst ea_
  have HFn := Lib.hid (show nextF N = F by rw [← HFw.out, ← HN.out]; unfold winF; rw [Hw.out, Int.toNat_natCast])
  have ht_ := hAt2
  obtain ⟨t0, t1, t2, t3, t4, t5, t6⟩ := ht_
  have hlh := (Array.getElem?_eq_some_iff.1 hh2).1
  have hc0 := cells1' hh2
  have hld := (Array.getElem?_eq_some_iff.1 hd2).1
  obtain ⟨dc0, dc1, dc2, dc3, dc4, dc5, dc6, dc7⟩ := cells8' hd2
  go_wp2_with fail
  clear t0 t1 t2 t3 t4 t5 t6 hlh hc0 hld dc0 dc1 dc2 dc3 dc4 dc5 dc6 dc7
  obtain ⟨b0, hb0⟩ : ∃ q, hasN N = q := ⟨_, rfl⟩
  have Hb0 := Lib.hid hb0
  clear hb0
  refine (refNext_c hV2 HokN.out b0 Hb0.out F HFn.out).mono ?_
  rintro e w3 ⟨f, rfl, hF_, hB3⟩
  have hT3 := below_then hT2 hB3
  have hZ3 := below_then hZ2 hB3
  clear hZ2
  have hh3 := block_below hB3 hh2
  have hd3 := block_below hB3 hd2
  have hO3 := GOwn.to hO2 hB3
  have hV3 := NIs.to hV2 hB3
  have hAt3 := nat_to hAt2 hB3
  clear hT2 hh2 hd2 hO2 hV2 hAt2 hB3
  have hF3 := hF_
  clear hF_
  clear hAt3
  clear hV3
  have hlh := (Array.getElem?_eq_some_iff.1 hh3).1
  have hc0 := cells1' hh3
  have hld := (Array.getElem?_eq_some_iff.1 hd3).1
  obtain ⟨dc0, dc1, dc2, dc3, dc4, dc5, dc6, dc7⟩ := cells8' hd3
  go_wp2_with fail
  clear hlh hc0 hld dc0 dc1 dc2 dc3 dc4 dc5 dc6 dc7
  have hOf := (fun Y hY => Nat.ne_of_lt (gown_lt hO3 Y hY) : ∀ Y ∈ ownL _, Y ≠ w3.heap.size)
  have HOf := Lib.hid hOf
  clear hOf
  have hgef : w.heap.size ≤ w3.heap.size := hT3.size
  have Hh_f := Lib.hid (show w.heap.size ≠ w3.heap.size from Nat.ne_of_lt (Array.getElem?_eq_some_iff.1 hh3).1)
  have Hf_h := Lib.hid (show w3.heap.size ≠ w.heap.size from Ne.symm Hh_f.out)
  have Hd_f := Lib.hid (show (w.heap.size + 1) ≠ w3.heap.size from Nat.ne_of_lt (Array.getElem?_eq_some_iff.1 hd3).1)
  have Hf_d := Lib.hid (show w3.heap.size ≠ (w.heap.size + 1) from Ne.symm Hd_f.out)
  obtain ⟨w4, hw4⟩ : ∃ w4, w3.alloc (.cells #[.bool f.x, .int .i64 f.i, .bool f.r, .int .i64 f.n, .slice f.a f.m f.c] 34) = w4 := ⟨_, rfl⟩
  have hB4 : Below w3.heap.size w3 w4 := by rw [← hw4]; exact below_alloc1 _ _
  have hf4 : w4.heap[w3.heap.size]? = some (.cells #[.bool f.x, .int .i64 f.i, .bool f.r, .int .i64 f.n, .slice f.a f.m f.c] 34) := by rw [← hw4]; exact World.alloc_heap_new _ _
  rw [hw4]
  clear hw4
  have hT4 := below_then hT3 hB4
  have hZ4 := below_then hZ3 hB4
  clear hZ3
  have hh4 := block_below hB4 hh3
  have hd4 := block_below hB4 hd3
  have hO4 := GOwn.to hO3 hB4
  have hF4 := FIs.to hF3 hB4
  clear hT3 hh3 hd3 hO3 hF3 hB4
  refine (hit_c (hS.to hT4) Hok.out hm (hH.to hT4) HHl.out hwm a Hw.out bad Hbad.out).mono ?_
  rintro e w5 ⟨rfl, hB5⟩
  have hT5 := below_then hT4 hB5
  have hZ5 := below_then hZ4 hB5
  clear hZ4
  have hh5 := block_below hB5 hh4
  have hd5 := block_below hB5 hd4
  have hf5 := block_below hB5 hf4
  have hO5 := GOwn.to hO4 hB5
  have hF5 := FIs.to hF4 hB5
  clear hT4 hh4 hd4 hf4 hO4 hF4 hB5
  go_upto_region 10 with fail
  go_cut [12] from 47 to 52 (fun o wc => o = .bool ok ∧ Below w5.heap.size w5 wc)
  case first =>
    cases bad
    rotate_left
    · skip
      obtain rfl : false = ok := by rw [← Hoe.out]; rfl
      go_wp2_with fail
      go_meet
      exact ⟨rfl, Below.refl _ _⟩
    obtain rfl : ak = ok := by rw [← Hoe.out]; rfl
    go_wp2_with fail
    refine (ack_c (hS.to hT5) Hok.out hm ak Hak.out).mono ?_
    rintro e wq ⟨rfl, hBq⟩
    go_wp2_with fail
    go_meet
    exact ⟨rfl, hBq⟩
  case rest =>
  obtain ⟨rfl, hB6⟩ := hcut
  obtain ⟨w6, e_⟩ : ∃ w_, w_ = wc := ⟨_, rfl⟩
  subst e_
  have hT6 := below_then hT5 hB6
  have hZ6 := below_then hZ5 hB6
  clear hZ5
  have hh6 := block_below hB6 hh5
  have hd6 := block_below hB6 hd5
  have hf6 := block_below hB6 hf5
  have hO6 := GOwn.to hO5 hB6
  have hF6 := FIs.to hF5 hB6
  clear hT5 hh5 hd5 hf5 hO5 hF5 hB6
  have hlh := (Array.getElem?_eq_some_iff.1 hh6).1
  have hc0 := cells1' hh6
  have hld := (Array.getElem?_eq_some_iff.1 hd6).1
  obtain ⟨dc0, dc1, dc2, dc3, dc4, dc5, dc6, dc7⟩ := cells8' hd6
  have hlf := (Array.getElem?_eq_some_iff.1 hf6).1
  obtain ⟨fc0, fc1, fc2, fc3, fc4⟩ := cells5' hf6
  go_wp2_with fail
  clear hlh hc0 hld dc0 dc1 dc2 dc3 dc4 dc5 dc6 dc7 hlf fc0 fc1 fc2 fc3 fc4
  go_loopw [6, 13] (fun o i wr => ∃ (k c2 : Nat) (A2 : Option Addr) (ns : List NV), k ≤ n ∧ i = .int .i64 k ∧ o = .slice A2 k c2 ∧ NOwn wr (w.heap.size + 2) A2 k c2 ns ∧ NsIs wr (Off P ([(w.heap.size + 1)] ++ ownL A2)) ns (slotTo Ns H k) ∧ Hid (∀ Y ∈ ownL A2, Y ≠ w3.heap.size) ∧ wr.heap[w.heap.size]? = some (.cells #[.slice wa wn wc] 41) ∧ wr.heap[(w.heap.size + 1)]? = some (.cells #[.int .i64 0, .bool false, .int .i64 0, .bool false, .int .i64 0, .slice none 0 0, .bool false, .int .i64 0] 36) ∧ wr.heap[w3.heap.size]? = some (.cells #[.bool f.x, .int .i64 f.i, .bool f.r, .int .i64 f.n, .slice f.a f.m f.c] 34) ∧ FIs wr (PLo P w.heap.size) f F ∧ Below w.heap.size w wr) (fun _ i _ => n - (intOf i).toNat)
  case atStart => exact ⟨0, 0, _, [], Nat.zero_le _, rfl, rfl, hO6, AllIs.nil, HOf, hh6, hd6, hf6, hF6, hT6⟩
  case round =>
    clear HOf hh6 hd6 hf6 hF6 hO6 hT6 hZ6
    obtain ⟨k, c2, A2, ns, hk, rfl, rfl, hO50, hA50, HOf, hh50, hd50, hf50, hF50, hT50⟩ := hrel
    by_cases hlt : k < n
    · skip
      have j1 : (k : Int) < (n : Int) := by omega
      obtain ⟨ad2, m, ea_, hAt50, hV50⟩ := NSl.at_ (hS.to hT50) hlt
      obtain ⟨N2, hN_⟩ : ∃ N_, Ns.getD k zeroN = N_ := ⟨_, rfl⟩
      rw [hN_] at hV50
      have HN2 := Lib.hid hN_
      clear hN_
      obtain rfl := Option.some.inj ea_
      clear ea_
      have HokN2 := Lib.hid (show OkN N2 by rw [← HN2.out]; exact Hok.out.at_ (by rw [Hl.out]; exact hlt))
      have Hks := Lib.hid (show m.k.s = N2.k.s by rw [hV50.k])
      have ht_ := hAt50
      obtain ⟨t0, t1, t2, t3, t4, t5, t6⟩ := ht_
      have hlh := (Array.getElem?_eq_some_iff.1 hh50).1
      have hc0 := cells1' hh50
      have hld := (Array.getElem?_eq_some_iff.1 hd50).1
      obtain ⟨dc0, dc1, dc2, dc3, dc4, dc5, dc6, dc7⟩ := cells8' hd50
      have hlf := (Array.getElem?_eq_some_iff.1 hf50).1
      obtain ⟨fc0, fc1, fc2, fc3, fc4⟩ := cells5' hf50
      go_wp2_with fail
      clear t0 t1 t2 t3 t4 t5 t6 hlh hc0 hld dc0 dc1 dc2 dc3 dc4 dc5 dc6 dc7 hlf fc0 fc1 fc2 fc3 fc4
      have HOx := Lib.hid (show ∀ Y ∈ ownL A2, Y ≠ wr.heap.size from fun Y hY => Nat.ne_of_lt (gown_lt hO50 Y hY))
      replace hV50 : NIs wr (Off P ([wr.heap.size, (w.heap.size + 1)] ++ ownL A2)) m N2 := (hV50.mono (plo_off hO50 (X := (w.heap.size + 1)) (by omega) (by omega))).mono (off_cons (Nat.le_refl _))
      replace hA50 : NsIs wr (Off P ([wr.heap.size, (w.heap.size + 1)] ++ ownL A2)) ns (slotTo Ns H k) := NsIs.mono hA50 (off_cons (Nat.le_refl _))
      have hgex : w.heap.size ≤ wr.heap.size := hT50.size
      have Hh_x := Lib.hid (show w.heap.size ≠ wr.heap.size from Nat.ne_of_lt (Array.getElem?_eq_some_iff.1 hh50).1)
      have Hx_h := Lib.hid (show wr.heap.size ≠ w.heap.size from Ne.symm Hh_x.out)
      have Hd_x := Lib.hid (show (w.heap.size + 1) ≠ wr.heap.size from Nat.ne_of_lt (Array.getElem?_eq_some_iff.1 hd50).1)
      have Hx_d := Lib.hid (show wr.heap.size ≠ (w.heap.size + 1) from Ne.symm Hd_x.out)
      have Hf_x := Lib.hid (show w3.heap.size ≠ wr.heap.size from Nat.ne_of_lt (Array.getElem?_eq_some_iff.1 hf50).1)
      have Hx_f := Lib.hid (show wr.heap.size ≠ w3.heap.size from Ne.symm Hf_x.out)
      obtain ⟨w51, hw51⟩ : ∃ w51, wr.alloc (.cells #[.slice m.qa m.qm m.qc, .slice m.la m.lm m.lc, .int .i64 m.k.t, .int .i64 m.k.r, .int .i64 m.k.s, .int .i64 m.k.q, .slice m.ga m.gm m.gc] 49) = w51 := ⟨_, rfl⟩
      have hB51 : Below wr.heap.size wr w51 := by rw [← hw51]; exact below_alloc1 _ _
      have hx51 : w51.heap[wr.heap.size]? = some (.cells #[.slice m.qa m.qm m.qc, .slice m.la m.lm m.lc, .int .i64 m.k.t, .int .i64 m.k.r, .int .i64 m.k.s, .int .i64 m.k.q, .slice m.ga m.gm m.gc] 49) := by rw [← hw51]; exact World.alloc_heap_new _ _
      rw [hw51]
      clear hw51
      have hT51 := below_then hT50 hB51
      have hh51 := block_below hB51 hh50
      have hd51 := block_below hB51 hd50
      have hf51 := block_below hB51 hf50
      have hO51 := GOwn.to hO50 hB51
      have hA51 := NsIs.to hA50 hB51
      have hF51 := FIs.to hF50 hB51
      have hV51 := NIs.to hV50 hB51
      have hAt51 := nat_to hAt50 hB51
      clear hT50 hh50 hd50 hf50 hO50 hA50 hF50 hV50 hAt50 hB51
      obtain ⟨al, hal⟩ : ∃ q, alongN Ns k = q := ⟨_, rfl⟩
      have Hal := Lib.hid hal
      clear hal
      obtain ⟨ih, hih⟩ : ∃ q, inH H k = q := ⟨_, rfl⟩
      have Hih := Lib.hid hih
      clear hih
      have Hin := Lib.hid (show decide ((k : Int) ∈ H) = ih from Hih.out)
      cases al
      rotate_left
      · skip
        refine (along_c (hS.to hT51) Hok.out hm k hlt true Hal.out).mono ?_
        rintro e w52 ⟨rfl, hB52⟩
        have hT52 := below_then hT51 hB52
        have hh52 := block_below hB52 hh51
        have hd52 := block_below hB52 hd51
        have hf52 := block_below hB52 hf51
        have hx52 := block_below hB52 hx51
        have hO52 := GOwn.to hO51 hB52
        have hA52 := NsIs.to hA51 hB52
        have hF52 := FIs.to hF51 hB52
        have hV52 := NIs.to hV51 hB52
        have hAt52 := nat_to hAt51 hB52
        clear hT51 hh51 hd51 hf51 hx51 hO51 hA51 hF51 hV51 hAt51 hB52
        obtain ⟨M1, hM1⟩ : ∃ q, sentN N2 ok = q := ⟨_, rfl⟩
        have HM1 := Lib.hid hM1
        clear hM1
        cases ok
        rotate_left
        · skip
          have hlh := (Array.getElem?_eq_some_iff.1 hh52).1
          have hc0 := cells1' hh52
          have hld := (Array.getElem?_eq_some_iff.1 hd52).1
          obtain ⟨dc0, dc1, dc2, dc3, dc4, dc5, dc6, dc7⟩ := cells8' hd52
          have hlf := (Array.getElem?_eq_some_iff.1 hf52).1
          obtain ⟨fc0, fc1, fc2, fc3, fc4⟩ := cells5' hf52
          have hlx := (Array.getElem?_eq_some_iff.1 hx52).1
          obtain ⟨xc0, xc1, xc2, xc3, xc4, xc5, xc6⟩ := cells7' hx52
          go_wp2_with fail
          clear hlh hc0 hld dc0 dc1 dc2 dc3 dc4 dc5 dc6 dc7 hlf fc0 fc1 fc2 fc3 fc4 hlx xc0 xc1 xc2 xc3 xc4 xc5 xc6
          refine (refSent_c hV52 HokN2.out (off_up hO52 (L := [wr.heap.size, (w.heap.size + 1)]) (lt_cons (Array.getElem?_eq_some_iff.1 hx52).1 (lt_cons (Array.getElem?_eq_some_iff.1 hd52).1 (fun _ h => by cases h))) hP hT52.size) true M1 HM1.out).mono ?_
          rintro e w53 ⟨m2, rfl, hM_, hB53⟩
          have hT53 := below_then hT52 hB53
          have hh53 := block_below hB53 hh52
          have hd53 := block_below hB53 hd52
          have hf53 := block_below hB53 hf52
          have hx53 := block_below hB53 hx52
          have hO53 := GOwn.to hO52 hB53
          have hA53 := NsIs.to hA52 hB53
          have hF53 := FIs.to hF52 hB53
          have hV53 := NIs.to hV52 hB53
          have hAt53 := nat_to hAt52 hB53
          clear hT52 hh52 hd52 hf52 hx52 hO52 hA52 hF52 hV52 hAt52 hB53
          have hM53 := hM_
          clear hM_
          clear hV53
          clear hAt53
          have hlh := (Array.getElem?_eq_some_iff.1 hh53).1
          have hc0 := cells1' hh53
          have hld := (Array.getElem?_eq_some_iff.1 hd53).1
          obtain ⟨dc0, dc1, dc2, dc3, dc4, dc5, dc6, dc7⟩ := cells8' hd53
          have hlf := (Array.getElem?_eq_some_iff.1 hf53).1
          obtain ⟨fc0, fc1, fc2, fc3, fc4⟩ := cells5' hf53
          have hlx := (Array.getElem?_eq_some_iff.1 hx53).1
          obtain ⟨⟨xc0, xc1, xc2, xc3, xc4, xc5, xc6⟩, xf0, xf1, xf2, xf3, xf4, xf5, xf6⟩ := cells7 hx53
          go_wp2_with fail
          clear hlh hc0 hld dc0 dc1 dc2 dc3 dc4 dc5 dc6 dc7 hlf fc0 fc1 fc2 fc3 fc4 hlx xc0 xc1 xc2 xc3 xc4 xc5 xc6 xf0 xf1 xf2 xf3 xf4 xf5 xf6
          obtain ⟨w54, hw54⟩ : ∃ w_, set7 w53 wr.heap.size (.slice m2.qa m2.qm m2.qc) (.slice m2.la m2.lm m2.lc) (.int .i64 m2.k.t) (.int .i64 m2.k.r) (.int .i64 m2.k.s) (.int .i64 m2.k.q) (.slice m2.ga m2.gm m2.gc) = w_ := ⟨_, rfl⟩
          have hG54 : w53.grownBy w54 (some wr.heap.size) := by rw [← hw54]; exact set7_grown _ _ _ _ _ _ _ _ _
          have hT54 := below_g hT53 hG54 hgex
          have hh54 := other_g hG54 hh53 Hh_x.out
          have hd54 := other_g hG54 hd53 Hd_x.out
          have hf54 := other_g hG54 hf53 Hf_x.out
          have hx54 : w54.heap[wr.heap.size]? = some (.cells #[.slice m2.qa m2.qm m2.qc, .slice m2.la m2.lm m2.lc, .int .i64 m2.k.t, .int .i64 m2.k.r, .int .i64 m2.k.s, .int .i64 m2.k.q, .slice m2.ga m2.gm m2.gc] 49) := by rw [← hw54]; exact set7_obj hx53 _ _ _ _ _ _ _
          have hO54 := gown_ne9.grow hO53 hG54 HOx.out
          have hA54 := NsIs.grow hA53 hG54 (off_not (by simp))
          have hF54 := FIs.grow hF53 hG54 (plo_not hgex)
          have hM54 := NIs.grow hM53 hG54 (off_not (by simp))
          have Hsz54 := Lib.hid (show w54.heap.size = w53.heap.size by rw [← hw54]; simp [set7, World.setCell])
          unfold set7 at hw54
          rw [hw54]
          clear hw54 hG54 hT53 hh53 hd53 hf53 hx53 hO53 hA53 hF53 hM53
          refine (along_c (hS.to hT54) Hok.out hm k hlt true Hal.out).mono ?_
          rintro e w55 ⟨rfl, hB55⟩
          have hT55 := below_then hT54 hB55
          have hh55 := block_below hB55 hh54
          have hd55 := block_below hB55 hd54
          have hf55 := block_below hB55 hf54
          have hx55 := block_below hB55 hx54
          have hO55 := GOwn.to hO54 hB55
          have hA55 := NsIs.to hA54 hB55
          have hF55 := FIs.to hF54 hB55
          have hM55 := NIs.to hM54 hB55
          clear hT54 hh54 hd54 hf54 hx54 hO54 hA54 hF54 hM54 hB55
          have hV55 := hM55
          clear hM55
          have Hst := Lib.hid (show afterN Ns H k = M1 by unfold afterN; rw [Hal.out, if_pos rfl, HOK.out, Hbad.out, show nd Ns k = N2 from HN2.out, if_pos (by rfl), HM1.out])
          have hXne := hgex
          have hOx : NOwn (w55.alloc (.cells #[.slice m2.qa m2.qm m2.qc, .slice m2.la m2.lm m2.lc, .int .i64 m2.k.t, .int .i64 m2.k.r, .int .i64 m2.k.s, .int .i64 m2.k.q, .slice m2.ga m2.gm m2.gc] 49)) (w.heap.size + 2) A2 k c2 ns := GOwn.to hO55 (below_alloc1 _ _)
          have hAx : NsIs (w55.alloc (.cells #[.slice m2.qa m2.qm m2.qc, .slice m2.la m2.lm m2.lc, .int .i64 m2.k.t, .int .i64 m2.k.r, .int .i64 m2.k.s, .int .i64 m2.k.q, .slice m2.ga m2.gm m2.gc] 49)) (Off P ([wr.heap.size, (w.heap.size + 1)] ++ ownL A2)) ns (slotTo Ns H k) := NsIs.to hA55 (below_alloc1 _ _)
          have hVx : NIs (w55.alloc (.cells #[.slice m2.qa m2.qm m2.qc, .slice m2.la m2.lm m2.lc, .int .i64 m2.k.t, .int .i64 m2.k.r, .int .i64 m2.k.s, .int .i64 m2.k.q, .slice m2.ga m2.gm m2.gc] 49)) (Off P ([wr.heap.size, (w.heap.size + 1)] ++ ownL A2)) m2 M1 := NIs.to hV55 (below_alloc1 _ _)
          have hTx := below_then hT55 (below_alloc1 w55 (.cells #[.slice m2.qa m2.qm m2.qc, .slice m2.la m2.lm m2.lc, .int .i64 m2.k.t, .int .i64 m2.k.r, .int .i64 m2.k.s, .int .i64 m2.k.q, .slice m2.ga m2.gm m2.gc] 49))
          have hdx := (Array.getElem?_eq_some_iff.1 hd55).1
          have hbx : (w.heap.size + 2) ≤ (w55.alloc (.cells #[.slice m2.qa m2.qm m2.qc, .slice m2.la m2.lm m2.lc, .int .i64 m2.k.t, .int .i64 m2.k.r, .int .i64 m2.k.s, .int .i64 m2.k.q, .slice m2.ga m2.gm m2.gc] 49)).heap.size := by simp; omega
          have hbh := block_below (below_alloc1 w55 (.cells #[.slice m2.qa m2.qm m2.qc, .slice m2.la m2.lm m2.lc, .int .i64 m2.k.t, .int .i64 m2.k.r, .int .i64 m2.k.s, .int .i64 m2.k.q, .slice m2.ga m2.gm m2.gc] 49)) hh55
          have hbd := block_below (below_alloc1 w55 (.cells #[.slice m2.qa m2.qm m2.qc, .slice m2.la m2.lm m2.lc, .int .i64 m2.k.t, .int .i64 m2.k.r, .int .i64 m2.k.s, .int .i64 m2.k.q, .slice m2.ga m2.gm m2.gc] 49)) hd55
          have hbf := block_below (below_alloc1 w55 (.cells #[.slice m2.qa m2.qm m2.qc, .slice m2.la m2.lm m2.lc, .int .i64 m2.k.t, .int .i64 m2.k.r, .int .i64 m2.k.s, .int .i64 m2.k.q, .slice m2.ga m2.gm m2.gc] 49)) hf55
          have hFx := FIs.to hF55 (below_alloc1 w55 (.cells #[.slice m2.qa m2.qm m2.qc, .slice m2.la m2.lm m2.lc, .int .i64 m2.k.t, .int .i64 m2.k.r, .int .i64 m2.k.s, .int .i64 m2.k.q, .slice m2.ga m2.gm m2.gc] 49))
          have hlh := (Array.getElem?_eq_some_iff.1 hh55).1
          have hc0 := cells1' hh55
          have hld := (Array.getElem?_eq_some_iff.1 hd55).1
          obtain ⟨dc0, dc1, dc2, dc3, dc4, dc5, dc6, dc7⟩ := cells8' hd55
          have hlf := (Array.getElem?_eq_some_iff.1 hf55).1
          obtain ⟨fc0, fc1, fc2, fc3, fc4⟩ := cells5' hf55
          have hlx := (Array.getElem?_eq_some_iff.1 hx55).1
          obtain ⟨xc0, xc1, xc2, xc3, xc4, xc5, xc6⟩ := cells7' hx55
          go_wp2_with (at_builtin; refine wpList_append_g shN Tryz.infoN _ rfl _ _ rfl (w.heap.size + 2) A2 k c2 ns rfl hOx _ 1 _ _ [m2] rfl rfl (GRow.lit w55 [m2] rfl rfl) (by omega) hbx ?_; intro A3 c3 w90 hO90 hc90 hg90 he90 hB90)
          clear hlh hc0 hld dc0 dc1 dc2 dc3 dc4 dc5 dc6 dc7 hlf fc0 fc1 fc2 fc3 fc4 hlx xc0 xc1 xc2 xc3 xc4 xc5 xc6
          have hA90 := AllIs.append (nsis_off hAx hg90 he90) (AllIs.one (nis_off hVx hg90 he90))
          have hT90 : Below w.heap.size w w90 := hTx.trans (hB90.mono (by omega))
          have hh90 := (hB90.block _ (by omega)).trans hbh
          have hd90 := (hB90.block _ (by omega)).trans hbd
          have hf90 := box_app hbf hg90 HOf.out
          have hF90 := fis_plo_app hFx hg90 (fun Y hY => by have := gown_ge hOx Y hY; omega)
          have HOf2 := Lib.hid (ownL_ne HOf.out he90 (by have := (Array.getElem?_eq_some_iff.1 hbf).1; exact this))
          go_round
          case measure => simp [intOf]; omega
          exact ⟨k + 1, c3, A3, ns ++ [m2], by omega, by go_num, rfl, hO90, (by rw [Hq.out k, show afterN Ns H k = M1 from Hst.out]; exact NsIs.mono hA90 off_drop), HOf2, hh90, hd90, hf90, hF90, hT90⟩
        cases bad
        rotate_left
        · skip
          have hlh := (Array.getElem?_eq_some_iff.1 hh52).1
          have hc0 := cells1' hh52
          have hld := (Array.getElem?_eq_some_iff.1 hd52).1
          obtain ⟨dc0, dc1, dc2, dc3, dc4, dc5, dc6, dc7⟩ := cells8' hd52
          have hlf := (Array.getElem?_eq_some_iff.1 hf52).1
          obtain ⟨fc0, fc1, fc2, fc3, fc4⟩ := cells5' hf52
          have hlx := (Array.getElem?_eq_some_iff.1 hx52).1
          obtain ⟨xc0, xc1, xc2, xc3, xc4, xc5, xc6⟩ := cells7' hx52
          go_wp2_with fail
          clear hlh hc0 hld dc0 dc1 dc2 dc3 dc4 dc5 dc6 dc7 hlf fc0 fc1 fc2 fc3 fc4 hlx xc0 xc1 xc2 xc3 xc4 xc5 xc6
          refine (refSent_c hV52 HokN2.out (off_up hO52 (L := [wr.heap.size, (w.heap.size + 1)]) (lt_cons (Array.getElem?_eq_some_iff.1 hx52).1 (lt_cons (Array.getElem?_eq_some_iff.1 hd52).1 (fun _ h => by cases h))) hP hT52.size) false M1 HM1.out).mono ?_
          rintro e w53 ⟨m2, rfl, hM_, hB53⟩
          have hT53 := below_then hT52 hB53
          have hh53 := block_below hB53 hh52
          have hd53 := block_below hB53 hd52
          have hf53 := block_below hB53 hf52
          have hx53 := block_below hB53 hx52
          have hO53 := GOwn.to hO52 hB53
          have hA53 := NsIs.to hA52 hB53
          have hF53 := FIs.to hF52 hB53
          have hV53 := NIs.to hV52 hB53
          have hAt53 := nat_to hAt52 hB53
          clear hT52 hh52 hd52 hf52 hx52 hO52 hA52 hF52 hV52 hAt52 hB53
          have hM53 := hM_
          clear hM_
          clear hV53
          clear hAt53
          have hlh := (Array.getElem?_eq_some_iff.1 hh53).1
          have hc0 := cells1' hh53
          have hld := (Array.getElem?_eq_some_iff.1 hd53).1
          obtain ⟨dc0, dc1, dc2, dc3, dc4, dc5, dc6, dc7⟩ := cells8' hd53
          have hlf := (Array.getElem?_eq_some_iff.1 hf53).1
          obtain ⟨fc0, fc1, fc2, fc3, fc4⟩ := cells5' hf53
          have hlx := (Array.getElem?_eq_some_iff.1 hx53).1
          obtain ⟨⟨xc0, xc1, xc2, xc3, xc4, xc5, xc6⟩, xf0, xf1, xf2, xf3, xf4, xf5, xf6⟩ := cells7 hx53
          go_wp2_with fail
          clear hlh hc0 hld dc0 dc1 dc2 dc3 dc4 dc5 dc6 dc7 hlf fc0 fc1 fc2 fc3 fc4 hlx xc0 xc1 xc2 xc3 xc4 xc5 xc6 xf0 xf1 xf2 xf3 xf4 xf5 xf6
          obtain ⟨w54, hw54⟩ : ∃ w_, set7 w53 wr.heap.size (.slice m2.qa m2.qm m2.qc) (.slice m2.la m2.lm m2.lc) (.int .i64 m2.k.t) (.int .i64 m2.k.r) (.int .i64 m2.k.s) (.int .i64 m2.k.q) (.slice m2.ga m2.gm m2.gc) = w_ := ⟨_, rfl⟩
          have hG54 : w53.grownBy w54 (some wr.heap.size) := by rw [← hw54]; exact set7_grown _ _ _ _ _ _ _ _ _
          have hT54 := below_g hT53 hG54 hgex
          have hh54 := other_g hG54 hh53 Hh_x.out
          have hd54 := other_g hG54 hd53 Hd_x.out
          have hf54 := other_g hG54 hf53 Hf_x.out
          have hx54 : w54.heap[wr.heap.size]? = some (.cells #[.slice m2.qa m2.qm m2.qc, .slice m2.la m2.lm m2.lc, .int .i64 m2.k.t, .int .i64 m2.k.r, .int .i64 m2.k.s, .int .i64 m2.k.q, .slice m2.ga m2.gm m2.gc] 49) := by rw [← hw54]; exact set7_obj hx53 _ _ _ _ _ _ _
          have hO54 := gown_ne9.grow hO53 hG54 HOx.out
          have hA54 := NsIs.grow hA53 hG54 (off_not (by simp))
          have hF54 := FIs.grow hF53 hG54 (plo_not hgex)
          have hM54 := NIs.grow hM53 hG54 (off_not (by simp))
          have Hsz54 := Lib.hid (show w54.heap.size = w53.heap.size by rw [← hw54]; simp [set7, World.setCell])
          unfold set7 at hw54
          rw [hw54]
          clear hw54 hG54 hT53 hh53 hd53 hf53 hx53 hO53 hA53 hF53 hM53
          refine (along_c (hS.to hT54) Hok.out hm k hlt true Hal.out).mono ?_
          rintro e w55 ⟨rfl, hB55⟩
          have hT55 := below_then hT54 hB55
          have hh55 := block_below hB55 hh54
          have hd55 := block_below hB55 hd54
          have hf55 := block_below hB55 hf54
          have hx55 := block_below hB55 hx54
          have hO55 := GOwn.to hO54 hB55
          have hA55 := NsIs.to hA54 hB55
          have hF55 := FIs.to hF54 hB55
          have hM55 := NIs.to hM54 hB55
          clear hT54 hh54 hd54 hf54 hx54 hO54 hA54 hF54 hM54 hB55
          have hV55 := hM55
          clear hM55
          have Hst := Lib.hid (show afterN Ns H k = M1 by unfold afterN; rw [Hal.out, if_pos rfl, HOK.out, Hbad.out, show nd Ns k = N2 from HN2.out, if_pos (by rfl), HM1.out])
          have hXne := hgex
          have hOx : NOwn (w55.alloc (.cells #[.slice m2.qa m2.qm m2.qc, .slice m2.la m2.lm m2.lc, .int .i64 m2.k.t, .int .i64 m2.k.r, .int .i64 m2.k.s, .int .i64 m2.k.q, .slice m2.ga m2.gm m2.gc] 49)) (w.heap.size + 2) A2 k c2 ns := GOwn.to hO55 (below_alloc1 _ _)
          have hAx : NsIs (w55.alloc (.cells #[.slice m2.qa m2.qm m2.qc, .slice m2.la m2.lm m2.lc, .int .i64 m2.k.t, .int .i64 m2.k.r, .int .i64 m2.k.s, .int .i64 m2.k.q, .slice m2.ga m2.gm m2.gc] 49)) (Off P ([wr.heap.size, (w.heap.size + 1)] ++ ownL A2)) ns (slotTo Ns H k) := NsIs.to hA55 (below_alloc1 _ _)
          have hVx : NIs (w55.alloc (.cells #[.slice m2.qa m2.qm m2.qc, .slice m2.la m2.lm m2.lc, .int .i64 m2.k.t, .int .i64 m2.k.r, .int .i64 m2.k.s, .int .i64 m2.k.q, .slice m2.ga m2.gm m2.gc] 49)) (Off P ([wr.heap.size, (w.heap.size + 1)] ++ ownL A2)) m2 M1 := NIs.to hV55 (below_alloc1 _ _)
          have hTx := below_then hT55 (below_alloc1 w55 (.cells #[.slice m2.qa m2.qm m2.qc, .slice m2.la m2.lm m2.lc, .int .i64 m2.k.t, .int .i64 m2.k.r, .int .i64 m2.k.s, .int .i64 m2.k.q, .slice m2.ga m2.gm m2.gc] 49))
          have hdx := (Array.getElem?_eq_some_iff.1 hd55).1
          have hbx : (w.heap.size + 2) ≤ (w55.alloc (.cells #[.slice m2.qa m2.qm m2.qc, .slice m2.la m2.lm m2.lc, .int .i64 m2.k.t, .int .i64 m2.k.r, .int .i64 m2.k.s, .int .i64 m2.k.q, .slice m2.ga m2.gm m2.gc] 49)).heap.size := by simp; omega
          have hbh := block_below (below_alloc1 w55 (.cells #[.slice m2.qa m2.qm m2.qc, .slice m2.la m2.lm m2.lc, .int .i64 m2.k.t, .int .i64 m2.k.r, .int .i64 m2.k.s, .int .i64 m2.k.q, .slice m2.ga m2.gm m2.gc] 49)) hh55
          have hbd := block_below (below_alloc1 w55 (.cells #[.slice m2.qa m2.qm m2.qc, .slice m2.la m2.lm m2.lc, .int .i64 m2.k.t, .int .i64 m2.k.r, .int .i64 m2.k.s, .int .i64 m2.k.q, .slice m2.ga m2.gm m2.gc] 49)) hd55
          have hbf := block_below (below_alloc1 w55 (.cells #[.slice m2.qa m2.qm m2.qc, .slice m2.la m2.lm m2.lc, .int .i64 m2.k.t, .int .i64 m2.k.r, .int .i64 m2.k.s, .int .i64 m2.k.q, .slice m2.ga m2.gm m2.gc] 49)) hf55
          have hFx := FIs.to hF55 (below_alloc1 w55 (.cells #[.slice m2.qa m2.qm m2.qc, .slice m2.la m2.lm m2.lc, .int .i64 m2.k.t, .int .i64 m2.k.r, .int .i64 m2.k.s, .int .i64 m2.k.q, .slice m2.ga m2.gm m2.gc] 49))
          have hlh := (Array.getElem?_eq_some_iff.1 hh55).1
          have hc0 := cells1' hh55
          have hld := (Array.getElem?_eq_some_iff.1 hd55).1
          obtain ⟨dc0, dc1, dc2, dc3, dc4, dc5, dc6, dc7⟩ := cells8' hd55
          have hlf := (Array.getElem?_eq_some_iff.1 hf55).1
          obtain ⟨fc0, fc1, fc2, fc3, fc4⟩ := cells5' hf55
          have hlx := (Array.getElem?_eq_some_iff.1 hx55).1
          obtain ⟨xc0, xc1, xc2, xc3, xc4, xc5, xc6⟩ := cells7' hx55
          go_wp2_with (at_builtin; refine wpList_append_g shN Tryz.infoN _ rfl _ _ rfl (w.heap.size + 2) A2 k c2 ns rfl hOx _ 1 _ _ [m2] rfl rfl (GRow.lit w55 [m2] rfl rfl) (by omega) hbx ?_; intro A3 c3 w90 hO90 hc90 hg90 he90 hB90)
          clear hlh hc0 hld dc0 dc1 dc2 dc3 dc4 dc5 dc6 dc7 hlf fc0 fc1 fc2 fc3 fc4 hlx xc0 xc1 xc2 xc3 xc4 xc5 xc6
          have hA90 := AllIs.append (nsis_off hAx hg90 he90) (AllIs.one (nis_off hVx hg90 he90))
          have hT90 : Below w.heap.size w w90 := hTx.trans (hB90.mono (by omega))
          have hh90 := (hB90.block _ (by omega)).trans hbh
          have hd90 := (hB90.block _ (by omega)).trans hbd
          have hf90 := box_app hbf hg90 HOf.out
          have hF90 := fis_plo_app hFx hg90 (fun Y hY => by have := gown_ge hOx Y hY; omega)
          have HOf2 := Lib.hid (ownL_ne HOf.out he90 (by have := (Array.getElem?_eq_some_iff.1 hbf).1; exact this))
          go_round
          case measure => simp [intOf]; omega
          exact ⟨k + 1, c3, A3, ns ++ [m2], by omega, by go_num, rfl, hO90, (by rw [Hq.out k, show afterN Ns H k = M1 from Hst.out]; exact NsIs.mono hA90 off_drop), HOf2, hh90, hd90, hf90, hF90, hT90⟩
        by_cases hs : m.k.s = 2
        rotate_left
        · skip
          have d1 : (m.k.s != 2) = true := by simp [bne, hs]
          have Hs := Lib.hid (show N2.k.s ≠ 2 by rw [← Hks.out]; exact hs)
          clear hs
          have hlh := (Array.getElem?_eq_some_iff.1 hh52).1
          have hc0 := cells1' hh52
          have hld := (Array.getElem?_eq_some_iff.1 hd52).1
          obtain ⟨dc0, dc1, dc2, dc3, dc4, dc5, dc6, dc7⟩ := cells8' hd52
          have hlf := (Array.getElem?_eq_some_iff.1 hf52).1
          obtain ⟨fc0, fc1, fc2, fc3, fc4⟩ := cells5' hf52
          have hlx := (Array.getElem?_eq_some_iff.1 hx52).1
          obtain ⟨xc0, xc1, xc2, xc3, xc4, xc5, xc6⟩ := cells7' hx52
          go_wp2_with fail
          clear hlh hc0 hld dc0 dc1 dc2 dc3 dc4 dc5 dc6 dc7 hlf fc0 fc1 fc2 fc3 fc4 hlx xc0 xc1 xc2 xc3 xc4 xc5 xc6
          refine (refSent_c hV52 HokN2.out (off_up hO52 (L := [wr.heap.size, (w.heap.size + 1)]) (lt_cons (Array.getElem?_eq_some_iff.1 hx52).1 (lt_cons (Array.getElem?_eq_some_iff.1 hd52).1 (fun _ h => by cases h))) hP hT52.size) false M1 HM1.out).mono ?_
          rintro e w53 ⟨m2, rfl, hM_, hB53⟩
          have hT53 := below_then hT52 hB53
          have hh53 := block_below hB53 hh52
          have hd53 := block_below hB53 hd52
          have hf53 := block_below hB53 hf52
          have hx53 := block_below hB53 hx52
          have hO53 := GOwn.to hO52 hB53
          have hA53 := NsIs.to hA52 hB53
          have hF53 := FIs.to hF52 hB53
          have hV53 := NIs.to hV52 hB53
          have hAt53 := nat_to hAt52 hB53
          clear hT52 hh52 hd52 hf52 hx52 hO52 hA52 hF52 hV52 hAt52 hB53
          have hM53 := hM_
          clear hM_
          clear hV53
          clear hAt53
          have hlh := (Array.getElem?_eq_some_iff.1 hh53).1
          have hc0 := cells1' hh53
          have hld := (Array.getElem?_eq_some_iff.1 hd53).1
          obtain ⟨dc0, dc1, dc2, dc3, dc4, dc5, dc6, dc7⟩ := cells8' hd53
          have hlf := (Array.getElem?_eq_some_iff.1 hf53).1
          obtain ⟨fc0, fc1, fc2, fc3, fc4⟩ := cells5' hf53
          have hlx := (Array.getElem?_eq_some_iff.1 hx53).1
          obtain ⟨⟨xc0, xc1, xc2, xc3, xc4, xc5, xc6⟩, xf0, xf1, xf2, xf3, xf4, xf5, xf6⟩ := cells7 hx53
          go_wp2_with fail
          clear hlh hc0 hld dc0 dc1 dc2 dc3 dc4 dc5 dc6 dc7 hlf fc0 fc1 fc2 fc3 fc4 hlx xc0 xc1 xc2 xc3 xc4 xc5 xc6 xf0 xf1 xf2 xf3 xf4 xf5 xf6
          obtain ⟨w54, hw54⟩ : ∃ w_, set7 w53 wr.heap.size (.slice m2.qa m2.qm m2.qc) (.slice m2.la m2.lm m2.lc) (.int .i64 m2.k.t) (.int .i64 m2.k.r) (.int .i64 m2.k.s) (.int .i64 m2.k.q) (.slice m2.ga m2.gm m2.gc) = w_ := ⟨_, rfl⟩
          have hG54 : w53.grownBy w54 (some wr.heap.size) := by rw [← hw54]; exact set7_grown _ _ _ _ _ _ _ _ _
          have hT54 := below_g hT53 hG54 hgex
          have hh54 := other_g hG54 hh53 Hh_x.out
          have hd54 := other_g hG54 hd53 Hd_x.out
          have hf54 := other_g hG54 hf53 Hf_x.out
          have hx54 : w54.heap[wr.heap.size]? = some (.cells #[.slice m2.qa m2.qm m2.qc, .slice m2.la m2.lm m2.lc, .int .i64 m2.k.t, .int .i64 m2.k.r, .int .i64 m2.k.s, .int .i64 m2.k.q, .slice m2.ga m2.gm m2.gc] 49) := by rw [← hw54]; exact set7_obj hx53 _ _ _ _ _ _ _
          have hO54 := gown_ne9.grow hO53 hG54 HOx.out
          have hA54 := NsIs.grow hA53 hG54 (off_not (by simp))
          have hF54 := FIs.grow hF53 hG54 (plo_not hgex)
          have hM54 := NIs.grow hM53 hG54 (off_not (by simp))
          have Hsz54 := Lib.hid (show w54.heap.size = w53.heap.size by rw [← hw54]; simp [set7, World.setCell])
          unfold set7 at hw54
          rw [hw54]
          clear hw54 hG54 hT53 hh53 hd53 hf53 hx53 hO53 hA53 hF53 hM53
          refine (along_c (hS.to hT54) Hok.out hm k hlt true Hal.out).mono ?_
          rintro e w55 ⟨rfl, hB55⟩
          have hT55 := below_then hT54 hB55
          have hh55 := block_below hB55 hh54
          have hd55 := block_below hB55 hd54
          have hf55 := block_below hB55 hf54
          have hx55 := block_below hB55 hx54
          have hO55 := GOwn.to hO54 hB55
          have hA55 := NsIs.to hA54 hB55
          have hF55 := FIs.to hF54 hB55
          have hM55 := NIs.to hM54 hB55
          clear hT54 hh54 hd54 hf54 hx54 hO54 hA54 hF54 hM54 hB55
          have hV55 := hM55
          clear hM55
          have Hst := Lib.hid (show afterN Ns H k = M1 by unfold afterN; rw [Hal.out, if_pos rfl, HOK.out, Hbad.out, show nd Ns k = N2 from HN2.out, if_pos (by have := Hs.out; simp [this]), HM1.out])
          have hXne := hgex
          have hOx : NOwn (w55.alloc (.cells #[.slice m2.qa m2.qm m2.qc, .slice m2.la m2.lm m2.lc, .int .i64 m2.k.t, .int .i64 m2.k.r, .int .i64 m2.k.s, .int .i64 m2.k.q, .slice m2.ga m2.gm m2.gc] 49)) (w.heap.size + 2) A2 k c2 ns := GOwn.to hO55 (below_alloc1 _ _)
          have hAx : NsIs (w55.alloc (.cells #[.slice m2.qa m2.qm m2.qc, .slice m2.la m2.lm m2.lc, .int .i64 m2.k.t, .int .i64 m2.k.r, .int .i64 m2.k.s, .int .i64 m2.k.q, .slice m2.ga m2.gm m2.gc] 49)) (Off P ([wr.heap.size, (w.heap.size + 1)] ++ ownL A2)) ns (slotTo Ns H k) := NsIs.to hA55 (below_alloc1 _ _)
          have hVx : NIs (w55.alloc (.cells #[.slice m2.qa m2.qm m2.qc, .slice m2.la m2.lm m2.lc, .int .i64 m2.k.t, .int .i64 m2.k.r, .int .i64 m2.k.s, .int .i64 m2.k.q, .slice m2.ga m2.gm m2.gc] 49)) (Off P ([wr.heap.size, (w.heap.size + 1)] ++ ownL A2)) m2 M1 := NIs.to hV55 (below_alloc1 _ _)
          have hTx := below_then hT55 (below_alloc1 w55 (.cells #[.slice m2.qa m2.qm m2.qc, .slice m2.la m2.lm m2.lc, .int .i64 m2.k.t, .int .i64 m2.k.r, .int .i64 m2.k.s, .int .i64 m2.k.q, .slice m2.ga m2.gm m2.gc] 49))
          have hdx := (Array.getElem?_eq_some_iff.1 hd55).1
          have hbx : (w.heap.size + 2) ≤ (w55.alloc (.cells #[.slice m2.qa m2.qm m2.qc, .slice m2.la m2.lm m2.lc, .int .i64 m2.k.t, .int .i64 m2.k.r, .int .i64 m2.k.s, .int .i64 m2.k.q, .slice m2.ga m2.gm m2.gc] 49)).heap.size := by simp; omega
          have hbh := block_below (below_alloc1 w55 (.cells #[.slice m2.qa m2.qm m2.qc, .slice m2.la m2.lm m2.lc, .int .i64 m2.k.t, .int .i64 m2.k.r, .int .i64 m2.k.s, .int .i64 m2.k.q, .slice m2.ga m2.gm m2.gc] 49)) hh55
          have hbd := block_below (below_alloc1 w55 (.cells #[.slice m2.qa m2.qm m2.qc, .slice m2.la m2.lm m2.lc, .int .i64 m2.k.t, .int .i64 m2.k.r, .int .i64 m2.k.s, .int .i64 m2.k.q, .slice m2.ga m2.gm m2.gc] 49)) hd55
          have hbf := block_below (below_alloc1 w55 (.cells #[.slice m2.qa m2.qm m2.qc, .slice m2.la m2.lm m2.lc, .int .i64 m2.k.t, .int .i64 m2.k.r, .int .i64 m2.k.s, .int .i64 m2.k.q, .slice m2.ga m2.gm m2.gc] 49)) hf55
          have hFx := FIs.to hF55 (below_alloc1 w55 (.cells #[.slice m2.qa m2.qm m2.qc, .slice m2.la m2.lm m2.lc, .int .i64 m2.k.t, .int .i64 m2.k.r, .int .i64 m2.k.s, .int .i64 m2.k.q, .slice m2.ga m2.gm m2.gc] 49))
          have hlh := (Array.getElem?_eq_some_iff.1 hh55).1
          have hc0 := cells1' hh55
          have hld := (Array.getElem?_eq_some_iff.1 hd55).1
          obtain ⟨dc0, dc1, dc2, dc3, dc4, dc5, dc6, dc7⟩ := cells8' hd55
          have hlf := (Array.getElem?_eq_some_iff.1 hf55).1
          obtain ⟨fc0, fc1, fc2, fc3, fc4⟩ := cells5' hf55
          have hlx := (Array.getElem?_eq_some_iff.1 hx55).1
          obtain ⟨xc0, xc1, xc2, xc3, xc4, xc5, xc6⟩ := cells7' hx55
          go_wp2_with (at_builtin; refine wpList_append_g shN Tryz.infoN _ rfl _ _ rfl (w.heap.size + 2) A2 k c2 ns rfl hOx _ 1 _ _ [m2] rfl rfl (GRow.lit w55 [m2] rfl rfl) (by omega) hbx ?_; intro A3 c3 w90 hO90 hc90 hg90 he90 hB90)
          clear hlh hc0 hld dc0 dc1 dc2 dc3 dc4 dc5 dc6 dc7 hlf fc0 fc1 fc2 fc3 fc4 hlx xc0 xc1 xc2 xc3 xc4 xc5 xc6
          have hA90 := AllIs.append (nsis_off hAx hg90 he90) (AllIs.one (nis_off hVx hg90 he90))
          have hT90 : Below w.heap.size w w90 := hTx.trans (hB90.mono (by omega))
          have hh90 := (hB90.block _ (by omega)).trans hbh
          have hd90 := (hB90.block _ (by omega)).trans hbd
          have hf90 := box_app hbf hg90 HOf.out
          have hF90 := fis_plo_app hFx hg90 (fun Y hY => by have := gown_ge hOx Y hY; omega)
          have HOf2 := Lib.hid (ownL_ne HOf.out he90 (by have := (Array.getElem?_eq_some_iff.1 hbf).1; exact this))
          go_round
          case measure => simp [intOf]; omega
          exact ⟨k + 1, c3, A3, ns ++ [m2], by omega, by go_num, rfl, hO90, (by rw [Hq.out k, show afterN Ns H k = M1 from Hst.out]; exact NsIs.mono hA90 off_drop), HOf2, hh90, hd90, hf90, hF90, hT90⟩
        have d1 : (m.k.s != 2) = false := by simp [hs]
        have Hs := Lib.hid (show N2.k.s = 2 by rw [← Hks.out]; exact hs)
        clear hs
        have hlh := (Array.getElem?_eq_some_iff.1 hh52).1
        have hc0 := cells1' hh52
        have hld := (Array.getElem?_eq_some_iff.1 hd52).1
        obtain ⟨dc0, dc1, dc2, dc3, dc4, dc5, dc6, dc7⟩ := cells8' hd52
        have hlf := (Array.getElem?_eq_some_iff.1 hf52).1
        obtain ⟨fc0, fc1, fc2, fc3, fc4⟩ := cells5' hf52
        have hlx := (Array.getElem?_eq_some_iff.1 hx52).1
        obtain ⟨xc0, xc1, xc2, xc3, xc4, xc5, xc6⟩ := cells7' hx52
        go_wp2_with fail
        clear hlh hc0 hld dc0 dc1 dc2 dc3 dc4 dc5 dc6 dc7 hlf fc0 fc1 fc2 fc3 fc4 hlx xc0 xc1 xc2 xc3 xc4 xc5 xc6
        refine (along_c (hS.to hT52) Hok.out hm k hlt true Hal.out).mono ?_
        rintro e w53 ⟨rfl, hB53⟩
        have hT53 := below_then hT52 hB53
        have hh53 := block_below hB53 hh52
        have hd53 := block_below hB53 hd52
        have hf53 := block_below hB53 hf52
        have hx53 := block_below hB53 hx52
        have hO53 := GOwn.to hO52 hB53
        have hA53 := NsIs.to hA52 hB53
        have hF53 := FIs.to hF52 hB53
        have hV53 := NIs.to hV52 hB53
        have hAt53 := nat_to hAt52 hB53
        clear hT52 hh52 hd52 hf52 hx52 hO52 hA52 hF52 hV52 hAt52 hB53
        have Hst := Lib.hid (show afterN Ns H k = N2 by unfold afterN; rw [Hal.out, if_pos rfl, HOK.out, Hbad.out, show nd Ns k = N2 from HN2.out, if_neg (by rw [Hs.out]; decide)])
        have hXne := hgex
        have hOx : NOwn (w53.alloc (.cells #[.slice m.qa m.qm m.qc, .slice m.la m.lm m.lc, .int .i64 m.k.t, .int .i64 m.k.r, .int .i64 m.k.s, .int .i64 m.k.q, .slice m.ga m.gm m.gc] 49)) (w.heap.size + 2) A2 k c2 ns := GOwn.to hO53 (below_alloc1 _ _)
        have hAx : NsIs (w53.alloc (.cells #[.slice m.qa m.qm m.qc, .slice m.la m.lm m.lc, .int .i64 m.k.t, .int .i64 m.k.r, .int .i64 m.k.s, .int .i64 m.k.q, .slice m.ga m.gm m.gc] 49)) (Off P ([wr.heap.size, (w.heap.size + 1)] ++ ownL A2)) ns (slotTo Ns H k) := NsIs.to hA53 (below_alloc1 _ _)
        have hVx : NIs (w53.alloc (.cells #[.slice m.qa m.qm m.qc, .slice m.la m.lm m.lc, .int .i64 m.k.t, .int .i64 m.k.r, .int .i64 m.k.s, .int .i64 m.k.q, .slice m.ga m.gm m.gc] 49)) (Off P ([wr.heap.size, (w.heap.size + 1)] ++ ownL A2)) m N2 := NIs.to hV53 (below_alloc1 _ _)
        have hTx := below_then hT53 (below_alloc1 w53 (.cells #[.slice m.qa m.qm m.qc, .slice m.la m.lm m.lc, .int .i64 m.k.t, .int .i64 m.k.r, .int .i64 m.k.s, .int .i64 m.k.q, .slice m.ga m.gm m.gc] 49))
        have hdx := (Array.getElem?_eq_some_iff.1 hd53).1
        have hbx : (w.heap.size + 2) ≤ (w53.alloc (.cells #[.slice m.qa m.qm m.qc, .slice m.la m.lm m.lc, .int .i64 m.k.t, .int .i64 m.k.r, .int .i64 m.k.s, .int .i64 m.k.q, .slice m.ga m.gm m.gc] 49)).heap.size := by simp; omega
        have hbh := block_below (below_alloc1 w53 (.cells #[.slice m.qa m.qm m.qc, .slice m.la m.lm m.lc, .int .i64 m.k.t, .int .i64 m.k.r, .int .i64 m.k.s, .int .i64 m.k.q, .slice m.ga m.gm m.gc] 49)) hh53
        have hbd := block_below (below_alloc1 w53 (.cells #[.slice m.qa m.qm m.qc, .slice m.la m.lm m.lc, .int .i64 m.k.t, .int .i64 m.k.r, .int .i64 m.k.s, .int .i64 m.k.q, .slice m.ga m.gm m.gc] 49)) hd53
        have hbf := block_below (below_alloc1 w53 (.cells #[.slice m.qa m.qm m.qc, .slice m.la m.lm m.lc, .int .i64 m.k.t, .int .i64 m.k.r, .int .i64 m.k.s, .int .i64 m.k.q, .slice m.ga m.gm m.gc] 49)) hf53
        have hFx := FIs.to hF53 (below_alloc1 w53 (.cells #[.slice m.qa m.qm m.qc, .slice m.la m.lm m.lc, .int .i64 m.k.t, .int .i64 m.k.r, .int .i64 m.k.s, .int .i64 m.k.q, .slice m.ga m.gm m.gc] 49))
        have hlh := (Array.getElem?_eq_some_iff.1 hh53).1
        have hc0 := cells1' hh53
        have hld := (Array.getElem?_eq_some_iff.1 hd53).1
        obtain ⟨dc0, dc1, dc2, dc3, dc4, dc5, dc6, dc7⟩ := cells8' hd53
        have hlf := (Array.getElem?_eq_some_iff.1 hf53).1
        obtain ⟨fc0, fc1, fc2, fc3, fc4⟩ := cells5' hf53
        have hlx := (Array.getElem?_eq_some_iff.1 hx53).1
        obtain ⟨xc0, xc1, xc2, xc3, xc4, xc5, xc6⟩ := cells7' hx53
        go_wp2_with (at_builtin; refine wpList_append_g shN Tryz.infoN _ rfl _ _ rfl (w.heap.size + 2) A2 k c2 ns rfl hOx _ 1 _ _ [m] rfl rfl (GRow.lit w53 [m] rfl rfl) (by omega) hbx ?_; intro A3 c3 w90 hO90 hc90 hg90 he90 hB90)
        clear hlh hc0 hld dc0 dc1 dc2 dc3 dc4 dc5 dc6 dc7 hlf fc0 fc1 fc2 fc3 fc4 hlx xc0 xc1 xc2 xc3 xc4 xc5 xc6
        have hA90 := AllIs.append (nsis_off hAx hg90 he90) (AllIs.one (nis_off hVx hg90 he90))
        have hT90 : Below w.heap.size w w90 := hTx.trans (hB90.mono (by omega))
        have hh90 := (hB90.block _ (by omega)).trans hbh
        have hd90 := (hB90.block _ (by omega)).trans hbd
        have hf90 := box_app hbf hg90 HOf.out
        have hF90 := fis_plo_app hFx hg90 (fun Y hY => by have := gown_ge hOx Y hY; omega)
        have HOf2 := Lib.hid (ownL_ne HOf.out he90 (by have := (Array.getElem?_eq_some_iff.1 hbf).1; exact this))
        go_round
        case measure => simp [intOf]; omega
        exact ⟨k + 1, c3, A3, ns ++ [m], by omega, by go_num, rfl, hO90, (by rw [Hq.out k, show afterN Ns H k = N2 from Hst.out]; exact NsIs.mono hA90 off_drop), HOf2, hh90, hd90, hf90, hF90, hT90⟩
      refine (along_c (hS.to hT51) Hok.out hm k hlt false Hal.out).mono ?_
      rintro e w52 ⟨rfl, hB52⟩
      have hT52 := below_then hT51 hB52
      have hh52 := block_below hB52 hh51
      have hd52 := block_below hB52 hd51
      have hf52 := block_below hB52 hf51
      have hx52 := block_below hB52 hx51
      have hO52 := GOwn.to hO51 hB52
      have hA52 := NsIs.to hA51 hB52
      have hF52 := FIs.to hF51 hB52
      have hV52 := NIs.to hV51 hB52
      have hAt52 := nat_to hAt51 hB52
      clear hT51 hh51 hd51 hf51 hx51 hO51 hA51 hF51 hV51 hAt51 hB52
      have hlh := (Array.getElem?_eq_some_iff.1 hh52).1
      have hc0 := cells1' hh52
      have hld := (Array.getElem?_eq_some_iff.1 hd52).1
      obtain ⟨dc0, dc1, dc2, dc3, dc4, dc5, dc6, dc7⟩ := cells8' hd52
      have hlf := (Array.getElem?_eq_some_iff.1 hf52).1
      obtain ⟨fc0, fc1, fc2, fc3, fc4⟩ := cells5' hf52
      have hlx := (Array.getElem?_eq_some_iff.1 hx52).1
      obtain ⟨xc0, xc1, xc2, xc3, xc4, xc5, xc6⟩ := cells7' hx52
      go_wp2_with fail
      clear hlh hc0 hld dc0 dc1 dc2 dc3 dc4 dc5 dc6 dc7 hlf fc0 fc1 fc2 fc3 fc4 hlx xc0 xc1 xc2 xc3 xc4 xc5 xc6
      refine (along_c (hS.to hT52) Hok.out hm k hlt false Hal.out).mono ?_
      rintro e w53 ⟨rfl, hB53⟩
      have hT53 := below_then hT52 hB53
      have hh53 := block_below hB53 hh52
      have hd53 := block_below hB53 hd52
      have hf53 := block_below hB53 hf52
      have hx53 := block_below hB53 hx52
      have hO53 := GOwn.to hO52 hB53
      have hA53 := NsIs.to hA52 hB53
      have hF53 := FIs.to hF52 hB53
      have hV53 := NIs.to hV52 hB53
      have hAt53 := nat_to hAt52 hB53
      clear hT52 hh52 hd52 hf52 hx52 hO52 hA52 hF52 hV52 hAt52 hB53
      obtain ⟨l1, hl1⟩ : ∃ q, decide (N2.k.s = 1) = q := ⟨_, rfl⟩
      have Hl1 := Lib.hid hl1
      clear hl1
      obtain ⟨M1, hM1⟩ : ∃ q, heardN N2 F (ok && !ih) (!ok && ih && l1) = q := ⟨_, rfl⟩
      have HM1 := Lib.hid hM1
      clear hM1
      have d1 : (m.k.s == 1) = l1 := by rw [← Hl1.out, Hks.out]; rfl
      have Hst := Lib.hid (show afterN Ns H k = M1 by unfold afterN; rw [Hal.out, HOK.out, Hih.out, show nd Ns k = N2 from HN2.out, HFw.out, Hl1.out]; exact HM1.out)
      have hlh := (Array.getElem?_eq_some_iff.1 hh53).1
      have hc0 := cells1' hh53
      have hld := (Array.getElem?_eq_some_iff.1 hd53).1
      obtain ⟨dc0, dc1, dc2, dc3, dc4, dc5, dc6, dc7⟩ := cells8' hd53
      have hlf := (Array.getElem?_eq_some_iff.1 hf53).1
      obtain ⟨fc0, fc1, fc2, fc3, fc4⟩ := cells5' hf53
      have hlx := (Array.getElem?_eq_some_iff.1 hx53).1
      obtain ⟨xc0, xc1, xc2, xc3, xc4, xc5, xc6⟩ := cells7' hx53
      go_wp2_with fail
      clear hlh hc0 hld dc0 dc1 dc2 dc3 dc4 dc5 dc6 dc7 hlf fc0 fc1 fc2 fc3 fc4 hlx xc0 xc1 xc2 xc3 xc4 xc5 xc6
      cases ok
      rotate_left
      · skip
        have HM1b := Lib.hid (show heardN N2 F (!ih) false = M1 by rw [← HM1.out]; simp)
        have hG53 : FIs w53 (Off P ([wr.heap.size, (w.heap.size + 1)] ++ ownL A2)) f F := hF53.mono (plo_off2 hO53 (by omega) (by omega) hgex)
        refine wp_region_till 28 (S := fun W => (W.cell? ⟨w.heap.size, 0, none⟩ = some (.slice wa wn wc)) ∧ (W.cell? ⟨w3.heap.size, 0, none⟩ = some (.bool f.x) ∧ W.cell? ⟨w3.heap.size, 1, none⟩ = some (.int .i64 f.i) ∧ W.cell? ⟨w3.heap.size, 2, none⟩ = some (.bool f.r) ∧ W.cell? ⟨w3.heap.size, 3, none⟩ = some (.int .i64 f.n) ∧ W.cell? ⟨w3.heap.size, 4, none⟩ = some (.slice f.a f.m f.c)) ∧ (W.cell? ⟨wr.heap.size, 0, none⟩ = some (.slice m.qa m.qm m.qc) ∧ W.cell? ⟨wr.heap.size, 1, none⟩ = some (.slice m.la m.lm m.lc) ∧ W.cell? ⟨wr.heap.size, 2, none⟩ = some (.int .i64 m.k.t) ∧ W.cell? ⟨wr.heap.size, 3, none⟩ = some (.int .i64 m.k.r) ∧ W.cell? ⟨wr.heap.size, 4, none⟩ = some (.int .i64 m.k.s) ∧ W.cell? ⟨wr.heap.size, 5, none⟩ = some (.int .i64 m.k.q) ∧ W.cell? ⟨wr.heap.size, 6, none⟩ = some (.slice m.ga m.gm m.gc)) ∧ (W.cell? (ad.add (k * 7)) = some (.slice m.qa m.qm m.qc) ∧ W.cell? ⟨(ad.add (k * 7)).block, (ad.add (k * 7)).off + 1, none⟩ = some (.slice m.la m.lm m.lc) ∧ W.cell? ⟨(ad.add (k * 7)).block, (ad.add (k * 7)).off + 2, none⟩ = some (.int .i64 m.k.t) ∧ W.cell? ⟨(ad.add (k * 7)).block, (ad.add (k * 7)).off + 3, none⟩ = some (.int .i64 m.k.r) ∧ W.cell? ⟨(ad.add (k * 7)).block, (ad.add (k * 7)).off + 4, none⟩ = some (.int .i64 m.k.s) ∧ W.cell? ⟨(ad.add (k * 7)).block, (ad.add (k * 7)).off + 5, none⟩ = some (.int .i64 m.k.q) ∧ W.cell? ⟨(ad.add (k * 7)).block, (ad.add (k * 7)).off + 6, none⟩ = some (.slice m.ga m.gm m.gc))) (by kernel_rfl) (by exact ⟨cells1' (block_below (below_drew1 _) hh53), cells5' (block_below (below_drew1 _) hf53), cells7' (block_below (below_drew1 _) hx53), (nat_to hAt53 (below_drew1 _))⟩) (fun hHeld_ => ?_)
        refine wpTill_take (i := 0) (v := ?vS7_0_0_) 85 rfl rfl (by kernel_rfl) (by kernel_rfl) (by kernel_rfl) (fun _ _ _ h => h) (Or.inl ⟨by kernel_rfl, ?hyS7_0_0_⟩) (by assumption) (by kernel_rfl) ?restS7_0_0_
        case hyS7_0_0_ => (intro W_ hS_; (try dsimp only at hS_); go_simp; (try (with_reducible rfl)))
        try simp only [Act.put, siA, scZ, scS]
        refine wpTill_take (i := 1) (v := ?vS7_1_0_) 86 rfl rfl (by kernel_rfl) (by kernel_rfl) (by kernel_rfl) (fun _ _ _ h => h) (Or.inl ⟨by kernel_rfl, ?hyS7_1_0_⟩) (by assumption) (by kernel_rfl) ?restS7_1_0_
        case hyS7_1_0_ => (intro W_ hS_; (try dsimp only at hS_); go_simp; (try (with_reducible rfl)))
        try simp only [Act.put, siA, scZ, scS]
        refine wpTill_take (i := 2) (v := ?vS7_2_0_) 87 rfl rfl (by kernel_rfl) (by kernel_rfl) (by kernel_rfl) (fun _ _ _ h => h) (Or.inl ⟨by kernel_rfl, ?hyS7_2_0_⟩) (by assumption) (by kernel_rfl) ?restS7_2_0_
        case hyS7_2_0_ => (intro W_ hS_; (try dsimp only at hS_); go_simp; (try (with_reducible rfl)))
        try simp only [Act.put, siA, scZ, scS]
        refine wpTill_take (i := 3) (v := ?vS7_3_0_) 88 rfl rfl (by kernel_rfl) (by kernel_rfl) (by kernel_rfl) (fun _ _ _ h => h) (Or.inl ⟨by kernel_rfl, ?hyS7_3_0_⟩) (by assumption) (by kernel_rfl) ?restS7_3_0_
        case hyS7_3_0_ => (intro W_ hS_; (try dsimp only at hS_); go_simp; (try (with_reducible rfl)))
        try simp only [Act.put, siA, scZ, scS]
        refine wpTill_take (i := 4) (v := ?vS7_4_0_) 89 rfl rfl (by kernel_rfl) (by kernel_rfl) (by kernel_rfl) (fun _ _ _ h => h) (Or.inl ⟨by kernel_rfl, ?hyS7_4_0_⟩) (by assumption) (by kernel_rfl) ?restS7_4_0_
        case hyS7_4_0_ => (intro W_ hS_; (try dsimp only at hS_); go_simp; (try (with_reducible rfl)))
        try simp only [Act.put, siA, scZ, scS]
        refine wpTill_take (i := 5) (v := ?vS7_5_0_) 90 rfl rfl (by kernel_rfl) (by kernel_rfl) (by kernel_rfl) (fun _ _ _ h => h) (Or.inl ⟨by kernel_rfl, ?hyS7_5_0_⟩) (by assumption) (by kernel_rfl) ?restS7_5_0_
        case hyS7_5_0_ => (intro W_ hS_; (try dsimp only at hS_); go_simp; (try (with_reducible rfl)))
        try simp only [Act.put, siA, scZ, scS]
        refine wpTill_take (i := 6) (v := ?vS7_6_0_) 91 rfl rfl (by kernel_rfl) (by kernel_rfl) (by kernel_rfl) (fun _ _ _ h => h) (Or.inl ⟨by kernel_rfl, ?hyS7_6_0_⟩) (by assumption) (by kernel_rfl) ?restS7_6_0_
        case hyS7_6_0_ => (intro W_ hS_; (try dsimp only at hS_); go_simp; (try (with_reducible rfl)))
        try simp only [Act.put, siA, scZ, scS]
        refine wpTill_take (i := 10) (v := ?vS7_10_0_) 95 rfl rfl (by kernel_rfl) (by kernel_rfl) (by kernel_rfl) (fun _ _ _ h => h) (Or.inl ⟨by kernel_rfl, ?hyS7_10_0_⟩) (by assumption) (by kernel_rfl) ?restS7_10_0_
        case hyS7_10_0_ => (intro W_ hS_; (try dsimp only at hS_); go_simp; (try (with_reducible rfl)))
        try simp only [Act.put, siA, scZ, scS]
        refine wpTill_take (i := 11) (v := ?vS7_11_0_) 96 rfl rfl (by kernel_rfl) (by kernel_rfl) (by kernel_rfl) (fun _ _ _ h => h) (Or.inl ⟨by kernel_rfl, ?hyS7_11_0_⟩) (by assumption) (by kernel_rfl) ?restS7_11_0_
        case hyS7_11_0_ => (intro W_ hS_; (try dsimp only at hS_); go_simp; (try (with_reducible rfl)))
        try simp only [Act.put, siA, scZ, scS]
        refine wpTill_ready (rs := [7]) (by kernel_rfl) (by simp) ?_
        refine (AllTill.cons rfl (fun K_ hK_ => ?_) AllTill.nil)
        go_simp
        refine (in10_c (hH.to (below_then hT53 (below_drew1 _))) HHl.out hwm k ih Hin.out).mono ?_
        rintro e wr7 ⟨rfl, hBr7⟩
        go_wp2_with fail
        refine hK_.out _ _ (fun _ => by exact ⟨cells1' (block_below hBr7 (block_below (below_drew1 _) hh53)), cells5' (block_below hBr7 (block_below (below_drew1 _) hf53)), cells7' (block_below hBr7 (block_below (below_drew1 _) hx53)), (nat_to (nat_to hAt53 (below_drew1 _)) hBr7)⟩) (fun hHeld_7_0 => ?_)
        replace hHeld_7_0 := hHeld_7_0 (by decide)
        clear hK_
        try simp only [Act.put, siA, scZ, scS]
        refine wpTill_take (i := 8) (v := ?vS7_8_1_7) 93 rfl rfl (by kernel_rfl) (by kernel_rfl) (by kernel_rfl) (fun _ _ _ h => h) (Or.inl ⟨by kernel_rfl, ?hyS7_8_1_7⟩) (by assumption) (by kernel_rfl) ?restS7_8_1_7
        case hyS7_8_1_7 => (intro W_ hS_; (try dsimp only at hS_); go_simp; (try (with_reducible rfl)))
        try simp only [Act.put, siA, scZ, scS]
        refine wpTill_take (i := 9) (v := ?vS7_9_1_7) 94 rfl rfl (by kernel_rfl) (by kernel_rfl) (by kernel_rfl) (fun _ _ _ h => h) (Or.inl ⟨by kernel_rfl, ?hyS7_9_1_7⟩) (by assumption) (by kernel_rfl) ?restS7_9_1_7
        case hyS7_9_1_7 => (intro W_ hS_; (try dsimp only at hS_); go_simp; (try (with_reducible rfl)))
        try simp only [Act.put, siA, scZ, scS]
        refine wpTill_take (i := 12) (v := ?vS7_12_1_7) 97 rfl rfl (by kernel_rfl) (by kernel_rfl) (by kernel_rfl) (fun _ _ _ h => h) (Or.inl ⟨by kernel_rfl, ?hyS7_12_1_7⟩) (by assumption) (by kernel_rfl) ?restS7_12_1_7
        case hyS7_12_1_7 => (intro W_ hS_; (try dsimp only at hS_); go_simp; (try (with_reducible rfl)))
        try simp only [Act.put, siA, scZ, scS]
        refine wpTill_take (i := 13) (v := undef) 98 rfl rfl (by kernel_rfl) (by kernel_rfl) (by kernel_rfl) (fun _ _ _ h => h) (Or.inr ⟨by kernel_rfl, rfl⟩) (by assumption) (by kernel_rfl) ?_
        try simp only [Act.put, siA, scZ, scS]
        refine wpTill_take (i := 14) (v := undef) 99 rfl rfl (by kernel_rfl) (by kernel_rfl) (by kernel_rfl) (fun _ _ _ h => h) (Or.inr ⟨by kernel_rfl, rfl⟩) (by assumption) (by kernel_rfl) ?_
        try simp only [Act.put, siA, scZ, scS]
        refine wpTill_take (i := 15) (v := undef) 100 rfl rfl (by kernel_rfl) (by kernel_rfl) (by kernel_rfl) (fun _ _ _ h => h) (Or.inr ⟨by kernel_rfl, rfl⟩) (by assumption) (by kernel_rfl) ?_
        try simp only [Act.put, siA, scZ, scS]
        refine wpTill_skip (i := 16) 101 rfl rfl (by kernel_rfl) (by kernel_rfl) (by assumption) ?_
        try simp only [Act.put, siA, scZ, scS]
        refine wpTill_take (i := 17) (v := ?vS7_17_1_7) 102 rfl rfl (by kernel_rfl) (by kernel_rfl) (by kernel_rfl) (fun _ _ _ h => h) (Or.inl ⟨by kernel_rfl, ?hyS7_17_1_7⟩) (by assumption) (by kernel_rfl) ?restS7_17_1_7
        case hyS7_17_1_7 => (intro W_ hS_; (try dsimp only at hS_); go_simp; (try (with_reducible rfl)))
        try simp only [Act.put, siA, scZ, scS]
        refine wpTill_take (i := 18) (v := ?vS7_18_1_7) 103 rfl rfl (by kernel_rfl) (by kernel_rfl) (by kernel_rfl) (fun _ _ _ h => h) (Or.inl ⟨by kernel_rfl, ?hyS7_18_1_7⟩) (by assumption) (by kernel_rfl) ?restS7_18_1_7
        case hyS7_18_1_7 => (intro W_ hS_; (try dsimp only at hS_); go_simp; (try (with_reducible rfl)))
        try simp only [Act.put, siA, scZ, scS]
        refine wpTill_take (i := 19) (v := undef) 104 rfl rfl (by kernel_rfl) (by kernel_rfl) (by kernel_rfl) (fun _ _ _ h => h) (Or.inr ⟨by kernel_rfl, rfl⟩) (by assumption) (by kernel_rfl) ?_
        try simp only [Act.put, siA, scZ, scS]
        refine wpTill_take (i := 20) (v := undef) 105 rfl rfl (by kernel_rfl) (by kernel_rfl) (by kernel_rfl) (fun _ _ _ h => h) (Or.inr ⟨by kernel_rfl, rfl⟩) (by assumption) (by kernel_rfl) ?_
        try simp only [Act.put, siA, scZ, scS]
        refine wpTill_take (i := 21) (v := undef) 106 rfl rfl (by kernel_rfl) (by kernel_rfl) (by kernel_rfl) (fun _ _ _ h => h) (Or.inr ⟨by kernel_rfl, rfl⟩) (by assumption) (by kernel_rfl) ?_
        try simp only [Act.put, siA, scZ, scS]
        refine wpTill_take (i := 22) (v := undef) 107 rfl rfl (by kernel_rfl) (by kernel_rfl) (by kernel_rfl) (fun _ _ _ h => h) (Or.inr ⟨by kernel_rfl, rfl⟩) (by assumption) (by kernel_rfl) ?_
        try simp only [Act.put, siA, scZ, scS]
        refine wpTill_take (i := 23) (v := undef) 108 rfl rfl (by kernel_rfl) (by kernel_rfl) (by kernel_rfl) (fun _ _ _ h => h) (Or.inr ⟨by kernel_rfl, rfl⟩) (by assumption) (by kernel_rfl) ?_
        try simp only [Act.put, siA, scZ, scS]
        refine wpTill_take (i := 24) (v := undef) 109 rfl rfl (by kernel_rfl) (by kernel_rfl) (by kernel_rfl) (fun _ _ _ h => h) (Or.inr ⟨by kernel_rfl, rfl⟩) (by assumption) (by kernel_rfl) ?_
        try simp only [Act.put, siA, scZ, scS]
        refine wpTill_take (i := 25) (v := undef) 110 rfl rfl (by kernel_rfl) (by kernel_rfl) (by kernel_rfl) (fun _ _ _ h => h) (Or.inr ⟨by kernel_rfl, rfl⟩) (by assumption) (by kernel_rfl) ?_
        try simp only [Act.put, siA, scZ, scS]
        refine wpTill_take (i := 26) (v := ?vS7_26_1_7) 111 rfl rfl (by kernel_rfl) (by kernel_rfl) (by kernel_rfl) (fun _ _ _ h => h) (Or.inl ⟨by kernel_rfl, ?hyS7_26_1_7⟩) (by assumption) (by kernel_rfl) ?restS7_26_1_7
        case hyS7_26_1_7 => (intro W_ hS_; (try dsimp only at hS_); go_simp; (try (with_reducible rfl)))
        try simp only [Act.put, siA, scZ, scS]
        refine wpTill_ready (rs := [27]) (by kernel_rfl) (by simp) ?_
        refine (AllTill.cons rfl (fun K_ hK_ => ?_) AllTill.nil)
        go_simp
        refine (refHeard_c (NIs.to (NIs.to hV53 (below_drew1 _)) hBr7) (FIs.to (FIs.to hG53 (below_drew1 _)) hBr7) HokN2.out (off_up (GOwn.to (GOwn.to hO53 (below_drew1 _)) hBr7) (L := [wr.heap.size, (w.heap.size + 1)]) (lt_cons (Array.getElem?_eq_some_iff.1 (block_below hBr7 (block_below (below_drew1 _) hx53))).1 (lt_cons (Array.getElem?_eq_some_iff.1 (block_below hBr7 (block_below (below_drew1 _) hd53))).1 (fun _ h => by cases h))) hP (below_then hT53 (below_then (below_drew1 _) hBr7)).size) (!ih) false M1 HM1b.out).mono ?_
        rintro e wr27 ⟨m2, rfl, hM_, hBr27⟩
        go_wp2_with fail
        refine hK_.out _ _ (fun _ => by exact ⟨cells1' (block_below hBr27 (block_below hBr7 (block_below (below_drew1 _) hh53))), cells5' (block_below hBr27 (block_below hBr7 (block_below (below_drew1 _) hf53))), cells7' (block_below hBr27 (block_below hBr7 (block_below (below_drew1 _) hx53))), (nat_to (nat_to (nat_to hAt53 (below_drew1 _)) hBr7) hBr27)⟩) (fun hHeld_27_1 => ?_)
        replace hHeld_27_1 := hHeld_27_1 (by decide)
        clear hK_
        try simp only [Act.put, siA, scZ, scS]
        refine wpTill_ready (rs := [28]) (by kernel_rfl) (by simp) ?_
        refine (AllTill.cons rfl (fun K_ hK_ => ?_) AllTill.nil)
        obtain ⟨⟨z0, z1, z2, z3, z4, z5, z6⟩, y0, y1, y2, y3, y4, y5, y6⟩ := cells7 (block_below hBr27 (block_below hBr7 (block_below (below_drew1 _) hx53)))
        go_simp
        go_wp2_with fail
        clear z0 z1 z2 z3 z4 z5 z6 y0 y1 y2 y3 y4 y5 y6
        refine hK_.out _ _ (fun h_ => absurd rfl h_) (fun hHeld_28_2 => ?_)
        clear hK_
        try simp only [Act.put, siA, scZ, scS]
        refine wpTill_done (by kernel_rfl) ?_ _
        skip
        obtain ⟨w54, hw54⟩ : ∃ w54, wr27 = w54 := ⟨_, rfl⟩
        have hB54 : Below w53.heap.size w53 w54 := by rw [← hw54]; exact (below_then (below_then (below_drew1 _) hBr7) hBr27)
        have hM54 := hM_
        rw [hw54] at hM54
        rw [hw54]
        clear hw54 hM_ hBr7 hBr27
        have hT54 := below_then hT53 hB54
        have hh54 := block_below hB54 hh53
        have hd54 := block_below hB54 hd53
        have hf54 := block_below hB54 hf53
        have hx54 := block_below hB54 hx53
        have hO54 := GOwn.to hO53 hB54
        have hA54 := NsIs.to hA53 hB54
        have hF54 := FIs.to hF53 hB54
        have hV54 := NIs.to hV53 hB54
        have hAt54 := nat_to hAt53 hB54
        have hG54 := FIs.to hG53 hB54
        clear hT53 hh53 hd53 hf53 hx53 hO53 hA53 hF53 hV53 hAt53 hG53 hB54
        clear hV54
        clear hG54
        clear hAt54
        obtain ⟨w55, hw55⟩ : ∃ w_, set7 w54 wr.heap.size (.slice m2.qa m2.qm m2.qc) (.slice m2.la m2.lm m2.lc) (.int .i64 m2.k.t) (.int .i64 m2.k.r) (.int .i64 m2.k.s) (.int .i64 m2.k.q) (.slice m2.ga m2.gm m2.gc) = w_ := ⟨_, rfl⟩
        have hG55 : w54.grownBy w55 (some wr.heap.size) := by rw [← hw55]; exact set7_grown _ _ _ _ _ _ _ _ _
        have hT55 := below_g hT54 hG55 hgex
        have hh55 := other_g hG55 hh54 Hh_x.out
        have hd55 := other_g hG55 hd54 Hd_x.out
        have hf55 := other_g hG55 hf54 Hf_x.out
        have hx55 : w55.heap[wr.heap.size]? = some (.cells #[.slice m2.qa m2.qm m2.qc, .slice m2.la m2.lm m2.lc, .int .i64 m2.k.t, .int .i64 m2.k.r, .int .i64 m2.k.s, .int .i64 m2.k.q, .slice m2.ga m2.gm m2.gc] 49) := by rw [← hw55]; exact set7_obj hx54 _ _ _ _ _ _ _
        have hO55 := gown_ne9.grow hO54 hG55 HOx.out
        have hA55 := NsIs.grow hA54 hG55 (off_not (by simp))
        have hF55 := FIs.grow hF54 hG55 (plo_not hgex)
        have hM55 := NIs.grow hM54 hG55 (off_not (by simp))
        have Hsz55 := Lib.hid (show w55.heap.size = w54.heap.size by rw [← hw55]; simp [set7, World.setCell])
        unfold set7 at hw55
        rw [hw55]
        clear hw55 hG55 hT54 hh54 hd54 hf54 hx54 hO54 hA54 hF54 hM54
        have hV55 := hM55
        clear hM55
        have hXne := hgex
        have hOx : NOwn (w55.alloc (.cells #[.slice m2.qa m2.qm m2.qc, .slice m2.la m2.lm m2.lc, .int .i64 m2.k.t, .int .i64 m2.k.r, .int .i64 m2.k.s, .int .i64 m2.k.q, .slice m2.ga m2.gm m2.gc] 49)) (w.heap.size + 2) A2 k c2 ns := GOwn.to hO55 (below_alloc1 _ _)
        have hAx : NsIs (w55.alloc (.cells #[.slice m2.qa m2.qm m2.qc, .slice m2.la m2.lm m2.lc, .int .i64 m2.k.t, .int .i64 m2.k.r, .int .i64 m2.k.s, .int .i64 m2.k.q, .slice m2.ga m2.gm m2.gc] 49)) (Off P ([wr.heap.size, (w.heap.size + 1)] ++ ownL A2)) ns (slotTo Ns H k) := NsIs.to hA55 (below_alloc1 _ _)
        have hVx : NIs (w55.alloc (.cells #[.slice m2.qa m2.qm m2.qc, .slice m2.la m2.lm m2.lc, .int .i64 m2.k.t, .int .i64 m2.k.r, .int .i64 m2.k.s, .int .i64 m2.k.q, .slice m2.ga m2.gm m2.gc] 49)) (Off P ([wr.heap.size, (w.heap.size + 1)] ++ ownL A2)) m2 M1 := NIs.to hV55 (below_alloc1 _ _)
        have hTx := below_then hT55 (below_alloc1 w55 (.cells #[.slice m2.qa m2.qm m2.qc, .slice m2.la m2.lm m2.lc, .int .i64 m2.k.t, .int .i64 m2.k.r, .int .i64 m2.k.s, .int .i64 m2.k.q, .slice m2.ga m2.gm m2.gc] 49))
        have hdx := (Array.getElem?_eq_some_iff.1 hd55).1
        have hbx : (w.heap.size + 2) ≤ (w55.alloc (.cells #[.slice m2.qa m2.qm m2.qc, .slice m2.la m2.lm m2.lc, .int .i64 m2.k.t, .int .i64 m2.k.r, .int .i64 m2.k.s, .int .i64 m2.k.q, .slice m2.ga m2.gm m2.gc] 49)).heap.size := by simp; omega
        have hbh := block_below (below_alloc1 w55 (.cells #[.slice m2.qa m2.qm m2.qc, .slice m2.la m2.lm m2.lc, .int .i64 m2.k.t, .int .i64 m2.k.r, .int .i64 m2.k.s, .int .i64 m2.k.q, .slice m2.ga m2.gm m2.gc] 49)) hh55
        have hbd := block_below (below_alloc1 w55 (.cells #[.slice m2.qa m2.qm m2.qc, .slice m2.la m2.lm m2.lc, .int .i64 m2.k.t, .int .i64 m2.k.r, .int .i64 m2.k.s, .int .i64 m2.k.q, .slice m2.ga m2.gm m2.gc] 49)) hd55
        have hbf := block_below (below_alloc1 w55 (.cells #[.slice m2.qa m2.qm m2.qc, .slice m2.la m2.lm m2.lc, .int .i64 m2.k.t, .int .i64 m2.k.r, .int .i64 m2.k.s, .int .i64 m2.k.q, .slice m2.ga m2.gm m2.gc] 49)) hf55
        have hFx := FIs.to hF55 (below_alloc1 w55 (.cells #[.slice m2.qa m2.qm m2.qc, .slice m2.la m2.lm m2.lc, .int .i64 m2.k.t, .int .i64 m2.k.r, .int .i64 m2.k.s, .int .i64 m2.k.q, .slice m2.ga m2.gm m2.gc] 49))
        have hlh := (Array.getElem?_eq_some_iff.1 hh55).1
        have hc0 := cells1' hh55
        have hld := (Array.getElem?_eq_some_iff.1 hd55).1
        obtain ⟨dc0, dc1, dc2, dc3, dc4, dc5, dc6, dc7⟩ := cells8' hd55
        have hlf := (Array.getElem?_eq_some_iff.1 hf55).1
        obtain ⟨fc0, fc1, fc2, fc3, fc4⟩ := cells5' hf55
        have hlx := (Array.getElem?_eq_some_iff.1 hx55).1
        obtain ⟨xc0, xc1, xc2, xc3, xc4, xc5, xc6⟩ := cells7' hx55
        go_wp2_with (at_builtin; refine wpList_append_g shN Tryz.infoN _ rfl _ _ rfl (w.heap.size + 2) A2 k c2 ns rfl hOx _ 1 _ _ [m2] rfl rfl (GRow.lit w55 [m2] rfl rfl) (by omega) hbx ?_; intro A3 c3 w90 hO90 hc90 hg90 he90 hB90)
        clear hlh hc0 hld dc0 dc1 dc2 dc3 dc4 dc5 dc6 dc7 hlf fc0 fc1 fc2 fc3 fc4 hlx xc0 xc1 xc2 xc3 xc4 xc5 xc6
        have hA90 := AllIs.append (nsis_off hAx hg90 he90) (AllIs.one (nis_off hVx hg90 he90))
        have hT90 : Below w.heap.size w w90 := hTx.trans (hB90.mono (by omega))
        have hh90 := (hB90.block _ (by omega)).trans hbh
        have hd90 := (hB90.block _ (by omega)).trans hbd
        have hf90 := box_app hbf hg90 HOf.out
        have hF90 := fis_plo_app hFx hg90 (fun Y hY => by have := gown_ge hOx Y hY; omega)
        have HOf2 := Lib.hid (ownL_ne HOf.out he90 (by have := (Array.getElem?_eq_some_iff.1 hbf).1; exact this))
        go_round
        case measure => simp [intOf]; omega
        exact ⟨k + 1, c3, A3, ns ++ [m2], by omega, by go_num, rfl, hO90, (by rw [Hq.out k, show afterN Ns H k = M1 from Hst.out]; exact NsIs.mono hA90 off_drop), HOf2, hh90, hd90, hf90, hF90, hT90⟩
      cases ih
      · skip
        have HM1b := Lib.hid (show heardN N2 F false false = M1 by rw [← HM1.out]; simp)
        have hG53 : FIs w53 (Off P ([wr.heap.size, (w.heap.size + 1)] ++ ownL A2)) f F := hF53.mono (plo_off2 hO53 (by omega) (by omega) hgex)
        refine wp_region_till 28 (S := fun W => (W.cell? ⟨w.heap.size, 0, none⟩ = some (.slice wa wn wc)) ∧ (W.cell? ⟨w3.heap.size, 0, none⟩ = some (.bool f.x) ∧ W.cell? ⟨w3.heap.size, 1, none⟩ = some (.int .i64 f.i) ∧ W.cell? ⟨w3.heap.size, 2, none⟩ = some (.bool f.r) ∧ W.cell? ⟨w3.heap.size, 3, none⟩ = some (.int .i64 f.n) ∧ W.cell? ⟨w3.heap.size, 4, none⟩ = some (.slice f.a f.m f.c)) ∧ (W.cell? ⟨wr.heap.size, 0, none⟩ = some (.slice m.qa m.qm m.qc) ∧ W.cell? ⟨wr.heap.size, 1, none⟩ = some (.slice m.la m.lm m.lc) ∧ W.cell? ⟨wr.heap.size, 2, none⟩ = some (.int .i64 m.k.t) ∧ W.cell? ⟨wr.heap.size, 3, none⟩ = some (.int .i64 m.k.r) ∧ W.cell? ⟨wr.heap.size, 4, none⟩ = some (.int .i64 m.k.s) ∧ W.cell? ⟨wr.heap.size, 5, none⟩ = some (.int .i64 m.k.q) ∧ W.cell? ⟨wr.heap.size, 6, none⟩ = some (.slice m.ga m.gm m.gc)) ∧ (W.cell? (ad.add (k * 7)) = some (.slice m.qa m.qm m.qc) ∧ W.cell? ⟨(ad.add (k * 7)).block, (ad.add (k * 7)).off + 1, none⟩ = some (.slice m.la m.lm m.lc) ∧ W.cell? ⟨(ad.add (k * 7)).block, (ad.add (k * 7)).off + 2, none⟩ = some (.int .i64 m.k.t) ∧ W.cell? ⟨(ad.add (k * 7)).block, (ad.add (k * 7)).off + 3, none⟩ = some (.int .i64 m.k.r) ∧ W.cell? ⟨(ad.add (k * 7)).block, (ad.add (k * 7)).off + 4, none⟩ = some (.int .i64 m.k.s) ∧ W.cell? ⟨(ad.add (k * 7)).block, (ad.add (k * 7)).off + 5, none⟩ = some (.int .i64 m.k.q) ∧ W.cell? ⟨(ad.add (k * 7)).block, (ad.add (k * 7)).off + 6, none⟩ = some (.slice m.ga m.gm m.gc))) (by kernel_rfl) (by exact ⟨cells1' (block_below (below_drew1 _) hh53), cells5' (block_below (below_drew1 _) hf53), cells7' (block_below (below_drew1 _) hx53), (nat_to hAt53 (below_drew1 _))⟩) (fun hHeld_ => ?_)
        refine wpTill_take (i := 0) (v := ?vS8_0_0_) 85 rfl rfl (by kernel_rfl) (by kernel_rfl) (by kernel_rfl) (fun _ _ _ h => h) (Or.inl ⟨by kernel_rfl, ?hyS8_0_0_⟩) (by assumption) (by kernel_rfl) ?restS8_0_0_
        case hyS8_0_0_ => (intro W_ hS_; (try dsimp only at hS_); go_simp; (try (with_reducible rfl)))
        try simp only [Act.put, siA, scZ, scS]
        refine wpTill_take (i := 1) (v := ?vS8_1_0_) 86 rfl rfl (by kernel_rfl) (by kernel_rfl) (by kernel_rfl) (fun _ _ _ h => h) (Or.inl ⟨by kernel_rfl, ?hyS8_1_0_⟩) (by assumption) (by kernel_rfl) ?restS8_1_0_
        case hyS8_1_0_ => (intro W_ hS_; (try dsimp only at hS_); go_simp; (try (with_reducible rfl)))
        try simp only [Act.put, siA, scZ, scS]
        refine wpTill_take (i := 2) (v := ?vS8_2_0_) 87 rfl rfl (by kernel_rfl) (by kernel_rfl) (by kernel_rfl) (fun _ _ _ h => h) (Or.inl ⟨by kernel_rfl, ?hyS8_2_0_⟩) (by assumption) (by kernel_rfl) ?restS8_2_0_
        case hyS8_2_0_ => (intro W_ hS_; (try dsimp only at hS_); go_simp; (try (with_reducible rfl)))
        try simp only [Act.put, siA, scZ, scS]
        refine wpTill_take (i := 3) (v := ?vS8_3_0_) 88 rfl rfl (by kernel_rfl) (by kernel_rfl) (by kernel_rfl) (fun _ _ _ h => h) (Or.inl ⟨by kernel_rfl, ?hyS8_3_0_⟩) (by assumption) (by kernel_rfl) ?restS8_3_0_
        case hyS8_3_0_ => (intro W_ hS_; (try dsimp only at hS_); go_simp; (try (with_reducible rfl)))
        try simp only [Act.put, siA, scZ, scS]
        refine wpTill_take (i := 4) (v := undef) 89 rfl rfl (by kernel_rfl) (by kernel_rfl) (by kernel_rfl) (fun _ _ _ h => h) (Or.inr ⟨by kernel_rfl, rfl⟩) (by assumption) (by kernel_rfl) ?_
        try simp only [Act.put, siA, scZ, scS]
        refine wpTill_take (i := 5) (v := undef) 90 rfl rfl (by kernel_rfl) (by kernel_rfl) (by kernel_rfl) (fun _ _ _ h => h) (Or.inr ⟨by kernel_rfl, rfl⟩) (by assumption) (by kernel_rfl) ?_
        try simp only [Act.put, siA, scZ, scS]
        refine wpTill_take (i := 6) (v := undef) 91 rfl rfl (by kernel_rfl) (by kernel_rfl) (by kernel_rfl) (fun _ _ _ h => h) (Or.inr ⟨by kernel_rfl, rfl⟩) (by assumption) (by kernel_rfl) ?_
        try simp only [Act.put, siA, scZ, scS]
        refine wpTill_take (i := 10) (v := ?vS8_10_0_) 95 rfl rfl (by kernel_rfl) (by kernel_rfl) (by kernel_rfl) (fun _ _ _ h => h) (Or.inl ⟨by kernel_rfl, ?hyS8_10_0_⟩) (by assumption) (by kernel_rfl) ?restS8_10_0_
        case hyS8_10_0_ => (intro W_ hS_; (try dsimp only at hS_); go_simp; (try (with_reducible rfl)))
        try simp only [Act.put, siA, scZ, scS]
        refine wpTill_take (i := 11) (v := ?vS8_11_0_) 96 rfl rfl (by kernel_rfl) (by kernel_rfl) (by kernel_rfl) (fun _ _ _ h => h) (Or.inl ⟨by kernel_rfl, ?hyS8_11_0_⟩) (by assumption) (by kernel_rfl) ?restS8_11_0_
        case hyS8_11_0_ => (intro W_ hS_; (try dsimp only at hS_); go_simp; (try (with_reducible rfl)))
        try simp only [Act.put, siA, scZ, scS]
        refine wpTill_skip (i := 7) 92 rfl rfl (by kernel_rfl) (by kernel_rfl) (by assumption) ?_
        try simp only [Act.put, siA, scZ, scS]
        refine wpTill_take (i := 8) (v := undef) 93 rfl rfl (by kernel_rfl) (by kernel_rfl) (by kernel_rfl) (fun _ _ _ h => h) (Or.inr ⟨by kernel_rfl, rfl⟩) (by assumption) (by kernel_rfl) ?_
        try simp only [Act.put, siA, scZ, scS]
        refine wpTill_take (i := 9) (v := ?vS8_9_0_) 94 rfl rfl (by kernel_rfl) (by kernel_rfl) (by kernel_rfl) (fun _ _ _ h => h) (Or.inl ⟨by kernel_rfl, ?hyS8_9_0_⟩) (by assumption) (by kernel_rfl) ?restS8_9_0_
        case hyS8_9_0_ => (intro W_ hS_; (try dsimp only at hS_); go_simp; (try (with_reducible rfl)))
        try simp only [Act.put, siA, scZ, scS]
        refine wpTill_take (i := 12) (v := ?vS8_12_0_) 97 rfl rfl (by kernel_rfl) (by kernel_rfl) (by kernel_rfl) (fun _ _ _ h => h) (Or.inl ⟨by kernel_rfl, ?hyS8_12_0_⟩) (by assumption) (by kernel_rfl) ?restS8_12_0_
        case hyS8_12_0_ => (intro W_ hS_; (try dsimp only at hS_); go_simp; (try (with_reducible rfl)))
        try simp only [Act.put, siA, scZ, scS]
        refine wpTill_take (i := 13) (v := ?vS8_13_0_) 98 rfl rfl (by kernel_rfl) (by kernel_rfl) (by kernel_rfl) (fun _ _ _ h => h) (Or.inl ⟨by kernel_rfl, ?hyS8_13_0_⟩) (by assumption) (by kernel_rfl) ?restS8_13_0_
        case hyS8_13_0_ => (intro W_ hS_; (try dsimp only at hS_); go_simp; (try (with_reducible rfl)))
        try simp only [Act.put, siA, scZ, scS]
        refine wpTill_take (i := 14) (v := ?vS8_14_0_) 99 rfl rfl (by kernel_rfl) (by kernel_rfl) (by kernel_rfl) (fun _ _ _ h => h) (Or.inl ⟨by kernel_rfl, ?hyS8_14_0_⟩) (by assumption) (by kernel_rfl) ?restS8_14_0_
        case hyS8_14_0_ => (intro W_ hS_; (try dsimp only at hS_); go_simp; (try (with_reducible rfl)))
        try simp only [Act.put, siA, scZ, scS]
        refine wpTill_take (i := 15) (v := ?vS8_15_0_) 100 rfl rfl (by kernel_rfl) (by kernel_rfl) (by kernel_rfl) (fun _ _ _ h => h) (Or.inl ⟨by kernel_rfl, ?hyS8_15_0_⟩) (by assumption) (by kernel_rfl) ?restS8_15_0_
        case hyS8_15_0_ => (intro W_ hS_; (try dsimp only at hS_); go_simp; (try (with_reducible rfl)))
        try simp only [Act.put, siA, scZ, scS]
        refine wpTill_ready (rs := [16]) (by kernel_rfl) (by simp) ?_
        refine (AllTill.cons rfl (fun K_ hK_ => ?_) AllTill.nil)
        go_simp
        refine (in10_c (hH.to (below_then hT53 (below_drew1 _))) HHl.out hwm k false Hin.out).mono ?_
        rintro e wr16 ⟨rfl, hBr16⟩
        go_wp2_with fail
        refine hK_.out _ _ (fun _ => by exact ⟨cells1' (block_below hBr16 (block_below (below_drew1 _) hh53)), cells5' (block_below hBr16 (block_below (below_drew1 _) hf53)), cells7' (block_below hBr16 (block_below (below_drew1 _) hx53)), (nat_to (nat_to hAt53 (below_drew1 _)) hBr16)⟩) (fun hHeld_16_0 => ?_)
        replace hHeld_16_0 := hHeld_16_0 (by decide)
        clear hK_
        try simp only [Act.put, siA, scZ, scS]
        refine wpTill_take (i := 17) (v := ?vS8_17_1_16) 102 rfl rfl (by kernel_rfl) (by kernel_rfl) (by kernel_rfl) (fun _ _ _ h => h) (Or.inl ⟨by kernel_rfl, ?hyS8_17_1_16⟩) (by assumption) (by kernel_rfl) ?restS8_17_1_16
        case hyS8_17_1_16 => (intro W_ hS_; (try dsimp only at hS_); go_simp; (try (with_reducible rfl)))
        try simp only [Act.put, siA, scZ, scS]
        refine wpTill_take (i := 18) (v := ?vS8_18_1_16) 103 rfl rfl (by kernel_rfl) (by kernel_rfl) (by kernel_rfl) (fun _ _ _ h => h) (Or.inl ⟨by kernel_rfl, ?hyS8_18_1_16⟩) (by assumption) (by kernel_rfl) ?restS8_18_1_16
        case hyS8_18_1_16 => (intro W_ hS_; (try dsimp only at hS_); go_simp; (try (with_reducible rfl)))
        try simp only [Act.put, siA, scZ, scS]
        refine wpTill_take (i := 19) (v := undef) 104 rfl rfl (by kernel_rfl) (by kernel_rfl) (by kernel_rfl) (fun _ _ _ h => h) (Or.inr ⟨by kernel_rfl, rfl⟩) (by assumption) (by kernel_rfl) ?_
        try simp only [Act.put, siA, scZ, scS]
        refine wpTill_take (i := 20) (v := undef) 105 rfl rfl (by kernel_rfl) (by kernel_rfl) (by kernel_rfl) (fun _ _ _ h => h) (Or.inr ⟨by kernel_rfl, rfl⟩) (by assumption) (by kernel_rfl) ?_
        try simp only [Act.put, siA, scZ, scS]
        refine wpTill_take (i := 21) (v := undef) 106 rfl rfl (by kernel_rfl) (by kernel_rfl) (by kernel_rfl) (fun _ _ _ h => h) (Or.inr ⟨by kernel_rfl, rfl⟩) (by assumption) (by kernel_rfl) ?_
        try simp only [Act.put, siA, scZ, scS]
        refine wpTill_take (i := 22) (v := undef) 107 rfl rfl (by kernel_rfl) (by kernel_rfl) (by kernel_rfl) (fun _ _ _ h => h) (Or.inr ⟨by kernel_rfl, rfl⟩) (by assumption) (by kernel_rfl) ?_
        try simp only [Act.put, siA, scZ, scS]
        refine wpTill_take (i := 23) (v := undef) 108 rfl rfl (by kernel_rfl) (by kernel_rfl) (by kernel_rfl) (fun _ _ _ h => h) (Or.inr ⟨by kernel_rfl, rfl⟩) (by assumption) (by kernel_rfl) ?_
        try simp only [Act.put, siA, scZ, scS]
        refine wpTill_take (i := 24) (v := undef) 109 rfl rfl (by kernel_rfl) (by kernel_rfl) (by kernel_rfl) (fun _ _ _ h => h) (Or.inr ⟨by kernel_rfl, rfl⟩) (by assumption) (by kernel_rfl) ?_
        try simp only [Act.put, siA, scZ, scS]
        refine wpTill_take (i := 25) (v := undef) 110 rfl rfl (by kernel_rfl) (by kernel_rfl) (by kernel_rfl) (fun _ _ _ h => h) (Or.inr ⟨by kernel_rfl, rfl⟩) (by assumption) (by kernel_rfl) ?_
        try simp only [Act.put, siA, scZ, scS]
        refine wpTill_take (i := 26) (v := ?vS8_26_1_16) 111 rfl rfl (by kernel_rfl) (by kernel_rfl) (by kernel_rfl) (fun _ _ _ h => h) (Or.inl ⟨by kernel_rfl, ?hyS8_26_1_16⟩) (by assumption) (by kernel_rfl) ?restS8_26_1_16
        case hyS8_26_1_16 => (intro W_ hS_; (try dsimp only at hS_); go_simp; (try (with_reducible rfl)))
        try simp only [Act.put, siA, scZ, scS]
        refine wpTill_ready (rs := [27]) (by kernel_rfl) (by simp) ?_
        refine (AllTill.cons rfl (fun K_ hK_ => ?_) AllTill.nil)
        go_simp
        refine (refHeard_c (NIs.to (NIs.to hV53 (below_drew1 _)) hBr16) (FIs.to (FIs.to hG53 (below_drew1 _)) hBr16) HokN2.out (off_up (GOwn.to (GOwn.to hO53 (below_drew1 _)) hBr16) (L := [wr.heap.size, (w.heap.size + 1)]) (lt_cons (Array.getElem?_eq_some_iff.1 (block_below hBr16 (block_below (below_drew1 _) hx53))).1 (lt_cons (Array.getElem?_eq_some_iff.1 (block_below hBr16 (block_below (below_drew1 _) hd53))).1 (fun _ h => by cases h))) hP (below_then hT53 (below_then (below_drew1 _) hBr16)).size) false false M1 HM1b.out).mono ?_
        rintro e wr27 ⟨m2, rfl, hM_, hBr27⟩
        go_wp2_with fail
        refine hK_.out _ _ (fun _ => by exact ⟨cells1' (block_below hBr27 (block_below hBr16 (block_below (below_drew1 _) hh53))), cells5' (block_below hBr27 (block_below hBr16 (block_below (below_drew1 _) hf53))), cells7' (block_below hBr27 (block_below hBr16 (block_below (below_drew1 _) hx53))), (nat_to (nat_to (nat_to hAt53 (below_drew1 _)) hBr16) hBr27)⟩) (fun hHeld_27_1 => ?_)
        replace hHeld_27_1 := hHeld_27_1 (by decide)
        clear hK_
        try simp only [Act.put, siA, scZ, scS]
        refine wpTill_ready (rs := [28]) (by kernel_rfl) (by simp) ?_
        refine (AllTill.cons rfl (fun K_ hK_ => ?_) AllTill.nil)
        obtain ⟨⟨z0, z1, z2, z3, z4, z5, z6⟩, y0, y1, y2, y3, y4, y5, y6⟩ := cells7 (block_below hBr27 (block_below hBr16 (block_below (below_drew1 _) hx53)))
        go_simp
        go_wp2_with fail
        clear z0 z1 z2 z3 z4 z5 z6 y0 y1 y2 y3 y4 y5 y6
        refine hK_.out _ _ (fun h_ => absurd rfl h_) (fun hHeld_28_2 => ?_)
        clear hK_
        try simp only [Act.put, siA, scZ, scS]
        refine wpTill_done (by kernel_rfl) ?_ _
        skip
        obtain ⟨w54, hw54⟩ : ∃ w54, wr27 = w54 := ⟨_, rfl⟩
        have hB54 : Below w53.heap.size w53 w54 := by rw [← hw54]; exact (below_then (below_then (below_drew1 _) hBr16) hBr27)
        have hM54 := hM_
        rw [hw54] at hM54
        rw [hw54]
        clear hw54 hM_ hBr16 hBr27
        have hT54 := below_then hT53 hB54
        have hh54 := block_below hB54 hh53
        have hd54 := block_below hB54 hd53
        have hf54 := block_below hB54 hf53
        have hx54 := block_below hB54 hx53
        have hO54 := GOwn.to hO53 hB54
        have hA54 := NsIs.to hA53 hB54
        have hF54 := FIs.to hF53 hB54
        have hV54 := NIs.to hV53 hB54
        have hAt54 := nat_to hAt53 hB54
        have hG54 := FIs.to hG53 hB54
        clear hT53 hh53 hd53 hf53 hx53 hO53 hA53 hF53 hV53 hAt53 hG53 hB54
        clear hV54
        clear hG54
        clear hAt54
        obtain ⟨w55, hw55⟩ : ∃ w_, set7 w54 wr.heap.size (.slice m2.qa m2.qm m2.qc) (.slice m2.la m2.lm m2.lc) (.int .i64 m2.k.t) (.int .i64 m2.k.r) (.int .i64 m2.k.s) (.int .i64 m2.k.q) (.slice m2.ga m2.gm m2.gc) = w_ := ⟨_, rfl⟩
        have hG55 : w54.grownBy w55 (some wr.heap.size) := by rw [← hw55]; exact set7_grown _ _ _ _ _ _ _ _ _
        have hT55 := below_g hT54 hG55 hgex
        have hh55 := other_g hG55 hh54 Hh_x.out
        have hd55 := other_g hG55 hd54 Hd_x.out
        have hf55 := other_g hG55 hf54 Hf_x.out
        have hx55 : w55.heap[wr.heap.size]? = some (.cells #[.slice m2.qa m2.qm m2.qc, .slice m2.la m2.lm m2.lc, .int .i64 m2.k.t, .int .i64 m2.k.r, .int .i64 m2.k.s, .int .i64 m2.k.q, .slice m2.ga m2.gm m2.gc] 49) := by rw [← hw55]; exact set7_obj hx54 _ _ _ _ _ _ _
        have hO55 := gown_ne9.grow hO54 hG55 HOx.out
        have hA55 := NsIs.grow hA54 hG55 (off_not (by simp))
        have hF55 := FIs.grow hF54 hG55 (plo_not hgex)
        have hM55 := NIs.grow hM54 hG55 (off_not (by simp))
        have Hsz55 := Lib.hid (show w55.heap.size = w54.heap.size by rw [← hw55]; simp [set7, World.setCell])
        unfold set7 at hw55
        rw [hw55]
        clear hw55 hG55 hT54 hh54 hd54 hf54 hx54 hO54 hA54 hF54 hM54
        have hV55 := hM55
        clear hM55
        have hXne := hgex
        have hOx : NOwn (w55.alloc (.cells #[.slice m2.qa m2.qm m2.qc, .slice m2.la m2.lm m2.lc, .int .i64 m2.k.t, .int .i64 m2.k.r, .int .i64 m2.k.s, .int .i64 m2.k.q, .slice m2.ga m2.gm m2.gc] 49)) (w.heap.size + 2) A2 k c2 ns := GOwn.to hO55 (below_alloc1 _ _)
        have hAx : NsIs (w55.alloc (.cells #[.slice m2.qa m2.qm m2.qc, .slice m2.la m2.lm m2.lc, .int .i64 m2.k.t, .int .i64 m2.k.r, .int .i64 m2.k.s, .int .i64 m2.k.q, .slice m2.ga m2.gm m2.gc] 49)) (Off P ([wr.heap.size, (w.heap.size + 1)] ++ ownL A2)) ns (slotTo Ns H k) := NsIs.to hA55 (below_alloc1 _ _)
        have hVx : NIs (w55.alloc (.cells #[.slice m2.qa m2.qm m2.qc, .slice m2.la m2.lm m2.lc, .int .i64 m2.k.t, .int .i64 m2.k.r, .int .i64 m2.k.s, .int .i64 m2.k.q, .slice m2.ga m2.gm m2.gc] 49)) (Off P ([wr.heap.size, (w.heap.size + 1)] ++ ownL A2)) m2 M1 := NIs.to hV55 (below_alloc1 _ _)
        have hTx := below_then hT55 (below_alloc1 w55 (.cells #[.slice m2.qa m2.qm m2.qc, .slice m2.la m2.lm m2.lc, .int .i64 m2.k.t, .int .i64 m2.k.r, .int .i64 m2.k.s, .int .i64 m2.k.q, .slice m2.ga m2.gm m2.gc] 49))
        have hdx := (Array.getElem?_eq_some_iff.1 hd55).1
        have hbx : (w.heap.size + 2) ≤ (w55.alloc (.cells #[.slice m2.qa m2.qm m2.qc, .slice m2.la m2.lm m2.lc, .int .i64 m2.k.t, .int .i64 m2.k.r, .int .i64 m2.k.s, .int .i64 m2.k.q, .slice m2.ga m2.gm m2.gc] 49)).heap.size := by simp; omega
        have hbh := block_below (below_alloc1 w55 (.cells #[.slice m2.qa m2.qm m2.qc, .slice m2.la m2.lm m2.lc, .int .i64 m2.k.t, .int .i64 m2.k.r, .int .i64 m2.k.s, .int .i64 m2.k.q, .slice m2.ga m2.gm m2.gc] 49)) hh55
        have hbd := block_below (below_alloc1 w55 (.cells #[.slice m2.qa m2.qm m2.qc, .slice m2.la m2.lm m2.lc, .int .i64 m2.k.t, .int .i64 m2.k.r, .int .i64 m2.k.s, .int .i64 m2.k.q, .slice m2.ga m2.gm m2.gc] 49)) hd55
        have hbf := block_below (below_alloc1 w55 (.cells #[.slice m2.qa m2.qm m2.qc, .slice m2.la m2.lm m2.lc, .int .i64 m2.k.t, .int .i64 m2.k.r, .int .i64 m2.k.s, .int .i64 m2.k.q, .slice m2.ga m2.gm m2.gc] 49)) hf55
        have hFx := FIs.to hF55 (below_alloc1 w55 (.cells #[.slice m2.qa m2.qm m2.qc, .slice m2.la m2.lm m2.lc, .int .i64 m2.k.t, .int .i64 m2.k.r, .int .i64 m2.k.s, .int .i64 m2.k.q, .slice m2.ga m2.gm m2.gc] 49))
        have hlh := (Array.getElem?_eq_some_iff.1 hh55).1
        have hc0 := cells1' hh55
        have hld := (Array.getElem?_eq_some_iff.1 hd55).1
        obtain ⟨dc0, dc1, dc2, dc3, dc4, dc5, dc6, dc7⟩ := cells8' hd55
        have hlf := (Array.getElem?_eq_some_iff.1 hf55).1
        obtain ⟨fc0, fc1, fc2, fc3, fc4⟩ := cells5' hf55
        have hlx := (Array.getElem?_eq_some_iff.1 hx55).1
        obtain ⟨xc0, xc1, xc2, xc3, xc4, xc5, xc6⟩ := cells7' hx55
        go_wp2_with (at_builtin; refine wpList_append_g shN Tryz.infoN _ rfl _ _ rfl (w.heap.size + 2) A2 k c2 ns rfl hOx _ 1 _ _ [m2] rfl rfl (GRow.lit w55 [m2] rfl rfl) (by omega) hbx ?_; intro A3 c3 w90 hO90 hc90 hg90 he90 hB90)
        clear hlh hc0 hld dc0 dc1 dc2 dc3 dc4 dc5 dc6 dc7 hlf fc0 fc1 fc2 fc3 fc4 hlx xc0 xc1 xc2 xc3 xc4 xc5 xc6
        have hA90 := AllIs.append (nsis_off hAx hg90 he90) (AllIs.one (nis_off hVx hg90 he90))
        have hT90 : Below w.heap.size w w90 := hTx.trans (hB90.mono (by omega))
        have hh90 := (hB90.block _ (by omega)).trans hbh
        have hd90 := (hB90.block _ (by omega)).trans hbd
        have hf90 := box_app hbf hg90 HOf.out
        have hF90 := fis_plo_app hFx hg90 (fun Y hY => by have := gown_ge hOx Y hY; omega)
        have HOf2 := Lib.hid (ownL_ne HOf.out he90 (by have := (Array.getElem?_eq_some_iff.1 hbf).1; exact this))
        go_round
        case measure => simp [intOf]; omega
        exact ⟨k + 1, c3, A3, ns ++ [m2], by omega, by go_num, rfl, hO90, (by rw [Hq.out k, show afterN Ns H k = M1 from Hst.out]; exact NsIs.mono hA90 off_drop), HOf2, hh90, hd90, hf90, hF90, hT90⟩
      have HM1b := Lib.hid (show heardN N2 F false l1 = M1 by rw [← HM1.out]; simp)
      have hG53 : FIs w53 (Off P ([wr.heap.size, (w.heap.size + 1)] ++ ownL A2)) f F := hF53.mono (plo_off2 hO53 (by omega) (by omega) hgex)
      refine wp_region_till 28 (S := fun W => (W.cell? ⟨w.heap.size, 0, none⟩ = some (.slice wa wn wc)) ∧ (W.cell? ⟨w3.heap.size, 0, none⟩ = some (.bool f.x) ∧ W.cell? ⟨w3.heap.size, 1, none⟩ = some (.int .i64 f.i) ∧ W.cell? ⟨w3.heap.size, 2, none⟩ = some (.bool f.r) ∧ W.cell? ⟨w3.heap.size, 3, none⟩ = some (.int .i64 f.n) ∧ W.cell? ⟨w3.heap.size, 4, none⟩ = some (.slice f.a f.m f.c)) ∧ (W.cell? ⟨wr.heap.size, 0, none⟩ = some (.slice m.qa m.qm m.qc) ∧ W.cell? ⟨wr.heap.size, 1, none⟩ = some (.slice m.la m.lm m.lc) ∧ W.cell? ⟨wr.heap.size, 2, none⟩ = some (.int .i64 m.k.t) ∧ W.cell? ⟨wr.heap.size, 3, none⟩ = some (.int .i64 m.k.r) ∧ W.cell? ⟨wr.heap.size, 4, none⟩ = some (.int .i64 m.k.s) ∧ W.cell? ⟨wr.heap.size, 5, none⟩ = some (.int .i64 m.k.q) ∧ W.cell? ⟨wr.heap.size, 6, none⟩ = some (.slice m.ga m.gm m.gc)) ∧ (W.cell? (ad.add (k * 7)) = some (.slice m.qa m.qm m.qc) ∧ W.cell? ⟨(ad.add (k * 7)).block, (ad.add (k * 7)).off + 1, none⟩ = some (.slice m.la m.lm m.lc) ∧ W.cell? ⟨(ad.add (k * 7)).block, (ad.add (k * 7)).off + 2, none⟩ = some (.int .i64 m.k.t) ∧ W.cell? ⟨(ad.add (k * 7)).block, (ad.add (k * 7)).off + 3, none⟩ = some (.int .i64 m.k.r) ∧ W.cell? ⟨(ad.add (k * 7)).block, (ad.add (k * 7)).off + 4, none⟩ = some (.int .i64 m.k.s) ∧ W.cell? ⟨(ad.add (k * 7)).block, (ad.add (k * 7)).off + 5, none⟩ = some (.int .i64 m.k.q) ∧ W.cell? ⟨(ad.add (k * 7)).block, (ad.add (k * 7)).off + 6, none⟩ = some (.slice m.ga m.gm m.gc))) (by kernel_rfl) (by exact ⟨cells1' (block_below (below_drew1 _) hh53), cells5' (block_below (below_drew1 _) hf53), cells7' (block_below (below_drew1 _) hx53), (nat_to hAt53 (below_drew1 _))⟩) (fun hHeld_ => ?_)
      refine wpTill_take (i := 0) (v := ?vS9_0_0_) 85 rfl rfl (by kernel_rfl) (by kernel_rfl) (by kernel_rfl) (fun _ _ _ h => h) (Or.inl ⟨by kernel_rfl, ?hyS9_0_0_⟩) (by assumption) (by kernel_rfl) ?restS9_0_0_
      case hyS9_0_0_ => (intro W_ hS_; (try dsimp only at hS_); go_simp; (try (with_reducible rfl)))
      try simp only [Act.put, siA, scZ, scS]
      refine wpTill_take (i := 1) (v := ?vS9_1_0_) 86 rfl rfl (by kernel_rfl) (by kernel_rfl) (by kernel_rfl) (fun _ _ _ h => h) (Or.inl ⟨by kernel_rfl, ?hyS9_1_0_⟩) (by assumption) (by kernel_rfl) ?restS9_1_0_
      case hyS9_1_0_ => (intro W_ hS_; (try dsimp only at hS_); go_simp; (try (with_reducible rfl)))
      try simp only [Act.put, siA, scZ, scS]
      refine wpTill_take (i := 2) (v := ?vS9_2_0_) 87 rfl rfl (by kernel_rfl) (by kernel_rfl) (by kernel_rfl) (fun _ _ _ h => h) (Or.inl ⟨by kernel_rfl, ?hyS9_2_0_⟩) (by assumption) (by kernel_rfl) ?restS9_2_0_
      case hyS9_2_0_ => (intro W_ hS_; (try dsimp only at hS_); go_simp; (try (with_reducible rfl)))
      try simp only [Act.put, siA, scZ, scS]
      refine wpTill_take (i := 3) (v := ?vS9_3_0_) 88 rfl rfl (by kernel_rfl) (by kernel_rfl) (by kernel_rfl) (fun _ _ _ h => h) (Or.inl ⟨by kernel_rfl, ?hyS9_3_0_⟩) (by assumption) (by kernel_rfl) ?restS9_3_0_
      case hyS9_3_0_ => (intro W_ hS_; (try dsimp only at hS_); go_simp; (try (with_reducible rfl)))
      try simp only [Act.put, siA, scZ, scS]
      refine wpTill_take (i := 4) (v := undef) 89 rfl rfl (by kernel_rfl) (by kernel_rfl) (by kernel_rfl) (fun _ _ _ h => h) (Or.inr ⟨by kernel_rfl, rfl⟩) (by assumption) (by kernel_rfl) ?_
      try simp only [Act.put, siA, scZ, scS]
      refine wpTill_take (i := 5) (v := undef) 90 rfl rfl (by kernel_rfl) (by kernel_rfl) (by kernel_rfl) (fun _ _ _ h => h) (Or.inr ⟨by kernel_rfl, rfl⟩) (by assumption) (by kernel_rfl) ?_
      try simp only [Act.put, siA, scZ, scS]
      refine wpTill_take (i := 6) (v := undef) 91 rfl rfl (by kernel_rfl) (by kernel_rfl) (by kernel_rfl) (fun _ _ _ h => h) (Or.inr ⟨by kernel_rfl, rfl⟩) (by assumption) (by kernel_rfl) ?_
      try simp only [Act.put, siA, scZ, scS]
      refine wpTill_take (i := 10) (v := ?vS9_10_0_) 95 rfl rfl (by kernel_rfl) (by kernel_rfl) (by kernel_rfl) (fun _ _ _ h => h) (Or.inl ⟨by kernel_rfl, ?hyS9_10_0_⟩) (by assumption) (by kernel_rfl) ?restS9_10_0_
      case hyS9_10_0_ => (intro W_ hS_; (try dsimp only at hS_); go_simp; (try (with_reducible rfl)))
      try simp only [Act.put, siA, scZ, scS]
      refine wpTill_take (i := 11) (v := ?vS9_11_0_) 96 rfl rfl (by kernel_rfl) (by kernel_rfl) (by kernel_rfl) (fun _ _ _ h => h) (Or.inl ⟨by kernel_rfl, ?hyS9_11_0_⟩) (by assumption) (by kernel_rfl) ?restS9_11_0_
      case hyS9_11_0_ => (intro W_ hS_; (try dsimp only at hS_); go_simp; (try (with_reducible rfl)))
      try simp only [Act.put, siA, scZ, scS]
      refine wpTill_skip (i := 7) 92 rfl rfl (by kernel_rfl) (by kernel_rfl) (by assumption) ?_
      try simp only [Act.put, siA, scZ, scS]
      refine wpTill_take (i := 8) (v := undef) 93 rfl rfl (by kernel_rfl) (by kernel_rfl) (by kernel_rfl) (fun _ _ _ h => h) (Or.inr ⟨by kernel_rfl, rfl⟩) (by assumption) (by kernel_rfl) ?_
      try simp only [Act.put, siA, scZ, scS]
      refine wpTill_take (i := 9) (v := ?vS9_9_0_) 94 rfl rfl (by kernel_rfl) (by kernel_rfl) (by kernel_rfl) (fun _ _ _ h => h) (Or.inl ⟨by kernel_rfl, ?hyS9_9_0_⟩) (by assumption) (by kernel_rfl) ?restS9_9_0_
      case hyS9_9_0_ => (intro W_ hS_; (try dsimp only at hS_); go_simp; (try (with_reducible rfl)))
      try simp only [Act.put, siA, scZ, scS]
      refine wpTill_take (i := 12) (v := ?vS9_12_0_) 97 rfl rfl (by kernel_rfl) (by kernel_rfl) (by kernel_rfl) (fun _ _ _ h => h) (Or.inl ⟨by kernel_rfl, ?hyS9_12_0_⟩) (by assumption) (by kernel_rfl) ?restS9_12_0_
      case hyS9_12_0_ => (intro W_ hS_; (try dsimp only at hS_); go_simp; (try (with_reducible rfl)))
      try simp only [Act.put, siA, scZ, scS]
      refine wpTill_take (i := 13) (v := ?vS9_13_0_) 98 rfl rfl (by kernel_rfl) (by kernel_rfl) (by kernel_rfl) (fun _ _ _ h => h) (Or.inl ⟨by kernel_rfl, ?hyS9_13_0_⟩) (by assumption) (by kernel_rfl) ?restS9_13_0_
      case hyS9_13_0_ => (intro W_ hS_; (try dsimp only at hS_); go_simp; (try (with_reducible rfl)))
      try simp only [Act.put, siA, scZ, scS]
      refine wpTill_take (i := 14) (v := ?vS9_14_0_) 99 rfl rfl (by kernel_rfl) (by kernel_rfl) (by kernel_rfl) (fun _ _ _ h => h) (Or.inl ⟨by kernel_rfl, ?hyS9_14_0_⟩) (by assumption) (by kernel_rfl) ?restS9_14_0_
      case hyS9_14_0_ => (intro W_ hS_; (try dsimp only at hS_); go_simp; (try (with_reducible rfl)))
      try simp only [Act.put, siA, scZ, scS]
      refine wpTill_take (i := 15) (v := ?vS9_15_0_) 100 rfl rfl (by kernel_rfl) (by kernel_rfl) (by kernel_rfl) (fun _ _ _ h => h) (Or.inl ⟨by kernel_rfl, ?hyS9_15_0_⟩) (by assumption) (by kernel_rfl) ?restS9_15_0_
      case hyS9_15_0_ => (intro W_ hS_; (try dsimp only at hS_); go_simp; (try (with_reducible rfl)))
      try simp only [Act.put, siA, scZ, scS]
      refine wpTill_ready (rs := [16]) (by kernel_rfl) (by simp) ?_
      refine (AllTill.cons rfl (fun K_ hK_ => ?_) AllTill.nil)
      go_simp
      refine (in10_c (hH.to (below_then hT53 (below_drew1 _))) HHl.out hwm k true Hin.out).mono ?_
      rintro e wr16 ⟨rfl, hBr16⟩
      go_wp2_with fail
      refine hK_.out _ _ (fun _ => by exact ⟨cells1' (block_below hBr16 (block_below (below_drew1 _) hh53)), cells5' (block_below hBr16 (block_below (below_drew1 _) hf53)), cells7' (block_below hBr16 (block_below (below_drew1 _) hx53)), (nat_to (nat_to hAt53 (below_drew1 _)) hBr16)⟩) (fun hHeld_16_0 => ?_)
      replace hHeld_16_0 := hHeld_16_0 (by decide)
      clear hK_
      try simp only [Act.put, siA, scZ, scS]
      refine wpTill_take (i := 17) (v := ?vS9_17_1_16) 102 rfl rfl (by kernel_rfl) (by kernel_rfl) (by kernel_rfl) (fun _ _ _ h => h) (Or.inl ⟨by kernel_rfl, ?hyS9_17_1_16⟩) (by assumption) (by kernel_rfl) ?restS9_17_1_16
      case hyS9_17_1_16 => (intro W_ hS_; (try dsimp only at hS_); go_simp; (try (with_reducible rfl)))
      try simp only [Act.put, siA, scZ, scS]
      refine wpTill_take (i := 18) (v := ?vS9_18_1_16) 103 rfl rfl (by kernel_rfl) (by kernel_rfl) (by kernel_rfl) (fun _ _ _ h => h) (Or.inl ⟨by kernel_rfl, ?hyS9_18_1_16⟩) (by assumption) (by kernel_rfl) ?restS9_18_1_16
      case hyS9_18_1_16 => (intro W_ hS_; (try dsimp only at hS_); go_simp; (try (with_reducible rfl)))
      try simp only [Act.put, siA, scZ, scS]
      refine wpTill_take (i := 19) (v := ?vS9_19_1_16) 104 rfl rfl (by kernel_rfl) (by kernel_rfl) (by kernel_rfl) (fun _ _ _ h => h) (Or.inl ⟨by kernel_rfl, ?hyS9_19_1_16⟩) (by assumption) (by kernel_rfl) ?restS9_19_1_16
      case hyS9_19_1_16 => (intro W_ hS_; (try dsimp only at hS_); go_simp; (try (with_reducible rfl)))
      try simp only [Act.put, siA, scZ, scS]
      refine wpTill_take (i := 20) (v := ?vS9_20_1_16) 105 rfl rfl (by kernel_rfl) (by kernel_rfl) (by kernel_rfl) (fun _ _ _ h => h) (Or.inl ⟨by kernel_rfl, ?hyS9_20_1_16⟩) (by assumption) (by kernel_rfl) ?restS9_20_1_16
      case hyS9_20_1_16 => (intro W_ hS_; (try dsimp only at hS_); go_simp; (try (with_reducible rfl)))
      try simp only [Act.put, siA, scZ, scS]
      refine wpTill_take (i := 21) (v := ?vS9_21_1_16) 106 rfl rfl (by kernel_rfl) (by kernel_rfl) (by kernel_rfl) (fun _ _ _ h => h) (Or.inl ⟨by kernel_rfl, ?hyS9_21_1_16⟩) (by assumption) (by kernel_rfl) ?restS9_21_1_16
      case hyS9_21_1_16 => (intro W_ hS_; (try dsimp only at hS_); go_simp; (try (with_reducible rfl)))
      try simp only [Act.put, siA, scZ, scS]
      refine wpTill_take (i := 22) (v := ?vS9_22_1_16) 107 rfl rfl (by kernel_rfl) (by kernel_rfl) (by kernel_rfl) (fun _ _ _ h => h) (Or.inl ⟨by kernel_rfl, ?hyS9_22_1_16⟩) (by assumption) (by kernel_rfl) ?restS9_22_1_16
      case hyS9_22_1_16 => (intro W_ hS_; (try dsimp only at hS_); go_simp; (try (with_reducible rfl)))
      try simp only [Act.put, siA, scZ, scS]
      refine wpTill_take (i := 23) (v := ?vS9_23_1_16) 108 rfl rfl (by kernel_rfl) (by kernel_rfl) (by kernel_rfl) (fun _ _ _ h => h) (Or.inl ⟨by kernel_rfl, ?hyS9_23_1_16⟩) (by assumption) (by kernel_rfl) ?restS9_23_1_16
      case hyS9_23_1_16 => (intro W_ hS_; (try dsimp only at hS_); go_simp; (try (with_reducible rfl)))
      try simp only [Act.put, siA, scZ, scS]
      refine wpTill_take (i := 24) (v := ?vS9_24_1_16) 109 rfl rfl (by kernel_rfl) (by kernel_rfl) (by kernel_rfl) (fun _ _ _ h => h) (Or.inl ⟨by kernel_rfl, ?hyS9_24_1_16⟩) (by assumption) (by kernel_rfl) ?restS9_24_1_16
      case hyS9_24_1_16 => (intro W_ hS_; (try dsimp only at hS_); go_simp; (try (with_reducible rfl)))
      try simp only [Act.put, siA, scZ, scS]
      refine wpTill_take (i := 25) (v := ?vS9_25_1_16) 110 rfl rfl (by kernel_rfl) (by kernel_rfl) (by kernel_rfl) (fun _ _ _ h => h) (Or.inl ⟨by kernel_rfl, ?hyS9_25_1_16⟩) (by assumption) (by kernel_rfl) ?restS9_25_1_16
      case hyS9_25_1_16 => (intro W_ hS_; (try dsimp only at hS_); go_simp; (try (with_reducible rfl)))
      try simp only [Act.put, siA, scZ, scS]
      refine wpTill_take (i := 26) (v := ?vS9_26_1_16) 111 rfl rfl (by kernel_rfl) (by kernel_rfl) (by kernel_rfl) (fun _ _ _ h => h) (Or.inl ⟨by kernel_rfl, ?hyS9_26_1_16⟩) (by assumption) (by kernel_rfl) ?restS9_26_1_16
      case hyS9_26_1_16 => (intro W_ hS_; (try dsimp only at hS_); go_simp; (try (with_reducible rfl)))
      try simp only [Act.put, siA, scZ, scS]
      refine wpTill_ready (rs := [27]) (by kernel_rfl) (by simp) ?_
      refine (AllTill.cons rfl (fun K_ hK_ => ?_) AllTill.nil)
      go_simp
      refine (refHeard_c (NIs.to (NIs.to hV53 (below_drew1 _)) hBr16) (FIs.to (FIs.to hG53 (below_drew1 _)) hBr16) HokN2.out (off_up (GOwn.to (GOwn.to hO53 (below_drew1 _)) hBr16) (L := [wr.heap.size, (w.heap.size + 1)]) (lt_cons (Array.getElem?_eq_some_iff.1 (block_below hBr16 (block_below (below_drew1 _) hx53))).1 (lt_cons (Array.getElem?_eq_some_iff.1 (block_below hBr16 (block_below (below_drew1 _) hd53))).1 (fun _ h => by cases h))) hP (below_then hT53 (below_then (below_drew1 _) hBr16)).size) false l1 M1 HM1b.out).mono ?_
      rintro e wr27 ⟨m2, rfl, hM_, hBr27⟩
      go_wp2_with fail
      refine hK_.out _ _ (fun _ => by exact ⟨cells1' (block_below hBr27 (block_below hBr16 (block_below (below_drew1 _) hh53))), cells5' (block_below hBr27 (block_below hBr16 (block_below (below_drew1 _) hf53))), cells7' (block_below hBr27 (block_below hBr16 (block_below (below_drew1 _) hx53))), (nat_to (nat_to (nat_to hAt53 (below_drew1 _)) hBr16) hBr27)⟩) (fun hHeld_27_1 => ?_)
      replace hHeld_27_1 := hHeld_27_1 (by decide)
      clear hK_
      try simp only [Act.put, siA, scZ, scS]
      refine wpTill_ready (rs := [28]) (by kernel_rfl) (by simp) ?_
      refine (AllTill.cons rfl (fun K_ hK_ => ?_) AllTill.nil)
      obtain ⟨⟨z0, z1, z2, z3, z4, z5, z6⟩, y0, y1, y2, y3, y4, y5, y6⟩ := cells7 (block_below hBr27 (block_below hBr16 (block_below (below_drew1 _) hx53)))
      go_simp
      go_wp2_with fail
      clear z0 z1 z2 z3 z4 z5 z6 y0 y1 y2 y3 y4 y5 y6
      refine hK_.out _ _ (fun h_ => absurd rfl h_) (fun hHeld_28_2 => ?_)
      clear hK_
      try simp only [Act.put, siA, scZ, scS]
      refine wpTill_done (by kernel_rfl) ?_ _
      skip
      obtain ⟨w54, hw54⟩ : ∃ w54, wr27 = w54 := ⟨_, rfl⟩
      have hB54 : Below w53.heap.size w53 w54 := by rw [← hw54]; exact (below_then (below_then (below_drew1 _) hBr16) hBr27)
      have hM54 := hM_
      rw [hw54] at hM54
      rw [hw54]
      clear hw54 hM_ hBr16 hBr27
      have hT54 := below_then hT53 hB54
      have hh54 := block_below hB54 hh53
      have hd54 := block_below hB54 hd53
      have hf54 := block_below hB54 hf53
      have hx54 := block_below hB54 hx53
      have hO54 := GOwn.to hO53 hB54
      have hA54 := NsIs.to hA53 hB54
      have hF54 := FIs.to hF53 hB54
      have hV54 := NIs.to hV53 hB54
      have hAt54 := nat_to hAt53 hB54
      have hG54 := FIs.to hG53 hB54
      clear hT53 hh53 hd53 hf53 hx53 hO53 hA53 hF53 hV53 hAt53 hG53 hB54
      clear hV54
      clear hG54
      clear hAt54
      obtain ⟨w55, hw55⟩ : ∃ w_, set7 w54 wr.heap.size (.slice m2.qa m2.qm m2.qc) (.slice m2.la m2.lm m2.lc) (.int .i64 m2.k.t) (.int .i64 m2.k.r) (.int .i64 m2.k.s) (.int .i64 m2.k.q) (.slice m2.ga m2.gm m2.gc) = w_ := ⟨_, rfl⟩
      have hG55 : w54.grownBy w55 (some wr.heap.size) := by rw [← hw55]; exact set7_grown _ _ _ _ _ _ _ _ _
      have hT55 := below_g hT54 hG55 hgex
      have hh55 := other_g hG55 hh54 Hh_x.out
      have hd55 := other_g hG55 hd54 Hd_x.out
      have hf55 := other_g hG55 hf54 Hf_x.out
      have hx55 : w55.heap[wr.heap.size]? = some (.cells #[.slice m2.qa m2.qm m2.qc, .slice m2.la m2.lm m2.lc, .int .i64 m2.k.t, .int .i64 m2.k.r, .int .i64 m2.k.s, .int .i64 m2.k.q, .slice m2.ga m2.gm m2.gc] 49) := by rw [← hw55]; exact set7_obj hx54 _ _ _ _ _ _ _
      have hO55 := gown_ne9.grow hO54 hG55 HOx.out
      have hA55 := NsIs.grow hA54 hG55 (off_not (by simp))
      have hF55 := FIs.grow hF54 hG55 (plo_not hgex)
      have hM55 := NIs.grow hM54 hG55 (off_not (by simp))
      have Hsz55 := Lib.hid (show w55.heap.size = w54.heap.size by rw [← hw55]; simp [set7, World.setCell])
      unfold set7 at hw55
      rw [hw55]
      clear hw55 hG55 hT54 hh54 hd54 hf54 hx54 hO54 hA54 hF54 hM54
      have hV55 := hM55
      clear hM55
      have hXne := hgex
      have hOx : NOwn (w55.alloc (.cells #[.slice m2.qa m2.qm m2.qc, .slice m2.la m2.lm m2.lc, .int .i64 m2.k.t, .int .i64 m2.k.r, .int .i64 m2.k.s, .int .i64 m2.k.q, .slice m2.ga m2.gm m2.gc] 49)) (w.heap.size + 2) A2 k c2 ns := GOwn.to hO55 (below_alloc1 _ _)
      have hAx : NsIs (w55.alloc (.cells #[.slice m2.qa m2.qm m2.qc, .slice m2.la m2.lm m2.lc, .int .i64 m2.k.t, .int .i64 m2.k.r, .int .i64 m2.k.s, .int .i64 m2.k.q, .slice m2.ga m2.gm m2.gc] 49)) (Off P ([wr.heap.size, (w.heap.size + 1)] ++ ownL A2)) ns (slotTo Ns H k) := NsIs.to hA55 (below_alloc1 _ _)
      have hVx : NIs (w55.alloc (.cells #[.slice m2.qa m2.qm m2.qc, .slice m2.la m2.lm m2.lc, .int .i64 m2.k.t, .int .i64 m2.k.r, .int .i64 m2.k.s, .int .i64 m2.k.q, .slice m2.ga m2.gm m2.gc] 49)) (Off P ([wr.heap.size, (w.heap.size + 1)] ++ ownL A2)) m2 M1 := NIs.to hV55 (below_alloc1 _ _)
      have hTx := below_then hT55 (below_alloc1 w55 (.cells #[.slice m2.qa m2.qm m2.qc, .slice m2.la m2.lm m2.lc, .int .i64 m2.k.t, .int .i64 m2.k.r, .int .i64 m2.k.s, .int .i64 m2.k.q, .slice m2.ga m2.gm m2.gc] 49))
      have hdx := (Array.getElem?_eq_some_iff.1 hd55).1
      have hbx : (w.heap.size + 2) ≤ (w55.alloc (.cells #[.slice m2.qa m2.qm m2.qc, .slice m2.la m2.lm m2.lc, .int .i64 m2.k.t, .int .i64 m2.k.r, .int .i64 m2.k.s, .int .i64 m2.k.q, .slice m2.ga m2.gm m2.gc] 49)).heap.size := by simp; omega
      have hbh := block_below (below_alloc1 w55 (.cells #[.slice m2.qa m2.qm m2.qc, .slice m2.la m2.lm m2.lc, .int .i64 m2.k.t, .int .i64 m2.k.r, .int .i64 m2.k.s, .int .i64 m2.k.q, .slice m2.ga m2.gm m2.gc] 49)) hh55
      have hbd := block_below (below_alloc1 w55 (.cells #[.slice m2.qa m2.qm m2.qc, .slice m2.la m2.lm m2.lc, .int .i64 m2.k.t, .int .i64 m2.k.r, .int .i64 m2.k.s, .int .i64 m2.k.q, .slice m2.ga m2.gm m2.gc] 49)) hd55
      have hbf := block_below (below_alloc1 w55 (.cells #[.slice m2.qa m2.qm m2.qc, .slice m2.la m2.lm m2.lc, .int .i64 m2.k.t, .int .i64 m2.k.r, .int .i64 m2.k.s, .int .i64 m2.k.q, .slice m2.ga m2.gm m2.gc] 49)) hf55
      have hFx := FIs.to hF55 (below_alloc1 w55 (.cells #[.slice m2.qa m2.qm m2.qc, .slice m2.la m2.lm m2.lc, .int .i64 m2.k.t, .int .i64 m2.k.r, .int .i64 m2.k.s, .int .i64 m2.k.q, .slice m2.ga m2.gm m2.gc] 49))
      have hlh := (Array.getElem?_eq_some_iff.1 hh55).1
      have hc0 := cells1' hh55
      have hld := (Array.getElem?_eq_some_iff.1 hd55).1
      obtain ⟨dc0, dc1, dc2, dc3, dc4, dc5, dc6, dc7⟩ := cells8' hd55
      have hlf := (Array.getElem?_eq_some_iff.1 hf55).1
      obtain ⟨fc0, fc1, fc2, fc3, fc4⟩ := cells5' hf55
      have hlx := (Array.getElem?_eq_some_iff.1 hx55).1
      obtain ⟨xc0, xc1, xc2, xc3, xc4, xc5, xc6⟩ := cells7' hx55
      go_wp2_with (at_builtin; refine wpList_append_g shN Tryz.infoN _ rfl _ _ rfl (w.heap.size + 2) A2 k c2 ns rfl hOx _ 1 _ _ [m2] rfl rfl (GRow.lit w55 [m2] rfl rfl) (by omega) hbx ?_; intro A3 c3 w90 hO90 hc90 hg90 he90 hB90)
      clear hlh hc0 hld dc0 dc1 dc2 dc3 dc4 dc5 dc6 dc7 hlf fc0 fc1 fc2 fc3 fc4 hlx xc0 xc1 xc2 xc3 xc4 xc5 xc6
      have hA90 := AllIs.append (nsis_off hAx hg90 he90) (AllIs.one (nis_off hVx hg90 he90))
      have hT90 : Below w.heap.size w w90 := hTx.trans (hB90.mono (by omega))
      have hh90 := (hB90.block _ (by omega)).trans hbh
      have hd90 := (hB90.block _ (by omega)).trans hbd
      have hf90 := box_app hbf hg90 HOf.out
      have hF90 := fis_plo_app hFx hg90 (fun Y hY => by have := gown_ge hOx Y hY; omega)
      have HOf2 := Lib.hid (ownL_ne HOf.out he90 (by have := (Array.getElem?_eq_some_iff.1 hbf).1; exact this))
      go_round
      case measure => simp [intOf]; omega
      exact ⟨k + 1, c3, A3, ns ++ [m2], by omega, by go_num, rfl, hO90, (by rw [Hq.out k, show afterN Ns H k = M1 from Hst.out]; exact NsIs.mono hA90 off_drop), HOf2, hh90, hd90, hf90, hF90, hT90⟩
    obtain rfl : k = n := by omega
    have j1 : ¬ (k : Int) < (k : Int) := by omega
    cases ok
    · skip
      have hlh := (Array.getElem?_eq_some_iff.1 hh50).1
      have hc0 := cells1' hh50
      have hld := (Array.getElem?_eq_some_iff.1 hd50).1
      obtain ⟨dc0, dc1, dc2, dc3, dc4, dc5, dc6, dc7⟩ := cells8' hd50
      have hlf := (Array.getElem?_eq_some_iff.1 hf50).1
      obtain ⟨fc0, fc1, fc2, fc3, fc4⟩ := cells5' hf50
      go_wp2_with fail
      clear hlh hc0 hld dc0 dc1 dc2 dc3 dc4 dc5 dc6 dc7 hlf fc0 fc1 fc2 fc3 fc4
      have hwr : IntKind.i64.wrap ((L : Int) + 23) = (L : Int) + 23 := by rw [IntKind.wrap_i64]; omega
      refine wp_region_till 8 (S := fun W => (W.cell? ⟨(w.heap.size + 1), 0, none⟩ = some (.int .i64 0) ∧ W.cell? ⟨(w.heap.size + 1), 1, none⟩ = some (.bool false) ∧ W.cell? ⟨(w.heap.size + 1), 2, none⟩ = some (.int .i64 0) ∧ W.cell? ⟨(w.heap.size + 1), 3, none⟩ = some (.bool false) ∧ W.cell? ⟨(w.heap.size + 1), 4, none⟩ = some (.int .i64 0) ∧ W.cell? ⟨(w.heap.size + 1), 5, none⟩ = some (.slice none 0 0) ∧ W.cell? ⟨(w.heap.size + 1), 6, none⟩ = some (.bool false) ∧ W.cell? ⟨(w.heap.size + 1), 7, none⟩ = some (.int .i64 0)) ∧ (W.cell? ⟨w3.heap.size, 0, none⟩ = some (.bool f.x) ∧ W.cell? ⟨w3.heap.size, 1, none⟩ = some (.int .i64 f.i) ∧ W.cell? ⟨w3.heap.size, 2, none⟩ = some (.bool f.r) ∧ W.cell? ⟨w3.heap.size, 3, none⟩ = some (.int .i64 f.n) ∧ W.cell? ⟨w3.heap.size, 4, none⟩ = some (.slice f.a f.m f.c))) (by kernel_rfl) (by exact ⟨cells8' (block_below (below_drew1 _) hd50), cells5' (block_below (below_drew1 _) hf50)⟩) (fun hHeld_ => ?_)
      refine wpTill_take (i := 0) (v := ?vS10_0_0_) 125 rfl rfl (by kernel_rfl) (by kernel_rfl) (by kernel_rfl) (fun _ _ _ h => h) (Or.inl ⟨by kernel_rfl, ?hyS10_0_0_⟩) (by assumption) (by kernel_rfl) ?restS10_0_0_
      case hyS10_0_0_ => (intro W_ hS_; (try dsimp only at hS_); go_simp; (try (with_reducible rfl)))
      try simp only [Act.put, siA, scZ, scS]
      refine wpTill_take (i := 1) (v := ?vS10_1_0_) 126 rfl rfl (by kernel_rfl) (by kernel_rfl) (by kernel_rfl) (fun _ _ _ h => h) (Or.inl ⟨by kernel_rfl, ?hyS10_1_0_⟩) (by assumption) (by kernel_rfl) ?restS10_1_0_
      case hyS10_1_0_ => (intro W_ hS_; (try dsimp only at hS_); go_simp; (try (with_reducible rfl)))
      try simp only [Act.put, siA, scZ, scS]
      refine wpTill_take (i := 2) (v := ?vS10_2_0_) 127 rfl rfl (by kernel_rfl) (by kernel_rfl) (by kernel_rfl) (fun _ _ _ h => h) (Or.inl ⟨by kernel_rfl, ?hyS10_2_0_⟩) (by assumption) (by kernel_rfl) ?restS10_2_0_
      case hyS10_2_0_ => (intro W_ hS_; (try dsimp only at hS_); go_simp; (try (with_reducible rfl)))
      try simp only [Act.put, siA, scZ, scS]
      refine wpTill_take (i := 3) (v := ?vS10_3_0_) 128 rfl rfl (by kernel_rfl) (by kernel_rfl) (by kernel_rfl) (fun _ _ _ h => h) (Or.inl ⟨by kernel_rfl, ?hyS10_3_0_⟩) (by assumption) (by kernel_rfl) ?restS10_3_0_
      case hyS10_3_0_ => (intro W_ hS_; (try dsimp only at hS_); go_simp; (try (with_reducible rfl)))
      try simp only [Act.put, siA, scZ, scS]
      refine wpTill_ready (rs := [4]) (by kernel_rfl) (by simp) ?_
      refine (AllTill.cons rfl (fun K_ hK_ => ?_) AllTill.nil)
      go_simp
      refine (refLen_c (FIs.to hF50 (below_drew1 _)) HFr.out L HL.out).mono ?_
      rintro e wr4 ⟨rfl, hBr4⟩
      go_wp2_with fail
      refine hK_.out _ _ (fun _ => by exact ⟨cells8' (block_below hBr4 (block_below (below_drew1 _) hd50)), cells5' (block_below hBr4 (block_below (below_drew1 _) hf50))⟩) (fun hHeld_4_0 => ?_)
      replace hHeld_4_0 := hHeld_4_0 (by decide)
      clear hK_
      try simp only [Act.put, siA, scZ, scS]
      refine wpTill_take (i := 5) (v := ?vS10_5_1_4) 130 rfl rfl (by kernel_rfl) (by kernel_rfl) (by kernel_rfl) (fun _ _ _ h => h) (Or.inl ⟨by kernel_rfl, ?hyS10_5_1_4⟩) (by assumption) (by kernel_rfl) ?restS10_5_1_4
      case hyS10_5_1_4 => (intro W_ hS_; (try dsimp only at hS_); go_simp; (try (with_reducible rfl)))
      try simp only [Act.put, siA, scZ, scS]
      refine wpTill_take (i := 6) (v := ?vS10_6_1_4) 131 rfl rfl (by kernel_rfl) (by kernel_rfl) (by kernel_rfl) (fun _ _ _ h => h) (Or.inl ⟨by kernel_rfl, ?hyS10_6_1_4⟩) (by assumption) (by kernel_rfl) ?restS10_6_1_4
      case hyS10_6_1_4 => (intro W_ hS_; (try dsimp only at hS_); go_simp; (try (with_reducible rfl)))
      try simp only [Act.put, siA, scZ, scS]
      refine wpTill_take (i := 7) (v := ?vS10_7_1_4) 4 rfl rfl (by kernel_rfl) (by kernel_rfl) (by kernel_rfl) (fun _ _ _ h => h) (Or.inl ⟨by kernel_rfl, ?hyS10_7_1_4⟩) (by assumption) (by kernel_rfl) ?restS10_7_1_4
      case hyS10_7_1_4 => (intro W_ hS_; (try dsimp only at hS_); go_simp; (try (with_reducible rfl)))
      try simp only [Act.put, siA, scZ, scS]
      refine wpTill_ready (rs := [8]) (by kernel_rfl) (by simp) ?_
      refine (AllTill.cons rfl (fun K_ hK_ => ?_) AllTill.nil)
      obtain ⟨⟨z0, z1, z2, z3, z4, z5, z6, z7⟩, y0, y1, y2, y3, y4, y5, y6, y7⟩ := cells8 (block_below hBr4 (block_below (below_drew1 _) hd50))
      go_simp
      go_wp2_with fail
      clear z0 z1 z2 z3 z4 z5 z6 z7 y0 y1 y2 y3 y4 y5 y6 y7
      refine hK_.out _ _ (fun h_ => absurd rfl h_) (fun hHeld_8_1 => ?_)
      clear hK_
      try simp only [Act.put, siA, scZ, scS]
      refine wpTill_done (by kernel_rfl) ?_ _
      skip
      obtain ⟨w51, hw51⟩ : ∃ w51, wr4 = w51 := ⟨_, rfl⟩
      have hB51 : Below wr.heap.size wr w51 := by rw [← hw51]; exact (below_then (below_drew1 _) hBr4)
      rw [hw51]
      clear hw51  hBr4
      have hT51 := below_then hT50 hB51
      have hh51 := block_below hB51 hh50
      have hd51 := block_below hB51 hd50
      have hf51 := block_below hB51 hf50
      have hO51 := GOwn.to hO50 hB51
      have hA51 := NsIs.to hA50 hB51
      have hF51 := FIs.to hF50 hB51
      clear hT50 hh50 hd50 hf50 hO50 hA50 hF50 hB51
      go_wp2_with fail
      exact bodyPost_ret (v := .tuple #[.slice A2 k c2, TV.v ⟨(a : Int), f, false, (L : Int) + 23⟩]) (results_st (n := ⟨(a : Int), f, false, (L : Int) + 23⟩) rfl _ rfl rfl (set8_obj hd51 _ _ _ _ _ _ _ _)) rfl ⟨A2, c2, ⟨(a : Int), f, false, (L : Int) + 23⟩, rfl, NSl.own (base := w.heap.size) ((GOwn.grow hO51 (set8_grown _ _ _ _ _ _ _ _ _ _) (by omega)).mono (by omega)) (by unfold slotN; rw [hlen]; exact (NsIs.grow hA51 (set8_grown _ _ _ _ _ _ _ _ _ _) (off_not (by simp))).mono off_base) (by omega) hP, (by unfold toldN; rw [Hw.out, if_neg (by omega), HOK.out, HFw.out]; exact ⟨rfl, (FIs.grow hF51 (set8_grown _ _ _ _ _ _ _ _ _ _) (plo_not (by omega))).mono (fun _ _ h => h.1), rfl, (by show (L : Int) + 23 = (lenC F : Int) + _; rw [HL.out]; rfl)⟩), below_g hT51 (set8_grown _ _ _ _ _ _ _ _ _ _) (by omega)⟩
    have hlh := (Array.getElem?_eq_some_iff.1 hh50).1
    have hc0 := cells1' hh50
    have hld := (Array.getElem?_eq_some_iff.1 hd50).1
    obtain ⟨dc0, dc1, dc2, dc3, dc4, dc5, dc6, dc7⟩ := cells8' hd50
    have hlf := (Array.getElem?_eq_some_iff.1 hf50).1
    obtain ⟨fc0, fc1, fc2, fc3, fc4⟩ := cells5' hf50
    go_wp2_with fail
    clear hlh hc0 hld dc0 dc1 dc2 dc3 dc4 dc5 dc6 dc7 hlf fc0 fc1 fc2 fc3 fc4
    have hwr : IntKind.i64.wrap ((L : Int) + 3) = (L : Int) + 3 := by rw [IntKind.wrap_i64]; omega
    refine wp_region_till 8 (S := fun W => (W.cell? ⟨(w.heap.size + 1), 0, none⟩ = some (.int .i64 0) ∧ W.cell? ⟨(w.heap.size + 1), 1, none⟩ = some (.bool false) ∧ W.cell? ⟨(w.heap.size + 1), 2, none⟩ = some (.int .i64 0) ∧ W.cell? ⟨(w.heap.size + 1), 3, none⟩ = some (.bool false) ∧ W.cell? ⟨(w.heap.size + 1), 4, none⟩ = some (.int .i64 0) ∧ W.cell? ⟨(w.heap.size + 1), 5, none⟩ = some (.slice none 0 0) ∧ W.cell? ⟨(w.heap.size + 1), 6, none⟩ = some (.bool false) ∧ W.cell? ⟨(w.heap.size + 1), 7, none⟩ = some (.int .i64 0)) ∧ (W.cell? ⟨w3.heap.size, 0, none⟩ = some (.bool f.x) ∧ W.cell? ⟨w3.heap.size, 1, none⟩ = some (.int .i64 f.i) ∧ W.cell? ⟨w3.heap.size, 2, none⟩ = some (.bool f.r) ∧ W.cell? ⟨w3.heap.size, 3, none⟩ = some (.int .i64 f.n) ∧ W.cell? ⟨w3.heap.size, 4, none⟩ = some (.slice f.a f.m f.c))) (by kernel_rfl) (by exact ⟨cells8' (block_below (below_drew1 _) hd50), cells5' (block_below (below_drew1 _) hf50)⟩) (fun hHeld_ => ?_)
    refine wpTill_take (i := 0) (v := ?vS11_0_0_) 118 rfl rfl (by kernel_rfl) (by kernel_rfl) (by kernel_rfl) (fun _ _ _ h => h) (Or.inl ⟨by kernel_rfl, ?hyS11_0_0_⟩) (by assumption) (by kernel_rfl) ?restS11_0_0_
    case hyS11_0_0_ => (intro W_ hS_; (try dsimp only at hS_); go_simp; (try (with_reducible rfl)))
    try simp only [Act.put, siA, scZ, scS]
    refine wpTill_take (i := 1) (v := ?vS11_1_0_) 119 rfl rfl (by kernel_rfl) (by kernel_rfl) (by kernel_rfl) (fun _ _ _ h => h) (Or.inl ⟨by kernel_rfl, ?hyS11_1_0_⟩) (by assumption) (by kernel_rfl) ?restS11_1_0_
    case hyS11_1_0_ => (intro W_ hS_; (try dsimp only at hS_); go_simp; (try (with_reducible rfl)))
    try simp only [Act.put, siA, scZ, scS]
    refine wpTill_take (i := 2) (v := ?vS11_2_0_) 120 rfl rfl (by kernel_rfl) (by kernel_rfl) (by kernel_rfl) (fun _ _ _ h => h) (Or.inl ⟨by kernel_rfl, ?hyS11_2_0_⟩) (by assumption) (by kernel_rfl) ?restS11_2_0_
    case hyS11_2_0_ => (intro W_ hS_; (try dsimp only at hS_); go_simp; (try (with_reducible rfl)))
    try simp only [Act.put, siA, scZ, scS]
    refine wpTill_take (i := 3) (v := ?vS11_3_0_) 121 rfl rfl (by kernel_rfl) (by kernel_rfl) (by kernel_rfl) (fun _ _ _ h => h) (Or.inl ⟨by kernel_rfl, ?hyS11_3_0_⟩) (by assumption) (by kernel_rfl) ?restS11_3_0_
    case hyS11_3_0_ => (intro W_ hS_; (try dsimp only at hS_); go_simp; (try (with_reducible rfl)))
    try simp only [Act.put, siA, scZ, scS]
    refine wpTill_ready (rs := [4]) (by kernel_rfl) (by simp) ?_
    refine (AllTill.cons rfl (fun K_ hK_ => ?_) AllTill.nil)
    go_simp
    refine (refLen_c (FIs.to hF50 (below_drew1 _)) HFr.out L HL.out).mono ?_
    rintro e wr4 ⟨rfl, hBr4⟩
    go_wp2_with fail
    refine hK_.out _ _ (fun _ => by exact ⟨cells8' (block_below hBr4 (block_below (below_drew1 _) hd50)), cells5' (block_below hBr4 (block_below (below_drew1 _) hf50))⟩) (fun hHeld_4_0 => ?_)
    replace hHeld_4_0 := hHeld_4_0 (by decide)
    clear hK_
    try simp only [Act.put, siA, scZ, scS]
    refine wpTill_take (i := 5) (v := ?vS11_5_1_4) 123 rfl rfl (by kernel_rfl) (by kernel_rfl) (by kernel_rfl) (fun _ _ _ h => h) (Or.inl ⟨by kernel_rfl, ?hyS11_5_1_4⟩) (by assumption) (by kernel_rfl) ?restS11_5_1_4
    case hyS11_5_1_4 => (intro W_ hS_; (try dsimp only at hS_); go_simp; (try (with_reducible rfl)))
    try simp only [Act.put, siA, scZ, scS]
    refine wpTill_take (i := 6) (v := ?vS11_6_1_4) 124 rfl rfl (by kernel_rfl) (by kernel_rfl) (by kernel_rfl) (fun _ _ _ h => h) (Or.inl ⟨by kernel_rfl, ?hyS11_6_1_4⟩) (by assumption) (by kernel_rfl) ?restS11_6_1_4
    case hyS11_6_1_4 => (intro W_ hS_; (try dsimp only at hS_); go_simp; (try (with_reducible rfl)))
    try simp only [Act.put, siA, scZ, scS]
    refine wpTill_take (i := 7) (v := ?vS11_7_1_4) 4 rfl rfl (by kernel_rfl) (by kernel_rfl) (by kernel_rfl) (fun _ _ _ h => h) (Or.inl ⟨by kernel_rfl, ?hyS11_7_1_4⟩) (by assumption) (by kernel_rfl) ?restS11_7_1_4
    case hyS11_7_1_4 => (intro W_ hS_; (try dsimp only at hS_); go_simp; (try (with_reducible rfl)))
    try simp only [Act.put, siA, scZ, scS]
    refine wpTill_ready (rs := [8]) (by kernel_rfl) (by simp) ?_
    refine (AllTill.cons rfl (fun K_ hK_ => ?_) AllTill.nil)
    obtain ⟨⟨z0, z1, z2, z3, z4, z5, z6, z7⟩, y0, y1, y2, y3, y4, y5, y6, y7⟩ := cells8 (block_below hBr4 (block_below (below_drew1 _) hd50))
    go_simp
    go_wp2_with fail
    clear z0 z1 z2 z3 z4 z5 z6 z7 y0 y1 y2 y3 y4 y5 y6 y7
    refine hK_.out _ _ (fun h_ => absurd rfl h_) (fun hHeld_8_1 => ?_)
    clear hK_
    try simp only [Act.put, siA, scZ, scS]
    refine wpTill_done (by kernel_rfl) ?_ _
    skip
    obtain ⟨w51, hw51⟩ : ∃ w51, wr4 = w51 := ⟨_, rfl⟩
    have hB51 : Below wr.heap.size wr w51 := by rw [← hw51]; exact (below_then (below_drew1 _) hBr4)
    rw [hw51]
    clear hw51  hBr4
    have hT51 := below_then hT50 hB51
    have hh51 := block_below hB51 hh50
    have hd51 := block_below hB51 hd50
    have hf51 := block_below hB51 hf50
    have hO51 := GOwn.to hO50 hB51
    have hA51 := NsIs.to hA50 hB51
    have hF51 := FIs.to hF50 hB51
    clear hT50 hh50 hd50 hf50 hO50 hA50 hF50 hB51
    go_wp2_with fail
    exact bodyPost_ret (v := .tuple #[.slice A2 k c2, TV.v ⟨(a : Int), f, true, (L : Int) + 3⟩]) (results_st (n := ⟨(a : Int), f, true, (L : Int) + 3⟩) rfl _ rfl rfl (set8_obj hd51 _ _ _ _ _ _ _ _)) rfl ⟨A2, c2, ⟨(a : Int), f, true, (L : Int) + 3⟩, rfl, NSl.own (base := w.heap.size) ((GOwn.grow hO51 (set8_grown _ _ _ _ _ _ _ _ _ _) (by omega)).mono (by omega)) (by unfold slotN; rw [hlen]; exact (NsIs.grow hA51 (set8_grown _ _ _ _ _ _ _ _ _ _) (off_not (by simp))).mono off_base) (by omega) hP, (by unfold toldN; rw [Hw.out, if_neg (by omega), HOK.out, HFw.out]; exact ⟨rfl, (FIs.grow hF51 (set8_grown _ _ _ _ _ _ _ _ _ _) (plo_not (by omega))).mono (fun _ _ h => h.1), rfl, (by show (L : Int) + 3 = (lenC F : Int) + _; rw [HL.out]; rfl)⟩), below_g hT51 (set8_grown _ _ _ _ _ _ _ _ _ _) (by omega)⟩
theorem refSlot_c {w : World} {P : Nat → Prop} {A : Option Addr} {n c : Nat} {Ns : List NC} {wa : Option Addr} {wn wc : Nat} {H : List Int} (h : NSl w P A n c Ns) (hok : OkNs Ns) (hm : n ≤ 100) (hH : Row .i64 w w.heap.size wa H) (hHl : H.length = wn) (hwm : wn ≤ 1000) (hP : ∀ b, w.heap.size ≤ b → P b) (Ms : List NC) (hMs : slotN Ns H = Ms) (T : TC) (hT : toldN lenZ Ns H = T) :
    Calls Tryz.prog 19 #[.slice A n c, .agg #[.slice wa wn wc]] w fun e w' => ∃ (A' : Option Addr) (c' : Nat) (t : TV), e = .returned (.tuple #[.slice A' n c', t.v]) ∧ NSl w' P A' n c' Ms ∧ TIs w' P t T ∧ Below w.heap.size w w' := by
  subst hMs hT
  rcases winN_cases Ns with ⟨h1, _⟩ | ⟨a, _, h1, _⟩
  · exact refSlot_none h hok hm hH hHl hwm hP h1
  · exact refSlot_some h hok hm hH hHl hwm hP a h1
end Go.Proofs.YtcifjccojmfpaaaGreat

namespace Go.Proofs.YtcifjccojmfpaaaGreat
open Go.RowKit
set_option linter.unusedVariables false
set_option linter.unusedSimpArgs false
theorem Tryz.infoT : GInfo 27 36 8 80 := ⟨Tryz.underlying27, ⟨.agg #[.int .i64 0, .bool false, .int .i64 0, .bool false, .int .i64 0, .slice none 0 0, .bool false, .int .i64 0], by kernel_rfl, by kernel_rfl⟩, by decide⟩
theorem tsis_off {w w' : World} {P : Nat → Prop} {L : List Nat} {A A' : Option Addr} {n c : Nat} {ts : List TV} {Ts : List TC} (h : TsIs w (Off P (L ++ ownL A)) ts Ts) (g : w.grownBy w' (Value.slice A n c).ownBlock) (e : ownL A' = ownL A ∨ ownL A' = [w.heap.size]) : TsIs w' (Off P (L ++ ownL A')) ts Ts :=
  beside_off (Rp := fun w P => TsIs w P ts Ts) (fun _ _ _ h hq => h.mono hq) (fun _ _ _ h b => h.to b) (fun _ _ _ _ h g hX => h.grow g hX) h g e
theorem tis_off {w w' : World} {P : Nat → Prop} {L : List Nat} {A A' : Option Addr} {n c : Nat} {t : TV} {T : TC} (h : TIs w (Off P (L ++ ownL A)) t T) (g : w.grownBy w' (Value.slice A n c).ownBlock) (e : ownL A' = ownL A ∨ ownL A' = [w.heap.size]) : TIs w' (Off P (L ++ ownL A')) t T :=
  beside_off (Rp := fun w P => TIs w P t T) (fun _ _ _ h hq => h.mono hq) (fun _ _ _ h b => h.to b) (fun _ _ _ _ h g hX => h.grow g hX) h g e
theorem TSl.own {w : World} {base : Nat} {P : Nat → Prop} {A : Option Addr} {n c : Nat} {ts : List TV} {Ts : List TC} (h : TOwn w base A n c ts) (h' : TsIs w P ts Ts) : TSl w P A n c Ts :=
  ⟨by rw [← h'.1]; exact GOwn.len shT h, GOwn.cap h, ⟨ts, GRow.own shT h, h'⟩⟩
end Go.Proofs.YtcifjccojmfpaaaGreat

namespace Go.Proofs.YtcifjccojmfpaaaGreat
open Go.RowKit
set_option linter.unusedVariables false
set_option linter.unusedSimpArgs false
theorem refSlots_c {w : World} {P Q : Nat → Prop} {A : Option Addr} {n c : Nat} {Ns : List NC} {ha : Option Addr} {hn hc : Nat} {Hs : List (List Int)} (h : NSl w P A n c Ns) (hok : OkNs Ns) (hm : n ≤ 100) (hh : HSl w Q ha hn hc Hs) (hhm : hn ≤ 900) (hw : ∀ H ∈ Hs, H.length ≤ 1000) (hP : ∀ b, w.heap.size ≤ b → P b) :
    Calls Tryz.prog 15 #[.slice A n c, .slice ha hn hc] w fun e w' => ∃ (A' B : Option Addr) (c' d : Nat), e = .returned (.tuple #[.slice A' n c', .slice B hn d]) ∧ NSl w' P A' n c' (slotsN Ns Hs) ∧ TSl w' P B hn d (toldsN Ns Hs) ∧ Below w.heap.size w w' := by
  have Hok := Lib.hid hok
  have Hl := Lib.hid h.len
  have HHl := Lib.hid hh.len
  have Hw := Lib.hid hw
  have hlen := h.len
  obtain ⟨ns, hrow, his⟩ := h.row
  have Hnl := Lib.hid (show ns.length = n from his.1.trans hlen)
  clear hok hw
  have hTe : Below w.heap.size w (w.alloc (.cells #[] 49)) := below_alloc1 _ _
  go_enter Tryz.func15, Tryz.ntmps15
  go_wp2_with (at_builtin; refine wpList_append_g shN Tryz.infoN _ rfl _ _ rfl w.heap.size _ 0 0 [] rfl (gown_empty shN w _ _ rfl (Nat.le_refl _)) A n c w.heap.size ns rfl Hnl.out (hrow.below hTe) (by omega) (by simp) ?_; intro A2 c2 w1 hown hc2 hg1 he1 hB1_)
  simp only [Nat.zero_add, List.nil_append] at hown hc2 ⊢
  have hT1 : Below w.heap.size w w1 := hTe.trans hB1_
  have hS1 : NSl w1 P A2 n c2 Ns := NSl.own hown (his.imp fun _ _ x => x.to hT1) (by omega) hP
  clear hown hc2 hg1 he1 hB1_ hTe hrow his Hnl
  obtain ⟨w2, hw2⟩ : ∃ w_, w1.alloc (.cells #[] 36) = w_ := ⟨_, rfl⟩
  have hB2 : Below w1.heap.size w1 w2 := by rw [← hw2]; exact below_alloc1 _ _
  have hO2 : TOwn w2 (w.heap.size) (some ⟨w1.heap.size, 0, none⟩) 0 0 [] := by rw [← hw2]; exact gown_empty shT w1 _ _ rfl hT1.size
  have hS2 : NSl w2 (Off P ([] ++ ownL (some ⟨w1.heap.size, 0, none⟩))) A2 n c2 Ns := (hS1.mono (fun b hb hp => ⟨hp, fun Y hY => by simp [ownL] at hY; omega⟩)).to hB2
  have hT2 := below_then hT1 hB2
  rw [hw2]
  clear hw2 hB2 hS1 hT1
  go_loopw [6, 7, 8] (fun o al i wr => ∃ (k c2 d : Nat) (A2 B : Option Addr) (ts : List TV), k ≤ hn ∧ i = .int .i64 k ∧ o = .slice A2 n c2 ∧ al = .slice B k d ∧ TOwn wr w.heap.size B k d ts ∧ TsIs wr (Off P ([] ++ ownL B)) ts (toldsTo Ns Hs k) ∧ NSl wr (Off P ([] ++ ownL B)) A2 n c2 (slotsTo Ns Hs k) ∧ Below w.heap.size w wr) (fun _ _ i _ => hn - (intOf i).toNat)
  case atStart => exact ⟨0, c2, 0, A2, _, [], Nat.zero_le _, rfl, rfl, rfl, hO2, AllIs.nil, hS2, hT2⟩
  case round =>
    clear hO2 hS2 hT2
    obtain ⟨k, c2, d, A2, B, ts, hk, rfl, rfl, rfl, hO50, hA50, hS50, hT50⟩ := hrel
    by_cases hlt : k < hn
    · skip
      have j1 : (k : Int) < (hn : Int) := by omega
      obtain ⟨ad, x, ea_, hc_, hX50⟩ := (hh.to hT50).at_ hlt
      obtain ⟨H, hH_⟩ : ∃ H, Hs.getD k [] = H := ⟨_, rfl⟩
      rw [hH_] at hX50
      have HH := Lib.hid hH_
      clear hH_
      subst ea_
      rw [Nat.mul_one] at hc_
      have hxm : x.m ≤ 1000 := by
        rw [← hX50.len, ← HH.out]
        exact Hw.out _ (List.mem_of_getElem? (show Hs[k]? = some (Hs.getD k []) by simp [List.getD, List.getElem?_eq_getElem (show k < Hs.length by rw [HHl.out]; exact hlt)]))
      go_wp2_with fail
      clear hc_
      have HokS := Lib.hid (slotsTo_ok Hok.out Hs k)
      obtain ⟨Ms, hMs⟩ : ∃ Ms, slotsTo Ns Hs (k + 1) = Ms := ⟨_, rfl⟩
      obtain ⟨T, hT_⟩ : ∃ T, toldN lenZ (slotsTo Ns Hs k) H = T := ⟨_, rfl⟩
      have HMs := Lib.hid hMs
      have HMs2 := Lib.hid (show slotN (slotsTo Ns Hs k) H = Ms by rw [← hMs, slotsTo, HH.out])
      have HT := Lib.hid hT_
      have HTs := Lib.hid (show toldsTo Ns Hs (k + 1) = toldsTo Ns Hs k ++ [T] by rw [toldsTo, HH.out, hT_])
      clear hMs hT_
      refine (refSlot_c hS50 HokS.out hm hX50.row hX50.len hxm (off_up hO50 (L := []) (fun _ h => by cases h) hP hT50.size) Ms HMs2.out T HT.out).mono ?_
      rintro e w51 ⟨A3, c3, t, rfl, hS2_, hD_, hB51⟩
      have hT51 := below_then hT50 hB51
      have hO51 := GOwn.to hO50 hB51
      have hA51 := TsIs.to hA50 hB51
      have hS51 := NSl.to hS50 hB51
      have hX51 := HIs.to hX50 hB51
      clear hT50  hO50 hA50 hS50 hX50 hB51
      have hS251 := hS2_
      clear hS2_
      have hD51 := hD_
      clear hD_
      clear hS51
      clear hX51
      have hBq : Below w51.heap.size w51 ((w51.alloc (.cells #[.int .i64 t.w, .bool t.f.x, .int .i64 t.f.i, .bool t.f.r, .int .i64 t.f.n, .slice t.f.a t.f.m t.f.c, .bool t.ok, .int .i64 t.b] 36)).alloc (.cells #[.int .i64 t.w, .bool t.f.x, .int .i64 t.f.i, .bool t.f.r, .int .i64 t.f.n, .slice t.f.a t.f.m t.f.c, .bool t.ok, .int .i64 t.b] 36)) := below_then (below_alloc1 _ _) (below_alloc1 _ _)
      have hOx := GOwn.to hO51 hBq
      have hAx := TsIs.to hA51 hBq
      have hSx := NSl.to hS251 hBq
      have hDx := TIs.to hD51 hBq
      have hTx := below_then hT51 hBq
      go_wp2_with (at_builtin; refine wpList_append_g shT Tryz.infoT _ rfl _ _ rfl w.heap.size B k d ts rfl hOx _ 1 _ _ [t] rfl rfl (GRow.lit (w51.alloc (.cells #[.int .i64 t.w, .bool t.f.x, .int .i64 t.f.i, .bool t.f.r, .int .i64 t.f.n, .slice t.f.a t.f.m t.f.c, .bool t.ok, .int .i64 t.b] 36)) [t] rfl (by simp)) (by omega) (by have := hTx.size; exact this) ?_; intro B3 d3 w90 hO90 hc90 hg90 he90 hB90)
      have hA90 := AllIs.append (tsis_off hAx hg90 he90) (AllIs.one (tis_off hDx hg90 he90))
      have hS90 := nsl_off hSx hg90 he90
      have hT90 : Below w.heap.size w w90 := hTx.trans hB90
      go_round
      case measure => simp [intOf]; omega
      exact ⟨k + 1, c3, d3, A3, B3, ts ++ [t], by omega, by go_num, rfl, rfl, hO90, (by rw [HTs.out]; exact hA90), (by rw [HMs.out]; exact hS90), hT90⟩
    obtain rfl : k = hn := by omega
    have j1 : ¬ (k : Int) < (k : Int) := by omega
    go_wp2_with fail
    go_ret2
    exact ⟨A2, B, c2, d, rfl, (by unfold slotsN; rw [HHl.out]; exact hS50.mono off_base), TSl.own hO50 (by unfold toldsN; rw [HHl.out]; exact TsIs.mono hA50 off_base), hT50⟩
end Go.Proofs.YtcifjccojmfpaaaGreat

