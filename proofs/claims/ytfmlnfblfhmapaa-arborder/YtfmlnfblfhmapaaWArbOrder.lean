/-
  ArbOrder.
-/
import Derived.Test.YtfmlnfblfhmapaaArbX
import Derived.Test.YtfmlnfblfhmapaaFrTwo
import Derived.Test.YtfmlnfblfhmapaaHead6
import Derived.Test.YtfmlnfblfhmapaaOpen6
namespace Go.Proofs.Ytfmlnfblfhmapaa
open Go.RowKit
set_option linter.unusedVariables false
set_option linter.unusedSimpArgs false

set_option maxRecDepth 100000 in
set_option maxHeartbeats 8000000 in
theorem arbOrder_any (fs : List FV) (n0 : Nat) (hn : fs.length = n0) (A : Option Addr) (c : Nat) (T : Nat) (hT : T ≤ 255) (kl : List Bool) (m0 : Nat) (hkl : kl.length = m0) (A' : Option Addr) (c' : Nat) (w : World) (h : FRow w w.heap.size A fs) (hd : ∀ f ∈ fs, FData w f) (hm : n0 ≤ maxLen) (hk : BRow w w.heap.size A' kl) (hm' : m0 ≤ maxLen) :
    Calls Try.prog 6 #[.slice A n0 c, .int .u8 T, .slice A' m0 c'] w fun e w' => e = .returned (.bool true) ∧ Below w.heap.size w w' := by
  unfold maxLen at hm'
  go_enter Try.func6, Try.ntmps6
  go_wp2_with fail
  refine (head6_any w).mono ?_
  rintro e w1 ⟨rfl, hB1⟩
  have h1 := h.to hB1
  have hd1 : ∀ f ∈ fs, FData w1 f := fun f hf => (hd f hf).to hB1
  clear h hd
  go_wp2_with fail
  refine (frames_any 10 (by omega) fs n0 hn A c w1 h1 hd1 hm).mono ?_
  rintro e w2 ⟨A2, n, c2, gs, rfl, hl2, hn8, hnc2, hok, hown2, hB2⟩
  have hT2 := below_then hB1 hB2
  have hr2 := FRow.own hown2
  obtain ⟨W, q, hW, hWq, hq⟩ := least_fs gs hok
  obtain ⟨z, hz⟩ : ∃ z, winOf W (ranks gs) = z := ⟨_, rfl⟩
  have HG := Lib.hid (And.intro hl2 (And.intro hok (And.intro hW (And.intro hWq hz))))
  clear hl2 hok hown2 hB1 hB2 h1 hd1 hn hm hW hWq hz
  go_wp2_with fail
  refine (win_any gs n HG.out.1 A2 c2 w2 hr2 HG.out.2.1 (by omega) W HG.out.2.2.1 q HG.out.2.2.2.1 hq z HG.out.2.2.2.2).mono ?_
  rintro e w3 ⟨rfl, hB3⟩
  have hr3 := hr2.to hB3
  have hT3 := below_then hT2 hB3
  clear hr2 hT2 hB3
  by_cases hn0 : n = 0
  · subst hn0
    obtain rfl : z = -1 := by
      rw [← HG.out.2.2.2.2, List.eq_nil_of_length_eq_zero HG.out.1]; rfl
    go_wp2_with fail
    go_ret
    exact ⟨rfl, hT3⟩
  · have hdn : ((n : Int) == 0) = false := by simp; omega
    obtain ⟨b, g, hbl, hg, hgW, hwin, hfirst⟩ := winner HG.out.2.2.1 (by rw [HG.out.1]; omega)
    have hbn : b < n := by rw [← HG.out.1]; exact hbl
    obtain rfl : (b : Int) = z := by rw [← hwin, HG.out.2.2.2.2]
    have hgok := HG.out.2.1 g (List.mem_of_getElem? hg)
    have hdb : decide ((b : Int) < 0) = false := by simp
    have hdb2 : decide ((n : Int) ≤ (b : Int)) = false := by simp; omega
    have hdb3 : decide (n ≤ b) = false := by simp; omega
    obtain ⟨ad, g', rfl, hg', hg0, hg1, hg2, hg3, hg4⟩ := hr3.get_ (k := b) (by rw [HG.out.1]; exact hbn)
    obtain rfl : g = g' := by rw [hg] at hg'; exact Option.some.inj hg'
    obtain ⟨K, hK⟩ : ∃ K, T % n = K := ⟨_, rfl⟩
    have hKn : K < n := by rw [← hK]; exact Nat.mod_lt _ (by omega)
    have hrem : (T : Int).tmod (n : Int) = (K : Int) := by rw [← hK]; simp [Int.tmod_eq_emod_of_nonneg]
    have hwT : IntKind.i64.wrap (T : Int) = (T : Int) := by rw [IntKind.wrap_i64]; omega
    have HX := Lib.hid (And.intro hg (And.intro hgW (show (rankF g).length = q by rw [hgW]; exact HG.out.2.2.2.1)))
    clear hbl hg hgW hwin hfirst hg' hK
    go_wp2_with fail
    go_region_held3 (fun W => FCells W (ad.add (b * 5)) g)
      (exact FRow.at_ (B := _) (by repeat (first | assumption | exact Below.refl _ _ | ((with_reducible refine lit2 _ _ _ _ _ ?_); (first | (with_reducible rfl) | (simp; done))) | ((with_reducible refine lit1 _ _ _ _ ?_); (first | (with_reducible rfl) | (simp; done))) | refine frow_step (by first | assumption | exact below_alloc1 _ _ | exact below_drew1 _ | exact below_drewN0 _ _) ?_ | refine row_step (by first | assumption | exact below_alloc1 _ _ | exact below_drew1 _ | exact below_drewN0 _ _) ?_ | refine block_below (by first | assumption | exact below_alloc1 _ _ | exact below_drew1 _ | exact below_drewN0 _ _) ?_ | refine below_then ?_ (by first | assumption | exact below_alloc1 _ _ | exact below_drew1 _ | exact below_drewN0 _ _))) HX.out.1)
      (first | fail)
    rename_i hHeld
    obtain ⟨w4, hw4⟩ : ∃ w4, (w3.alloc (.cells #[.bool g.x, .int .i64 g.i, .bool g.r, .int .i64 g.n, .slice g.a g.m g.c] 35)).drew = w4 := ⟨_, rfl⟩
    have hB34 : Below w3.heap.size w3 w4 := by rw [← hw4]; exact below_then (below_alloc1 _ _) (below_drew1 _)
    have hz4 : w4.heap.size = w3.heap.size + 1 := by rw [← hw4]; simp
    have hso4 : FOwn w4 w3.heap.size (some ⟨w3.heap.size, 0, none⟩) 1 1 [g] := by rw [← hw4]; exact own_to (fown_lit1 w3 g _ rfl (Nat.le_refl _)) (below_drew1 _)
    have hr4 := hr3.to hB34
    have hsl : FRow w4 w4.heap.size (some ad) (gs.take K) := by
      have := hr4.sub_ 0 K (Nat.zero_le _) (by rw [HG.out.1]; omega) (A' := some ad) (fun _ => by simp [Addr.add])
      simpa using this
    have hsr : FRow w4 w4.heap.size (some (ad.add (K * 5))) (gs.drop K) := by
      have := hr4.sub_ K n (by omega) (by rw [HG.out.1]; omega) (A' := some (ad.add (K * 5))) (fun _ => rfl)
      rwa [List.take_of_length_le (by rw [List.length_drop, HG.out.1]; omega)] at this
    have HK := Lib.hid (And.intro (show (gs.take K).length = K by rw [List.length_take, HG.out.1]; omega) (show (gs.drop K).length = n - K by rw [List.length_drop, HG.out.1]))
    have hKc : ¬ K = c2 := by omega
    have hKc' : ¬ c2 = K := by omega
    have hKle : K ≤ c2 := by omega
    rw [hw4]
    have HZ4 := Lib.hid hz4
    clear hz4 hw4 hHeld hg0 hg1 hg2 hg3 hg4 hrem hwT
    go_wp2_with (first
      | (have hq_ := hown6; clear hq_; at_builtin; refine wpList_append_fr _ rfl _ _ rfl w4.heap.size _ (n - K) (gs.drop K) rfl hown6 (some ad) K _ w4.heap.size (gs.take K) rfl HK.out.1 (hsl.below hB46) (by omega) hB46.size ?_; intro A6 c6 w6 hown7 hc6 hB7)
      | (at_builtin; refine wpList_append_fr _ rfl _ _ rfl w4.heap.size _ 0 [] rfl (fown_empty w4 _ _ rfl (Nat.le_refl _)) _ _ _ w4.heap.size (gs.drop K) rfl HK.out.2 (by exact hsr.below (below_alloc1 _ _)) (by omega) (by simp) ?_; intro A5 c5 w5 hown6 hc5 hB6; simp only [Nat.zero_add, List.nil_append] at hown6 hc5; have hB46 : Below w4.heap.size w4 w5 := (((Below.refl _ w4).alloc (Nat.le_refl _) _).trans hB6)))
    obtain ⟨ts, hts⟩ : ∃ ts, gs.drop K ++ gs.take K = ts := ⟨_, rfl⟩
    rw [hts] at hown7
    have hnn : n - K + K = n := by omega
    have hB66 : Below w4.heap.size w4 w6 := hB46.trans hB7
    have hmem : ∀ f, f ∈ ts ↔ f ∈ gs := by
      intro f
      rw [← hts, List.mem_append]
      constructor
      · rintro (e | e)
        · exact List.mem_of_mem_drop e
        · exact List.mem_of_mem_take e
      · intro e
        rw [← List.take_append_drop K gs] at e
        rcases List.mem_append.1 e with e | e
        · exact .inr e
        · exact .inl e
    have hWt : LeastE W (ranks ts) := HG.out.2.2.1.less (ranks_sub fun f hf => (hmem f).1 hf) (by rw [← HX.out.2.1]; exact rank_in ((hmem g).2 (List.mem_of_getElem? HX.out.1)))
    have hturn6 : FOwn w6 w3.heap.size A6 (n - K + K) c6 ts := own_low hown7 (by have := HZ4.out; omega)
    have HP := Lib.hid (And.intro (show ts.length = n by have := FOwn.len hown7; omega) (And.intro hmem (And.intro (show ∀ f ∈ ts, FOk f from fun f hf => HG.out.2.1 f ((hmem f).1 hf)) (And.intro hWt HG.out.2.2.1))))
    have hso6 : FOwn w6 w3.heap.size (some ⟨w3.heap.size, 0, none⟩) 1 1 [g] := own_to hso4 hB66
    have hTR6 : TwoRows (.slice (some ⟨w3.heap.size, 0, none⟩) 1 1) (.slice A6 (n - K + K) c6) := by
      intro j e1 e2
      have := (hown7.lt j e2).1
      have := HZ4.out
      simp [Value.ownBlock] at e1
      omega
    have hBt : Below w3.heap.size w3 w6 := hB34.trans (hB66.mono hB34.size)
    rw [hnn] at hturn6 hTR6
    clear hts hmem hWt hown7 hB66 hB46 hB7 hown6 hB6 hso4 hsl hsr hr4 hB34
    go_loopw [10, 12] (fun so i wr => ∃ (k M : Nat) (As : Option Addr) (cs : Nat) (ps : List FV), k ≤ n ∧ k ≤ m0 ∧ i = .int .i64 k ∧ so = .slice As M cs ∧ M ≤ k + 1 ∧ FOwn wr w3.heap.size As M cs (g :: ps) ∧ (∀ p ∈ ps, p ∈ gs) ∧ FOwn wr w3.heap.size A6 n c6 ts ∧ TwoRows (.slice As M cs) (.slice A6 n c6) ∧ Below w3.heap.size w3 wr)
      (fun _ i _ => n - (intOf i).toNat)
    case atStart => exact ⟨0, 1, _, 1, [], Nat.zero_le _, Nat.zero_le _, rfl, rfl, by omega, hso6, by simp, hturn6, hTR6, hBt⟩
    case round =>
      clear hso6 hturn6 hTR6 hBt
      obtain ⟨k, M, As, cs, ps, hkn, hkm, rfl, rfl, hMk, hown, hps, hturn, hTR, hB⟩ := hrel
      have hsz := hB.size
      by_cases hlt : k < n
      · by_cases hltm : k < m0
        · obtain ⟨f, hf⟩ : ∃ f, gs[k]? = some f := ⟨_, List.getElem?_eq_getElem (by rw [HG.out.1]; exact hlt)⟩
          obtain ⟨hf0, hf1, hf2, hf3, hf4⟩ := (hr3.to hB).at_ hf
          obtain ⟨ak, x, rfl, hx, hxc⟩ := (hk.below (hT3.trans (hB.mono hT3.size))).get_ (k := k) (by rw [hkl]; exact hltm)
          have HQ := Lib.hid (And.intro hps (List.mem_of_getElem? hf))
          clear hf hps hx
          cases x
          · go_wp2_with fail
            exact ⟨⟨k + 1, M, As, cs, ps, by omega, by omega, by go_num, rfl, by omega, hown, HQ.out.1, hturn, hTR, hB⟩, by simp [intOf]; omega⟩
          · obtain ⟨x1, i1, r1, n1, a1, m1, c1⟩ := f
            go_wp2_with (at_builtin; refine wpList_append_fr2 _ rfl _ _ rfl w3.heap.size _ M (g :: ps) rfl (hown.alloc _) ⟨wr.heap.size, 0, none⟩ 1 1 _ [⟨x1, i1, r1, n1, a1, m1, c1⟩] rfl rfl (FRow.lit1 wr ⟨x1, i1, r1, n1, a1, m1, c1⟩ rfl) (by omega) (by simp; omega) (.slice A6 n c6) n (fcells ts) (hturn.alloc _) hTR ?_; intro A9 c9 w9 hown9 hc9 hB9 hturn9 hTR9; have HT9 := Lib.hid (And.intro hturn9 (And.intro hTR9 hown9)); clear hturn9 hTR9 hown9)
            refine ⟨⟨k + 1, by omega, by omega, by omega, M + 1, A9, c9, ⟨rfl, rfl, rfl⟩, by omega, ps ++ [(⟨x1, i1, r1, n1, a1, m1, c1⟩ : FV)], HT9.out.2.2, ?_, HT9.out.1, HT9.out.2.1, (hB.alloc hsz _).trans hB9⟩, by simp [intOf]; omega⟩
            intro p hp
            rcases List.mem_append.1 hp with e | e
            · exact HQ.out.1 p e
            · simp at e
              subst e
              exact HQ.out.2
        · obtain rfl : k = m0 := by omega
          have HQ := Lib.hid (And.intro (show ∀ p ∈ g :: ps, p ∈ gs from fun p hp => by rcases List.mem_cons.1 hp with rfl | e; exact List.mem_of_getElem? HX.out.1; exact hps p e) (And.intro (show ∀ p ∈ g :: ps, FOk p from fun p hp => by rcases List.mem_cons.1 hp with rfl | e; exact hgok; exact HG.out.2.1 p (hps p e)) (FOwn.len hown)))
          clear hps
          obtain ⟨x, f', hxl, hf', hf'W, hwinT, -⟩ := winner HP.out.2.2.2.1 (by rw [HP.out.1]; omega)
          have hxn : x < n := by rw [← HP.out.1]; exact hxl
          have hf'ok := HP.out.2.2.1 f' (List.mem_of_getElem? hf')
          have hdx : decide ((x : Int) < 0) = false := by simp
          have hdx2 : decide ((n : Int) ≤ (x : Int)) = false := by simp; omega
          have hdx3 : decide (n ≤ x) = false := by simp; omega
          have htr := FRow.own hturn
          have hsr := FRow.own hown
          have hBB : Below w.heap.size w wr := hT3.trans (hB.mono hT3.size)
          have hlr := hr3.to hB
          obtain ⟨W2, q2, hW2, hW2q, -⟩ := least_fs (g :: ps) HQ.out.2.1
          obtain rfl : W = W2 := HP.out.2.2.2.2.uniq hW2 (by rw [← HX.out.2.1]; exact rank_in (by simp)) (ranks_sub HQ.out.1 _ (hW2.ne (by simp [ranks])))
          have hwin0 : winOf W (ranks (g :: ps)) = 0 := winOf_at (i := 0) (by simp [ranks, HX.out.2.1]) (fun j hj => by omega)
          have HS := Lib.hid (And.intro hW2 hwin0)
          have HF := Lib.hid (And.intro hf' (And.intro hf'W (And.intro hwinT (show (rankF f').length = q by rw [hf'W]; exact HG.out.2.2.2.1))))
          clear hxl hf' hf'W hwinT hturn hown hTR hW2 hW2q hwin0 hB
          have hs9 := hBB.size
          go_wp2_with fail
          refine (win_any ts n HP.out.1 A6 c6 wr htr HP.out.2.2.1 (by omega) W HP.out.2.2.2.1 q HG.out.2.2.2.1 hq (x : Int) HF.out.2.2.1).mono ?_
          rintro e w7 ⟨rfl, hB7⟩
          have htr7 := htr.to hB7
          have hsr7 := hsr.to hB7
          have hlr7 := hlr.to hB7
          have hT7 := below_then hBB hB7
          obtain ⟨at6, rfl, hat0, hat1, hat2, hat3, hat4⟩ := htr7.at_lt HF.out.1
          obtain ⟨hgg0, hgg1, hgg2, hgg3, hgg4⟩ := hlr7.at_ HX.out.1
          have hs7 := hT7.size
          clear htr hsr hlr hBB hB7
          go_wp2_with fail
          go_region_held3 (fun W => FCells W (at6.add (x * 5)) f' ∧ FCells W (ad.add (b * 5)) g)
            (exact ⟨FRow.at_ (B := _) (by repeat (first | assumption | exact Below.refl _ _ | ((with_reducible refine lit2 _ _ _ _ _ ?_); (first | (with_reducible rfl) | (simp; done))) | ((with_reducible refine lit1 _ _ _ _ ?_); (first | (with_reducible rfl) | (simp; done))) | refine frow_step (by first | assumption | exact below_alloc1 _ _ | exact below_drew1 _ | exact below_drewN0 _ _) ?_ | refine row_step (by first | assumption | exact below_alloc1 _ _ | exact below_drew1 _ | exact below_drewN0 _ _) ?_ | refine block_below (by first | assumption | exact below_alloc1 _ _ | exact below_drew1 _ | exact below_drewN0 _ _) ?_ | refine below_then ?_ (by first | assumption | exact below_alloc1 _ _ | exact below_drew1 _ | exact below_drewN0 _ _))) HF.out.1, FRow.at_ (B := _) (by repeat (first | assumption | exact Below.refl _ _ | ((with_reducible refine lit2 _ _ _ _ _ ?_); (first | (with_reducible rfl) | (simp; done))) | ((with_reducible refine lit1 _ _ _ _ ?_); (first | (with_reducible rfl) | (simp; done))) | refine frow_step (by first | assumption | exact below_alloc1 _ _ | exact below_drew1 _ | exact below_drewN0 _ _) ?_ | refine row_step (by first | assumption | exact below_alloc1 _ _ | exact below_drew1 _ | exact below_drewN0 _ _) ?_ | refine block_below (by first | assumption | exact below_alloc1 _ _ | exact below_drew1 _ | exact below_drewN0 _ _) ?_ | refine below_then ?_ (by first | assumption | exact below_alloc1 _ _ | exact below_drew1 _ | exact below_drewN0 _ _))) HX.out.1⟩)
            (first
              | (go_at_call 16; refine (ints_q (rankF f') (rankF g) q q HF.out.2.2.2 HX.out.2.2 A8 A9 c8 c9 _ (by repeat (first | assumption | exact Below.refl _ _ | ((with_reducible refine lit2 _ _ _ _ _ ?_); (first | (with_reducible rfl) | (simp; done))) | ((with_reducible refine lit1 _ _ _ _ ?_); (first | (with_reducible rfl) | (simp; done))) | refine row_step (by first | assumption | exact below_alloc1 _ _ | exact below_drew1 _ | exact below_drewN0 _ _) ?_ | refine block_below (by first | assumption | exact below_alloc1 _ _ | exact below_drew1 _ | exact below_drewN0 _ _) ?_ | refine below_then ?_ (by first | assumption | exact below_alloc1 _ _ | exact below_drew1 _ | exact below_drewN0 _ _))) (by repeat (first | assumption | exact Below.refl _ _ | ((with_reducible refine lit2 _ _ _ _ _ ?_); (first | (with_reducible rfl) | (simp; done))) | ((with_reducible refine lit1 _ _ _ _ ?_); (first | (with_reducible rfl) | (simp; done))) | refine row_step (by first | assumption | exact below_alloc1 _ _ | exact below_drew1 _ | exact below_drewN0 _ _) ?_ | refine block_below (by first | assumption | exact below_alloc1 _ _ | exact below_drew1 _ | exact below_drewN0 _ _) ?_ | refine below_then ?_ (by first | assumption | exact below_alloc1 _ _ | exact below_drew1 _ | exact below_drewN0 _ _))) (by unfold maxLen; omega) (by unfold maxLen; omega) true (by rw [HF.out.2.1, HX.out.2.1]; simp [sameB])).mono ?_; rintro e w10 ⟨rfl, hB10⟩)
              | (go_at_call_of 24 (Value.agg #[.bool f'.x, .int .i64 f'.i, .bool f'.r, .int .i64 f'.n, .slice f'.a f'.m f'.c]); refine (rank6_at f' hf'ok q HF.out.2.2.2 _).mono ?_; rintro e w8 ⟨A8, c8, rfl, hr8, hc8, hB8⟩)
              | (go_at_call_of 24 (Value.agg #[.bool g.x, .int .i64 g.i, .bool g.r, .int .i64 g.n, .slice g.a g.m g.c]); refine (rank6_at g hgok q HX.out.2.2 _).mono ?_; rintro e w9 ⟨A9, c9, rfl, hr9, hc9, hB9⟩))
          have hBw : Below w7.heap.size w7 w10 := by clear hT7; repeat (first | assumption | exact Below.refl _ _ | ((with_reducible refine lit2 _ _ _ _ _ ?_); (first | (with_reducible rfl) | (simp; done))) | ((with_reducible refine lit1 _ _ _ _ ?_); (first | (with_reducible rfl) | (simp; done))) | refine row_step (by first | assumption | exact below_alloc1 _ _ | exact below_drew1 _ | exact below_drewN0 _ _) ?_ | refine block_below (by first | assumption | exact below_alloc1 _ _ | exact below_drew1 _ | exact below_drewN0 _ _) ?_ | refine below_then ?_ (by first | assumption | exact below_alloc1 _ _ | exact below_drew1 _ | exact below_drewN0 _ _))
          have htr8 := htr7.to hBw
          have hsr8 := hsr7.to hBw
          have hlr8 := hlr7.to hBw
          have hT8 := hT7.trans (hBw.mono hs7)
          clear htr7 hsr7 hlr7 hT7 hB8 hB9 hB10 hr8 hr9 hat0 hat1 hat2 hat3 hat4 hgg0 hgg1 hgg2 hgg3 hgg4 hBw
          go_wp2_with fail
          refine (win_any (g :: ps) M HQ.out.2.2 As cs w10 hsr8 HQ.out.2.1 (by omega) W HS.out.1 q HG.out.2.2.2.1 hq 0 HS.out.2).mono ?_
          rintro e w11 ⟨rfl, hB11⟩
          have htr9 := htr8.to hB11
          have hsr9 := hsr8.to hB11
          have hlr9 := hlr8.to hB11
          have hT9 := below_then hT8 hB11
          clear htr8 hsr8 hlr8 hT8 hB11
          go_wp2_with fail
          refine (line_any ts n HP.out.1 (some at6) c6 w11 htr9 HP.out.2.2.1 (by omega) W HP.out.2.2.2.1 q HG.out.2.2.2.1 hq).mono ?_
          rintro e w12 ⟨A12, c12, rfl, hc12, hl12, hB12⟩
          have hsr10 := hsr9.to hB12
          have hlr10 := hlr9.to hB12
          have hT10 := below_then hT9 hB12
          clear htr9 hsr9 hlr9 hT9 hB12
          go_wp2_with fail
          refine (line_any gs n HG.out.1 (some ad) c2 w12 hlr10 HG.out.2.1 (by omega) W HG.out.2.2.1 q HG.out.2.2.2.1 hq).mono ?_
          rintro e w13 ⟨A13, c13, rfl, hc13, hl13, hB13⟩
          have hl12' := hl12.to hB13
          have hsr11 := hsr10.to hB13
          have hlr11 := hlr10.to hB13
          have hT11 := below_then hT10 hB13
          clear hsr10 hlr10 hT10 hB13 hl12
          go_wp2_with fail
          refine (ints_q W W q q HG.out.2.2.2.1 HG.out.2.2.2.1 A12 A13 c12 c13 w13 hl12' hl13 (by unfold maxLen; omega) (by unfold maxLen; omega) true (by simp [sameB])).mono ?_
          rintro e w14 ⟨rfl, hB14⟩
          have hsr12 := hsr11.to hB14
          have hlr12 := hlr11.to hB14
          have hT12 := below_then hT11 hB14
          clear hsr11 hlr11 hT11 hB14 hl12' hl13
          go_wp2_with fail
          refine (line_any (g :: ps) M HQ.out.2.2 As cs w14 hsr12 HQ.out.2.1 (by omega) W HS.out.1 q HG.out.2.2.2.1 hq).mono ?_
          rintro e w15 ⟨A15, c15, rfl, hc15, hl15, hB15⟩
          have hlr13 := hlr12.to hB15
          have hT13 := below_then hT12 hB15
          clear hsr12 hlr12 hT12 hB15
          go_wp2_with fail
          refine (line_any gs n HG.out.1 (some ad) c2 w15 hlr13 HG.out.2.1 (by omega) W HG.out.2.2.1 q HG.out.2.2.2.1 hq).mono ?_
          rintro e w16 ⟨A16, c16, rfl, hc16, hl16, hB16⟩
          have hl15' := hl15.to hB16
          have hT14 := below_then hT13 hB16
          clear hT13 hB16 hl15 hlr13
          go_wp2_with fail
          refine (ints_q W W q q HG.out.2.2.2.1 HG.out.2.2.2.1 A15 A16 c15 c16 w16 hl15' hl16 (by unfold maxLen; omega) (by unfold maxLen; omega) true (by simp [sameB])).mono ?_
          rintro e w17 ⟨rfl, hB17⟩
          go_wp2_with fail
          go_ret
          exact ⟨rfl, below_then hT14 hB17⟩
      · obtain rfl : k = n := by omega
        have HQ := Lib.hid (And.intro (show ∀ p ∈ g :: ps, p ∈ gs from fun p hp => by rcases List.mem_cons.1 hp with rfl | e; exact List.mem_of_getElem? HX.out.1; exact hps p e) (And.intro (show ∀ p ∈ g :: ps, FOk p from fun p hp => by rcases List.mem_cons.1 hp with rfl | e; exact hgok; exact HG.out.2.1 p (hps p e)) (FOwn.len hown)))
        clear hps
        obtain ⟨x, f', hxl, hf', hf'W, hwinT, -⟩ := winner HP.out.2.2.2.1 (by rw [HP.out.1]; omega)
        have hxn : x < k := by rw [← HP.out.1]; exact hxl
        have hf'ok := HP.out.2.2.1 f' (List.mem_of_getElem? hf')
        have hdx : decide ((x : Int) < 0) = false := by simp
        have hdx2 : decide ((k : Int) ≤ (x : Int)) = false := by simp; omega
        have hdx3 : decide (k ≤ x) = false := by simp; omega
        have htr := FRow.own hturn
        have hsr := FRow.own hown
        have hBB : Below w.heap.size w wr := hT3.trans (hB.mono hT3.size)
        have hlr := hr3.to hB
        obtain ⟨W2, q2, hW2, hW2q, -⟩ := least_fs (g :: ps) HQ.out.2.1
        obtain rfl : W = W2 := HP.out.2.2.2.2.uniq hW2 (by rw [← HX.out.2.1]; exact rank_in (by simp)) (ranks_sub HQ.out.1 _ (hW2.ne (by simp [ranks])))
        have hwin0 : winOf W (ranks (g :: ps)) = 0 := winOf_at (i := 0) (by simp [ranks, HX.out.2.1]) (fun j hj => by omega)
        have HS := Lib.hid (And.intro hW2 hwin0)
        have HF := Lib.hid (And.intro hf' (And.intro hf'W (And.intro hwinT (show (rankF f').length = q by rw [hf'W]; exact HG.out.2.2.2.1))))
        clear hxl hf' hf'W hwinT hturn hown hTR hW2 hW2q hwin0 hB
        have hs9 := hBB.size
        go_wp2_with fail
        refine (win_any ts k HP.out.1 A6 c6 wr htr HP.out.2.2.1 (by omega) W HP.out.2.2.2.1 q HG.out.2.2.2.1 hq (x : Int) HF.out.2.2.1).mono ?_
        rintro e w7 ⟨rfl, hB7⟩
        have htr7 := htr.to hB7
        have hsr7 := hsr.to hB7
        have hlr7 := hlr.to hB7
        have hT7 := below_then hBB hB7
        obtain ⟨at6, rfl, hat0, hat1, hat2, hat3, hat4⟩ := htr7.at_lt HF.out.1
        obtain ⟨hgg0, hgg1, hgg2, hgg3, hgg4⟩ := hlr7.at_ HX.out.1
        have hs7 := hT7.size
        clear htr hsr hlr hBB hB7
        go_wp2_with fail
        go_region_held3 (fun W => FCells W (at6.add (x * 5)) f' ∧ FCells W (ad.add (b * 5)) g)
          (exact ⟨FRow.at_ (B := _) (by repeat (first | assumption | exact Below.refl _ _ | ((with_reducible refine lit2 _ _ _ _ _ ?_); (first | (with_reducible rfl) | (simp; done))) | ((with_reducible refine lit1 _ _ _ _ ?_); (first | (with_reducible rfl) | (simp; done))) | refine frow_step (by first | assumption | exact below_alloc1 _ _ | exact below_drew1 _ | exact below_drewN0 _ _) ?_ | refine row_step (by first | assumption | exact below_alloc1 _ _ | exact below_drew1 _ | exact below_drewN0 _ _) ?_ | refine block_below (by first | assumption | exact below_alloc1 _ _ | exact below_drew1 _ | exact below_drewN0 _ _) ?_ | refine below_then ?_ (by first | assumption | exact below_alloc1 _ _ | exact below_drew1 _ | exact below_drewN0 _ _))) HF.out.1, FRow.at_ (B := _) (by repeat (first | assumption | exact Below.refl _ _ | ((with_reducible refine lit2 _ _ _ _ _ ?_); (first | (with_reducible rfl) | (simp; done))) | ((with_reducible refine lit1 _ _ _ _ ?_); (first | (with_reducible rfl) | (simp; done))) | refine frow_step (by first | assumption | exact below_alloc1 _ _ | exact below_drew1 _ | exact below_drewN0 _ _) ?_ | refine row_step (by first | assumption | exact below_alloc1 _ _ | exact below_drew1 _ | exact below_drewN0 _ _) ?_ | refine block_below (by first | assumption | exact below_alloc1 _ _ | exact below_drew1 _ | exact below_drewN0 _ _) ?_ | refine below_then ?_ (by first | assumption | exact below_alloc1 _ _ | exact below_drew1 _ | exact below_drewN0 _ _))) HX.out.1⟩)
          (first
            | (go_at_call 16; refine (ints_q (rankF f') (rankF g) q q HF.out.2.2.2 HX.out.2.2 A8 A9 c8 c9 _ (by repeat (first | assumption | exact Below.refl _ _ | ((with_reducible refine lit2 _ _ _ _ _ ?_); (first | (with_reducible rfl) | (simp; done))) | ((with_reducible refine lit1 _ _ _ _ ?_); (first | (with_reducible rfl) | (simp; done))) | refine row_step (by first | assumption | exact below_alloc1 _ _ | exact below_drew1 _ | exact below_drewN0 _ _) ?_ | refine block_below (by first | assumption | exact below_alloc1 _ _ | exact below_drew1 _ | exact below_drewN0 _ _) ?_ | refine below_then ?_ (by first | assumption | exact below_alloc1 _ _ | exact below_drew1 _ | exact below_drewN0 _ _))) (by repeat (first | assumption | exact Below.refl _ _ | ((with_reducible refine lit2 _ _ _ _ _ ?_); (first | (with_reducible rfl) | (simp; done))) | ((with_reducible refine lit1 _ _ _ _ ?_); (first | (with_reducible rfl) | (simp; done))) | refine row_step (by first | assumption | exact below_alloc1 _ _ | exact below_drew1 _ | exact below_drewN0 _ _) ?_ | refine block_below (by first | assumption | exact below_alloc1 _ _ | exact below_drew1 _ | exact below_drewN0 _ _) ?_ | refine below_then ?_ (by first | assumption | exact below_alloc1 _ _ | exact below_drew1 _ | exact below_drewN0 _ _))) (by unfold maxLen; omega) (by unfold maxLen; omega) true (by rw [HF.out.2.1, HX.out.2.1]; simp [sameB])).mono ?_; rintro e w10 ⟨rfl, hB10⟩)
            | (go_at_call_of 24 (Value.agg #[.bool f'.x, .int .i64 f'.i, .bool f'.r, .int .i64 f'.n, .slice f'.a f'.m f'.c]); refine (rank6_at f' hf'ok q HF.out.2.2.2 _).mono ?_; rintro e w8 ⟨A8, c8, rfl, hr8, hc8, hB8⟩)
            | (go_at_call_of 24 (Value.agg #[.bool g.x, .int .i64 g.i, .bool g.r, .int .i64 g.n, .slice g.a g.m g.c]); refine (rank6_at g hgok q HX.out.2.2 _).mono ?_; rintro e w9 ⟨A9, c9, rfl, hr9, hc9, hB9⟩))
        have hBw : Below w7.heap.size w7 w10 := by clear hT7; repeat (first | assumption | exact Below.refl _ _ | ((with_reducible refine lit2 _ _ _ _ _ ?_); (first | (with_reducible rfl) | (simp; done))) | ((with_reducible refine lit1 _ _ _ _ ?_); (first | (with_reducible rfl) | (simp; done))) | refine row_step (by first | assumption | exact below_alloc1 _ _ | exact below_drew1 _ | exact below_drewN0 _ _) ?_ | refine block_below (by first | assumption | exact below_alloc1 _ _ | exact below_drew1 _ | exact below_drewN0 _ _) ?_ | refine below_then ?_ (by first | assumption | exact below_alloc1 _ _ | exact below_drew1 _ | exact below_drewN0 _ _))
        have htr8 := htr7.to hBw
        have hsr8 := hsr7.to hBw
        have hlr8 := hlr7.to hBw
        have hT8 := hT7.trans (hBw.mono hs7)
        clear htr7 hsr7 hlr7 hT7 hB8 hB9 hB10 hr8 hr9 hat0 hat1 hat2 hat3 hat4 hgg0 hgg1 hgg2 hgg3 hgg4 hBw
        go_wp2_with fail
        refine (win_any (g :: ps) M HQ.out.2.2 As cs w10 hsr8 HQ.out.2.1 (by omega) W HS.out.1 q HG.out.2.2.2.1 hq 0 HS.out.2).mono ?_
        rintro e w11 ⟨rfl, hB11⟩
        have htr9 := htr8.to hB11
        have hsr9 := hsr8.to hB11
        have hlr9 := hlr8.to hB11
        have hT9 := below_then hT8 hB11
        clear htr8 hsr8 hlr8 hT8 hB11
        go_wp2_with fail
        refine (line_any ts k HP.out.1 (some at6) c6 w11 htr9 HP.out.2.2.1 (by omega) W HP.out.2.2.2.1 q HG.out.2.2.2.1 hq).mono ?_
        rintro e w12 ⟨A12, c12, rfl, hc12, hl12, hB12⟩
        have hsr10 := hsr9.to hB12
        have hlr10 := hlr9.to hB12
        have hT10 := below_then hT9 hB12
        clear htr9 hsr9 hlr9 hT9 hB12
        go_wp2_with fail
        refine (line_any gs k HG.out.1 (some ad) c2 w12 hlr10 HG.out.2.1 (by omega) W HG.out.2.2.1 q HG.out.2.2.2.1 hq).mono ?_
        rintro e w13 ⟨A13, c13, rfl, hc13, hl13, hB13⟩
        have hl12' := hl12.to hB13
        have hsr11 := hsr10.to hB13
        have hlr11 := hlr10.to hB13
        have hT11 := below_then hT10 hB13
        clear hsr10 hlr10 hT10 hB13 hl12
        go_wp2_with fail
        refine (ints_q W W q q HG.out.2.2.2.1 HG.out.2.2.2.1 A12 A13 c12 c13 w13 hl12' hl13 (by unfold maxLen; omega) (by unfold maxLen; omega) true (by simp [sameB])).mono ?_
        rintro e w14 ⟨rfl, hB14⟩
        have hsr12 := hsr11.to hB14
        have hlr12 := hlr11.to hB14
        have hT12 := below_then hT11 hB14
        clear hsr11 hlr11 hT11 hB14 hl12' hl13
        go_wp2_with fail
        refine (line_any (g :: ps) M HQ.out.2.2 As cs w14 hsr12 HQ.out.2.1 (by omega) W HS.out.1 q HG.out.2.2.2.1 hq).mono ?_
        rintro e w15 ⟨A15, c15, rfl, hc15, hl15, hB15⟩
        have hlr13 := hlr12.to hB15
        have hT13 := below_then hT12 hB15
        clear hsr12 hlr12 hT12 hB15
        go_wp2_with fail
        refine (line_any gs k HG.out.1 (some ad) c2 w15 hlr13 HG.out.2.1 (by omega) W HG.out.2.2.1 q HG.out.2.2.2.1 hq).mono ?_
        rintro e w16 ⟨A16, c16, rfl, hc16, hl16, hB16⟩
        have hl15' := hl15.to hB16
        have hT14 := below_then hT13 hB16
        clear hT13 hB16 hl15 hlr13
        go_wp2_with fail
        refine (ints_q W W q q HG.out.2.2.2.1 HG.out.2.2.2.1 A15 A16 c15 c16 w16 hl15' hl16 (by unfold maxLen; omega) (by unfold maxLen; omega) true (by simp [sameB])).mono ?_
        rintro e w17 ⟨rfl, hB17⟩
        go_wp2_with fail
        go_ret
        exact ⟨rfl, below_then hT14 hB17⟩

end Go.Proofs.Ytfmlnfblfhmapaa
