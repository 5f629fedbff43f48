/- TrieUnder's walk. -/
import Derived.Test.YtgdpplipahhffaaUy
namespace Go.Proofs.Ytgdpplipahhffaa
open Go.RowKit
set_option linter.unusedVariables false
set_option linter.unusedSimpArgs false

theorem fn_eql48 (g : Nat) (caps : Array Value) (w : World) : (binOp .eql 48 (.func (.func g) #[] caps) .nilFunc).run Try.prog w = .ok (.bool false) w := by kernel_rfl
attribute [local go_sem] Oper.semAt_some
attribute [local go_sem ↓] append_appd
set_option maxHeartbeats 8000000 in
set_option maxRecDepth 100000 in
theorem under_walk (Wd : Int) (sv : Value) (l : List OpD) (o : OpD) (w : World) (hW : Okn Wd) (hl : OpRow w sv l) (ho : OpOk o) : Calls Try.prog 7 #[.int .i64 Wd, sv, .agg (opC o)] w fun e w' => e = .returned (.bool true) ∧ Below w.heap.size w w' := by
  suffices h : ∀ m, CallsIn Fence.wide m Try.prog 7 #[.int .i64 Wd, sv, .agg (opC o)] w fun e w' => e = .returned (.bool true) ∧ Below w.heap.size w w' from callsIn_wide.1 (h 0)
  intro m
  obtain ⟨kd0, a0, l0, u0⟩ := o
  obtain ⟨⟨ad, cap, rfl, hcap, hcells⟩, hlb⟩ := hl
  have HL : Hid (l = [] ∨ ∃ b o, ad = some ⟨b, o, none⟩ ∧ ∀ i x, l[i]? = some x → ∃ cs, cs.size = 5 ∧ (∀ j u, cs[j]? = some u → w.cell? ⟨b, o + i * 5 + j, none⟩ = some u) ∧ cs = opC x ∧ OpOk x) := hcells
  have HB : Hid _ := three_new w #[.int .i64 Wd] #[.int .i64 kd0, .int .u64 (hiOf a0), .int .u64 (loOf a0), .int .i64 l0, .int .i64 u0] #[.bool false] 3 35 4
  have CL : Hid (∀ w1, CallsIn Fence.wide (m - 1) Try.prog 9 #[] w1 fun e w' => e = .returned (.bool true) ∧ Below w1.heap.size w1 w') := fun w1 => callsIn_wide.2 (live_any w1)
  have HOK : Hid (OpOk ⟨kd0, a0, l0, u0⟩) := ho
  have hmix : Try.prog.follows .mixedOrders = true := by kernel_rfl
  unfold Len at hlb
  clear hcells ho
  refine callsIn_of_wp_marks Try.func7 rfl trivial ?_ rfl
  simp only [Try.ntmps7, List.size_toArray, List.length_cons, List.length_nil, Nat.reduceAdd, Nat.reduceSub, Array.replicate_succ, Array.replicate_zero, List.push_toArray, List.append_toArray, List.nil_append, List.cons_append]
  gi_upto_region 1 with fail
  generalize (((w.alloc _).alloc _).alloc _) = w0 at HB ⊢
  generalize hA : w.heap.size + 1 = A1 at *
  generalize hA2 : A1 + 1 = A2 at *
  gi_wp2_with fail
  refine ⟨trivial, no_depth _, ?_⟩
  refine (CL.out _).mono ?_
  rintro e w1 ⟨rfl, H1⟩
  have HB1 : Hid (Blk w1 w.heap.size #[.int .i64 Wd] 3 ∧ Blk w1 A1 #[.int .i64 kd0, .int .u64 (hiOf a0), .int .u64 (loOf a0), .int .i64 l0, .int .i64 u0] 35 ∧ Blk w1 A2 #[.bool false] 4 ∧ Below w.heap.size w w1) := ⟨HB.out.1.below H1, HB.out.2.1.below H1, HB.out.2.2.1.below H1, bst HB.out.2.2.2.1 H1⟩
  clear HB CL H1
  have z0 := HB1.out.1.cell 0 (v := .int .i64 Wd) rfl
  have lA := HB1.out.2.2.1.lt
  by_cases hbad : Wd < 1 ∨ 128 < Wd
  · have C10 : Hid (CallsIn Fence.wide (m - 1) Try.prog 10 #[.int .i64 Wd, .int .i64 4096] w1 fun e w' => e = .returned (.tuple #[.pointer none, .int .i64 1]) ∧ w' = w1) := callsIn_wide.2 (new_bad Wd 4096 (by omega) w1)
    have key : Hid (Below w.heap.size w (w1.alloc (.cells #[.pointer none] 24)) ∧ Blk (w1.alloc (.cells #[.pointer none] 24)) w1.heap.size #[.pointer none] 24 ∧ Blk (w1.alloc (.cells #[.pointer none] 24)) A2 #[.bool false] 4) :=
      ⟨bst HB1.out.2.2.2 ((Below.refl _ _).alloc (Nat.le_refl _) _), Blk.new _ _ _, HB1.out.2.2.1.below ((Below.refl _ _).alloc (Nat.le_refl _) _)⟩
    clear HL hbad
    gi_wp2_with fail
    refine ⟨trivial, no_depth _, ?_⟩
    refine C10.out.mono ?_
    rintro e w2 ⟨rfl, rfl⟩
    clear C10
    gi_upto_region 3 with fail
    generalize (w2.alloc _) = w3 at key ⊢
    have c0 := key.out.2.1.cell 0 (v := .pointer none) rfl
    have f2 := key.out.2.2.frozen 0
    have c2 := key.out.2.2.cell 0 (v := .bool false) rfl
    gi_wp2_with fail
    have HF : Hid (Below w.heap.size w (w3.setCell ⟨A2, 0, none⟩ (.bool true)) ∧ Blk (w3.setCell ⟨A2, 0, none⟩ (.bool true)) A2 #[.bool true] 4) := ⟨key.out.1.setCell (by show _ ≤ A2; omega) _, key.out.2.2.set 0 _⟩
    generalize w3.setCell _ _ = w5 at HF ⊢
    have z1 := HF.out.2.cell 0 (v := .bool true) rfl
    refine ⟨.bool true, ?_, rfl, HF.out.1⟩
    simp [results, Try.results7, go_sem, z1]
  · obtain ⟨W, rfl⟩ := Int.eq_ofNat_of_zero_le (show 0 ≤ Wd by omega)
    have h1 : 1 ≤ W := by omega
    have h2 : W ≤ 128 := by omega
    have C10 : Hid (CallsIn Fence.wide (m - 1) Try.prog 10 #[.int .i64 W, .int .i64 4096] w1 fun e w' => e = .returned (.tuple #[.pointer (some ⟨w1.heap.size, 0, none⟩), .int .i64 0]) ∧ Hid (TrieAt w' w1.heap.size W 4096 none 0 [] ∧ Below w1.heap.size w1 w')) := callsIn_wide.2 ((new_ok W 4096 h1 h2 (by omega) (by omega) w1).mono (by
      rintro e w' ⟨rfl, g1, g2⟩
      exact ⟨rfl, (⟨g1, g2⟩ : _ ∧ _)⟩))
    gi_wp2_with fail
    refine ⟨trivial, no_depth _, ?_⟩
    refine C10.out.mono ?_
    rintro e w2 ⟨rfl, H2⟩
    clear C10 z0
    have HB2 : Hid (Blk w2 w.heap.size #[.int .i64 W] 3 ∧ Blk w2 A1 #[.int .i64 kd0, .int .u64 (hiOf a0), .int .u64 (loOf a0), .int .i64 l0, .int .i64 u0] 35 ∧ Blk w2 A2 #[.bool false] 4 ∧ Own w w2 w1.heap.size W 4096 [] ∧ A2 < w1.heap.size) := ⟨HB1.out.1.below H2.out.2, HB1.out.2.1.below H2.out.2, HB1.out.2.2.1.below H2.out.2, ⟨⟨none, 0, [], H2.out.1, rfl⟩, bst HB1.out.2.2.2 H2.out.2, HB1.out.2.2.2.size⟩, lA⟩
    clear H2 HB1
    generalize w1.heap.size = q at *
    have HN : Hid _ := one_new w2 #[.pointer (some ⟨q, 0, none⟩)] 24
    gi_upto_region 3 with fail
    generalize (w2.alloc _) = w3 at HN ⊢
    have hq2 : q < w2.heap.size := by obtain ⟨⟨_, _, _, h, _⟩, _, _⟩ := HB2.out.2.2.2.1; exact h.hd.lt
    have HB3 : Hid (Blk w3 w.heap.size #[.int .i64 W] 3 ∧ Blk w3 A1 #[.int .i64 kd0, .int .u64 (hiOf a0), .int .u64 (loOf a0), .int .i64 l0, .int .i64 u0] 35 ∧ Blk w3 A2 #[.bool false] 4 ∧ Blk w3 w2.heap.size #[.pointer (some ⟨q, 0, none⟩)] 24 ∧ Own w w3 q W 4096 []) := ⟨HB2.out.1.below HN.out.2.1, HB2.out.2.1.below HN.out.2.1, HB2.out.2.2.1.below HN.out.2.1, HN.out.1, HB2.out.2.2.2.1.below HN.out.2.1⟩
    generalize w2.heap.size = A3 at *
    have HQ : Hid (w.heap.size < q ∧ A1 < q ∧ A2 < q ∧ q < A3 ∧ A2 < A3 ∧ w.heap.size ≤ A2 ∧ w.heap.size < A1 ∧ A1 < A2) := by
      have := HB2.out.2.2.2.2
      exact (by omega : w.heap.size < q ∧ A1 < q ∧ A2 < q ∧ q < A3 ∧ A2 < A3 ∧ w.heap.size ≤ A2 ∧ w.heap.size < A1 ∧ A1 < A2)
    clear HB2 HN hbad lA hq2 hA hA2
    have t0 := HB3.out.2.2.2.1.cell 0 (v := .pointer (some ⟨q, 0, none⟩)) rfl
    gi_wp2_with fail
    clear t0
    gi_loopw [10] (fun b10 wr => ∃ (k : Nat) (L : List (List Bool × Int)), k ≤ l.length ∧ k ≤ 2000 ∧ b10 = .int .i64 k ∧ Hid (L.length ≤ k ∧ Own w wr q W 4096 L ∧ Kept (fun k => k = q) w3 wr)) (fun b10 wr => 2000 - (intOf b10).toNat)
    case atStart => exact ⟨0, [], Nat.zero_le _, Nat.zero_le _, rfl, (⟨Nat.le_refl _, HB3.out.2.2.2.2, Kept.refl _ _⟩ : _ ∧ _)⟩
    case round =>
      obtain ⟨k, L, hk1, hk2, rfl, HR⟩ := hrel
      by_cases hk : k < l.length ∧ k < 2000
      · obtain ⟨x, hx⟩ : ∃ x, l[k]? = some x := ⟨_, List.getElem?_eq_getElem hk.1⟩
        have hne : l ≠ [] := fun e => by rw [e] at hx; cases hx
        obtain ⟨b, o, rfl, hcs⟩ := HL.out.resolve_left hne
        obtain ⟨cs, _, hc, rfl, hok⟩ := hcs k x hx
        obtain ⟨kd, av, n, vv⟩ := x
        have blt : b < w.heap.size := World.block_lt_of_cell? w _ (hc 1 _ rfl)
        have hi1 : (k : Int) < l.length := by omega
        have hi2 : (k : Int) < 2000 := by omega
        have pres : ∀ {j : Nat} {u : Value}, (opC ⟨kd, av, n, vv⟩)[j]? = some u → wr.cell? ⟨b, o + k * 5 + j, none⟩ = some u := fun {j u} h => (World.cell?_of_block (HR.out.2.1.be.block b (World.block_lt_of_cell? w _ (hc j u h)))).trans (hc j u h)
        have c1 := gw_cell (pres (j := 1) rfl)
        have c2 := gw_cell (pres (j := 2) rfl)
        have c3 := gw_cell (pres (j := 3) rfl)
        have hlo := hi1
        have CP : Hid (∀ W2, Below wr.heap.size wr W2 → CallsIn Fence.wide (m - 1) Try.prog 24 #[.pointer (some ⟨q, 0, none⟩), .agg #[.int .u64 (hiOf av), .int .u64 (loOf av), .int .i64 n], .int .i64 k] W2 fun e w' => ∃ c : Int, e = .returned (.int .i64 c) ∧ Hid (∃ L', Own w w' q W 4096 L' ∧ L'.length ≤ k + 1 ∧ Kept (fun k => k = q) w3 w')) := fun W2 hb => callsIn_wide.2 (by
          have hsrt := HR.out.2.1.srt
          refine (put_all (HR.out.2.1.below hb) ⟨h1, h2⟩ (by have := HR.out.1; omega) av hok.1 n k).mono ?_
          rintro e w' ⟨c, rfl, H⟩
          obtain ⟨L', g1, g2, g3⟩ := H.out
          refine ⟨c, rfl, (⟨L', g1, ?_, (HR.out.2.2.trans (Kept.of_below hb)).trans g3⟩ : ∃ _, _)⟩
          have := HR.out.1
          rcases g2 with ⟨_, _, rfl⟩ | ⟨_, _, rfl⟩ | ⟨_, p, _, _, _, hlk, rfl⟩
          · omega
          · omega
          · rw [len_upd hsrt, hlk]
            show L.length + 1 ≤ k + 1
            omega)
        have t0 := gw_cell ((HB3.out.2.2.2.1.kept HR.out.2.2 (by have := HQ.out; show ¬ _ = _; omega)).cell 0 (v := .pointer (some ⟨q, 0, none⟩)) rfl)
        clear pres hc hne hx HR
        gi_upto_region 8 with fail
        refine gate_wide 13 hmix (by kernel_rfl) (by kernel_rfl) (by kernel_rfl) ?_
        simp only [List.take_succ_cons, List.take_zero]
        repeat (gi_big_quiet_step (fail))
        refine wpQuietIn_nil ?_
        intro wq hwq
        obtain ⟨zq, rfl⟩ := hwq
        have CP2 := CP.out (gw zq) (gw_below zq)
        clear CP c1 c2 c3 t0
        generalize gw zq = w5 at *
        change wpAnyIn _ _ _ _ _ _ 1 (upTo 13 1) _ _
        refine wpAnyIn_ready (rs := [13]) (by kernel_rfl) (by simp) ?_
        refine AllReadyIn.cons rfl (fun K5 hK5 => ?_) AllReadyIn.nil
        go_simp
        refine ⟨trivial, no_depth _, ?_⟩
        refine CP2.mono ?_
        rintro e w7 ⟨c, rfl, HM7⟩
        refine hK5 _ _ ?_
        clear hK5 K5
        refine wpAnyIn_done (by kernel_rfl) ?_ _
        gi_wp2_with fail
        go_roundw
        case rel =>
          obtain ⟨L', g1, g2, g3⟩ := HM7.out
          exact ⟨k + 1, L', by omega, by omega, by go_num, (⟨g2, g1, g3⟩ : _ ∧ _)⟩
        case measure => simp [intOf]; omega
      · have hgo : (¬ k < l.length) ∨ (k < l.length ∧ ¬ k < 2000) := by omega
        gi_upto_region 6 with fail
        gi_cut [54] from 47 (fun t wx => t = .bool false ∧ wx = wr)
        case first =>
          rcases hgo with h | ⟨h, h'⟩
          · have d1 : ¬ (k : Int) < l.length := by omega
            gi_wp2_with fail
            go_meet
            exact ⟨rfl, rfl⟩
          · have d1 : (k : Int) < l.length := by omega
            have d2 : ¬ (k : Int) < 2000 := by omega
            gi_wp2_with fail
            go_meet
            exact ⟨rfl, rfl⟩
        case rest =>
          obtain ⟨rfl, rfl⟩ := hcut
          obtain ⟨g0, g1, g2⟩ := HR.out
          have hsrt := g1.srt
          obtain ⟨⟨a, n, N, hT, hkN⟩, hbw, hlo⟩ := g1
          have hA3 := HB3.out.2.2.2.1.lt
          have hq := HQ.out
          have HH : Hid (TrieAt wc q W 4096 a n N ∧ Blk wc w.heap.size #[.int .i64 W] 3 ∧ Blk wc A1 #[.int .i64 kd0, .int .u64 (hiOf a0), .int .u64 (loOf a0), .int .i64 l0, .int .i64 u0] 35 ∧ Blk wc A2 #[.bool false] 4 ∧ Blk wc A3 #[.pointer (some ⟨q, 0, none⟩)] 24 ∧ Below w.heap.size w wc ∧ (kept N).length ≤ 2000) :=
            ⟨hT, HB3.out.1.kept g2 (by show ¬ _ = _; omega), HB3.out.2.1.kept g2 (by show ¬ _ = _; omega), HB3.out.2.2.1.kept g2 (by show ¬ _ = _; omega), HB3.out.2.2.2.1.kept g2 (by show ¬ _ = _; omega), hbw, by rw [hkN]; omega⟩
          have HSN : Hid (Srt (kept N)) := by rw [hkN]; exact hsrt
          have HQ' : Hid (q < wc.heap.size) := hT.hd.lt
          clear HL HR HB3 hgo hk hlb hk1 hk2 hcap g0 g2 hsrt hbw hlo hA3 hT hkN hq
          have HP : Hid (isP W a0 l0 = true → ∃ hp : List Bool, hp.length ≤ W ∧ a0 = valOf W hp ∧ l0 = hp.length ∧ textT W a0 l0 = tx hp) := fun h => by
            obtain ⟨hp, g1, g2, g3⟩ := isP_yes h
            exact ⟨hp, g1, g3, g2, by rw [g3, g2, text_mk g1]⟩
          have C25 : Hid (∀ w1, CallsIn Fence.wide (m - 1) Try.prog 25 #[B a0, .int .i64 l0, .int .i64 W] w1 fun e w' => e = .returned (.tuple #[.string (textT W a0 l0), .bool (isP W a0 l0)]) ∧ Below w1.heap.size w1 w') := fun w1 => callsIn_wide.2 (rtext_any a0 HOK.out.1 l0 W h1 h2 w1)
          have HPB : Hid (isP W a0 l0 = false → isP W a0 l0 = false) := fun h => h
          obtain ⟨rt, hrt⟩ : ∃ rt, isP W a0 l0 = rt := ⟨_, rfl⟩
          obtain ⟨hd, hhd⟩ : ∃ hd, textT W a0 l0 = hd := ⟨_, rfl⟩
          have HRT : Hid (isP W a0 l0 = rt) := hrt
          rw [hrt, hhd] at HP C25
          clear hrt hhd HPB
          have C18 : Hid (∀ w1, CallsIn Fence.wide (m - 1) Try.prog 18 #[.pointer (some ⟨q, 0, none⟩)] w1 fun e w' => ∃ D D2, e = .returned (.func (.func 48) #[] #[.pointer (some ⟨D, 0, none⟩), .pointer (some ⟨D2, 0, none⟩)]) ∧ Hid (Blk w' D #[.pointer (some ⟨q, 0, none⟩)] 24 ∧ Blk w' D2 #[.int .u64 (hiOf (valOf W [])), .int .u64 (loOf (valOf W [])), .int .i64 (([] : List Bool).length : Nat)] 51 ∧ Below w1.heap.size w1 w')) := fun w1 => callsIn_wide.2 ((all_any (some ⟨q, 0, none⟩) w1).mono (by
            rintro e w' ⟨rfl, g1, g2, g3⟩
            exact ⟨_, _, rfl, (⟨g1, by rw [val_nil]; exact g2, g3⟩ : _ ∧ _)⟩))
          have C19 : Hid (∀ w1, CallsIn Fence.wide (m - 1) Try.prog 19 #[.pointer (some ⟨q, 0, none⟩), Pf a0 l0] w1 fun e w' => ∃ D D2, e = .returned (.func (.func 48) #[] #[.pointer (some ⟨D, 0, none⟩), .pointer (some ⟨D2, 0, none⟩)]) ∧ Hid (Blk w' D #[.pointer (some ⟨q, 0, none⟩)] 24 ∧ Blk w' D2 #[.int .u64 (hiOf a0), .int .u64 (loOf a0), .int .i64 l0] 51 ∧ Below w1.heap.size w1 w')) := fun w1 => callsIn_wide.2 ((under_any (some ⟨q, 0, none⟩) a0 l0 w1).mono (by
            rintro e w' ⟨rfl, g1, g2, g3⟩
            exact ⟨_, _, rfl, (⟨g1, g2, g3⟩ : _ ∧ _)⟩))
          have C19z : Hid (∀ w1, CallsIn Fence.wide (m - 1) Try.prog 19 #[.pointer (some ⟨q, 0, none⟩), .agg #[.int .u64 0, .int .u64 0, .int .i64 0]] w1 fun e w' => ∃ D D2, e = .returned (.func (.func 48) #[] #[.pointer (some ⟨D, 0, none⟩), .pointer (some ⟨D2, 0, none⟩)]) ∧ Hid (Blk w' D #[.pointer (some ⟨q, 0, none⟩)] 24 ∧ Blk w' D2 #[.int .u64 (hiOf (valOf W [])), .int .u64 (loOf (valOf W [])), .int .i64 (([] : List Bool).length : Nat)] 51 ∧ Below w1.heap.size w1 w')) := fun w1 => callsIn_wide.2 ((show Calls Try.prog 19 #[.pointer (some ⟨q, 0, none⟩), .agg #[.int .u64 0, .int .u64 0, .int .i64 0]] w1 _ from under_any (some ⟨q, 0, none⟩) 0 0 w1).mono (by
            rintro e w' ⟨rfl, g1, g2, g3⟩
            exact ⟨_, _, rfl, (⟨g1, by rw [val_nil]; exact g2, g3⟩ : _ ∧ _)⟩))
          have fe := fun g caps => fn_eql48 g caps
          have y0 := HH.out.2.2.1.cell 1 (v := .int .u64 (hiOf a0)) rfl
          have y1 := HH.out.2.2.1.cell 2 (v := .int .u64 (loOf a0)) rfl
          have y2 := HH.out.2.2.1.cell 3 (v := .int .i64 l0) rfl
          have z0 := HH.out.2.1.cell 0 (v := .int .i64 W) rfl
          gi_wp2_with fail
          refine ⟨trivial, no_depth _, ?_⟩
          refine (C25.out _).mono ?_
          rintro e w4 ⟨rfl, H4⟩
          clear C25 y0 y1 y2 z0
          have HN5 := two_new' w4 #[.string hd] #[.bool rt] 9 4
          gi_upto_region 10 with fail
          generalize ((w4.alloc _).alloc _) = w5 at HN5 ⊢
          have HH5 : Hid (Below wc.heap.size wc w5) := bst H4 HN5.out.2.2.1
          have HX5 : Hid (Blk w5 w4.heap.size #[.string hd] 9 ∧ Blk w5 (w4.heap.size + 1) #[.bool rt] 4) := ⟨HN5.out.1, HN5.out.2.1⟩
          have hs4 : wc.heap.size ≤ w4.heap.size := H4.size
          clear HN5 H4
          generalize hAh : w4.heap.size = Ah at *
          generalize hAr : Ah + 1 = Ar at *
          have t0 := (HH.out.2.2.2.2.1.below HH5.out).cell 0 (v := .pointer (some ⟨q, 0, none⟩)) rfl
          gi_wp2_with fail
          refine ⟨trivial, no_depth _, ?_⟩
          refine (C18.out _).mono ?_
          rintro e w6 ⟨D1, E1, rfl, H6⟩
          clear C18 t0
          have HH6 : Hid (Below wc.heap.size wc w6 ∧ Below w5.heap.size w5 w6) := ⟨bst HH5.out H6.out.2.2, H6.out.2.2⟩
          have t0 := (HH.out.2.2.2.2.1.below HH6.out.1).cell 0 (v := .pointer (some ⟨q, 0, none⟩)) rfl
          have y0 := (HH.out.2.2.1.below HH6.out.1).cell 1 (v := .int .u64 (hiOf a0)) rfl
          have y1 := (HH.out.2.2.1.below HH6.out.1).cell 2 (v := .int .u64 (loOf a0)) rfl
          have y2 := (HH.out.2.2.1.below HH6.out.1).cell 3 (v := .int .i64 l0) rfl
          gi_wp2_with fail
          refine ⟨trivial, no_depth _, ?_⟩
          refine (C19.out _).mono ?_
          rintro e w7 ⟨D2, E2, rfl, H7⟩
          clear C19 t0 y0 y1 y2
          have HH7 : Hid (Below wc.heap.size wc w7 ∧ Below w5.heap.size w5 w7) := ⟨bst HH6.out.1 H7.out.2.2, bst HH6.out.2 H7.out.2.2⟩
          have t0 := (HH.out.2.2.2.2.1.below HH7.out.1).cell 0 (v := .pointer (some ⟨q, 0, none⟩)) rfl
          gi_wp2_with fail
          refine ⟨trivial, no_depth _, ?_⟩
          refine (C19z.out _).mono ?_
          rintro e w8 ⟨D3, E3, rfl, H8⟩
          clear C19z t0
          have HN9 := two_new' w8 #[.slice none 0 0] #[.slice none 0 0] 65 65
          gi_upto_region 17 with fail
          generalize ((w8.alloc _).alloc _) = w9 at HN9 ⊢
          have hb89 := HN9.out.2.2.1
          have HZ : Hid (Below wc.heap.size wc w9 ∧ Blk w9 Ah #[.string hd] 9 ∧ Blk w9 Ar #[.bool rt] 4 ∧ (Blk w9 D1 #[.pointer (some ⟨q, 0, none⟩)] 24 ∧ Blk w9 E1 #[.int .u64 (hiOf (valOf W [])), .int .u64 (loOf (valOf W [])), .int .i64 (([] : List Bool).length : Nat)] 51) ∧ (Blk w9 D2 #[.pointer (some ⟨q, 0, none⟩)] 24 ∧ Blk w9 E2 #[.int .u64 (hiOf a0), .int .u64 (loOf a0), .int .i64 l0] 51) ∧ (Blk w9 D3 #[.pointer (some ⟨q, 0, none⟩)] 24 ∧ Blk w9 E3 #[.int .u64 (hiOf (valOf W [])), .int .u64 (loOf (valOf W [])), .int .i64 (([] : List Bool).length : Nat)] 51) ∧ Blk w9 w8.heap.size #[.slice none 0 0] 65 ∧ Blk w9 (w8.heap.size + 1) #[.slice none 0 0] 65) := by
            have b78 := H8.out.2.2
            have b67 := H7.out.2.2
            have b58 := bst HH7.out.2 b78
            have b59 := bst b58 hb89
            exact ⟨bst (bst HH7.out.1 b78) hb89, HX5.out.1.below b59, HX5.out.2.below b59, ⟨H6.out.1.below (bst (bst b67 b78) hb89), H6.out.2.1.below (bst (bst b67 b78) hb89)⟩, ⟨H7.out.1.below (bst b78 hb89), H7.out.2.1.below (bst b78 hb89)⟩, ⟨H8.out.1.below hb89, H8.out.2.1.below hb89⟩, HN9.out.1, HN9.out.2.1⟩
          have hs8 : w5.heap.size ≤ w8.heap.size := Nat.le_trans HH7.out.2.size H8.out.2.2.size
          have hs5 : Ar < w5.heap.size := HX5.out.2.lt
          clear HH5 HX5 HH6 H6 HH7 H7 H8 HN9 hb89
          generalize hAw : w8.heap.size = Aw at *
          generalize hAe : Aw + 1 = Ae at *
          have hqs := HQ.out
          have hq' := HQ'.out
          have HLT : Hid (w.heap.size < Aw ∧ A1 < Aw ∧ A2 < Aw ∧ A3 < wc.heap.size ∧ Ah < Aw ∧ Ar < Aw ∧ wc.heap.size ≤ Aw ∧ Ae = Aw + 1 ∧ wc.heap.size ≤ Ah ∧ Ah < Ar ∧ w.heap.size < A1) := by
            have := HH.out.2.2.2.2.1.lt
            exact (by omega : w.heap.size < Aw ∧ A1 < Aw ∧ A2 < Aw ∧ A3 < wc.heap.size ∧ Ah < Aw ∧ Ar < Aw ∧ wc.heap.size ≤ Aw ∧ Ae = Aw + 1 ∧ wc.heap.size ≤ Ah ∧ Ah < Ar ∧ w.heap.size < A1)
          have hT9 : TrieAt w9 q W 4096 a n N := HH.out.1.below HZ.out.1
          have hoff : Off (fun k => k = Aw ∨ k = Ae) N := fun x hx => by
            have g1 := HH.out.1.hang.blks x hx
            have := HLT.out
            exact ⟨fun e => by have := g1.1; rcases e with e | e <;> omega, fun t v ht e => by have := g1.2 t v ht; rcases e with e | e <;> omega⟩
          have hAe := HZ.out.2.2.2.2.2.2.2.lt
          have hS9 : ∀ k, (k = Aw ∨ k = Ae) → k < w9.heap.size := fun k e => by
            have := HLT.out
            rcases e with e | e <;> omega
          have hseq := under_tellsG 51 (by decide) (by decide) hT9 (p := []) (Nat.zero_le _) D1 E1 HZ.out.2.2.2.1.1 HZ.out.2.2.2.1.2 (fun k => k = Aw ∨ k = Ae) hS9 hoff
          rw [und_nil] at hseq
          obtain ⟨f, HF⟩ : ∃ f : List Bool → Bool, Hid ((rt = false → ∀ c, f c = false) ∧ (rt = true → ∃ hp : List Bool, hp.length ≤ W ∧ a0 = valOf W hp ∧ l0 = hp.length ∧ hd = tx hp ∧ ∀ c, f c = decide (hp <+: c))) := by
            cases rt with
            | false => exact ⟨fun _ => false, (⟨fun _ _ => rfl, fun e => (nomatch e)⟩ : _ ∧ _)⟩
            | true =>
              obtain ⟨hp, g1, g2, g3, g4⟩ := HP.out rfl
              exact ⟨fun c => decide (hp <+: c), (⟨fun e => (nomatch e), fun _ => ⟨hp, g1, g2, g3, g4, fun _ => rfl⟩⟩ : _ ∧ _)⟩
          have HLens : Hid (∀ y ∈ kept N, y.1.length ≤ W) := fun y hy => by
            obtain ⟨x, g1, g2⟩ := kept_key hy
            rw [← g2]; exact HH.out.1.hang.lens x g1
          have HD9 : Hid (w9.heap.size = w9.heap.size) := rfl
          clear HP hs4 hs8 hs5 hAh hAr hAw hAe hqs hq'
          gi_wp2_with fail
          refine rangeG_outer (gt := 51) (gf := 48) (lb := #[.pointer (some ⟨D1, 0, none⟩), .pointer (some ⟨E1, 0, none⟩)]) (encs := fun y : List Bool × Int => #[Pf (valOf W y.1) y.1.length, .int .i64 y.2]) (xs := kept N) (S := fun k => k = Aw ∨ k = Ae) rfl (enters_of Try.func48 (by kernel_rfl) rfl)
            hS9 hseq (Below.refl _ _) (fun _ => rfl)
            (TwoR W f w9 Aw Ae)
            (fun c pre W' => False)
            (two_low HZ.out.2.2.2.2.2.2.1.lt HZ.out.2.2.2.2.2.2.2.lt)
            (fun c => (low_pure _ _).g)
            ⟨.slice none 0 0, .slice none 0 0, HZ.out.2.2.2.2.2.2.2, World.ownsRow_nil _ _ _ _, HZ.out.2.2.2.2.2.2.1, World.ownsRow_nil _ _ _ _, fun k e => by simp [Value.ownBlock] at e, Kept.refl _ _⟩ ?round ?done ?stop
          case stop =>
            rintro c pre W' _ hf
            exact hf.elim
          case round =>
            rintro l' pre x W' K hl' ⟨rl, hlp⟩ hz hpre ⟨s1, s2, b1, o1, b2, o2, hdj, hK⟩ hKK
            obtain ⟨c, v⟩ := x
            obtain ⟨ba1, bc1, rfl⟩ := ownsRow_slice o1
            obtain ⟨ba2, bc2, rfl⟩ := ownsRow_slice o2
            have hcM : (c, v) ∈ kept N := hpre.subset (by simp)
            have hc : c.length ≤ W := HLens.out _ hcM
            have hcnt : pre.length + 1 ≤ 2000 := by
              have g1 := hpre.length_le
              have g2 := HH.out.2.2.2.2.2.2
              rw [List.length_append, List.length_singleton] at g1
              omega
            have HLast : Hid (∀ pre' y, pre = pre' ++ [y] → klt y.1 c = true ∧ y.1.length ≤ W) := fun pre' y e => by
              have hp2 : Srt (pre ++ [(c, v)]) := HSN.out.sublist hpre.sublist
              subst e
              have := (List.pairwise_append.1 hp2).2.2 y (by simp) (c, v) (by simp)
              exact ⟨this, HLens.out _ (hpre.subset (by simp))⟩
            have hAe9 := HZ.out.2.2.2.2.2.2.2.lt
            have hlt' := HLT.out
            have hlp' := (Array.getElem?_eq_some_iff.1 hlp).1
            have HN := one_new W' #[.int .u64 (hiOf (valOf W c)), .int .u64 (loOf (valOf W c)), .int .i64 c.length] 51
            have C25c : Hid (∀ (j mm : Nat) w1, CallsIn (Fence.wide.inRound j) mm Try.prog 25 #[B (valOf W c), .int .i64 c.length, .int .i64 W] w1 fun e w' => e = .returned (.tuple #[.string (tx c), .bool true]) ∧ Below w1.heap.size w1 w') := fun j mm w1 => CallsIn.inRound j (callsIn_wide.2 (by
              have := rtext_any (valOf W c) (val_is h2 hc) c.length W h1 h2 w1
              rw [text_mk hc, isP_mk hc] at this; exact this))
            simp only [List.zip_toArray, List.zip_cons_cons, List.zip_nil_right, List.foldl_toArray', List.foldl_toArray, List.foldl_cons, List.foldl_nil, List.setIfInBounds_toArray, List.set_cons_succ, List.set_cons_zero]
            gi_wp2_with fail
            refine hKK _ _ (Kept.of_below HN.2.1) ?_
            intro Wb hkb hrec
            have hla : (W'.alloc (.cells #[.int .u64 (hiOf (valOf W c)), .int .u64 (loOf (valOf W c)), .int .i64 c.length] 51)).heap[l']? = some (.loop rl) := (HN.2.1.block l' hlp').trans hlp
            have hKW : Kept (fun k => k = l') W' Wb := (Kept.of_below HN.2.1).trans hkb
            have hKb : Kept (fun k => k = Aw ∨ k = Ae) w9 Wb := ⟨hKW.os.trans hK.os, hKW.tape.trans hK.tape, hKW.output.trans hK.output, Nat.le_trans hK.size hKW.size, fun k hk hs => (hKW.block k (Nat.lt_of_lt_of_le hk hK.size) (fun e => by have e' : k = l' := e; omega)).trans (hK.block k hk hs)⟩
            have hAp : Hid (w9.heap.size ≤ W'.heap.size) := hz
            have HE : Hid (Blk Wb Ae #[.slice ba1 (keys pre).length bc1] 65 ∧ Wb.ownsRow w9.heap.size 51 3 (.slice ba1 (keys pre).length bc1) (keys pre).length (rowK W (keys pre)) ∧ Blk Wb Aw #[.slice ba2 (keys (pre.filter fun y => f y.1)).length bc2] 65 ∧ Wb.ownsRow w9.heap.size 51 3 (.slice ba2 (keys (pre.filter fun y => f y.1)).length bc2) (keys (pre.filter fun y => f y.1)).length (rowK W (keys (pre.filter fun y => f y.1))) ∧ (∀ k, (Value.slice ba1 (keys pre).length bc1).ownBlock = some k → (Value.slice ba2 (keys (pre.filter fun y => f y.1)).length bc2).ownBlock ≠ some k) ∧ Kept (fun k => k = Aw ∨ k = Ae) w9 Wb ∧ Blk Wb W'.heap.size #[.int .u64 (hiOf (valOf W c)), .int .u64 (loOf (valOf W c)), .int .i64 c.length] 51) :=
              ⟨(b1.below HN.2.1).kept hkb (by show ¬ _ = _; omega), own_loop (own_below o1 HN.2.1) hkb hla, (b2.below HN.2.1).kept hkb (by show ¬ _ = _; omega), own_loop (own_below o2 HN.2.1) hkb hla, hdj, hKb, HN.1.kept hkb (by show ¬ _ = _; omega)⟩
            have HWid : Hid (∀ V, Kept (fun k => k = Aw ∨ k = Ae) w9 V → Blk V w.heap.size #[.int .i64 W] 3 ∧ Blk V Ah #[.string hd] 9 ∧ Blk V Ar #[.bool rt] 4) := fun V hV => by
              have := HLT.out
              exact ⟨(HH.out.2.1.below HZ.out.1).kept hV (by show ¬ (_ = _ ∨ _ = _); omega), HZ.out.2.1.kept hV (by show ¬ (_ = _ ∨ _ = _); omega), HZ.out.2.2.1.kept hV (by show ¬ (_ = _ ∨ _ = _); omega)⟩
            have HBn : Hid (pre.length + 1 ≤ 2000 ∧ c.length ≤ W ∧ Aw < w9.heap.size ∧ Ae < w9.heap.size ∧ w9.heap.size ≤ Wb.heap.size) := ⟨hcnt, hc, HZ.out.2.2.2.2.2.2.1.lt, hAe9, hKb.size⟩
            have HApn : Hid (∀ k, (Value.slice ba1 (keys pre).length bc1).ownBlock = some k → k ≠ W'.heap.size) := fun k e => by
              obtain ⟨_, _, _, h⟩ := own_block o1 e
              have := (Array.getElem?_eq_some_iff.1 h).1
              omega
            generalize W'.heap.size = Ap at *
            have p0 := HE.out.2.2.2.2.2.2.cell 0 (v := .int .u64 (hiOf (valOf W c))) rfl
            have p1 := HE.out.2.2.2.2.2.2.cell 1 (v := .int .u64 (loOf (valOf W c))) rfl
            have p2 := HE.out.2.2.2.2.2.2.cell 2 (v := .int .i64 c.length) rfl
            have z0 := (HWid.out Wb HE.out.2.2.2.2.2.1).1.cell 0 (v := .int .i64 W) rfl
            clear b1 o1 b2 o2 hdj hK hKK hkb hrec hla hKW hKb HN hcM hcnt hpre hz hl' hlp hlp' hAe9 hlt' hseq hS9 hoff hT9 HD9 rl
            gi_wp2_with fail
            refine ⟨trivial, no_depth _, ?_⟩
            refine (C25c.out _ _ _).mono ?_
            rintro e Wc ⟨rfl, Hc⟩
            clear p0 p1 p2 z0 C25c
            have HE2 : Hid (Blk Wc Ae #[.slice ba1 (keys pre).length bc1] 65 ∧ Wc.ownsRow w9.heap.size 51 3 (.slice ba1 (keys pre).length bc1) (keys pre).length (rowK W (keys pre)) ∧ Blk Wc Aw #[.slice ba2 (keys (pre.filter fun y => f y.1)).length bc2] 65 ∧ Wc.ownsRow w9.heap.size 51 3 (.slice ba2 (keys (pre.filter fun y => f y.1)).length bc2) (keys (pre.filter fun y => f y.1)).length (rowK W (keys (pre.filter fun y => f y.1))) ∧ (∀ k, (Value.slice ba1 (keys pre).length bc1).ownBlock = some k → (Value.slice ba2 (keys (pre.filter fun y => f y.1)).length bc2).ownBlock ≠ some k) ∧ Kept (fun k => k = Aw ∨ k = Ae) w9 Wc ∧ Blk Wc Ap #[.int .u64 (hiOf (valOf W c)), .int .u64 (loOf (valOf W c)), .int .i64 c.length] 51 ∧ Below Wb.heap.size Wb Wc) :=
              ⟨HE.out.1.below Hc, own_below HE.out.2.1 Hc, HE.out.2.2.1.below Hc, own_below HE.out.2.2.2.1 Hc, HE.out.2.2.2.2.1, HE.out.2.2.2.2.2.1.trans (Kept.of_below Hc), HE.out.2.2.2.2.2.2.below Hc, Hc⟩
            clear HE Hc
            obtain ⟨n1, hn1⟩ : ∃ n1, (keys pre).length = n1 := ⟨_, rfl⟩
            obtain ⟨n2, hn2⟩ : ∃ n2, (keys (pre.filter fun y => f y.1)).length = n2 := ⟨_, rfl⟩
            have HG : Hid (Blk Wc Ae #[.slice ba1 n1 bc1] 65 ∧ Wc.ownsRow w9.heap.size 51 3 (.slice ba1 n1 bc1) (keys pre).length (rowK W (keys pre)) ∧ Blk Wc Aw #[.slice ba2 n2 bc2] 65 ∧ Wc.ownsRow w9.heap.size 51 3 (.slice ba2 n2 bc2) (keys (pre.filter fun y => f y.1)).length (rowK W (keys (pre.filter fun y => f y.1))) ∧ (∀ k, (Value.slice ba1 n1 bc1).ownBlock = some k → (Value.slice ba2 n2 bc2).ownBlock ≠ some k) ∧ Kept (fun k => k = Aw ∨ k = Ae) w9 Wc ∧ Blk Wc Ap #[.int .u64 (hiOf (valOf W c)), .int .u64 (loOf (valOf W c)), .int .i64 c.length] 51 ∧ Below Wb.heap.size Wb Wc) := by rw [← hn1, ← hn2]; exact HE2.out
            have hbnd : Hid (n1 + 1 ≤ 1000000 ∧ n2 + 1 ≤ 1000000 ∧ n1 = pre.length) := by
              have g1 := HBn.out.1
              have g2 : (keys (pre.filter fun y => f y.1)).length ≤ pre.length := by rw [List.length_map]; exact List.length_filter_le _ _
              have g3 : (keys pre).length = pre.length := by rw [List.length_map]
              rw [hn2] at g2
              rw [hn1] at g3
              exact (by omega : n1 + 1 ≤ 1000000 ∧ n2 + 1 ≤ 1000000 ∧ n1 = pre.length)
            clear HE2
            have a0 := HG.out.1.cell 0 (v := .slice ba1 n1 bc1) rfl
            rcases List.eq_nil_or_concat pre with hcc | ⟨pre', y, hcc⟩
            · have d0 : ¬ (0 : Int) < (n1 : Int) := by
                have := hbnd.out.2.2
                rw [hcc] at this
                simp at this
                omega
              clear hcc
              gi_upto_region 26 with fail
              generalize Wc = Wd at *
              clear a0
              have HG2 : Hid (Blk Wd Ae #[.slice ba1 n1 bc1] 65 ∧ Wd.ownsRow w9.heap.size 51 3 (.slice ba1 n1 bc1) (keys pre).length (rowK W (keys pre)) ∧ Blk Wd Aw #[.slice ba2 n2 bc2] 65 ∧ Wd.ownsRow w9.heap.size 51 3 (.slice ba2 n2 bc2) (keys (pre.filter fun y => f y.1)).length (rowK W (keys (pre.filter fun y => f y.1))) ∧ (∀ k, (Value.slice ba1 n1 bc1).ownBlock = some k → (Value.slice ba2 n2 bc2).ownBlock ≠ some k) ∧ Kept (fun k => k = Aw ∨ k = Ae) w9 Wd ∧ Blk Wd Ap #[.int .u64 (hiOf (valOf W c)), .int .u64 (loOf (valOf W c)), .int .i64 c.length] 51 ∧ Below Wb.heap.size Wb Wd) := HG
              have hbV : w9.heap.size ≤ Wd.heap.size := Nat.le_trans HBn.out.2.2.2.2 HG2.out.2.2.2.2.2.2.2.size
              obtain ⟨bx, cx, W2, hr, fr, ce, HS⟩ := row_step (W := W) (V := Wd) (K := keys pre) (K' := keys (pre.filter fun y => f y.1)) c HBn.out.2.2.2.1 HBn.out.2.2.1 (by have := HLT.out; omega : Ae ≠ Aw) hbV HG2.out.1 HG2.out.2.1 HG2.out.2.2.1 HG2.out.2.2.2.1 HG2.out.2.2.2.2.1 (by rw [hn1]; exact hbnd.out.1)
              rw [hn1] at hr HS
              have a0 := HG2.out.1.cell 0 (v := .slice ba1 n1 bc1) rfl
              have p0 := HG2.out.2.2.2.2.2.2.1.cell 0 (v := .int .u64 (hiOf (valOf W c))) rfl
              have p1 := HG2.out.2.2.2.2.2.2.1.cell 1 (v := .int .u64 (loOf (valOf W c))) rfl
              have p2 := HG2.out.2.2.2.2.2.2.1.cell 2 (v := .int .i64 c.length) rfl
              have HG3 : Hid (Kept (Gst 51 w9.heap.size (fun k => k = Aw ∨ k = Ae) Wb) Wb (W2.setCell ⟨Ae, 0, none⟩ (.slice bx (n1 + 1) cx)) ∧ Kept (fun k => k = Aw ∨ k = Ae) w9 (W2.setCell ⟨Ae, 0, none⟩ (.slice bx (n1 + 1) cx))) := by
                have hb := HG2.out.2.2.2.2.2.2.2
                have hk := HS.out.2.2.2.2.2
                have hw := HG2.out.2.2.2.2.2.1
                refine ⟨⟨hk.os.trans hb.os, hk.tape.trans hb.tape, hk.output.trans hb.output, Nat.le_trans hb.size hk.size, fun k hk' hs => (hk.block k (Nat.lt_of_lt_of_le hk' hb.size) (fun e => hs ?_)).trans (hb.block k hk')⟩, ⟨hk.os.trans hw.os, hk.tape.trans hw.tape, hk.output.trans hw.output, Nat.le_trans hw.size hk.size, fun k hk' hs => (hk.block k (Nat.lt_of_lt_of_le hk' hw.size) (fun e => e.elim (fun e => hs (.inr e)) (fun e => by have := (own_block HG2.out.2.1 e).1; omega))).trans (hw.block k hk' hs)⟩⟩
                rcases e with e | e
                · exact .inl (.inr e)
                · obtain ⟨e1, cs, fr', e2⟩ := own_block HG2.out.2.1 e
                  rw [hb.block k hk'] at e2
                  exact .inr ⟨e1, cs, fr', e2⟩
              have HPb : Hid (Blk (W2.setCell ⟨Ae, 0, none⟩ (.slice bx (n1 + 1) cx)) Ap #[.int .u64 (hiOf (valOf W c)), .int .u64 (loOf (valOf W c)), .int .i64 c.length] 51 ∧ Wb.heap.size ≤ (W2.setCell ⟨Ae, 0, none⟩ (.slice bx (n1 + 1) cx)).heap.size) :=
                ⟨HG2.out.2.2.2.2.2.2.1.kept HS.out.2.2.2.2.2 (fun e => e.elim (fun e => by have := HBn.out.2.2.2.1; have := hAp.out; omega) (fun e => HApn.out _ (by rw [hn1]; exact e) rfl)), Nat.le_trans HG2.out.2.2.2.2.2.2.2.size HS.out.2.2.2.2.2.size⟩
              clear HG HG2 hbV
              gi_upto_region 27 with fail
              generalize W2.setCell _ _ = W3 at HS HG3 HPb ⊢
              clear hr fr ce a0 p0 p1 p2
              have q0 := gw_cell ((HWid.out W3 HG3.out.2).2.1.cell 0 (v := .string hd) rfl)
              have q1 := gw_cell ((HWid.out W3 HG3.out.2).2.2.cell 0 (v := .bool rt) rfl)
              have HFin : Hid (∀ z : Grown W3, f c = false → Kept (Gst 51 w9.heap.size (fun k => k = Aw ∨ k = Ae) Wb) Wb (gw z) ∧ TwoR W f w9 Aw Ae (pre ++ [(c, v)]) (gw z)) := fun z hf => by
                have e1 : keys (pre ++ [(c, v)]) = keys pre ++ [c] := by simp [keys]
                have e2 : (pre ++ [(c, v)]).filter (fun y => f y.1) = pre.filter fun y => f y.1 := by rw [List.filter_append]; simp [List.filter_cons, hf]
                unfold TwoR
                rw [e1, e2]
                obtain ⟨g1, g2, g3, g4, g5, g6⟩ := HS.out
                exact ⟨HG3.out.1.trans (Kept.of_below (gw_below z)), _, _, g1.below (gw_below z), own_below g2 (gw_below z), g3.below (gw_below z), own_below g4 (gw_below z), g5, HG3.out.2.trans (Kept.of_below (gw_below z))⟩
              cases rt with
              | false =>
                have hf : Hid (f c = false) := HF.out.1 rfl c
                refine grows_round hmix (by kernel_rfl) (by kernel_rfl) ?_
                repeat (gi_big_quiet_step (fail))
                refine wpQuietIn_nil ?_
                intro wq hwq
                obtain ⟨zq, rfl⟩ := hwq
                have HD := HFin.out zq hf.out
                clear HFin q0 q1 HS HG3 HPb
                gi_wp2_with fail
                exact HD
              | true =>
                obtain ⟨hp, g1, g2, g3, rfl, g5⟩ := HF.out.2 rfl
                have hszc : (tx c).size = c.length := tx_size c
                have hszh : (tx hp).size = hp.length := tx_size hp
                have hx : (tx c).extract 0 hp.length = tx (c.take hp.length) := tx_take c hp.length
                have HG5 : Hid (∀ c, f c = decide (hp <+: c)) := g5
                clear g1 g2 g3 g5
                by_cases hpx : hp <+: c
                · have hfc : Hid (f c = true) := by rw [HG5.out c]; exact decide_eq_true hpx
                  have hx2 : (tx c).extract 0 hp.length = tx hp := by
                    rw [hx]; congr 1
                    exact (List.prefix_iff_eq_take.1 hpx).symm
                  have hle : (hp.length : Int) ≤ c.length := by have := hpx.length_le; omega
                  clear hx hpx HG5
                  generalize tx hp = th at *
                  generalize tx c = tc at *
                  refine grows_round hmix (by kernel_rfl) (by kernel_rfl) ?_
                  repeat (gi_big_quiet_step (fail))
                  refine wpQuietIn_nil ?_
                  intro wq hwq
                  obtain ⟨zq, rfl⟩ := hwq
                  have HS4 : Hid (Blk (gw zq) Ae #[.slice bx (n1 + 1) cx] 65 ∧ (gw zq).ownsRow w9.heap.size 51 3 (.slice bx (n1 + 1) cx) (keys pre ++ [c]).length (rowK W (keys pre ++ [c])) ∧ Blk (gw zq) Aw #[.slice ba2 n2 bc2] 65 ∧ (gw zq).ownsRow w9.heap.size 51 3 (.slice ba2 n2 bc2) (keys (pre.filter fun y => f y.1)).length (rowK W (keys (pre.filter fun y => f y.1))) ∧ (∀ k, (Value.slice ba2 n2 bc2).ownBlock = some k → (Value.slice bx (n1 + 1) cx).ownBlock ≠ some k) ∧ Kept (Gst 51 w9.heap.size (fun k => k = Aw ∨ k = Ae) Wb) Wb (gw zq) ∧ Kept (fun k => k = Aw ∨ k = Ae) w9 (gw zq)) := by
                    obtain ⟨g1, g2, g3, g4, g5, g6⟩ := HS.out
                    exact ⟨g1.below (gw_below zq), own_below g2 (gw_below zq), g3.below (gw_below zq), own_below g4 (gw_below zq), fun k e1 e2 => g5 k e2 e1, HG3.out.1.trans (Kept.of_below (gw_below zq)), HG3.out.2.trans (Kept.of_below (gw_below zq))⟩
                  have HPb4 : Hid (Blk (gw zq) Ap #[.int .u64 (hiOf (valOf W c)), .int .u64 (loOf (valOf W c)), .int .i64 c.length] 51 ∧ w9.heap.size ≤ (gw zq).heap.size) := ⟨HPb.out.1.below (gw_below zq), Nat.le_trans HBn.out.2.2.2.2 (Nat.le_trans HPb.out.2 (gw_below zq).size)⟩
                  clear HFin q0 q1 HS HG3 HPb
                  generalize gw zq = W4 at *
                  obtain ⟨by', cy, W5, hr, fr, ce, HT⟩ := row_step (W := W) (V := W4) (K := keys (pre.filter fun y => f y.1)) (K' := keys pre ++ [c]) c HBn.out.2.2.1 HBn.out.2.2.2.1 (by have := HLT.out; omega : Aw ≠ Ae) HPb4.out.2 HS4.out.2.2.1 HS4.out.2.2.2.1 HS4.out.1 HS4.out.2.1 HS4.out.2.2.2.2.1 (by rw [hn2]; exact hbnd.out.2.1)
                  rw [hn2] at hr HT
                  have a0 := HS4.out.2.2.1.cell 0 (v := .slice ba2 n2 bc2) rfl
                  have p0 := HPb4.out.1.cell 0 (v := .int .u64 (hiOf (valOf W c))) rfl
                  have p1 := HPb4.out.1.cell 1 (v := .int .u64 (loOf (valOf W c))) rfl
                  have p2 := HPb4.out.1.cell 2 (v := .int .i64 c.length) rfl
                  have HD : Hid (Kept (Gst 51 w9.heap.size (fun k => k = Aw ∨ k = Ae) Wb) Wb (W5.setCell ⟨Aw, 0, none⟩ (.slice by' (n2 + 1) cy)) ∧ TwoR W f w9 Aw Ae (pre ++ [(c, v)]) (W5.setCell ⟨Aw, 0, none⟩ (.slice by' (n2 + 1) cy))) := by
                    have e1 : keys (pre ++ [(c, v)]) = keys pre ++ [c] := by simp [keys]
                    have e2 : (pre ++ [(c, v)]).filter (fun y => f y.1) = (pre.filter fun y => f y.1) ++ [(c, v)] := by rw [List.filter_append]; simp [List.filter_cons, hfc.out]
                    have e3 : keys ((pre.filter fun y => f y.1) ++ [(c, v)]) = keys (pre.filter fun y => f y.1) ++ [c] := by simp [keys]
                    unfold TwoR
                    rw [e1, e2, e3]
                    obtain ⟨g1, g2, g3, g4, g5, g6⟩ := HT.out
                    have hb := HS4.out.2.2.2.2.2.1
                    have hw := HS4.out.2.2.2.2.2.2
                    refine ⟨⟨g6.os.trans hb.os, g6.tape.trans hb.tape, g6.output.trans hb.output, Nat.le_trans hb.size g6.size, fun k hk' hs => ?_⟩, _, _, g3, g4, g1, g2, fun k e1 e2 => g5 k e2 e1, ⟨g6.os.trans hw.os, g6.tape.trans hw.tape, g6.output.trans hw.output, Nat.le_trans hw.size g6.size, fun k hk' hs => (g6.block k (Nat.lt_of_lt_of_le hk' hw.size) (fun e => e.elim (fun e => hs (.inl e)) (fun e => by have := (own_block HS4.out.2.2.2.1 e).1; omega))).trans (hw.block k hk' hs)⟩⟩
                    have hwb : W4.heap[k]? = Wb.heap[k]? := hb.block k hk' hs
                    refine (g6.block k (Nat.lt_of_lt_of_le hk' hb.size) (fun e => hs ?_)).trans hwb
                    rcases e with e | e
                    · exact .inl (.inl e)
                    · obtain ⟨e1, cs, fr', e2⟩ := own_block HS4.out.2.2.2.1 e
                      rw [hwb] at e2
                      exact .inr ⟨e1, cs, fr', e2⟩
                  clear HS4 HT HPb4
                  gi_wp2_with fail
                  exact HD.out
                · have hfc : Hid (f c = false) := by rw [HG5.out c]; exact decide_eq_false hpx
                  by_cases hle : hp.length ≤ c.length
                  · have hle' : (hp.length : Int) ≤ c.length := by omega
                    obtain ⟨rr, hrr⟩ : ∃ rr, tx (c.take hp.length) = rr := ⟨_, rfl⟩
                    have hne : ¬ rr = tx hp := fun e => hpx (by rw [← hrr] at e; have := tx_inj e; rw [← this]; exact List.take_prefix _ _)
                    obtain ⟨ne1, ne2, ne3, ne4⟩ := bytes_ne hne
                    rw [hrr] at hx
                    clear hpx HG5 hrr
                    generalize tx hp = th at *
                    generalize tx c = tc at *
                    refine grows_round hmix (by kernel_rfl) (by kernel_rfl) ?_
                    repeat (gi_big_quiet_step (fail))
                    refine wpQuietIn_nil ?_
                    intro wq hwq
                    obtain ⟨zq, rfl⟩ := hwq
                    have HD := HFin.out zq hfc.out
                    clear HFin q0 q1 HS HG3 HPb
                    gi_wp2_with fail
                    exact HD
                  · have hle' : ¬ (hp.length : Int) ≤ c.length := by omega
                    have hle2 : decide ((hp.length : Int) ≤ c.length) = false := decide_eq_false hle'
                    clear hpx HG5 hx
                    generalize tx hp = th at *
                    generalize tx c = tc at *
                    refine grows_round hmix (by kernel_rfl) (by kernel_rfl) ?_
                    repeat (gi_big_quiet_step (fail))
                    refine wpQuietIn_nil ?_
                    intro wq hwq
                    obtain ⟨zq, rfl⟩ := hwq
                    have HD := HFin.out zq hfc.out
                    clear HFin q0 q1 HS HG3 HPb
                    gi_wp2_with fail
                    exact HD
            · rw [List.concat_eq_append] at hcc
              obtain ⟨m1, hm1⟩ : ∃ m1, n1 = m1 + 1 := ⟨pre'.length, by have := hbnd.out.2.2; rw [hcc] at this; simpa using this⟩
              subst hm1
              obtain ⟨hklt, hyl⟩ := HLast.out pre' y hcc
              have hky : (keys pre)[m1]? = some y.1 := by
                have : m1 = pre'.length := by have := hbnd.out.2.2; rw [hcc] at this; simpa using this
                rw [hcc, this]
                simp [keys]
              have C25y : Hid (∀ (mm : Nat) w1, CallsIn Fence.wide mm Try.prog 25 #[B (valOf W y.1), .int .i64 y.1.length, .int .i64 W] w1 fun e w' => e = .returned (.tuple #[.string (tx y.1), .bool true]) ∧ Below w1.heap.size w1 w') := fun mm w1 => callsIn_wide.2 (by
                have := rtext_any (valOf W y.1) (val_is h2 hyl) y.1.length W h1 h2 w1
                rw [text_mk hyl, isP_mk hyl] at this; exact this)
              have orow := HG.out.2.1
              rw [hn1] at orow
              obtain ⟨g, hba, hnb, hrow⟩ := row_at orow hn1 (by omega)
              clear orow
              have hba' := hba
              subst hba
              obtain ⟨r0, r1, r2⟩ := hrow m1 y.1 hky
              rw [Nat.add_zero] at r0
              have r0' := gw_cell r0
              have r1' := gw_cell r1
              have r2' := gw_cell r2
              have a0' := gw_cell a0
              have z0' := gw_cell ((HWid.out Wc HG.out.2.2.2.2.2.1).1.cell 0 (v := .int .i64 W) rfl)
              have d0 : (0 : Int) < ((m1 + 1 : Nat) : Int) := by omega
              have i0 : ((m1 + 1 : Nat) : Int) - 1 = m1 := by omega
              have i1 : m1 ≤ 1000000 := by have := hbnd.out.1; omega
              have hless : Op.bytesLess (tx y.1).toList (tx c).toList = true := by rw [tx_less]; exact hklt
              clear r0 r1 r2 hrow hky hklt hyl hcc
              gi_upto_region 23 with fail
              refine grows_round hmix (by kernel_rfl) (by kernel_rfl) ?_
              repeat (gi_big_quiet_step (fail))
              refine Go.BigFrame.wpQuietIn_want (fun _ _ _ _ => trivial) (by rfl) ?_
              intro K2 hK2
              gi_big_quiet_op
              apply Exists.intro
              refine ⟨fun _ => ?_, ?_⟩
              · exact ⟨no_depth _, calls_gwIn (C25y.out _ _)⟩
              go_big_quiet_on
              repeat (gi_big_quiet_step (fail))
              refine wpQuietIn_nil ?_
              intro wq hwq
              obtain ⟨zq, rfl⟩ := hwq
              have HG1 : Hid (Blk (gw zq) Ae #[.slice (some ⟨g, 0, none⟩) (m1 + 1) bc1] 65 ∧ (gw zq).ownsRow w9.heap.size 51 3 (.slice (some ⟨g, 0, none⟩) (m1 + 1) bc1) (keys pre).length (rowK W (keys pre)) ∧ Blk (gw zq) Aw #[.slice ba2 n2 bc2] 65 ∧ (gw zq).ownsRow w9.heap.size 51 3 (.slice ba2 n2 bc2) (keys (pre.filter fun y => f y.1)).length (rowK W (keys (pre.filter fun y => f y.1))) ∧ (∀ k, (Value.slice (some ⟨g, 0, none⟩) (m1 + 1) bc1).ownBlock = some k → (Value.slice ba2 n2 bc2).ownBlock ≠ some k) ∧ Kept (fun k => k = Aw ∨ k = Ae) w9 (gw zq) ∧ Blk (gw zq) Ap #[.int .u64 (hiOf (valOf W c)), .int .u64 (loOf (valOf W c)), .int .i64 c.length] 51 ∧ Below Wb.heap.size Wb (gw zq)) := by
                obtain ⟨g1, g2, g3, g4, g5, g6, g7, g8⟩ := HG.out
                exact ⟨g1.below (gw_below zq), own_below g2 (gw_below zq), g3.below (gw_below zq), own_below g4 (gw_below zq), g5, g6.trans (Kept.of_below (gw_below zq)), g7.below (gw_below zq), bst g8 (gw_below zq)⟩
              clear HG r0' r1' r2' a0' z0' C25y a0 hnb
              generalize gw zq = Wd at *
              have HG := HG1
              clear HG1
              gi_upto_region 26 with fail
              have HG2 : Hid (Blk Wd Ae #[.slice (some ⟨g, 0, none⟩) (m1 + 1) bc1] 65 ∧ Wd.ownsRow w9.heap.size 51 3 (.slice (some ⟨g, 0, none⟩) (m1 + 1) bc1) (keys pre).length (rowK W (keys pre)) ∧ Blk Wd Aw #[.slice ba2 n2 bc2] 65 ∧ Wd.ownsRow w9.heap.size 51 3 (.slice ba2 n2 bc2) (keys (pre.filter fun y => f y.1)).length (rowK W (keys (pre.filter fun y => f y.1))) ∧ (∀ k, (Value.slice (some ⟨g, 0, none⟩) (m1 + 1) bc1).ownBlock = some k → (Value.slice ba2 n2 bc2).ownBlock ≠ some k) ∧ Kept (fun k => k = Aw ∨ k = Ae) w9 Wd ∧ Blk Wd Ap #[.int .u64 (hiOf (valOf W c)), .int .u64 (loOf (valOf W c)), .int .i64 c.length] 51 ∧ Below Wb.heap.size Wb Wd) := HG
              have hbV : w9.heap.size ≤ Wd.heap.size := Nat.le_trans HBn.out.2.2.2.2 HG2.out.2.2.2.2.2.2.2.size
              obtain ⟨bx, cx, W2, hr, fr, ce, HS⟩ := row_step (W := W) (V := Wd) (K := keys pre) (K' := keys (pre.filter fun y => f y.1)) c HBn.out.2.2.2.1 HBn.out.2.2.1 (by have := HLT.out; omega : Ae ≠ Aw) hbV HG2.out.1 HG2.out.2.1 HG2.out.2.2.1 HG2.out.2.2.2.1 HG2.out.2.2.2.2.1 (by rw [hn1]; exact hbnd.out.1)
              rw [hn1] at hr HS
              have a0 := HG2.out.1.cell 0 (v := .slice (some ⟨g, 0, none⟩) (m1 + 1) bc1) rfl
              have p0 := HG2.out.2.2.2.2.2.2.1.cell 0 (v := .int .u64 (hiOf (valOf W c))) rfl
              have p1 := HG2.out.2.2.2.2.2.2.1.cell 1 (v := .int .u64 (loOf (valOf W c))) rfl
              have p2 := HG2.out.2.2.2.2.2.2.1.cell 2 (v := .int .i64 c.length) rfl
              have HG3 : Hid (Kept (Gst 51 w9.heap.size (fun k => k = Aw ∨ k = Ae) Wb) Wb (W2.setCell ⟨Ae, 0, none⟩ (.slice bx ((m1 + 1) + 1) cx)) ∧ Kept (fun k => k = Aw ∨ k = Ae) w9 (W2.setCell ⟨Ae, 0, none⟩ (.slice bx ((m1 + 1) + 1) cx))) := by
                have hb := HG2.out.2.2.2.2.2.2.2
                have hk := HS.out.2.2.2.2.2
                have hw := HG2.out.2.2.2.2.2.1
                refine ⟨⟨hk.os.trans hb.os, hk.tape.trans hb.tape, hk.output.trans hb.output, Nat.le_trans hb.size hk.size, fun k hk' hs => (hk.block k (Nat.lt_of_lt_of_le hk' hb.size) (fun e => hs ?_)).trans (hb.block k hk')⟩, ⟨hk.os.trans hw.os, hk.tape.trans hw.tape, hk.output.trans hw.output, Nat.le_trans hw.size hk.size, fun k hk' hs => (hk.block k (Nat.lt_of_lt_of_le hk' hw.size) (fun e => e.elim (fun e => hs (.inr e)) (fun e => by have := (own_block HG2.out.2.1 e).1; omega))).trans (hw.block k hk' hs)⟩⟩
                rcases e with e | e
                · exact .inl (.inr e)
                · obtain ⟨e1, cs, fr', e2⟩ := own_block HG2.out.2.1 e
                  rw [hb.block k hk'] at e2
                  exact .inr ⟨e1, cs, fr', e2⟩
              have HPb : Hid (Blk (W2.setCell ⟨Ae, 0, none⟩ (.slice bx ((m1 + 1) + 1) cx)) Ap #[.int .u64 (hiOf (valOf W c)), .int .u64 (loOf (valOf W c)), .int .i64 c.length] 51 ∧ Wb.heap.size ≤ (W2.setCell ⟨Ae, 0, none⟩ (.slice bx ((m1 + 1) + 1) cx)).heap.size) :=
                ⟨HG2.out.2.2.2.2.2.2.1.kept HS.out.2.2.2.2.2 (fun e => e.elim (fun e => by have := HBn.out.2.2.2.1; have := hAp.out; omega) (fun e => HApn.out _ (by rw [hn1]; exact e) rfl)), Nat.le_trans HG2.out.2.2.2.2.2.2.2.size HS.out.2.2.2.2.2.size⟩
              clear HG HG2 hbV
              gi_upto_region 27 with fail
              generalize W2.setCell _ _ = W3 at HS HG3 HPb ⊢
              clear hr fr ce a0 p0 p1 p2
              have q0 := gw_cell ((HWid.out W3 HG3.out.2).2.1.cell 0 (v := .string hd) rfl)
              have q1 := gw_cell ((HWid.out W3 HG3.out.2).2.2.cell 0 (v := .bool rt) rfl)
              have HFin : Hid (∀ z : Grown W3, f c = false → Kept (Gst 51 w9.heap.size (fun k => k = Aw ∨ k = Ae) Wb) Wb (gw z) ∧ TwoR W f w9 Aw Ae (pre ++ [(c, v)]) (gw z)) := fun z hf => by
                have e1 : keys (pre ++ [(c, v)]) = keys pre ++ [c] := by simp [keys]
                have e2 : (pre ++ [(c, v)]).filter (fun y => f y.1) = pre.filter fun y => f y.1 := by rw [List.filter_append]; simp [List.filter_cons, hf]
                unfold TwoR
                rw [e1, e2]
                obtain ⟨g1, g2, g3, g4, g5, g6⟩ := HS.out
                exact ⟨HG3.out.1.trans (Kept.of_below (gw_below z)), _, _, g1.below (gw_below z), own_below g2 (gw_below z), g3.below (gw_below z), own_below g4 (gw_below z), g5, HG3.out.2.trans (Kept.of_below (gw_below z))⟩
              cases rt with
              | false =>
                have hf : Hid (f c = false) := HF.out.1 rfl c
                refine grows_round hmix (by kernel_rfl) (by kernel_rfl) ?_
                repeat (gi_big_quiet_step (fail))
                refine wpQuietIn_nil ?_
                intro wq hwq
                obtain ⟨zq, rfl⟩ := hwq
                have HD := HFin.out zq hf.out
                clear HFin q0 q1 HS HG3 HPb
                gi_wp2_with fail
                exact HD
              | true =>
                obtain ⟨hp, g1, g2, g3, rfl, g5⟩ := HF.out.2 rfl
                have hszc : (tx c).size = c.length := tx_size c
                have hszh : (tx hp).size = hp.length := tx_size hp
                have hx : (tx c).extract 0 hp.length = tx (c.take hp.length) := tx_take c hp.length
                have HG5 : Hid (∀ c, f c = decide (hp <+: c)) := g5
                clear g1 g2 g3 g5
                by_cases hpx : hp <+: c
                · have hfc : Hid (f c = true) := by rw [HG5.out c]; exact decide_eq_true hpx
                  have hx2 : (tx c).extract 0 hp.length = tx hp := by
                    rw [hx]; congr 1
                    exact (List.prefix_iff_eq_take.1 hpx).symm
                  have hle : (hp.length : Int) ≤ c.length := by have := hpx.length_le; omega
                  clear hx hpx HG5
                  generalize tx hp = th at *
                  generalize tx c = tc at *
                  refine grows_round hmix (by kernel_rfl) (by kernel_rfl) ?_
                  repeat (gi_big_quiet_step (fail))
                  refine wpQuietIn_nil ?_
                  intro wq hwq
                  obtain ⟨zq, rfl⟩ := hwq
                  have HS4 : Hid (Blk (gw zq) Ae #[.slice bx ((m1 + 1) + 1) cx] 65 ∧ (gw zq).ownsRow w9.heap.size 51 3 (.slice bx ((m1 + 1) + 1) cx) (keys pre ++ [c]).length (rowK W (keys pre ++ [c])) ∧ Blk (gw zq) Aw #[.slice ba2 n2 bc2] 65 ∧ (gw zq).ownsRow w9.heap.size 51 3 (.slice ba2 n2 bc2) (keys (pre.filter fun y => f y.1)).length (rowK W (keys (pre.filter fun y => f y.1))) ∧ (∀ k, (Value.slice ba2 n2 bc2).ownBlock = some k → (Value.slice bx ((m1 + 1) + 1) cx).ownBlock ≠ some k) ∧ Kept (Gst 51 w9.heap.size (fun k => k = Aw ∨ k = Ae) Wb) Wb (gw zq) ∧ Kept (fun k => k = Aw ∨ k = Ae) w9 (gw zq)) := by
                    obtain ⟨g1, g2, g3, g4, g5, g6⟩ := HS.out
                    exact ⟨g1.below (gw_below zq), own_below g2 (gw_below zq), g3.below (gw_below zq), own_below g4 (gw_below zq), fun k e1 e2 => g5 k e2 e1, HG3.out.1.trans (Kept.of_below (gw_below zq)), HG3.out.2.trans (Kept.of_below (gw_below zq))⟩
                  have HPb4 : Hid (Blk (gw zq) Ap #[.int .u64 (hiOf (valOf W c)), .int .u64 (loOf (valOf W c)), .int .i64 c.length] 51 ∧ w9.heap.size ≤ (gw zq).heap.size) := ⟨HPb.out.1.below (gw_below zq), Nat.le_trans HBn.out.2.2.2.2 (Nat.le_trans HPb.out.2 (gw_below zq).size)⟩
                  clear HFin q0 q1 HS HG3 HPb
                  generalize gw zq = W4 at *
                  obtain ⟨by', cy, W5, hr, fr, ce, HT⟩ := row_step (W := W) (V := W4) (K := keys (pre.filter fun y => f y.1)) (K' := keys pre ++ [c]) c HBn.out.2.2.1 HBn.out.2.2.2.1 (by have := HLT.out; omega : Aw ≠ Ae) HPb4.out.2 HS4.out.2.2.1 HS4.out.2.2.2.1 HS4.out.1 HS4.out.2.1 HS4.out.2.2.2.2.1 (by rw [hn2]; exact hbnd.out.2.1)
                  rw [hn2] at hr HT
                  have a0 := HS4.out.2.2.1.cell 0 (v := .slice ba2 n2 bc2) rfl
                  have p0 := HPb4.out.1.cell 0 (v := .int .u64 (hiOf (valOf W c))) rfl
                  have p1 := HPb4.out.1.cell 1 (v := .int .u64 (loOf (valOf W c))) rfl
                  have p2 := HPb4.out.1.cell 2 (v := .int .i64 c.length) rfl
                  have HD : Hid (Kept (Gst 51 w9.heap.size (fun k => k = Aw ∨ k = Ae) Wb) Wb (W5.setCell ⟨Aw, 0, none⟩ (.slice by' (n2 + 1) cy)) ∧ TwoR W f w9 Aw Ae (pre ++ [(c, v)]) (W5.setCell ⟨Aw, 0, none⟩ (.slice by' (n2 + 1) cy))) := by
                    have e1 : keys (pre ++ [(c, v)]) = keys pre ++ [c] := by simp [keys]
                    have e2 : (pre ++ [(c, v)]).filter (fun y => f y.1) = (pre.filter fun y => f y.1) ++ [(c, v)] := by rw [List.filter_append]; simp [List.filter_cons, hfc.out]
                    have e3 : keys ((pre.filter fun y => f y.1) ++ [(c, v)]) = keys (pre.filter fun y => f y.1) ++ [c] := by simp [keys]
                    unfold TwoR
                    rw [e1, e2, e3]
                    obtain ⟨g1, g2, g3, g4, g5, g6⟩ := HT.out
                    have hb := HS4.out.2.2.2.2.2.1
                    have hw := HS4.out.2.2.2.2.2.2
                    refine ⟨⟨g6.os.trans hb.os, g6.tape.trans hb.tape, g6.output.trans hb.output, Nat.le_trans hb.size g6.size, fun k hk' hs => ?_⟩, _, _, g3, g4, g1, g2, fun k e1 e2 => g5 k e2 e1, ⟨g6.os.trans hw.os, g6.tape.trans hw.tape, g6.output.trans hw.output, Nat.le_trans hw.size g6.size, fun k hk' hs => (g6.block k (Nat.lt_of_lt_of_le hk' hw.size) (fun e => e.elim (fun e => hs (.inl e)) (fun e => by have := (own_block HS4.out.2.2.2.1 e).1; omega))).trans (hw.block k hk' hs)⟩⟩
                    have hwb : W4.heap[k]? = Wb.heap[k]? := hb.block k hk' hs
                    refine (g6.block k (Nat.lt_of_lt_of_le hk' hb.size) (fun e => hs ?_)).trans hwb
                    rcases e with e | e
                    · exact .inl (.inl e)
                    · obtain ⟨e1, cs, fr', e2⟩ := own_block HS4.out.2.2.2.1 e
                      rw [hwb] at e2
                      exact .inr ⟨e1, cs, fr', e2⟩
                  clear HS4 HT HPb4
                  gi_wp2_with fail
                  exact HD.out
                · have hfc : Hid (f c = false) := by rw [HG5.out c]; exact decide_eq_false hpx
                  by_cases hle : hp.length ≤ c.length
                  · have hle' : (hp.length : Int) ≤ c.length := by omega
                    obtain ⟨rr, hrr⟩ : ∃ rr, tx (c.take hp.length) = rr := ⟨_, rfl⟩
                    have hne : ¬ rr = tx hp := fun e => hpx (by rw [← hrr] at e; have := tx_inj e; rw [← this]; exact List.take_prefix _ _)
                    obtain ⟨ne1, ne2, ne3, ne4⟩ := bytes_ne hne
                    rw [hrr] at hx
                    clear hpx HG5 hrr
                    generalize tx hp = th at *
                    generalize tx c = tc at *
                    refine grows_round hmix (by kernel_rfl) (by kernel_rfl) ?_
                    repeat (gi_big_quiet_step (fail))
                    refine wpQuietIn_nil ?_
                    intro wq hwq
                    obtain ⟨zq, rfl⟩ := hwq
                    have HD := HFin.out zq hfc.out
                    clear HFin q0 q1 HS HG3 HPb
                    gi_wp2_with fail
                    exact HD
                  · have hle' : ¬ (hp.length : Int) ≤ c.length := by omega
                    have hle2 : decide ((hp.length : Int) ≤ c.length) = false := decide_eq_false hle'
                    clear hpx HG5 hx
                    generalize tx hp = th at *
                    generalize tx c = tc at *
                    refine grows_round hmix (by kernel_rfl) (by kernel_rfl) ?_
                    repeat (gi_big_quiet_step (fail))
                    refine wpQuietIn_nil ?_
                    intro wq hwq
                    obtain ⟨zq, rfl⟩ := hwq
                    have HD := HFin.out zq hfc.out
                    clear HFin q0 q1 HS HG3 HPb
                    gi_wp2_with fail
                    exact HD
          case done =>
            rintro W' ⟨s1, s2, b1, o1, b2, o2, hdj, hK⟩ hks hD'
            obtain ⟨ba1, bc1, rfl⟩ := ownsRow_slice o1
            obtain ⟨ba2, bc2, rfl⟩ := ownsRow_slice o2
            have hl9 : w9.heap.size < W'.heap.size := (Array.getElem?_eq_some_iff.1 hD').1
            have hlt := HLT.out
            have hqs := HQ.out
            have hqc := HQ'.out
            have kp : ∀ {b : Nat} {cs : Array Value} {t : TypeId}, Blk w9 b cs t → t ≠ 65 → Blk W' b cs t := fun {b cs t} h ht => h.kept hK (fun e => ht (by
              have e6 := HZ.out.2.2.2.2.2.2.1
              have e7 := HZ.out.2.2.2.2.2.2.2
              unfold Blk at h e6 e7
              rcases e with e | e
              · rw [e] at h; rw [e6] at h; cases h; rfl
              · rw [e] at h; rw [e7] at h; cases h; rfl))
            have hT' : TrieAt W' q W 4096 a n N := hT9.kept' hK (fun e => by rcases e with e | e <;> omega) hoff
            obtain ⟨n1, hn1⟩ : ∃ n1, (keys (kept N)).length = n1 := ⟨_, rfl⟩
            obtain ⟨n2, hn2⟩ : ∃ n2, (keys ((kept N).filter fun y => f y.1)).length = n2 := ⟨_, rfl⟩
            rw [hn1] at b1 o1
            rw [hn2] at b2 o2
            have hbnd : Hid (n1 ≤ 2000 ∧ n2 ≤ 2000 ∧ n1 = (kept N).length) := by
              have g1 := HH.out.2.2.2.2.2.2
              have g2 : (keys ((kept N).filter fun y => f y.1)).length ≤ (kept N).length := by rw [List.length_map]; exact List.length_filter_le _ _
              have g3 : (keys (kept N)).length = (kept N).length := by rw [List.length_map]
              rw [hn2] at g2
              rw [hn1] at g3
              exact (by omega : n1 ≤ 2000 ∧ n2 ≤ 2000 ∧ n1 = (kept N).length)
            have HN := one_new W' #[.int .i64 0] 3
            have hb10 := HN.2.1
            gi_upto_region 30 with fail
            generalize (W'.alloc _) = w10 at HN hb10 ⊢
            have hseq2 : TellsG 51 Try.prog 48 #[.pointer (some ⟨D2, 0, none⟩), .pointer (some ⟨E2, 0, none⟩)] (fun y : List Bool × Int => #[Pf (valOf W y.1) y.1.length, .int .i64 y.2]) ((kept N).filter fun y => f y.1) (fun k => k = W'.heap.size) w10 := by
              have hT10 := hT'.below hb10
              have hd := (kp HZ.out.2.2.2.2.1.1 (by decide)).below hb10
              have he := (kp HZ.out.2.2.2.2.1.2 (by decide)).below hb10
              cases rt with
              | false =>
                have e : (kept N).filter (fun y => f y.1) = [] := by
                  rw [List.filter_eq_nil_iff]
                  intro y _ e
                  rw [HF.out.1 rfl y.1] at e
                  cases e
                rw [e]
                exact under_tells_bad 51 _ hT10 a0 HOK.out.1 l0 HRT.out D2 E2 hd he _
              | true =>
                obtain ⟨hp, g1, g2, g3, _, g5⟩ := HF.out.2 rfl
                have e : (kept N).filter (fun y => f y.1) = kept (undN hp N) := by
                  rw [kept_und]
                  congr 1
                  funext y
                  exact g5 y.1
                rw [e]
                rw [g2, g3] at he
                refine under_tellsG 51 (by decide) (by decide) hT10 g1 D2 E2 hd he _ (fun k e => by have e' : k = W'.heap.size := e; rw [e']; exact HN.1.lt) (hT'.hang.off_new fun k e => by have e' : k = W'.heap.size := e; omega)
            have HA : Hid (Blk w10 W'.heap.size #[.int .i64 0] 3 ∧ (Blk w10 Ae #[.slice ba1 n1 bc1] 65 ∧ w10.ownsRow w9.heap.size 51 3 (.slice ba1 n1 bc1) n1 (rowK W (keys (kept N)))) ∧ (Blk w10 Aw #[.slice ba2 n2 bc2] 65 ∧ w10.ownsRow w9.heap.size 51 3 (.slice ba2 n2 bc2) n2 (rowK W (keys ((kept N).filter fun y => f y.1)))) ∧ TrieAt w10 q W 4096 a n N ∧ Blk w10 A2 #[.bool false] 4 ∧ Blk w10 A3 #[.pointer (some ⟨q, 0, none⟩)] 24 ∧ (Blk w10 D3 #[.pointer (some ⟨q, 0, none⟩)] 24 ∧ Blk w10 E3 #[.int .u64 (hiOf (valOf W [])), .int .u64 (loOf (valOf W [])), .int .i64 (([] : List Bool).length : Nat)] 51) ∧ w10.heap[w9.heap.size]? = some (.deferred (some [])) ∧ Below w.heap.size w w10) := by
              have hb9 : Below w.heap.size w W' := (bst HH.out.2.2.2.2.2.1 HZ.out.1).trans (hK.below (by have := HZ.out.1.size; omega) (fun k e => by rcases e with e | e <;> omega))
              exact ⟨HN.1, ⟨b1.below hb10, own_below o1 hb10⟩, ⟨b2.below hb10, own_below o2 hb10⟩, hT'.below hb10, (kp (HH.out.2.2.2.1.below HZ.out.1) (by decide)).below hb10, (kp (HH.out.2.2.2.2.1.below HZ.out.1) (by decide)).below hb10, ⟨(kp HZ.out.2.2.2.2.2.1.1 (by decide)).below hb10, (kp HZ.out.2.2.2.2.2.1.2 (by decide)).below hb10⟩, (hb10.block _ hl9).trans hD', bst hb9 hb10⟩
            have HB10 : Hid (w9.heap.size < W'.heap.size ∧ Aw < w9.heap.size ∧ Ae < w9.heap.size ∧ A2 < Aw ∧ A3 < Aw ∧ q < Aw ∧ w.heap.size ≤ A2) := by
              have e6 := HZ.out.2.2.2.2.2.2.1.lt
              have e7 := HZ.out.2.2.2.2.2.2.2.lt
              exact (by omega : w9.heap.size < W'.heap.size ∧ Aw < w9.heap.size ∧ Ae < w9.heap.size ∧ A2 < Aw ∧ A3 < Aw ∧ q < Aw ∧ w.heap.size ≤ A2)
            have hAn := HN.1.lt
            have HOff : Hid (Off (fun k => k = W'.heap.size) N ∧ ∀ x ∈ N, x.blk < Aw ∧ ∀ t v, x.th = some (t, v) → t < Aw) := ⟨hT'.hang.off_new fun k e => by have e' : k = W'.heap.size := e; omega, fun x hx => by
              have g1 := HH.out.1.hang.blks x hx
              exact ⟨by have := g1.1; omega, fun t v ht => by have := g1.2 t v ht; omega⟩⟩
            clear b1 o1 b2 o2 hdj hK hks hD' kp hT' HN hb10 hT9 hseq hS9 hoff HD9 hl9 hlt hqs hqc
            generalize W'.heap.size = An at *
            gi_wp2_with fail
            refine rangeG_outer (gt := 51) (gf := 48) (lb := #[.pointer (some ⟨D2, 0, none⟩), .pointer (some ⟨E2, 0, none⟩)]) (encs := fun y : List Bool × Int => #[Pf (valOf W y.1) y.1.length, .int .i64 y.2]) (xs := (kept N).filter fun y => f y.1) (S := fun k => k = An) rfl (enters_of Try.func48 (by kernel_rfl) rfl)
              (fun k e => by have e' : k = An := e; omega) hseq2 (Below.refl _ _) (fun _ => rfl)
              (Cnt w10 An) (fun c pre W' => False) (cnt_low hAn) (fun c => (low_pure _ _).g)
              ⟨HA.out.1, Kept.refl _ _⟩ ?round ?done ?stop
            case stop =>
              rintro c pre W' _ hf
              exact hf.elim
            case round =>
              rintro l' pre x W' K hl' ⟨rl, hlp⟩ hz hpre ⟨b0, hK⟩ hKK
              obtain ⟨c, v⟩ := x
              have hcF : (c, v) ∈ (kept N).filter fun y => f y.1 := hpre.subset (by simp)
              have hcM : (c, v) ∈ kept N := (List.mem_filter.1 hcF).1
              have hc : c.length ≤ W := HLens.out _ hcM
              have hcnt : pre.length + 1 ≤ n2 := by
                have g1 := hpre.length_le
                rw [List.length_append, List.length_singleton] at g1
                have g2 := hn2
                rw [List.length_map] at g2
                omega
              have hkey : (keys ((kept N).filter fun y => f y.1))[pre.length]? = some c := by
                obtain ⟨t, ht⟩ := hpre
                rw [← ht]
                simp [keys]
              have hlp' := (Array.getElem?_eq_some_iff.1 hlp).1
              have HN := one_new W' #[.int .u64 (hiOf (valOf W c)), .int .u64 (loOf (valOf W c)), .int .i64 c.length] 51
              simp only [List.zip_toArray, List.zip_cons_cons, List.zip_nil_right, List.foldl_toArray', List.foldl_toArray, List.foldl_cons, List.foldl_nil, List.setIfInBounds_toArray, List.set_cons_succ, List.set_cons_zero]
              gi_wp2_with fail
              refine hKK _ _ (Kept.of_below HN.2.1) ?_
              intro Wb hkb hrec
              have hKW : Kept (fun k => k = l') W' Wb := (Kept.of_below HN.2.1).trans hkb
              have hKb : Kept (fun k => k = An) w10 Wb := ⟨hKW.os.trans hK.os, hKW.tape.trans hK.tape, hKW.output.trans hK.output, Nat.le_trans hK.size hKW.size, fun k hk hs => (hKW.block k (Nat.lt_of_lt_of_le hk hK.size) (fun e => by have e' : k = l' := e; omega)).trans (hK.block k hk hs)⟩
              have hbs := HB10.out
              obtain ⟨g, hba, hnb, hrow⟩ := row_at HA.out.2.2.1.2 hn2 (by omega)
              have hr0 := hrow pre.length c hkey
              have HE : Hid (Blk Wb An #[.int .i64 pre.length] 3 ∧ Blk Wb W'.heap.size #[.int .u64 (hiOf (valOf W c)), .int .u64 (loOf (valOf W c)), .int .i64 c.length] 51 ∧ Kept (fun k => k = An) w10 Wb ∧ Blk Wb Aw #[.slice (some ⟨g, 0, none⟩) n2 bc2] 65 ∧ (Wb.cell? ⟨g, pre.length * 3, none⟩ = some (.int .u64 (hiOf (valOf W c))) ∧ Wb.cell? ⟨g, pre.length * 3 + 1, none⟩ = some (.int .u64 (loOf (valOf W c))) ∧ Wb.cell? ⟨g, pre.length * 3 + 2, none⟩ = some (.int .i64 c.length))) := by
                have gne : (Value.slice ba2 n2 bc2).ownBlock = some g → g = An → False := fun h1 e => by
                  obtain ⟨_, cs9, f9, h2⟩ := own_block HA.out.2.2.1.2 h1
                  have h3 := HA.out.1
                  unfold Blk at h3
                  rw [e, h3] at h2
                  cases h2
                have hgl : ∀ {i : Nat} {u : Value}, w10.cell? ⟨g, i, none⟩ = some u → Wb.cell? ⟨g, i, none⟩ = some u := fun {i u} h => (World.cell?_of_block (hKb.block g (World.block_lt_of_cell? w10 _ h) (fun e => gne (by rw [hba]; simp [Value.ownBlock]) e))).trans h
                refine ⟨(b0.below HN.2.1).kept hkb (by show ¬ _ = _; omega), HN.1.kept hkb (by show ¬ _ = _; omega), hKb, ?_, hgl hr0.1, hgl hr0.2.1, hgl hr0.2.2⟩
                have := HA.out.2.2.1.1
                rw [hba] at this
                exact this.kept hKb (by show ¬ _ = _; omega)
              have HIn : Hid (w10.heap.size ≤ Wb.heap.size ∧ An < w10.heap.size) := ⟨hKb.size, hAn⟩
              have hge : ¬ ((n2 : Nat) : Int) ≤ (pre.length : Int) := by omega
              have hge2 : decide (((n2 : Nat) : Int) ≤ (pre.length : Int)) = false := decide_eq_false hge
              have hlt2 : (pre.length : Int) < ((n2 : Nat) : Int) := by omega
              have hgn : ¬ n2 ≤ pre.length := by omega
              have hgn2 : decide (n2 ≤ pre.length) = false := decide_eq_false hgn
              have hgn3 : pre.length < n2 := by omega
              have hsm : pre.length + 1 ≤ 2000 := by have := hbnd.out; omega
              have NE := neK (W := W) hc
              generalize hAp : W'.heap.size = Ap at *
              clear b0 hK hKK hkb hrec hKW hKb HN hcnt hpre hz hl' hlp hlp' hrow hr0 hnb hkey hcF rl hAp
              subst hba
              have C28 : Hid (∀ (j mm : Nat) V, Kept (fun k => k = An) w10 V → CallsIn (Fence.wide.inRound j) mm Try.prog 28 #[.pointer (some ⟨q, 0, none⟩), Pf (valOf W c) c.length] V fun e w' => e = .returned (.tuple #[.int .i64 v, .bool true]) ∧ Below V.heap.size V w') := fun j mm V hV => CallsIn.inRound j (callsIn_wide.2 (by
                have := get_yes (HA.out.2.2.2.1.kept' hV (fun e => by have := HB10.out; have e' : q = An := e; omega) HOff.out.1) hc
                rw [look_mem HSN.out hcM] at this
                exact this))
              have t0 := ((HA.out.2.2.2.2.2.1).kept HE.out.2.2.1 (by have := HB10.out; show ¬ _ = _; omega)).cell 0 (v := .pointer (some ⟨q, 0, none⟩)) rfl
              have p0 := HE.out.2.1.cell 0 (v := .int .u64 (hiOf (valOf W c))) rfl
              have p1 := HE.out.2.1.cell 1 (v := .int .u64 (loOf (valOf W c))) rfl
              have p2 := HE.out.2.1.cell 2 (v := .int .i64 c.length) rfl
              clear hcM hc
              gi_wp2_with fail
              refine ⟨trivial, no_depth _, ?_⟩
              refine (C28.out _ _ _ HE.out.2.2.1).mono ?_
              rintro e Wc ⟨rfl, Hc⟩
              clear t0 p0 p1 p2 C28
              have HE2 : Hid (Blk Wc An #[.int .i64 pre.length] 3 ∧ Blk Wc Ap #[.int .u64 (hiOf (valOf W c)), .int .u64 (loOf (valOf W c)), .int .i64 c.length] 51 ∧ Kept (fun k => k = An) w10 Wc ∧ Blk Wc Aw #[.slice (some ⟨g, 0, none⟩) n2 bc2] 65 ∧ (Wc.cell? ⟨g, pre.length * 3, none⟩ = some (.int .u64 (hiOf (valOf W c))) ∧ Wc.cell? ⟨g, pre.length * 3 + 1, none⟩ = some (.int .u64 (loOf (valOf W c))) ∧ Wc.cell? ⟨g, pre.length * 3 + 2, none⟩ = some (.int .i64 c.length)) ∧ Below Wb.heap.size Wb Wc) := by
                have hgl : ∀ {i : Nat} {u : Value}, Wb.cell? ⟨g, i, none⟩ = some u → Wc.cell? ⟨g, i, none⟩ = some u := fun {i u} h => (World.cell?_of_block (Hc.block g (World.block_lt_of_cell? Wb _ h))).trans h
                obtain ⟨g1, g2, g3, g4, g5, g6, g7⟩ := HE.out
                exact ⟨g1.below Hc, g2.below Hc, g3.trans (Kept.of_below Hc), g4.below Hc, ⟨hgl g5, hgl g6, hgl g7⟩, Hc⟩
              clear Hc HE
              have n0 := gw_cell (HE2.out.1.cell 0 (v := .int .i64 pre.length) rfl)
              have p0 := gw_cell (HE2.out.2.1.cell 0 (v := .int .u64 (hiOf (valOf W c))) rfl)
              have p1 := gw_cell (HE2.out.2.1.cell 1 (v := .int .u64 (loOf (valOf W c))) rfl)
              have p2 := gw_cell (HE2.out.2.1.cell 2 (v := .int .i64 c.length) rfl)
              have s0 := gw_cell (HE2.out.2.2.2.1.cell 0 (v := .slice (some ⟨g, 0, none⟩) n2 bc2) rfl)
              have r0 := gw_cell HE2.out.2.2.2.2.1.1
              have r1 := gw_cell HE2.out.2.2.2.2.1.2.1
              have r2 := gw_cell HE2.out.2.2.2.2.1.2.2
              gi_upto_region 34 with fail
              refine grows_round hmix (by kernel_rfl) (by kernel_rfl) ?_
              repeat (gi_big_quiet_step (fail))
              refine wpQuietIn_nil ?_
              intro wq hwq
              obtain ⟨zq, rfl⟩ := hwq
              have HN5 : Hid (Blk (gw zq) An #[.int .i64 pre.length] 3 ∧ Kept (fun k => k = An) w10 (gw zq) ∧ Below Wb.heap.size Wb (gw zq)) := ⟨HE2.out.1.below (gw_below zq), HE2.out.2.2.1.trans (Kept.of_below (gw_below zq)), bst HE2.out.2.2.2.2.2 (gw_below zq)⟩
              clear n0 p0 p1 p2 s0 r0 r1 r2 NE hge hge2 HE2 hlt2 hgn hgn2 hgn3
              generalize gw zq = W5 at *
              have n0 := HN5.out.1.cell 0 (v := .int .i64 pre.length) rfl
              have f0 := HN5.out.1.frozen 0
              gi_wp2_with fail
              have e1 : (pre ++ [(c, v)]).length = pre.length + 1 := by simp
              have k5 : Kept (fun k => k = An) W5 (W5.setCell ⟨An, 0, none⟩ (.int .i64 ((pre.length : Int) + 1))) := (Kept.refl (fun k => k = An) W5).set (p := ⟨An, 0, none⟩) rfl _
              refine ⟨(Kept.of_below HN5.out.2.2).trans (k5.mono fun k _ e => .inl e), ?_, HN5.out.2.1.trans k5⟩
              have := HN5.out.1.set 0 (.int .i64 ((pre.length : Int) + 1))
              rw [e1]
              exact this
            case done =>
              rintro W' ⟨b0, hK⟩ hks hD'
              have hl10 : w10.heap.size < W'.heap.size := (Array.getElem?_eq_some_iff.1 hD').1
              have hbs := HB10.out
              have hM2 : ((kept N).filter fun y => f y.1).length = n2 := by
                have := hn2
                rw [List.length_map] at this
                exact this
              rw [hM2] at b0
              have HN := one_new W' #[.int .i64 0] 3
              have hb11 := HN.2.1
              gi_upto_region 38 with fail
              generalize (W'.alloc _) = w11 at HN hb11 ⊢
              have hAn10 := hAn
              have HA2 : Hid (Blk w11 W'.heap.size #[.int .i64 0] 3 ∧ (Blk w11 Ae #[.slice ba1 n1 bc1] 65 ∧ w11.ownsRow w9.heap.size 51 3 (.slice ba1 n1 bc1) n1 (rowK W (keys (kept N)))) ∧ (Blk w11 Aw #[.slice ba2 n2 bc2] 65) ∧ TrieAt w11 q W 4096 a n N ∧ Blk w11 A2 #[.bool false] 4 ∧ Blk w11 An #[.int .i64 n2] 3 ∧ (Blk w11 D3 #[.pointer (some ⟨q, 0, none⟩)] 24 ∧ Blk w11 E3 #[.int .u64 (hiOf (valOf W [])), .int .u64 (loOf (valOf W [])), .int .i64 (([] : List Bool).length : Nat)] 51) ∧ (w11.heap[w9.heap.size]? = some (.deferred (some [])) ∧ w11.heap[w10.heap.size]? = some (.deferred (some []))) ∧ Below w.heap.size w w11 ∧ Blk w11 A3 #[.pointer (some ⟨q, 0, none⟩)] 24) := by
                obtain ⟨h0, ⟨h1, h2⟩, ⟨h3, h4⟩, h5, h6, h7, ⟨h8, h9⟩, h10, h11⟩ := HA.out
                have kp : ∀ {b : Nat} {cs : Array Value} {t : TypeId}, Blk w10 b cs t → t ≠ 3 → Blk W' b cs t := fun {b cs t} h ht => h.kept hK (fun e => ht (by
                  have e' : b = An := e
                  unfold Blk at h h0
                  rw [e', h0] at h
                  cases h; rfl))
                have hbW : Below w.heap.size w W' := h11.trans (hK.below h11.size (fun k e => by have e' : k = An := e; omega))
                refine ⟨HN.1, ⟨(kp h1 (by decide)).below hb11, own_below (ownsRow_kept h2 hK fun k hk e => ?_) hb11⟩, (kp h3 (by decide)).below hb11, (h5.kept' hK (fun e => by have e' : q = An := e; omega) HOff.out.1).below hb11, (kp h6 (by decide)).below hb11, b0.below hb11, ⟨(kp h8 (by decide)).below hb11, (kp h9 (by decide)).below hb11⟩, ⟨?_, (hb11.block _ hl10).trans hD'⟩, bst hbW hb11, (kp h7 (by decide)).below hb11⟩
                · have e' : k = An := e
                  obtain ⟨_, cs9, f9, g2⟩ := own_block h2 hk
                  have h3 := h0
                  unfold Blk at h3
                  rw [e', h3] at g2
                  cases g2
                · have hlt9 := (Array.getElem?_eq_some_iff.1 h10).1
                  exact (hb11.block _ (Nat.lt_of_lt_of_le hlt9 hK.size)).trans ((hK.block _ hlt9 (by show ¬ _ = _; omega)).trans h10)
              have hAk := HN.1.lt
              have HOff2 : Hid (Off (fun k => k = W'.heap.size) N) := HA.out.2.2.2.1.hang.off_new fun k e => by have e' : k = W'.heap.size := e; omega
              have HB11 : Hid (An < w10.heap.size ∧ w10.heap.size < W'.heap.size ∧ w9.heap.size < w10.heap.size) := ⟨hAn10, hl10, (Array.getElem?_eq_some_iff.1 HA.out.2.2.2.2.2.2.2.1).1⟩
              have hseq3 := under_tellsG 51 (by decide) (by decide) HA2.out.2.2.2.1 (p := []) (Nat.zero_le _) D3 E3 HA2.out.2.2.2.2.2.2.1.1 HA2.out.2.2.2.2.2.2.1.2 (fun k => k = W'.heap.size) (fun k e => by have e' : k = W'.heap.size := e; rw [e']; exact hAk) HOff2.out
              rw [und_nil] at hseq3
              clear b0 hK hks hD' HN hb11 HA hseq2 hAn10 hl10 hbs hM2
              generalize W'.heap.size = Ak at *
              gi_wp2_with fail
              refine rangeG_outer (gt := 51) (gf := 48) (lb := #[.pointer (some ⟨D3, 0, none⟩), .pointer (some ⟨E3, 0, none⟩)]) (encs := fun y : List Bool × Int => #[Pf (valOf W y.1) y.1.length, .int .i64 y.2]) (xs := kept N) (S := fun k => k = Ak) rfl (enters_of Try.func48 (by kernel_rfl) rfl)
                (fun k e => by have e' : k = Ak := e; omega) hseq3 (Below.refl _ _) (fun _ => rfl)
                (Cnt w11 Ak) (fun c pre W' => False) (cnt_low hAk) (fun c => (low_pure _ _).g)
                ⟨HA2.out.1, Kept.refl _ _⟩ ?round ?done ?stop
              case stop =>
                rintro c pre W' _ hf
                exact hf.elim
              case round =>
                rintro l' pre x W' K hl' ⟨rl, hlp⟩ hz hpre ⟨b0, hK⟩ hKK
                obtain ⟨c, v⟩ := x
                have hcF : (c, v) ∈ kept N := hpre.subset (by simp)
                have hcM : (c, v) ∈ kept N := hcF
                have hc : c.length ≤ W := HLens.out _ hcM
                have hcnt : pre.length + 1 ≤ n1 := by
                  have g1 := hpre.length_le
                  rw [List.length_append, List.length_singleton] at g1
                  have g2 := hn1
                  rw [List.length_map] at g2
                  omega
                have hkey : (keys (kept N))[pre.length]? = some c := by
                  obtain ⟨t, ht⟩ := hpre
                  rw [← ht]
                  simp [keys]
                have hlp' := (Array.getElem?_eq_some_iff.1 hlp).1
                have HN := one_new W' #[.int .u64 (hiOf (valOf W c)), .int .u64 (loOf (valOf W c)), .int .i64 c.length] 51
                simp only [List.zip_toArray, List.zip_cons_cons, List.zip_nil_right, List.foldl_toArray', List.foldl_toArray, List.foldl_cons, List.foldl_nil, List.setIfInBounds_toArray, List.set_cons_succ, List.set_cons_zero]
                gi_wp2_with fail
                refine hKK _ _ (Kept.of_below HN.2.1) ?_
                intro Wb hkb hrec
                have hKW : Kept (fun k => k = l') W' Wb := (Kept.of_below HN.2.1).trans hkb
                have hKb : Kept (fun k => k = Ak) w11 Wb := ⟨hKW.os.trans hK.os, hKW.tape.trans hK.tape, hKW.output.trans hK.output, Nat.le_trans hK.size hKW.size, fun k hk hs => (hKW.block k (Nat.lt_of_lt_of_le hk hK.size) (fun e => by have e' : k = l' := e; omega)).trans (hK.block k hk hs)⟩
                have hbs := HB10.out
                have hbs2 := HB11.out
                obtain ⟨g, hba, hnb, hrow⟩ := row_at HA2.out.2.1.2 hn1 (by omega)
                have hr0 := hrow pre.length c hkey
                have HE : Hid (Blk Wb Ak #[.int .i64 pre.length] 3 ∧ Blk Wb W'.heap.size #[.int .u64 (hiOf (valOf W c)), .int .u64 (loOf (valOf W c)), .int .i64 c.length] 51 ∧ Kept (fun k => k = Ak) w11 Wb ∧ Blk Wb Ae #[.slice (some ⟨g, 0, none⟩) n1 bc1] 65 ∧ (Wb.cell? ⟨g, pre.length * 3, none⟩ = some (.int .u64 (hiOf (valOf W c))) ∧ Wb.cell? ⟨g, pre.length * 3 + 1, none⟩ = some (.int .u64 (loOf (valOf W c))) ∧ Wb.cell? ⟨g, pre.length * 3 + 2, none⟩ = some (.int .i64 c.length))) := by
                  have gne : (Value.slice ba1 n1 bc1).ownBlock = some g → g = Ak → False := fun h1 e => by
                    obtain ⟨_, cs9, f9, h2⟩ := own_block HA2.out.2.1.2 h1
                    have h3 := HA2.out.1
                    unfold Blk at h3
                    rw [e, h3] at h2
                    cases h2
                  have hgl : ∀ {i : Nat} {u : Value}, w11.cell? ⟨g, i, none⟩ = some u → Wb.cell? ⟨g, i, none⟩ = some u := fun {i u} h => (World.cell?_of_block (hKb.block g (World.block_lt_of_cell? w11 _ h) (fun e => gne (by rw [hba]; simp [Value.ownBlock]) e))).trans h
                  refine ⟨(b0.below HN.2.1).kept hkb (by show ¬ _ = _; omega), HN.1.kept hkb (by show ¬ _ = _; omega), hKb, ?_, hgl hr0.1, hgl hr0.2.1, hgl hr0.2.2⟩
                  have := HA2.out.2.1.1
                  rw [hba] at this
                  exact this.kept hKb (by show ¬ _ = _; omega)
                have HIn : Hid (w11.heap.size ≤ Wb.heap.size ∧ Ak < w11.heap.size) := ⟨hKb.size, hAk⟩
                have hge : ¬ ((n1 : Nat) : Int) ≤ (pre.length : Int) := by omega
                have hge2 : decide (((n1 : Nat) : Int) ≤ (pre.length : Int)) = false := decide_eq_false hge
                have hlt2 : (pre.length : Int) < ((n1 : Nat) : Int) := by omega
                have hgn : ¬ n1 ≤ pre.length := by omega
                have hgn2 : decide (n1 ≤ pre.length) = false := decide_eq_false hgn
                have hgn3 : pre.length < n1 := by omega
                have hsm : pre.length + 1 ≤ 2000 := by have := hbnd.out; omega
                have NE := neK (W := W) hc
                generalize hAp : W'.heap.size = Ap at *
                clear hbs2 b0 hK hKK hkb hrec hKW hKb HN hcnt hpre hz hl' hlp hlp' hrow hr0 hnb hkey hcF rl hAp
                subst hba
                clear hcM hc
                have HE2 : Hid (Blk Wb Ak #[.int .i64 pre.length] 3 ∧ Blk Wb Ap #[.int .u64 (hiOf (valOf W c)), .int .u64 (loOf (valOf W c)), .int .i64 c.length] 51 ∧ Kept (fun k => k = Ak) w11 Wb ∧ Blk Wb Ae #[.slice (some ⟨g, 0, none⟩) n1 bc1] 65 ∧ (Wb.cell? ⟨g, pre.length * 3, none⟩ = some (.int .u64 (hiOf (valOf W c))) ∧ Wb.cell? ⟨g, pre.length * 3 + 1, none⟩ = some (.int .u64 (loOf (valOf W c))) ∧ Wb.cell? ⟨g, pre.length * 3 + 2, none⟩ = some (.int .i64 c.length)) ∧ Below Wb.heap.size Wb Wb) := by
                  obtain ⟨g1, g2, g3, g4, g5, g6, g7⟩ := HE.out
                  exact ⟨g1, g2, g3, g4, ⟨g5, g6, g7⟩, Below.refl _ _⟩
                clear HE
                have n0 := gw_cell (HE2.out.1.cell 0 (v := .int .i64 pre.length) rfl)
                have p0 := gw_cell (HE2.out.2.1.cell 0 (v := .int .u64 (hiOf (valOf W c))) rfl)
                have p1 := gw_cell (HE2.out.2.1.cell 1 (v := .int .u64 (loOf (valOf W c))) rfl)
                have p2 := gw_cell (HE2.out.2.1.cell 2 (v := .int .i64 c.length) rfl)
                have s0 := gw_cell (HE2.out.2.2.2.1.cell 0 (v := .slice (some ⟨g, 0, none⟩) n1 bc1) rfl)
                have r0 := gw_cell HE2.out.2.2.2.2.1.1
                have r1 := gw_cell HE2.out.2.2.2.2.1.2.1
                have r2 := gw_cell HE2.out.2.2.2.2.1.2.2
                gi_upto_region 40 with fail
                refine grows_round hmix (by kernel_rfl) (by kernel_rfl) ?_
                repeat (gi_big_quiet_step (fail))
                refine wpQuietIn_nil ?_
                intro wq hwq
                obtain ⟨zq, rfl⟩ := hwq
                have HN5 : Hid (Blk (gw zq) Ak #[.int .i64 pre.length] 3 ∧ Kept (fun k => k = Ak) w11 (gw zq) ∧ Below Wb.heap.size Wb (gw zq)) := ⟨HE2.out.1.below (gw_below zq), HE2.out.2.2.1.trans (Kept.of_below (gw_below zq)), bst HE2.out.2.2.2.2.2 (gw_below zq)⟩
                clear n0 p0 p1 p2 s0 r0 r1 r2 NE hge hge2 HE2 hlt2 hgn hgn2 hgn3
                generalize gw zq = W5 at *
                have n0 := HN5.out.1.cell 0 (v := .int .i64 pre.length) rfl
                have f0 := HN5.out.1.frozen 0
                gi_wp2_with fail
                have e1 : (pre ++ [(c, v)]).length = pre.length + 1 := by simp
                have k5 : Kept (fun k => k = Ak) W5 (W5.setCell ⟨Ak, 0, none⟩ (.int .i64 ((pre.length : Int) + 1))) := (Kept.refl (fun k => k = Ak) W5).set (p := ⟨Ak, 0, none⟩) rfl _
                refine ⟨(Kept.of_below HN5.out.2.2).trans (k5.mono fun k _ e => .inl e), ?_, HN5.out.2.1.trans k5⟩
                have := HN5.out.1.set 0 (.int .i64 ((pre.length : Int) + 1))
                rw [e1]
                exact this
              case done =>
                rintro W' ⟨b0, hK⟩ hks hD'
                have hbs := HB10.out
                have hbs2 := HB11.out
                have hl11 : w11.heap.size < W'.heap.size := (Array.getElem?_eq_some_iff.1 hD').1
                have hM : (kept N).length = n1 := hbnd.out.2.2.symm
                rw [hM] at b0
                have HZ3 : Hid (Blk W' Ak #[.int .i64 n1] 3 ∧ Blk W' An #[.int .i64 n2] 3 ∧ Blk W' Ae #[.slice ba1 n1 bc1] 65 ∧ Blk W' Aw #[.slice ba2 n2 bc2] 65 ∧ Blk W' A2 #[.bool false] 4 ∧ Blk W' A3 #[.pointer (some ⟨q, 0, none⟩)] 24 ∧ TrieAt W' q W 4096 a n N ∧ (W'.heap[w9.heap.size]? = some (.deferred (some [])) ∧ W'.heap[w10.heap.size]? = some (.deferred (some [])) ∧ W'.heap[w11.heap.size]? = some (.deferred (some []))) ∧ Below w.heap.size w W') := by
                  obtain ⟨h0, ⟨h1, h2⟩, h3, h5, h6, h7, ⟨h8, h9⟩, ⟨h10, h10'⟩, h11, h12⟩ := HA2.out
                  have hlt9 := (Array.getElem?_eq_some_iff.1 h10).1
                  have hlt10 := (Array.getElem?_eq_some_iff.1 h10').1
                  exact ⟨b0, h7.kept hK (by show ¬ _ = _; omega), h1.kept hK (by show ¬ _ = _; omega), h3.kept hK (by show ¬ _ = _; omega), h6.kept hK (by show ¬ _ = _; omega), h12.kept hK (by show ¬ _ = _; omega), h5.kept' hK (fun e => by have e' : q = Ak := e; omega) HOff2.out, ⟨(hK.block _ hlt9 (by show ¬ _ = _; omega)).trans h10, (hK.block _ hlt10 (by show ¬ _ = _; omega)).trans h10', hD'⟩, h11.trans (hK.below h11.size (fun k e => by have e' : k = Ak := e; omega))⟩
                have HLs : Hid (w9.heap.size < w10.heap.size ∧ w10.heap.size < w11.heap.size ∧ A2 < w9.heap.size ∧ w.heap.size ≤ A2 ∧ w.heap.size ≤ w9.heap.size) := by
                  have := (Array.getElem?_eq_some_iff.1 HA2.out.2.2.2.2.2.2.2.1.2).1
                  exact (by omega : w9.heap.size < w10.heap.size ∧ w10.heap.size < w11.heap.size ∧ A2 < w9.heap.size ∧ w.heap.size ≤ A2 ∧ w.heap.size ≤ w9.heap.size)
                have C37 : Hid (∀ (mm : Nat) (z : Grown W'), CallsIn Fence.wide mm Try.prog 37 #[.pointer (some ⟨q, 0, none⟩)] (gw z) fun e w' => e = .returned (.int .i64 n1) ∧ Below (gw z).heap.size (gw z) w') := fun mm z => callsIn_wide.2 ((len_any (HZ3.out.2.2.2.2.2.2.1.below (gw_below z))).mono (by
                  rintro e w' ⟨rfl, rfl⟩
                  rw [hM]
                  exact ⟨rfl, Below.refl _ _⟩))
                have k0 := gw_cell (HZ3.out.1.cell 0 (v := .int .i64 n1) rfl)
                have k1 := gw_cell (HZ3.out.2.1.cell 0 (v := .int .i64 n2) rfl)
                have k2 := gw_cell (HZ3.out.2.2.1.cell 0 (v := .slice ba1 n1 bc1) rfl)
                have k3 := gw_cell (HZ3.out.2.2.2.1.cell 0 (v := .slice ba2 n2 bc2) rfl)
                have k4 := gw_cell (HZ3.out.2.2.2.2.2.1.cell 0 (v := .pointer (some ⟨q, 0, none⟩)) rfl)
                clear b0 hK hks hD' HA2 hseq3 hbs hbs2 hl11 hM
                gi_upto_region 43 with fail
                refine gate_wide 16 hmix (by kernel_rfl) (by kernel_rfl) (by kernel_rfl) ?_
                simp only [List.take_succ_cons, List.take_zero]
                repeat (gi_big_quiet_step (fail))
                refine Go.BigFrame.wpQuietIn_want (fun _ _ _ _ => trivial) (by rfl) ?_
                intro K2 hK2
                gi_big_quiet_op
                apply Exists.intro
                refine ⟨fun _ => ?_, ?_⟩
                · exact ⟨no_depth _, calls_gwIn (C37.out _ _)⟩
                go_big_quiet_on
                repeat (gi_big_quiet_step (fail))
                refine wpQuietIn_nil ?_
                intro wq hwq
                obtain ⟨zq, rfl⟩ := hwq
                have HZ4 : Hid (Blk (gw zq) A2 #[.bool false] 4 ∧ ((gw zq).heap[w9.heap.size]? = some (.deferred (some [])) ∧ (gw zq).heap[w10.heap.size]? = some (.deferred (some [])) ∧ (gw zq).heap[w11.heap.size]? = some (.deferred (some []))) ∧ Below w.heap.size w (gw zq)) := by
                  obtain ⟨_, _, _, _, h6, _, _, ⟨h10, h11, h12⟩, h13⟩ := HZ3.out
                  have kb := gw_below zq
                  exact ⟨h6.below kb, ⟨(kb.block _ (Array.getElem?_eq_some_iff.1 h10).1).trans h10, (kb.block _ (Array.getElem?_eq_some_iff.1 h11).1).trans h11, (kb.block _ (Array.getElem?_eq_some_iff.1 h12).1).trans h12⟩, bst h13 kb⟩
                clear C37 k0 k1 k2 k3 k4 HZ3
                generalize gw zq = W5 at *
                have f0 := HZ4.out.1.frozen 0
                have c0 := HZ4.out.1.cell 0 (v := .bool false) rfl
                change wpAnyIn _ _ _ _ _ _ 1 (upTo 16 1) _ _
                refine wpAnyIn_ready (rs := [16]) (by kernel_rfl) (by simp) ?_
                refine AllReadyIn.cons rfl (fun K5 hK5 => ?_) AllReadyIn.nil
                go_simp
                refine hK5 _ _ ?_
                clear hK5 K5
                refine wpAnyIn_done (by kernel_rfl) ?_ _
                have HF : Hid (Blk (W5.setCell ⟨A2, 0, none⟩ (.bool true)) A2 #[.bool true] 4 ∧ ((W5.setCell ⟨A2, 0, none⟩ (.bool true)).heap[w9.heap.size]? = some (.deferred (some [])) ∧ (W5.setCell ⟨A2, 0, none⟩ (.bool true)).heap[w10.heap.size]? = some (.deferred (some [])) ∧ (W5.setCell ⟨A2, 0, none⟩ (.bool true)).heap[w11.heap.size]? = some (.deferred (some []))) ∧ Below w.heap.size w (W5.setCell ⟨A2, 0, none⟩ (.bool true))) := by
                  obtain ⟨h1, ⟨h10, h11, h12⟩, h13⟩ := HZ4.out
                  have hb := HLs.out
                  have ks := (Kept.refl (fun k => k = A2) W5).set (p := ⟨A2, 0, none⟩) rfl (.bool true)
                  exact ⟨h1.set 0 _, ⟨(ks.block _ (Array.getElem?_eq_some_iff.1 h10).1 (by show ¬ _ = _; omega)).trans h10, (ks.block _ (Array.getElem?_eq_some_iff.1 h11).1 (by show ¬ _ = _; omega)).trans h11, (ks.block _ (Array.getElem?_eq_some_iff.1 h12).1 (by show ¬ _ = _; omega)).trans h12⟩, h13.setCell hb.2.2.2.1 _⟩
                clear f0 c0 HZ4
                gi_wp2_with fail
                generalize W5.setCell _ _ = W6 at HF ⊢
                have hb := HLs.out
                have n1' : w10.heap.size ≠ w11.heap.size := by omega
                have n2' : w9.heap.size ≠ w11.heap.size := by omega
                have n3' : w9.heap.size ≠ w10.heap.size := by omega
                refine ⟨by simp, .inl ⟨_, _, rfl, run_takeDeferred HF.out.2.1.2.2, ?_⟩⟩
                refine ⟨by simp, .inl ⟨_, _, rfl, run_takeDeferred ((World.putObj_heap_other n1').trans HF.out.2.1.2.1), ?_⟩⟩
                refine ⟨by simp, .inl ⟨_, _, rfl, run_takeDeferred ((World.putObj_heap_other n3').trans ((World.putObj_heap_other n2').trans HF.out.2.1.1)), ?_⟩⟩
                have hkk := ((kept_putObj (fun k => w9.heap.size ≤ k) W6 w11.heap.size (.deferred none) (by show _ ≤ _; omega)).trans (kept_putObj (fun k => w9.heap.size ≤ k) _ w10.heap.size (.deferred none) (by show _ ≤ _; omega))).trans (kept_putObj (fun k => w9.heap.size ≤ k) _ w9.heap.size (.deferred none) (Nat.le_refl _))
                have z1 := (HF.out.1.kept hkk (by show ¬ _ ≤ _; omega)).cell 0 (v := .bool true) rfl
                refine ⟨.bool true, ?_, rfl, HF.out.2.2.trans (hkk.below HF.out.2.2.size (fun k e => by have e' : w9.heap.size ≤ k := e; omega))⟩
                simp [results, Try.results7, go_sem, z1]
end Go.Proofs.Ytgdpplipahhffaa
