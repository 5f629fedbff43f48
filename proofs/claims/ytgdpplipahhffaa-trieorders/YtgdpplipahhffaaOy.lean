/- TrieOrders' walk. -/
import Derived.Test.YtgdpplipahhffaaOu
import Derived.Test.YtgdpplipahhffaaYo
namespace Go.Proofs.Ytgdpplipahhffaa
open Go.RowKit
set_option linter.unusedVariables false
set_option linter.unusedSimpArgs false

abbrev tX : ByteArray := ⟨#[120]⟩
abbrev tO : ByteArray := ⟨#[111, 116, 104, 101, 114]⟩
def CntS (w10 : World) (An : Nat) (pre : List (List Bool × ByteArray)) (W' : World) : Prop := Blk W' An #[.int .i64 pre.length] 3 ∧ Kept (fun k => k = An) w10 W'
theorem cntS_low {w10 : World} {An : Nat} (h : An < w10.heap.size) : LowG 51 w10.heap.size (CntS w10 An) :=
  (low_blk _ _ (fun pre : List (List Bool × ByteArray) => #[.int .i64 pre.length]) _ h).g.and (low_kept _ _ _ (Nat.le_refl _)).g
theorem fn_eql77 (g : Nat) (caps : Array Value) (w : World) : (binOp .eql 77 (.func (.func g) #[] caps) .nilFunc).run Try.prog w = .ok (.bool false) w := by kernel_rfl
/-- The post of a piece of code that ends in one state. -/
abbrev pinQ (A : Act) (V : World) : Exit → Act → World → Prop := fun e a w => match e with
  | .normal => a = A ∧ w = V
  | _ => False
theorem of_pin {F : Fence} {n : Nat} {P : Program} {c : Code} {Q : Exit → Act → World → Prop} {a : Act} {w : World} {A : Act} {V : World} (h : c.wpIn F n P (pinQ A V) a w) (k : Q .normal A V) : c.wpIn F n P Q a w :=
  wpIn_mono h fun e a w hq => by
    cases e
    case normal =>
      obtain ⟨rfl, rfl⟩ := hq
      exact k
    all_goals exact hq.elim
attribute [local go_sem] Oper.semAt_some
attribute [local go_sem ↓] append_appd
set_option maxHeartbeats 8000000 in
set_option maxRecDepth 100000 in
theorem orders_walk (Wd : Int) (sv sv2 : Value) (l others : List OpD) (w : World) (hW : Okn Wd) (hl : OpRow w sv l) (ho : OpRow w sv2 others) : Calls Try.prog 6 #[.int .i64 Wd, sv, sv2] w fun e w' => e = .returned (.bool true) ∧ Below w.heap.size w w' := by
  suffices h : ∀ m, CallsIn Fence.wide m Try.prog 6 #[.int .i64 Wd, sv, sv2] w fun e w' => e = .returned (.bool true) ∧ Below w.heap.size w w' from callsIn_wide.1 (h 0)
  intro m
  obtain ⟨⟨ad, cap, rfl, hcap, hcells⟩, hlb⟩ := hl
  obtain ⟨⟨ad2, cap2, rfl, hcap2, hcells2⟩, hlb2⟩ := ho
  have HL : Hid (l = [] ∨ ∃ b o, ad = some ⟨b, o, none⟩ ∧ ∀ i x, l[i]? = some x → ∃ cs, cs.size = 5 ∧ (∀ j u, cs[j]? = some u → w.cell? ⟨b, o + i * 5 + j, none⟩ = some u) ∧ cs = opC x ∧ OpOk x) := hcells
  have HL2 : Hid (others = [] ∨ ∃ b o, ad2 = some ⟨b, o, none⟩ ∧ ∀ i x, others[i]? = some x → ∃ cs, cs.size = 5 ∧ (∀ j u, cs[j]? = some u → w.cell? ⟨b, o + i * 5 + j, none⟩ = some u) ∧ cs = opC x ∧ OpOk x) := hcells2
  have HB : Hid _ := one_new w #[.bool false] 4
  have CL : Hid (∀ w1, CallsIn Fence.wide (m - 1) Try.prog 9 #[] w1 fun e w' => e = .returned (.bool true) ∧ Below w1.heap.size w1 w') := fun w1 => callsIn_wide.2 (live_any w1)
  have hmix : Try.prog.follows .mixedOrders = true := by kernel_rfl
  unfold Len at hlb hlb2
  clear hcells hcells2
  refine callsIn_of_wp_marks Try.func6 rfl trivial ?_ rfl
  simp only [Try.ntmps6, List.size_toArray, List.length_cons, List.length_nil, Nat.reduceAdd, Nat.reduceSub, Array.replicate_succ, Array.replicate_zero, List.push_toArray, List.append_toArray, List.nil_append, List.cons_append]
  gi_upto_region 1 with fail
  generalize (w.alloc _) = w0 at HB ⊢
  generalize hA : w.heap.size = A6 at *
  have lA := HB.out.2.2
  gi_wp2_with fail
  refine ⟨trivial, no_depth _, ?_⟩
  refine (CL.out _).mono ?_
  rintro e w1 ⟨rfl, H1⟩
  have HB1 : Hid (Blk w1 A6 #[.bool false] 4 ∧ Below w.heap.size w w1) := ⟨HB.out.1.below H1, by rw [hA]; exact HB.out.2.1.trans (H1.mono (Nat.le_of_lt lA))⟩
  have lB := HB1.out.1.lt
  clear HB CL H1 lA
  by_cases hbad : Wd < 1 ∨ 128 < Wd
  · have C10 : Hid (∀ w1, CallsIn Fence.wide (m - 1) Try.prog 29 #[.int .i64 Wd, .int .i64 4096] w1 fun e w' => e = .returned (.tuple #[.pointer none, .int .i64 1]) ∧ w' = w1) := fun w1 => callsIn_wide.2 (St.new_bad Wd 4096 (by omega) w1)
    have key : Hid (Below w.heap.size w (w1.alloc (.cells #[.pointer none] 70)) ∧ Blk (w1.alloc (.cells #[.pointer none] 70)) w1.heap.size #[.pointer none] 70 ∧ Blk (w1.alloc (.cells #[.pointer none] 70)) A6 #[.bool false] 4) :=
      ⟨bst HB1.out.2 ((Below.refl _ _).alloc (Nat.le_refl _) _), Blk.new _ _ _, HB1.out.1.below ((Below.refl _ _).alloc (Nat.le_refl _) _)⟩
    clear HL HL2 hbad
    gi_wp2_with fail
    refine ⟨trivial, no_depth _, ?_⟩
    refine (C10.out _).mono ?_
    rintro e w2 ⟨rfl, rfl⟩
    gi_wp2_with fail
    refine ⟨trivial, no_depth _, ?_⟩
    refine (C10.out _).mono ?_
    rintro e w2 ⟨rfl, rfl⟩
    clear C10
    gi_upto_region 4 with fail
    generalize (World.alloc _ _) = w3 at key ⊢
    have c0 := key.out.2.1.cell 0 (v := .pointer none) rfl
    have f2 := key.out.2.2.frozen 0
    have c2 := key.out.2.2.cell 0 (v := .bool false) rfl
    gi_wp2_with fail
    have HF : Hid (Below w.heap.size w (w3.setCell ⟨A6, 0, none⟩ (.bool true)) ∧ Blk (w3.setCell ⟨A6, 0, none⟩ (.bool true)) A6 #[.bool true] 4) := ⟨key.out.1.setCell (by show _ ≤ A6; omega) _, key.out.2.2.set 0 _⟩
    generalize w3.setCell _ _ = w5 at HF ⊢
    have z1 := HF.out.2.cell 0 (v := .bool true) rfl
    refine ⟨.bool true, ?_, rfl, HF.out.1⟩
    simp [results, Try.results6, go_sem, z1]
  · obtain ⟨W, rfl⟩ := Int.eq_ofNat_of_zero_le (show 0 ≤ Wd by omega)
    have h1 : 1 ≤ W := by omega
    have h2 : W ≤ 128 := by omega
    have C10 : Hid (∀ w1, CallsIn Fence.wide (m - 1) Try.prog 29 #[.int .i64 W, .int .i64 4096] w1 fun e w' => e = .returned (.tuple #[.pointer (some ⟨w1.heap.size, 0, none⟩), .int .i64 0]) ∧ Hid (St.TrieAt w' w1.heap.size W 4096 none 0 [] ∧ Below w1.heap.size w1 w')) := fun w1 => callsIn_wide.2 ((St.new_ok W 4096 h1 h2 (by omega) (by omega) w1).mono (by
      rintro e w' ⟨rfl, g1, g2⟩
      exact ⟨rfl, (⟨g1, g2⟩ : _ ∧ _)⟩))
    gi_wp2_with fail
    refine ⟨trivial, no_depth _, ?_⟩
    refine (C10.out _).mono ?_
    rintro e w2 ⟨rfl, H2⟩
    have l2 := H2.out.1.hd.lt
    gi_wp2_with fail
    refine ⟨trivial, no_depth _, ?_⟩
    refine (C10.out _).mono ?_
    rintro e w3 ⟨rfl, H3⟩
    have l3 := H3.out.1.hd.lt
    have HN : Hid _ := one_new w3 #[.pointer (some ⟨w2.heap.size, 0, none⟩)] 70
    gi_upto_region 4 with fail
    generalize (w3.alloc _) = w4 at HN ⊢
    have HB4 : Hid (Blk w4 A6 #[.bool false] 4 ∧ Blk w4 w3.heap.size #[.pointer (some ⟨w2.heap.size, 0, none⟩)] 70 ∧ St.Own w w4 w1.heap.size W 4096 [] ∧ St.Own w w4 w2.heap.size W 4096 []) := by
      have b24 := bst H3.out.2 HN.out.2.1
      have b14 := bst H2.out.2 b24
      have bw := bst HB1.out.2 b14
      have s1 := HB1.out.2.size
      have s2 := H2.out.2.size
      exact ⟨HB1.out.1.below b14, HN.out.1, ⟨⟨none, 0, [], H2.out.1.below b24, rfl⟩, bw, by omega⟩, ⟨⟨none, 0, [], H3.out.1.below HN.out.2.1, rfl⟩, bw, by omega⟩⟩
    have HQ : Hid (w.heap.size = A6 ∧ A6 < w1.heap.size ∧ w1.heap.size < w2.heap.size ∧ w2.heap.size < w3.heap.size ∧ w3.heap.size < w4.heap.size) := ⟨hA, lB, l2, l3, HN.out.2.2⟩
    clear HB1 H2 H3 HN C10 hbad lB l2 l3 hA
    generalize w1.heap.size = q1 at *
    generalize w2.heap.size = q2 at *
    generalize w3.heap.size = Ab at *
    have t0 := HB4.out.2.1.cell 0 (v := .pointer (some ⟨q2, 0, none⟩)) rfl
    gi_upto_if 66 with fail
    clear t0
    obtain ⟨n, hn⟩ : ∃ n : Nat, n = min l.length 1000 := ⟨_, rfl⟩
    gi_cut [12] from 63 (fun t wx => t = .int .i64 n ∧ wx = w4)
    case first =>
      by_cases hg : 1000 < l.length
      · have hg' : (1000 : Int) < l.length := by omega
        have e : n = 1000 := by omega
        subst e
        gi_wp2_with fail
        go_meet
        exact ⟨rfl, rfl⟩
      · have hg' : ¬ (1000 : Int) < l.length := by omega
        have e : Hid (n = l.length) := (by omega : n = l.length)
        clear hn
        gi_wp2_with fail
        go_meet
        exact ⟨by rw [e.out], rfl⟩
    case rest =>
      obtain ⟨rfl, rfl⟩ := hcut
      have hn1 : n ≤ 1000 := by omega
      have hn2 : n ≤ l.length := by omega
      clear hn
      gi_wp2_with fail
      gi_loopw [13] (fun b13 wr => ∃ (i : Nat) (L : List (List Bool × ByteArray)), i ≤ n ∧ b13 = .int .i64 i ∧ Hid (S1 W l tX i L ∧ St.Own w wr q1 W 4096 L ∧ Kept (fun k => k = q1) wc wr)) (fun b13 wr => n - (intOf b13).toNat)
      case atStart => exact ⟨0, [], Nat.zero_le _, rfl, (⟨s1_start, HB4.out.2.2.1, Kept.refl _ _⟩ : _ ∧ _)⟩
      case round =>
        obtain ⟨i, Lt, hi, rfl, HR⟩ := hrel
        by_cases hin : i < n
        · obtain ⟨x, hx⟩ : ∃ x, l[i]? = some x := ⟨_, List.getElem?_eq_getElem (by omega)⟩
          have hne : l ≠ [] := fun e => by rw [e] at hx; cases hx
          obtain ⟨b, o, rfl, hcs⟩ := HL.out.resolve_left hne
          obtain ⟨cs, _, hc, rfl, hok⟩ := hcs i x hx
          have blt : b < w.heap.size := World.block_lt_of_cell? w _ (hc 1 _ rfl)
          have pres : ∀ {j : Nat} {u : Value}, (opC x)[j]? = some u → wr.cell? ⟨b, o + i * 5 + j, none⟩ = some u := fun {j u} h => (World.cell?_of_block (HR.out.2.1.be.block b (World.block_lt_of_cell? w _ (hc j u h)))).trans (hc j u h)
          have c1 := gw_cell (pres (j := 1) rfl)
          have c2 := gw_cell (pres (j := 2) rfl)
          have c3 := gw_cell (pres (j := 3) rfl)
          have CP : Hid (∀ W2, Below wr.heap.size wr W2 → CallsIn Fence.wide (m - 1) Try.prog 30 #[.pointer (some ⟨q1, 0, none⟩), .agg #[.int .u64 (hiOf x.a), .int .u64 (loOf x.a), .int .i64 x.n], .string ⟨#[120]⟩] W2 fun e w' => ∃ c : Int, e = .returned (.int .i64 c) ∧ Hid (∃ L', S1 W l tX (i + 1) L' ∧ St.Own w w' q1 W 4096 L' ∧ Kept (fun k => k = q1) wc w')) := fun W2 hb => callsIn_wide.2 (by
            have hs := HR.out.1
            refine (St.put3 (HR.out.2.1.below hb) (by have := hs.2.1; omega) x hok.1 tX).mono ?_
            rintro e w' ⟨c, rfl, H⟩
            obtain ⟨L', g1, g2, g3⟩ := H.out
            refine ⟨c, rfl, (⟨L', ?_, g1, (HR.out.2.2.trans (Kept.of_below hb)).trans g3⟩ : ∃ _, _)⟩
            rcases g2 with ⟨_, hb, rfl⟩ | ⟨p, hv, ⟨_, hl, rfl⟩ | ⟨_, hl, rfl⟩⟩
            · exact s1_bad hs hx hb
            · exact s1_dup hs hx hv hl
            · exact s1_new hs hx hv hl)
          have hi1 : (i : Int) < n := by omega
          have hi2 : i < l.length := by omega
          have hi3 : (i : Int) < l.length := by omega
          clear pres hc hne hx HR
          gi_upto_region 12 with fail
          refine gate_wide 12 hmix (by kernel_rfl) (by kernel_rfl) (by kernel_rfl) ?_
          simp only [List.take_succ_cons, List.take_zero]
          repeat (gi_big_quiet_step (fail))
          refine wpQuietIn_nil ?_
          intro wq hwq
          obtain ⟨zq, rfl⟩ := hwq
          have CP2 := CP.out (gw zq) (gw_below zq)
          clear CP c1 c2 c3
          generalize gw zq = w5 at *
          change wpAnyIn _ _ _ _ _ _ 1 (upTo 12 1) _ _
          refine wpAnyIn_ready (rs := [12]) (by kernel_rfl) (by simp) ?_
          refine AllReadyIn.cons rfl (fun K5 hK5 => ?_) AllReadyIn.nil
          go_simp
          refine ⟨trivial, no_depth _, ?_⟩
          refine CP2.mono ?_
          rintro e w7 ⟨c, rfl, HM7⟩
          refine hK5 _ _ ?_
          clear hK5 K5
          refine wpAnyIn_done (by kernel_rfl) ?_ _
          gi_wp2_with fail
          go_roundw
          case rel =>
            obtain ⟨L', g1, g2, g3⟩ := HM7.out
            exact ⟨i + 1, L', by omega, by go_num, (⟨g1, g2, g3⟩ : _ ∧ _)⟩
          case measure => simp [intOf]; omega
        · have hie : i = n := by omega
          subst hie
          have hi1 : ¬ (i : Int) < i := by omega
          have HS1 : Hid (S1 W l tX i Lt) := HR.out.1
          have hqs := HQ.out
          have HA : Hid (St.Own w wr q1 W 4096 Lt ∧ St.Own w wr q2 W 4096 [] ∧ Blk wr A6 #[.bool false] 4 ∧ Blk wr Ab #[.pointer (some ⟨q2, 0, none⟩)] 70 ∧ Below w.heap.size w wr) :=
            ⟨HR.out.2.1, HB4.out.2.2.2.other HB4.out.2.2.1 (by omega) HR.out.2.2, HB4.out.1.kept HR.out.2.2 (by show ¬ _ = _; omega), HB4.out.2.1.kept HR.out.2.2 (by show ¬ _ = _; omega), HR.out.2.1.be⟩
          have HQ2 : Hid (Ab < wr.heap.size) := Nat.lt_of_lt_of_le hqs.2.2.2.2 HR.out.2.2.size
          clear HR HB4 hqs
          obtain ⟨wa, hwa⟩ : ∃ wa, wa = wr := ⟨_, rfl⟩
          subst hwa
          gi_wp2_with fail
          gi_loopw [14, 15] (fun b14 b15 V => ∃ (j : Nat) (L : List (List Bool × ByteArray)) (D : List (List Bool)) (ba : Option Addr) (bc : Nat), j ≤ others.length ∧ j ≤ 1000 ∧ b14 = .slice ba D.length bc ∧ b15 = .int .i64 j ∧ Hid (S2 W others tO Lt j L D ∧ St.Own w V q2 W 4096 L ∧ V.ownsRow wa.heap.size 51 3 (.slice ba D.length bc) D.length (rowK W D) ∧ Kept (fun k => k = q2) wa V ∧ Below w.heap.size w V)) (fun b14 b15 V => 1000 - (intOf b15).toNat)
          case atStart => exact ⟨0, [], [], none, 0, Nat.zero_le _, Nat.zero_le _, rfl, rfl, (⟨s2_start, HA.out.2.1, World.ownsRow_nil _ _ _ _, Kept.refl _ _, HA.out.2.2.2.2⟩ : _ ∧ _)⟩
          case round =>
            obtain ⟨j, L, D, ba, bc, hj1, hj2, rfl, rfl, HR⟩ := hrel
            by_cases hin2 : j < others.length ∧ j < 1000
            · obtain ⟨x, hx⟩ : ∃ x, others[j]? = some x := ⟨_, List.getElem?_eq_getElem (by omega)⟩
              have hne : others ≠ [] := fun e => by rw [e] at hx; cases hx
              obtain ⟨b, o, rfl, hcs⟩ := HL2.out.resolve_left hne
              obtain ⟨cs, _, hc, rfl, hok⟩ := hcs j x hx
              have blt : b < w.heap.size := World.block_lt_of_cell? w _ (hc 1 _ rfl)
              have pres : ∀ {jj : Nat} {u : Value}, (opC x)[jj]? = some u → wr.cell? ⟨b, o + j * 5 + jj, none⟩ = some u := fun {jj u} h => (World.cell?_of_block (HR.out.2.2.2.2.block b (World.block_lt_of_cell? w _ (hc jj u h)))).trans (hc jj u h)
              have c1 := pres (jj := 1) rfl
              have c2 := pres (jj := 2) rfl
              have c3 := pres (jj := 3) rfl
              have hi2 : (j : Int) < others.length := by omega
              have hi3 : (j : Int) < 1000 := by omega
              have prA : ∀ {a : Addr} {u : Value} (ob : Obj), wr.cell? a = some u → (wr.alloc ob).cell? a = some u := fun {a u} ob h => (World.cell?_of_block (((Below.refl wr.heap.size wr).alloc (Nat.le_refl _) ob).block a.block (World.block_lt_of_cell? wr _ h))).trans h
              have d1 := fun ob => prA ob c1
              have d2 := fun ob => prA ob c2
              have d3 := fun ob => prA ob c3
              clear pres hc hne prA
              gi_upto_region 17 with fail
              apply of_pin
              case h =>
                gi_region_with (fail)
                all_goals exact ⟨rfl, rfl⟩
              case k =>
                have HN : Hid _ := one_new wr #[.int .u64 (hiOf x.a), .int .u64 (loOf x.a), .int .i64 x.n] 51
                have HG : Hid (Blk (wr.alloc (.cells #[.int .u64 (hiOf x.a), .int .u64 (loOf x.a), .int .i64 x.n] 51)).drew wr.heap.size #[.int .u64 (hiOf x.a), .int .u64 (loOf x.a), .int .i64 x.n] 51 ∧ Below wr.heap.size wr (wr.alloc (.cells #[.int .u64 (hiOf x.a), .int .u64 (loOf x.a), .int .i64 x.n] 51)).drew) := ⟨HN.out.1, HN.out.2.1.drew⟩
                have hqs := HQ.out
                have hab := HQ2.out
                have HT0 : Hid (St.Own w wr q1 W 4096 Lt ∧ Blk wr Ab #[.pointer (some ⟨q2, 0, none⟩)] 70 ∧ wa.heap.size ≤ wr.heap.size) := ⟨HA.out.1.other HA.out.2.1 (by omega) HR.out.2.2.2.1, HA.out.2.2.2.1.kept HR.out.2.2.2.1 (by show ¬ _ = _; omega), HR.out.2.2.2.1.size⟩
                clear HN c1 c2 c3 d1 d2 d3 hqs hab
                generalize (World.alloc _ _).drew = w5 at HG ⊢
                generalize hAp : wr.heap.size = Ap at *
                have C31 : Hid (CallsIn Fence.wide (m - 1) Try.prog 31 #[.pointer (some ⟨q1, 0, none⟩), .agg #[.int .u64 (hiOf x.a), .int .u64 (loOf x.a), .int .i64 x.n]] w5 fun e w' => ∃ s b, e = .returned (.tuple #[.string s, .bool b]) ∧ Hid ((∀ p, Val W x p → b = (look p Lt).isSome) ∧ Below w5.heap.size w5 w')) := callsIn_wide.2 (St.get3 (HT0.out.1.below (by rw [hAp]; exact HG.out.2)) x hok.1)
                have p0 := HG.out.1.cell 0 (v := .int .u64 (hiOf x.a)) rfl
                have p1 := HG.out.1.cell 1 (v := .int .u64 (loOf x.a)) rfl
                have p2 := HG.out.1.cell 2 (v := .int .i64 x.n) rfl
                gi_wp2_with fail
                refine ⟨trivial, no_depth _, ?_⟩
                refine C31.out.mono ?_
                rintro e w6 ⟨s, b6, rfl, H6⟩
                clear C31 p0 p1 p2
                have HG6 : Hid (Blk w6 Ap #[.int .u64 (hiOf x.a), .int .u64 (loOf x.a), .int .i64 x.n] 51 ∧ Below Ap wr w6) := ⟨HG.out.1.below H6.out.2, by
                  have := HG.out.2
                  rw [← hAp] at this ⊢
                  exact bst this H6.out.2⟩
                have hbw6 : Below wr.heap.size wr w6 := by rw [hAp]; exact HG6.out.2
                have HS6 : Hid (S2 W others tO Lt j L D ∧ St.Own w w6 q2 W 4096 L ∧ w6.ownsRow wa.heap.size 51 3 (.slice ba D.length bc) D.length (rowK W D) ∧ Kept (fun k => k = q2) wa w6 ∧ Blk w6 Ab #[.pointer (some ⟨q2, 0, none⟩)] 70 ∧ Ap < w6.heap.size ∧ Ap ≠ q2) := by
                  have hq2 := HR.out.2.1.lt
                  exact ⟨HR.out.1, HR.out.2.1.below hbw6, own_below HR.out.2.2.1 hbw6, HR.out.2.2.2.1.trans (Kept.of_below hbw6), HT0.out.2.1.below hbw6, HG6.out.1.lt, by omega⟩
                have C30 : Hid (CallsIn Fence.wide (m - 1) Try.prog 30 #[.pointer (some ⟨q2, 0, none⟩), .agg #[.int .u64 (hiOf x.a), .int .u64 (loOf x.a), .int .i64 x.n], .string ⟨#[111, 116, 104, 101, 114]⟩] w6 fun e w' => ∃ c : Int, e = .returned (.int .i64 c) ∧ Hid (∃ L', St.Own w w' q2 W 4096 L' ∧ ((c = 111 ∧ (∀ p, ¬ Val W x p) ∧ L' = L) ∨ (∃ p, Val W x p ∧ ((c = 121 ∧ look p L ≠ none ∧ L' = L) ∨ (c = 0 ∧ look p L = none ∧ L' = upd p tO L)))) ∧ Kept (fun k => k = q2) w6 w')) := callsIn_wide.2 (St.put3 HS6.out.2.1 (by have := HS6.out.1.1.2.1; omega) x hok.1 tO)
                have t0 := HS6.out.2.2.2.2.1.cell 0 (v := .pointer (some ⟨q2, 0, none⟩)) rfl
                have p0 := HG6.out.1.cell 0 (v := .int .u64 (hiOf x.a)) rfl
                have p1 := HG6.out.1.cell 1 (v := .int .u64 (loOf x.a)) rfl
                have p2 := HG6.out.1.cell 2 (v := .int .i64 x.n) rfl
                have HB6 : Hid (∀ p, Val W x p → b6 = (look p Lt).isSome) := H6.out.1
                gi_wp2_with fail
                refine ⟨trivial, no_depth _, ?_⟩
                refine C30.out.mono ?_
                rintro e w7 ⟨c, rfl, H7⟩
                clear C30 t0 p0 p1 p2 H6 HG HT0 HR
                obtain ⟨L', g1, g2, g3⟩ := H7.out
                have HG7 : Hid (Blk w7 Ap #[.int .u64 (hiOf x.a), .int .u64 (loOf x.a), .int .i64 x.n] 51 ∧ St.Own w w7 q2 W 4096 L' ∧ w7.ownsRow wa.heap.size 51 3 (.slice ba D.length bc) D.length (rowK W D) ∧ Kept (fun k => k = q2) wa w7) :=
                  ⟨HG6.out.1.kept g3 HS6.out.2.2.2.2.2.2, g1, ownsRow_kept HS6.out.2.2.1 g3 (fun k hk e => by
                    have e' : k = q2 := e
                    rw [e'] at hk
                    exact HS6.out.2.1.off_row HS6.out.2.2.1 hk), HS6.out.2.2.2.1.trans g3⟩
                have HS7 : Hid (S2 W others tO Lt j L D) := HS6.out.1
                clear H7 g1 g3 HS6 HG6 hbw6
                rcases g2 with ⟨rfl, hb, rfl⟩ | ⟨p, hv, ⟨rfl, hl, rfl⟩ | ⟨rfl, hl, rfl⟩⟩
                · have HF : Hid (S2 W others tO Lt (j + 1) L' D) := s2_bad HS7.out hx hb
                  clear hx hb
                  gi_wp2_with fail
                  go_roundw
                  case rel => exact ⟨j + 1, L', D, ba, bc, by omega, by omega, rfl, by go_num, (⟨HF.out, HG7.out.2.1, HG7.out.2.2.1, HG7.out.2.2.2, HG7.out.2.1.be⟩ : _ ∧ _)⟩
                  case measure => simp [intOf]; omega
                · have HF : Hid (S2 W others tO Lt (j + 1) L' D) := s2_dup HS7.out hx hv hl
                  clear hx hv hl
                  gi_wp2_with fail
                  go_roundw
                  case rel => exact ⟨j + 1, L', D, ba, bc, by omega, by omega, rfl, by go_num, (⟨HF.out, HG7.out.2.1, HG7.out.2.2.1, HG7.out.2.2.2, HG7.out.2.1.be⟩ : _ ∧ _)⟩
                  case measure => simp [intOf]; omega
                · have hb6 := HB6.out p hv
                  cases hlt : look p Lt with
                  | some v0 =>
                    rw [hlt] at hb6
                    have hb6' : b6 = true := hb6
                    subst hb6'
                    have HF : Hid (S2 W others tO Lt (j + 1) (upd p tO L) D) := s2_in HS7.out hx hv hl (by rw [hlt]; simp)
                    clear hx hv hl hlt hb6
                    gi_wp2_with fail
                    go_roundw
                    case rel => exact ⟨j + 1, _, D, ba, bc, by omega, by omega, rfl, by go_num, (⟨HF.out, HG7.out.2.1, HG7.out.2.2.1, HG7.out.2.2.2, HG7.out.2.1.be⟩ : _ ∧ _)⟩
                    case measure => simp [intOf]; omega
                  | none =>
                    rw [hlt] at hb6
                    have hb6' : b6 = false := hb6
                    subst hb6'
                    have HF : Hid (S2 W others tO Lt (j + 1) (upd p tO L) (D ++ [p])) := s2_out HS7.out hx hv hl hlt
                    have hDl : D.length ≤ j := HS7.out.2.2.1
                    obtain ⟨s', W8, hr, ho8, ⟨ba8, bc8, rfl⟩, hk8, hat⟩ := app_pf (W := W) w7 wa.heap.size (.slice ba D.length bc) D p HG7.out.2.2.1 HG7.out.2.2.2.size (by omega)
                    rw [← hv.2.1, ← hv.2.2] at hr
                    have HG8 : Hid (St.Own w W8 q2 W 4096 (upd p tO L) ∧ W8.ownsRow wa.heap.size 51 3 (.slice ba8 (D.length + 1) bc8) (D ++ [p]).length (rowK W (D ++ [p])) ∧ Kept (fun k => k = q2) wa W8) := by
                      have hw := HG7.out.2.2.2
                      refine ⟨HG7.out.2.1.row HG7.out.2.2.1 HA.out.2.2.2.2.size hk8, ho8, ⟨hk8.os.trans hw.os, hk8.tape.trans hw.tape, hk8.output.trans hw.output, Nat.le_trans hw.size hk8.size, fun k hk hs => (hk8.block k (Nat.lt_of_lt_of_le hk hw.size) (fun e => by have := (own_block HG7.out.2.2.1 e).1; omega)).trans (hw.block k hk hs)⟩⟩
                    have p0 := HG7.out.1.cell 0 (v := .int .u64 (hiOf x.a)) rfl
                    have p1 := HG7.out.1.cell 1 (v := .int .u64 (loOf x.a)) rfl
                    have p2 := HG7.out.1.cell 2 (v := .int .i64 x.n) rfl
                    have hDe : (D ++ [p]).length = D.length + 1 := by simp
                    clear hx hv hl hlt hb6 hat hk8 ho8 hDl
                    gi_wp2_with fail
                    go_roundw
                    case rel => exact ⟨j + 1, _, D ++ [p], ba8, bc8, by omega, by omega, by rw [hDe], by go_num, (⟨HF.out, HG8.out.1, by rw [hDe] at HG8 ⊢; exact HG8.out.2.1, HG8.out.2.2, HG8.out.1.be⟩ : _ ∧ _)⟩
                    case measure => simp [intOf]; omega
            · have hgo : (¬ j < others.length) ∨ (j < others.length ∧ ¬ j < 1000) := by omega
              gi_upto_region 15 with fail
              gi_cut [92] from 85 (fun t wx => t = .bool false ∧ wx = wr)
              case first =>
                rcases hgo with h | ⟨h, h'⟩
                · have d1 : ¬ (j : Int) < others.length := by omega
                  gi_wp2_with fail
                  go_meet
                  exact ⟨rfl, rfl⟩
                · have d1 : (j : Int) < others.length := by omega
                  have d2 : ¬ (j : Int) < 1000 := by omega
                  gi_wp2_with fail
                  go_meet
                  exact ⟨rfl, rfl⟩
              case rest =>
                obtain ⟨rfl, rfl⟩ := hcut
                have hqs := HQ.out
                have hab := HQ2.out
                have HB2 : Hid (S2 W others tO Lt j L D ∧ St.Own w wc q1 W 4096 Lt ∧ St.Own w wc q2 W 4096 L ∧ wc.ownsRow wa.heap.size 51 3 (.slice ba D.length bc) D.length (rowK W D) ∧ Blk wc A6 #[.bool false] 4 ∧ Blk wc Ab #[.pointer (some ⟨q2, 0, none⟩)] 70 ∧ Below w.heap.size w wc) :=
                  ⟨HR.out.1, HA.out.1.other HA.out.2.1 (by omega) HR.out.2.2.2.1, HR.out.2.1, HR.out.2.2.1, HA.out.2.2.1.kept HR.out.2.2.2.1 (by show ¬ _ = _; omega), HA.out.2.2.2.1.kept HR.out.2.2.2.1 (by show ¬ _ = _; omega), HR.out.2.1.be⟩
                have HQ3 : Hid (Ab < wc.heap.size ∧ q2 < wc.heap.size ∧ w.heap.size ≤ wa.heap.size) := ⟨Nat.lt_of_lt_of_le hab HR.out.2.2.2.1.size, HR.out.2.1.lt, HA.out.2.2.2.2.size⟩
                clear HR HA hqs hab hgo hin2
                obtain ⟨wb, hwb⟩ : ∃ wb, wb = wc := ⟨_, rfl⟩
                subst hwb
                gi_wp2_with fail
                gi_loopw [20] (fun b20 V => ∃ (c : Nat) (L3 : List (List Bool × ByteArray)), c ≤ i ∧ b20 = .int .i64 ((c : Int) - 1) ∧ Hid (S3 W l i tX tO (PutB W others j) c L3 ∧ St.Own w V q2 W 4096 L3 ∧ Kept (fun k => k = q2) wb V)) (fun b20 V => (intOf b20 + 1).toNat)
                case atStart => exact ⟨i, L, Nat.le_refl _, by go_num, (⟨s3_start HB2.out.1 hj2, HB2.out.2.2.1, Kept.refl _ _⟩ : _ ∧ _)⟩
                case round =>
                  obtain ⟨c, L3, hc1, rfl, HR⟩ := hrel
                  cases c with
                  | succ c =>
                    rw [show (((c + 1 : Nat) : Int) - 1) = (c : Int) by omega]
                    have h0 : (0 : Int) ≤ (c : Int) := by omega
                    have hcl : c < l.length := by omega
                    have hcl' : (c : Int) < l.length := by omega
                    obtain ⟨x, hx⟩ : ∃ x, l[c]? = some x := ⟨_, List.getElem?_eq_getElem (by omega)⟩
                    have hne : l ≠ [] := fun e => by rw [e] at hx; cases hx
                    obtain ⟨b, o, rfl, hcs⟩ := HL.out.resolve_left hne
                    obtain ⟨cs, _, hc, rfl, hok⟩ := hcs c x hx
                    have blt : b < w.heap.size := World.block_lt_of_cell? w _ (hc 1 _ rfl)
                    have pres : ∀ {jj : Nat} {u : Value}, (opC x)[jj]? = some u → wr.cell? ⟨b, o + c * 5 + jj, none⟩ = some u := fun {jj u} h => (World.cell?_of_block (HR.out.2.1.be.block b (World.block_lt_of_cell? w _ (hc jj u h)))).trans (hc jj u h)
                    have c1 := pres (jj := 1) rfl
                    have c2 := pres (jj := 2) rfl
                    have c3 := pres (jj := 3) rfl
                    have prA : ∀ {a : Addr} {u : Value} (ob : Obj), wr.cell? a = some u → (wr.alloc ob).cell? a = some u := fun {a u} ob h => (World.cell?_of_block (((Below.refl wr.heap.size wr).alloc (Nat.le_refl _) ob).block a.block (World.block_lt_of_cell? wr _ h))).trans h
                    have d1 := fun ob => prA ob c1
                    have d2 := fun ob => prA ob c2
                    have d3 := fun ob => prA ob c3
                    clear pres hc hne prA
                    gi_upto_region 25 with fail
                    apply of_pin
                    case h =>
                      gi_region_with (fail)
                      all_goals exact ⟨rfl, rfl⟩
                    case k =>
                      have HN : Hid _ := one_new wr #[.int .u64 (hiOf x.a), .int .u64 (loOf x.a), .int .i64 x.n] 51
                      have HG : Hid (Blk (wr.alloc (.cells #[.int .u64 (hiOf x.a), .int .u64 (loOf x.a), .int .i64 x.n] 51)).drew wr.heap.size #[.int .u64 (hiOf x.a), .int .u64 (loOf x.a), .int .i64 x.n] 51 ∧ Below wr.heap.size wr (wr.alloc (.cells #[.int .u64 (hiOf x.a), .int .u64 (loOf x.a), .int .i64 x.n] 51)).drew) := ⟨HN.out.1, HN.out.2.1.drew⟩
                      have hqs := HQ.out
                      have hq3 := HQ3.out
                      clear HN c1 c2 c3 d1 d2 d3
                      generalize (World.alloc _ _).drew = w5 at HG ⊢
                      have hqr := HR.out.2.1.lt
                      have HS6 : Hid (S3 W l i tX tO (PutB W others j) (c + 1) L3 ∧ St.Own w w5 q2 W 4096 L3 ∧ Kept (fun k => k = q2) wb w5 ∧ Blk w5 Ab #[.pointer (some ⟨q2, 0, none⟩)] 70 ∧ Blk w5 wr.heap.size #[.int .u64 (hiOf x.a), .int .u64 (loOf x.a), .int .i64 x.n] 51 ∧ wr.heap.size ≠ q2) :=
                        ⟨HR.out.1, HR.out.2.1.below HG.out.2, HR.out.2.2.trans (Kept.of_below HG.out.2), (HB2.out.2.2.2.2.2.1.kept HR.out.2.2 (by show ¬ _ = _; omega)).below HG.out.2, HG.out.1, by omega⟩
                      clear HG HR hqs hq3 hqr
                      generalize wr.heap.size = Ap at *
                      have C30 : Hid (CallsIn Fence.wide (m - 1) Try.prog 30 #[.pointer (some ⟨q2, 0, none⟩), .agg #[.int .u64 (hiOf x.a), .int .u64 (loOf x.a), .int .i64 x.n], .string ⟨#[120]⟩] w5 fun e w' => ∃ c : Int, e = .returned (.int .i64 c) ∧ Hid (∃ L', St.Own w w' q2 W 4096 L' ∧ ((c = 111 ∧ (∀ p, ¬ Val W x p) ∧ L' = L3) ∨ (∃ p, Val W x p ∧ ((c = 121 ∧ look p L3 ≠ none ∧ L' = L3) ∨ (c = 0 ∧ look p L3 = none ∧ L' = upd p tX L3)))) ∧ Kept (fun k => k = q2) w5 w')) := callsIn_wide.2 (St.put3 HS6.out.2.1 (by have := HS6.out.1.2.1; omega) x hok.1 tX)
                      have t0 := HS6.out.2.2.2.1.cell 0 (v := .pointer (some ⟨q2, 0, none⟩)) rfl
                      have p0 := HS6.out.2.2.2.2.1.cell 0 (v := .int .u64 (hiOf x.a)) rfl
                      have p1 := HS6.out.2.2.2.2.1.cell 1 (v := .int .u64 (loOf x.a)) rfl
                      have p2 := HS6.out.2.2.2.2.1.cell 2 (v := .int .i64 x.n) rfl
                      gi_wp2_with fail
                      refine ⟨trivial, no_depth _, ?_⟩
                      refine C30.out.mono ?_
                      rintro e w7 ⟨cc, rfl, H7⟩
                      clear C30 t0 p0 p1 p2
                      obtain ⟨L', g1, g2, g3⟩ := H7.out
                      have HG7 : Hid (St.Own w w7 q2 W 4096 L' ∧ Kept (fun k => k = q2) wb w7 ∧ Blk w7 Ab #[.pointer (some ⟨q2, 0, none⟩)] 70 ∧ Blk w7 Ap #[.int .u64 (hiOf x.a), .int .u64 (loOf x.a), .int .i64 x.n] 51) :=
                        ⟨g1, HS6.out.2.2.1.trans g3, HS6.out.2.2.2.1.kept g3 (by have := HQ.out; show ¬ _ = _; omega), HS6.out.2.2.2.2.1.kept g3 HS6.out.2.2.2.2.2⟩
                      have HS7 : Hid (S3 W l i tX tO (PutB W others j) (c + 1) L3) := HS6.out.1
                      have hci : c < i := by omega
                      clear H7 g1 g3 HS6
                      rcases g2 with ⟨rfl, hb, rfl⟩ | ⟨p, hv, ⟨rfl, hl, rfl⟩ | ⟨rfl, hl, rfl⟩⟩
                      · have HF : Hid (S3 W l i tX tO (PutB W others j) c L') := s3_bad HS7.out hx hci hb
                        clear hx hb
                        gi_wp2_with fail
                        go_roundw
                        case rel => exact ⟨c, L', by omega, by go_num, (⟨HF.out, HG7.out.1, HG7.out.2.1⟩ : _ ∧ _)⟩
                        case measure => simp [intOf] <;> omega
                      · have HF : Hid (S3 W l i tX tO (PutB W others j) c (upd p tX L')) := s3_put HS7.out hx hci hv
                        have C32 : Hid (CallsIn Fence.wide (m - 1) Try.prog 32 #[.pointer (some ⟨q2, 0, none⟩), .agg #[.int .u64 (hiOf x.a), .int .u64 (loOf x.a), .int .i64 x.n], .string ⟨#[120]⟩] w7 fun e w' => e = .returned (.int .i64 0) ∧ Hid (St.Own w w' q2 W 4096 (upd p tX L') ∧ Kept (fun k => k = q2) w7 w')) := callsIn_wide.2 (St.set3 HG7.out.1 hv tX hl)
                        have t0 := HG7.out.2.2.1.cell 0 (v := .pointer (some ⟨q2, 0, none⟩)) rfl
                        have p0 := HG7.out.2.2.2.cell 0 (v := .int .u64 (hiOf x.a)) rfl
                        have p1 := HG7.out.2.2.2.cell 1 (v := .int .u64 (loOf x.a)) rfl
                        have p2 := HG7.out.2.2.2.cell 2 (v := .int .i64 x.n) rfl
                        clear hx hv hl
                        gi_wp2_with fail
                        refine ⟨trivial, no_depth _, ?_⟩
                        refine C32.out.mono ?_
                        rintro e w8 ⟨rfl, H8⟩
                        clear C32 t0 p0 p1 p2
                        gi_wp2_with fail
                        go_roundw
                        case rel => exact ⟨c, _, by omega, by go_num, (⟨HF.out, H8.out.1, HG7.out.2.1.trans H8.out.2⟩ : _ ∧ _)⟩
                        case measure => simp [intOf] <;> omega
                      · have HF : Hid (S3 W l i tX tO (PutB W others j) c (upd p tX L3)) := s3_put HS7.out hx hci hv
                        clear hx hv hl
                        gi_wp2_with fail
                        go_roundw
                        case rel => exact ⟨c, _, by omega, by go_num, (⟨HF.out, HG7.out.1, HG7.out.2.1⟩ : _ ∧ _)⟩
                        case measure => simp [intOf] <;> omega
                  | zero =>
                  rw [show (((0 : Nat) : Int) - 1) = (-1 : Int) from rfl]
                  have HB3 : Hid (S3 W l i tX tO (PutB W others j) 0 L3 ∧ St.Own w wr q1 W 4096 Lt ∧ St.Own w wr q2 W 4096 L3 ∧ wr.ownsRow wa.heap.size 51 3 (.slice ba D.length bc) D.length (rowK W D) ∧ Blk wr A6 #[.bool false] 4 ∧ Blk wr Ab #[.pointer (some ⟨q2, 0, none⟩)] 70 ∧ Below w.heap.size w wr) := by
                    have hqs := HQ.out
                    have hq3 := HQ3.out
                    exact ⟨HR.out.1, HB2.out.2.1.other HB2.out.2.2.1 (by omega) HR.out.2.2, HR.out.2.1, ownsRow_kept HB2.out.2.2.2.1 HR.out.2.2 (fun k hk e => by
                      have e' : k = q2 := e
                      rw [e'] at hk
                      exact HB2.out.2.2.1.off_row HB2.out.2.2.2.1 hk), HB2.out.2.2.2.2.1.kept HR.out.2.2 (by show ¬ _ = _; omega), HB2.out.2.2.2.2.2.1.kept HR.out.2.2 (by show ¬ _ = _; omega), HR.out.2.1.be⟩
                  have HS2 : Hid (S2 W others tO Lt j L D) := HB2.out.1
                  have hDl : D.length ≤ 1000 := by have := HS2.out.2.2.1; omega
                  have HQ4 : Hid (Ab < wr.heap.size) := HB3.out.2.2.2.2.2.1.lt
                  clear HB2 HR
                  obtain ⟨wd, hwd⟩ : ∃ wd, wd = wr := ⟨_, rfl⟩
                  subst hwd
                  gi_wp2_with fail
                  gi_loopw [24] (fun b24 V => ∃ (c : Nat) (L4 : List (List Bool × ByteArray)), c ≤ D.length ∧ b24 = .int .i64 c ∧ Hid (S4 L3 D c L4 ∧ St.Own w V q2 W 4096 L4 ∧ Kept (fun k => k = q2) wd V)) (fun b24 V => D.length - (intOf b24).toNat)
                  case atStart => exact ⟨0, L3, Nat.zero_le _, rfl, (⟨s4_start, HB3.out.2.2.1, Kept.refl _ _⟩ : _ ∧ _)⟩
                  case round =>
                    obtain ⟨c, L4, hc1, rfl, HR⟩ := hrel
                    by_cases hcD : c < D.length
                    · have hcD' : (c : Int) < D.length := by omega
                      obtain ⟨p, hp⟩ : ∃ p, D[c]? = some p := ⟨_, List.getElem?_eq_getElem hcD⟩
                      have hpD : p ∈ D := List.mem_of_getElem? hp
                      have hpW := HS2.out.2.2.2.2 p hpD
                      have hlk : look p L4 = some tO := s4_look HR.out.1 HB3.out.1.1 HS2.out.2.1 hp (s3_has HB3.out.1 HS2.out HS1.out hpD)
                      have horow : wr.ownsRow wa.heap.size 51 3 (.slice ba D.length bc) D.length (rowK W D) := ownsRow_kept HB3.out.2.2.2.1 HR.out.2.2 (fun k hk e => by
                        have e' : k = q2 := e
                        rw [e'] at hk
                        exact HB3.out.2.2.1.off_row HB3.out.2.2.2.1 hk)
                      obtain ⟨g, rfl, hnb, hrow⟩ := row_at horow rfl (by omega)
                      obtain ⟨r0, r1, r2⟩ := hrow c p hp
                      rw [Nat.add_zero] at r0
                      have hqs := HQ.out
                      have hq4 := HQ4.out
                      have t0 := (HB3.out.2.2.2.2.2.1.kept HR.out.2.2 (by show ¬ _ = _; omega)).cell 0 (v := .pointer (some ⟨q2, 0, none⟩)) rfl
                      have C33 : Hid (CallsIn Fence.wide (m - 1) Try.prog 33 #[.pointer (some ⟨q2, 0, none⟩), .agg #[.int .u64 (hiOf (valOf W p)), .int .u64 (loOf (valOf W p)), .int .i64 p.length]] wr.drew fun e w' => e = .returned (.tuple #[.string ⟨#[111, 116, 104, 101, 114]⟩, .bool true]) ∧ Hid (St.Own w w' q2 W 4096 (del p L4) ∧ Kept (fun k => k = q2) wr.drew w')) := callsIn_wide.2 (St.drop3 (HR.out.2.1.below ((Below.refl _ _).drew)) hpW tO hlk)
                      have HF : Hid (S4 L3 D (c + 1) (del p L4)) := s4_step HR.out.1 hp
                      clear hrow horow hlk hpW hpD hp hqs hq4
                      gi_upto_region 34 with fail
                      refine of_nrm ?_
                      gi_region_with ((refine ⟨trivial, no_depth _, ?_⟩; gi_at_call 33; refine C33.out.mono ?_; rintro e w7 ⟨rfl, H7⟩))
                      all_goals (
                        show Exit.then _ _ Exit.normal _ _
                        gi_wp2_with fail
                        go_roundw
                        case rel => exact ⟨c + 1, _, by omega, by go_num, (⟨HF.out, H7.out.1, (HR.out.2.2.trans ((Kept.refl _ wr).drew)).trans H7.out.2⟩ : _ ∧ _)⟩
                        case measure => simp [intOf] <;> omega)
                    · have hce : c = D.length := by omega
                      subst hce
                      have hcD' : ¬ (D.length : Int) < D.length := by omega
                      have hL4 : L4 = Lt := s4_end HR.out.1 HB3.out.1 HS2.out HS1.out
                      subst hL4
                      have hqs := HQ.out
                      have hq4 := HQ4.out
                      have HB5 : Hid (St.Own w wr q1 W 4096 L4 ∧ St.Own w wr q2 W 4096 L4 ∧ Blk wr A6 #[.bool false] 4 ∧ Blk wr Ab #[.pointer (some ⟨q2, 0, none⟩)] 70 ∧ Below w.heap.size w wr) :=
                        ⟨HB3.out.2.1.other HB3.out.2.2.1 (by omega) HR.out.2.2, HR.out.2.1, HB3.out.2.2.2.2.1.kept HR.out.2.2 (by show ¬ _ = _; omega), HB3.out.2.2.2.2.2.1.kept HR.out.2.2 (by show ¬ _ = _; omega), HR.out.2.1.be⟩
                      clear HB3 HR HS2 hDl hcD hc1 hqs hq4 HQ3
                      have HX : Hid (∀ y ∈ L4, y.2 = tX) := fun y hy => ((HS1.out.2.2 y).1 hy).1
                      have HLen : Hid (L4.length ≤ 1000) := Nat.le_trans HS1.out.2.1 hn1
                      clear HS1
                      obtain ⟨⟨a1, n1, N1, hT1, hk1⟩, _, _⟩ := HB5.out.1
                      obtain ⟨⟨a2, n2, N2, hT2, hk2⟩, _, _⟩ := HB5.out.2.1
                      have HT : Hid (St.TrieAt wr q1 W 4096 a1 n1 N1 ∧ St.TrieAt wr q2 W 4096 a2 n2 N2 ∧ kept N1 = L4 ∧ kept N2 = L4) := ⟨hT1, hT2, hk1, hk2⟩
                      have hnn : N1.length = N2.length := St.same_nodes hT1 hT2 (hk1.trans hk2.symm)
                      have hN1 : L4.length ≤ N1.length ∧ (L4.length = 0 → N1.length = 0) ∧ (0 < L4.length → N1.length + 1 ≤ 2 * L4.length) ∧ N1.length ≤ 2000 := by
                        have h9 := HLen.out
                        have hc := hT1.hang.count
                        rw [hk1] at hc
                        have hle : (kept N1).length ≤ N1.length := St.kept_le N1
                        rw [hk1] at hle
                        rcases hc with hc | hc
                        · have hz : N1.length = 0 := by rw [hc]; rfl
                          omega
                        · omega
                      obtain ⟨ll, hll⟩ : ∃ ll, L4.length = ll := ⟨_, rfl⟩
                      obtain ⟨nn, hnnn⟩ : ∃ nn, N1.length = nn := ⟨_, rfl⟩
                      have CL1 : Hid (∀ (mm : Nat) (z : Grown wr), CallsIn Fence.wide mm Try.prog 34 #[.pointer (some ⟨q1, 0, none⟩)] (gw z) fun e w' => e = .returned (.int .i64 ll) ∧ Below (gw z).heap.size (gw z) w') := fun mm z => callsIn_wide.2 ((St.len_any (HT.out.1.below (gw_below z))).mono (by
                        rintro e w' ⟨rfl, rfl⟩
                        rw [hk1, hll]
                        exact ⟨rfl, Below.refl _ _⟩))
                      have CL2 : Hid (∀ (mm : Nat) (z : Grown wr), CallsIn Fence.wide mm Try.prog 34 #[.pointer (some ⟨q2, 0, none⟩)] (gw z) fun e w' => e = .returned (.int .i64 ll) ∧ Below (gw z).heap.size (gw z) w') := fun mm z => callsIn_wide.2 ((St.len_any (HT.out.2.1.below (gw_below z))).mono (by
                        rintro e w' ⟨rfl, rfl⟩
                        rw [hk2, hll]
                        exact ⟨rfl, Below.refl _ _⟩))
                      have CN1 : Hid (∀ (mm : Nat) (z : Grown wr), CallsIn Fence.wide mm Try.prog 35 #[.pointer (some ⟨q1, 0, none⟩)] (gw z) fun e w' => e = .returned (.int .i64 nn) ∧ Below (gw z).heap.size (gw z) w') := fun mm z => by
                        have := St.nodes_any (HT.out.1.below (gw_below z)) (by omega) mm
                        rw [hnnn] at this
                        exact this
                      have CN2 : Hid (∀ (mm : Nat) (z : Grown wr), CallsIn Fence.wide mm Try.prog 35 #[.pointer (some ⟨q2, 0, none⟩)] (gw z) fun e w' => e = .returned (.int .i64 nn) ∧ Below (gw z).heap.size (gw z) w') := fun mm z => by
                        have := St.nodes_any (HT.out.2.1.below (gw_below z)) (by omega) mm
                        rw [← hnn, hnnn] at this
                        exact this
                      rw [hll, hnnn] at hN1
                      obtain ⟨b1, b2, b3, b4⟩ := hN1
                      clear hT1 hT2 hnn hnnn
                      have t0 := gw_cell (HB5.out.2.2.2.1.cell 0 (v := .pointer (some ⟨q2, 0, none⟩)) rfl)
                      have HRest : Hid (∀ z : Grown wr, St.Own w (gw z) q1 W 4096 L4 ∧ St.Own w (gw z) q2 W 4096 L4 ∧ Blk (gw z) A6 #[.bool false] 4 ∧ Blk (gw z) Ab #[.pointer (some ⟨q2, 0, none⟩)] 70 ∧ Below w.heap.size w (gw z)) := fun z => by
                        obtain ⟨g1, g2, g3, g4, g5⟩ := HB5.out
                        exact ⟨g1.below (gw_below z), g2.below (gw_below z), g3.below (gw_below z), g4.below (gw_below z), bst g5 (gw_below z)⟩
                      gi_upto_region 37 with fail
                      gi_cut [204] from 173 (fun t wx => t = .bool false ∧ Hid (St.Own w wx q1 W 4096 L4 ∧ St.Own w wx q2 W 4096 L4 ∧ Blk wx A6 #[.bool false] 4 ∧ Blk wx Ab #[.pointer (some ⟨q2, 0, none⟩)] 70 ∧ Below w.heap.size w wx))
                      case first =>
                        have c0 : ll ≤ 1000 := by rw [← hll]; exact HLen.out
                        by_cases hz : ll = 0
                        · have hnz : nn = 0 := b2 hz
                          subst hz
                          subst hnz
                          clear b1 b2 b3 b4
                          refine grows_wide hmix (by kernel_rfl) ?_
                          repeat (gi_big_quiet_step (fail))
                          refine Go.BigFrame.wpQuietIn_want (fun _ _ _ _ => trivial) (by rfl) ?_
                          intro K2 hK2
                          gi_big_quiet_op
                          apply Exists.intro
                          refine ⟨fun _ => ?_, ?_⟩
                          · exact ⟨no_depth _, calls_gwIn (CL1.out _ _)⟩
                          go_big_quiet_on
                          repeat (gi_big_quiet_step (fail))
                          refine Go.BigFrame.wpQuietIn_want (fun _ _ _ _ => trivial) (by rfl) ?_
                          intro K2 hK2
                          gi_big_quiet_op
                          apply Exists.intro
                          refine ⟨fun _ => ?_, ?_⟩
                          · exact ⟨no_depth _, calls_gwIn (CL2.out _ _)⟩
                          go_big_quiet_on
                          repeat (gi_big_quiet_step (fail))
                          refine Go.BigFrame.wpQuietIn_want (fun _ _ _ _ => trivial) (by rfl) ?_
                          intro K2 hK2
                          gi_big_quiet_op
                          apply Exists.intro
                          refine ⟨fun _ => ?_, ?_⟩
                          · exact ⟨no_depth _, calls_gwIn (CN1.out _ _)⟩
                          go_big_quiet_on
                          repeat (gi_big_quiet_step (fail))
                          refine Go.BigFrame.wpQuietIn_want (fun _ _ _ _ => trivial) (by rfl) ?_
                          intro K2 hK2
                          gi_big_quiet_op
                          apply Exists.intro
                          refine ⟨fun _ => ?_, ?_⟩
                          · exact ⟨no_depth _, calls_gwIn (CN2.out _ _)⟩
                          go_big_quiet_on
                          repeat (gi_big_quiet_step (fail))
                          refine Go.BigFrame.wpQuietIn_want (fun _ _ _ _ => trivial) (by rfl) ?_
                          intro K2 hK2
                          gi_big_quiet_op
                          apply Exists.intro
                          refine ⟨fun _ => ?_, ?_⟩
                          · exact ⟨no_depth _, calls_gwIn (CL1.out _ _)⟩
                          go_big_quiet_on
                          repeat (gi_big_quiet_step (fail))
                          refine Go.BigFrame.wpQuietIn_skip (fun _ _ _ _ => trivial) (by rfl) ?_
                          go_simp
                          repeat (gi_big_quiet_step (fail))
                          refine Go.BigFrame.wpQuietIn_skip (fun _ _ _ _ => trivial) (by rfl) ?_
                          go_simp
                          repeat (gi_big_quiet_step (fail))
                          refine Go.BigFrame.wpQuietIn_want (fun _ _ _ _ => trivial) (by rfl) ?_
                          intro K2 hK2
                          gi_big_quiet_op
                          apply Exists.intro
                          refine ⟨fun _ => ?_, ?_⟩
                          · exact ⟨no_depth _, calls_gwIn (CN1.out _ _)⟩
                          go_big_quiet_on
                          repeat (gi_big_quiet_step (fail))
                          refine Go.BigFrame.wpQuietIn_want (fun _ _ _ _ => trivial) (by rfl) ?_
                          intro K2 hK2
                          gi_big_quiet_op
                          apply Exists.intro
                          refine ⟨fun _ => ?_, ?_⟩
                          · exact ⟨no_depth _, calls_gwIn (CL1.out _ _)⟩
                          go_big_quiet_on
                          repeat (gi_big_quiet_step (fail))
                          refine wpQuietIn_nil ?_
                          intro zq
                          have HZ := HRest.out zq
                          clear CL1 CL2 CN1 CN2 t0 HRest HT HB5
                          gi_wp2_with fail
                          go_meet
                          exact ⟨rfl, HZ⟩
                        · have b5 := b3 (by omega)
                          have e1 : (0 : Int) < ll := by omega
                          have e1' : 0 < ll := by omega
                          have e2 : ¬ 2 * (ll : Int) ≤ nn := by omega
                          have e2' : decide (2 * (ll : Int) ≤ nn) = false := decide_eq_false e2
                          have e3 : ¬ (nn : Int) < ll := by omega
                          have e3' : decide ((nn : Int) < ll) = false := decide_eq_false e3
                          have e4 : ¬ nn < ll := by omega
                          have e4' : decide (nn < ll) = false := decide_eq_false e4
                          clear b1 b2 b3 b4 b5
                          refine grows_wide hmix (by kernel_rfl) ?_
                          repeat (gi_big_quiet_step (fail))
                          refine Go.BigFrame.wpQuietIn_want (fun _ _ _ _ => trivial) (by rfl) ?_
                          intro K2 hK2
                          gi_big_quiet_op
                          apply Exists.intro
                          refine ⟨fun _ => ?_, ?_⟩
                          · exact ⟨no_depth _, calls_gwIn (CL1.out _ _)⟩
                          go_big_quiet_on
                          repeat (gi_big_quiet_step (fail))
                          refine Go.BigFrame.wpQuietIn_want (fun _ _ _ _ => trivial) (by rfl) ?_
                          intro K2 hK2
                          gi_big_quiet_op
                          apply Exists.intro
                          refine ⟨fun _ => ?_, ?_⟩
                          · exact ⟨no_depth _, calls_gwIn (CL2.out _ _)⟩
                          go_big_quiet_on
                          repeat (gi_big_quiet_step (fail))
                          refine Go.BigFrame.wpQuietIn_want (fun _ _ _ _ => trivial) (by rfl) ?_
                          intro K2 hK2
                          gi_big_quiet_op
                          apply Exists.intro
                          refine ⟨fun _ => ?_, ?_⟩
                          · exact ⟨no_depth _, calls_gwIn (CN1.out _ _)⟩
                          go_big_quiet_on
                          repeat (gi_big_quiet_step (fail))
                          refine Go.BigFrame.wpQuietIn_want (fun _ _ _ _ => trivial) (by rfl) ?_
                          intro K2 hK2
                          gi_big_quiet_op
                          apply Exists.intro
                          refine ⟨fun _ => ?_, ?_⟩
                          · exact ⟨no_depth _, calls_gwIn (CN2.out _ _)⟩
                          go_big_quiet_on
                          repeat (gi_big_quiet_step (fail))
                          refine Go.BigFrame.wpQuietIn_want (fun _ _ _ _ => trivial) (by rfl) ?_
                          intro K2 hK2
                          gi_big_quiet_op
                          apply Exists.intro
                          refine ⟨fun _ => ?_, ?_⟩
                          · exact ⟨no_depth _, calls_gwIn (CL1.out _ _)⟩
                          go_big_quiet_on
                          repeat (gi_big_quiet_step (fail))
                          refine Go.BigFrame.wpQuietIn_want (fun _ _ _ _ => trivial) (by rfl) ?_
                          intro K2 hK2
                          gi_big_quiet_op
                          apply Exists.intro
                          refine ⟨fun _ => ?_, ?_⟩
                          · exact ⟨no_depth _, calls_gwIn (CN1.out _ _)⟩
                          go_big_quiet_on
                          repeat (gi_big_quiet_step (fail))
                          refine Go.BigFrame.wpQuietIn_want (fun _ _ _ _ => trivial) (by rfl) ?_
                          intro K2 hK2
                          gi_big_quiet_op
                          apply Exists.intro
                          refine ⟨fun _ => ?_, ?_⟩
                          · exact ⟨no_depth _, calls_gwIn (CL1.out _ _)⟩
                          go_big_quiet_on
                          repeat (gi_big_quiet_step (fail))
                          refine Go.BigFrame.wpQuietIn_want (fun _ _ _ _ => trivial) (by rfl) ?_
                          intro K2 hK2
                          gi_big_quiet_op
                          apply Exists.intro
                          refine ⟨fun _ => ?_, ?_⟩
                          · exact ⟨no_depth _, calls_gwIn (CN1.out _ _)⟩
                          go_big_quiet_on
                          repeat (gi_big_quiet_step (fail))
                          refine Go.BigFrame.wpQuietIn_want (fun _ _ _ _ => trivial) (by rfl) ?_
                          intro K2 hK2
                          gi_big_quiet_op
                          apply Exists.intro
                          refine ⟨fun _ => ?_, ?_⟩
                          · exact ⟨no_depth _, calls_gwIn (CL1.out _ _)⟩
                          go_big_quiet_on
                          repeat (gi_big_quiet_step (fail))
                          refine wpQuietIn_nil ?_
                          intro wq hwq
                          obtain ⟨zq, rfl⟩ := hwq
                          have HZ := HRest.out zq
                          clear CL1 CL2 CN1 CN2 t0 HRest HT HB5
                          gi_wp2_with fail
                          go_meet
                          exact ⟨rfl, HZ⟩
                      case rest =>
                        obtain ⟨rfl, HZ⟩ := hcut
                        clear CL1 CL2 CN1 CN2 t0 HRest HT HB5 b1 b2 b3 b4
                        have C36 : Hid (CallsIn Fence.wide (m - 1) Try.prog 36 #[.pointer (some ⟨q1, 0, none⟩)] wc fun e w' => ∃ D1 E1, e = .returned (.func (.func 79) #[] #[.pointer (some ⟨D1, 0, none⟩), .pointer (some ⟨E1, 0, none⟩)]) ∧ Hid (Blk w' D1 #[.pointer (some ⟨q1, 0, none⟩)] 70 ∧ Blk w' E1 #[.int .u64 (hiOf (valOf W [])), .int .u64 (loOf (valOf W [])), .int .i64 (([] : List Bool).length : Nat)] 51 ∧ Below wc.heap.size wc w')) := callsIn_wide.2 ((St.all_any (some ⟨q1, 0, none⟩) wc).mono (by
                          rintro e w' ⟨rfl, g1, g2, g3⟩
                          exact ⟨_, _, rfl, (⟨g1, by rw [val_nil]; exact g2, g3⟩ : _ ∧ _)⟩))
                        have fe := fun g caps => fn_eql77 g caps
                        gi_wp2_with fail
                        refine ⟨trivial, no_depth _, ?_⟩
                        refine C36.out.mono ?_
                        rintro e w6 ⟨D1, E1, rfl, H6⟩
                        clear C36
                        have HN := one_new w6 #[.int .i64 0] 3
                        have hb7 := HN.2.1
                        gi_upto_region 43 with fail
                        generalize (w6.alloc _) = w7 at HN hb7 ⊢
                        have HZ7 : Hid (St.Own w w7 q1 W 4096 L4 ∧ St.Own w w7 q2 W 4096 L4 ∧ Blk w7 A6 #[.bool false] 4 ∧ Blk w7 Ab #[.pointer (some ⟨q2, 0, none⟩)] 70 ∧ Below w.heap.size w w7 ∧ Blk w7 w6.heap.size #[.int .i64 0] 3) := by
                          obtain ⟨g1, g2, g3, g4, g5⟩ := HZ.out
                          have b := bst H6.out.2.2 hb7
                          exact ⟨g1.below b, g2.below b, g3.below b, g4.below b, bst g5 b, HN.1⟩
                        have hAk := HN.1.lt
                        have hs6 : Ab < w6.heap.size ∧ A6 < w6.heap.size ∧ q1 < w6.heap.size ∧ q2 < w6.heap.size ∧ wc.heap.size ≤ w6.heap.size := by
                          obtain ⟨g1, g2, g3, g4, g5⟩ := HZ.out
                          have b := H6.out.2.2.size
                          have := g1.lt
                          have := g2.lt
                          have := g3.lt
                          have := g4.lt
                          omega
                        have HSz : Hid (Ab < w6.heap.size ∧ A6 < w6.heap.size ∧ q1 < w6.heap.size ∧ q2 < w6.heap.size) := ⟨hs6.1, hs6.2.1, hs6.2.2.1, hs6.2.2.2.1⟩
                        obtain ⟨⟨a7, n7, N7, hT7, hk7⟩, _, _⟩ := HZ7.out.1
                        have hoff : Off (fun k => k = w6.heap.size) N7 := by
                          obtain ⟨⟨a8, n8, N8, hT8, hk8⟩, _, _⟩ := HZ.out.1
                          exact fun x hx => by
                            obtain ⟨b0, b1, hn⟩ := hT7.hang.thing x hx
                            have hb := HZ7.out.2.2.2.2.2
                            refine ⟨fun e => ?_, fun t v ht e => ?_⟩
                            · have e' : x.blk = w6.heap.size := e
                              have h := hn.cells
                              unfold Blk at h hb
                              rw [e', hb] at h
                              cases h
                            · have e' : t = w6.heap.size := e
                              have h := hn.thing t v ht
                              unfold Blk at h hb
                              rw [e', hb] at h
                              cases h
                        have hseq := St.under_tellsG 51 (by decide) (by decide) hT7 (p := []) (Nat.zero_le _) D1 E1 (H6.out.1.below hb7) (H6.out.2.1.below hb7) (fun k => k = w6.heap.size) (fun k e => by have e' : k = w6.heap.size := e; omega) hoff
                        rw [und_nil, hk7] at hseq
                        have HLens : Hid (∀ y ∈ L4, y.1.length ≤ W) := fun y hy => by
                          rw [← hk7] at hy
                          obtain ⟨x, g1, g2⟩ := kept_key hy
                          rw [← g2]; exact hT7.hang.lens x g1
                        clear HZ H6 HN hb7 hoff hs6 hT7 hk7
                        generalize w6.heap.size = Ak at *
                        gi_wp2_with fail
                        refine rangeG_outer (gt := 51) (gf := 79) (lb := #[.pointer (some ⟨D1, 0, none⟩), .pointer (some ⟨E1, 0, none⟩)]) (encs := fun y : List Bool × ByteArray => #[Pf (valOf W y.1) y.1.length, .string y.2]) (xs := L4) (S := fun k => k = Ak) rfl (enters_of Try.func79 (by kernel_rfl) rfl)
                          (fun k e => by have e' : k = Ak := e; omega) hseq (Below.refl _ _) (fun _ => rfl)
                          (CntS w7 Ak) (fun c pre W' => False) (cntS_low hAk) (fun c => (low_pure _ _).g)
                          ⟨HZ7.out.2.2.2.2.2, Kept.refl _ _⟩ ?round ?done ?stop
                        case stop =>
                          rintro c pre W' _ hf
                          exact hf.elim
                        case round =>
                          rintro l' pre x W' K hl' ⟨rl, hlp⟩ hz hpre ⟨b0, hK⟩ hKK
                          obtain ⟨c, v⟩ := x
                          have hcM : (c, v) ∈ L4 := hpre.subset (by simp)
                          have hc : c.length ≤ W := HLens.out _ hcM
                          have hv : v = tX := HX.out _ hcM
                          subst hv
                          have hcnt : pre.length + 1 ≤ 1000 := by
                            have g1 := hpre.length_le
                            have g2 := HLen.out
                            rw [List.length_append, List.length_singleton] at g1
                            omega
                          have hlp' := (Array.getElem?_eq_some_iff.1 hlp).1
                          have HN := one_new W' #[.int .u64 (hiOf (valOf W c)), .int .u64 (loOf (valOf W c)), .int .i64 c.length] 51
                          simp only [List.zip_toArray, List.zip_cons_cons, List.zip_nil_right, List.foldl_toArray', List.foldl_toArray, List.foldl_cons, List.foldl_nil, List.setIfInBounds_toArray, List.set_cons_succ, List.set_cons_zero]
                          gi_wp2_with fail
                          refine hKK _ _ (Kept.of_below HN.2.1) ?_
                          intro Wb hkb hrec
                          have hKW : Kept (fun k => k = l') W' Wb := (Kept.of_below HN.2.1).trans hkb
                          have hKb : Kept (fun k => k = Ak) w7 Wb := ⟨hKW.os.trans hK.os, hKW.tape.trans hK.tape, hKW.output.trans hK.output, Nat.le_trans hK.size hKW.size, fun k hk hs => (hKW.block k (Nat.lt_of_lt_of_le hk hK.size) (fun e => by have e' : k = l' := e; omega)).trans (hK.block k hk hs)⟩
                          have hsz := HSz.out
                          have HE : Hid (Blk Wb Ak #[.int .i64 pre.length] 3 ∧ Blk Wb W'.heap.size #[.int .u64 (hiOf (valOf W c)), .int .u64 (loOf (valOf W c)), .int .i64 c.length] 51 ∧ Kept (fun k => k = Ak) w7 Wb ∧ Blk Wb Ab #[.pointer (some ⟨q2, 0, none⟩)] 70) :=
                            ⟨(b0.below HN.2.1).kept hkb (by show ¬ _ = _; omega), HN.1.kept hkb (by show ¬ _ = _; omega), hKb, HZ7.out.2.2.2.1.kept hKb (by show ¬ _ = _; omega)⟩
                          have C31 : Hid (∀ (jj mm : Nat), CallsIn (Fence.wide.inRound jj) mm Try.prog 31 #[.pointer (some ⟨q2, 0, none⟩), Pf (valOf W c) c.length] Wb fun e w' => e = .returned (.tuple #[.string ⟨#[120]⟩, .bool true]) ∧ Below Wb.heap.size Wb w') := fun jj mm => CallsIn.inRound jj (callsIn_wide.2 (by
                            obtain ⟨⟨a8, n8, N8, hT8, hk8⟩, _, _⟩ := HZ7.out.2.1
                            have hB := HZ7.out.2.2.2.2.2
                            have hoff8 : Off (fun k => k = Ak) N8 := fun x hx => by
                              obtain ⟨b0, b1, hn⟩ := hT8.hang.thing x hx
                              refine ⟨fun e => ?_, fun t v ht e => ?_⟩
                              · have e' : x.blk = Ak := e
                                have h := hn.cells
                                unfold Blk at h hB
                                rw [e', hB] at h
                                cases h
                              · have e' : t = Ak := e
                                have h := hn.thing t v ht
                                unfold Blk at h hB
                                rw [e', hB] at h
                                cases h
                            have := St.get_yes (hT8.kept' hKb (fun e => by have e' : q2 = Ak := e; omega) hoff8) hc
                            rw [hk8, look_mem (by rw [← hk8]; exact hT8.hang.srt) hcM] at this
                            exact this))
                          generalize W'.heap.size = Ap at *
                          have t0 := HE.out.2.2.2.cell 0 (v := .pointer (some ⟨q2, 0, none⟩)) rfl
                          have p0 := HE.out.2.1.cell 0 (v := .int .u64 (hiOf (valOf W c))) rfl
                          have p1 := HE.out.2.1.cell 1 (v := .int .u64 (loOf (valOf W c))) rfl
                          have p2 := HE.out.2.1.cell 2 (v := .int .i64 c.length) rfl
                          clear b0 hK hKK hkb hrec hKW hKb HN hpre hz hl' hlp hlp' hcM hc rl hsz hseq
                          gi_wp2_with fail
                          refine ⟨trivial, no_depth _, ?_⟩
                          refine (C31.out _ _).mono ?_
                          rintro e Wc ⟨rfl, Hc⟩
                          clear t0 p0 p1 p2 C31
                          have HE2 : Hid (Blk Wc Ak #[.int .i64 pre.length] 3 ∧ Kept (fun k => k = Ak) w7 Wc ∧ Below Wb.heap.size Wb Wc) := ⟨HE.out.1.below Hc, HE.out.2.2.1.trans (Kept.of_below Hc), Hc⟩
                          have n0 := HE2.out.1.cell 0 (v := .int .i64 pre.length) rfl
                          have f0 := HE2.out.1.frozen 0
                          clear HE Hc
                          gi_wp2_with fail
                          have e1 : (pre ++ [(c, tX)]).length = pre.length + 1 := by simp
                          have k5 : Kept (fun k => k = Ak) Wc (Wc.setCell ⟨Ak, 0, none⟩ (.int .i64 ((pre.length : Int) + 1))) := (Kept.refl (fun k => k = Ak) Wc).set (p := ⟨Ak, 0, none⟩) rfl _
                          refine ⟨(Kept.of_below HE2.out.2.2).trans (k5.mono fun k _ e => .inl e), ?_, HE2.out.2.1.trans k5⟩
                          have := HE2.out.1.set 0 (.int .i64 ((pre.length : Int) + 1))
                          rw [e1]
                          exact this
                        case done =>
                          rintro W' ⟨b0, hK⟩ hks hD'
                          have hsz := HSz.out
                          have HQ5 := HQ.out
                          have hl7 : w7.heap.size < W'.heap.size := (Array.getElem?_eq_some_iff.1 hD').1
                          rw [hll] at b0
                          have HZ8 : Hid (Blk W' Ak #[.int .i64 ll] 3 ∧ Blk W' A6 #[.bool false] 4 ∧ W'.heap[w7.heap.size]? = some (.deferred (some [])) ∧ Below w.heap.size w W') :=
                            ⟨b0, HZ7.out.2.2.1.kept hK (by show ¬ _ = _; omega), hD', HZ7.out.2.2.2.2.1.trans (hK.below HZ7.out.2.2.2.2.1.size (fun k e => by have e' : k = Ak := e; omega))⟩
                          have C34 : Hid (∀ (mm : Nat) (z : Grown W'), CallsIn Fence.wide mm Try.prog 34 #[.pointer (some ⟨q1, 0, none⟩)] (gw z) fun e w' => e = .returned (.int .i64 ll) ∧ Below (gw z).heap.size (gw z) w') := fun mm z => callsIn_wide.2 (by
                            obtain ⟨⟨a8, n8, N8, hT8, hk8⟩, _, _⟩ := HZ7.out.1
                            have hB := HZ7.out.2.2.2.2.2
                            have hoff8 : Off (fun k => k = Ak) N8 := fun x hx => by
                              obtain ⟨b0, b1, hn⟩ := hT8.hang.thing x hx
                              refine ⟨fun e => ?_, fun t v ht e => ?_⟩
                              · have e' : x.blk = Ak := e
                                have h := hn.cells
                                unfold Blk at h hB
                                rw [e', hB] at h
                                cases h
                              · have e' : t = Ak := e
                                have h := hn.thing t v ht
                                unfold Blk at h hB
                                rw [e', hB] at h
                                cases h
                            refine (St.len_any ((hT8.kept' hK (fun e => by have e' : q1 = Ak := e; omega) hoff8).below (gw_below z))).mono ?_
                            rintro e w' ⟨rfl, rfl⟩
                            rw [hk8, hll]
                            exact ⟨rfl, Below.refl _ _⟩)
                          have HLs : Hid (A6 < w7.heap.size ∧ w.heap.size ≤ A6 ∧ w.heap.size ≤ w7.heap.size) := ⟨by omega, by omega, HZ7.out.2.2.2.2.1.size⟩
                          have n0 := gw_cell (HZ8.out.1.cell 0 (v := .int .i64 ll) rfl)
                          clear b0 hK hks hD' hseq hsz HQ5 hl7
                          gi_upto_region 50 with fail
                          refine gate_wide 4 hmix (by kernel_rfl) (by kernel_rfl) (by kernel_rfl) ?_
                          simp only [List.take_succ_cons, List.take_zero]
                          repeat (gi_big_quiet_step (fail))
                          refine Go.BigFrame.wpQuietIn_want (fun _ _ _ _ => trivial) (by rfl) ?_
                          intro K2 hK2
                          gi_big_quiet_op
                          apply Exists.intro
                          refine ⟨fun _ => ?_, ?_⟩
                          · exact ⟨no_depth _, calls_gwIn (C34.out _ _)⟩
                          go_big_quiet_on
                          repeat (gi_big_quiet_step (fail))
                          refine wpQuietIn_nil ?_
                          intro wq hwq
                          obtain ⟨zq, rfl⟩ := hwq
                          have HZ4 : Hid (Blk (gw zq) A6 #[.bool false] 4 ∧ (gw zq).heap[w7.heap.size]? = some (.deferred (some [])) ∧ Below w.heap.size w (gw zq)) := by
                            obtain ⟨_, h6, h10, h13⟩ := HZ8.out
                            have kb := gw_below zq
                            exact ⟨h6.below kb, (kb.block _ (Array.getElem?_eq_some_iff.1 h10).1).trans h10, bst h13 kb⟩
                          clear C34 n0 HZ8
                          generalize gw zq = W5 at *
                          have f0 := HZ4.out.1.frozen 0
                          have c0 := HZ4.out.1.cell 0 (v := .bool false) rfl
                          change wpAnyIn _ _ _ _ _ _ 1 (upTo 4 1) _ _
                          refine wpAnyIn_ready (rs := [4]) (by kernel_rfl) (by simp) ?_
                          refine AllReadyIn.cons rfl (fun K5 hK5 => ?_) AllReadyIn.nil
                          go_simp
                          refine hK5 _ _ ?_
                          clear hK5 K5
                          refine wpAnyIn_done (by kernel_rfl) ?_ _
                          have HF : Hid (Blk (W5.setCell ⟨A6, 0, none⟩ (.bool true)) A6 #[.bool true] 4 ∧ (W5.setCell ⟨A6, 0, none⟩ (.bool true)).heap[w7.heap.size]? = some (.deferred (some [])) ∧ Below w.heap.size w (W5.setCell ⟨A6, 0, none⟩ (.bool true))) := by
                            obtain ⟨h1, h10, h13⟩ := HZ4.out
                            have hb := HLs.out
                            have ks := (Kept.refl (fun k => k = A6) W5).set (p := ⟨A6, 0, none⟩) rfl (.bool true)
                            exact ⟨h1.set 0 _, (ks.block _ (Array.getElem?_eq_some_iff.1 h10).1 (by show ¬ _ = _; omega)).trans h10, h13.setCell hb.2.1 _⟩
                          clear f0 c0 HZ4
                          gi_wp2_with fail
                          generalize W5.setCell _ _ = W6 at HF ⊢
                          have hb := HLs.out
                          refine ⟨by simp, .inl ⟨_, _, rfl, run_takeDeferred HF.out.2.1, ?_⟩⟩
                          have hkk := kept_putObj (fun k => w7.heap.size ≤ k) W6 w7.heap.size (.deferred none) (Nat.le_refl _)
                          have z1 := (HF.out.1.kept hkk (by show ¬ _ ≤ _; omega)).cell 0 (v := .bool true) rfl
                          refine ⟨.bool true, ?_, rfl, HF.out.2.2.trans (hkk.below HF.out.2.2.size (fun k e => by have e' : w7.heap.size ≤ k := e; omega))⟩
                          simp [results, Try.results6, go_sem, z1]
end Go.Proofs.Ytgdpplipahhffaa
