/- TrieLongest's walk. -/
import Derived.Test.YtgdpplipahhffaaLr
import Derived.Deep.CutRange
namespace Go.Proofs.Ytgdpplipahhffaa
open Go.RowKit
set_option linter.unusedVariables false
set_option linter.unusedSimpArgs false

theorem hits_len {W a : Nat} (L : List (List Bool × Int)) : (hitsL W a L).length ≤ L.length := by
  unfold hitsL; split
  · exact List.length_filter_le _ _
  · exact Nat.zero_le _
set_option maxHeartbeats 8000000 in
set_option maxRecDepth 100000 in
theorem long_walk (Wd : Int) (sv : Value) (l : List OpD) (a : Nat) (w : World) (hW : Okn Wd) (hl : OpRow w sv l) (ha : Is128 a) : Calls Try.prog 5 #[.int .i64 Wd, sv, B a] w fun e w' => e = .returned (.bool true) ∧ Below w.heap.size w w' := by
  obtain ⟨⟨ad, cap, rfl, hcap, hcells⟩, hlb⟩ := hl
  have HL : Hid (l = [] ∨ ∃ b o, ad = some ⟨b, o, none⟩ ∧ ∀ i x, l[i]? = some x → ∃ cs, cs.size = 5 ∧ (∀ j u, cs[j]? = some u → w.cell? ⟨b, o + i * 5 + j, none⟩ = some u) ∧ cs = opC x ∧ OpOk x) := hcells
  have HB : Hid _ := one_new w #[.int .u64 (hiOf a), .int .u64 (loOf a)] 33
  have CL : Hid (∀ w1, Calls Try.prog 9 #[] w1 fun e w' => e = .returned (.bool true) ∧ Below w1.heap.size w1 w') := fun w1 => live_any w1
  unfold Len at hlb
  clear hcells
  go_enter Try.func5, Try.ntmps5
  go_upto_region 1 with fail
  generalize (w.alloc _) = w0 at HB ⊢
  go_wp2_with fail
  refine (CL.out _).mono ?_
  rintro e w1 ⟨rfl, H1⟩
  have HB1 : Hid (Blk w1 w.heap.size #[.int .u64 (hiOf a), .int .u64 (loOf a)] 33 ∧ Below w.heap.size w w1) := ⟨HB.out.1.below H1, bst HB.out.2.1 H1⟩
  clear HB CL H1
  by_cases hbad : Wd < 1 ∨ 128 < Wd
  · have C10 : Hid (Calls Try.prog 10 #[.int .i64 Wd, .int .i64 4096] w1 fun e w' => e = .returned (.tuple #[.pointer none, .int .i64 1]) ∧ w' = w1) := new_bad Wd 4096 (by omega) w1
    have key : Wd < 1 ∨ (¬ Wd < 1 ∧ 128 < Wd) := by omega
    have HF : Hid (Below w.heap.size w w1) := HB1.out.2
    clear HB1 HL hbad
    go_wp2_with fail
    refine C10.out.mono ?_
    rintro e w2 ⟨rfl, rfl⟩
    clear C10
    rcases key with h | ⟨h, h2⟩
    all_goals (
      go_wp2
      go_ret
      exact ⟨rfl, HF.out⟩)
  · obtain ⟨W, rfl⟩ := Int.eq_ofNat_of_zero_le (show 0 ≤ Wd by omega)
    have h1 : 1 ≤ W := by omega
    have h2 : W ≤ 128 := by omega
    have C10 : Hid (Calls Try.prog 10 #[.int .i64 W, .int .i64 4096] w1 fun e w' => e = .returned (.tuple #[.pointer (some ⟨w1.heap.size, 0, none⟩), .int .i64 0]) ∧ Hid (TrieAt w' w1.heap.size W 4096 none 0 [] ∧ Below w1.heap.size w1 w')) := (new_ok W 4096 h1 h2 (by omega) (by omega) w1).mono (by
      rintro e w' ⟨rfl, g1, g2⟩
      exact ⟨rfl, (⟨g1, g2⟩ : _ ∧ _)⟩)
    go_wp2_with fail
    refine C10.out.mono ?_
    rintro e w2 ⟨rfl, H2⟩
    clear C10
    have hq1 := HB1.out.1.lt
    have HB2 : Hid (Blk w2 w.heap.size #[.int .u64 (hiOf a), .int .u64 (loOf a)] 33 ∧ Below w.heap.size w w2 ∧ w.heap.size < w1.heap.size ∧ Own w w2 w1.heap.size W 4096 []) := ⟨HB1.out.1.below H2.out.2, bst HB1.out.2 H2.out.2, hq1, ⟨⟨none, 0, [], H2.out.1, rfl⟩, bst HB1.out.2 H2.out.2, HB1.out.2.size⟩⟩
    clear H2 HB1
    generalize w1.heap.size = q at *
    have CB : Hid (∀ w1, Calls Try.prog 23 #[B a, .int .i64 W] w1 fun e w' => e = .returned (.tuple #[.string (bitsT W a), .bool (fitsN a W)]) ∧ Below w1.heap.size w1 w') := fun w1 => rbits_any a ha W h1 h2 w1
    obtain ⟨ts, hts⟩ : ∃ ts, bitsT W a = ts := ⟨_, rfl⟩
    obtain ⟨fb, hfb⟩ : ∃ fb, fitsN a W = fb := ⟨_, rfl⟩
    have HT : Hid (bitsT W a = ts ∧ fitsN a W = fb) := ⟨hts, hfb⟩
    rw [hts, hfb] at CB
    clear hts hfb hq1
    have x0 := HB2.out.1.cell 0 (v := .int .u64 (hiOf a)) rfl
    have x1 := HB2.out.1.cell 1 (v := .int .u64 (loOf a)) rfl
    go_wp2_with fail
    refine (CB.out _).mono ?_
    rintro e w3 ⟨rfl, H3⟩
    have HB3 : Hid (Blk w3 w.heap.size #[.int .u64 (hiOf a), .int .u64 (loOf a)] 33 ∧ w.heap.size < q ∧ Own w w3 q W 4096 []) := ⟨HB2.out.1.below H3, HB2.out.2.2.1, HB2.out.2.2.2.below H3⟩
    clear CB H3 HB2 x0 x1 hbad
    go_upto_region 10 with fail
    go_loopw [12, 13, 14, 15] (fun b12 b13 b14 b15 wr => ∃ (k : Nat) (L : List (List Bool × Int)), k ≤ l.length ∧ k ≤ 2000 ∧ b15 = .int .i64 k ∧ b14 = .int .i64 (hitsL W a L).length ∧ b12 = .int .i64 (bestOf (hitsL W a L).getLast?).1 ∧ b13 = .int .i64 (bestOf (hitsL W a L).getLast?).2 ∧ Hid (L.length ≤ k ∧ Own w wr q W 4096 L ∧ Blk wr w.heap.size #[.int .u64 (hiOf a), .int .u64 (loOf a)] 33)) (fun b12 b13 b14 b15 wr => 2000 - (intOf b15).toNat)
    case atStart =>
      have e : hitsL W a [] = [] := by unfold hitsL; split <;> rfl
      exact ⟨0, [], by omega, by omega, rfl, by rw [e]; rfl, by rw [e]; rfl, by rw [e]; rfl, (⟨Nat.le_refl _, HB3.out.2.2, HB3.out.1⟩ : _ ∧ _)⟩
    case round =>
      obtain ⟨k, L, hk1, hk2, rfl, rfl, rfl, rfl, HR⟩ := hrel
      by_cases hk : k < l.length ∧ k < 2000
      · obtain ⟨x, hx⟩ : ∃ x, l[k]? = some x := ⟨_, List.getElem?_eq_getElem hk.1⟩
        have hne : l ≠ [] := fun e => by rw [e] at hx; cases hx
        obtain ⟨b, o, rfl, hcs⟩ := HL.out.resolve_left hne
        obtain ⟨cs, _, hc, rfl, hok⟩ := hcs k x hx
        obtain ⟨kd, av, n, vv⟩ := x
        have blt : b < w.heap.size := World.block_lt_of_cell? w _ (hc 1 _ rfl)
        have hi1 : (k : Int) < l.length := by omega
        have hi2 : (k : Int) < 2000 := by omega
        have pres : ∀ {j : Nat} {u : Value}, (opC ⟨kd, av, n, vv⟩)[j]? = some u → wr.cell? ⟨b, o + k * 5 + j, none⟩ = some u := fun {j u} h => (World.cell?_of_block (HR.out.2.1.be.block b (World.block_lt_of_cell? w _ (hc j u h)))).trans (hc j u h)
        have c1 := pres (j := 1) rfl
        have c2 := pres (j := 2) rfl
        have c3 := pres (j := 3) rfl
        have hlo := hi1
        have CP : Hid (Calls Try.prog 24 #[.pointer (some ⟨q, 0, none⟩), .agg #[.int .u64 (hiOf av), .int .u64 (loOf av), .int .i64 n], .int .i64 k] wr.drew fun e w' => ∃ c : Int, e = .returned (.int .i64 c) ∧ Hid (∃ L', Own w w' q W 4096 L' ∧ ((c = 111 ∧ isP W av n = false ∧ L' = L) ∨ (c = 121 ∧ isP W av n = true ∧ L' = L) ∨ (c = 0 ∧ ∃ p : List Bool, p.length ≤ W ∧ av = valOf W p ∧ n = p.length ∧ look p L = none ∧ L' = upd p (k : Int) L)) ∧ Kept (fun k => k = q) wr.drew w')) :=
          put_all (HR.out.2.1.below ((Below.refl _ _).drew)) ⟨h1, h2⟩ (by have := HR.out.1; omega) av hok.1 n k
        clear pres hc hne hx
        go_wp2_with fail
        go_cut [16] from 58 to 127 (fun t wx => ∃ c : Int, t = .int .i64 c ∧ Hid (∃ L', Own w wx q W 4096 L' ∧ ((c = 111 ∧ isP W av n = false ∧ L' = L) ∨ (c = 121 ∧ isP W av n = true ∧ L' = L) ∨ (c = 0 ∧ ∃ p : List Bool, p.length ≤ W ∧ av = valOf W p ∧ n = p.length ∧ look p L = none ∧ L' = upd p (k : Int) L)) ∧ Kept (fun k => k = q) wr wx))
        case first =>
          go_region_with (go_at_call 24; refine CP.out.mono ?_; rintro e w4 ⟨c, rfl, HP4⟩)
          all_goals (
            go_wp2_with fail
            go_meet
            exact ⟨c, rfl, Exists.imp (fun L' h => ⟨h.1, h.2.1, ((Kept.refl _ wr).drew).trans h.2.2⟩) HP4.out⟩)
        case rest =>
          obtain ⟨c, rfl, HP⟩ := hcut
          obtain ⟨L', hO, hcase, hkq⟩ := HP.out
          have c1' := hO.be.block
          have hbx : ∀ {j : Nat} {u : Value}, wr.cell? ⟨b, o + k * 5 + j, none⟩ = some u → b < w.heap.size → wc.cell? ⟨b, o + k * 5 + j, none⟩ = some u := fun {j u} h hb => hkq.cell h (fun e => by have e' : b = q := e; have := HR.out.2.1.lo; omega)
          have d1 := hbx c1 blt
          have d2 := hbx c2 blt
          have d3 := hbx c3 blt
          have CT : Hid (∀ w1, Calls Try.prog 25 #[B av, .int .i64 n, .int .i64 W] w1 fun e w' => e = .returned (.tuple #[.string (textT W av n), .bool (isP W av n)]) ∧ Below w1.heap.size w1 w') := fun w1 => rtext_any av hok.1 n W h1 h2 w1
          have HQ : Hid (L.length ≤ k ∧ Own w wc q W 4096 L' ∧ Blk wc w.heap.size #[.int .u64 (hiOf a), .int .u64 (loOf a)] 33 ∧ ((c = 111 ∧ isP W av n = false ∧ L' = L) ∨ (c = 121 ∧ isP W av n = true ∧ L' = L) ∨ (c = 0 ∧ ∃ p : List Bool, p.length ≤ W ∧ av = valOf W p ∧ n = p.length ∧ look p L = none ∧ L' = upd p (k : Int) L)) ∧ Srt L) := by
            refine ⟨HR.out.1, hO, HR.out.2.2.kept hkq (fun e => by have e' : w.heap.size = q := e; have := HB3.out.2.1; omega), hcase, ?_⟩
            obtain ⟨⟨a', n', N', hT, e⟩, _, _⟩ := HR.out.2.1
            rw [← e]; exact hT.hang.srt
          clear c1 c2 c3 hbx hkq hO hcase c1' HP
          go_wp2_with fail
          go_cut [17, 18] from 58 to 127 (fun t u wx => t = .string (textT W av n) ∧ u = .bool (isP W av n) ∧ Hid (Below wc.heap.size wc wx))
          case first =>
            go_region_with (go_at_call 25; refine (CT.out _).mono ?_; rintro e w4 ⟨rfl, HT4⟩)
            all_goals (
              go_wp2_with fail
              go_meet
              exact ⟨rfl, rfl, bst ((Below.refl _ wc).drew) HT4⟩)
          case rest =>
            obtain ⟨rfl, rfl, hb4⟩ := hcut
            have HQ2 : Hid (L.length ≤ k ∧ Own w wc q W 4096 L' ∧ Blk wc w.heap.size #[.int .u64 (hiOf a), .int .u64 (loOf a)] 33) := ⟨HQ.out.1, HQ.out.2.1.below hb4.out, HQ.out.2.2.1.below hb4.out⟩
            have hsrt := HQ.out.2.2.2.2
            have hcase := HQ.out.2.2.2.1
            clear HQ CT d1 d2 d3 HR hb4
            rcases hcase with ⟨rfl, hP, rfl⟩ | ⟨rfl, hP, rfl⟩ | ⟨rfl, p, hp, rfl, rfl, hlk, rfl⟩
            · rw [hP]
              generalize textT W av n = pt
              clear hP
              go_wp2_with fail
              go_roundw
              case rel => exact ⟨k + 1, L', by omega, by omega, by go_num, rfl, rfl, rfl, (⟨by have := HQ2.out.1; omega, HQ2.out.2⟩ : _ ∧ _)⟩
              case measure => simp [intOf]; omega
            · rw [hP]
              generalize textT W av n = pt
              clear hP
              go_wp2_with fail
              go_roundw
              case rel => exact ⟨k + 1, L', by omega, by omega, by go_num, rfl, rfl, rfl, (⟨by have := HQ2.out.1; omega, HQ2.out.2⟩ : _ ∧ _)⟩
              case measure => simp [intOf]; omega
            · rw [isP_mk hp, text_mk hp]
              have HLN : Hid ((upd p (k : Int) L).length ≤ k + 1) := (by
                rw [len_upd hsrt, hlk]
                have := HQ2.out.1
                show L.length + 1 ≤ k + 1
                omega : (upd p (k : Int) L).length ≤ k + 1)
              cases fb
              · have e : hitsL W a (upd p (k : Int) L) = hitsL W a L := hits_off hsrt hlk (fun h => by rw [HT.out.2] at h; cases h.1)
                have HE : Hid (hitsL W a (upd p (k : Int) L) = hitsL W a L) := e
                generalize tx p = pt
                clear hlk hsrt e
                go_wp2_with fail
                go_roundw
                case rel => exact ⟨k + 1, _, by omega, by omega, by go_num, by rw [HE.out], by rw [HE.out], by rw [HE.out], (⟨HLN.out, HQ2.out.2⟩ : _ ∧ _)⟩
                case measure => simp [intOf]; omega
              · have hts : ts = tx (bitsOf W a) := by rw [← HT.out.1]; unfold bitsT; rw [HT.out.2]; rfl
                have hsz : (tx p).size = p.length := tx_size p
                have htz : ts.size = W := by rw [hts, tx_size, bits_len]
                have hle : (p.length : Int) ≤ ts.size := by omega
                have hx : ts.extract 0 p.length = tx ((bitsOf W a).take p.length) := by rw [hts, tx_take]
                by_cases hpre : p <+: bitsOf W a
                · have hx2 : ts.extract 0 p.length = tx p := by
                    rw [hx]; congr 1
                    exact (List.prefix_iff_eq_take.1 hpre).symm
                  have HP2 : Hid _ := hits_put (v := (k : Int)) hsrt hlk HT.out.2 hpre
                  generalize tx p = pt at *
                  clear hlk hsrt hx hts hpre
                  have hhl : (hitsL W a L).length ≤ 2000 := by
                    have h1 := hits_len (W := W) (a := a) L
                    have := HQ2.out.1
                    omega
                  by_cases hbb : (bestOf (hitsL W a L).getLast?).1 < (p.length : Int)
                  · have hbb2 : (bestOf (hitsL W a L).getLast?).1 < (pt.size : Int) := by omega
                    have HB2 : Hid (bestOf (hitsL W a (upd p (k : Int) L)).getLast? = ((p.length : Int), (k : Int))) := HP2.out.2.trans (if_pos hbb)
                    generalize hbo : bestOf (hitsL W a L).getLast? = bo at *
                    go_wp2_with fail
                    go_roundw
                    case rel => exact ⟨k + 1, _, by omega, by omega, by go_num, by rw [HP2.out.1]; go_num, by rw [HB2.out], by rw [HB2.out], (⟨HLN.out, HQ2.out.2⟩ : _ ∧ _)⟩
                    case measure => simp [intOf]; omega
                  · have hbb2 : ¬ (bestOf (hitsL W a L).getLast?).1 < (pt.size : Int) := by omega
                    have HB2 : Hid (bestOf (hitsL W a (upd p (k : Int) L)).getLast? = bestOf (hitsL W a L).getLast?) := HP2.out.2.trans (if_neg hbb)
                    generalize hbo : bestOf (hitsL W a L).getLast? = bo at *
                    go_wp2_with fail
                    go_roundw
                    case rel => exact ⟨k + 1, _, by omega, by omega, by go_num, by rw [HP2.out.1]; go_num, by rw [HB2.out], by rw [HB2.out], (⟨HLN.out, HQ2.out.2⟩ : _ ∧ _)⟩
                    case measure => simp [intOf]; omega
                · have e : hitsL W a (upd p (k : Int) L) = hitsL W a L := hits_off hsrt hlk (fun h => hpre h.2)
                  have HE : Hid (hitsL W a (upd p (k : Int) L) = hitsL W a L) := e
                  obtain ⟨rr, hrr⟩ : ∃ rr, tx ((bitsOf W a).take p.length) = rr := ⟨_, rfl⟩
                  have hne : ¬ rr = tx p := fun e => hpre (by rw [← hrr] at e; have := tx_inj e; rw [← this]; exact List.take_prefix _ _)
                  obtain ⟨ne1, ne2, ne3, ne4⟩ := bytes_ne hne
                  rw [hrr] at hx
                  generalize tx p = pt at *
                  clear hlk hsrt hts hpre e hrr
                  go_wp2_with fail
                  go_roundw
                  case rel => exact ⟨k + 1, _, by omega, by omega, by go_num, by rw [HE.out], by rw [HE.out], by rw [HE.out], (⟨HLN.out, HQ2.out.2⟩ : _ ∧ _)⟩
                  case measure => simp [intOf]; omega
      · have hgo : (¬ k < l.length) ∨ (k < l.length ∧ ¬ k < 2000) := by omega
        go_upto_region 10 with fail
        go_cut [65] from 58 to 127 (fun t wx => t = .bool false ∧ wx = wr)
        case first =>
          rcases hgo with h | ⟨h, h'⟩
          · have d1 : ¬ (k : Int) < l.length := by omega
            go_wp2_with fail
            go_meet
            exact ⟨rfl, rfl⟩
          · have d1 : (k : Int) < l.length := by omega
            have d2 : ¬ (k : Int) < 2000 := by omega
            go_wp2_with fail
            go_meet
            exact ⟨rfl, rfl⟩
        case rest =>
          obtain ⟨rfl, rfl⟩ := hcut
          have HO : Hid (Own w wc q W 4096 L ∧ Blk wc w.heap.size #[.int .u64 (hiOf a), .int .u64 (loOf a)] 33) := HR.out.2
          have y0 := HO.out.2.cell 0 (v := .int .u64 (hiOf a)) rfl
          have y1 := HO.out.2.cell 1 (v := .int .u64 (loOf a)) rfl
          have CE : Hid (∀ w1, Below wc.heap.size wc w1 → Calls Try.prog 27 #[.pointer (some ⟨q, 0, none⟩), B a] w1 fun e w' => ∃ ba bc, e = .returned (.slice ba (hitsL W a L).length bc) ∧ Hid (w'.ownsRow w1.heap.size 51 3 (.slice ba (hitsL W a L).length bc) (hitsL W a L).length (rowK W (keys (hitsL W a L))) ∧ Below w1.heap.size w1 w')) := fun w1 h => every_all (HO.out.1.below h) a ha
          have CF : Hid (Calls Try.prog 26 #[.pointer (some ⟨q, 0, none⟩), B a] wc fun e w' => e = .returned (findV W (hitsL W a L).getLast?) ∧ Below wc.heap.size wc w') := find_all HO.out.1 a ha
          have HS : Hid (Srt (hitsL W a L)) := hits_srt HO.out.1.srt
          have HM : Hid (∀ y ∈ hitsL W a L, y ∈ L) := fun y hy => hits_mem hy
          have HPR : Hid (∀ y ∈ hitsL W a L, y.1 <+: bitsOf W a) := hits_pre
          have HLN : Hid ((hitsL W a L).length ≤ 2000) := by
            have h1 := hits_len (W := W) (a := a) L
            have := HR.out.1
            exact (by omega : (hitsL W a L).length ≤ 2000)
          clear HL HT HR HB3 hgo hk hlb hk1 hk2 hcap
          generalize hH : hitsL W a L = H at *
          clear hH
          cases hla : H.getLast? with
          | none =>
            have hnil : H = [] := List.getLast?_eq_none_iff.1 hla
            subst hnil
            rw [hla] at CF
            rw [show bestOf (none : Option (List Bool × Int)) = ((-1 : Int), (0 : Int)) from rfl]
            have CF' : Hid (Calls Try.prog 26 #[.pointer (some ⟨q, 0, none⟩), B a] wc fun e w' => e = .returned (.tuple #[Pf 0 0, .int .i64 0, .bool false]) ∧ Below wc.heap.size wc w') := CF
            have CE' : Hid (∀ w1, Below wc.heap.size wc w1 → Calls Try.prog 27 #[.pointer (some ⟨q, 0, none⟩), B a] w1 fun e w' => ∃ ba bc, e = .returned (.slice ba 0 bc) ∧ Hid (Below w1.heap.size w1 w')) := fun w1 h => (CE.out w1 h).mono fun e w' ⟨ba, bc, h1, h2⟩ => ⟨ba, bc, h1, h2.out.2⟩
            clear CE CF hla HS HM HPR HLN
            go_wp2_with fail
            refine CF'.out.mono ?_
            rintro e w4 ⟨rfl, H4⟩
            clear CF' y0 y1
            have HB5 : Hid _ := one_new w4 #[.int .u64 (hiOf 0), .int .u64 (loOf 0), .int .i64 0] 51
            have HO5 : Hid (∀ v, Below wc.heap.size wc v → Blk v w.heap.size #[.int .u64 (hiOf a), .int .u64 (loOf a)] 33 ∧ Below w.heap.size w v) := fun v h => ⟨HO.out.2.below h, bst HO.out.1.be h⟩
            go_upto_region 22 with fail
            generalize (w4.alloc _) = w5 at HB5 ⊢
            have hw5 : Hid (Below wc.heap.size wc w5) := bst H4 HB5.out.2.1
            have y0 := (HO5.out _ hw5.out).1.cell 0 (v := .int .u64 (hiOf a)) rfl
            have y1 := (HO5.out _ hw5.out).1.cell 1 (v := .int .u64 (loOf a)) rfl
            go_wp2_with fail
            refine (CE'.out _ hw5.out).mono ?_
            rintro e w6 ⟨ba, bc, rfl, H6⟩
            have HF : Hid (Below w.heap.size w w6) := bst (HO5.out _ hw5.out).2 H6.out
            clear CE' y0 y1 HO5 HB5 H4 HO H6 hw5
            go_wp2_with fail
            go_ret
            exact ⟨rfl, HF.out⟩
          | some y =>
            obtain ⟨p, v⟩ := y
            have hmem : (p, v) ∈ H := List.mem_of_getLast? hla
            rw [hla] at CF
            rw [show bestOf (some (p, v)) = ((p.length : Int), v) from rfl]
            have CF' : Hid (Calls Try.prog 26 #[.pointer (some ⟨q, 0, none⟩), B a] wc fun e w' => e = .returned (.tuple #[Pf (valOf W p) p.length, .int .i64 v, .bool true]) ∧ Below wc.heap.size wc w') := CF
            have hp : p.length ≤ W := HO.out.1.lens _ (HM.out _ hmem)
            have CG : Hid (∀ w1, Below wc.heap.size wc w1 → Calls Try.prog 28 #[.pointer (some ⟨q, 0, none⟩), Pf (valOf W p) p.length] w1 fun e w' => e = .returned (.tuple #[.int .i64 v, .bool true]) ∧ Below w1.heap.size w1 w') := fun w1 h => by
              have := get_all (HO.out.1.below h) p hp
              rw [look_mem HO.out.1.srt (HM.out _ hmem)] at this
              exact this
            obtain ⟨n, hn⟩ : ∃ n, H.length = n + 1 := by
              cases H with
              | nil => cases hmem
              | cons y H => exact ⟨H.length, rfl⟩
            have hlast : (keys H)[n]? = some p := by
              rw [List.getLast?_eq_getElem?, hn, Nat.add_sub_cancel] at hla
              rw [List.getElem?_map, hla]; rfl
            have hn2 : n + 1 ≤ 2000 := by rw [← hn]; exact HLN.out
            have HUP : Hid (∀ i, i + 1 < n + 1 → ∃ c d : List Bool, (keys H)[i]? = some c ∧ (keys H)[i + 1]? = some d ∧ c.length < d.length) := fun i hi => by
              rw [← hn] at hi
              have e1 := List.getElem?_eq_getElem (l := H) (i := i) (by omega)
              have e2 := List.getElem?_eq_getElem (l := H) (i := i + 1) hi
              refine ⟨H[i].1, H[i + 1].1, by rw [List.getElem?_map, e1]; rfl, by rw [List.getElem?_map, e2]; rfl, ?_⟩
              exact chain_up HS.out HPR.out i e1 e2
            have HK : Hid ((keys H).length = n + 1) := (by rw [← hn]; simp [keys] : (keys H).length = n + 1)
            rw [hn] at CE ⊢
            generalize keys H = K at *
            clear CF hla HS HM HPR HLN hmem hn
            go_wp2_with fail
            refine CF'.out.mono ?_
            rintro e w4 ⟨rfl, H4⟩
            clear CF' y0 y1
            have HB5 : Hid _ := one_new w4 #[.int .u64 (hiOf (valOf W p)), .int .u64 (loOf (valOf W p)), .int .i64 p.length] 51
            have HO5 : Hid (∀ v, Below wc.heap.size wc v → Blk v w.heap.size #[.int .u64 (hiOf a), .int .u64 (loOf a)] 33 ∧ Below w.heap.size w v) := fun v h => ⟨HO.out.2.below h, bst HO.out.1.be h⟩
            go_upto_region 22 with fail
            generalize (w4.alloc _) = w5 at HB5 ⊢
            have hw5 : Hid (Below wc.heap.size wc w5) := bst H4 HB5.out.2.1
            have y0 := (HO5.out _ hw5.out).1.cell 0 (v := .int .u64 (hiOf a)) rfl
            have y1 := (HO5.out _ hw5.out).1.cell 1 (v := .int .u64 (loOf a)) rfl
            go_wp2_with fail
            refine (CE.out _ hw5.out).mono ?_
            rintro e w6 ⟨ba, bc, rfl, H6⟩
            have HC6 : Hid (Blk w6 w4.heap.size #[.int .u64 (hiOf (valOf W p)), .int .u64 (loOf (valOf W p)), .int .i64 p.length] 51 ∧ Below wc.heap.size wc w6 ∧ Below w.heap.size w w6) := ⟨HB5.out.1.below H6.out.2, bst hw5.out H6.out.2, bst (HO5.out _ hw5.out).2 H6.out.2⟩
            have z0 := HC6.out.1.cell 0 (v := .int .u64 (hiOf (valOf W p))) rfl
            have z1 := HC6.out.1.cell 1 (v := .int .u64 (loOf (valOf W p))) rfl
            have z2 := HC6.out.1.cell 2 (v := .int .i64 p.length) rfl
            obtain ⟨g, hba, hnb, hrow⟩ := row_at H6.out.1 HK.out (by omega)
            subst hba
            have HROW : Hid (∀ i p, K[i]? = some p → w6.cell? ⟨g, i * 3 + 0, none⟩ = some (.int .u64 (hiOf (valOf W p))) ∧ w6.cell? ⟨g, i * 3 + 1, none⟩ = some (.int .u64 (loOf (valOf W p))) ∧ w6.cell? ⟨g, i * 3 + 2, none⟩ = some (.int .i64 p.length)) := hrow
            clear CE y0 y1 HO5 HB5 H4 HO H6 hw5 hrow
            go_wp2_with fail
            refine (CG.out _ HC6.out.2.1).mono ?_
            rintro e w7 ⟨rfl, H7⟩
            have HC7 : Hid (Blk w7 w4.heap.size #[.int .u64 (hiOf (valOf W p)), .int .u64 (loOf (valOf W p)), .int .i64 p.length] 51 ∧ Below w.heap.size w w7) := ⟨HC6.out.1.below H7, bst HC6.out.2.2 H7⟩
            have HROW7 : Hid (∀ i p, K[i]? = some p → w7.cell? ⟨g, i * 3 + 0, none⟩ = some (.int .u64 (hiOf (valOf W p))) ∧ w7.cell? ⟨g, i * 3 + 1, none⟩ = some (.int .u64 (loOf (valOf W p))) ∧ w7.cell? ⟨g, i * 3 + 2, none⟩ = some (.int .i64 p.length)) := fun i p hi => by
              obtain ⟨g1, g2, g3⟩ := HROW.out i p hi
              have hgl := World.block_lt_of_cell? w6 _ g1
              exact ⟨(World.cell?_of_block (H7.block g hgl)).trans g1, (World.cell?_of_block (H7.block g hgl)).trans g2, (World.cell?_of_block (H7.block g hgl)).trans g3⟩
            clear HROW HC6 CG z0 z1 z2 H7
            generalize w4.heap.size = D at *
            have z0 := two_cells HC7.out.1 (i := 0) (v := .int .u64 (hiOf (valOf W p))) rfl
            have z1 := two_cells HC7.out.1 (i := 1) (v := .int .u64 (loOf (valOf W p))) rfl
            have z2 := two_cells HC7.out.1 (i := 2) (v := .int .i64 p.length) rfl
            obtain ⟨r0, r1, r2⟩ := HROW7.out n p hlast
            rw [Nat.add_zero] at r0
            have r0' := gw_cell r0
            have r1' := gw_cell r1
            have r2' := gw_cell r2
            have EQ := fun w => eqK hp hp (decide_eq_true (rfl : p = p)) w
            have i0 : ((n + 1 : Nat) : Int) - 1 = n := by omega
            clear r0 r1 r2 hlast
            go_upto_region 26 with fail
            refine region_grows (by kernel_rfl) (by kernel_rfl) ?_
            repeat (go_big_quiet_step (fail))
            refine wpQuiet_nil ?_
            intro wq hwq
            obtain ⟨zq, rfl⟩ := hwq
            have HC8 : Hid (Blk (gw zq) D #[.int .u64 (hiOf (valOf W p)), .int .u64 (loOf (valOf W p)), .int .i64 p.length] 51 ∧ Below w.heap.size w (gw zq)) := ⟨HC7.out.1.below (gw_below zq), bst HC7.out.2 (gw_below zq)⟩
            have HROW8 : Hid (∀ w9, Below (gw zq).heap.size (gw zq) w9 → ∀ i p, K[i]? = some p → w9.cell? ⟨g, i * 3 + 2, none⟩ = some (.int .i64 p.length)) := fun w9 h9 i p hi => by
              obtain ⟨_, _, g3⟩ := HROW7.out i p hi
              have hgl := World.block_lt_of_cell? w7 _ g3
              have hb := bst (gw_below zq) h9
              exact (World.cell?_of_block (hb.block g hgl)).trans g3
            clear HROW7 HC7 z0 z1 z2 r0' r1' r2' EQ
            generalize gw zq = w8 at *
            go_wp2_with fail
            go_loopw [25, 26] (fun b25 b26 wr2 => ∃ j : Nat, j ≤ n ∧ b25 = .bool true ∧ b26 = .int .i64 ((j : Int) + 1) ∧ Hid (Below w8.heap.size w8 wr2)) (fun b25 b26 wr2 => n + 1 - (intOf b26).toNat)
            case atStart => exact ⟨0, Nat.zero_le _, rfl, rfl, Below.refl _ _⟩
            case round =>
              obtain ⟨j, hj, rfl, rfl, HB9⟩ := hrel
              by_cases hjn : j < n
              · obtain ⟨c, d, hc, hd, hlt⟩ := HUP.out j (by omega)
                have hlt' : (c.length : Int) < d.length := by omega
                have s0 := HROW8.out _ HB9.out j c hc
                have s1 := HROW8.out _ HB9.out (j + 1) d hd
                have s0' := gw_cell s0
                have s1' := gw_cell s1
                have hjn' : (j : Int) + 1 < n + 1 := by omega
                clear hc hd s0 s1 hlt
                go_upto_region 30 with fail
                refine region_grows (by kernel_rfl) (by kernel_rfl) ?_
                repeat (go_big_quiet_step (fail))
                refine wpQuiet_nil ?_
                intro wq hwq
                obtain ⟨z9, rfl⟩ := hwq
                have HB10 : Hid (Below w8.heap.size w8 (gw z9)) := bst HB9.out (gw_below z9)
                clear s0' s1'
                go_wp2_with fail
                go_roundw
                case rel => exact ⟨j + 1, hjn, rfl, by go_num, HB10⟩
                case measure => simp [intOf]; omega
              · have hjn' : ¬ (j : Int) + 1 < n + 1 := by omega
                have z2 := (HC8.out.1.below HB9.out).cell 2 (v := .int .i64 p.length) rfl
                have HF : Hid (Below w.heap.size w wr) := bst HC8.out.2 HB9.out
                clear HC8 HROW8 HUP HK HB9
                go_wp2_with fail
                go_ret
                exact ⟨rfl, HF.out⟩
end Go.Proofs.Ytgdpplipahhffaa
