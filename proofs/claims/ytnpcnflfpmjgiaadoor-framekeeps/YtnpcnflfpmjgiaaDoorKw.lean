/- The walk of FrameKeeps. -/
import Derived.Test.YtnpcnflfpmjgiaaDoorKp
import Derived.Test.YtnpcnflfpmjgiaaDoorWt
namespace Go.Proofs.YtnpcnflfpmjgiaaDoor
open Go.RowKit
set_option linter.unusedVariables false
set_option linter.unusedSimpArgs false

/-- A disk with its power, of so many sectors, with so few writes that wait. -/
structure Kd (S : DS) (N k : Nat) : Prop where
  live : Live S
  len : S.safe.length = N
  few : S.wait.length ≤ k
theorem Kd.put {S : DS} {N k m : Nat} (h : Kd S N k) (hm : m < N) (f : Fr) : putE S (m : Int) (rightF f) = 0 ∧ Kd (putD S (m : Int) (rightF f)) N (k + 1) ∧ (putD S (m : Int) (rightF f)).safe = S.safe := by
  obtain ⟨a, b, c, d, _⟩ := h.live.put (by rw [h.len]; exact hm) (rightF_wrong f)
  exact ⟨a, ⟨b, by rw [c]; exact h.len, by rw [d]; have := h.few; simp; omega⟩, c⟩
theorem Kd.read {S : DS} {N k : Nat} (h : Kd S N k) (n : Int) : Kd (readD S n) N k := ⟨h.live.readD n, by rw [readD_safe]; exact h.len, by rw [readD_wait]; exact h.few⟩
set_option maxHeartbeats 8000000 in
set_option maxRecDepth 100000 in
theorem keeps_walk (l1 l2 : List Fr) (a1 a2 : Option Addr) (c1 c2 : Nat) (w : World) (hT : Tab w) (h1 : FrO w l1 a1) (h2 : FrO w l2 a2)
    (i1 : ∀ f ∈ l1, I64 f.kind ∧ I64 f.idx ∧ f.num < 18446744073709551616) (i2 : ∀ f ∈ l2, I64 f.kind ∧ I64 f.idx ∧ f.num < 18446744073709551616) (n1 : l1.length ≤ 140737488351232) (n2 : l2.length ≤ 140737488351232) :
    Calls Tryd.prog 10 #[.slice a1 l1.length c1, .slice a2 l2.length c2] w fun e w' => e = .returned (.bool true) ∧ Below w.heap.size w w' := by
  have hB1 := hT.pos
  have CA : Hid (∀ w : World, Tab w → Calls Tryd.prog 12 #[] w fun e w' => e = .returned (.bool true) ∧ Below w.heap.size w w') := awake_any
  have CR : Hid (∀ (f : Fr) (w : World), I64 f.kind → I64 f.idx → Calls Tryd.prog 29 #[.agg #[.int .i64 f.kind, .int .u64 f.num, .int .i64 f.idx, .string f.body]] w fun e w' => e = .returned (.agg #[.int .i64 (rightF f).kind, .int .u64 (rightF f).num, .int .i64 (rightF f).idx, .string (rightF f).body]) ∧ Below w.heap.size w w') := fun f w h h' => right_any f h h' w
  have CNw : Hid (∀ (N : Nat) (w1 : World), 1 ≤ N → N ≤ 40 → w.heap.size ≤ w1.heap.size → Calls Tryd.prog 18 #[.int .i64 (N : Int)] w1 fun e w' => Made w.heap.size w1 (freshD (List.replicate N zero512)) e w') := fun N w1 h h' h'' => new_ok N h (by omega) w.heap.size w1 h''
  have HX : Hid (∀ (f0 : Nat → Prop) (w0 wx : World) (b : Nat) (S : DS), Below w.heap.size w w0 → (∀ k, f0 k → w.heap.size ≤ k) → Left w.heap.size b f0 w0 S wx → Tab wx ∧ Kept f0 w wx) := by
    intro f0 w0 wx b S hb hn hL
    have hk0 : Kept f0 w w0 := Kept.of_below hb
    have hk : Kept f0 w wx := hk0.trans hL.keeps
    exact ⟨hT.kept hk (fun e => by have := hn 1 e; omega), hk⟩
  have CP : Hid (∀ (f0 : Nat → Prop) (w0 wx : World) (b : Nat) (S : DS) (N k m : Nat) (f : Fr), Below w.heap.size w w0 → (∀ k, f0 k → w.heap.size ≤ k) → Left w.heap.size b f0 w0 S wx → Kd S N k → k ≤ 400 → m < N → f.num < 18446744073709551616 →
      Calls Tryd.prog 32 #[.pointer (some ⟨b, 0, none⟩), .int .i64 (m : Int), .agg #[.int .i64 (rightF f).kind, .int .u64 (rightF f).num, .int .i64 (rightF f).idx, .string (rightF f).body]] wx fun e w' => e = .returned (.int .i64 0) ∧ Hid (Left w.heap.size b f0 w0 (putD S (m : Int) (rightF f)) w')) := by
    intro f0 w0 wx b S N k m f hb hn hL hK hk hm hnum
    obtain ⟨hTx, _⟩ := HX.out f0 w0 wx b S hb hn hL
    have := l_put hL hTx hB1 hb.size (m : Int) (rightF f) hnum (by have := hK.few; omega)
    rw [(hK.put hm f).1] at this
    exact this
  have CG : Hid (∀ (f0 : Nat → Prop) (w0 wx : World) (b : Nat) (S : DS) (n : Int), Below w.heap.size w w0 → (∀ k, f0 k → w.heap.size ≤ k) → Left w.heap.size b f0 w0 S wx →
      Calls Tryd.prog 35 #[.pointer (some ⟨b, 0, none⟩), .int .i64 n] wx fun e w' => e = .returned (.tuple #[.agg #[.int .i64 (getF S n).kind, .int .u64 (getF S n).num, .int .i64 (getF S n).idx, .string (getF S n).body], .int .i64 (getE S n)]) ∧ Hid (Left w.heap.size b f0 w0 (readD S n) w')) := by
    intro f0 w0 wx b S n hb hn hL
    obtain ⟨hTx, _⟩ := HX.out f0 w0 wx b S hb hn hL
    exact l_get hL hTx hB1 n
  go_enter Tryd.func10, Tryd.ntmps10
  go_wp2_with fail
  refine (CA.out _ hT).mono ?_
  rintro e w1 ⟨rfl, hb1⟩
  clear CA hT
  go_upto_if 24 with fail
  go_cut [6] (fun t wx => w1 = wx ∧ ∃ N : Nat, t = .int .i64 (N : Int) ∧ 1 ≤ N ∧ N ≤ 40 ∧ N ≤ 1 + l1.length)
  case first =>
    go_wp2
    all_goals go_meet
    · exact ⟨rfl, 40, rfl, by omega, by omega, by omega⟩
    · exact ⟨rfl, 1 + l1.length, by go_num, by omega, by omega, by omega⟩
  case rest =>
    obtain ⟨rfl, N, rfl, hN1, hN2, hN3⟩ := hcut
    have HN : Hid (1 ≤ N ∧ N ≤ 40 ∧ N ≤ 1 + l1.length) := ⟨hN1, hN2, hN3⟩
    go_wp2_with fail
    refine (CNw.out N _ hN1 hN2 hb1.size).mono ?_
    rintro e w2 ⟨b, fp, rfl, hd2, hfp2, hb2⟩
    have hB2 : Below w.heap.size w w2 := hb1.trans (hb2.mono hb1.size)
    have HFP : Hid (∀ k, fp k → w.heap.size ≤ k) := fun k h => (hd2.fp k h).1
    have HL2 : Hid (Left w.heap.size b fp w2 (freshD (List.replicate N zero512)) w2) := Left.refl hd2
    have HK2 : Hid (Kd (freshD (List.replicate N zero512)) N 0) := ⟨live_fresh (by simpa using hN1) (by simp; omega) (by intro s hs; rw [List.mem_replicate] at hs; rw [hs.2]; exact zero512_size), by show (List.replicate N zero512).length = N; simp, Nat.le_refl _⟩
    generalize freshD (List.replicate N zero512) = S0 at *
    clear CNw hd2 hfp2 hb1 hb2
    unfold pt
    go_wp2_with fail
    go_loopw [9] (fun t wx => ∃ (k : Nat) (S : DS), k ≤ N ∧ k ≤ l1.length ∧ t = .int .i64 (k : Int) ∧ Left w.heap.size b fp w2 S wx ∧ Kd S N k ∧ Stand S.shown l1 k) (fun t _ => N - (intOf t).toNat)
    case atStart => exact ⟨0, S0, Nat.zero_le _, Nat.zero_le _, rfl, HL2.out, HK2.out, fun j f h => absurd h (by omega)⟩
    case round =>
      obtain ⟨k, S, hk1, hk2, rfl, hL, hK, hS⟩ := hrel
      by_cases hlt : k < N ∧ k < l1.length
      · obtain ⟨hlt1, hlt2⟩ := hlt
        have hlt1' : (k : Int) < (N : Int) := by omega
        have hlt2' : (k : Int) < (l1.length : Int) := by omega
        obtain ⟨f, hf⟩ : ∃ f, l1[k]? = some f := ⟨_, List.getElem?_eq_getElem hlt2⟩
        obtain ⟨hfk, hfi, hfn⟩ := i1 f (List.mem_of_getElem? hf)
        obtain ⟨hTx, hKx⟩ := HX.out _ _ _ _ _ hB2 HFP.out hL
        obtain ⟨bb, off, rfl, hbb, hfm⟩ : ∃ bb off, a1 = some ⟨bb, off, none⟩ ∧ bb < w.heap.size ∧ FrM w bb off l1 := by
          rcases h1 with rfl | h1
          · simp at hlt2
          · exact h1
        obtain ⟨d0, d1, d2, d3⟩ := hfm.kept hKx (fun e => by have := HFP.out bb e; omega) k f hf
        have C1 : Hid (∀ w : World, Calls Tryd.prog 29 #[.agg #[.int .i64 f.kind, .int .u64 f.num, .int .i64 f.idx, .string f.body]] w fun e w' => e = .returned (.agg #[.int .i64 (rightF f).kind, .int .u64 (rightF f).num, .int .i64 (rightF f).idx, .string (rightF f).body]) ∧ Below w.heap.size w w') := fun w => CR.out f w hfk hfi
        have C2 : Hid (∀ wy : World, Left w.heap.size b fp w2 S wy → Calls Tryd.prog 32 #[.pointer (some ⟨b, 0, none⟩), .int .i64 (k : Int), .agg #[.int .i64 (rightF f).kind, .int .u64 (rightF f).num, .int .i64 (rightF f).idx, .string (rightF f).body]] wy fun e w' => e = .returned (.int .i64 0) ∧ Hid (Left w.heap.size b fp w2 (putD S (k : Int) (rightF f)) w')) := fun wy h => CP.out fp w2 wy b S N k k f hB2 HFP.out h hK (by omega) hlt1 hfn
        have HK3 : Hid (Kd (putD S (k : Int) (rightF f)) N (k + 1)) := (hK.put hlt1 f).2.1
        have HS3 : Hid (Stand (putD S (k : Int) (rightF f)).shown l1 (k + 1)) := stand_put hK.live hS (by rw [hK.len]; exact hlt1) hf hfn
        have HL : Hid (Left w.heap.size b fp w2 S wr) := hL
        generalize putD S (k : Int) (rightF f) = Sn at *
        generalize rightF f = g at *
        obtain ⟨fk, fn, fi, fb⟩ := f
        obtain ⟨gk, gn, gi, gb⟩ := g
        simp only at *
        clear hf hfk hfi hfn hTx hKx hfm hK hS hL CP CG CR HX i1 i2 h1 h2 HK2 HL2
        go_wp2_with fail
        refine (C1.out _).mono ?_
        rintro e w3 ⟨rfl, hb3⟩
        have hL3 := HL.out.then hb3
        clear HL hb3 C1 d0 d1 d2 d3
        go_wp2_with fail
        refine (C2.out _ hL3).mono ?_
        rintro e w4 ⟨rfl, hL4⟩
        clear C2 hL3
        go_wp2_with fail
        exact ⟨⟨k + 1, Sn, by omega, by omega, by go_num, hL4.out, HK3.out, HS3.out⟩, by simp [intOf]; omega⟩
      · have HM : Hid (∀ j, j < N → j < l1.length → j < k) := fun j h h' => by
          apply Classical.byContradiction; intro h''; exact hlt ⟨by omega, by omega⟩
        obtain ⟨fE, fL, fS, fW⟩ := hK.live.flush
        have CF : Hid (Calls Tryd.prog 33 #[.pointer (some ⟨b, 0, none⟩)] wr fun e w' => e = .returned (.int .i64 0) ∧ Hid (Left w.heap.size b fp w2 (flushD S) w')) := by
          have := l_flush hL
          rw [fE] at this
          exact this
        have HK3 : Hid (Kd (flushD S) N 0) := ⟨fL, by rw [fS, hK.live.len]; exact hK.len, by rw [fW]; exact Nat.le_refl _⟩
        have HS3 : Hid (Stand (flushD S).safe l1 k) := by rw [fS]; exact hS
        clear hS hK fE fL fS fW hL HK2 HL2
        generalize flushD S = S1 at *
        have hw2 : ∀ q : Nat, k = q → (k : Int) = (q : Int) := fun q e => by omega
        clear hw2
        by_cases hkN : k < N
        all_goals
          have hkN1 : k < N → ¬ (k : Int) < (l1.length : Int) := fun h h' => hlt ⟨h, by omega⟩
          first
            | (have hkN2 := hkN1 hkN; have hkN3 : (k : Int) < (N : Int) := by omega)
            | (have hkN3 : ¬ (k : Int) < (N : Int) := by omega)
          clear hkN1 hlt hkN
          go_wp2_with fail
          refine CF.out.mono ?_
          rintro e w5 ⟨rfl, HL5⟩
          clear CF
          go_wp2_with fail
          go_loopw [12] (fun t wx => ∃ (j : Nat) (S' : DS), j ≤ 255 ∧ j ≤ l2.length ∧ t = .int .i64 (j : Int) ∧ Left w.heap.size b fp w2 S' wx ∧ Kd S' N j ∧ S'.safe = S1.safe) (fun t _ => 255 - (intOf t).toNat)
          case atStart => exact ⟨0, S1, Nat.zero_le _, Nat.zero_le _, rfl, HL5.out, HK3.out, rfl⟩
          case round =>
            obtain ⟨j, S', hj1, hj2, rfl, hL, hK, hS⟩ := hrel
            by_cases hlt : j < l2.length ∧ j < 255
            · obtain ⟨hlt1, hlt2⟩ := hlt
              have hlt1' : (j : Int) < (l2.length : Int) := by omega
              have hlt2' : (j : Int) < 255 := by omega
              obtain ⟨f, hf⟩ : ∃ f, l2[j]? = some f := ⟨_, List.getElem?_eq_getElem hlt1⟩
              obtain ⟨hfk, hfi, hfn⟩ := i2 f (List.mem_of_getElem? hf)
              obtain ⟨hTx, hKx⟩ := HX.out _ _ _ _ _ hB2 HFP.out hL
              obtain ⟨bb, off, rfl, hbb, hfm⟩ : ∃ bb off, a2 = some ⟨bb, off, none⟩ ∧ bb < w.heap.size ∧ FrM w bb off l2 := by
                rcases h2 with rfl | h2
                · simp at hlt1
                · exact h2
              have hnb : ¬ fp bb := fun e => by have := HFP.out bb e; omega
              have hfx := hfm.kept hKx hnb
              obtain ⟨d0, d1, d2, d3⟩ := hfx j f hf
              have hmN : j % N < N := Nat.mod_lt _ (by omega)
              have R1 : (j : Int) % (N : Int) = ((j % N : Nat) : Int) := by omega
              have R2 : (j : Int).tmod (N : Int) = ((j % N : Nat) : Int) := by rw [Int.tmod_eq_emod_of_nonneg (by omega)]; exact R1
              have R3 : IntKind.i64.wrap ((j % N : Nat) : Int) = ((j % N : Nat) : Int) := by rw [IntKind.wrap_i64]; omega
              have hN0 : ¬ (N : Int) = 0 := by omega
              have hNn : ¬ N = 0 := by omega
              have hN0' : ((N : Int) == 0) = false := by simp; omega
              have C1 : Hid (∀ w3 : World, Below wr.heap.size wr w3 → Calls Tryd.prog 29 #[.agg #[.int .i64 f.kind, .int .u64 f.num, .int .i64 f.idx, .string f.body]] w3 fun e w' => e = .returned (.agg #[.int .i64 (rightF f).kind, .int .u64 (rightF f).num, .int .i64 (rightF f).idx, .string (rightF f).body]) ∧ Hid (Below wr.heap.size wr w') ∧ (w'.cell? ⟨bb, off + j * 4, none⟩ = some (.int .i64 f.kind) ∧ w'.cell? ⟨bb, off + j * 4 + 1, none⟩ = some (.int .u64 f.num) ∧ w'.cell? ⟨bb, off + j * 4 + 2, none⟩ = some (.int .i64 f.idx) ∧ w'.cell? ⟨bb, off + j * 4 + 3, none⟩ = some (.string f.body))) := by
                intro w3 h3
                refine (CR.out f w3 hfk hfi).mono ?_
                rintro e w' ⟨rfl, h4⟩
                have h5 : Below wr.heap.size wr w' := h3.trans (h4.mono h3.size)
                exact ⟨rfl, h5, hfx.kept (S := fun _ => False) (Kept.of_below h5) id j f hf⟩
              have C2 : Hid (∀ w3 : World, Below wr.heap.size wr w3 → Calls Tryd.prog 32 #[.pointer (some ⟨b, 0, none⟩), .int .i64 ((j % N : Nat) : Int), .agg #[.int .i64 (rightF f).kind, .int .u64 (rightF f).num, .int .i64 (rightF f).idx, .string (rightF f).body]] w3 fun e w' => e = .returned (.int .i64 0) ∧ Hid (Left w.heap.size b fp w2 (putD S' ((j % N : Nat) : Int) (rightF f)) w') ∧ (w'.cell? ⟨bb, off + j * 4, none⟩ = some (.int .i64 f.kind) ∧ w'.cell? ⟨bb, off + j * 4 + 1, none⟩ = some (.int .u64 f.num) ∧ w'.cell? ⟨bb, off + j * 4 + 2, none⟩ = some (.int .i64 f.idx) ∧ w'.cell? ⟨bb, off + j * 4 + 3, none⟩ = some (.string f.body))) := by
                intro w3 h3
                refine (CP.out fp w2 w3 b S' N j (j % N) f hB2 HFP.out (hL.then h3) hK (by omega) hmN hfn).mono ?_
                rintro e w' ⟨rfl, h4⟩
                exact ⟨rfl, h4, hfm.kept (HX.out _ _ _ _ _ hB2 HFP.out h4.out).2 hnb j f hf⟩
              obtain ⟨_, HK4, HS4⟩ := hK.put hmN f
              have HK5 : Hid (Kd (putD S' ((j % N : Nat) : Int) (rightF f)) N (j + 1) ∧ (putD S' ((j % N : Nat) : Int) (rightF f)).safe = S1.safe) := ⟨HK4, HS4.trans hS⟩
              generalize putD S' ((j % N : Nat) : Int) (rightF f) = Sn at *
              generalize rightF f = g at *
              obtain ⟨fk, fn, fi, fb⟩ := f
              obtain ⟨gk, gn, gi, gb⟩ := g
              simp only at *
              clear hf hfk hfi hfn hTx hKx hfm hfx hK hS hL CP CG CR HX i1 i2 h1 h2 HK4 HS4 HL5 HK3 HS3 HM hmN
              generalize j % N = jm at *
              go_wp2_with fail
              go_region_held3 (fun w' => w'.cell? ⟨bb, off + j * 4, none⟩ = some (.int .i64 fk) ∧ w'.cell? ⟨bb, off + j * 4 + 1, none⟩ = some (.int .u64 fn) ∧ w'.cell? ⟨bb, off + j * 4 + 2, none⟩ = some (.int .i64 fi) ∧ w'.cell? ⟨bb, off + j * 4 + 3, none⟩ = some (.string fb))
                (first | exact q4 | exact q3 | exact ⟨d0, d1, d2, d3⟩)
                (first
                  | (go_at_call 29; refine (C1.out _ (by exact ⟨rfl, rfl, rfl, Nat.le_refl _, fun _ _ => rfl⟩)).mono ?_; rintro e w3 ⟨rfl, b3, q3⟩)
                  | (go_at_call 32; refine (C2.out _ (by exact b3.out)).mono ?_; rintro e w4 ⟨rfl, HL4, q4⟩))
              all_goals
                go_wp2_with fail
                exact ⟨⟨j + 1, Sn, by omega, by omega, by go_num, HL4.out, HK5.out.1, HK5.out.2⟩, by simp [intOf]; omega⟩
            · obtain ⟨cL, cS, cH⟩ := hK.live.lost
              have CC : Hid (Calls Tryd.prog 34 #[.pointer (some ⟨b, 0, none⟩), .slice none 0 0] wr fun e w' => e = .returned (.tuple #[]) ∧ Hid (Left w.heap.size b fp w2 (crashD S' []) w')) := l_crash_none hL 0
              have HK6 : Hid (Kd (crashD S' []) N 0 ∧ (crashD S' []).safe = S1.safe ∧ (crashD S' []).wait = []) := ⟨⟨cL, by rw [cS]; exact hK.len, Nat.le_refl _⟩, cS.trans hS, rfl⟩
              clear cL cS cH hK hS hL HL5 HK3
              generalize crashD S' [] = S3 at *
              by_cases hjl : j < l2.length
              all_goals
                have hjl1 : j < l2.length → ¬ (j : Int) < 255 := fun h h' => hlt ⟨h, by omega⟩
                first
                  | (have hjl2 := hjl1 hjl; have hjl3 : (j : Int) < (l2.length : Int) := by omega)
                  | (have hjl3 : ¬ (j : Int) < (l2.length : Int) := by omega)
                clear hjl1 hlt hjl
                go_wp2_with fail
                refine CC.out.mono ?_
                rintro e w6 ⟨rfl, HL6⟩
                clear CC
                go_wp2_with fail
                go_loopw [14] (fun t wx => ∃ (m : Nat) (S' : DS), m ≤ N ∧ m ≤ l1.length ∧ t = .int .i64 (m : Int) ∧ Left w.heap.size b fp w2 S' wx ∧ Kd S' N 0 ∧ S'.safe = S1.safe ∧ S'.wait = []) (fun t _ => N - (intOf t).toNat)
                case atStart => exact ⟨0, S3, Nat.zero_le _, Nat.zero_le _, rfl, HL6.out, HK6.out.1, HK6.out.2.1, HK6.out.2.2⟩
                case round =>
                  obtain ⟨m, S5, hm1, hm2, rfl, hL, hK, hS, hW⟩ := hrel
                  by_cases hlt : m < N ∧ m < l1.length
                  · obtain ⟨hlt1, hlt2⟩ := hlt
                    have hlt1' : (m : Int) < (N : Int) := by omega
                    have hlt2' : (m : Int) < (l1.length : Int) := by omega
                    obtain ⟨f, hf⟩ : ∃ f, l1[m]? = some f := ⟨_, List.getElem?_eq_getElem hlt2⟩
                    obtain ⟨hfk, hfi, hfn⟩ := i1 f (List.mem_of_getElem? hf)
                    obtain ⟨bb, off, rfl, hbb, hfm⟩ : ∃ bb off, a1 = some ⟨bb, off, none⟩ ∧ bb < w.heap.size ∧ FrM w bb off l1 := by
                      rcases h1 with rfl | h1
                      · simp at hlt2
                      · exact h1
                    have hnb : ¬ fp bb := fun e => by have := HFP.out bb e; omega
                    have hg := hK.live.get (m := m) (by rw [hK.len]; exact hlt1)
                    have hsh : S5.shown = S1.safe := by unfold DS.shown; rw [hW, hS]; rfl
                    obtain ⟨gE, gF⟩ := HS3.out m f (HM.out m hlt1 hlt2) hf
                    rw [hsh, gE, gF] at hg
                    have C3 : Hid (Calls Tryd.prog 35 #[.pointer (some ⟨b, 0, none⟩), .int .i64 (m : Int)] wr fun e w' => e = .returned (.tuple #[.agg #[.int .i64 (rightF f).kind, .int .u64 (rightF f).num, .int .i64 (rightF f).idx, .string (rightF f).body], .int .i64 0]) ∧ Hid (Left w.heap.size b fp w2 (readD S5 (m : Int)) w') ∧ FrM w' bb off l1) := by
                      have := CG.out fp w2 wr b S5 (m : Int) hB2 HFP.out hL
                      rw [hg.1, hg.2] at this
                      refine this.mono ?_
                      rintro e w' ⟨rfl, h4⟩
                      exact ⟨rfl, h4, hfm.kept (HX.out _ _ _ _ _ hB2 HFP.out h4.out).2 hnb⟩
                    have HK7 : Hid (Kd (readD S5 (m : Int)) N 0 ∧ (readD S5 (m : Int)).safe = S1.safe ∧ (readD S5 (m : Int)).wait = []) := ⟨hK.read _, by rw [readD_safe]; exact hS, by rw [readD_wait]; exact hW⟩
                    have C1 : Hid (∀ (wb w3 : World), FrM wb bb off l1 → Below wb.heap.size wb w3 → Calls Tryd.prog 29 #[.agg #[.int .i64 f.kind, .int .u64 f.num, .int .i64 f.idx, .string f.body]] w3 fun e w' => e = .returned (.agg #[.int .i64 (rightF f).kind, .int .u64 (rightF f).num, .int .i64 (rightF f).idx, .string (rightF f).body]) ∧ Hid (Below wb.heap.size wb w')) := by
                      intro wb w3 _ h3
                      refine (CR.out f w3 hfk hfi).mono ?_
                      rintro e w' ⟨rfl, h4⟩
                      exact ⟨rfl, h3.trans (h4.mono h3.size)⟩
                    have hne : ∀ w : World, (binOp .neq 24 (.agg #[.int .i64 (rightF f).kind, .int .u64 ((rightF f).num : Int), .int .i64 (rightF f).idx, .string (rightF f).body]) (.agg #[.int .i64 (rightF f).kind, .int .u64 ((rightF f).num : Int), .int .i64 (rightF f).idx, .string (rightF f).body])).run Tryd.prog w = .ok (.bool false) w := by
                      intro w
                      rw [run_neF]; simp
                    have HF9 : Hid (l1[m]? = some f) := hf
                    generalize readD S5 (m : Int) = Sn at *
                    generalize rightF f = g at *
                    clear hf hfk hfi hfn hfm hK hS hL hg hsh gE gF CP CG CR HX i1 i2 h1 h2 HL6 HS3 HM hW HK6
                    obtain ⟨gk, gn, gi, gb⟩ := g
                    simp only at C3 C1 hne
                    go_wp2_with fail
                    refine C3.out.mono ?_
                    rintro e w7 ⟨rfl, HL7, hfm7⟩
                    have hb8 : Below w7.heap.size w7 (w7.alloc (.cells #[.int .i64 gk, .int .u64 gn, .int .i64 gi, .string gb] 24)) := (Below.refl _ _).alloc (Nat.le_refl _) _
                    have hfm8 := hfm7.kept (S := fun _ => False) (Kept.of_below hb8) id
                    have hblk8 := Blk.new w7 #[.int .i64 gk, .int .u64 gn, .int .i64 gi, .string gb] 24
                    have HL8 : Hid (Left w.heap.size b fp w2 Sn (w7.alloc (.cells #[.int .i64 gk, .int .u64 gn, .int .i64 gi, .string gb] 24))) := HL7.out.then hb8
                    go_wp2_with fail
                    generalize w7.alloc (.cells #[.int .i64 gk, .int .u64 gn, .int .i64 gi, .string gb] 24) = W8 at *
                    generalize w7.heap.size = p8 at *
                    obtain ⟨d0, d1, d2, d3⟩ := hfm8 m f HF9.out
                    have e0 := hblk8.cell 0 rfl
                    have e1 := hblk8.cell 1 rfl
                    have e2 := hblk8.cell 2 rfl
                    have e3 := hblk8.cell 3 rfl
                    have C4 : Hid (∀ w3 : World, Below W8.heap.size W8 w3 → Calls Tryd.prog 29 #[.agg #[.int .i64 f.kind, .int .u64 f.num, .int .i64 f.idx, .string f.body]] w3 fun e w' => e = .returned (.agg #[.int .i64 gk, .int .u64 gn, .int .i64 gi, .string gb]) ∧ Hid (Below W8.heap.size W8 w') ∧ ((w'.cell? ⟨bb, off + m * 4, none⟩ = some (.int .i64 f.kind) ∧ w'.cell? ⟨bb, off + m * 4 + 1, none⟩ = some (.int .u64 f.num) ∧ w'.cell? ⟨bb, off + m * 4 + 2, none⟩ = some (.int .i64 f.idx) ∧ w'.cell? ⟨bb, off + m * 4 + 3, none⟩ = some (.string f.body)) ∧ (w'.cell? ⟨p8, 0, none⟩ = some (.int .i64 gk) ∧ w'.cell? ⟨p8, 1, none⟩ = some (.int .u64 gn) ∧ w'.cell? ⟨p8, 2, none⟩ = some (.int .i64 gi) ∧ w'.cell? ⟨p8, 3, none⟩ = some (.string gb)))) := by
                      intro w3 h3
                      refine (C1.out W8 w3 hfm8 h3).mono ?_
                      rintro e w' ⟨rfl, h4⟩
                      have hbk := hblk8.below h4.out
                      exact ⟨rfl, h4, hfm8.kept (S := fun _ => False) (Kept.of_below h4.out) id m f HF9.out, hbk.cell 0 rfl, hbk.cell 1 rfl, hbk.cell 2 rfl, hbk.cell 3 rfl⟩
                    obtain ⟨fk, fn, fi, fb⟩ := f
                    simp only at *
                    clear C1 hfm7 hfm8 hblk8 HL7 hb8 C3 HF9
                    go_region_held3 (fun w' => ((w'.cell? ⟨bb, off + m * 4, none⟩ = some (.int .i64 fk) ∧ w'.cell? ⟨bb, off + m * 4 + 1, none⟩ = some (.int .u64 fn) ∧ w'.cell? ⟨bb, off + m * 4 + 2, none⟩ = some (.int .i64 fi) ∧ w'.cell? ⟨bb, off + m * 4 + 3, none⟩ = some (.string fb)) ∧ (w'.cell? ⟨p8, 0, none⟩ = some (.int .i64 gk) ∧ w'.cell? ⟨p8, 1, none⟩ = some (.int .u64 gn) ∧ w'.cell? ⟨p8, 2, none⟩ = some (.int .i64 gi) ∧ w'.cell? ⟨p8, 3, none⟩ = some (.string gb))))
                      (first | exact q3 | exact ⟨⟨d0, d1, d2, d3⟩, e0, e1, e2, e3⟩)
                      (first | (go_at_call 29; refine (C4.out _ (by exact ⟨rfl, rfl, rfl, Nat.le_refl _, fun _ _ => rfl⟩)).mono ?_; rintro e w9 ⟨rfl, b3, q3⟩))
                    all_goals
                      have HL9 := HL8.out.then b3.out
                      go_wp2_with fail
                      exact ⟨⟨m + 1, Sn, by omega, by omega, by go_num, HL9, HK7.out.1, HK7.out.2.1, HK7.out.2.2⟩, by simp [intOf]; omega⟩
                  · have hgN : getE S5 (N : Int) = 41 := by
                      have hr := hK.live.refuse_no (m := N) (by rw [hK.len]; exact Nat.le_refl _)
                      unfold getE; rw [if_neg (by rw [hr]; decide), hr]
                    have C3 : Hid (Calls Tryd.prog 35 #[.pointer (some ⟨b, 0, none⟩), .int .i64 (N : Int)] wr fun e w' => ∃ g : Fr, e = .returned (.tuple #[.agg #[.int .i64 g.kind, .int .u64 g.num, .int .i64 g.idx, .string g.body], .int .i64 41]) ∧ Hid (Below w.heap.size w w')) := by
                      have := CG.out fp w2 wr b S5 (N : Int) hB2 HFP.out hL
                      rw [hgN] at this
                      refine this.mono ?_
                      rintro e w' ⟨rfl, h4⟩
                      exact ⟨_, rfl, hB2.trans (h4.out.keeps.below hB2.size HFP.out)⟩
                    clear hgN hK hS hW hL HL6 HK6
                    by_cases hmN : m < N
                    all_goals
                      have hmN1 : m < N → ¬ (m : Int) < (l1.length : Int) := fun h h' => hlt ⟨h, by omega⟩
                      first
                        | (have hmN2 := hmN1 hmN; have hmN3 : (m : Int) < (N : Int) := by omega)
                        | (have hmN3 : ¬ (m : Int) < (N : Int) := by omega)
                      clear hmN1 hlt hmN
                      first
                        | omega
                        | (go_wp2_with fail
                           refine C3.out.mono ?_
                           rintro e w7 ⟨g, rfl, HB7⟩
                           obtain ⟨gk, gn, gi, gb⟩ := g
                           simp only
                           have hend := HB7.out.alloc HB7.out.size (.cells #[.int .i64 gk, .int .u64 gn, .int .i64 gi, .string gb] 24)
                           clear C3 HB7
                           go_wp2
                           go_ret
                           exact ⟨rfl, hend⟩)
end Go.Proofs.YtnpcnflfpmjgiaaDoor
