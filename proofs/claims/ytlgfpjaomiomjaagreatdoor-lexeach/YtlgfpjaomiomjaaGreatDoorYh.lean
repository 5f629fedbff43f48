/- The document's Some. -/
import Derived.Test.YtlgfpjaomiomjaaGreatDoorYg
import Derived.BigRegion
namespace Go.Proofs.YtlgfpjaomiomjaaGreatDoor
open Go.RowKit
set_option linter.unusedVariables false
set_option linter.unusedSimpArgs false

theorem infoRef : (Tryz.prog.info? 47).map (fun i => (i.zero, i.size, i.bytes)) = some (some (.agg zero36), 6, 56) := by kernel_rfl
theorem info_ref : ∃ i, Tryz.prog.info? 47 = some i ∧ i.zero = some (.agg zero36) ∧ i.size = 6 ∧ i.bytes = 56 := by
  have h := infoRef
  cases hi : Tryz.prog.info? 47 with
  | none => rw [hi] at h; cases h
  | some i =>
    rw [hi] at h
    simp only [Option.map_some, Option.some.injEq, Prod.mk.injEq] at h
    exact ⟨i, rfl, h.1, h.2.1, h.2.2⟩
structure MidR (w wr : World) (p : Nat × Nat) (done : List Tk) (sv : Value) : Prop where
  res : Blk wr w.heap.size (fltA (0, 0, 0)) 28
  pos : Blk wr (w.heap.size + 1) (plA (0, 0)) 26
  at' : Blk wr (w.heap.size + 2) (plA p) 26
  row : wr.ownsRow (w.heap.size + 3) 47 6 sv done.length (tcells done)
  bel : Below w.heap.size w wr
theorem MidR.size {w wr : World} {p : Nat × Nat} {done : List Tk} {sv : Value} (h : MidR w wr p done sv) : w.heap.size + 3 ≤ wr.heap.size := h.at'.lt
theorem MidR.below {w wr w' : World} {p : Nat × Nat} {done : List Tk} {sv : Value} (h : MidR w wr p done sv) (hb : Below wr.heap.size wr w') : MidR w w' p done sv :=
  ⟨h.res.below hb, h.pos.below hb, h.at'.below hb, ownsRow_kept (S := fun _ => False) h.row (Kept.of_below hb) (fun _ _ => id), bst h.bel hb (Nat.le_refl _)⟩
theorem MidR.place {w wr : World} {p : Nat × Nat} {done : List Tk} {sv : Value} (h : MidR w wr p done sv) (a b : Nat) : MidR w ((wr.setCell ⟨w.heap.size + 2, 0, none⟩ (.int .i64 (a : Int))).setCell ⟨w.heap.size + 2, 1, none⟩ (.int .i64 (b : Int))) (a, b) done sv := by
  have hk : Kept (fun k => k = w.heap.size + 2) wr ((wr.setCell ⟨w.heap.size + 2, 0, none⟩ (.int .i64 (a : Int))).setCell ⟨w.heap.size + 2, 1, none⟩ (.int .i64 (b : Int))) := ((Kept.refl (fun k => k = w.heap.size + 2) wr).set rfl _).set rfl _
  refine ⟨h.res.kept hk (by omega), h.pos.kept hk (by omega), (h.at'.set 0 _).set 1 _, ownsRow_kept h.row hk (fun k e e2 => ?_), h.bel.trans (hk.below h.bel.size (by omega))⟩
  have := (h.row.lt k e).1
  omega
theorem MidR.keep {S : Nat → Prop} {w wr w' : World} {p : Nat × Nat} {done : List Tk} {sv : Value} (h : MidR w wr p done sv) (hk : Kept S wr w') (h1 : ∀ k, k < w.heap.size + 3 → ¬ S k) (h2 : ∀ k, sv.ownBlock = some k → ¬ S k) : MidR w w' p done sv :=
  ⟨h.res.kept hk (h1 _ (by omega)), h.pos.kept hk (h1 _ (by omega)), h.at'.kept hk (h1 _ (by omega)), ownsRow_kept h.row hk h2, h.bel.trans (hk.below h.bel.size (fun k hk2 => by
    rcases Nat.lt_or_ge k (w.heap.size + 3) with h | h
    · exact absurd hk2 (h1 k h)
    · omega))⟩
theorem MidR.fin {w wr : World} {q : Nat × Nat} {done : List Tk} {sv : Value} (h : MidR w wr q done sv) (e l c x y : Value) :
    (((((wr.setCell ⟨w.heap.size, 0, none⟩ e).setCell ⟨w.heap.size, 1, none⟩ l).setCell ⟨w.heap.size, 2, none⟩ c).setCell ⟨w.heap.size + 1, 0, none⟩ x).setCell ⟨w.heap.size + 1, 1, none⟩ y).cell? ⟨w.heap.size, 0, none⟩ = some e ∧
    (((((wr.setCell ⟨w.heap.size, 0, none⟩ e).setCell ⟨w.heap.size, 1, none⟩ l).setCell ⟨w.heap.size, 2, none⟩ c).setCell ⟨w.heap.size + 1, 0, none⟩ x).setCell ⟨w.heap.size + 1, 1, none⟩ y).cell? ⟨w.heap.size, 1, none⟩ = some l ∧
    (((((wr.setCell ⟨w.heap.size, 0, none⟩ e).setCell ⟨w.heap.size, 1, none⟩ l).setCell ⟨w.heap.size, 2, none⟩ c).setCell ⟨w.heap.size + 1, 0, none⟩ x).setCell ⟨w.heap.size + 1, 1, none⟩ y).cell? ⟨w.heap.size, 2, none⟩ = some c ∧
    (((((wr.setCell ⟨w.heap.size, 0, none⟩ e).setCell ⟨w.heap.size, 1, none⟩ l).setCell ⟨w.heap.size, 2, none⟩ c).setCell ⟨w.heap.size + 1, 0, none⟩ x).setCell ⟨w.heap.size + 1, 1, none⟩ y).cell? ⟨w.heap.size + 1, 0, none⟩ = some x ∧
    (((((wr.setCell ⟨w.heap.size, 0, none⟩ e).setCell ⟨w.heap.size, 1, none⟩ l).setCell ⟨w.heap.size, 2, none⟩ c).setCell ⟨w.heap.size + 1, 0, none⟩ x).setCell ⟨w.heap.size + 1, 1, none⟩ y).cell? ⟨w.heap.size + 1, 1, none⟩ = some y ∧
    (((((wr.setCell ⟨w.heap.size, 0, none⟩ e).setCell ⟨w.heap.size, 1, none⟩ l).setCell ⟨w.heap.size, 2, none⟩ c).setCell ⟨w.heap.size + 1, 0, none⟩ x).setCell ⟨w.heap.size + 1, 1, none⟩ y).drew.ownsRow w.heap.size 47 6 sv done.length (tcells done) ∧
    Below w.heap.size w (((((wr.setCell ⟨w.heap.size, 0, none⟩ e).setCell ⟨w.heap.size, 1, none⟩ l).setCell ⟨w.heap.size, 2, none⟩ c).setCell ⟨w.heap.size + 1, 0, none⟩ x).setCell ⟨w.heap.size + 1, 1, none⟩ y) := by
  have k1 := (((Kept.refl (fun j => j = w.heap.size) wr).set (p := ⟨w.heap.size, 0, none⟩) rfl e).set (p := ⟨w.heap.size, 1, none⟩) rfl l).set (p := ⟨w.heap.size, 2, none⟩) rfl c
  have R1 := ((h.res.set 0 e).set 1 l).set 2 c
  have P1 := h.pos.kept k1 (by omega)
  have k2 := ((Kept.refl (fun j => j = w.heap.size + 1) (((wr.setCell ⟨w.heap.size, 0, none⟩ e).setCell ⟨w.heap.size, 1, none⟩ l).setCell ⟨w.heap.size, 2, none⟩ c)).set (p := ⟨w.heap.size + 1, 0, none⟩) rfl x).set (p := ⟨w.heap.size + 1, 1, none⟩) rfl y
  have R2 := R1.kept k2 (by omega)
  have P2 := (P1.set 0 x).set 1 y
  have k3 := (k1.mono (T := fun j => w.heap.size ≤ j ∧ j ≤ w.heap.size + 1) (fun k _ e => by omega)).trans (k2.mono (T := fun j => w.heap.size ≤ j ∧ j ≤ w.heap.size + 1) (fun k _ e => by omega))
  refine ⟨R2.cell 0 rfl, R2.cell 1 rfl, R2.cell 2 rfl, P2.cell 0 rfl, P2.cell 1 rfl, ?_, h.bel.trans (k3.below h.bel.size (fun _ e => e.1))⟩
  refine ownsRow_kept (S := fun j => w.heap.size ≤ j ∧ j ≤ w.heap.size + 1) (ownsRow_low h.row (by omega)) k3.drew (fun k e e2 => ?_)
  have := (h.row.lt k e).1
  omega
structure SAt (w : World) (TL : List Tk × (Nat × Nat × Nat)) (s : ByteArray) (wr : World) (a : Nat) (p : Nat × Nat) (done : List Tk) (sv : Value) : Prop where
  e1 : done ++ (lexF (s.size - a + 1) p (s.data.toList.drop a)).1 = TL.1
  e2 : (lexF (s.size - a + 1) p (s.data.toList.drop a)).2 = TL.2
  len : done.length ≤ a
  low : p.1 ≤ 1 + a ∧ p.2 ≤ 1 + a
  mid : MidR w wr p done sv
set_option maxHeartbeats 4000000 in
set_option maxRecDepth 100000 in
theorem rsome_any (s : ByteArray) (hs : s.size ≤ 65536) (w : World) :
    Calls Tryz.prog 9 #[.string s] w fun e w' => ∃ sv p, e = .returned (.tuple #[sv, .agg (fltA (lexL s.data.toList).2), Pl p]) ∧ w'.ownsRow w.heap.size 47 6 sv (lexL s.data.toList).1.length (tcells (lexL s.data.toList).1) ∧ Below w.heap.size w w' := by
  obtain ⟨i47, hi47, hz0, hz1, hz3⟩ := info_ref
  have hlen : s.data.toList.length = s.size := by simp
  have q0 : decide ((65536 : Int) < (s.size : Int)) = false := decide_eq_false (by omega)
  have HS : Hid (SAt w (lexL s.data.toList) s (((w.alloc (.cells (fltA (0, 0, 0)) 28)).alloc (.cells (plA (0, 0)) 26)).alloc (.cells (plA (1, 1)) 26)) 0 (1, 1) [] (.slice none 0 0)) := by
    have hTl : lexL s.data.toList = lexF (s.size + 1) (1, 1) s.data.toList := by unfold lexL; rw [hlen]
    refine ⟨?_, ?_, by simp, ⟨by simp, by simp⟩, ⟨?_, ?_, ?_, World.ownsRow_nil _ _ _ _, ?_⟩⟩
    · rw [hTl]; rfl
    · rw [hTl]; rfl
    · exact ((Blk.new w _ _).below ((Below.refl _ _).alloc (Nat.le_refl _) _)).below ((Below.refl _ _).alloc (Nat.le_refl _) _)
    · have := (Blk.new (w.alloc (.cells (fltA (0, 0, 0)) 28)) (plA (0, 0)) 26).below ((Below.refl _ _).alloc (Nat.le_refl _) (.cells (plA (1, 1)) 26))
      simpa using this
    · have := Blk.new ((w.alloc (.cells (fltA (0, 0, 0)) 28)).alloc (.cells (plA (0, 0)) 26)) (plA (1, 1)) 26
      simpa using this
    · exact (((Below.refl _ _).alloc (Nat.le_refl _) _).alloc (by simp) _).alloc (by simp; omega) _
  generalize lexL s.data.toList = TL at *
  go_enter Tryz.func9, Tryz.ntmps9
  go_wp2
  go_loopw [5, 7] (fun l i wr => ∃ a p done, i = .int .i64 ((a : Nat) : Int) ∧ a ≤ s.size ∧ SAt w TL s wr a p done l) (fun _ i _ => s.size - (intOf i).toNat)
  case atStart => exact ⟨0, (1, 1), [], rfl, by omega, HS.out⟩
  case round =>
    obtain ⟨a, p, done, rfl, hal, hW⟩ := hrel
    obtain ⟨eq1, eq2, hdl, ⟨hp1, hp2⟩, hM⟩ := hW
    have HEQ1 : Hid (done ++ (lexF (s.size - a + 1) p (s.data.toList.drop a)).1 = TL.1) := eq1
    have HEQ2 : Hid ((lexF (s.size - a + 1) p (s.data.toList.drop a)).2 = TL.2) := eq2
    have HM : Hid (MidR w wr p done u5) := hM
    have hgl := gap_le (s.data.toList.drop a) false
    rw [List.length_drop, hlen] at hgl
    have CG : Hid (∀ w, Calls Tryz.prog 14 #[.string s, .int .i64 (a : Int)] w fun e w' => e = .returned (.int .i64 ((a + gapL false (s.data.toList.drop a) : Nat) : Int)) ∧ w' = w) := fun w => rskipped_any s a hal hs w
    obtain ⟨g, hg⟩ : ∃ g, g = gapL false (s.data.toList.drop a) := ⟨_, rfl⟩
    rw [← hg] at CG hgl
    have HG : Hid (g = gapL false (s.data.toList.drop a)) := hg
    obtain ⟨b, hb⟩ : ∃ b, b = a + g := ⟨_, rfl⟩
    rw [← hb] at CG
    have hbs : b ≤ s.size := by omega
    have hab : a ≤ b := by omega
    have hx : (s.extract a b).data.toList = (s.data.toList.drop a).take g := by rw [ext_take]; congr 1; omega
    have hq := past_le ((s.data.toList.drop a).take g) p
    have htl : ((s.data.toList.drop a).take g).length = g := by rw [List.length_take, List.length_drop]; omega
    rw [htl] at hq
    obtain ⟨q, hqe⟩ : ∃ q, q = past p ((s.data.toList.drop a).take g) := ⟨_, rfl⟩
    have CB : Hid (Calls Tryz.prog 15 #[Pl p, .string (s.extract a b)] wr.drew fun e w'' => e = .returned (Pl q) ∧ w''.cell? ⟨w.heap.size + 2, 0, none⟩ = some (.int .i64 (p.1 : Int)) ∧ w''.cell? ⟨w.heap.size + 2, 1, none⟩ = some (.int .i64 (p.2 : Int)) ∧ w''.frozen? ⟨w.heap.size + 2, 0, none⟩ = false ∧ w''.frozen? ⟨w.heap.size + 2, 1, none⟩ = false ∧ Hid (MidR w w'' p done u5)) := by
      show Calls _ _ _ _ _
      have hbw : Below wr.heap.size wr wr.drew := (Below.refl _ _).drew
      have := rpast_any p (s.extract a b) (by omega) (by omega) (by simp; omega) wr.drew
      rw [hx, ← hqe] at this
      refine this.mono ?_
      rintro e w'' ⟨rfl, hb⟩
      have hm := (HM.out.below hbw).below hb
      exact ⟨rfl, hm.at'.cell 0 rfl, hm.at'.cell 1 rfl, hm.at'.frozen 0, hm.at'.frozen 1, hm⟩
    rw [← hqe] at hq
    have HRl : Hid ((s.data.toList.drop a).drop (gapL false (s.data.toList.drop a)) = s.data.toList.drop b) := by show _ = _; rw [← hg, List.drop_drop, ← hb]
    have HQ2 : Hid (past p ((s.data.toList.drop a).take (gapL false (s.data.toList.drop a))) = q) := by show _ = _; rw [← hg, hqe]
    have hqb : q.1 ≤ 1 + b ∧ q.2 ≤ 1 + b := by omega
    clear hqe htl eq1 eq2 hM hg hx HS HG hb hq hgl
    have a0 := HM.out.at'.cell 0 (v := .int .i64 (p.1 : Int)) rfl
    have a1 := HM.out.at'.cell 1 (v := .int .i64 (p.2 : Int)) rfl
    go_wp2_with (go_at_call 14; refine (CG.out _).mono ?_; rintro e w' ⟨rfl, hw'⟩; obtain rfl := Eq.symm hw')
    go_cut [] from 18 to 61 (fun wx => Hid (MidR w wx q done u5))
    case first =>
      go_region_with (go_at_call 15; refine CB.out.mono ?_; rintro e w2 ⟨rfl, d0, d1, f0, f1, HM2⟩)
      all_goals (go_wp2_with fail; go_meet; exact HM2.out.place q.1 q.2)
    case rest =>
      by_cases hend : b = s.size
      · have E : Hid (TL = (done, (0, 0, 0))) := by
          show _ = _
          have e1 := HEQ1.out
          have e2 := HEQ2.out
          have hf := lex_end (f := s.size - a) (p := p) (HRl.out.trans (by rw [hend, List.drop_of_length_le (by omega)]))
          rw [hf] at e1 e2
          simp only [List.append_nil] at e1
          exact Prod.ext e1.symm e2.symm
        have q1 : decide ((s.size : Int) ≤ (b : Int)) = true := decide_eq_true (by omega)
        have HC : Hid (MidR w wc q done u5) := hcut.out
        clear hcut a0 a1 HRl CB CG
        subst hend
        have r0 := HC.out.res.cell 0 (v := .int .i64 0) rfl
        have r1 := HC.out.res.cell 1 (v := .int .i64 0) rfl
        have r2 := HC.out.res.cell 2 (v := .int .i64 0) rfl
        have rf0 := HC.out.res.frozen 0
        have rf1 := HC.out.res.frozen 1
        have rf2 := HC.out.res.frozen 2
        have p0 := HC.out.pos.cell 0 (v := .int .i64 0) rfl
        have p1 := HC.out.pos.cell 1 (v := .int .i64 0) rfl
        have pf0 := HC.out.pos.frozen 0
        have pf1 := HC.out.pos.frozen 1
        have a0 := HC.out.at'.cell 0 (v := .int .i64 (q.1 : Int)) rfl
        have a1 := HC.out.at'.cell 1 (v := .int .i64 (q.2 : Int)) rfl
        go_wp2
        go_region
        go_wp2
        obtain ⟨z0, z1, z2, z3, z4, hrow, hbel⟩ := HC.out.fin (.int .i64 (0 : Int)) (.int .i64 (0 : Int)) (.int .i64 (0 : Int)) (.int .i64 (q.1 : Int)) (.int .i64 (q.2 : Int))
        refine bodyPost_ret (v := .tuple #[u5, .agg #[.int .i64 (0 : Int), .int .i64 (0 : Int), .int .i64 (0 : Int)], Pl q]) ?_ rfl ⟨u5, q, by rw [E.out] <;> try rfl, ?_, hbel.drew⟩
        · simp [results, Tryz.results9, go_sem, z0, z1, z2, z3, z4]
        · rw [E.out]; exact hrow
      · have q1 : decide ((s.size : Int) ≤ (b : Int)) = false := decide_eq_false (by omega)
        have hbl : b < s.size := by omega
        have q2 : ¬ s.size ≤ b := by omega
        have hne : s.data.toList.drop b ≠ [] := by rw [byteAt s hbl]; simp
        have HNE : Hid (s.data.toList.drop b ≠ []) := hne
        have CW : Hid (Calls Tryz.prog 16 #[.string s, .int .i64 (b : Int)] wc fun e w' => e = .returned (wdR (firstW (s.data.toList.drop b))) ∧ Below wc.heap.size wc w') := rword_any s b hbl hs wc
        have HTX : Hid ((firstW (s.data.toList.drop b)).e = 0 → 1 ≤ (firstW (s.data.toList.drop b)).text.length ∧ b + (firstW (s.data.toList.drop b)).text.length ≤ s.size) := fun h => by
          have h1 := firstW_text _ h
          have h2 := firstW_len _ h
          rw [List.length_drop, hlen] at h2
          omega
        obtain ⟨x, hx⟩ : ∃ x, firstW (s.data.toList.drop b) = x := ⟨_, rfl⟩
        have HX : Hid (firstW (s.data.toList.drop b) = x) := hx
        rw [hx] at CW HTX
        obtain ⟨kd, tx, vl, er⟩ := x
        have HCU : Hid (MidR w wc q done u5) := hcut.out
        clear hne hx hend hcut a0 a1
        go_wp2_with fail

        refine CW.out.mono ?_
        rintro e w3 ⟨rfl, hb3⟩
        have HC : Hid (MidR w (w3.alloc (.cells #[.int .i64 (kd : Int), .string ⟨tx.toArray⟩, .int .u64 (hiOf vl), .int .u64 (loOf vl), .int .i64 0, .int .i64 0] 47)) q done u5) := (HCU.out.below hb3).below ((Below.refl _ _).alloc (Nat.le_refl _) _)
        have HW3 : Hid (Blk (w3.alloc (.cells #[.int .i64 (kd : Int), .string ⟨tx.toArray⟩, .int .u64 (hiOf vl), .int .u64 (loOf vl), .int .i64 0, .int .i64 0] 47)) w3.heap.size #[.int .i64 (kd : Int), .string ⟨tx.toArray⟩, .int .u64 (hiOf vl), .int .u64 (loOf vl), .int .i64 0, .int .i64 0] 47) := Blk.new _ _ _
        have hzw : w.heap.size + 3 ≤ w3.heap.size := Nat.le_trans HCU.out.size hb3.size
        have HSV : Hid (∀ k, u5.ownBlock = some k → k < w3.heap.size) := fun k e => Nat.lt_of_lt_of_le (HCU.out.row.lt k e).2 hb3.size
        unfold wdR
        clear CW hb3 HCU
        go_upto_region 12 with fail
        generalize w3.alloc (.cells #[.int .i64 (kd : Int), .string ⟨tx.toArray⟩, .int .u64 (hiOf vl), .int .u64 (loOf vl), .int .i64 0, .int .i64 0] 47) = W at *
        generalize w3.heap.size = wb at *
        by_cases he : er = 0
        · subst he
          obtain ⟨m1, m2⟩ := HTX.out rfl
          have m1 : 1 ≤ tx.length := m1
          have m2 : b + tx.length ≤ s.size := m2
          obtain ⟨tb, htb⟩ : ∃ tb : ByteArray, tb = ⟨tx.toArray⟩ := ⟨_, rfl⟩
          have htbs : tb.size = tx.length := by rw [htb]; show tx.toArray.size = _; simp
          have HTB : Hid (tb.data.toList = tx) := by show _ = _; rw [htb]
          have HTA : Hid (tkA ⟨kd, tx, vl, q.1, q.2⟩ = #[.int .i64 (kd : Int), .string tb, .int .u64 (hiOf vl), .int .u64 (loOf vl), .int .i64 (q.1 : Int), .int .i64 (q.2 : Int)]) := by show _ = _; rw [htb]
          have HTV : Hid (tkV ⟨kd, tx, vl, q.1, q.2⟩ = [.int .i64 (kd : Int), .string tb, .int .u64 (hiOf vl), .int .u64 (loOf vl), .int .i64 (q.1 : Int), .int .i64 (q.2 : Int)]) := by show _ = _; rw [htb]; rfl
          unfold Tw
          rw [← htb] at HW3 ⊢
          clear htb HTX
          have a0 := HC.out.at'.cell 0 (v := .int .i64 (q.1 : Int)) rfl
          have a1 := HC.out.at'.cell 1 (v := .int .i64 (q.2 : Int)) rfl
          have k0 := HW3.out.cell 0 (v := .int .i64 (kd : Int)) rfl
          have k1 := HW3.out.cell 1 (v := .string tb) rfl
          have k2 := HW3.out.cell 2 (v := .int .u64 (hiOf vl)) rfl
          have k3 := HW3.out.cell 3 (v := .int .u64 (loOf vl)) rfl
          have k4 := HW3.out.cell 4 (v := .int .i64 0) rfl
          have k5 := HW3.out.cell 5 (v := .int .i64 0) rfl
          have f4 := HW3.out.frozen 4
          have f5 := HW3.out.frozen 5
          have ne1 : ¬ (wb = w.heap.size + 2) := by omega
          have ne2 : ¬ (w.heap.size + 2 = wb) := by omega
          have ne3 : ¬ (wb = w.heap.size + 1 + 1) := by omega
          have ne4 : ¬ (w.heap.size + 1 + 1 = wb) := by omega
          have hwbl : wb < W.heap.size := HW3.out.lt
          obtain ⟨W1, hW1⟩ : ∃ W1, W1 = (W.setCell ⟨wb, 4, none⟩ (.int .i64 (q.1 : Int))).setCell ⟨wb, 5, none⟩ (.int .i64 (q.2 : Int)) := ⟨_, rfl⟩
          have HKW : Kept (fun j => j = wb) W W1 := by rw [hW1]; exact ((Kept.refl (fun j => j = wb) W).set rfl _).set rfl _
          have HC1 : Hid (MidR w W1 q done u5) := HC.out.keep HKW (fun k hk e => by omega) (fun k e e2 => by have := HSV.out k e; omega)
          have HW4 : Hid (Blk W1 wb #[.int .i64 (kd : Int), .string tb, .int .u64 (hiOf vl), .int .u64 (loOf vl), .int .i64 (q.1 : Int), .int .i64 (q.2 : Int)] 47) := by
            show Blk _ _ _ _
            rw [hW1]; exact (HW3.out.set 4 _).set 5 _
          have hsz1 : W1.heap.size = W.heap.size := by rw [hW1]; simp
          have HNW : Hid (W1 = (W.setCell ⟨wb, 4, none⟩ (.int .i64 (q.1 : Int))).setCell ⟨wb, 5, none⟩ (.int .i64 (q.2 : Int))) := hW1
          clear hW1 HKW
          go_upto_region 15 with fail
          simp only [← HNW.out]
          clear a0 a1 k0 k1 k2 k3 k4 k5 f4 f5 HNW HC HW3
          have k0 := HW4.out.cell 0 (v := .int .i64 (kd : Int)) rfl
          have k1 := HW4.out.cell 1 (v := .string tb) rfl
          have k2 := HW4.out.cell 2 (v := .int .u64 (hiOf vl)) rfl
          have k3 := HW4.out.cell 3 (v := .int .u64 (loOf vl)) rfl
          have k4 := HW4.out.cell 4 (v := .int .i64 (q.1 : Int)) rfl
          have k5 := HW4.out.cell 5 (v := .int .i64 (q.2 : Int)) rfl
          have HR0 : Hid ((W1.alloc (.cells #[.int .i64 (kd : Int), .string tb, .int .u64 (hiOf vl), .int .u64 (loOf vl), .int .i64 (q.1 : Int), .int .i64 (q.2 : Int)] 47)).ownsRow (w.heap.size + 3) 47 6 u5 done.length (tcells done)) := HC1.out.row.alloc _
          have HN0 : Hid (∀ (j : Nat) (u : Value), ([.int .i64 (kd : Int), .string tb, .int .u64 (hiOf vl), .int .u64 (loOf vl), .int .i64 (q.1 : Int), .int .i64 (q.2 : Int)] : List Value)[j]? = some u → (W1.alloc (.cells #[.int .i64 (kd : Int), .string tb, .int .u64 (hiOf vl), .int .u64 (loOf vl), .int .i64 (q.1 : Int), .int .i64 (q.2 : Int)] 47)).cell? ((⟨W1.heap.size, 0, none⟩ : Addr).add j) = some u) := World.news_of_block (Blk.new W1 #[.int .i64 (kd : Int), .string tb, .int .u64 (hiOf vl), .int .u64 (loOf vl), .int .i64 (q.1 : Int), .int .i64 (q.2 : Int)] 47)
          have HO0 : Hid (∀ u ∈ ([.int .i64 (kd : Int), .string tb, .int .u64 (hiOf vl), .int .u64 (loOf vl), .int .i64 (q.1 : Int), .int .i64 (q.2 : Int)] : List Value), u.oneCell' = true) := fun u hu => by
            simp at hu; rcases hu with rfl | rfl | rfl | rfl | rfl | rfl <;> rfl
          have HZ1 : Hid (done.length + 1 ≤ maxLen) := by show _ ≤ _; unfold maxLen; omega
          have HZ2 : Hid ((done.length + 1) * 56 ≤ 140737488355328) := by show _ ≤ _; omega
          have HZ3 : Hid (w.heap.size + 3 ≤ (W1.alloc (.cells #[.int .i64 (kd : Int), .string tb, .int .u64 (hiOf vl), .int .u64 (loOf vl), .int .i64 (q.1 : Int), .int .i64 (q.2 : Int)] 47)).heap.size) := by show _ ≤ _; have := HC1.out.size; simp; omega
          clear hsz1 hwbl ne1 ne2 ne3 ne4
          go_wp2_with (at_builtin; refine wpList_append_lies _ rfl _ _ 23 rfl (w.heap.size + 3) 47 i47 (.agg zero36) 6 56 Tryz.underlying23 hi47 hz0 hz1 hz3 rfl (by decide) u5 done.length (tcells done) rfl HR0.out ⟨W1.heap.size, 0, none⟩ 1 1 [.int .i64 (kd : Int), .string tb, .int .u64 (hiOf vl), .int .u64 (loOf vl), .int .i64 (q.1 : Int), .int .i64 (q.2 : Int)] rfl rfl HN0.out HO0.out (by decide) HZ1.out HZ2.out HZ3.out _ rfl ?_)
          intro g1 cap1 w4 hown1 hgr1 hwh1 hlt1
          have hKA : Kept (fun k => u5.ownBlock = some k) W1 w4 := ((Kept.refl _ _).alloc _).grown hgr1 (fun k e => e)
          have hno : ∀ k, k < w.heap.size + 3 → ¬ u5.ownBlock = some k := fun k hk e => by have := (HC1.out.row.lt k e).1; omega
          have H1 : w4.ownsRow (w.heap.size + 3) 47 6 (.slice (some ⟨g1, 0, none⟩) (done.length + 1) cap1) (done ++ [(⟨kd, tx, vl, q.1, q.2⟩ : Tk)]).length (tcells (done ++ [(⟨kd, tx, vl, q.1, q.2⟩ : Tk)])) := by
            rw [tcells_snoc, List.length_append, HTV.out]; exact hown1
          have HM4 : Hid (MidR w w4 q (done ++ [(⟨kd, tx, vl, q.1, q.2⟩ : Tk)]) (.slice (some ⟨g1, 0, none⟩) (done.length + 1) cap1)) := ⟨HC1.out.res.kept hKA (hno _ (by omega)), HC1.out.pos.kept hKA (hno _ (by omega)), HC1.out.at'.kept hKA (hno _ (by omega)), H1, HC1.out.bel.trans (hKA.below HC1.out.bel.size (fun j e => by have := (HC1.out.row.lt j e).1; omega))⟩
          have HW6 : Hid (Blk w4 wb #[.int .i64 (kd : Int), .string tb, .int .u64 (hiOf vl), .int .u64 (loOf vl), .int .i64 (q.1 : Int), .int .i64 (q.2 : Int)] 47) := HW4.out.kept hKA (fun e => by have := HSV.out _ e; omega)
          clear hown1 hgr1 hwh1 hlt1 hKA hno H1 HR0 HN0 HO0 HZ1 HZ2 HZ3 k0 k1 k2 k3 k4 k5 HC1 HW4
          have a0 := HM4.out.at'.cell 0 (v := .int .i64 (q.1 : Int)) rfl
          have a1 := HM4.out.at'.cell 1 (v := .int .i64 (q.2 : Int)) rfl
          have k1 := HW6.out.cell 1 (v := .string tb) rfl
          have CB2 : Hid (Calls Tryz.prog 15 #[Pl q, .string tb] w4 fun e w'' => e = .returned (Pl (past q tx)) ∧ Below w4.heap.size w4 w'') := by
            have := rpast_any q tb (by omega) (by omega) (by omega) w4
            rw [HTB.out] at this
            exact this
          have hq3 := past_le tx q
          obtain ⟨q2, hq2⟩ : ∃ q2, q2 = past q tx := ⟨_, rfl⟩
          rw [← hq2] at CB2 hq3
          have E : Hid ((done ++ [(⟨kd, tx, vl, q.1, q.2⟩ : Tk)]) ++ (lexF (s.size - (b + tx.length) + 1) q2 (s.data.toList.drop (b + tx.length))).1 = TL.1 ∧ (lexF (s.size - (b + tx.length) + 1) q2 (s.data.toList.drop (b + tx.length))).2 = TL.2) := by
            have e1 := HEQ1.out
            have e2 := HEQ2.out
            have hf := lex_word (f := s.size - a) (p := p) HRl.out HNE.out HX.out rfl HQ2.out
            simp only at hf
            rw [hf] at e1 e2
            simp only [List.drop_drop] at e1 e2
            rw [hq2, lex_fuel (s.size - (b + tx.length) + 1) (s.size - a) _ _ (by rw [List.length_drop]; omega) (by rw [List.length_drop]; omega)]
            exact ⟨by rw [← e1, List.append_assoc]; rfl, e2⟩
          clear hq2
          go_wp2_with fail
          refine CB2.out.mono ?_
          rintro e w8 ⟨rfl, hb8⟩
          have HM8 : Hid (MidR w w8 q (done ++ [(⟨kd, tx, vl, q.1, q.2⟩ : Tk)]) (.slice (some ⟨g1, 0, none⟩) (done.length + 1) cap1)) := HM4.out.below hb8
          clear CB2 hb8 a0 a1 k1 HM4 HW6
          have a0 := HM8.out.at'.cell 0 (v := .int .i64 (q.1 : Int)) rfl
          have a1 := HM8.out.at'.cell 1 (v := .int .i64 (q.2 : Int)) rfl
          have f0 := HM8.out.at'.frozen 0
          have f1 := HM8.out.at'.frozen 1
          go_wp2
          refine ⟨⟨b + tx.length, q2, done ++ [(⟨kd, tx, vl, q.1, q.2⟩ : Tk)], by go_num, m2, ⟨E.out.1, E.out.2, by rw [List.length_append]; simp; omega, ⟨by omega, by omega⟩, HM8.out.place q2.1 q2.2⟩⟩, by simp only [intOf]; omega⟩
        · have he' : ((er : Int) != 0) = true := by simp [he]
          have E : Hid (TL = (done, (er, q.1, q.2))) := by
            show _ = _
            have e1 := HEQ1.out
            have e2 := HEQ2.out
            have hf := lex_fault (f := s.size - a) (p := p) HRl.out HNE.out (by rw [HX.out]; exact he)
            rw [hf, HX.out, HQ2.out] at e1 e2
            simp only [List.append_nil] at e1
            exact Prod.ext e1.symm e2.symm
          clear he
          have r0 := HC.out.res.cell 0 (v := .int .i64 0) rfl
          have r1 := HC.out.res.cell 1 (v := .int .i64 0) rfl
          have r2 := HC.out.res.cell 2 (v := .int .i64 0) rfl
          have rf0 := HC.out.res.frozen 0
          have rf1 := HC.out.res.frozen 1
          have rf2 := HC.out.res.frozen 2
          have p0 := HC.out.pos.cell 0 (v := .int .i64 0) rfl
          have p1 := HC.out.pos.cell 1 (v := .int .i64 0) rfl
          have pf0 := HC.out.pos.frozen 0
          have pf1 := HC.out.pos.frozen 1
          have a0 := HC.out.at'.cell 0 (v := .int .i64 (q.1 : Int)) rfl
          have a1 := HC.out.at'.cell 1 (v := .int .i64 (q.2 : Int)) rfl
          go_wp2
          go_region
          go_wp2
          obtain ⟨z0, z1, z2, z3, z4, hrow, hbel⟩ := HC.out.fin (.int .i64 (er : Int)) (.int .i64 (q.1 : Int)) (.int .i64 (q.2 : Int)) (.int .i64 (q.1 : Int)) (.int .i64 (q.2 : Int))
          refine bodyPost_ret (v := .tuple #[u5, .agg #[.int .i64 (er : Int), .int .i64 (q.1 : Int), .int .i64 (q.2 : Int)], Pl q]) ?_ rfl ⟨u5, q, by rw [E.out] <;> try rfl, ?_, hbel.drew⟩
          · simp [results, Tryz.results9, go_sem, z0, z1, z2, z3, z4]
          · rw [E.out]; exact hrow
end Go.Proofs.YtlgfpjaomiomjaaGreatDoor
