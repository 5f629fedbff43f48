/- The document's disks in memory; their small calls: Size, Off, Stats, step, Cut. -/
import Derived.Test.YtnpcnflfpmjgiaaDoorCq
import Derived.Test.YtnpcnflfpmjgiaaDoorCk
namespace Go.Proofs.YtnpcnflfpmjgiaaDoor
open Go.RowKit
set_option linter.unusedVariables false
set_option linter.unusedSimpArgs false

theorem set_twice (w : World) (b i : Nat) (v v' : Value) : (w.setCell ⟨b, i, none⟩ v).setCell ⟨b, i, none⟩ v' = w.setCell ⟨b, i, none⟩ v' := by
  unfold World.setCell
  congr 1
  apply Array.ext
  · simp
  · intro j h1 h2
    have hj : j < w.heap.size := by simpa using h2
    simp only [Array.getElem_modify]
    by_cases e : b = j
    · simp only [e, if_true]
      generalize w.heap[j] = o
      cases o <;> simp
    · simp only [e, if_false]
/-- Pending writes, in memory. -/
def wcells : List (Nat × ByteArray) → List Value
  | [] => []
  | p :: ws => .int .i64 (p.1 : Int) :: .string p.2 :: wcells ws
theorem wcells_length (ws : List (Nat × ByteArray)) : (wcells ws).length = ws.length * 2 := by
  induction ws with
  | nil => rfl
  | cons p ws ih => show (wcells ws).length + 1 + 1 = _; rw [ih]; simp; omega
theorem wcells_snoc (ws : List (Nat × ByteArray)) (p : Nat × ByteArray) : wcells (ws ++ [p]) = wcells ws ++ [.int .i64 (p.1 : Int), .string p.2] := by
  induction ws with
  | nil => rfl
  | cons q ws ih => show _ :: _ :: wcells (ws ++ [p]) = _; rw [ih]; rfl
theorem wcells_at (ws : List (Nat × ByteArray)) (i : Nat) (p : Nat × ByteArray) (h : ws[i]? = some p) : (wcells ws)[i * 2]? = some (.int .i64 (p.1 : Int)) ∧ (wcells ws)[i * 2 + 1]? = some (.string p.2) := by
  induction ws generalizing i with
  | nil => simp at h
  | cons q ws ih =>
    match i with
    | 0 => simp at h; subst h; exact ⟨rfl, rfl⟩
    | i + 1 =>
      have := ih i (by simpa using h)
      rw [show (i + 1) * 2 = i * 2 + 1 + 1 by omega]
      exact this
/-- The document's disk's own block. -/
def rbody (g cg : Nat) (pv : Value) (S : DS) : Array Value := #[.slice (some ⟨g, 0, none⟩) S.safe.length cg, pv, .bool S.off, .int .i64 S.cut, .int .i64 S.rd, .int .i64 S.wr, .int .i64 S.fl]
def RP (b g : Nat) (pv : Value) : Nat → Prop := fun k => k = b ∨ k = g ∨ pv.ownBlock = some k
structure Rv (B : Nat) (w : World) (b g cg : Nat) (pv : Value) (S : DS) : Prop where
  ok : S.Ok
  blk : Blk w b (rbody g cg pv S) 84
  rowG : w.ownsRow B 9 1 (.slice (some ⟨g, 0, none⟩) S.safe.length cg) S.safe.length (strs S.safe)
  rowP : w.ownsRow B 94 2 pv S.wait.length (wcells S.wait)
  bg : b ≠ g
  pb : ∀ k, pv.ownBlock = some k → k ≠ b ∧ k ≠ g
  low : B ≤ b
section
variable {B : Nat} {w : World} {b g cg : Nat} {pv : Value} {S : DS}
theorem Rv.fp (d : Rv B w b g cg pv S) : ∀ k, RP b g pv k → B ≤ k ∧ k < w.heap.size := by
  rintro k (rfl | rfl | hk)
  · exact ⟨d.low, d.blk.lt⟩
  · exact d.rowG.lt _ rfl
  · exact d.rowP.lt k hk
theorem Rv.kept {T : Nat → Prop} {w' : World} (d : Rv B w b g cg pv S) (hk : Kept T w w') (hn : ∀ k, RP b g pv k → ¬ T k) : Rv B w' b g cg pv S where
  ok := d.ok
  blk := d.blk.kept hk (hn b (.inl rfl))
  rowG := ownsRow_kept d.rowG hk (fun k e => by simp [Value.ownBlock] at e; subst e; exact hn _ (.inr (.inl rfl)))
  rowP := ownsRow_kept d.rowP hk (fun k e => hn k (.inr (.inr e)))
  bg := d.bg
  pb := d.pb
  low := d.low
theorem Rv.below {w' : World} (d : Rv B w b g cg pv S) (hb : Below w.heap.size w w') : Rv B w' b g cg pv S := d.kept (T := fun _ => False) (Kept.of_below hb) (fun _ _ => id)
theorem Rv.drew (d : Rv B w b g cg pv S) : Rv B w.drew b g cg pv S := d.kept (T := fun _ => False) (Kept.refl _ _).drew (fun _ _ => id)
theorem Rv.upd {w' : World} {S' : DS} (d : Rv B w b g cg pv S) (hk : Kept (fun k => k = b) w w') (hb : Blk w' b (rbody g cg pv S') 84) (hok : S'.Ok) (hs : S'.safe = S.safe) (hw : S'.wait = S.wait) : Rv B w' b g cg pv S' where
  ok := hok
  blk := hb
  rowG := by rw [hs]; exact ownsRow_kept d.rowG hk (fun k e => by simp [Value.ownBlock] at e; subst e; exact d.bg.symm)
  rowP := by rw [hw]; exact ownsRow_kept d.rowP hk (fun k e => (d.pb k e).1)
  bg := d.bg
  pb := d.pb
  low := d.low
theorem Rv.setG (d : Rv B w b g cg pv S) (n : Nat) (s : ByteArray) (hs : s.size = 512) : Rv B (w.setCell ⟨g, n, none⟩ (.string s)) b g cg pv { S with safe := S.safe.set n s } := by
  have hk : Kept (fun k => k = g) w (w.setCell ⟨g, n, none⟩ (.string s)) := Kept.set (S := fun k => k = g) (Kept.refl _ _) rfl _
  exact {
    ok := ⟨by simpa using d.ok.one, by simpa using d.ok.most, mem_set d.ok.size hs, by simpa using d.ok.num, d.ok.len, d.ok.cut0, d.ok.cut1, d.ok.idle⟩
    blk := by have := d.blk.kept hk d.bg; simpa [rbody] using this
    rowG := by have := (d.rowG.stored n (.string s)).1; rw [strs_set] at this; simpa using this
    rowP := ownsRow_kept d.rowP hk (fun k e => (d.pb k e).2)
    bg := d.bg
    pb := d.pb
    low := d.low }
theorem Rv.emptied (d : Rv B w b g cg pv S) : Rv B (w.setCell ⟨b, 1, none⟩ (.slice none 0 0)) b g cg (.slice none 0 0) { S with wait := [] } := by
  have hk : Kept (fun k => k = b) w (w.setCell ⟨b, 1, none⟩ (.slice none 0 0)) := Kept.set (S := fun k => k = b) (Kept.refl _ _) rfl _
  exact {
    ok := ⟨d.ok.one, d.ok.most, d.ok.size, by simp, by simp, d.ok.cut0, d.ok.cut1, d.ok.idle⟩
    blk := d.blk.set 1 (.slice none 0 0)
    rowG := ownsRow_kept d.rowG hk (fun k e => by simp [Value.ownBlock] at e; subst e; exact d.bg.symm)
    rowP := World.ownsRow_nil _ _ _ _
    bg := d.bg
    pb := fun k e => by simp [Value.ownBlock] at e
    low := d.low }
theorem rsafe_at (d : Rv B w b g cg pv S) {n : Nat} (hn : n < S.safe.length) : w.cell? ⟨g, n, none⟩ = some (.string (S.safe.getD n ByteArray.empty)) := by
  rw [d.rowG.cellAt n (by omega)]; exact strs_at _ _ hn
theorem rsize_any (d : Rv B w b g cg pv S) : Calls Tryd.prog 48 #[.pointer (some ⟨b, 0, none⟩)] w fun e w' => e = .returned (.int .i64 S.safe.length) ∧ w' = w := by
  have c0 := d.blk.cell 0 (v := .slice (some ⟨g, 0, none⟩) S.safe.length cg) rfl
  clear d
  go_enter Tryd.func48, Tryd.ntmps48
  go_wp2
  go_ret
  exact ⟨rfl, rfl⟩
theorem roff_any (d : Rv B w b g cg pv S) : Calls Tryd.prog 24 #[.pointer (some ⟨b, 0, none⟩)] w fun e w' => e = .returned (.bool S.off) ∧ w' = w := by
  have c3 := d.blk.cell 2 (v := .bool S.off) rfl
  clear d
  go_enter Tryd.func24, Tryd.ntmps24
  go_wp2
  go_ret
  exact ⟨rfl, rfl⟩
theorem rstats_any (d : Rv B w b g cg pv S) : Calls Tryd.prog 22 #[.pointer (some ⟨b, 0, none⟩)] w fun e w' => e = .returned (.agg #[.int .i64 S.rd, .int .i64 S.wr, .int .i64 S.fl]) ∧ Below w.heap.size w w' := by
  have c5 := d.blk.cell 4 (v := .int .i64 S.rd) rfl
  have c6 := d.blk.cell 5 (v := .int .i64 S.wr) rfl
  have c7 := d.blk.cell 6 (v := .int .i64 S.fl) rfl
  have hlt := d.blk.lt
  clear d
  go_enter Tryd.func22, Tryd.ntmps22
  go_wp2
  exact bodyPost_ret (v := .agg #[.int .i64 S.rd, .int .i64 S.wr, .int .i64 S.fl]) (by simp [results, Tryd.results22, go_sem]) rfl ⟨rfl, (Below.refl _ _).alloc (Nat.le_refl _) _⟩
set_option maxRecDepth 100000 in
theorem rstep_any (d : Rv B w b g cg pv S) (hof : S.off = false) : Calls Tryd.prog 78 #[.pointer (some ⟨b, 0, none⟩)] w fun e w' => e = .returned (.bool (stepD S).off) ∧ Rv B w' b g cg pv (stepD S) ∧ Kept (fun k => k = b) w w' ∧ w'.heap.size = w.heap.size := by
  have c2 := d.blk.cell 2 (v := .bool S.off) rfl
  have c3 := d.blk.cell 3 (v := .int .i64 S.cut) rfl
  have f2 := d.blk.frozen 2
  have f3 := d.blk.frozen 3
  have h0 := d.ok.cut0
  have h1 := d.ok.cut1
  by_cases hz : S.cut = 0
  · have hst : stepD S = S := by unfold stepD; rw [hz, hof]; cases S; simp_all
    rw [hst, hof]
    rw [hof] at c2
    rw [hz] at c3
    have hend : Hid (Rv B w b g cg pv S) := d
    clear d hst hz hof h0 h1
    go_enter Tryd.func78, Tryd.ntmps78
    go_wp2
    go_ret
    exact ⟨rfl, hend.out, Kept.refl _ _, rfl⟩
  · have hst : stepD S = { S with off := (S.cut - 1 == 0), cut := S.cut - 1 } := by
      unfold stepD
      rw [hof, if_neg (by omega), show (S.cut == 1) = (S.cut - 1 == 0) by rw [Bool.eq_iff_iff]; simp; omega]
      simp
    have hend : Hid (Rv B ((w.setCell ⟨b, 3, none⟩ (.int .i64 (S.cut - 1))).setCell ⟨b, 2, none⟩ (.bool (S.cut - 1 == 0))) b g cg pv (stepD S) ∧ Kept (fun k => k = b) w ((w.setCell ⟨b, 3, none⟩ (.int .i64 (S.cut - 1))).setCell ⟨b, 2, none⟩ (.bool (S.cut - 1 == 0))) ∧ ((w.setCell ⟨b, 3, none⟩ (.int .i64 (S.cut - 1))).setCell ⟨b, 2, none⟩ (.bool (S.cut - 1 == 0))).heap.size = w.heap.size) := by
      have hk : Kept (fun k => k = b) w ((w.setCell ⟨b, 3, none⟩ (.int .i64 (S.cut - 1))).setCell ⟨b, 2, none⟩ (.bool (S.cut - 1 == 0))) := Kept.set (S := fun k => k = b) (Kept.set (S := fun k => k = b) (Kept.refl _ _) rfl _) rfl _
      refine ⟨d.upd hk ?_ (stepD_ok d.ok) rfl rfl, hk, by simp⟩
      rw [hst]; exact (d.blk.set 3 _).set 2 _
    have HO : Hid ((stepD S).off = (S.cut - 1 == 0)) := by show _ = _; rw [hst]
    have hw : wrap64 (S.cut - 1) = S.cut - 1 := wrap_small (by omega) (by omega)
    generalize stepD S = T at *
    generalize hc : S.cut = c at *
    have hp : 0 < c := by omega
    generalize hq : (c - 1 == 0) = q at *
    clear d hst hof
    go_enter Tryd.func78, Tryd.ntmps78
    go_wp2
    go_ret
    exact ⟨by rw [HO.out]; rfl, hend.out⟩
set_option maxRecDepth 100000 in
theorem rcut_any (d : Rv B w b g cg pv S) (k : Int) (hk : k ≤ 9223372036854775807) : Calls Tryd.prog 53 #[.pointer (some ⟨b, 0, none⟩), .int .i64 k] w fun e w' => e = .returned (.tuple #[]) ∧ Rv B w' b g cg pv (cutD S k) ∧ Kept (fun k => k = b) w w' ∧ w'.heap.size = w.heap.size := by
  have c2 := d.blk.cell 2 (v := .bool S.off) rfl
  have c3 := d.blk.cell 3 (v := .int .i64 S.cut) rfl
  have f3 := d.blk.frozen 3
  have hend : Hid (∀ q : Int, (cutD S k).cut = q → Rv B (w.setCell ⟨b, 3, none⟩ (.int .i64 q)) b g cg pv (cutD S k) ∧ Kept (fun k => k = b) w (w.setCell ⟨b, 3, none⟩ (.int .i64 q)) ∧ (w.setCell ⟨b, 3, none⟩ (.int .i64 q)).heap.size = w.heap.size) := by
    show ∀ q : Int, _
    rintro q rfl
    have hk' : Kept (fun k => k = b) w (w.setCell ⟨b, 3, none⟩ (.int .i64 (cutD S k).cut)) := Kept.set (S := fun k => k = b) (Kept.refl _ _) rfl _
    have hsf : (cutD S k).safe = S.safe ∧ (cutD S k).wait = S.wait ∧ (cutD S k).off = S.off ∧ (cutD S k).rd = S.rd ∧ (cutD S k).wr = S.wr ∧ (cutD S k).fl = S.fl := by unfold cutD; split <;> exact ⟨rfl, rfl, rfl, rfl, rfl, rfl⟩
    refine ⟨d.upd hk' ?_ (cutD_ok d.ok k hk) hsf.1 hsf.2.1, hk', by simp⟩
    have := d.blk.set 3 (.int .i64 (cutD S k).cut)
    unfold rbody at this ⊢
    rw [hsf.1, hsf.2.2.1, hsf.2.2.2.1, hsf.2.2.2.2.1, hsf.2.2.2.2.2]
    exact this
  by_cases ho : S.off = true
  · have hc : (cutD S k).cut = 0 := by unfold cutD; rw [if_pos ho]; exact d.ok.idle ho
    rw [ho] at c2
    have HC : Hid ((cutD S k).cut = 0) := hc
    generalize cutD S k = T at *
    clear d hc ho
    by_cases hkk : 0 < k
    all_goals
      go_enter Tryd.func53, Tryd.ntmps53
      go_wp2
      first | go_end0 | refine bodyPost_ret (results_none rfl _ _ _) rfl ?_
      exact ⟨rfl, hend.out 0 HC.out⟩
  · have ho' : S.off = false := by simpa using ho
    have hc : (cutD S k).cut = max k 0 := by unfold cutD; rw [if_neg ho]
    rw [ho'] at c2
    have HC : Hid ((cutD S k).cut = max k 0) := hc
    generalize cutD S k = T at *
    clear d hc ho ho'
    by_cases hkk : 0 < k
    · have hend2 : Hid (Rv B (w.setCell ⟨b, 3, none⟩ (.int .i64 k)) b g cg pv T ∧ Kept (fun k => k = b) w (w.setCell ⟨b, 3, none⟩ (.int .i64 k)) ∧ (w.setCell ⟨b, 3, none⟩ (.int .i64 k)).heap.size = w.heap.size) := hend.out k (by rw [HC.out]; omega)
      have h2 : (w.setCell ⟨b, 3, none⟩ (.int .i64 0)).setCell ⟨b, 3, none⟩ (.int .i64 k) = w.setCell ⟨b, 3, none⟩ (.int .i64 k) := by
        exact set_twice w b 3 _ _
      go_enter Tryd.func53, Tryd.ntmps53
      go_wp2
      first | go_end0 | refine bodyPost_ret (results_none rfl _ _ _) rfl ?_
      exact ⟨rfl, hend2.out⟩
    · have hend2 : Hid (Rv B (w.setCell ⟨b, 3, none⟩ (.int .i64 0)) b g cg pv T ∧ Kept (fun k => k = b) w (w.setCell ⟨b, 3, none⟩ (.int .i64 0)) ∧ (w.setCell ⟨b, 3, none⟩ (.int .i64 0)).heap.size = w.heap.size) := hend.out 0 (by rw [HC.out]; omega)
      go_enter Tryd.func53, Tryd.ntmps53
      go_wp2
      first | go_end0 | refine bodyPost_ret (results_none rfl _ _ _) rfl ?_
      exact ⟨rfl, hend2.out⟩
end
end Go.Proofs.YtnpcnflfpmjgiaaDoor
