/- Package pack's writers: put, New, Len, Out, and the calls that write: what each leaves. -/
import Derived.Test.YtdpddlaedffmdaaKe
import Derived.Test.YtdpddlaedffmdaaBd
namespace Go.Proofs.Ytdpddlaedffmdaa
open Go.RowKit
set_option linter.unusedVariables false
set_option linter.unusedSimpArgs false

/-- The append of a text, for the walk: with the place of what comes out. -/
theorem wpList_append_where {ops : Array Oper} {rest : List Oper} {o : Oper} {a : Act} {Q : Exit → Act → World → Prop} {w : World} (hgd : o.guard = none) (hty : o.type = 28) (sl x : Operand)
    (ho : o.op = .call { callee := .builtin .append, args := #[sl, x], argTypes := #[28, 9] }) (B : Nat) (i : TypeInfo) (hi : Try.prog.info? 5 = some i) (hz : i.zero = some (.int .u8 0)) (hsize : i.size = 1) (hby : i.bytes = 1)
    (v : Value) (n : Nat) (xs : List Value) (hs : a.eval sl = v) (hown : w.ownsRow B 5 1 v n xs) (s : ByteArray) (hx : a.eval x = .string s) (hb : n + s.size ≤ 140737488355328) (hB : B ≤ w.heap.size)
    (h : ∀ v' w', w'.ownsRow B 5 1 v' (n + s.size) (xs ++ Lib.strCells s) → w.grownBy w' v.ownBlock → (v'.ownBlock = v.ownBlock ∨ v'.ownBlock = some w.heap.size) → wpList Try.prog ops Q rest (a.put o.dst v') w') : wpList Try.prog ops Q (o :: rest) a w := by
  refine wpList_plain hgd fun K hK => ?_
  obtain ⟨v', w', hr, h2, h3, h4⟩ := append_where hi hz hsize hby hown s hb hB
  have hK' := hK _ _ (h v' w' h2 h3 h4)
  simp only [Oper.wp, execOp, ho, hty, resolve, invoke, builtin, Sem.run_bind, Sem.run_pure, Result.andThen_ok, List.map_toArray, List.map_cons, List.map_nil, hs, hx, hr]
  exact hK'

theorem put_nil (s : ByteArray) (f : Int) (w : World) : Calls Try.prog 61 #[.pointer none, .string s, .int .i64 f] w fun e w' => e = .returned (.tuple #[]) ∧ w' = w := by
  go_enter Try.func61, Try.ntmps61
  go_wp2
  first | go_end0 | refine bodyPost_ret (results_none rfl _ _ _) rfl ?_
  all_goals exact ⟨rfl, rfl⟩
theorem put_dead {B b : Nat} {v : Value} {l : List UInt8} {g : Int} {w : World} (h : Wr B w b v l g) (hg : g ≠ 0) (s : ByteArray) (f : Int) : Calls Try.prog 61 #[.pointer (some ⟨b, 0, none⟩), .string s, .int .i64 f] w fun e w' => e = .returned (.tuple #[]) ∧ w' = w := by
  obtain ⟨h0, h1, h2, h3, h4, h5, h6⟩ := h
  go_enter Try.func61, Try.ntmps61
  go_wp2
  first | go_end0 | refine bodyPost_ret (results_none rfl _ _ _) rfl ?_
  all_goals exact ⟨rfl, rfl⟩
theorem put_err {B b : Nat} {v : Value} {l : List UInt8} {w : World} (h : Wr B w b v l 0) (s : ByteArray) (f : Int) (hf : f ≠ 0) : Calls Try.prog 61 #[.pointer (some ⟨b, 0, none⟩), .string s, .int .i64 f] w fun e w' => e = .returned (.tuple #[]) ∧ Left B b v w l f w' := by
  have hW := h
  obtain ⟨h0, h1, h2, h3, h4, h5, h6⟩ := h
  have hw : Left B b v w l f (w.setCell ⟨b, 1, none⟩ (.int .i64 f)) := by
    have hk : Kept (own b v) w (w.setCell ⟨b, 1, none⟩ (.int .i64 f)) := (Kept.refl _ _).set (.inl rfl) _
    refine ⟨v, ⟨h0, ?_, ?_, by simpa using h3, by simpa using h4, ?_, h6⟩, hk, .inl rfl⟩
    · rw [World.cell?_setCell_other _ _ _ _ (by intro x; injection x with _ x _; cases x)]; exact h1
    · rw [World.cell?_setCell_same _ _ _ h2]
    · exact ownsRow_kept (S := fun k => k = b) h5 (Kept.set (S := fun k => k = b) (Kept.refl _ _) rfl _) (fun k hk e => h6 (e ▸ hk))
  clear h5
  go_enter Try.func61, Try.ntmps61
  go_wp2
  first | go_end0 | refine bodyPost_ret (results_none rfl _ _ _) rfl ?_
  all_goals exact ⟨rfl, hw⟩
set_option maxHeartbeats 1000000 in
set_option maxRecDepth 100000 in
theorem put_ok {B b : Nat} {v : Value} {l : List UInt8} {w : World} (h : Wr B w b v l 0) (s : ByteArray) (hs : l.length + s.size ≤ 140737488355328) (hB : B ≤ w.heap.size) : Calls Try.prog 61 #[.pointer (some ⟨b, 0, none⟩), .string s, .int .i64 0] w fun e w' => e = .returned (.tuple #[]) ∧ Left B b v w (l ++ s.data.toList) 0 w' := by
  obtain ⟨i0, hi, hz0, hz1, hz2⟩ := info_parts info5
  have hlt := h.lt
  obtain ⟨h0, h1, h2, h3, h4, h5, h6⟩ := h
  have H5 : Hid (w.ownsRow B 5 1 v l.length (cells8 l)) := h5
  have HS : Hid (l.length + s.size ≤ 140737488355328) := hs
  clear h5 hs
  go_enter Try.func61, Try.ntmps61
  go_wp2_with (at_builtin; refine wpList_append_where rfl rfl _ _ rfl B i0 hi hz0 hz1 hz2 _ _ _ rfl H5.out s rfl HS.out hB ?_)
  intro v' w' hown hg hwh
  have hkg : Kept (own b v) w w' := (Kept.refl _ _).grown hg (fun k hk => .inr hk)
  have hbb : ¬ (fun k => v.ownBlock = some k) b := h6
  have hk2 : Kept (fun k => v.ownBlock = some k) w w' := (Kept.refl _ _).grown hg (fun k hk => hk)
  have c0 := hk2.cell h1 hbb
  have c1 := hk2.cell h2 hbb
  have f0 := (hk2.frozen (p := ⟨b, 0, none⟩) hlt hbb).trans h3
  have f1 := (hk2.frozen (p := ⟨b, 1, none⟩) hlt hbb).trans h4
  have hv' : v'.ownBlock ≠ some b := by
    rcases hwh with e | e
    · rw [e]; exact h6
    · rw [e]; intro x; injection x with x; omega
  have hw : Left B b v w (l ++ s.data.toList) 0 (w'.setCell ⟨b, 0, none⟩ v') := by
    refine ⟨v', ⟨h0, ?_, ?_, by simpa using f0, by simpa using f1, ?_, hv'⟩, hkg.set (.inl rfl) _, ?_⟩
    · rw [World.cell?_setCell_same _ _ _ c0]
    · rw [World.cell?_setCell_other _ _ _ _ (by intro x; injection x with _ x _; cases x)]; exact c1
    · rw [List.length_append, cells8_append, ← strCells8, show s.data.toList.length = s.size by simp]
      exact ownsRow_kept (S := fun k => k = b) hown (Kept.set (S := fun k => k = b) (Kept.refl _ _) rfl _) (fun k hk e => hv' (e ▸ hk))
    · rcases hwh with e | e
      · exact .inl e
      · exact .inr ⟨_, e, Nat.le_refl _⟩
  obtain ⟨ba, bn, bc, rfl⟩ : ∃ ba bn bc, v' = .slice ba bn bc := by
    rcases hown.2 with ⟨rfl, _⟩ | ⟨g, cap, cur, rfl, _⟩
    · exact ⟨_, _, _, rfl⟩
    · exact ⟨_, _, _, rfl⟩
  clear hown hg hkg hk2 hwh H5 h1 h2 h3 h4 hv'
  go_wp2
  first | go_end0 | refine bodyPost_ret (results_none rfl _ _ _) rfl ?_
  all_goals exact ⟨rfl, hw⟩
/-- What put leaves. -/
def putR (l : List UInt8) (g : Int) (s : ByteArray) (f : Int) : List UInt8 × Int := if g ≠ 0 then (l, g) else if f ≠ 0 then (l, f) else (l ++ s.data.toList, 0)
theorem put_all {B b : Nat} {v : Value} {l : List UInt8} {g : Int} {w : World} (h : Wr B w b v l g) (s : ByteArray) (f : Int) (hs : l.length + s.size ≤ 140737488355328) (hB : B ≤ w.heap.size) : Calls Try.prog 61 #[.pointer (some ⟨b, 0, none⟩), .string s, .int .i64 f] w fun e w' => e = .returned (.tuple #[]) ∧ Left B b v w (putR l g s f).1 (putR l g s f).2 w' := by
  by_cases hg : g = 0
  · subst hg
    by_cases hf : f = 0
    · subst hf
      rw [show putR l 0 s 0 = (l ++ s.data.toList, 0) from rfl]
      exact put_ok h s hs hB
    · rw [show putR l 0 s f = (l, f) by unfold putR; simp [hf]]
      exact put_err h s f hf
  · rw [show putR l g s f = (l, g) by unfold putR; simp [hg]]
    refine (put_dead h hg s f).mono ?_
    rintro e w' ⟨rfl, rfl⟩
    exact ⟨rfl, Left.refl h⟩
end Go.Proofs.Ytdpddlaedffmdaa
