/- rises: the map of texts is walked in order, each value under its key. -/
import Derived.Test.YtkcjcidndckgbaaUa
namespace Go.Proofs.Ytkcjcidndckgbaa
open Go.RowKit Go.Sort
set_option linter.unusedVariables false
set_option linter.unusedSimpArgs false

theorem fn_nil65 (g : Nat) (caps : Array Value) (w : World) : (binOp .eql 65 (.func (.func g) #[] caps) .nilFunc).run Try.prog w = .ok (.bool false) w := by kernel_rfl
abbrev under : ByteArray := ⟨#[117, 110, 100, 101, 114, 32]⟩
def lastK (l : List (ByteArray × ByteArray)) : ByteArray := (l.getLast?.map (·.1)).getD ⟨#[]⟩
attribute [local go_sem] Oper.semAt_some
set_option maxHeartbeats 4000000 in
set_option maxRecDepth 100000 in
theorem rises_any (q b most cap : Nat) (r : List (Pl ByteArray)) (ys : List (ByteArray × ByteArray)) (hys : ys.Perm (cont r)) (hsr : Srt ys) (hok : ∀ x ∈ ys, x.1.size ≤ 281474976710656) (hv : ∀ x ∈ ys, x.2 = under ++ x.1) (w : World) (h : MapAtS w q b most r cap) (bx : Nat) (hbx : Blk w bx #[.pointer (some ⟨q, 0, none⟩)] 48) :
    Calls Try.prog 23 #[.func (.func 55) #[] #[.pointer (some ⟨bx, 0, none⟩)], .int .i64 ys.length] w fun e w' => e = .returned (.bool true) ∧ Below w.heap.size w w' := by
  suffices h : ∀ m, CallsIn Fence.wide m Try.prog 23 #[.func (.func 55) #[] #[.pointer (some ⟨bx, 0, none⟩)], .int .i64 ys.length] w fun e w' => e = .returned (.bool true) ∧ Below w.heap.size w w' from callsIn_wide.1 (h 0)
  intro m
  have HM : Hid (MapAtS w q b most r cap ∧ Blk w bx #[.pointer (some ⟨q, 0, none⟩)] 48) := ⟨h, hbx⟩
  have HY : Hid (ys.Perm (cont r) ∧ Srt ys ∧ (∀ x ∈ ys, x.1.size ≤ 281474976710656) ∧ ∀ x ∈ ys, x.2 = under ++ x.1) := ⟨hys, hsr, hok, hv⟩
  have hlen : ys.length ≤ 16384 := by rw [hys.length_eq]; exact Nat.le_trans (cont_len_le r) h.big.2
  have hbl := hbx.lt
  obtain ⟨n, hn⟩ : ∃ n, n = ys.length := ⟨_, rfl⟩
  have HN : Hid (n = ys.length) := hn
  rw [← hn] at hlen ⊢
  clear h hbx hys hsr hok hv hn
  refine callsIn_of_wp_marks Try.func23 rfl trivial ?_ rfl
  simp only [Try.ntmps23, List.size_toArray, List.length_cons, List.length_nil, Nat.reduceAdd, Nat.reduceSub, Array.replicate_succ, Array.replicate_zero, List.push_toArray, List.append_toArray, List.nil_append, List.cons_append]
  have HW : Hid (Blk ((((w.alloc (.cells #[.int .i64 n] 3)).alloc (.cells #[.bool false] 4)).alloc (.cells #[.int .i64 0] 3)).alloc (.cells #[.string ⟨#[]⟩] 9)) w.heap.size #[.int .i64 n] 3 ∧ Blk ((((w.alloc (.cells #[.int .i64 n] 3)).alloc (.cells #[.bool false] 4)).alloc (.cells #[.int .i64 0] 3)).alloc (.cells #[.string ⟨#[]⟩] 9)) (w.heap.size + 1) #[.bool false] 4 ∧ Blk ((((w.alloc (.cells #[.int .i64 n] 3)).alloc (.cells #[.bool false] 4)).alloc (.cells #[.int .i64 0] 3)).alloc (.cells #[.string ⟨#[]⟩] 9)) (w.heap.size + 1 + 1) #[.int .i64 0] 3 ∧ Blk ((((w.alloc (.cells #[.int .i64 n] 3)).alloc (.cells #[.bool false] 4)).alloc (.cells #[.int .i64 0] 3)).alloc (.cells #[.string ⟨#[]⟩] 9)) (w.heap.size + 1 + 1 + 1) #[.string ⟨#[]⟩] 9 ∧ Below w.heap.size w ((((w.alloc (.cells #[.int .i64 n] 3)).alloc (.cells #[.bool false] 4)).alloc (.cells #[.int .i64 0] 3)).alloc (.cells #[.string ⟨#[]⟩] 9)) ∧ ((((w.alloc (.cells #[.int .i64 n] 3)).alloc (.cells #[.bool false] 4)).alloc (.cells #[.int .i64 0] 3)).alloc (.cells #[.string ⟨#[]⟩] 9)).heap.size = w.heap.size + 4) := by
    have s1 := World.size_alloc w (.cells #[.int .i64 n] 3)
    have s2 := World.size_alloc (w.alloc (.cells #[.int .i64 n] 3)) (.cells #[.bool false] 4)
    have s3 := World.size_alloc ((w.alloc (.cells #[.int .i64 n] 3)).alloc (.cells #[.bool false] 4)) (.cells #[.int .i64 0] 3)
    have s4 := World.size_alloc (((w.alloc (.cells #[.int .i64 n] 3)).alloc (.cells #[.bool false] 4)).alloc (.cells #[.int .i64 0] 3)) (.cells #[.string ⟨#[]⟩] 9)
    have k : ∀ (w : World) o, Below w.heap.size w (w.alloc o) := fun w o => (Below.refl _ _).alloc (Nat.le_refl _) _
    have h1 := Blk.new w #[.int .i64 n] 3
    have h2 := Blk.new (w.alloc (.cells #[.int .i64 n] 3)) #[.bool false] 4
    have h3 := Blk.new ((w.alloc (.cells #[.int .i64 n] 3)).alloc (.cells #[.bool false] 4)) #[.int .i64 0] 3
    have h4 := Blk.new (((w.alloc (.cells #[.int .i64 n] 3)).alloc (.cells #[.bool false] 4)).alloc (.cells #[.int .i64 0] 3)) #[.string ⟨#[]⟩] 9
    rw [s1] at h2
    rw [s2, s1] at h3
    rw [s3, s2, s1] at h4
    exact ⟨((h1.below (k _ _)).below (k _ _)).below (k _ _), (h2.below (k _ _)).below (k _ _), h3.below (k _ _), h4, bst (bst (bst (k _ _) (k _ _)) (k _ _)) (k _ _), by rw [s4, s3, s2, s1]⟩
  gi_wp2_with fail
  simp only [fn_nil65]
  gi_wp2_with fail
  generalize ((((w.alloc (.cells #[.int .i64 n] 3)).alloc (.cells #[.bool false] 4)).alloc (.cells #[.int .i64 0] 3)).alloc (.cells #[.string ⟨#[]⟩] 9)) = w1 at HW ⊢
  have hsz := HW.out.2.2.2.2.2
  have HM1 : Hid (MapAtS w1 q b most r cap ∧ Blk w1 bx #[.pointer (some ⟨q, 0, none⟩)] 48) := ⟨HM.out.1.below HW.out.2.2.2.2.1, HM.out.2.below HW.out.2.2.2.2.1⟩
  generalize hA1 : w.heap.size + 1 = A1 at *
  generalize hA2 : A1 + 1 = A2 at *
  generalize hA3 : A2 + 1 = A3 at *
  refine range_outer (gf := 55) (lb := #[.pointer (some ⟨bx, 0, none⟩)]) (encs := fun x : ByteArray × ByteArray => #[Value.string x.1, Value.string x.2]) (xs := ys) (S := fun k => k = A2 ∨ k = A3) rfl (enters_of Try.func55 (by kernel_rfl) rfl)
    (fun k e => by rcases e with e | e <;> omega)
    (allS_tells q b most cap r ys HY.out.1 HY.out.2.1 HY.out.2.2.1 w1 HM1.out.1 bx HM1.out.2 (fun k => k = A2 ∨ k = A3) (fun k e => by rcases e with e | e <;> omega)) (Below.refl _ _) (fun _ => rfl)
    (fun pre W => Blk W w.heap.size #[.int .i64 n] 3 ∧ Blk W A1 #[.bool false] 4 ∧ Blk W A2 #[.int .i64 pre.length] 3 ∧ Blk W A3 #[.string (lastK pre)] 9 ∧ Kept (fun k => k = A2 ∨ k = A3) w1 W)
    (fun _ _ _ => False)
    ((low_blk _ _ (fun _ : List (ByteArray × ByteArray) => #[.int .i64 n]) _ (by omega)).and ((low_blk _ _ (fun _ => #[.bool false]) _ (by omega)).and ((low_blk _ _ (fun pre : List (ByteArray × ByteArray) => #[.int .i64 pre.length]) _ (by omega)).and ((low_blk _ _ (fun pre : List (ByteArray × ByteArray) => #[.string (lastK pre)]) _ (by omega)).and (low_kept _ _ _ (Nat.le_refl _))))))
    (fun c => low_pure _ _)
    ⟨HW.out.1, HW.out.2.1, HW.out.2.2.1, HW.out.2.2.2.1, Kept.refl _ _⟩ ?round ?done ?stop
  case round =>
    rintro l pre x W K hl hlt hz hpre ⟨b0, b1, b2, b3, hK⟩ hKK
    obtain ⟨k', v'⟩ := x
    have hx : (k', v') ∈ ys := hpre.subset (by simp)
    have hvx : v' = under ++ k' := HY.out.2.2.2 _ hx
    subst hvx
    have hks : k'.size ≤ 281474976710656 := HY.out.2.2.1 _ hx
    have hpl : pre.length < n := by have := hpre.length_le; rw [HN.out]; simp at this; omega
    have hlast : pre ≠ [] → blt (lastK pre) k' = true := fun hne => by
      have h1 : Srt (pre ++ [(k', under ++ k')]) := HY.out.2.1.sublist hpre.sublist
      have h2 := (List.pairwise_append.1 h1).2.2
      obtain ⟨pre', y, rfl⟩ : ∃ pre' y, pre = pre' ++ [y] := ⟨pre.dropLast, pre.getLast hne, (List.dropLast_concat_getLast hne).symm⟩
      have h3 := h2 y (by simp) (k', under ++ k') (by simp)
      simpa [lastK] using h3
    gi_wp2_with fail
    refine hKK _ _ (Kept.refl _ _) ?_
    intro Wb hkb hrec
    have e0 := b0.kept hkb (by show ¬ _ = _; omega)
    have e1 := b1.kept hkb (by show ¬ _ = _; omega)
    have e2 := b2.kept hkb (by show ¬ _ = _; omega)
    have e3 := b3.kept hkb (by show ¬ _ = _; omega)
    have hKb : Kept (fun k => k = A2 ∨ k = A3) w1 Wb := ⟨hkb.os.trans hK.os, hkb.tape.trans hK.tape, hkb.output.trans hK.output, Nat.le_trans hK.size hkb.size, fun k hk hs => (hkb.block k (Nat.lt_of_lt_of_le hk hK.size) (fun e => by have e' : k = l := e; omega)).trans (hK.block k hk hs)⟩
    have x0 := e0.cell 0 (v := .int .i64 n) rfl
    have x2 := e2.cell 0 (v := .int .i64 pre.length) rfl
    have x3 := e3.cell 0 (v := .string (lastK pre)) rfl
    have y2 := e2.frozen 0
    have y3 := e3.frozen 0
    have hne32 : A3 ≠ A2 := by omega
    have HQ : Hid (Kept (fun k => k = A2 ∨ k = A3) Wb ((Wb.setCell ⟨A3, 0, none⟩ (.string k')).setCell ⟨A2, 0, none⟩ (.int .i64 ((pre.length : Int) + 1))) ∧ Blk ((Wb.setCell ⟨A3, 0, none⟩ (.string k')).setCell ⟨A2, 0, none⟩ (.int .i64 ((pre.length : Int) + 1))) w.heap.size #[.int .i64 n] 3 ∧ Blk ((Wb.setCell ⟨A3, 0, none⟩ (.string k')).setCell ⟨A2, 0, none⟩ (.int .i64 ((pre.length : Int) + 1))) A1 #[.bool false] 4 ∧ Blk ((Wb.setCell ⟨A3, 0, none⟩ (.string k')).setCell ⟨A2, 0, none⟩ (.int .i64 ((pre.length : Int) + 1))) A2 #[.int .i64 (pre ++ [(k', under ++ k')]).length] 3 ∧ Blk ((Wb.setCell ⟨A3, 0, none⟩ (.string k')).setCell ⟨A2, 0, none⟩ (.int .i64 ((pre.length : Int) + 1))) A3 #[.string (lastK (pre ++ [(k', under ++ k')]))] 9 ∧ Kept (fun k => k = A2 ∨ k = A3) w1 ((Wb.setCell ⟨A3, 0, none⟩ (.string k')).setCell ⟨A2, 0, none⟩ (.int .i64 ((pre.length : Int) + 1)))) := by
      have k3 : Kept (fun k => k = A3) Wb (Wb.setCell ⟨A3, 0, none⟩ (.string k')) := (Kept.refl (fun k => k = A3) Wb).set (p := ⟨A3, 0, none⟩) rfl _
      have k2 : Kept (fun k => k = A2) (Wb.setCell ⟨A3, 0, none⟩ (.string k')) ((Wb.setCell ⟨A3, 0, none⟩ (.string k')).setCell ⟨A2, 0, none⟩ (.int .i64 ((pre.length : Int) + 1))) := (Kept.refl (fun k => k = A2) _).set (p := ⟨A2, 0, none⟩) rfl _
      have k23 := (k3.mono (T := fun k => k = A2 ∨ k = A3) fun _ _ e => .inr e).trans (k2.mono fun _ _ e => .inl e)
      have g2 := ((e2.kept k3 (by show ¬ _ = _; omega)).set 0 (.int .i64 ((pre.length : Int) + 1)))
      have g3 := (e3.set 0 (.string k')).kept k2 (by show ¬ _ = _; omega)
      refine ⟨k23, e0.kept k23 (by show ¬ (_ ∨ _); omega), e1.kept k23 (by show ¬ (_ ∨ _); omega), ?_, ?_, hKb.trans k23⟩
      · rw [show ((pre ++ [(k', under ++ k')]).length : Int) = (pre.length : Int) + 1 by simp]; exact g2
      · rw [show lastK (pre ++ [(k', under ++ k')]) = k' by simp [lastK]]; exact g3
    have HL : Hid (pre ≠ [] → blt (lastK pre) k' = true) := hlast
    have w2 : IntKind.i64.wrap ((pre.length : Int) + 1) = (pre.length : Int) + 1 := by rw [IntKind.wrap_i64]; omega
    have t3 : decide ((n : Int) ≤ (pre.length : Int)) = false := by simp; omega
    have z1 : pre = [] ∨ 0 < pre.length := by cases pre <;> simp
    have Hz : Hid (pre = [] ∨ 0 < pre.length) := z1
    clear hKK hpre b0 b1 b2 b3 hK hkb hrec e0 e1 e2 e3 hKb hx hlast z1
    have t4 : decide (n ≤ pre.length) = false := by simp; omega
    by_cases h0 : 0 < pre.length
    · have hb : blt (lastK pre) k' = true := HL.out (by intro e; rw [e] at h0; simp at h0)
      have tb : Op.bytesLess k'.toList (lastK pre).toList = false := blt_asymm hb
      have te : (k'.toList == (lastK pre).toList) = false := by
        rw [beq_eq_false_iff_ne]
        intro e
        have h1 := (blt_iff _ _).1 hb
        rw [e] at h1
        exact List.lt_irrefl _ h1
      clear hb
      gi_wp2_with fail
      exact HQ.out
    · have t1 : decide (0 < pre.length) = false := decide_eq_false h0
      gi_wp2_with fail
      exact HQ.out
  case done =>
    rintro W ⟨b0, b1, b2, b3, hK⟩ hks hD
    have hwl : w1.heap.size < W.heap.size := (Array.getElem?_eq_some_iff.1 hD).1
    rw [← HN.out] at b2
    have x0 := b0.cell 0 (v := .int .i64 n) rfl
    have x2 := b2.cell 0 (v := .int .i64 n) rfl
    have x1 := b1.cell 0 (v := .bool false) rfl
    have y1 := b1.frozen 0
    have ks : Kept (fun k => k = A1) W (W.setCell ⟨A1, 0, none⟩ (.bool true)) := (Kept.refl (fun k => k = A1) W).set (p := ⟨A1, 0, none⟩) rfl _
    have HF : Hid (Blk (W.setCell ⟨A1, 0, none⟩ (.bool true)) A1 #[.bool true] 4 ∧ (W.setCell ⟨A1, 0, none⟩ (.bool true)).heap[w1.heap.size]? = some (.deferred (some [])) ∧ Below w.heap.size w (W.setCell ⟨A1, 0, none⟩ (.bool true)) ∧ w.heap.size ≤ (W.setCell ⟨A1, 0, none⟩ (.bool true)).heap.size) := by
      have hb : Below w.heap.size w W := HW.out.2.2.2.2.1.trans (hks.below (by omega) (fun k e => by rcases e with e | e <;> omega))
      have hb2 := hb.trans (ks.below hb.size (fun k e => by have e' : k = A1 := e; omega))
      exact ⟨b1.set 0 _, (ks.block _ hwl (by show ¬ _ = _; omega)).trans hD, hb2, hb2.size⟩
    have hne : A1 ≠ w1.heap.size := by omega
    have hlo : w.heap.size ≤ w1.heap.size := by omega
    clear b0 b1 b2 b3 hK hks hD ks hsz
    gi_wp2_with fail
    generalize W.setCell ⟨A1, 0, none⟩ (.bool true) = W5 at HF ⊢
    refine ⟨by simp, .inl ⟨_, _, rfl, run_takeDeferred HF.out.2.1, ?_⟩⟩
    have hkk := kept_putObj (fun k => k = w1.heap.size) W5 w1.heap.size (.deferred none) rfl
    have z1 := (HF.out.1.kept hkk hne).cell 0 (v := .bool true) rfl
    refine ⟨.bool true, ?_, rfl, HF.out.2.2.1.trans (hkk.below HF.out.2.2.2 (fun k e => by have e' : k = w1.heap.size := e; omega))⟩
    simp [results, Try.results23, go_sem, z1]
  case stop =>
    rintro c pre2 W' _ hf
    exact hf.elim
end Go.Proofs.Ytkcjcidndckgbaa
