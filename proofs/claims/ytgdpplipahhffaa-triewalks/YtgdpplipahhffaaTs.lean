/- Plain: what is kept in a tree when a thing more is, or one less. -/
import Derived.Test.YtgdpplipahhffaaTr
namespace Go.Proofs.Ytgdpplipahhffaa
open Go.RowKit
set_option linter.unusedVariables false
set_option linter.unusedSimpArgs false

theorem pre_next {c p : List Bool} (h : c <+: p) (hne : c ≠ p) : ∃ i, c ++ [i] <+: p ∧ p[c.length]? = some i := by
  obtain ⟨t, rfl⟩ := h
  cases t with
  | nil => simp at hne
  | cons i t => exact ⟨i, ⟨t, by simp⟩, by simp⟩
section
variable {V : Type} {nt vt : TypeId} {enc : V → Value} {W : Nat} {w : World} {n : Nat} {x : Nd V} {a0 a1 : Option Nat} {N0 N1 : List (Nd V)}
theorem own_key {x : Nd V} {y} (h : y ∈ ownK x) : y.1 = x.key := by
  obtain ⟨t, _, rfl⟩ := mem_own.1 h; rfl
theorem Root.lt0 (h : Root nt vt enc W w n x a0 a1 N0 N1) {y} (hy : y ∈ kept N0) : x.key ++ [false] <+: y.1 := by
  obtain ⟨u, m, e⟩ := kept_key hy; rw [← e]; exact h.pre0 u m
theorem Root.lt1 (h : Root nt vt enc W w n x a0 a1 N0 N1) {y} (hy : y ∈ kept N1) : x.key ++ [true] <+: y.1 := by
  obtain ⟨u, m, e⟩ := kept_key hy; rw [← e]; exact h.pre1 u m
theorem kept_root (x : Nd V) (N0 N1 : List (Nd V)) : kept (x :: (N0 ++ N1)) = ownK x ++ (kept N0 ++ kept N1) := by rw [kept, kept_append]
theorem Root.own (h : Root nt vt enc W w n x a0 a1 N0 N1) (v : V) : upd x.key v (kept (x :: (N0 ++ N1))) = (x.key, v) :: (kept N0 ++ kept N1) := by
  rw [kept_root]
  unfold ownK
  have hf : ∀ y ∈ kept N0 ++ kept N1, klt x.key y.1 = true := fun y hy => by
    rcases List.mem_append.1 hy with hy | hy
    · exact klt_own (h.lt0 hy)
    · exact klt_own (h.lt1 hy)
  cases x.th with
  | none => exact upd_front hf
  | some t => exact upd_at
theorem Root.side0 (h : Root nt vt enc W w n x a0 a1 N0 N1) {p : List Bool} (hp : x.key ++ [false] <+: p) (v : V) : upd p v (kept (x :: (N0 ++ N1))) = ownK x ++ (upd p v (kept N0) ++ kept N1) := by
  rw [kept_root, upd_left (fun y hy => by rw [own_key hy]; exact klt_own hp), upd_right (fun y hy => klt_side hp (h.lt1 hy))]
theorem Root.side1 (h : Root nt vt enc W w n x a0 a1 N0 N1) {p : List Bool} (hp : x.key ++ [true] <+: p) (v : V) : upd p v (kept (x :: (N0 ++ N1))) = ownK x ++ (kept N0 ++ upd p v (kept N1)) := by
  rw [kept_root, upd_left (fun y hy => by rw [own_key hy]; exact klt_own hp), upd_left (fun y hy => klt_side (h.lt0 hy) hp)]
theorem Root.dwn (h : Root nt vt enc W w n x a0 a1 N0 N1) : del x.key (kept (x :: (N0 ++ N1))) = kept N0 ++ kept N1 := by
  have hf : ∀ y ∈ kept N0 ++ kept N1, y.1 ≠ x.key := fun y hy e => by
    rcases List.mem_append.1 hy with hy | hy
    · exact klt_ne (klt_own (h.lt0 hy)) e.symm
    · exact klt_ne (klt_own (h.lt1 hy)) e.symm
  rw [kept_root, del_append, del_none hf]
  have : del x.key (ownK x) = [] := by
    unfold del; rw [List.filter_eq_nil_iff]; intro y hy; simpa using own_key hy
  rw [this]; rfl
theorem Root.del0 (h : Root nt vt enc W w n x a0 a1 N0 N1) {p : List Bool} (hp : x.key ++ [false] <+: p) : del p (kept (x :: (N0 ++ N1))) = ownK x ++ (del p (kept N0) ++ kept N1) := by
  rw [kept_root, del_append, del_append, del_none (L := ownK x) (fun y hy e => by rw [own_key hy] at e; exact klt_ne (klt_own hp) e), del_none (L := kept N1) (fun y hy e => klt_ne (klt_side hp (h.lt1 hy)) e.symm)]
theorem Root.del1 (h : Root nt vt enc W w n x a0 a1 N0 N1) {p : List Bool} (hp : x.key ++ [true] <+: p) : del p (kept (x :: (N0 ++ N1))) = ownK x ++ (kept N0 ++ del p (kept N1)) := by
  rw [kept_root, del_append, del_append, del_none (L := ownK x) (fun y hy e => by rw [own_key hy] at e; exact klt_ne (klt_own hp) e), del_none (L := kept N0) (fun y hy e => klt_ne (klt_side (h.lt0 hy) hp) e)]
/-- A node made anew, with a tree in the place of its first side. -/
theorem Root.new0 {w' : World} {b C m : Nat} {M : List (Nd V)} (h : Root nt vt enc W w n x a0 a1 N0 N1) (hb : Below w.heap.size w w') (hC : Blk w' C (nodeC W x (some b) a1) nt) (hM : Hang nt vt enc W w' m (some b) M) (hpre : ∀ y ∈ kept M, x.key ++ [false] <+: y.1) :
    Root nt vt enc W w' (max n m) ⟨C, x.key, x.th⟩ (some b) a1 M N1 :=
  ⟨⟨hC, fun t v e => (h.node.thing t v e).below hb, h.node.len⟩, hM.ext hpre, h.pre1, hM.mono (Nat.le_max_right _ _), (h.h1.below hb).mono (Nat.le_max_left _ _)⟩
theorem Root.new1 {w' : World} {b C m : Nat} {M : List (Nd V)} (h : Root nt vt enc W w n x a0 a1 N0 N1) (hb : Below w.heap.size w w') (hC : Blk w' C (nodeC W x a0 (some b)) nt) (hM : Hang nt vt enc W w' m (some b) M) (hpre : ∀ y ∈ kept M, x.key ++ [true] <+: y.1) :
    Root nt vt enc W w' (max n m) ⟨C, x.key, x.th⟩ a0 (some b) N0 M :=
  ⟨⟨hC, fun t v e => (h.node.thing t v e).below hb, h.node.len⟩, h.pre0, hM.ext hpre, (h.h0.below hb).mono (Nat.le_max_left _ _), hM.mono (Nat.le_max_right _ _)⟩
/-- What is put in. -/
def PutN (nt vt : TypeId) (enc : V → Value) (W : Nat) (w w' : World) (p : List Bool) (v : V) (L : List (List Bool × V)) (b : Nat) : Prop := (∃ n N, Hang nt vt enc W w' n (some b) N ∧ kept N = upd p v L) ∧ Below w.heap.size w w'
theorem Root.putOwn {w' : World} {t C : Nat} {v : V} (h : Root nt vt enc W w n x a0 a1 N0 N1) (hb : Below w.heap.size w w') (hC : Blk w' C (nodeC W ⟨C, x.key, some (t, v)⟩ a0 a1) nt) (ht : Blk w t #[enc v] vt) : PutN nt vt enc W w w' x.key v (kept (x :: (N0 ++ N1))) C := by
  have hr : Root nt vt enc W w' n ⟨C, x.key, some (t, v)⟩ a0 a1 N0 N1 := ⟨⟨hC, fun t' v' e => by cases e; exact ht.below hb, h.node.len⟩, h.pre0, h.pre1, h.h0.below hb, h.h1.below hb⟩
  refine ⟨⟨_, _, hr.hang (fun e => by cases e), ?_⟩, hb⟩
  rw [h.own, kept_root]; rfl
theorem upd_pre {c p : List Bool} {v : V} {L : List (List Bool × V)} (hs : Srt L) (hp : c <+: p) (h : ∀ y ∈ L, c <+: y.1) : ∀ y ∈ upd p v L, c <+: y.1 := fun y hy => by
  rcases (mem_upd hs y).1 hy with rfl | h'
  · exact hp
  · exact h y h'.1
theorem upd_ne {p : List Bool} {v : V} {L : List (List Bool × V)} (hs : Srt L) : upd p v L ≠ [] := fun e => by
  have := (mem_upd (p := p) (v := v) hs (p, v)).2 (.inl rfl)
  rw [e] at this; simp at this
theorem kept_nil_of {N : List (Nd V)} (h : kept N ≠ []) : N ≠ [] := fun e => h (by rw [e]; rfl)
theorem Root.put0 {w1 w' : World} {p : List Bool} {b C : Nat} {v : V} (h : Root nt vt enc W w n x a0 a1 N0 N1) (hw : Below w.heap.size w w1) (hp : x.key ++ [false] <+: p) (hf : x.th = none → N1 ≠ []) (hP : ∃ n N, Hang nt vt enc W w' n (some b) N ∧ kept N = upd p v (kept N0)) (hb : Below w.heap.size w w') (hC : Blk w' C (nodeC W x (some b) a1) nt) : PutN nt vt enc W w w' p v (kept (x :: (N0 ++ N1))) C := by
  obtain ⟨m, M, h1, h2⟩ := hP
  have hs := h.h0.srt
  have hpre : ∀ y ∈ kept M, x.key ++ [false] <+: y.1 := by rw [h2]; exact upd_pre hs hp fun y hy => h.lt0 hy
  have hr := h.new0 hb hC h1 hpre
  refine ⟨⟨_, _, hr.hang (fun e => ⟨kept_nil_of (by rw [h2]; exact upd_ne hs), hf e⟩), ?_⟩, hb⟩
  rw [h.side0 hp, kept_root, h2]; rfl
theorem Root.put1 {w1 w' : World} {p : List Bool} {b C : Nat} {v : V} (h : Root nt vt enc W w n x a0 a1 N0 N1) (hw : Below w.heap.size w w1) (hp : x.key ++ [true] <+: p) (hf : x.th = none → N0 ≠ []) (hP : ∃ n N, Hang nt vt enc W w' n (some b) N ∧ kept N = upd p v (kept N1)) (hb : Below w.heap.size w w') (hC : Blk w' C (nodeC W x a0 (some b)) nt) : PutN nt vt enc W w w' p v (kept (x :: (N0 ++ N1))) C := by
  obtain ⟨m, M, h1, h2⟩ := hP
  have hs := h.h1.srt
  have hpre : ∀ y ∈ kept M, x.key ++ [true] <+: y.1 := by rw [h2]; exact upd_pre hs hp fun y hy => h.lt1 hy
  have hr := h.new1 hb hC h1 hpre
  refine ⟨⟨_, _, hr.hang (fun e => ⟨hf e, kept_nil_of (by rw [h2]; exact upd_ne hs)⟩), ?_⟩, hb⟩
  rw [h.side1 hp, kept_root, h2]; rfl
/-- A node with another prefix than all of a tree is none of it. -/
theorem Hang.off_key {w' : World} {C m : Nat} {a : Option Nat} {i : Bool} {c : List Bool} {M : List (Nd V)} {r3 r4 r5 : Value} (hne : nt ≠ vt) (hM : Hang nt vt enc W w' m a M) (hpre : ∀ y ∈ kept M, c ++ [i] <+: y.1) (hc : c.length ≤ W)
    (hC : Blk w' C #[.int .u64 (hiOf (valOf W c)), .int .u64 (loOf (valOf W c)), .int .i64 c.length, r3, r4, r5] nt) : Off (fun k => k = C) M := fun y hy => by
  obtain ⟨b0, b1, hn⟩ := hM.thing y hy
  have hk := hM.ext hpre y hy
  refine ⟨fun e => ?_, fun t v e1 e2 => ?_⟩
  · have h1 := hn.cells
    rw [show y.blk = C from e] at h1
    have h2 := h1.symm.trans hC
    simp only [Option.some.injEq, Obj.cells.injEq, Array.mk.injEq, List.cons.injEq, Value.int.injEq, true_and] at h2
    obtain ⟨⟨g1, g2, g3, _⟩, _⟩ := h2
    have g4 : valOf W y.key = valOf W c := (words_eq _ _).1 ⟨g1, g2⟩
    have g5 : y.key.length = c.length := by omega
    have := hk.length_le
    simp at this; omega
  · have h1 := hn.thing t v e1
    rw [show t = C from e2] at h1
    have h2 := h1.symm.trans hC
    simp only [Option.some.injEq, Obj.cells.injEq] at h2
    exact hne h2.2.1.symm
end
end Go.Proofs.Ytgdpplipahhffaa
