/- Package pack's read round the closure of Bits; Reader.Bits: what it answers and leaves. -/
import Derived.Test.YtdpddlaedffmdaaQg
namespace Go.Proofs.Ytdpddlaedffmdaa
open Go.RowKit
set_option linter.unusedVariables false
set_option linter.unusedSimpArgs false

/-- Two numbers stored where two were. -/
theorem two_set {w : World} {g : Nat} {u0 u1 x y : Int} (e0 : w.cell? ⟨g, 0, none⟩ = some (.int .u64 u0)) (e1 : w.cell? ⟨g, 1, none⟩ = some (.int .u64 u1)) :
    ((w.setCell ⟨g, 0, none⟩ (.int .u64 x)).setCell ⟨g, 1, none⟩ (.int .u64 y)).cell? ⟨g, 0, none⟩ = some (.int .u64 x) ∧ ((w.setCell ⟨g, 0, none⟩ (.int .u64 x)).setCell ⟨g, 1, none⟩ (.int .u64 y)).cell? ⟨g, 1, none⟩ = some (.int .u64 y) := by
  have k0 : (w.setCell ⟨g, 0, none⟩ (.int .u64 x)).cell? ⟨g, 0, none⟩ = some (.int .u64 x) := World.cell?_setCell_same _ _ _ e0
  have k1 : (w.setCell ⟨g, 0, none⟩ (.int .u64 x)).cell? ⟨g, 1, none⟩ = some (.int .u64 u1) := by rw [World.cell?_setCell_other _ _ _ _ (by intro x; injection x with _ x _; cases x)]; exact e1
  exact ⟨by rw [World.cell?_setCell_other _ _ _ _ (by intro x; injection x with _ x _; cases x)]; exact k0, World.cell?_setCell_same _ _ _ k1⟩
theorem Kept.set2 {S : Nat → Prop} {a w : World} (h : Kept S a w) {g : Nat} (hg : S g) (u v : Value) : Kept S a ((w.setCell ⟨g, 0, none⟩ u).setCell ⟨g, 1, none⟩ v) := Kept.set (p := ⟨g, 1, none⟩) (Kept.set (p := ⟨g, 0, none⟩) h hg u) hg v
/-- A block that is newer than the world is no matter. -/
theorem Kept.new {b : Nat} {a w : World} {g : Nat} (h : Kept (fun k => k = b ∨ k = g) a w) (hg : a.heap.size ≤ g) : Kept (fun k => k = b) a w := h.mono (fun k hk e => by rcases e with e | e; exact e; omega)
theorem past {w : World} {p : Addr} {v : Value} (h : w.cell? p = some v) (o : Obj) : (w.alloc o).cell? p = some v :=
  (((Below.refl w.heap.size w).alloc (Nat.le_refl _) o).cell (World.block_lt_of_cell? w p h)).trans h
theorem pastf {w : World} {p : Addr} {v : Value} (h : w.cell? p = some v) (hf : w.frozen? p = false) (o : Obj) : (w.alloc o).frozen? p = false :=
  (((Below.refl w.heap.size w).alloc (Nat.le_refl _) o).frozen (World.block_lt_of_cell? w p h)).trans hf
theorem Pl.new (s : ByteArray) (a : Nat) (h : a ≤ s.size) (w : World) (t : TypeId) : Pl (w.alloc (.cells #[.string s, .int .i64 (a : Int)] t)) w.heap.size s a := ⟨by simp, by simp, by simp, h⟩
set_option maxRecDepth 100000 in
theorem close57 {w : World} {b : Nat} {s : ByteArray} {a : Nat} (h : Pl w b s a) (hs : s.size ≤ 140737488351232) (n : Int) (mb : Nat) (hm : w.cell? ⟨mb, 0, none⟩ = some (.int .i64 n)) : Calls Try.prog 57 #[.pointer (some ⟨b, 0, none⟩), .pointer (some ⟨mb, 0, none⟩)] w fun e w' =>
    Outc b s w (B (bitsQ s a n).1) (bitsQ s a n).2.1 (bitsQ s a n).2.2 e w' := by
  have hmb : mb < w.heap.size := World.block_lt_of_cell? w ⟨mb, 0, none⟩ hm
  have hbs := h.lt
  have hB1 : Below w.heap.size w (w.alloc (.cells #[.int .u64 0, .int .u64 0] 34)) := (Below.refl _ _).alloc (Nat.le_refl _) _
  have hm1 := (hB1.cell (p := ⟨mb, 0, none⟩) hmb).trans hm
  have c0 : (w.alloc (.cells #[.int .u64 0, .int .u64 0] 34)).cell? ⟨w.heap.size, 0, none⟩ = some (.int .u64 0) := by simp
  have c1 : (w.alloc (.cells #[.int .u64 0, .int .u64 0] 34)).cell? ⟨w.heap.size, 1, none⟩ = some (.int .u64 0) := by simp
  have z0 : (w.alloc (.cells #[.int .u64 0, .int .u64 0] 34)).frozen? ⟨w.heap.size, 0, none⟩ = false := by simp
  have z1 : (w.alloc (.cells #[.int .u64 0, .int .u64 0] 34)).frozen? ⟨w.heap.size, 1, none⟩ = false := by simp
  have C : Hid (Calls Try.prog 58 #[.pointer (some ⟨b, 0, none⟩), .int .i64 n] (w.alloc (.cells #[.int .u64 0, .int .u64 0] 34)) fun e w' => Outc b s (w.alloc (.cells #[.int .u64 0, .int .u64 0] 34)) (B (bitsQ s a n).1) (bitsQ s a n).2.1 (bitsQ s a n).2.2 e w') := pbits_any (h.kept (S := fun _ => False) (Kept.of_below hB1) id) hs n
  generalize bitsQ s a n = R at *
  obtain ⟨x, a', f⟩ := R
  simp only at C
  clear h hm
  go_enter Try.func57, Try.ntmps57
  go_wp2_with fail
  generalize w.alloc (.cells #[.int .u64 0, .int .u64 0] 34) = W1 at *
  refine C.out.mono ?_
  have hbn : ¬ w.heap.size = b := by omega
  have hl2 : w.heap.size < W1.heap.size := World.block_lt_of_cell? W1 ⟨w.heap.size, 0, none⟩ c0
  rintro e w2 ⟨hk, (⟨rfl, rfl, hp⟩ | ⟨hf, rfl⟩)⟩
  · have d0 := hk.cell c0 hbn
    have d1 := hk.cell c1 hbn
    have y0 := (hk.frozen (p := ⟨w.heap.size, 0, none⟩) hl2 hbn).trans z0
    have y1 := (hk.frozen (p := ⟨w.heap.size, 1, none⟩) hl2 hbn).trans z1
    obtain ⟨k2, k3⟩ := two_set (x := hiOf x) (y := loOf x) d0 d1
    have hK : Kept (fun k => k = b) w ((w2.setCell ⟨w.heap.size, 0, none⟩ (.int .u64 (hiOf x))).setCell ⟨w.heap.size, 1, none⟩ (.int .u64 (loOf x))) :=
      Kept.new (g := w.heap.size) (Kept.set2 (((Kept.of_below hB1).trans hk).mono (fun k _ h => .inl h)) (.inr rfl) _ _) (Nat.le_refl _)
    have hp2 : Pl ((w2.setCell ⟨w.heap.size, 0, none⟩ (.int .u64 (hiOf x))).setCell ⟨w.heap.size, 1, none⟩ (.int .u64 (loOf x))) b s a' :=
      hp.kept (S := fun k => k = w.heap.size) (Kept.set2 (S := fun k => k = w.heap.size) (Kept.refl _ _) rfl _ _) (fun e => hbn e.symm)
    clear c0 c1 z0 z1 hp hk hB1
    go_wp2
    generalize (w2.setCell ⟨w.heap.size, 0, none⟩ (.int .u64 (hiOf x))).setCell ⟨w.heap.size, 1, none⟩ (.int .u64 (loOf x)) = W6 at *
    refine bodyPost_ret (v := B x) ?_ rfl (Outc.yes hK hp2)
    simp [results, Try.results57, go_sem, k2, k3]
  · have hK := (Kept.of_below (S := fun k => k = b) hB1).trans hk
    go_wp2
    exact ⟨rfl, hK, .inr ⟨hf, rfl⟩⟩
theorem bitsQ_zero (s : ByteArray) (a : Nat) (k : Int) : (bitsQ s a k).2.2 ≠ 0 → (bitsQ s a k).1 = 0 ∧ (bitsQ s a k).2.1 = a := by
  unfold bitsQ; split
  · split
    · split
      · intro _; exact ⟨rfl, rfl⟩
      · intro h; exact absurd rfl h
    · intro _; exact ⟨rfl, rfl⟩
  · intro _; exact ⟨rfl, rfl⟩
set_option maxHeartbeats 1000000 in
set_option maxRecDepth 100000 in
theorem read57 {w : World} {b : Nat} {s : ByteArray} {a : Nat} (h : Rd w b s a 0) (cap : Value) (x : Nat) (a' : Nat) (f : Int) (hx : f ≠ 0 → x = 0 ∧ a' = a)
    (hC : ∀ w1 : World, Below w.heap.size w w1 → Pl w1 (w.heap.size + 1 + 1) s a → Calls Try.prog 57 #[.pointer (some ⟨w.heap.size + 1 + 1, 0, none⟩), cap] w1 fun e w' => Outc (w.heap.size + 1 + 1) s w1 (B x) a' f e w') :
    Calls Try.prog 56 #[.pointer (some ⟨b, 0, none⟩), .func (.func 57) #[] #[cap]] w fun e w' => e = .returned (B x) ∧ Rd w' b s a' f ∧ Kept (fun k => k = b) w w' := by
  have hmf := mk_func
  have hlt := h.lt
  have hRd := h
  have HC : Hid (∀ w1 : World, Below w.heap.size w w1 → Pl w1 (w.heap.size + 1 + 1) s a → Calls Try.prog 57 #[.pointer (some ⟨w.heap.size + 1 + 1, 0, none⟩), cap] w1 fun e w' => Outc (w.heap.size + 1 + 1) s w1 (B x) a' f e w') := hC
  obtain ⟨⟨h0, h1, h2, h3⟩, h4, h5, h6⟩ := h
  have hB2 : Below w.heap.size w (((w.alloc (.cells #[.pointer (some ⟨b, 0, none⟩)] 39)).alloc (.cells #[.int .u64 0, .int .u64 0] 34)).alloc (.cells #[.string s, .int .i64 (a : Int)] 73)) := (((Below.refl _ _).alloc (Nat.le_refl _) _).alloc (by simp) _).alloc (by simp; omega) _
  have hsz : ((w.alloc (.cells #[.pointer (some ⟨b, 0, none⟩)] 39)).alloc (.cells #[.int .u64 0, .int .u64 0] 34)).heap.size = w.heap.size + 1 + 1 := by simp
  have hP2 := Pl.new s a h3 ((w.alloc (.cells #[.pointer (some ⟨b, 0, none⟩)] 39)).alloc (.cells #[.int .u64 0, .int .u64 0] 34)) 73
  rw [hsz] at hP2
  have q0 : (w.alloc (.cells #[.pointer (some ⟨b, 0, none⟩)] 39)).cell? ⟨w.heap.size, 0, none⟩ = some (.pointer (some ⟨b, 0, none⟩)) := by simp
  have c0 := past (past q0 (.cells #[.int .u64 0, .int .u64 0] 34)) (.cells #[.string s, .int .i64 (a : Int)] 73)
  have q1 : ((w.alloc (.cells #[.pointer (some ⟨b, 0, none⟩)] 39)).alloc (.cells #[.int .u64 0, .int .u64 0] 34)).cell? ⟨w.heap.size + 1, 0, none⟩ = some (.int .u64 0) := by simp
  have q2 : ((w.alloc (.cells #[.pointer (some ⟨b, 0, none⟩)] 39)).alloc (.cells #[.int .u64 0, .int .u64 0] 34)).cell? ⟨w.heap.size + 1, 1, none⟩ = some (.int .u64 0) := by simp
  have q3 : ((w.alloc (.cells #[.pointer (some ⟨b, 0, none⟩)] 39)).alloc (.cells #[.int .u64 0, .int .u64 0] 34)).frozen? ⟨w.heap.size + 1, 0, none⟩ = false := by simp
  have q4 : ((w.alloc (.cells #[.pointer (some ⟨b, 0, none⟩)] 39)).alloc (.cells #[.int .u64 0, .int .u64 0] 34)).frozen? ⟨w.heap.size + 1, 1, none⟩ = false := by simp
  have r0 := past q1 (.cells #[.string s, .int .i64 (a : Int)] 73)
  have r1 := past q2 (.cells #[.string s, .int .i64 (a : Int)] 73)
  have z0 := pastf q1 q3 (.cells #[.string s, .int .i64 (a : Int)] 73)
  have z1 := pastf q2 q4 (.cells #[.string s, .int .i64 (a : Int)] 73)
  clear q0 q1 q2 q3 q4 hsz
  have hRd2 := hRd.below hB2
  clear hC hRd
  go_enter_defers Try.func56, Try.ntmps56
  go_wp2_with fail
  generalize ((w.alloc (.cells #[.pointer (some ⟨b, 0, none⟩)] 39)).alloc (.cells #[.int .u64 0, .int .u64 0] 34)).alloc (.cells #[.string s, .int .i64 (a : Int)] 73) = W2 at *
  clear h0 h1 h2 h3 h4 h5 h6
  refine (HC.out _ hB2 hP2).mono ?_
  have hl1 : w.heap.size + 1 < W2.heap.size := World.block_lt_of_cell? W2 ⟨w.heap.size + 1, 0, none⟩ r0
  rintro e w3 ⟨hk, (⟨rfl, rfl, hp⟩ | ⟨hf, rfl⟩)⟩
  · have d0 := hk.cell c0 (by simp; omega)
    have e0 := hk.cell r0 (by simp)
    have e1 := hk.cell r1 (by simp)
    have y0 := (hk.frozen (p := ⟨w.heap.size + 1, 0, none⟩) hl1 (by simp)).trans z0
    have y1 := (hk.frozen (p := ⟨w.heap.size + 1, 1, none⟩) hl1 (by simp)).trans z1
    have hR3 := hRd2.kept hk (by show ¬ b = w.heap.size + 1 + 1; omega)
    have hk3 : Kept (fun k => k = b) w w3 := Kept.new (g := w.heap.size + 1 + 1) ((Kept.of_below hB2).trans (hk.mono (fun k _ h => .inr h))) (by omega)
    obtain ⟨k2, k3⟩ := two_set (x := hiOf x) (y := loOf x) e0 e1
    -- behind the store of the answer
    have hst : Kept (fun k => k = w.heap.size + 1) w3 ((w3.setCell ⟨w.heap.size + 1, 0, none⟩ (.int .u64 (hiOf x))).setCell ⟨w.heap.size + 1, 1, none⟩ (.int .u64 (loOf x))) := Kept.set2 (S := fun k => k = w.heap.size + 1) (Kept.refl _ _) rfl _ _
    have d0' := hst.cell d0 (by simp)
    have hR4 := hR3.kept hst (by show ¬ b = w.heap.size + 1; omega)
    have hp4 := hp.kept hst (by show ¬ w.heap.size + 1 + 1 = w.heap.size + 1; omega)
    have y0' : ((w3.setCell ⟨w.heap.size + 1, 0, none⟩ (.int .u64 (hiOf x))).setCell ⟨w.heap.size + 1, 1, none⟩ (.int .u64 (loOf x))).frozen? ⟨w.heap.size + 1, 0, none⟩ = false := by simpa using y0
    have y1' : ((w3.setCell ⟨w.heap.size + 1, 0, none⟩ (.int .u64 (hiOf x))).setCell ⟨w.heap.size + 1, 1, none⟩ (.int .u64 (loOf x))).frozen? ⟨w.heap.size + 1, 1, none⟩ = false := by simpa using y1
    have hk4 : Kept (fun k => k = b) w ((w3.setCell ⟨w.heap.size + 1, 0, none⟩ (.int .u64 (hiOf x))).setCell ⟨w.heap.size + 1, 1, none⟩ (.int .u64 (loOf x))) := Kept.new (g := w.heap.size + 1) ((hk3.mono (fun k _ h => .inl h)).trans (hst.mono (fun k _ h => .inr h))) (by omega)
    clear hk hRd2 c0 r0 r1 z0 z1 hB2 hP2 HC hst hR3 hp d0 hk3
    generalize hW4 : (w3.setCell ⟨w.heap.size + 1, 0, none⟩ (.int .u64 (hiOf x))).setCell ⟨w.heap.size + 1, 1, none⟩ (.int .u64 (loOf x)) = W4 at *
    obtain ⟨⟨h0, h1, h2, h3⟩, h4, h5, h6⟩ := id hR4
    obtain ⟨p0, p1, p2, p3⟩ := hp4
    -- behind the store of the place
    have hst : Kept (fun k => k = b) W4 ((W4.setCell ⟨b, 0, none⟩ (.string s)).setCell ⟨b, 1, none⟩ (.int .i64 (a' : Int))) := Kept.set2 (S := fun k => k = b) (Kept.refl _ _) rfl _ _
    have hg : ¬ w.heap.size + 1 = b := by omega
    have l4 : w.heap.size + 1 < W4.heap.size := World.block_lt_of_cell? W4 ⟨w.heap.size + 1, 0, none⟩ k2
    have m0 := hst.cell k2 hg
    have m1 := hst.cell k3 hg
    have n0 := (hst.frozen (p := ⟨w.heap.size + 1, 0, none⟩) l4 hg).trans y0'
    have n1 := (hst.frozen (p := ⟨w.heap.size + 1, 1, none⟩) l4 hg).trans y1'
    have hR5 := hR4.place a' p3
    have hK5 := hk4.trans hst
    generalize hW5 : (W4.setCell ⟨b, 0, none⟩ (.string s)).setCell ⟨b, 1, none⟩ (.int .i64 (a' : Int)) = W5 at *
    obtain ⟨m2, m3⟩ := two_set (x := hiOf x) (y := loOf x) m0 m1
    have hst6 : Kept (fun k => k = w.heap.size + 1) W5 ((W5.setCell ⟨w.heap.size + 1, 0, none⟩ (.int .u64 (hiOf x))).setCell ⟨w.heap.size + 1, 1, none⟩ (.int .u64 (loOf x))) := Kept.set2 (S := fun k => k = w.heap.size + 1) (Kept.refl _ _) rfl _ _
    have hR6 := hR5.kept hst6 (by show ¬ b = w.heap.size + 1; omega)
    have hK6 : Kept (fun k => k = b) w ((W5.setCell ⟨w.heap.size + 1, 0, none⟩ (.int .u64 (hiOf x))).setCell ⟨w.heap.size + 1, 1, none⟩ (.int .u64 (loOf x))) := Kept.new (g := w.heap.size + 1) ((hK5.mono (fun k _ h => .inl h)).trans (hst6.mono (fun k _ h => .inr h))) (by omega)
    generalize hW6 : (W5.setCell ⟨w.heap.size + 1, 0, none⟩ (.int .u64 (hiOf x))).setCell ⟨w.heap.size + 1, 1, none⟩ (.int .u64 (loOf x)) = W6 at *
    clear hst hst6 hR4 hR5 hK5 hk4
    go_wp2
    refine leaves_cons (f := 79) (args := #[.pointer (some ⟨w.heap.size, 0, none⟩)]) (by simp) (by simp [go_sem]) ?_
    refine (idle79 ⟨w.heap.size, 0, none⟩ _).mono ?_
    rintro e u' w'' ⟨rfl, rfl, rfl⟩
    simp [Leaves, settle, results, Try.results56, go_sem, m2, m3]
    exact ⟨hR6, hK6⟩
  · obtain ⟨rfl, rfl⟩ := hx hf
    have d0 := hk.cell c0 (by simp; omega)
    have e0 := hk.cell r0 (by simp)
    have e1 := hk.cell r1 (by simp)
    have hR3 := hRd2.kept hk (by show ¬ b = w.heap.size + 1 + 1; omega)
    have hk3 : Kept (fun k => k = b) w w3 := Kept.new (g := w.heap.size + 1 + 1) ((Kept.of_below hB2).trans (hk.mono (fun k _ h => .inr h))) (by omega)
    obtain ⟨⟨h0, h1, h2, h3⟩, h4, h5, h6⟩ := id hR3
    clear hk hRd2 c0 r0 r1 z0 z1 hB2 hP2 HC
    go_wp2
    refine leaves_cons (f := 79) (args := #[.pointer (some ⟨w.heap.size, 0, none⟩)]) (by simp) (by simp [go_sem]) ?_
    refine (catch79 ⟨w.heap.size, 0, none⟩ b 0 f _ d0 h4 h6).mono ?_
    rintro e u' w'' ⟨rfl, rfl, rfl⟩
    have hst : Kept (fun k => k = b) w3 (w3.setCell ⟨b, 2, none⟩ (.int .i64 f)).drew := (Kept.set (S := fun k => k = b) (Kept.refl _ _) rfl _).drewN 1
    have e0' := hst.cell e0 (by show ¬ w.heap.size + 1 = b; omega)
    have e1' := hst.cell e1 (by show ¬ w.heap.size + 1 = b; omega)
    have hR5 := hR3.fail f
    have hK5 := hk3.trans hst
    generalize (w3.setCell ⟨b, 2, none⟩ (.int .i64 f)).drew = W5 at *
    simp [Leaves, settle, results, Try.results56, go_sem, e0', e1']
    exact ⟨⟨rfl, rfl⟩, hR5, hK5⟩
/-- Reader.Bits. -/
theorem rbits_any {w : World} {b : Nat} {s : ByteArray} {a : Nat} (h : Rd w b s a 0) (hs : s.size ≤ 140737488351232) (n : Int) :
    Calls Try.prog 24 #[.pointer (some ⟨b, 0, none⟩), .int .i64 n] w fun e w' => e = .returned (B (bitsQ s a n).1) ∧ Rd w' b s (bitsQ s a n).2.1 (bitsQ s a n).2.2 ∧ Kept (fun k => k = b) w w' := by
  have hmf := mk_func
  have hlt := h.lt
  have hb1 : Below w.heap.size w ((w.alloc (.cells #[.int .i64 n] 3)).alloc (.cells #[.int .u64 0, .int .u64 0] 34)) := ((Below.refl _ _).alloc (Nat.le_refl _) _).alloc (by simp) _
  have c0 : ((w.alloc (.cells #[.int .i64 n] 3)).alloc (.cells #[.int .u64 0, .int .u64 0] 34)).cell? ⟨w.heap.size, 0, none⟩ = some (.int .i64 n) := by simp
  have r0 : ((w.alloc (.cells #[.int .i64 n] 3)).alloc (.cells #[.int .u64 0, .int .u64 0] 34)).cell? ⟨w.heap.size + 1, 0, none⟩ = some (.int .u64 0) := by simp
  have r1 : ((w.alloc (.cells #[.int .i64 n] 3)).alloc (.cells #[.int .u64 0, .int .u64 0] 34)).cell? ⟨w.heap.size + 1, 1, none⟩ = some (.int .u64 0) := by simp
  have z0 : ((w.alloc (.cells #[.int .i64 n] 3)).alloc (.cells #[.int .u64 0, .int .u64 0] 34)).frozen? ⟨w.heap.size + 1, 0, none⟩ = false := by simp
  have z1 : ((w.alloc (.cells #[.int .i64 n] 3)).alloc (.cells #[.int .u64 0, .int .u64 0] 34)).frozen? ⟨w.heap.size + 1, 1, none⟩ = false := by simp
  have C : Hid (Calls Try.prog 56 #[.pointer (some ⟨b, 0, none⟩), .func (.func 57) #[] #[.pointer (some ⟨w.heap.size, 0, none⟩)]] ((w.alloc (.cells #[.int .i64 n] 3)).alloc (.cells #[.int .u64 0, .int .u64 0] 34)) fun e w' => e = .returned (B (bitsQ s a n).1) ∧ Rd w' b s (bitsQ s a n).2.1 (bitsQ s a n).2.2 ∧ Kept (fun k => k = b) ((w.alloc (.cells #[.int .i64 n] 3)).alloc (.cells #[.int .u64 0, .int .u64 0] 34)) w') := by
    refine read57 (h.below hb1) _ _ _ _ (bitsQ_zero s a n) (fun w1 hB hP => ?_)
    exact close57 hP hs n w.heap.size (by rw [hB.cell (p := ⟨w.heap.size, 0, none⟩) (World.block_lt_of_cell? _ ⟨w.heap.size, 0, none⟩ c0)]; exact c0)
  generalize bitsQ s a n = R at *
  clear h c0
  go_enter Try.func24, Try.ntmps24
  go_wp2_with fail
  generalize (w.alloc (.cells #[.int .i64 n] 3)).alloc (.cells #[.int .u64 0, .int .u64 0] 34) = W2 at *
  have hl1 : w.heap.size + 1 < W2.heap.size := World.block_lt_of_cell? W2 ⟨w.heap.size + 1, 0, none⟩ r0
  have hg : ¬ w.heap.size + 1 = b := by omega
  refine C.out.mono ?_
  rintro e w1 ⟨rfl, hR, hk⟩
  have e0 := hk.cell r0 hg
  have e1 := hk.cell r1 hg
  have y0 := (hk.frozen (p := ⟨w.heap.size + 1, 0, none⟩) hl1 hg).trans z0
  have y1 := (hk.frozen (p := ⟨w.heap.size + 1, 1, none⟩) hl1 hg).trans z1
  obtain ⟨m2, m3⟩ := two_set (x := hiOf R.1) (y := loOf R.1) e0 e1
  have hst6 : Kept (fun k => k = w.heap.size + 1) w1 ((w1.setCell ⟨w.heap.size + 1, 0, none⟩ (.int .u64 (hiOf R.1))).setCell ⟨w.heap.size + 1, 1, none⟩ (.int .u64 (loOf R.1))) := Kept.set2 (S := fun k => k = w.heap.size + 1) (Kept.refl _ _) rfl _ _
  have hR6 := hR.kept hst6 (by show ¬ b = w.heap.size + 1; omega)
  have hK6 : Kept (fun k => k = b) w ((w1.setCell ⟨w.heap.size + 1, 0, none⟩ (.int .u64 (hiOf R.1))).setCell ⟨w.heap.size + 1, 1, none⟩ (.int .u64 (loOf R.1))) := Kept.new (g := w.heap.size + 1) ((((Kept.of_below hb1).trans hk).mono (fun k _ h => .inl h)).trans (hst6.mono (fun k _ h => .inr h))) (by omega)
  clear hst6 hk r0 r1 z0 z1
  go_wp2
  generalize (w1.setCell ⟨w.heap.size + 1, 0, none⟩ (.int .u64 (hiOf R.1))).setCell ⟨w.heap.size + 1, 1, none⟩ (.int .u64 (loOf R.1)) = W6 at *
  refine bodyPost_ret (v := B R.1) ?_ rfl ⟨rfl, hR6, hK6⟩
  simp [results, Try.results24, go_sem, m2, m3]
end Go.Proofs.Ytdpddlaedffmdaa
