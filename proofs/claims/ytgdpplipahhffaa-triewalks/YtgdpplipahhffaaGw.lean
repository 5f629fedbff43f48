/- Plain: what is put in or taken out, and blocks that lie outside the tree. Package trie: with, at nil and at a node, once more. Package trie: with, at any tree, once more. Package trie: Put, once more. Package trie: Set, once more. Package trie: without, once more. Package trie: Drop, once more. -/
import Derived.Test.YtgdpplipahhffaaGf
namespace Go.Proofs.Ytgdpplipahhffaa
open Go.RowKit
set_option linter.unusedVariables false
set_option linter.unusedSimpArgs false

section
variable {V : Type} {nt vt : TypeId} {enc : V → Value} {W : Nat} {w : World} {n : Nat} {x : Nd V} {a0 a1 : Option Nat} {N0 N1 : List (Nd V)} {X : Nat → Prop}
theorem off_root {C : Nat} {c : List Bool} {th : Option (Nat × V)} {A B : List (Nd V)} (h1 : ¬ X C) (h2 : ∀ t v, th = some (t, v) → ¬ X t) (hA : Off X A) (hB : Off X B) : Off X ((⟨C, c, th⟩ : Nd V) :: (A ++ B)) := fun y hy => by
  simp only [List.mem_cons, List.mem_append] at hy
  rcases hy with rfl | hy | hy
  · exact ⟨h1, h2⟩
  · exact hA y hy
  · exact hB y hy
theorem off_parts (h : Off X (x :: (N0 ++ N1))) : (∀ t v, x.th = some (t, v) → ¬ X t) ∧ Off X N0 ∧ Off X N1 := ⟨(h x (by simp)).2, fun y hy => h y (by simp [hy]), fun y hy => h y (by simp [hy])⟩
def PutX (X : Nat → Prop) (nt vt : TypeId) (enc : V → Value) (W : Nat) (w w' : World) (p : List Bool) (v : V) (L : List (List Bool × V)) (b : Nat) : Prop := (∃ n N, Hang nt vt enc W w' n (some b) N ∧ kept N = upd p v L ∧ Off X N) ∧ Below w.heap.size w w'
theorem Root.putOwnX {w' : World} {t C : Nat} {v : V} (h : Root nt vt enc W w n x a0 a1 N0 N1) (hb : Below w.heap.size w w') (hC : Blk w' C (nodeC W ⟨C, x.key, some (t, v)⟩ a0 a1) nt) (ht : Blk w t #[enc v] vt) (hO : Off X (x :: (N0 ++ N1))) (hXC : ¬ X C) (hXt : ¬ X t) : PutX X nt vt enc W w w' x.key v (kept (x :: (N0 ++ N1))) C := by
  have hr : Root nt vt enc W w' n ⟨C, x.key, some (t, v)⟩ a0 a1 N0 N1 := ⟨⟨hC, fun t' v' e => by cases e; exact ht.below hb, h.node.len⟩, h.pre0, h.pre1, h.h0.below hb, h.h1.below hb⟩
  refine ⟨⟨_, _, hr.hang (fun e => by cases e), ?_, off_root hXC (fun t' v' e => by cases e; exact hXt) (off_parts hO).2.1 (off_parts hO).2.2⟩, hb⟩
  rw [h.own, kept_root]; rfl
theorem Root.put0X {w1 w' : World} {p : List Bool} {b C : Nat} {v : V} (h : Root nt vt enc W w n x a0 a1 N0 N1) (hw : Below w.heap.size w w1) (hp : x.key ++ [false] <+: p) (hf : x.th = none → N1 ≠ []) (hP : ∃ n N, Hang nt vt enc W w' n (some b) N ∧ kept N = upd p v (kept N0) ∧ Off X N) (hb : Below w.heap.size w w') (hC : Blk w' C (nodeC W x (some b) a1) nt) (hO : Off X (x :: (N0 ++ N1))) (hXC : ¬ X C) : PutX X nt vt enc W w w' p v (kept (x :: (N0 ++ N1))) C := by
  obtain ⟨m, M, h1, h2, h3⟩ := hP
  have hs := h.h0.srt
  have hpre : ∀ y ∈ kept M, x.key ++ [false] <+: y.1 := by rw [h2]; exact upd_pre hs hp fun y hy => h.lt0 hy
  have hr := h.new0 hb hC h1 hpre
  refine ⟨⟨_, _, hr.hang (fun e => ⟨kept_nil_of (by rw [h2]; exact upd_ne hs), hf e⟩), ?_, off_root hXC (off_parts hO).1 h3 (off_parts hO).2.2⟩, hb⟩
  rw [h.side0 hp, kept_root, h2]; rfl
theorem Root.put1X {w1 w' : World} {p : List Bool} {b C : Nat} {v : V} (h : Root nt vt enc W w n x a0 a1 N0 N1) (hw : Below w.heap.size w w1) (hp : x.key ++ [true] <+: p) (hf : x.th = none → N0 ≠ []) (hP : ∃ n N, Hang nt vt enc W w' n (some b) N ∧ kept N = upd p v (kept N1) ∧ Off X N) (hb : Below w.heap.size w w') (hC : Blk w' C (nodeC W x a0 (some b)) nt) (hO : Off X (x :: (N0 ++ N1))) (hXC : ¬ X C) : PutX X nt vt enc W w w' p v (kept (x :: (N0 ++ N1))) C := by
  obtain ⟨m, M, h1, h2, h3⟩ := hP
  have hs := h.h1.srt
  have hpre : ∀ y ∈ kept M, x.key ++ [true] <+: y.1 := by rw [h2]; exact upd_pre hs hp fun y hy => h.lt1 hy
  have hr := h.new1 hb hC h1 hpre
  refine ⟨⟨_, _, hr.hang (fun e => ⟨hf e, kept_nil_of (by rw [h2]; exact upd_ne hs)⟩), ?_, off_root hXC (off_parts hO).1 (off_parts hO).2.1 h3⟩, hb⟩
  rw [h.side1 hp, kept_root, h2]; rfl
theorem Root.idleX (h : Root nt vt enc W w n x a0 a1 N0 N1) (hO : Off X (x :: (N0 ++ N1))) : ∃ m M, Hang nt vt enc W w m (idleR x.th.isSome a0 a1 x.blk) M ∧ kept M = kept (x :: (N0 ++ N1)) ∧ Off X M := by
  unfold idleR
  cases hx : x.th with
  | some t => exact ⟨_, _, h.hang (fun e => by rw [hx] at e; cases e), rfl, hO⟩
  | none =>
    have ho : ownK x = [] := by unfold ownK; rw [hx]
    cases e0 : a0 with
    | none =>
      subst e0
      have := h.h0.of_none
      subst this
      exact ⟨_, _, h.h1, by rw [kept_root, ho]; rfl, (off_parts hO).2.2⟩
    | some b =>
      subst e0
      cases e1 : a1 with
      | none =>
        subst e1
        have := h.h1.of_none
        subst this
        exact ⟨_, _, h.h0, by rw [kept_root, ho]; exact (List.append_nil _).symm, (off_parts hO).2.1⟩
      | some c =>
        subst e1
        exact ⟨_, _, h.hang (fun _ => ⟨h.h0.some_ne rfl, h.h1.some_ne rfl⟩), rfl, hO⟩
def DelX (X : Nat → Prop) (nt vt : TypeId) (enc : V → Value) (W : Nat) (w w' : World) (p : List Bool) (L : List (List Bool × V)) (a : Option Nat) : Prop := (∃ n N, Hang nt vt enc W w' n a N ∧ kept N = del p L ∧ Off X N) ∧ Below w.heap.size w w'
theorem Root.delOwnX {w' : World} {C : Nat} (h : Root nt vt enc W w n x a0 a1 N0 N1) (hb : Below w.heap.size w w') (hC : Blk w' C (nodeC W (⟨C, x.key, none⟩ : Nd V) a0 a1) nt) (hO : Off X (x :: (N0 ++ N1))) (hXC : ¬ X C) : DelX X nt vt enc W w w' x.key (kept (x :: (N0 ++ N1))) (idleR false a0 a1 C) := by
  have hr : Root nt vt enc W w' n ⟨C, x.key, none⟩ a0 a1 N0 N1 := ⟨⟨hC, (fun t' v' e => by cases e), h.node.len⟩, h.pre0, h.pre1, h.h0.below hb, h.h1.below hb⟩
  obtain ⟨m, M, g1, g2, g3⟩ := hr.idleX (off_root hXC (fun t' v' e => by cases e) (off_parts hO).2.1 (off_parts hO).2.2)
  exact ⟨⟨m, M, g1, by rw [g2, h.dwn, kept_root]; rfl, g3⟩, hb⟩
theorem Root.delSide0X {w' : World} {p : List Bool} {b : Option Nat} {C : Nat} (h : Root nt vt enc W w n x a0 a1 N0 N1) (hp : x.key ++ [false] <+: p) (hP : ∃ n N, Hang nt vt enc W w' n b N ∧ kept N = del p (kept N0) ∧ Off X N) (hb : Below w.heap.size w w') (hC : Blk w' C (nodeC W x b a1) nt) (hO : Off X (x :: (N0 ++ N1))) (hXC : ¬ X C) : DelX X nt vt enc W w w' p (kept (x :: (N0 ++ N1))) (idleR x.th.isSome b a1 C) := by
  obtain ⟨m, M, h1, h2, h3⟩ := hP
  have hpre : ∀ y ∈ kept M, x.key ++ [false] <+: y.1 := by rw [h2]; exact del_pre fun y hy => h.lt0 hy
  obtain ⟨k, K, g1, g2, g3⟩ := (h.less0 hb hC h1 hpre).idleX (off_root hXC (off_parts hO).1 h3 (off_parts hO).2.2)
  refine ⟨⟨k, K, g1, ?_, g3⟩, hb⟩
  rw [g2, h.del0 hp, kept_root, h2]; rfl
theorem Root.delSide1X {w' : World} {p : List Bool} {b : Option Nat} {C : Nat} (h : Root nt vt enc W w n x a0 a1 N0 N1) (hp : x.key ++ [true] <+: p) (hP : ∃ n N, Hang nt vt enc W w' n b N ∧ kept N = del p (kept N1) ∧ Off X N) (hb : Below w.heap.size w w') (hC : Blk w' C (nodeC W x a0 b) nt) (hO : Off X (x :: (N0 ++ N1))) (hXC : ¬ X C) : DelX X nt vt enc W w w' p (kept (x :: (N0 ++ N1))) (idleR x.th.isSome a0 b C) := by
  obtain ⟨m, M, h1, h2, h3⟩ := hP
  have hpre : ∀ y ∈ kept M, x.key ++ [true] <+: y.1 := by rw [h2]; exact del_pre fun y hy => h.lt1 hy
  obtain ⟨k, K, g1, g2, g3⟩ := (h.less1 hb hC h1 hpre).idleX (off_root hXC (off_parts hO).1 (off_parts hO).2.1 h3)
  refine ⟨⟨k, K, g1, ?_, g3⟩, hb⟩
  rw [g2, h.del1 hp, kept_root, h2]; rfl
end
abbrev Put1X (X : Nat → Prop) (W : Nat) (w w' : World) (p : List Bool) (v : Int) (L : List (List Bool × Int)) (b : Nat) : Prop := PutX X 98 3 encV W w w' p v L b
abbrev Del1X (X : Nat → Prop) (W : Nat) (w w' : World) (p : List Bool) (L : List (List Bool × Int)) (a : Option Nat) : Prop := DelX X 98 3 encV W w w' p L a
end Go.Proofs.Ytgdpplipahhffaa
namespace Go.Proofs.Ytgdpplipahhffaa
open Go.RowKit
set_option linter.unusedVariables false
set_option linter.unusedSimpArgs false

set_option maxHeartbeats 1000000 in
theorem with_nilX (X : Nat → Prop) {W : Nat} {p : List Bool} (hp : p.length ≤ W) (q t : Nat) (v : Int) (w : World) (ht : Blk w t #[encV v] 3) (hX : ∀ k, X k → k < w.heap.size) (hXt : ¬ X t) :
    Calls Try.prog 56 #[.pointer (some ⟨q, 0, none⟩), .pointer none, Pf (valOf W p) p.length, .pointer (some ⟨t, 0, none⟩)] w fun e w' => ∃ b, e = .returned (.pointer (some ⟨b, 0, none⟩)) ∧ Put1X X W w w' p v [] b := by
  have HB := two_new' w #[.int .u64 (hiOf (valOf W p)), .int .u64 (loOf (valOf W p)), .int .i64 p.length] #[.int .u64 (hiOf (valOf W p)), .int .u64 (loOf (valOf W p)), .int .i64 p.length, .pointer (some ⟨t, 0, none⟩), .pointer none, .pointer none] 51 98
  have HF : Hid (Put1X X W w ((w.alloc (.cells #[.int .u64 (hiOf (valOf W p)), .int .u64 (loOf (valOf W p)), .int .i64 p.length] 51)).alloc (.cells #[.int .u64 (hiOf (valOf W p)), .int .u64 (loOf (valOf W p)), .int .i64 p.length, .pointer (some ⟨t, 0, none⟩), .pointer none, .pointer none] 98)) p v [] (w.heap.size + 1)) := by
    have hb := HB.out.2.2.1
    refine ⟨⟨1, _, Root.hang (n := 0) (a0 := none) (a1 := none) (N0 := []) (N1 := []) (x := ⟨w.heap.size + 1, p, some (t, v)⟩) ⟨⟨HB.out.2.1, fun t' v' e => ?_, hp⟩, fun y hy => absurd hy (by simp), fun y hy => absurd hy (by simp), Hang.nil 0, Hang.nil 0⟩ (fun e => by cases e), rfl, fun y hy => ?_⟩, hb⟩
    · cases e
      exact ht.below hb
    · have hy2 : y = ⟨w.heap.size + 1, p, some (t, v)⟩ := by simpa using hy
      subst hy2
      exact ⟨fun e => by have h9 : X (w.heap.size + 1) := e; have := hX _ h9; omega, fun t2 v2 e => by cases e; exact hXt⟩
  clear ht HB hX hXt
  go_enter Try.func56, Try.ntmps56
  go_wp2
  go_ret
  exact ⟨_, rfl, HF.out⟩
set_option maxHeartbeats 2000000 in
theorem with_nodeX (X : Nat → Prop) {W : Nat} (h1 : 1 ≤ W) (h2 : W ≤ 128) {p : List Bool} (hp : p.length ≤ W) (q t : Nat) (v : Int) (w : World) (ht : Blk w t #[encV v] 3) (hq : w.cell? ⟨q, 0, none⟩ = some (.int .i64 W))
    {n : Nat} {x : Nd Int} {a0 a1 : Option Nat} {N0 N1 : List (Nd Int)} (hR : RootI W w n x a0 a1 N0 N1) (hx : x.key <+: p)
    (hf0 : x.key ++ [false] <+: p → x.th = none → N1 ≠ []) (hf1 : x.key ++ [true] <+: p → x.th = none → N0 ≠ [])
    (hC0 : x.key ++ [false] <+: p → ∀ V, Below w.heap.size w V → Calls Try.prog 56 #[.pointer (some ⟨q, 0, none⟩), pt a0, Pf (valOf W p) p.length, .pointer (some ⟨t, 0, none⟩)] V fun e w' => ∃ b, e = .returned (.pointer (some ⟨b, 0, none⟩)) ∧ Put1X X W V w' p v (kept N0) b)
    (hC1 : x.key ++ [true] <+: p → ∀ V, Below w.heap.size w V → Calls Try.prog 56 #[.pointer (some ⟨q, 0, none⟩), pt a1, Pf (valOf W p) p.length, .pointer (some ⟨t, 0, none⟩)] V fun e w' => ∃ b, e = .returned (.pointer (some ⟨b, 0, none⟩)) ∧ Put1X X W V w' p v (kept N1) b) (hX : ∀ k, X k → k < w.heap.size) (hXt : ¬ X t) (hO : Off X (x :: (N0 ++ N1))) :
    Calls Try.prog 56 #[.pointer (some ⟨q, 0, none⟩), .pointer (some ⟨x.blk, 0, none⟩), Pf (valOf W p) p.length, .pointer (some ⟨t, 0, none⟩)] w fun e w' => ∃ b, e = .returned (.pointer (some ⟨b, 0, none⟩)) ∧ Put1X X W w w' p v (kept (x :: (N0 ++ N1))) b := by
  have HXX : Hid ((∀ k, X k → k < w.heap.size) ∧ ¬ X t ∧ Off X (x :: (N0 ++ N1))) := ⟨hX, hXt, hO⟩
  clear hX hXt hO
  have HR : Hid (RootI W w n x a0 a1 N0 N1) := hR
  have HT : Hid (Blk w t #[encV v] 3) := ht
  have HX : Hid (x.key <+: p) := hx
  have H0 : Hid ((x.key ++ [false] <+: p → x.th = none → N1 ≠ []) ∧ (x.key ++ [true] <+: p → x.th = none → N0 ≠ [])) := ⟨hf0, hf1⟩
  have hl := hR.node.len
  have C72 : Hid (∀ w1, Calls Try.prog 72 #[Pf (valOf W x.key) x.key.length, Pf (valOf W p) p.length, .int .i64 W] w1 fun e w' => e = .returned (.int .i64 x.key.length) ∧ Below w1.heap.size w1 w') := fun w1 => by
    have := common_any h1 h2 hl hp w1
    rw [lcp_pre.2 hx] at this; exact this
  have HB : Hid _ := one_new w #[.int .u64 (hiOf (valOf W p)), .int .u64 (loOf (valOf W p)), .int .i64 p.length] 51
  have hlq : q < w.heap.size := World.block_lt_of_cell? w _ hq
  have HQ : Hid (w.cell? ⟨q, 0, none⟩ = some (.int .i64 W)) := hq
  have HE : Hid (x.key = p ↔ valOf W x.key = valOf W p ∧ x.key.length = p.length) := ⟨fun e => by rw [e]; exact ⟨rfl, rfl⟩, fun e => val_inj hl hp e.2 e.1⟩
  obtain ⟨A3, hA3⟩ : ∃ A : Option Addr, A = (x.th.map (·.1)).map fun b => ⟨b, 0, none⟩ := ⟨_, rfl⟩
  obtain ⟨A4, hA4⟩ : ∃ A : Option Addr, A = a0.map fun b => ⟨b, 0, none⟩ := ⟨_, rfl⟩
  obtain ⟨A5, hA5⟩ : ∃ A : Option Addr, A = a1.map fun b => ⟨b, 0, none⟩ := ⟨_, rfl⟩
  have HA : Hid (A3 = ((x.th.map (·.1)).map fun b => (⟨b, 0, none⟩ : Addr)) ∧ A4 = (a0.map fun b => (⟨b, 0, none⟩ : Addr)) ∧ A5 = (a1.map fun b => (⟨b, 0, none⟩ : Addr))) := ⟨hA3, hA4, hA5⟩
  have HD0 : Hid (x.key ++ [false] <+: p → ∀ V, Below w.heap.size w V → Calls Try.prog 56 #[.pointer (some ⟨q, 0, none⟩), .pointer A4, Pf (valOf W p) p.length, .pointer (some ⟨t, 0, none⟩)] V fun e w' => ∃ b, e = .returned (.pointer (some ⟨b, 0, none⟩)) ∧ Hid (Put1X X W V w' p v (kept N0) b)) := by rw [hA4]; exact hC0
  have HD1 : Hid (x.key ++ [true] <+: p → ∀ V, Below w.heap.size w V → Calls Try.prog 56 #[.pointer (some ⟨q, 0, none⟩), .pointer A5, Pf (valOf W p) p.length, .pointer (some ⟨t, 0, none⟩)] V fun e w' => ∃ b, e = .returned (.pointer (some ⟨b, 0, none⟩)) ∧ Hid (Put1X X W V w' p v (kept N1) b)) := by rw [hA5]; exact hC1
  have xb0 : Blk w x.blk #[.int .u64 (hiOf (valOf W x.key)), .int .u64 (loOf (valOf W x.key)), .int .i64 x.key.length, .pointer A3, .pointer A4, .pointer A5] 98 := by rw [hA3, hA4, hA5]; exact hR.node.cells
  have HXB : Hid (Blk w x.blk #[.int .u64 (hiOf (valOf W x.key)), .int .u64 (loOf (valOf W x.key)), .int .i64 x.key.length, .pointer A3, .pointer A4, .pointer A5] 98) := xb0
  have C69 : Hid (∀ i : Bool, x.key ++ [i] <+: p → ∀ w1, Calls Try.prog 69 #[B (valOf W p), .int .i64 W, .int .i64 x.key.length] w1 fun e w' => e = .returned (.int .i64 (if i then 1 else 0)) ∧ Below w1.heap.size w1 w') := fun i hi w1 => by
    have h := side_any h1 h2 hp x.key.length w1
    have hb : p[x.key.length]? = some i := by obtain ⟨s, rfl⟩ := hi; simp
    rw [sideN, hb] at h
    cases i <;> exact h
  clear ht hx hf0 hf1 hC0 hC1 hq hR hA3 hA4 hA5 xb0
  go_enter Try.func56, Try.ntmps56
  go_upto_region 3 with fail
  generalize (w.alloc _) = w0 at HB ⊢
  have hlx := HXB.out.lt
  have xb := HXB.out.below HB.out.2.1
  have x0 := two_cells xb (i := 0) (v := .int .u64 (hiOf (valOf W x.key))) rfl
  have x1 := two_cells xb (i := 1) (v := .int .u64 (loOf (valOf W x.key))) rfl
  have x2 := two_cells xb (i := 2) (v := .int .i64 x.key.length) rfl
  have x3 := two_cells xb (i := 3) (v := .pointer A3) rfl
  have x4 := two_cells xb (i := 4) (v := .pointer A4) rfl
  have x5 := two_cells xb (i := 5) (v := .pointer A5) rfl
  have y0 := two_cells HB.out.1 (i := 0) (v := .int .u64 (hiOf (valOf W p))) rfl
  have y1 := two_cells HB.out.1 (i := 1) (v := .int .u64 (loOf (valOf W p))) rfl
  have y2 := two_cells HB.out.1 (i := 2) (v := .int .i64 p.length) rfl
  have z0 : ∀ z : Grown w0, (gw z).cell? ⟨q, 0, none⟩ = some (.int .i64 W) := gw_cell ((World.cell?_of_block (HB.out.2.1.block q hlq)).trans HQ.out)
  clear xb
  refine region_grows (by kernel_rfl) (by kernel_rfl) ?_
  repeat (go_big_quiet_step ((go_at_call 72; exact calls_gw (C72.out _))))
  refine wpQuiet_nil ?_
  intro wq hwq
  obtain ⟨zq, rfl⟩ := hwq
  have t1 : decide ((x.key.length : Int) < (x.key.length : Int)) = false := by simp
  go_upto_region 9 with fail
  have HC : Hid (Blk ((gw zq).alloc (.cells #[.int .u64 (hiOf (valOf W x.key)), .int .u64 (loOf (valOf W x.key)), .int .i64 x.key.length, .pointer A3, .pointer A4, .pointer A5] 98)) (gw zq).heap.size #[.int .u64 (hiOf (valOf W x.key)), .int .u64 (loOf (valOf W x.key)), .int .i64 x.key.length, .pointer A3, .pointer A4, .pointer A5] 98 ∧ Below w0.heap.size w0 ((gw zq).alloc (.cells #[.int .u64 (hiOf (valOf W x.key)), .int .u64 (loOf (valOf W x.key)), .int .i64 x.key.length, .pointer A3, .pointer A4, .pointer A5] 98)) ∧ w0.heap.size ≤ (gw zq).heap.size) := ⟨Blk.new _ _ 98, bst (gw_below zq) ((Below.refl _ _).alloc (Nat.le_refl _) _), (gw_below zq).size⟩
  generalize ((gw zq).alloc _) = w2 at HC ⊢
  generalize (gw zq).heap.size = C at *
  have hz0 := HB.out.2.2
  have hzC := HC.out.2.2
  have lC := HC.out.1.lt
  have lw2 := HC.out.2.1.size
  clear x0 x1 x2 x3 x4 x5 y0 y1 y2 z0 t1
  have x0 : w2.cell? ⟨x.blk, 0, none⟩ = some (.int .u64 (hiOf (valOf W x.key))) := ((HXB.out.below HB.out.2.1).below HC.out.2.1).cell 0 rfl
  have x1 : w2.cell? ⟨x.blk, 1, none⟩ = some (.int .u64 (loOf (valOf W x.key))) := ((HXB.out.below HB.out.2.1).below HC.out.2.1).cell 1 rfl
  have x2 : w2.cell? ⟨x.blk, 2, none⟩ = some (.int .i64 x.key.length) := ((HXB.out.below HB.out.2.1).below HC.out.2.1).cell 2 rfl
  have y0 : w2.cell? ⟨w.heap.size, 0, none⟩ = some (.int .u64 (hiOf (valOf W p))) := (HB.out.1.below HC.out.2.1).cell 0 rfl
  have y1 : w2.cell? ⟨w.heap.size, 1, none⟩ = some (.int .u64 (loOf (valOf W p))) := (HB.out.1.below HC.out.2.1).cell 1 rfl
  have y2 : w2.cell? ⟨w.heap.size, 2, none⟩ = some (.int .i64 p.length) := (HB.out.1.below HC.out.2.1).cell 2 rfl
  have HbW : Hid (Below w.heap.size w w2) := bst HB.out.2.1 HC.out.2.1
  by_cases hk : x.key = p
  · obtain ⟨e1, e2⟩ := HE.out.1 hk
    have EQ : ∀ w, (binOp .eql 51 (Pf (valOf W x.key) x.key.length) (Pf (valOf W p) p.length)).run Try.prog w = .ok (.bool true) w := fun w => by
      rw [eq51, decide_eq_true e1, show ((x.key.length : Int) == (p.length : Int)) = true by rw [beq_iff_eq]; omega]; rfl
    have HK : Hid (x.key = p) := hk
    clear e1 e2 hk
    go_quiet (fail)
    rename_i nq
    have HC3 : Hid (Blk (w2.drewN nq) C #[.int .u64 (hiOf (valOf W x.key)), .int .u64 (loOf (valOf W x.key)), .int .i64 x.key.length, .pointer A3, .pointer A4, .pointer A5] 98 ∧ Below w.heap.size w (w2.drewN nq)) := ⟨HC.out.1, below_drewN HbW.out nq⟩
    generalize w2.drewN nq = w3 at HC3 ⊢
    have c3 := HC3.out.1.cell 3 (v := .pointer A3) rfl
    have f3 := HC3.out.1.frozen 3
    have HF : Hid (Put1X X W w (w3.setCell ⟨C, 3, none⟩ (.pointer (some ⟨t, 0, none⟩))) p v (kept (x :: (N0 ++ N1))) C) := by
      have g2 := HC3.out.1.set 3 (.pointer (some ⟨t, 0, none⟩))
      have g3 : Below w.heap.size w (w3.setCell ⟨C, 3, none⟩ (.pointer (some ⟨t, 0, none⟩))) := HC3.out.2.setCell (by show _ ≤ C; omega) _
      have e := HK.out
      subst e
      refine HR.out.putOwnX (t := t) g3 ?_ HT.out HXX.out.2.2 (fun e => by have := HXX.out.1 _ e; omega) HXX.out.2.1
      obtain ⟨a3, a4, a5⟩ := HA.out
      rw [a4, a5] at g2
      exact g2
    go_wp2
    go_ret
    exact ⟨_, rfl, HF.out⟩
  · have EQ : ∀ w, (binOp .eql 51 (Pf (valOf W x.key) x.key.length) (Pf (valOf W p) p.length)).run Try.prog w = .ok (.bool false) w := fun w => by
      rw [eq51]
      have : ¬ (valOf W x.key = valOf W p ∧ x.key.length = p.length) := fun e => hk (HE.out.2 e)
      by_cases e1 : valOf W x.key = valOf W p
      · have e2 : ((x.key.length : Int) == (p.length : Int)) = false := by rw [beq_eq_false_iff_ne]; intro e; exact this ⟨e1, by omega⟩
        rw [e2, Bool.and_false]
      · rw [decide_eq_false e1, Bool.false_and]
    obtain ⟨i, hi, _⟩ := pre_next HX.out hk
    clear hk
    go_quiet (fail)
    rename_i nq
    have HC3 : Hid (Blk (w2.drewN nq) C #[.int .u64 (hiOf (valOf W x.key)), .int .u64 (loOf (valOf W x.key)), .int .i64 x.key.length, .pointer A3, .pointer A4, .pointer A5] 98 ∧ Below w2.heap.size w2 (w2.drewN nq)) := ⟨HC.out.1, below_drewN (Below.refl _ _) nq⟩
    generalize w2.drewN nq = w3 at HC3 ⊢
    clear x0 x1 x2 y0 y1 y2
    have C69i : Hid (∀ w1, Calls Try.prog 69 #[B (valOf W p), .int .i64 W, .int .i64 x.key.length] w1 fun e w' => e = .returned (.int .i64 (if i then 1 else 0)) ∧ Below w1.heap.size w1 w') := C69.out i hi
    have HI : Hid (x.key ++ [i] <+: p) := hi
    clear C69 hi
    have hbz : Hid (Below w.heap.size w w3) := bst HbW.out HC3.out.2
    have xb3 : Blk w3 x.blk _ 98 := HXB.out.below hbz.out
    have x0 := two_cells xb3 (i := 0) (v := .int .u64 (hiOf (valOf W x.key))) rfl
    have x1 := two_cells xb3 (i := 1) (v := .int .u64 (loOf (valOf W x.key))) rfl
    have x2 := two_cells xb3 (i := 2) (v := .int .i64 x.key.length) rfl
    have yb3 : Blk w3 w.heap.size _ 51 := (HB.out.1.below HC.out.2.1).below HC3.out.2
    have y0 := two_cells yb3 (i := 0) (v := .int .u64 (hiOf (valOf W p))) rfl
    have y1 := two_cells yb3 (i := 1) (v := .int .u64 (loOf (valOf W p))) rfl
    have z0 : ∀ z : Grown w3, (gw z).cell? ⟨q, 0, none⟩ = some (.int .i64 W) := gw_cell ((World.cell?_of_block (hbz.out.block q hlq)).trans HQ.out)
    clear xb3 yb3
    go_upto_region 12 with fail
    refine region_grows (by kernel_rfl) (by kernel_rfl) ?_
    repeat (go_big_quiet_step ((go_at_call 69; exact calls_gw (C69i.out _))))
    refine wpQuiet_nil ?_
    intro wq hwq
    obtain ⟨zq2, rfl⟩ := hwq
    have HC4 : Hid (Blk (gw zq2) C #[.int .u64 (hiOf (valOf W x.key)), .int .u64 (loOf (valOf W x.key)), .int .i64 x.key.length, .pointer A3, .pointer A4, .pointer A5] 98 ∧ Below w.heap.size w (gw zq2)) := ⟨HC3.out.1.below (gw_below zq2), bst hbz.out (gw_below zq2)⟩
    have x0' := x0 zq2
    have yc : Blk (gw zq2) w.heap.size #[.int .u64 (hiOf (valOf W p)), .int .u64 (loOf (valOf W p)), .int .i64 p.length] 51 := ((HB.out.1.below HC.out.2.1).below HC3.out.2).below (gw_below zq2)
    have HY : Hid (Blk (gw zq2) w.heap.size #[.int .u64 (hiOf (valOf W p)), .int .u64 (loOf (valOf W p)), .int .i64 p.length] 51) := yc
    clear x0 x1 x2 y0 y1 z0 x0' yc HC3 C69i
    generalize gw zq2 = w5 at *
    have c4 := HC4.out.1.cell 4 (v := .pointer A4) rfl
    have c5 := HC4.out.1.cell 5 (v := .pointer A5) rfl
    have f4 := HC4.out.1.frozen 4
    have f5 := HC4.out.1.frozen 5
    have xb5 : Blk w5 x.blk _ 98 := HXB.out.below HC4.out.2
    have x4 := xb5.cell 4 (v := .pointer A4) rfl
    have x5 := xb5.cell 5 (v := .pointer A5) rfl
    have y0 := HY.out.cell 0 (v := .int .u64 (hiOf (valOf W p))) rfl
    have y1 := HY.out.cell 1 (v := .int .u64 (loOf (valOf W p))) rfl
    have y2 := HY.out.cell 2 (v := .int .i64 p.length) rfl
    have HZ := HC4.out.2.size
    clear xb5 HY
    cases i with
    | false =>
      have CC : Hid (∀ V, Below w5.heap.size w5 V → Calls Try.prog 56 #[.pointer (some ⟨q, 0, none⟩), .pointer A4, Pf (valOf W p) p.length, .pointer (some ⟨t, 0, none⟩)] V fun e w' => ∃ b, e = .returned (.pointer (some ⟨b, 0, none⟩)) ∧ w'.cell? ⟨C, 4, none⟩ = some (.pointer A4) ∧ w'.frozen? ⟨C, 4, none⟩ = false ∧ Hid (Put1X X W w (w'.setCell ⟨C, 4, none⟩ (.pointer (some ⟨b, 0, none⟩))) p v (kept (x :: (N0 ++ N1))) C)) := fun V hV => (HD0.out HI.out V (bst HC4.out.2 hV)).mono (by
        rintro e w' ⟨b, rfl, hP⟩
        obtain ⟨⟨m, M, hM, hk, hMX⟩, hb⟩ := hP.out
        have g1 : Blk w' C _ 98 := (HC4.out.1.below hV).below hb
        have g2 := g1.set 4 (.pointer (some ⟨b, 0, none⟩))
        have hpre : ∀ y ∈ kept M, x.key ++ [false] <+: y.1 := by rw [hk]; exact upd_pre HR.out.h0.srt HI.out fun y hy => HR.out.lt0 hy
        have hoff := hM.off_key (by decide) hpre HR.out.node.len g1
        have hks : Kept (fun k => k = C) w' (w'.setCell ⟨C, 4, none⟩ (.pointer (some ⟨b, 0, none⟩))) := (Kept.refl (fun k => k = C) w').set (p := ⟨C, 4, none⟩) rfl _
        have hbw : Below w.heap.size w (w'.setCell ⟨C, 4, none⟩ (.pointer (some ⟨b, 0, none⟩))) := (bst (bst HC4.out.2 hV) hb).setCell (by show _ ≤ C; omega) _
        obtain ⟨a3, a4, a5⟩ := HA.out
        have g3 : Blk (w'.setCell ⟨C, 4, none⟩ (.pointer (some ⟨b, 0, none⟩))) C (nodeC W x (some b) a1) 98 := by rw [a3, a5] at g2; exact g2
        exact ⟨b, rfl, g1.cell 4 rfl, g1.frozen 4, HR.out.put0X HC4.out.2 HI.out (H0.out.1 HI.out) ⟨m, M, hM.keptW hks hoff, hk, hMX⟩ hbw g3 HXX.out.2.2 (fun e => by have := HXX.out.1 _ e; omega)⟩)
      clear HD0 HD1
      go_upto_region 13 with fail
      go_region_with ((go_at_call 56; refine (CC.out _ (by exact ⟨rfl, rfl, rfl, Nat.le_refl _, fun _ _ => rfl⟩)).mono ?_; rintro e w7 ⟨b, rfl, d4, e4, H7⟩))
      all_goals
        go_wp2
        go_ret
        exact ⟨_, rfl, H7.out⟩
    | true =>
      have CC : Hid (∀ V, Below w5.heap.size w5 V → Calls Try.prog 56 #[.pointer (some ⟨q, 0, none⟩), .pointer A5, Pf (valOf W p) p.length, .pointer (some ⟨t, 0, none⟩)] V fun e w' => ∃ b, e = .returned (.pointer (some ⟨b, 0, none⟩)) ∧ w'.cell? ⟨C, 5, none⟩ = some (.pointer A5) ∧ w'.frozen? ⟨C, 5, none⟩ = false ∧ Hid (Put1X X W w (w'.setCell ⟨C, 5, none⟩ (.pointer (some ⟨b, 0, none⟩))) p v (kept (x :: (N0 ++ N1))) C)) := fun V hV => (HD1.out HI.out V (bst HC4.out.2 hV)).mono (by
        rintro e w' ⟨b, rfl, hP⟩
        obtain ⟨⟨m, M, hM, hk, hMX⟩, hb⟩ := hP.out
        have g1 : Blk w' C _ 98 := (HC4.out.1.below hV).below hb
        have g2 := g1.set 5 (.pointer (some ⟨b, 0, none⟩))
        have hpre : ∀ y ∈ kept M, x.key ++ [true] <+: y.1 := by rw [hk]; exact upd_pre HR.out.h1.srt HI.out fun y hy => HR.out.lt1 hy
        have hoff := hM.off_key (by decide) hpre HR.out.node.len g1
        have hks : Kept (fun k => k = C) w' (w'.setCell ⟨C, 5, none⟩ (.pointer (some ⟨b, 0, none⟩))) := (Kept.refl (fun k => k = C) w').set (p := ⟨C, 5, none⟩) rfl _
        have hbw : Below w.heap.size w (w'.setCell ⟨C, 5, none⟩ (.pointer (some ⟨b, 0, none⟩))) := (bst (bst HC4.out.2 hV) hb).setCell (by show _ ≤ C; omega) _
        obtain ⟨a3, a4, a5⟩ := HA.out
        have g3 : Blk (w'.setCell ⟨C, 5, none⟩ (.pointer (some ⟨b, 0, none⟩))) C (nodeC W x a0 (some b)) 98 := by rw [a3, a4] at g2; exact g2
        exact ⟨b, rfl, g1.cell 5 rfl, g1.frozen 5, HR.out.put1X HC4.out.2 HI.out (H0.out.2 HI.out) ⟨m, M, hM.keptW hks hoff, hk, hMX⟩ hbw g3 HXX.out.2.2 (fun e => by have := HXX.out.1 _ e; omega)⟩)
      clear HD0 HD1
      go_upto_region 13 with fail
      go_region_with ((go_at_call 56; refine (CC.out _ (by exact ⟨rfl, rfl, rfl, Nat.le_refl _, fun _ _ => rfl⟩)).mono ?_; rintro e w7 ⟨b, rfl, d5, e5, H7⟩))
      all_goals
        go_wp2
        go_ret
        exact ⟨_, rfl, H7.out⟩
end Go.Proofs.Ytgdpplipahhffaa
namespace Go.Proofs.Ytgdpplipahhffaa
open Go.RowKit
set_option linter.unusedVariables false
set_option linter.unusedSimpArgs false

set_option maxHeartbeats 2000000 in
theorem with_aboveX (X : Nat → Prop) {W : Nat} (h1 : 1 ≤ W) (h2 : W ≤ 128) {p : List Bool} (hp : p.length ≤ W) (q t : Nat) (v : Int) (w : World) (ht : Blk w t #[encV v] 3) (hq : w.cell? ⟨q, 0, none⟩ = some (.int .i64 W))
    {n : Nat} {x : Nd Int} {a0 a1 : Option Nat} {N0 N1 : List (Nd Int)} (hR : RootI W w n x a0 a1 N0 N1) (hf : x.th = none → N0 ≠ [] ∧ N1 ≠ []) (hx : ¬ x.key <+: p) (hX : ∀ k, X k → k < w.heap.size) (hXt : ¬ X t) (hO : Off X (x :: (N0 ++ N1))) :
    Calls Try.prog 56 #[.pointer (some ⟨q, 0, none⟩), .pointer (some ⟨x.blk, 0, none⟩), Pf (valOf W p) p.length, .pointer (some ⟨t, 0, none⟩)] w fun e w' => ∃ b, e = .returned (.pointer (some ⟨b, 0, none⟩)) ∧ Put1X X W w w' p v (kept (x :: (N0 ++ N1))) b := by
  have HXX : Hid ((∀ k, X k → k < w.heap.size) ∧ ¬ X t ∧ Off X (x :: (N0 ++ N1))) := ⟨hX, hXt, hO⟩
  clear hX hXt hO
  have hl := hR.node.len
  obtain ⟨f1, f2, f3, j, f4, f5, f6⟩ := fork_facts hx
  have hlp := f2
  have C72 : Hid (∀ w1, Calls Try.prog 72 #[Pf (valOf W x.key) x.key.length, Pf (valOf W p) p.length, .int .i64 W] w1 fun e w' => e = .returned (.int .i64 (lcp x.key p : Nat)) ∧ Below w1.heap.size w1 w') := fun w1 => common_any h1 h2 hl hp w1
  have C66 : Hid (∀ w1, Calls Try.prog 66 #[B (valOf W p), .int .i64 W, .int .i64 (lcp x.key p : Nat)] w1 fun e w' => e = .returned (Pf (valOf W (x.key.take (lcp x.key p))) (lcp x.key p : Nat)) ∧ Below w1.heap.size w1 w') := fun w1 => by
    have := first_any (valOf W p) (val_is h2 hp) W h1 h2 (lcp x.key p) (by omega) w1
    rw [val_mask (by omega) hp, ← f3] at this
    exact this
  have C69 : Hid (∀ w1, Calls Try.prog 69 #[B (valOf W x.key), .int .i64 W, .int .i64 (lcp x.key p : Nat)] w1 fun e w' => e = .returned (.int .i64 (if j then 1 else 0)) ∧ Below w1.heap.size w1 w') := fun w1 => by
    have h := side_any h1 h2 hl (lcp x.key p) w1
    rw [sideN, f5] at h
    cases j <;> exact h
  have hcl : (x.key.take (lcp x.key p)).length = lcp x.key p := by rw [List.length_take]; omega
  have CW : Hid (∀ V D, Below w.heap.size w V → w.heap.size ≤ D → Blk V D (if j then #[.int .u64 (hiOf (valOf W (x.key.take (lcp x.key p)))), .int .u64 (loOf (valOf W (x.key.take (lcp x.key p)))), .int .i64 (lcp x.key p : Nat), .pointer none, .pointer none, .pointer (some ⟨x.blk, 0, none⟩)] else #[.int .u64 (hiOf (valOf W (x.key.take (lcp x.key p)))), .int .u64 (loOf (valOf W (x.key.take (lcp x.key p)))), .int .i64 (lcp x.key p : Nat), .pointer none, .pointer (some ⟨x.blk, 0, none⟩), .pointer none]) 98 →
      Calls Try.prog 56 #[.pointer (some ⟨q, 0, none⟩), .pointer (some ⟨D, 0, none⟩), Pf (valOf W p) p.length, .pointer (some ⟨t, 0, none⟩)] V fun e w' => ∃ b, e = .returned (.pointer (some ⟨b, 0, none⟩)) ∧ Hid (Put1X X W w w' p v (kept (x :: (N0 ++ N1))) b)) := fun V D hV hwD hD => by
    have hH : HangI W V (n + 1) (some x.blk) (x :: (N0 ++ N1)) := (hR.below hV).hang hf
    have hpre : ∀ y ∈ x :: (N0 ++ N1), x.key.take (lcp x.key p) ++ [j] <+: y.key := fun y hy => f4.trans (root_pre hR y hy)
    have htV := ht.below hV
    have hqV : V.cell? ⟨q, 0, none⟩ = some (.int .i64 W) := (World.cell?_of_block (hV.block q (World.block_lt_of_cell? w _ hq))).trans hq
    have hcp : x.key.take (lcp x.key p) <+: p := by rw [f3]; exact List.take_prefix _ _
    cases j with
    | false =>
      have hr : RootI W V (n + 1) ⟨D, x.key.take (lcp x.key p), none⟩ (some x.blk) none (x :: (N0 ++ N1)) [] := ⟨⟨by unfold nodeC; rw [hcl]; exact hD, (fun t v e => by cases e), by show (x.key.take (lcp x.key p)).length ≤ W; rw [hcl]; omega⟩, hpre, fun y hy => absurd hy (by simp), hH, Hang.nil _⟩
      refine (with_nodeX X h1 h2 hp q t v V htV hqV hr hcp (fun e => ?_) (fun _ _ => by simp) (fun e => ?_) (fun _ V' hV' => with_nilX X hp q t v V' (htV.below hV') (fun k e => by have := HXX.out.1 k e; have := hV.size; have := hV'.size; omega) HXX.out.2.1) (fun k e => by have := HXX.out.1 k e; have := hV.size; omega) HXX.out.2.1 (off_root (fun e => by have := HXX.out.1 _ e; omega) (fun t v e => by cases e) HXX.out.2.2 (fun y hy => by cases hy))).mono ?_
      · have e' : x.key.take (lcp x.key p) ++ [false] <+: p := e
        rw [f3] at e'; exact absurd (f6 _ e') (by simp)
      · have e' : x.key.take (lcp x.key p) ++ [false] <+: p := e
        rw [f3] at e'; exact absurd (f6 _ e') (by simp)
      · rintro e w' ⟨b, rfl, hP, hb⟩
        exact ⟨b, rfl, by
          rw [kept_root, show kept ([] : List (Nd Int)) = [] from rfl, List.append_nil] at hP
          exact ⟨hP, bst hV hb⟩⟩
    | true =>
      have hr : RootI W V (n + 1) ⟨D, x.key.take (lcp x.key p), none⟩ none (some x.blk) [] (x :: (N0 ++ N1)) := ⟨⟨by unfold nodeC; rw [hcl]; exact hD, (fun t v e => by cases e), by show (x.key.take (lcp x.key p)).length ≤ W; rw [hcl]; omega⟩, fun y hy => absurd hy (by simp), hpre, Hang.nil _, hH⟩
      refine (with_nodeX X h1 h2 hp q t v V htV hqV hr hcp (fun _ _ => by simp) (fun e => ?_) (fun _ V' hV' => with_nilX X hp q t v V' (htV.below hV') (fun k e => by have := HXX.out.1 k e; have := hV.size; have := hV'.size; omega) HXX.out.2.1) (fun e => ?_) (fun k e => by have := HXX.out.1 k e; have := hV.size; omega) HXX.out.2.1 (off_root (fun e => by have := HXX.out.1 _ e; omega) (fun t v e => by cases e) (fun y hy => by cases hy) HXX.out.2.2)).mono ?_
      · have e' : x.key.take (lcp x.key p) ++ [true] <+: p := e
        rw [f3] at e'; exact absurd (f6 _ e') (by simp)
      · have e' : x.key.take (lcp x.key p) ++ [true] <+: p := e
        rw [f3] at e'; exact absurd (f6 _ e') (by simp)
      · rintro e w' ⟨b, rfl, hP, hb⟩
        exact ⟨b, rfl, by rw [kept_root] at hP; exact ⟨hP, bst hV hb⟩⟩
  have HXB : Hid (∃ A3 A4 A5, Blk w x.blk #[.int .u64 (hiOf (valOf W x.key)), .int .u64 (loOf (valOf W x.key)), .int .i64 x.key.length, .pointer A3, .pointer A4, .pointer A5] 98) := ⟨_, _, _, hR.node.cells⟩
  have HB : Hid _ := one_new w #[.int .u64 (hiOf (valOf W p)), .int .u64 (loOf (valOf W p)), .int .i64 p.length] 51
  have hlq : q < w.heap.size := World.block_lt_of_cell? w _ hq
  have HQ : Hid (w.cell? ⟨q, 0, none⟩ = some (.int .i64 W)) := hq
  clear ht hx hq hR f2 f3 f4 f5 f6 hcl hf
  obtain ⟨A3, A4, A5, HXB⟩ := HXB.out
  have HXB : Hid (Blk w x.blk #[.int .u64 (hiOf (valOf W x.key)), .int .u64 (loOf (valOf W x.key)), .int .i64 x.key.length, .pointer A3, .pointer A4, .pointer A5] 98) := HXB
  generalize valOf W (x.key.take (lcp x.key p)) = cv at *
  generalize lcp x.key p = s at *
  generalize kept (x :: (N0 ++ N1)) = L at *
  go_enter Try.func56, Try.ntmps56
  go_upto_region 3 with fail
  generalize (w.alloc _) = w0 at HB ⊢
  have hlx := HXB.out.lt
  have xb := HXB.out.below HB.out.2.1
  have x0 := two_cells xb (i := 0) (v := .int .u64 (hiOf (valOf W x.key))) rfl
  have x1 := two_cells xb (i := 1) (v := .int .u64 (loOf (valOf W x.key))) rfl
  have x2 := two_cells xb (i := 2) (v := .int .i64 x.key.length) rfl
  have y0 := two_cells HB.out.1 (i := 0) (v := .int .u64 (hiOf (valOf W p))) rfl
  have y1 := two_cells HB.out.1 (i := 1) (v := .int .u64 (loOf (valOf W p))) rfl
  have y2 := two_cells HB.out.1 (i := 2) (v := .int .i64 p.length) rfl
  have z0 : ∀ z : Grown w0, (gw z).cell? ⟨q, 0, none⟩ = some (.int .i64 W) := gw_cell ((World.cell?_of_block (HB.out.2.1.block q hlq)).trans HQ.out)
  clear xb
  refine region_grows (by kernel_rfl) (by kernel_rfl) ?_
  repeat (go_big_quiet_step ((go_at_call 72; exact calls_gw (C72.out _))))
  refine wpQuiet_nil ?_
  intro wq hwq
  obtain ⟨zq, rfl⟩ := hwq
  have t1 : decide ((s : Int) < (x.key.length : Int)) = true := by simp; omega
  go_upto_region 5 with fail
  have HX2 : Hid (Blk (gw zq) x.blk #[.int .u64 (hiOf (valOf W x.key)), .int .u64 (loOf (valOf W x.key)), .int .i64 x.key.length, .pointer A3, .pointer A4, .pointer A5] 98 ∧ Blk (gw zq) w.heap.size #[.int .u64 (hiOf (valOf W p)), .int .u64 (loOf (valOf W p)), .int .i64 p.length] 51 ∧ Below w.heap.size w (gw zq)) := ⟨(HXB.out.below HB.out.2.1).below (gw_below zq), HB.out.1.below (gw_below zq), bst HB.out.2.1 (gw_below zq)⟩
  have q0 := z0 zq
  clear x0 x1 x2 y0 y1 y2 z0 t1 C72
  generalize gw zq = w2 at *
  have y0 := HX2.out.2.1.cell 0 (v := .int .u64 (hiOf (valOf W p))) rfl
  have y1 := HX2.out.2.1.cell 1 (v := .int .u64 (loOf (valOf W p))) rfl
  have hqz : Hid (w2.cell? ⟨q, 0, none⟩ = some (.int .i64 W)) := q0
  go_region_with ((go_at_call 66; refine (C66.out _).mono ?_; rintro e w3 ⟨rfl, hb3⟩))
  all_goals (
    have HF3 : Hid (Blk (w3.alloc (.cells #[.int .u64 (hiOf cv), .int .u64 (loOf cv), .int .i64 s, .pointer none, .pointer none, .pointer none] 98)) w3.heap.size #[.int .u64 (hiOf cv), .int .u64 (loOf cv), .int .i64 s, .pointer none, .pointer none, .pointer none] 98 ∧ Below w2.heap.size w2 (w3.alloc (.cells #[.int .u64 (hiOf cv), .int .u64 (loOf cv), .int .i64 s, .pointer none, .pointer none, .pointer none] 98)) ∧ w2.heap.size ≤ w3.heap.size) := ⟨Blk.new _ _ _, bst (⟨hb3.os, hb3.tape, hb3.output, hb3.size, hb3.block⟩ : Below w2.heap.size w2 w3) ((Below.refl _ _).alloc (Nat.le_refl _) _), hb3.size⟩
    clear hb3 C66 y0 y1 q0
    go_upto_region 6 with fail
    generalize (w3.alloc _) = w4 at HF3 ⊢
    generalize w3.heap.size = D at *
    have hD2 := HF3.out.2.2
    have lD := HF3.out.1.lt
    have lw := HX2.out.2.2.size
    have lA := HX2.out.2.1.lt
    have H4 : Hid (Blk w4 x.blk #[.int .u64 (hiOf (valOf W x.key)), .int .u64 (loOf (valOf W x.key)), .int .i64 x.key.length, .pointer A3, .pointer A4, .pointer A5] 98 ∧ Blk w4 w.heap.size #[.int .u64 (hiOf (valOf W p)), .int .u64 (loOf (valOf W p)), .int .i64 p.length] 51 ∧ Below w.heap.size w w4) := ⟨HX2.out.1.below HF3.out.2.1, HX2.out.2.1.below HF3.out.2.1, bst HX2.out.2.2 HF3.out.2.1⟩
    have x0 := H4.out.1.cell 0 (v := .int .u64 (hiOf (valOf W x.key))) rfl
    have x1 := H4.out.1.cell 1 (v := .int .u64 (loOf (valOf W x.key))) rfl
    have z0 : w4.cell? ⟨q, 0, none⟩ = some (.int .i64 W) := (World.cell?_of_block (H4.out.2.2.block q hlq)).trans HQ.out
    have C7 : Hid (∀ V, Below w4.heap.size w4 V → Calls Try.prog 69 #[B (valOf W x.key), .int .i64 W, .int .i64 s] V fun e w' => e = .returned (.int .i64 (if j then 1 else 0)) ∧ w'.cell? ⟨D, 4, none⟩ = some (.pointer none) ∧ w'.frozen? ⟨D, 4, none⟩ = false ∧ w'.cell? ⟨D, 5, none⟩ = some (.pointer none) ∧ w'.frozen? ⟨D, 5, none⟩ = false ∧ Hid (Below w4.heap.size w4 w')) := fun V hV => (C69.out V).mono (by
      rintro e w' ⟨rfl, hb⟩
      have hb' := bst hV hb
      have g := HF3.out.1.below hb'
      exact ⟨rfl, g.cell 4 rfl, g.frozen 4, g.cell 5 rfl, g.frozen 5, hb'⟩)
    clear C69
    cases j with
    | false =>
      go_region_with ((go_at_call 69; refine (C7.out _ (by exact ⟨rfl, rfl, rfl, Nat.le_refl _, fun _ _ => rfl⟩)).mono ?_; rintro e w5 ⟨rfl, d4, e4, d5, e5, H5⟩))
      all_goals (
        have HG : Hid (Blk (w5.setCell ⟨D, 4, none⟩ (.pointer (some ⟨x.blk, 0, none⟩))) D #[.int .u64 (hiOf cv), .int .u64 (loOf cv), .int .i64 s, .pointer none, .pointer (some ⟨x.blk, 0, none⟩), .pointer none] 98 ∧ Below w.heap.size w (w5.setCell ⟨D, 4, none⟩ (.pointer (some ⟨x.blk, 0, none⟩))) ∧ Blk (w5.setCell ⟨D, 4, none⟩ (.pointer (some ⟨x.blk, 0, none⟩))) w.heap.size #[.int .u64 (hiOf (valOf W p)), .int .u64 (loOf (valOf W p)), .int .i64 p.length] 51) := ⟨(HF3.out.1.below H5.out).set 4 _, (bst H4.out.2.2 H5.out).setCell (by show _ ≤ D; omega) _, (H4.out.2.1.below H5.out).kept (S := fun k => k = D) ((Kept.refl (fun k => k = D) w5).set (p := ⟨D, 4, none⟩) rfl _) (by show ¬ _ = _; omega)⟩
        have HCZ : Hid (Calls Try.prog 56 #[.pointer (some ⟨q, 0, none⟩), .pointer (some ⟨D, 0, none⟩), Pf (valOf W p) p.length, .pointer (some ⟨t, 0, none⟩)] (w5.setCell ⟨D, 4, none⟩ (.pointer (some ⟨x.blk, 0, none⟩))) fun e w' => ∃ b, e = .returned (.pointer (some ⟨b, 0, none⟩)) ∧ Hid (Put1X X W w w' p v L b)) := CW.out _ D HG.out.2.1 (by omega) HG.out.1
        clear CW C7 x0 x1 z0
        go_upto_region 7 with fail
        generalize w5.setCell _ _ = w6 at HG HCZ ⊢
        have y0 := HG.out.2.2.cell 0 (v := .int .u64 (hiOf (valOf W p))) rfl
        have y1 := HG.out.2.2.cell 1 (v := .int .u64 (loOf (valOf W p))) rfl
        have y2 := HG.out.2.2.cell 2 (v := .int .i64 p.length) rfl
        go_wp2_with fail
        refine HCZ.out.mono ?_
        rintro e w7 ⟨b, rfl, H7⟩
        go_wp2
        go_ret
        exact ⟨_, rfl, H7.out⟩)
    | true =>
      go_region_with ((go_at_call 69; refine (C7.out _ (by exact ⟨rfl, rfl, rfl, Nat.le_refl _, fun _ _ => rfl⟩)).mono ?_; rintro e w5 ⟨rfl, d4, e4, d5, e5, H5⟩))
      all_goals (
        have HG : Hid (Blk (w5.setCell ⟨D, 5, none⟩ (.pointer (some ⟨x.blk, 0, none⟩))) D #[.int .u64 (hiOf cv), .int .u64 (loOf cv), .int .i64 s, .pointer none, .pointer none, .pointer (some ⟨x.blk, 0, none⟩)] 98 ∧ Below w.heap.size w (w5.setCell ⟨D, 5, none⟩ (.pointer (some ⟨x.blk, 0, none⟩))) ∧ Blk (w5.setCell ⟨D, 5, none⟩ (.pointer (some ⟨x.blk, 0, none⟩))) w.heap.size #[.int .u64 (hiOf (valOf W p)), .int .u64 (loOf (valOf W p)), .int .i64 p.length] 51) := ⟨(HF3.out.1.below H5.out).set 5 _, (bst H4.out.2.2 H5.out).setCell (by show _ ≤ D; omega) _, (H4.out.2.1.below H5.out).kept (S := fun k => k = D) ((Kept.refl (fun k => k = D) w5).set (p := ⟨D, 5, none⟩) rfl _) (by show ¬ _ = _; omega)⟩
        have HCZ : Hid (Calls Try.prog 56 #[.pointer (some ⟨q, 0, none⟩), .pointer (some ⟨D, 0, none⟩), Pf (valOf W p) p.length, .pointer (some ⟨t, 0, none⟩)] (w5.setCell ⟨D, 5, none⟩ (.pointer (some ⟨x.blk, 0, none⟩))) fun e w' => ∃ b, e = .returned (.pointer (some ⟨b, 0, none⟩)) ∧ Hid (Put1X X W w w' p v L b)) := CW.out _ D HG.out.2.1 (by omega) HG.out.1
        clear CW C7 x0 x1 z0
        go_upto_region 7 with fail
        generalize w5.setCell _ _ = w6 at HG HCZ ⊢
        have y0 := HG.out.2.2.cell 0 (v := .int .u64 (hiOf (valOf W p))) rfl
        have y1 := HG.out.2.2.cell 1 (v := .int .u64 (loOf (valOf W p))) rfl
        have y2 := HG.out.2.2.cell 2 (v := .int .i64 p.length) rfl
        go_wp2_with fail
        refine HCZ.out.mono ?_
        rintro e w7 ⟨b, rfl, H7⟩
        go_wp2
        go_ret
        exact ⟨_, rfl, H7.out⟩))
theorem with_anyX (X : Nat → Prop) {W : Nat} (h1 : 1 ≤ W) (h2 : W ≤ 128) {p : List Bool} (hp : p.length ≤ W) (q t : Nat) (v : Int) : ∀ (n : Nat) (w : World) (a : Option Nat) (N : List (Nd Int)), Blk w t #[encV v] 3 → w.cell? ⟨q, 0, none⟩ = some (.int .i64 W) → HangI W w n a N → (∀ k, X k → k < w.heap.size) → ¬ X t → Off X N →
    Calls Try.prog 56 #[.pointer (some ⟨q, 0, none⟩), pt a, Pf (valOf W p) p.length, .pointer (some ⟨t, 0, none⟩)] w fun e w' => ∃ b, e = .returned (.pointer (some ⟨b, 0, none⟩)) ∧ Put1X X W w w' p v (kept N) b
  | n, w, none, N, ht, hq, h, hX, hXt, hO => by
    rw [h.of_none]
    exact with_nilX X hp q t v w ht hX hXt
  | 0, w, some b, N, ht, hq, h, hX, hXt, hO => by cases h.1
  | n + 1, w, some b, N, ht, hq, h, hX, hXt, hO => by
    obtain ⟨m, x, a0, a1, N0, N1, e, rfl, rfl, hR, hf⟩ := h.root
    have e' : n = m := by omega
    subst e'
    have hqV : ∀ V, Below w.heap.size w V → V.cell? ⟨q, 0, none⟩ = some (.int .i64 W) := fun V hV => (World.cell?_of_block (hV.block q (World.block_lt_of_cell? w _ hq))).trans hq
    by_cases hx : x.key <+: p
    · exact with_nodeX X h1 h2 hp q t v w ht hq hR hx (fun _ e => (hf e).2) (fun _ e => (hf e).1) (fun _ V hV => with_anyX X h1 h2 hp q t v n V a0 N0 (ht.below hV) (hqV V hV) (hR.h0.below hV) (fun k e => by have := hX k e; have := hV.size; omega) hXt (off_parts hO).2.1) (fun _ V hV => with_anyX X h1 h2 hp q t v n V a1 N1 (ht.below hV) (hqV V hV) (hR.h1.below hV) (fun k e => by have := hX k e; have := hV.size; omega) hXt (off_parts hO).2.2) hX hXt hO
    · exact with_aboveX X h1 h2 hp q t v w ht hq hR hf hx hX hXt hO
end Go.Proofs.Ytgdpplipahhffaa
namespace Go.Proofs.Ytgdpplipahhffaa
open Go.RowKit
set_option linter.unusedVariables false
set_option linter.unusedSimpArgs false

section
variable {w : World} {q W most : Nat} {a : Option Nat} {n : Nat} {N : List (Nd Int)}
set_option maxHeartbeats 2000000 in
theorem put_okX (X : Nat → Prop) (hX : ∀ k, X k → k < w.heap.size) (hO : Off X N) (hT : TrieAt w q W most a n N) {p : List Bool} (hp : p.length ≤ W) (u : Int) (hl : look p (kept N) = none) (hm : (kept N).length < most) :
    Calls Try.prog 24 #[.pointer (some ⟨q, 0, none⟩), Pf (valOf W p) p.length, .int .i64 u] w fun e w' => e = .returned (.int .i64 0) ∧ ∃ a' n' N', TrieAt w' q W most a' n' N' ∧ kept N' = upd p u (kept N) ∧ Kept (fun k => k = q) w w' ∧ Off X N' := by
  have HXX : Hid ((∀ k, X k → k < w.heap.size) ∧ Off X N) := ⟨hX, hO⟩
  clear hX hO
  obtain ⟨h1, h2⟩ := hT.wd
  have C49 : Hid (∀ w1, Calls Try.prog 49 #[Pf (valOf W p) p.length, .int .i64 W] w1 fun e w' => e = .returned (.bool true) ∧ Below w1.heap.size w1 w') := fun w1 => by
    have := isPrefix_any (valOf W p) (val_is h2 hp) p.length W h1 h2 w1
    rw [isP_mk hp] at this; exact this
  have C55 : Hid (∀ w1, Below w.heap.size w w1 → Calls Try.prog 55 #[.pointer (some ⟨q, 0, none⟩), Pf (valOf W p) p.length] w1 fun e w' => e = .returned (thP (thAt p N)) ∧ Hid (Below w1.heap.size w1 w')) := fun w1 h => kept_yes (hT.below h) hp
  have HT : Hid (TrieAt w q W most a n N) := hT
  have HL : Hid ((thAt p N).map (·.2) = look p (kept N)) := thAt_look hT.hang.srtN p
  have HB := two_new' w #[.int .u64 (hiOf (valOf W p)), .int .u64 (loOf (valOf W p)), .int .i64 p.length] #[.int .i64 u] 51 3
  have hlq : q < w.heap.size := hT.hd.lt
  have HQ : Hid (w.cell? ⟨q, 0, none⟩ = some (.int .i64 W)) := hT.hd.cell 0 rfl
  have HP : Hid (p.length ≤ W) := hp
  have ht : thAt p N = none := by
    have := HL.out; rw [hl] at this
    cases h : thAt p N with
    | none => rfl
    | some t => rw [h] at this; cases this
  rw [ht] at C55
  have C55 : Hid (∀ w1, Below w.heap.size w w1 → Calls Try.prog 55 #[.pointer (some ⟨q, 0, none⟩), Pf (valOf W p) p.length] w1 fun e w' => e = .returned (.pointer none) ∧ Hid (Below w1.heap.size w1 w')) := C55
  have hlen : (upd p u (kept N)).length = (kept N).length + 1 := by rw [len_upd hT.hang.srt, hl]; rfl
  have HLN : Hid ((upd p u (kept N)).length = (kept N).length + 1) := hlen
  obtain ⟨A, hA9⟩ : ∃ A : Option Addr, A = a.map fun b => ⟨b, 0, none⟩ := ⟨_, rfl⟩
  have C56 : Hid (∀ w1 t, Below w.heap.size w w1 → Blk w1 t #[.int .i64 u] 3 → ¬ X t → Calls Try.prog 56 #[.pointer (some ⟨q, 0, none⟩), .pointer A, Pf (valOf W p) p.length, .pointer (some ⟨t, 0, none⟩)] w1 fun e w' => ∃ b, e = .returned (.pointer (some ⟨b, 0, none⟩)) ∧ Hid (Put1X X W w1 w' p u (kept N) b)) := fun w1 t hb ht hxt => by
    rw [hA9]
    exact with_anyX X h1 h2 hp q t u n w1 a N ht ((hT.hd.below hb).cell 0 rfl) (hT.hang.below hb) (fun k e => by have := HXX.out.1 k e; have := hb.size; omega) hxt HXX.out.2
  have HH : Hid (Blk w q #[.int .i64 W, .int .i64 most, .int .i64 (kept N).length, .pointer A] 84) := by rw [hA9]; exact hT.hd
  have hmost : most ≤ 4096 := hT.most.2.2
  clear hT hl HL ht hA9 hlen
  generalize hLL : (kept N).length = LL at *
  have HLL : Hid ((kept N).length = LL) := hLL
  clear hLL
  go_enter Try.func24, Try.ntmps24
  go_upto_region 3 with fail
  generalize ((w.alloc _).alloc _) = w0 at HB ⊢
  generalize hA : w.heap.size + 1 = A1 at *
  have lA := HB.out.2.2.2
  have x0 := two_cells HB.out.1 (i := 0) (v := .int .u64 (hiOf (valOf W p))) rfl
  have x1 := two_cells HB.out.1 (i := 1) (v := .int .u64 (loOf (valOf W p))) rfl
  have x2 := two_cells HB.out.1 (i := 2) (v := .int .i64 p.length) rfl
  have z0 : ∀ z : Grown w0, (gw z).cell? ⟨q, 0, none⟩ = some (.int .i64 W) := gw_cell ((World.cell?_of_block (HB.out.2.2.1.block q hlq)).trans HQ.out)
  refine region_grows (by kernel_rfl) (by kernel_rfl) ?_
  repeat (go_big_quiet_step ((go_at_call 49; exact calls_gw (C49.out _))))
  refine wpQuiet_nil ?_
  intro wq hwq
  obtain ⟨zq, rfl⟩ := hwq
  have HC : Hid (Below w.heap.size w (gw zq) ∧ Blk (gw zq) w.heap.size #[.int .u64 (hiOf (valOf W p)), .int .u64 (loOf (valOf W p)), .int .i64 p.length] 51 ∧ Blk (gw zq) A1 #[.int .i64 u] 3) := ⟨bst HB.out.2.2.1 (gw_below zq), HB.out.1.below (gw_below zq), HB.out.2.1.below (gw_below zq)⟩
  clear x0 x1 x2 z0 HB C49
  generalize gw zq = w2 at *
  have y0 := HC.out.2.1.cell 0 (v := .int .u64 (hiOf (valOf W p))) rfl
  have y1 := HC.out.2.1.cell 1 (v := .int .u64 (loOf (valOf W p))) rfl
  have y2 := HC.out.2.1.cell 2 (v := .int .i64 p.length) rfl
  go_wp2_with fail
  refine (C55.out _ HC.out.1).mono ?_
  rintro e w3 ⟨rfl, H3⟩
  clear y0 y1 y2 C55
  have HD : Hid (Below w.heap.size w w3 ∧ Blk w3 w.heap.size #[.int .u64 (hiOf (valOf W p)), .int .u64 (loOf (valOf W p)), .int .i64 p.length] 51 ∧ Blk w3 A1 #[.int .i64 u] 3) := ⟨bst HC.out.1 H3.out, HC.out.2.1.below H3.out, HC.out.2.2.below H3.out⟩
  clear H3 HC
  have g1 : w3.cell? ⟨q, 1, none⟩ = some (.int .i64 most) := (HH.out.below HD.out.1).cell 1 rfl
  have g2 : w3.cell? ⟨q, 2, none⟩ = some (.int .i64 LL) := (HH.out.below HD.out.1).cell 2 rfl
  have t1 : ((LL : Int) == (most : Int)) = false := by rw [beq_eq_false_iff_ne]; omega
  go_upto_region 7 with fail
  go_quiet (fail)
  rename_i nq
  have HE : Hid (Below w.heap.size w (w3.drewN nq) ∧ Blk (w3.drewN nq) w.heap.size #[.int .u64 (hiOf (valOf W p)), .int .u64 (loOf (valOf W p)), .int .i64 p.length] 51 ∧ Blk (w3.drewN nq) A1 #[.int .i64 u] 3) := ⟨below_drewN HD.out.1 nq, HD.out.2.1, HD.out.2.2⟩
  clear g1 g2 HD t1
  generalize w3.drewN nq = w4 at *
  have y0 := HE.out.2.1.cell 0 (v := .int .u64 (hiOf (valOf W p))) rfl
  have y1 := HE.out.2.1.cell 1 (v := .int .u64 (loOf (valOf W p))) rfl
  have y2 := HE.out.2.1.cell 2 (v := .int .i64 p.length) rfl
  have q3 : w4.cell? ⟨q, 3, none⟩ = some (.pointer A) := (HH.out.below HE.out.1).cell 3 rfl
  have CC : Hid (∀ V, Below w4.heap.size w4 V → Calls Try.prog 56 #[.pointer (some ⟨q, 0, none⟩), .pointer A, Pf (valOf W p) p.length, .pointer (some ⟨A1, 0, none⟩)] V fun e w' => ∃ b, e = .returned (.pointer (some ⟨b, 0, none⟩)) ∧ w'.cell? ⟨q, 3, none⟩ = some (.pointer A) ∧ w'.frozen? ⟨q, 3, none⟩ = false ∧ Hid (Blk w' q #[.int .i64 W, .int .i64 most, .int .i64 LL, .pointer A] 84 ∧ Below w.heap.size w w' ∧ ∃ n N', HangI W w' n (some b) N' ∧ kept N' = upd p u (kept N) ∧ Off X N')) := fun V hV => (C56.out V A1 (bst HE.out.1 hV) (HE.out.2.2.below hV) (fun e => by have := HXX.out.1 _ e; omega)).mono (by
    rintro e w' ⟨b, rfl, hP⟩
    have hb := bst (bst HE.out.1 hV) hP.out.2
    have g := HH.out.below hb
    exact ⟨b, rfl, g.cell 3 rfl, g.frozen 3, (⟨g, hb, hP.out.1⟩ : _ ∧ _)⟩)
  clear C56
  go_upto_region 9 with fail
  go_region_with ((go_at_call 56; refine (CC.out _ (by exact ⟨rfl, rfl, rfl, Nat.le_refl _, fun _ _ => rfl⟩)).mono ?_; rintro e w5 ⟨b, rfl, d3, e3, H5⟩))
  all_goals (
    have hks : Kept (fun k => k = q) w5 ((w5.setCell ⟨q, 3, none⟩ (.pointer (some ⟨b, 0, none⟩))).setCell ⟨q, 2, none⟩ (.int .i64 ((LL : Int) + 1))) := ((Kept.refl (fun k => k = q) w5).set (p := ⟨q, 3, none⟩) rfl _).set (p := ⟨q, 2, none⟩) rfl _
    have HF : Hid (∃ a' n' N', TrieAt ((w5.setCell ⟨q, 3, none⟩ (.pointer (some ⟨b, 0, none⟩))).setCell ⟨q, 2, none⟩ (.int .i64 ((LL : Int) + 1))) q W most a' n' N' ∧ kept N' = upd p u (kept N) ∧ Kept (fun k => k = q) w ((w5.setCell ⟨q, 3, none⟩ (.pointer (some ⟨b, 0, none⟩))).setCell ⟨q, 2, none⟩ (.int .i64 ((LL : Int) + 1))) ∧ Off X N') := by
      obtain ⟨g1, g2, n', N', g3, g4, gX⟩ := H5.out
      have hl2 : (kept N').length = LL + 1 := by rw [g4]; exact HLN.out
      refine ⟨some b, n', N', HT.out.over ?_ (g3.keptW hks (g3.off_head g1)) (by omega), g4, (Kept.of_below g2).trans hks, gX⟩
      rw [hl2]
      exact (g1.set 3 _).set 2 _
    have HG : Hid (Blk (w5.setCell ⟨q, 3, none⟩ (.pointer (some ⟨b, 0, none⟩))) q #[.int .i64 W, .int .i64 most, .int .i64 LL, .pointer (some ⟨b, 0, none⟩)] 84) := H5.out.1.set 3 _
    clear H5 hks CC y0 y1 y2 q3 d3 e3
    go_upto_region 10 with fail
    generalize w5.setCell _ _ = w6 at HF HG ⊢
    have c2 := HG.out.cell 2 (v := .int .i64 LL) rfl
    have f2 := HG.out.frozen 2
    go_wp2
    go_ret
    exact ⟨rfl, HF.out⟩)
end
end Go.Proofs.Ytgdpplipahhffaa
namespace Go.Proofs.Ytgdpplipahhffaa
open Go.RowKit
set_option linter.unusedVariables false
set_option linter.unusedSimpArgs false

section
variable {w : World} {q W most : Nat} {a : Option Nat} {n : Nat} {N : List (Nd Int)}
set_option maxHeartbeats 2000000 in
theorem set_okX (X : Nat → Prop) (hX : ∀ k, X k → k < w.heap.size) (hO : Off X N) (hT : TrieAt w q W most a n N) {p : List Bool} (hp : p.length ≤ W) (u : Int) (hl : look p (kept N) ≠ none) :
    Calls Try.prog 38 #[.pointer (some ⟨q, 0, none⟩), Pf (valOf W p) p.length, .int .i64 u] w fun e w' => e = .returned (.int .i64 0) ∧ ∃ a' n' N', TrieAt w' q W most a' n' N' ∧ kept N' = upd p u (kept N) ∧ Kept (fun k => k = q) w w' ∧ Off X N' := by
  have HXX : Hid ((∀ k, X k → k < w.heap.size) ∧ Off X N) := ⟨hX, hO⟩
  clear hX hO
  obtain ⟨h1, h2⟩ := hT.wd
  have C49 : Hid (∀ w1, Calls Try.prog 49 #[Pf (valOf W p) p.length, .int .i64 W] w1 fun e w' => e = .returned (.bool true) ∧ Below w1.heap.size w1 w') := fun w1 => by
    have := isPrefix_any (valOf W p) (val_is h2 hp) p.length W h1 h2 w1
    rw [isP_mk hp] at this; exact this
  have C55 : Hid (∀ w1, Below w.heap.size w w1 → Calls Try.prog 55 #[.pointer (some ⟨q, 0, none⟩), Pf (valOf W p) p.length] w1 fun e w' => e = .returned (thP (thAt p N)) ∧ Hid (Below w1.heap.size w1 w')) := fun w1 h => kept_yes (hT.below h) hp
  have HT : Hid (TrieAt w q W most a n N) := hT
  have HL : Hid ((thAt p N).map (·.2) = look p (kept N)) := thAt_look hT.hang.srtN p
  have HB := two_new' w #[.int .u64 (hiOf (valOf W p)), .int .u64 (loOf (valOf W p)), .int .i64 p.length] #[.int .i64 u] 51 3
  have hlq : q < w.heap.size := hT.hd.lt
  have HQ : Hid (w.cell? ⟨q, 0, none⟩ = some (.int .i64 W)) := hT.hd.cell 0 rfl
  have HP : Hid (p.length ≤ W) := hp
  have hlen : (upd p u (kept N)).length = (kept N).length := by
    rw [len_upd hT.hang.srt]
    cases e : look p (kept N) with
    | none => exact absurd e hl
    | some x => rfl
  have HLN : Hid ((upd p u (kept N)).length = (kept N).length) := hlen
  obtain ⟨A, hA9⟩ : ∃ A : Option Addr, A = a.map fun b => ⟨b, 0, none⟩ := ⟨_, rfl⟩
  have C56 : Hid (∀ w1 t, Below w.heap.size w w1 → Blk w1 t #[.int .i64 u] 3 → ¬ X t → Calls Try.prog 56 #[.pointer (some ⟨q, 0, none⟩), .pointer A, Pf (valOf W p) p.length, .pointer (some ⟨t, 0, none⟩)] w1 fun e w' => ∃ b, e = .returned (.pointer (some ⟨b, 0, none⟩)) ∧ Hid (Put1X X W w1 w' p u (kept N) b)) := fun w1 t hb ht hxt => by
    rw [hA9]
    exact with_anyX X h1 h2 hp q t u n w1 a N ht ((hT.hd.below hb).cell 0 rfl) (hT.hang.below hb) (fun k e => by have := HXX.out.1 k e; have := hb.size; omega) hxt HXX.out.2
  have HH : Hid (Blk w q #[.int .i64 W, .int .i64 most, .int .i64 (kept N).length, .pointer A] 84) := by rw [hA9]; exact hT.hd
  have hmost : (kept N).length ≤ most := hT.most.1
  obtain ⟨r, hr⟩ : ∃ r, r = thAt p N := ⟨_, rfl⟩
  rw [← hr] at C55 HL
  cases r with
  | none => have := HL.out; rw [← this] at hl; exact absurd rfl hl
  | some t =>
  obtain ⟨t, v⟩ := t
  have C55 : Hid (∀ w1, Below w.heap.size w w1 → Calls Try.prog 55 #[.pointer (some ⟨q, 0, none⟩), Pf (valOf W p) p.length] w1 fun e w' => e = .returned (.pointer (some ⟨t, 0, none⟩)) ∧ Hid (Below w1.heap.size w1 w')) := C55
  clear hT hl HL hr hA9 hlen
  generalize hLL : (kept N).length = LL at *
  have HLL : Hid ((kept N).length = LL) := hLL
  clear hLL
  go_enter Try.func38, Try.ntmps38
  go_upto_region 3 with fail
  generalize ((w.alloc _).alloc _) = w0 at HB ⊢
  generalize hA : w.heap.size + 1 = A1 at *
  have lA := HB.out.2.2.2
  have x0 := two_cells HB.out.1 (i := 0) (v := .int .u64 (hiOf (valOf W p))) rfl
  have x1 := two_cells HB.out.1 (i := 1) (v := .int .u64 (loOf (valOf W p))) rfl
  have x2 := two_cells HB.out.1 (i := 2) (v := .int .i64 p.length) rfl
  have z0 : ∀ z : Grown w0, (gw z).cell? ⟨q, 0, none⟩ = some (.int .i64 W) := gw_cell ((World.cell?_of_block (HB.out.2.2.1.block q hlq)).trans HQ.out)
  refine region_grows (by kernel_rfl) (by kernel_rfl) ?_
  repeat (go_big_quiet_step ((go_at_call 49; exact calls_gw (C49.out _))))
  refine wpQuiet_nil ?_
  intro wq hwq
  obtain ⟨zq, rfl⟩ := hwq
  have HC : Hid (Below w.heap.size w (gw zq) ∧ Blk (gw zq) w.heap.size #[.int .u64 (hiOf (valOf W p)), .int .u64 (loOf (valOf W p)), .int .i64 p.length] 51 ∧ Blk (gw zq) A1 #[.int .i64 u] 3) := ⟨bst HB.out.2.2.1 (gw_below zq), HB.out.1.below (gw_below zq), HB.out.2.1.below (gw_below zq)⟩
  clear x0 x1 x2 z0 HB C49
  generalize gw zq = w2 at *
  have y0 := HC.out.2.1.cell 0 (v := .int .u64 (hiOf (valOf W p))) rfl
  have y1 := HC.out.2.1.cell 1 (v := .int .u64 (loOf (valOf W p))) rfl
  have y2 := HC.out.2.1.cell 2 (v := .int .i64 p.length) rfl
  go_wp2_with fail
  refine (C55.out _ HC.out.1).mono ?_
  rintro e w3 ⟨rfl, H3⟩
  clear y0 y1 y2 C55
  have HD : Hid (Below w.heap.size w w3 ∧ Blk w3 w.heap.size #[.int .u64 (hiOf (valOf W p)), .int .u64 (loOf (valOf W p)), .int .i64 p.length] 51 ∧ Blk w3 A1 #[.int .i64 u] 3) := ⟨bst HC.out.1 H3.out, HC.out.2.1.below H3.out, HC.out.2.2.below H3.out⟩
  clear H3 HC
  have HE : Hid (Below w.heap.size w w3 ∧ Blk w3 w.heap.size #[.int .u64 (hiOf (valOf W p)), .int .u64 (loOf (valOf W p)), .int .i64 p.length] 51 ∧ Blk w3 A1 #[.int .i64 u] 3) := HD.out
  clear HD
  go_upto_region 7 with fail
  generalize w3 = w4 at *
  have y0 := HE.out.2.1.cell 0 (v := .int .u64 (hiOf (valOf W p))) rfl
  have y1 := HE.out.2.1.cell 1 (v := .int .u64 (loOf (valOf W p))) rfl
  have y2 := HE.out.2.1.cell 2 (v := .int .i64 p.length) rfl
  have q3 : w4.cell? ⟨q, 3, none⟩ = some (.pointer A) := (HH.out.below HE.out.1).cell 3 rfl
  have CC : Hid (∀ V, Below w4.heap.size w4 V → Calls Try.prog 56 #[.pointer (some ⟨q, 0, none⟩), .pointer A, Pf (valOf W p) p.length, .pointer (some ⟨A1, 0, none⟩)] V fun e w' => ∃ b, e = .returned (.pointer (some ⟨b, 0, none⟩)) ∧ w'.cell? ⟨q, 3, none⟩ = some (.pointer A) ∧ w'.frozen? ⟨q, 3, none⟩ = false ∧ Hid (Blk w' q #[.int .i64 W, .int .i64 most, .int .i64 LL, .pointer A] 84 ∧ Below w.heap.size w w' ∧ ∃ n N', HangI W w' n (some b) N' ∧ kept N' = upd p u (kept N) ∧ Off X N')) := fun V hV => (C56.out V A1 (bst HE.out.1 hV) (HE.out.2.2.below hV) (fun e => by have := HXX.out.1 _ e; omega)).mono (by
    rintro e w' ⟨b, rfl, hP⟩
    have hb := bst (bst HE.out.1 hV) hP.out.2
    have g := HH.out.below hb
    exact ⟨b, rfl, g.cell 3 rfl, g.frozen 3, (⟨g, hb, hP.out.1⟩ : _ ∧ _)⟩)
  clear C56
  skip
  go_region_with ((go_at_call 56; refine (CC.out _ (by exact ⟨rfl, rfl, rfl, Nat.le_refl _, fun _ _ => rfl⟩)).mono ?_; rintro e w5 ⟨b, rfl, d3, e3, H5⟩))
  all_goals (
    have hks : Kept (fun k => k = q) w5 (w5.setCell ⟨q, 3, none⟩ (.pointer (some ⟨b, 0, none⟩))) := (Kept.refl (fun k => k = q) w5).set (p := ⟨q, 3, none⟩) rfl _
    have HF : Hid (∃ a' n' N', TrieAt (w5.setCell ⟨q, 3, none⟩ (.pointer (some ⟨b, 0, none⟩))) q W most a' n' N' ∧ kept N' = upd p u (kept N) ∧ Kept (fun k => k = q) w (w5.setCell ⟨q, 3, none⟩ (.pointer (some ⟨b, 0, none⟩))) ∧ Off X N') := by
      obtain ⟨g1, g2, n', N', g3, g4, gX⟩ := H5.out
      have hl2 : (kept N').length = LL := by rw [g4]; exact HLN.out
      refine ⟨some b, n', N', HT.out.over ?_ (g3.keptW hks (g3.off_head g1)) (by rw [hl2]; exact hmost), g4, (Kept.of_below g2).trans hks, gX⟩
      rw [hl2]
      exact g1.set 3 _
    clear H5 hks CC y0 y1 y2 q3 d3 e3
    go_wp2
    go_ret
    exact ⟨rfl, HF.out⟩)
end
end Go.Proofs.Ytgdpplipahhffaa
namespace Go.Proofs.Ytgdpplipahhffaa
open Go.RowKit
set_option linter.unusedVariables false
set_option linter.unusedSimpArgs false

set_option maxHeartbeats 2000000 in
theorem without_nodeX (X : Nat → Prop) {W : Nat} (h1 : 1 ≤ W) (h2 : W ≤ 128) {p : List Bool} (hp : p.length ≤ W) (q : Nat) (w : World) (hq : w.cell? ⟨q, 0, none⟩ = some (.int .i64 W))
    {n : Nat} {x : Nd Int} {a0 a1 : Option Nat} {N0 N1 : List (Nd Int)} (hR : RootI W w n x a0 a1 N0 N1) (hx : x.key <+: p)
    (hC0 : x.key ++ [false] <+: p → ∀ V, Below w.heap.size w V → Calls Try.prog 63 #[.pointer (some ⟨q, 0, none⟩), pt a0, Pf (valOf W p) p.length] V fun e w' => ∃ b, e = .returned (pt b) ∧ Del1X X W V w' p (kept N0) b)
    (hC1 : x.key ++ [true] <+: p → ∀ V, Below w.heap.size w V → Calls Try.prog 63 #[.pointer (some ⟨q, 0, none⟩), pt a1, Pf (valOf W p) p.length] V fun e w' => ∃ b, e = .returned (pt b) ∧ Del1X X W V w' p (kept N1) b) (hX : ∀ k, X k → k < w.heap.size) (hO : Off X (x :: (N0 ++ N1))) :
    Calls Try.prog 63 #[.pointer (some ⟨q, 0, none⟩), .pointer (some ⟨x.blk, 0, none⟩), Pf (valOf W p) p.length] w fun e w' => ∃ b, e = .returned (pt b) ∧ Del1X X W w w' p (kept (x :: (N0 ++ N1))) b := by
  have HXX : Hid ((∀ k, X k → k < w.heap.size) ∧ Off X (x :: (N0 ++ N1))) := ⟨hX, hO⟩
  clear hX hO
  have HR : Hid (RootI W w n x a0 a1 N0 N1) := hR
  have HX : Hid (x.key <+: p) := hx
  have hl := hR.node.len
  have HB : Hid _ := one_new w #[.int .u64 (hiOf (valOf W p)), .int .u64 (loOf (valOf W p)), .int .i64 p.length] 51
  have hlq : q < w.heap.size := World.block_lt_of_cell? w _ hq
  have HQ : Hid (w.cell? ⟨q, 0, none⟩ = some (.int .i64 W)) := hq
  have HE : Hid (x.key = p ↔ valOf W x.key = valOf W p ∧ x.key.length = p.length) := ⟨fun e => by rw [e]; exact ⟨rfl, rfl⟩, fun e => val_inj hl hp e.2 e.1⟩
  obtain ⟨A3, hA3⟩ : ∃ A : Option Addr, A = (x.th.map (·.1)).map fun b => ⟨b, 0, none⟩ := ⟨_, rfl⟩
  obtain ⟨A4, hA4⟩ : ∃ A : Option Addr, A = a0.map fun b => ⟨b, 0, none⟩ := ⟨_, rfl⟩
  obtain ⟨A5, hA5⟩ : ∃ A : Option Addr, A = a1.map fun b => ⟨b, 0, none⟩ := ⟨_, rfl⟩
  have HA : Hid (A3 = ((x.th.map (·.1)).map fun b => (⟨b, 0, none⟩ : Addr)) ∧ A4 = (a0.map fun b => (⟨b, 0, none⟩ : Addr)) ∧ A5 = (a1.map fun b => (⟨b, 0, none⟩ : Addr))) := ⟨hA3, hA4, hA5⟩
  have HD0 : Hid (x.key ++ [false] <+: p → ∀ V, Below w.heap.size w V → Calls Try.prog 63 #[.pointer (some ⟨q, 0, none⟩), .pointer A4, Pf (valOf W p) p.length] V fun e w' => ∃ b, e = .returned (pt b) ∧ Hid (Del1X X W V w' p (kept N0) b)) := by rw [hA4]; exact hC0
  have HD1 : Hid (x.key ++ [true] <+: p → ∀ V, Below w.heap.size w V → Calls Try.prog 63 #[.pointer (some ⟨q, 0, none⟩), .pointer A5, Pf (valOf W p) p.length] V fun e w' => ∃ b, e = .returned (pt b) ∧ Hid (Del1X X W V w' p (kept N1) b)) := by rw [hA5]; exact hC1
  have xb0 : Blk w x.blk #[.int .u64 (hiOf (valOf W x.key)), .int .u64 (loOf (valOf W x.key)), .int .i64 x.key.length, .pointer A3, .pointer A4, .pointer A5] 98 := by rw [hA3, hA4, hA5]; exact hR.node.cells
  have HXB : Hid (Blk w x.blk #[.int .u64 (hiOf (valOf W x.key)), .int .u64 (loOf (valOf W x.key)), .int .i64 x.key.length, .pointer A3, .pointer A4, .pointer A5] 98) := xb0
  have C69 : Hid (∀ i : Bool, x.key ++ [i] <+: p → ∀ w1, Calls Try.prog 69 #[B (valOf W p), .int .i64 W, .int .i64 x.key.length] w1 fun e w' => e = .returned (.int .i64 (if i then 1 else 0)) ∧ Below w1.heap.size w1 w') := fun i hi w1 => by
    have h := side_any h1 h2 hp x.key.length w1
    have hb : p[x.key.length]? = some i := by obtain ⟨s, rfl⟩ := hi; simp
    rw [sideN, hb] at h
    cases i <;> exact h
  clear hx hC0 hC1 hq hR hA3 hA4 hA5 xb0
  have hlx := HXB.out.lt
  have x0 := HXB.out.cell 0 (v := .int .u64 (hiOf (valOf W x.key))) rfl
  have x1 := HXB.out.cell 1 (v := .int .u64 (loOf (valOf W x.key))) rfl
  have x2 := HXB.out.cell 2 (v := .int .i64 x.key.length) rfl
  have x3 := HXB.out.cell 3 (v := .pointer A3) rfl
  have x4 := HXB.out.cell 4 (v := .pointer A4) rfl
  have x5 := HXB.out.cell 5 (v := .pointer A5) rfl
  have HC : Hid (Blk ((w.alloc (.cells #[.int .u64 (hiOf (valOf W p)), .int .u64 (loOf (valOf W p)), .int .i64 p.length] 51)).alloc (.cells #[.int .u64 (hiOf (valOf W x.key)), .int .u64 (loOf (valOf W x.key)), .int .i64 x.key.length, .pointer A3, .pointer A4, .pointer A5] 98)) w.heap.size #[.int .u64 (hiOf (valOf W p)), .int .u64 (loOf (valOf W p)), .int .i64 p.length] 51 ∧ Blk ((w.alloc (.cells #[.int .u64 (hiOf (valOf W p)), .int .u64 (loOf (valOf W p)), .int .i64 p.length] 51)).alloc (.cells #[.int .u64 (hiOf (valOf W x.key)), .int .u64 (loOf (valOf W x.key)), .int .i64 x.key.length, .pointer A3, .pointer A4, .pointer A5] 98)) (w.heap.size + 1) #[.int .u64 (hiOf (valOf W x.key)), .int .u64 (loOf (valOf W x.key)), .int .i64 x.key.length, .pointer A3, .pointer A4, .pointer A5] 98 ∧ Below w.heap.size w ((w.alloc (.cells #[.int .u64 (hiOf (valOf W p)), .int .u64 (loOf (valOf W p)), .int .i64 p.length] 51)).alloc (.cells #[.int .u64 (hiOf (valOf W x.key)), .int .u64 (loOf (valOf W x.key)), .int .i64 x.key.length, .pointer A3, .pointer A4, .pointer A5] 98)) ∧ _) := two_new w _ _ _ _
  go_enter Try.func63, Try.ntmps63
  go_upto_region 2 with fail
  generalize ((w.alloc _).alloc _) = w2 at HC ⊢
  generalize hCC : w.heap.size + 1 = C at *
  have hz0 := HC.out.2.2.2
  clear x0 x1 x2 x3 x4 x5 HB
  have x0 : w2.cell? ⟨x.blk, 0, none⟩ = some (.int .u64 (hiOf (valOf W x.key))) := (HXB.out.below HC.out.2.2.1).cell 0 rfl
  have x1 : w2.cell? ⟨x.blk, 1, none⟩ = some (.int .u64 (loOf (valOf W x.key))) := (HXB.out.below HC.out.2.2.1).cell 1 rfl
  have x2 : w2.cell? ⟨x.blk, 2, none⟩ = some (.int .i64 x.key.length) := (HXB.out.below HC.out.2.2.1).cell 2 rfl
  have y0 : w2.cell? ⟨w.heap.size, 0, none⟩ = some (.int .u64 (hiOf (valOf W p))) := HC.out.1.cell 0 rfl
  have y1 : w2.cell? ⟨w.heap.size, 1, none⟩ = some (.int .u64 (loOf (valOf W p))) := HC.out.1.cell 1 rfl
  have y2 : w2.cell? ⟨w.heap.size, 2, none⟩ = some (.int .i64 p.length) := HC.out.1.cell 2 rfl
  by_cases hk : x.key = p
  · obtain ⟨e1, e2⟩ := HE.out.1 hk
    have EQ : ∀ w, (binOp .eql 51 (Pf (valOf W x.key) x.key.length) (Pf (valOf W p) p.length)).run Try.prog w = .ok (.bool true) w := fun w => by
      rw [eq51, decide_eq_true e1, show ((x.key.length : Int) == (p.length : Int)) = true by rw [beq_iff_eq]; omega]; rfl
    have HK : Hid (x.key = p) := hk
    clear e1 e2 hk
    go_quiet (fail)
    rename_i nq
    have HC3 : Hid (Blk (w2.drewN nq) C #[.int .u64 (hiOf (valOf W x.key)), .int .u64 (loOf (valOf W x.key)), .int .i64 x.key.length, .pointer A3, .pointer A4, .pointer A5] 98 ∧ Below w.heap.size w (w2.drewN nq)) := ⟨HC.out.2.1, below_drewN HC.out.2.2.1 nq⟩
    generalize w2.drewN nq = w3 at HC3 ⊢
    have c3 := HC3.out.1.cell 3 (v := .pointer A3) rfl
    have f3 := HC3.out.1.frozen 3
    have CI : Hid (Calls Try.prog 81 #[.pointer (some ⟨C, 0, none⟩)] (w3.setCell ⟨C, 3, none⟩ (.pointer none)) fun e w' => e = .returned (.pointer (idleA none A4 A5 C)) ∧ w' = w3.setCell ⟨C, 3, none⟩ (.pointer none)) := idle_any C _ _ _ none A4 A5 _ (HC3.out.1.set 3 (.pointer none))
    have HF : Hid (∃ b, idleA none A4 A5 C = (b.map fun b => ⟨b, 0, none⟩) ∧ Del1X X W w (w3.setCell ⟨C, 3, none⟩ (.pointer none)) p (kept (x :: (N0 ++ N1))) b) := by
      have g2 := HC3.out.1.set 3 (.pointer none)
      have g3 : Below w.heap.size w (w3.setCell ⟨C, 3, none⟩ (.pointer none)) := HC3.out.2.setCell (by show _ ≤ C; omega) _
      have e := HK.out
      subst e
      obtain ⟨a3, a4, a5⟩ := HA.out
      refine ⟨idleR false a0 a1 C, by rw [a4, a5]; exact idleA_is none a0 a1 C, HR.out.delOwnX g3 ?_ HXX.out.2 (fun e => by have := HXX.out.1 _ e; omega)⟩
      rw [a4, a5] at g2
      exact g2
    clear C69 HD0 HD1
    go_wp2_with fail
    refine CI.out.mono ?_
    rintro e w4 ⟨rfl, rfl⟩
    obtain ⟨b, hb, hF⟩ := HF.out
    rw [hb]
    have HF2 : Hid (Del1X X W w (w3.setCell ⟨C, 3, none⟩ (.pointer none)) p (kept (x :: (N0 ++ N1))) b) := hF
    clear hF hb HF CI
    go_wp2
    go_ret
    exact ⟨b, rfl, HF2.out⟩
  · have EQ : ∀ w, (binOp .eql 51 (Pf (valOf W x.key) x.key.length) (Pf (valOf W p) p.length)).run Try.prog w = .ok (.bool false) w := fun w => by
      rw [eq51]
      have : ¬ (valOf W x.key = valOf W p ∧ x.key.length = p.length) := fun e => hk (HE.out.2 e)
      by_cases e1 : valOf W x.key = valOf W p
      · have e2 : ((x.key.length : Int) == (p.length : Int)) = false := by rw [beq_eq_false_iff_ne]; intro e; exact this ⟨e1, by omega⟩
        rw [e2, Bool.and_false]
      · rw [decide_eq_false e1, Bool.false_and]
    obtain ⟨i, hi, _⟩ := pre_next HX.out hk
    clear hk
    go_quiet (fail)
    rename_i nq
    have HC3 : Hid (Blk (w2.drewN nq) C #[.int .u64 (hiOf (valOf W x.key)), .int .u64 (loOf (valOf W x.key)), .int .i64 x.key.length, .pointer A3, .pointer A4, .pointer A5] 98 ∧ Below w2.heap.size w2 (w2.drewN nq)) := ⟨HC.out.2.1, below_drewN (Below.refl _ _) nq⟩
    generalize w2.drewN nq = w3 at HC3 ⊢
    clear x0 x1 x2 y0 y1 y2
    have C69i : Hid (∀ w1, Calls Try.prog 69 #[B (valOf W p), .int .i64 W, .int .i64 x.key.length] w1 fun e w' => e = .returned (.int .i64 (if i then 1 else 0)) ∧ Below w1.heap.size w1 w') := C69.out i hi
    have HI : Hid (x.key ++ [i] <+: p) := hi
    clear C69 hi
    have hbz : Hid (Below w.heap.size w w3) := bst HC.out.2.2.1 HC3.out.2
    have xb3 : Blk w3 x.blk _ 98 := HXB.out.below hbz.out
    have x0 := two_cells xb3 (i := 0) (v := .int .u64 (hiOf (valOf W x.key))) rfl
    have x1 := two_cells xb3 (i := 1) (v := .int .u64 (loOf (valOf W x.key))) rfl
    have x2 := two_cells xb3 (i := 2) (v := .int .i64 x.key.length) rfl
    have yb3 : Blk w3 w.heap.size _ 51 := HC.out.1.below HC3.out.2
    have y0 := two_cells yb3 (i := 0) (v := .int .u64 (hiOf (valOf W p))) rfl
    have y1 := two_cells yb3 (i := 1) (v := .int .u64 (loOf (valOf W p))) rfl
    have z0 : ∀ z : Grown w3, (gw z).cell? ⟨q, 0, none⟩ = some (.int .i64 W) := gw_cell ((World.cell?_of_block (hbz.out.block q hlq)).trans HQ.out)
    clear xb3 yb3
    go_upto_region 4 with fail
    refine region_grows (by kernel_rfl) (by kernel_rfl) ?_
    repeat (go_big_quiet_step ((go_at_call 69; exact calls_gw (C69i.out _))))
    refine wpQuiet_nil ?_
    intro wq hwq
    obtain ⟨zq2, rfl⟩ := hwq
    have HC4 : Hid (Blk (gw zq2) C #[.int .u64 (hiOf (valOf W x.key)), .int .u64 (loOf (valOf W x.key)), .int .i64 x.key.length, .pointer A3, .pointer A4, .pointer A5] 98 ∧ Below w.heap.size w (gw zq2)) := ⟨HC3.out.1.below (gw_below zq2), bst hbz.out (gw_below zq2)⟩
    have yc : Blk (gw zq2) w.heap.size #[.int .u64 (hiOf (valOf W p)), .int .u64 (loOf (valOf W p)), .int .i64 p.length] 51 := (HC.out.1.below HC3.out.2).below (gw_below zq2)
    have HY : Hid (Blk (gw zq2) w.heap.size #[.int .u64 (hiOf (valOf W p)), .int .u64 (loOf (valOf W p)), .int .i64 p.length] 51) := yc
    clear x0 x1 x2 y0 y1 z0 yc HC3 C69i
    generalize gw zq2 = w5 at *
    have c4 := HC4.out.1.cell 4 (v := .pointer A4) rfl
    have c5 := HC4.out.1.cell 5 (v := .pointer A5) rfl
    have f4 := HC4.out.1.frozen 4
    have f5 := HC4.out.1.frozen 5
    have xb5 : Blk w5 x.blk _ 98 := HXB.out.below HC4.out.2
    have x4 := xb5.cell 4 (v := .pointer A4) rfl
    have x5 := xb5.cell 5 (v := .pointer A5) rfl
    have y0 := HY.out.cell 0 (v := .int .u64 (hiOf (valOf W p))) rfl
    have y1 := HY.out.cell 1 (v := .int .u64 (loOf (valOf W p))) rfl
    have y2 := HY.out.cell 2 (v := .int .i64 p.length) rfl
    have HZ := HC4.out.2.size
    clear xb5 HY
    cases i with
    | false =>
      have CC : Hid (∀ V, Below w5.heap.size w5 V → Calls Try.prog 63 #[.pointer (some ⟨q, 0, none⟩), .pointer A4, Pf (valOf W p) p.length] V fun e w' => ∃ B, e = .returned (.pointer B) ∧ w'.cell? ⟨C, 4, none⟩ = some (.pointer A4) ∧ w'.frozen? ⟨C, 4, none⟩ = false ∧ Hid (Blk w' C #[.int .u64 (hiOf (valOf W x.key)), .int .u64 (loOf (valOf W x.key)), .int .i64 x.key.length, .pointer A3, .pointer A4, .pointer A5] 98 ∧ ∃ r, idleA A3 B A5 C = (r.map fun b => (⟨b, 0, none⟩ : Addr)) ∧ Del1X X W w (w'.setCell ⟨C, 4, none⟩ (.pointer B)) p (kept (x :: (N0 ++ N1))) r)) := fun V hV => (HD0.out HI.out V (bst HC4.out.2 hV)).mono (by
        rintro e w' ⟨b, rfl, hP⟩
        obtain ⟨⟨m, M, hM, hk, hMX⟩, hb⟩ := hP.out
        have g1 : Blk w' C _ 98 := (HC4.out.1.below hV).below hb
        have g2 := g1.set 4 (pt b)
        have hpre : ∀ y ∈ kept M, x.key ++ [false] <+: y.1 := by rw [hk]; exact del_pre fun y hy => HR.out.lt0 hy
        have hoff := hM.off_key (by decide) hpre HR.out.node.len g1
        have hks : Kept (fun k => k = C) w' (w'.setCell ⟨C, 4, none⟩ (pt b)) := (Kept.refl (fun k => k = C) w').set (p := ⟨C, 4, none⟩) rfl _
        have hbw : Below w.heap.size w (w'.setCell ⟨C, 4, none⟩ (pt b)) := (bst (bst HC4.out.2 hV) hb).setCell (by show _ ≤ C; omega) _
        obtain ⟨a3, a4, a5⟩ := HA.out
        have g3 : Blk (w'.setCell ⟨C, 4, none⟩ (pt b)) C (nodeC W x b a1) 98 := by rw [a3, a5] at g2; exact g2
        refine ⟨_, rfl, g1.cell 4 rfl, g1.frozen 4, (⟨g1, idleR x.th.isSome b a1 C, ?_, HR.out.delSide0X HI.out ⟨m, M, hM.keptW hks hoff, hk, hMX⟩ hbw g3 HXX.out.2 (fun e => by have := HXX.out.1 _ e; omega)⟩ : _ ∧ _)⟩
        rw [a3, a5, idleA_is]
        cases x.th <;> rfl)
      clear HD0 HD1
      go_upto_region 5 with fail
      go_region_with ((go_at_call 63; refine (CC.out _ (by exact ⟨rfl, rfl, rfl, Nat.le_refl _, fun _ _ => rfl⟩)).mono ?_; rintro e w7 ⟨B, rfl, d4, e4, H7⟩))
      all_goals (
        have CI : Hid (Calls Try.prog 81 #[.pointer (some ⟨C, 0, none⟩)] (w7.setCell ⟨C, 4, none⟩ (.pointer B)) fun e w' => e = .returned (.pointer (idleA A3 B A5 C)) ∧ w' = w7.setCell ⟨C, 4, none⟩ (.pointer B)) := idle_any C _ _ _ A3 B A5 _ (H7.out.1.set 4 (.pointer B))
        obtain ⟨r, hr, hF⟩ := H7.out.2
        rw [hr] at CI
        have HF2 : Hid (Del1X X W w (w7.setCell ⟨C, 4, none⟩ (.pointer B)) p (kept (x :: (N0 ++ N1))) r) := hF
        clear hF H7 CC
        go_wp2_with fail
        refine CI.out.mono ?_
        rintro e w8 ⟨rfl, rfl⟩
        go_wp2
        go_ret
        exact ⟨r, rfl, HF2.out⟩)
    | true =>
      have CC : Hid (∀ V, Below w5.heap.size w5 V → Calls Try.prog 63 #[.pointer (some ⟨q, 0, none⟩), .pointer A5, Pf (valOf W p) p.length] V fun e w' => ∃ B, e = .returned (.pointer B) ∧ w'.cell? ⟨C, 5, none⟩ = some (.pointer A5) ∧ w'.frozen? ⟨C, 5, none⟩ = false ∧ Hid (Blk w' C #[.int .u64 (hiOf (valOf W x.key)), .int .u64 (loOf (valOf W x.key)), .int .i64 x.key.length, .pointer A3, .pointer A4, .pointer A5] 98 ∧ ∃ r, idleA A3 A4 B C = (r.map fun b => (⟨b, 0, none⟩ : Addr)) ∧ Del1X X W w (w'.setCell ⟨C, 5, none⟩ (.pointer B)) p (kept (x :: (N0 ++ N1))) r)) := fun V hV => (HD1.out HI.out V (bst HC4.out.2 hV)).mono (by
        rintro e w' ⟨b, rfl, hP⟩
        obtain ⟨⟨m, M, hM, hk, hMX⟩, hb⟩ := hP.out
        have g1 : Blk w' C _ 98 := (HC4.out.1.below hV).below hb
        have g2 := g1.set 5 (pt b)
        have hpre : ∀ y ∈ kept M, x.key ++ [true] <+: y.1 := by rw [hk]; exact del_pre fun y hy => HR.out.lt1 hy
        have hoff := hM.off_key (by decide) hpre HR.out.node.len g1
        have hks : Kept (fun k => k = C) w' (w'.setCell ⟨C, 5, none⟩ (pt b)) := (Kept.refl (fun k => k = C) w').set (p := ⟨C, 5, none⟩) rfl _
        have hbw : Below w.heap.size w (w'.setCell ⟨C, 5, none⟩ (pt b)) := (bst (bst HC4.out.2 hV) hb).setCell (by show _ ≤ C; omega) _
        obtain ⟨a3, a4, a5⟩ := HA.out
        have g3 : Blk (w'.setCell ⟨C, 5, none⟩ (pt b)) C (nodeC W x a0 b) 98 := by rw [a3, a4] at g2; exact g2
        refine ⟨_, rfl, g1.cell 5 rfl, g1.frozen 5, (⟨g1, idleR x.th.isSome a0 b C, ?_, HR.out.delSide1X HI.out ⟨m, M, hM.keptW hks hoff, hk, hMX⟩ hbw g3 HXX.out.2 (fun e => by have := HXX.out.1 _ e; omega)⟩ : _ ∧ _)⟩
        rw [a3, a4, idleA_is]
        cases x.th <;> rfl)
      clear HD0 HD1
      go_upto_region 5 with fail
      go_region_with ((go_at_call 63; refine (CC.out _ (by exact ⟨rfl, rfl, rfl, Nat.le_refl _, fun _ _ => rfl⟩)).mono ?_; rintro e w7 ⟨B, rfl, d4, e4, H7⟩))
      all_goals (
        have CI : Hid (Calls Try.prog 81 #[.pointer (some ⟨C, 0, none⟩)] (w7.setCell ⟨C, 5, none⟩ (.pointer B)) fun e w' => e = .returned (.pointer (idleA A3 A4 B C)) ∧ w' = w7.setCell ⟨C, 5, none⟩ (.pointer B)) := idle_any C _ _ _ A3 A4 B _ (H7.out.1.set 5 (.pointer B))
        obtain ⟨r, hr, hF⟩ := H7.out.2
        rw [hr] at CI
        have HF2 : Hid (Del1X X W w (w7.setCell ⟨C, 5, none⟩ (.pointer B)) p (kept (x :: (N0 ++ N1))) r) := hF
        clear hF H7 CC
        go_wp2_with fail
        refine CI.out.mono ?_
        rintro e w8 ⟨rfl, rfl⟩
        go_wp2
        go_ret
        exact ⟨r, rfl, HF2.out⟩)
theorem without_anyX (X : Nat → Prop) {W : Nat} (h1 : 1 ≤ W) (h2 : W ≤ 128) {p : List Bool} (hp : p.length ≤ W) (q : Nat) : ∀ (n : Nat) (w : World) (a : Option Nat) (N : List (Nd Int)), w.cell? ⟨q, 0, none⟩ = some (.int .i64 W) → HangI W w n a N → look p (kept N) ≠ none → (∀ k, X k → k < w.heap.size) → Off X N →
    Calls Try.prog 63 #[.pointer (some ⟨q, 0, none⟩), pt a, Pf (valOf W p) p.length] w fun e w' => ∃ b, e = .returned (pt b) ∧ Del1X X W w w' p (kept N) b
  | n, w, none, N, hq, h, hl, hX, hO => by
    rw [h.of_none] at hl
    exact absurd rfl hl
  | 0, w, some b, N, hq, h, hl, hX, hO => by cases h.1
  | n + 1, w, some b, N, hq, h, hl, hX, hO => by
    obtain ⟨m, x, a0, a1, N0, N1, e, rfl, rfl, hR, hf⟩ := h.root
    have e' : n = m := by omega
    subst e'
    have hqV : ∀ V, Below w.heap.size w V → V.cell? ⟨q, 0, none⟩ = some (.int .i64 W) := fun V hV => (World.cell?_of_block (hV.block q (World.block_lt_of_cell? w _ hq))).trans hq
    obtain ⟨hx, g0, g1⟩ := hR.find_pre hl
    exact without_nodeX X h1 h2 hp q w hq hR hx (fun e V hV => without_anyX X h1 h2 hp q n V a0 N0 (hqV V hV) (hR.h0.below hV) (g0 e) (fun k e => by have := hX k e; have := hV.size; omega) (off_parts hO).2.1) (fun e V hV => without_anyX X h1 h2 hp q n V a1 N1 (hqV V hV) (hR.h1.below hV) (g1 e) (fun k e => by have := hX k e; have := hV.size; omega) (off_parts hO).2.2) hX hO
end Go.Proofs.Ytgdpplipahhffaa
namespace Go.Proofs.Ytgdpplipahhffaa
open Go.RowKit
set_option linter.unusedVariables false
set_option linter.unusedSimpArgs false

section
variable {w : World} {q W most : Nat} {a : Option Nat} {n : Nat} {N : List (Nd Int)}
set_option maxHeartbeats 2000000 in
theorem drop_someX (X : Nat → Prop) (hX : ∀ k, X k → k < w.heap.size) (hO : Off X N) (hT : TrieAt w q W most a n N) {p : List Bool} (hp : p.length ≤ W) (v : Int) (hl : look p (kept N) = some v) :
    Calls Try.prog 39 #[.pointer (some ⟨q, 0, none⟩), Pf (valOf W p) p.length] w fun e w' => e = .returned (okI (some v)) ∧ ∃ a' n' N', TrieAt w' q W most a' n' N' ∧ kept N' = del p (kept N) ∧ Kept (fun k => k = q) w w' ∧ Off X N' := by
  have HXX : Hid ((∀ k, X k → k < w.heap.size) ∧ Off X N) := ⟨hX, hO⟩
  clear hX hO
  obtain ⟨h1, h2⟩ := hT.wd
  have CG : Hid (∀ w1, Below w.heap.size w w1 → Calls Try.prog 28 #[.pointer (some ⟨q, 0, none⟩), Pf (valOf W p) p.length] w1 fun e w' => e = .returned (.tuple #[.int .i64 v, .bool true]) ∧ Hid (Below w1.heap.size w1 w')) := fun w1 h => by
    have := get_yes (hT.below h) hp
    rw [hl] at this; exact this
  have hsm : (look p (kept N)).isSome = true := by rw [hl]; rfl
  have hlen : (del p (kept N)).length + 1 = (kept N).length := len_del hT.hang.srt hsm
  have HLN : Hid ((del p (kept N)).length + 1 = (kept N).length) := hlen
  have HT : Hid (TrieAt w q W most a n N) := hT
  obtain ⟨A, hA9⟩ : ∃ A : Option Addr, A = a.map fun b => ⟨b, 0, none⟩ := ⟨_, rfl⟩
  have C63 : Hid (∀ w1, Below w.heap.size w w1 → Calls Try.prog 63 #[.pointer (some ⟨q, 0, none⟩), .pointer A, Pf (valOf W p) p.length] w1 fun e w' => ∃ b, e = .returned (pt b) ∧ Hid (Del1X X W w1 w' p (kept N) b)) := fun w1 hb => by
    rw [hA9]
    exact without_anyX X h1 h2 hp q n w1 a N ((hT.hd.below hb).cell 0 rfl) (hT.hang.below hb) (by rw [hl]; simp) (fun k e => by have := HXX.out.1 k e; have := hb.size; omega) HXX.out.2
  have HH : Hid (Blk w q #[.int .i64 W, .int .i64 most, .int .i64 (kept N).length, .pointer A] 84) := by rw [hA9]; exact hT.hd
  have HM : Hid ((kept N).length ≤ most ∧ most ≤ 4096) := ⟨hT.most.1, hT.most.2.2⟩
  have hlq : q < w.heap.size := hT.hd.lt
  have HB : Hid _ := one_new w #[.int .u64 (hiOf (valOf W p)), .int .u64 (loOf (valOf W p)), .int .i64 p.length] 51
  have hll : 1 ≤ (kept N).length := by omega
  have hlm : (kept N).length ≤ 4096 := by have := HM.out; omega
  clear hT hl hsm hlen hA9
  generalize hLL : (kept N).length = LL at *
  have HLL : Hid ((kept N).length = LL) := hLL
  clear hLL
  go_enter Try.func39, Try.ntmps39
  go_wp2_with fail
  refine (CG.out _ HB.out.2.1).mono ?_
  rintro e w4 ⟨rfl, H2⟩
  have HE : Hid (Below w.heap.size w w4 ∧ Blk w4 w.heap.size #[.int .u64 (hiOf (valOf W p)), .int .u64 (loOf (valOf W p)), .int .i64 p.length] 51) := ⟨bst HB.out.2.1 H2.out, HB.out.1.below H2.out⟩
  clear H2 CG HB
  have y0 := HE.out.2.cell 0 (v := .int .u64 (hiOf (valOf W p))) rfl
  have y1 := HE.out.2.cell 1 (v := .int .u64 (loOf (valOf W p))) rfl
  have y2 := HE.out.2.cell 2 (v := .int .i64 p.length) rfl
  have q3 : w4.cell? ⟨q, 3, none⟩ = some (.pointer A) := (HH.out.below HE.out.1).cell 3 rfl
  have CC : Hid (∀ V, Below w4.heap.size w4 V → Calls Try.prog 63 #[.pointer (some ⟨q, 0, none⟩), .pointer A, Pf (valOf W p) p.length] V fun e w' => ∃ B, e = .returned (.pointer B) ∧ w'.cell? ⟨q, 3, none⟩ = some (.pointer A) ∧ w'.frozen? ⟨q, 3, none⟩ = false ∧ Hid (Blk w' q #[.int .i64 W, .int .i64 most, .int .i64 LL, .pointer A] 84 ∧ Below w.heap.size w w' ∧ ∃ a' n N', B = (a'.map fun b => ⟨b, 0, none⟩) ∧ HangI W w' n a' N' ∧ kept N' = del p (kept N) ∧ Off X N')) := fun V hV => (C63.out V (bst HE.out.1 hV)).mono (by
    rintro e w' ⟨b, rfl, hP⟩
    have hb := bst (bst HE.out.1 hV) hP.out.2
    have g := HH.out.below hb
    obtain ⟨n', N', g1, g2, gX⟩ := hP.out.1
    exact ⟨_, rfl, g.cell 3 rfl, g.frozen 3, (⟨g, hb, b, n', N', rfl, g1, g2, gX⟩ : _ ∧ _)⟩)
  clear C63
  go_upto_region 3 with fail
  go_region_with ((go_at_call 63; refine (CC.out _ (by exact ⟨rfl, rfl, rfl, Nat.le_refl _, fun _ _ => rfl⟩)).mono ?_; rintro e w5 ⟨B, rfl, d3, e3, H5⟩))
  all_goals (
    have hks : Kept (fun k => k = q) w5 ((w5.setCell ⟨q, 3, none⟩ (.pointer B)).setCell ⟨q, 2, none⟩ (.int .i64 ((LL : Int) - 1))) := ((Kept.refl (fun k => k = q) w5).set (p := ⟨q, 3, none⟩) rfl _).set (p := ⟨q, 2, none⟩) rfl _
    have HF : Hid (∃ a' n' N', TrieAt ((w5.setCell ⟨q, 3, none⟩ (.pointer B)).setCell ⟨q, 2, none⟩ (.int .i64 ((LL : Int) - 1))) q W most a' n' N' ∧ kept N' = del p (kept N) ∧ Kept (fun k => k = q) w ((w5.setCell ⟨q, 3, none⟩ (.pointer B)).setCell ⟨q, 2, none⟩ (.int .i64 ((LL : Int) - 1))) ∧ Off X N') := by
      obtain ⟨g1, g2, a', n', N', g5, g3, g4, gX⟩ := H5.out
      have hl2 : (kept N').length + 1 = LL := by rw [g4]; exact HLN.out
      refine ⟨a', n', N', HT.out.over ?_ (g3.keptW hks (g3.off_head g1)) (by have := HM.out; omega), g4, (Kept.of_below g2).trans hks, gX⟩
      rw [show (((kept N').length : Nat) : Int) = (LL : Int) - 1 by omega]
      have := (g1.set 3 (.pointer B)).set 2 (.int .i64 ((LL : Int) - 1))
      rw [g5] at this ⊢
      exact this
    have HG : Hid (Blk (w5.setCell ⟨q, 3, none⟩ (.pointer B)) q #[.int .i64 W, .int .i64 most, .int .i64 LL, .pointer B] 84) := H5.out.1.set 3 _
    clear H5 hks CC y0 y1 y2 q3 d3 e3
    go_upto_region 4 with fail
    generalize w5.setCell _ _ = w6 at HF HG ⊢
    have c2 := HG.out.cell 2 (v := .int .i64 LL) rfl
    have f2 := HG.out.frozen 2
    go_wp2
    go_ret2
    exact ⟨rfl, HF.out⟩)
end
end Go.Proofs.Ytgdpplipahhffaa
