/- Writers in memory: what is kept beside one, and package pack's New, put, Len and Out: what each answers, and what it leaves. -/
import Derived.Test.YtdpddlaedffmdaaFx
namespace Go.Proofs.Ytdpddlaedffmdaa
open Go.RowKit
set_option linter.unusedVariables false
set_option linter.unusedSimpArgs false

/-- Of what was there nothing has turned but the blocks of S. -/
structure Kept (S : Nat → Prop) (w w' : World) : Prop where
  os : w'.os = w.os
  tape : w'.tape = w.tape
  output : w'.output = w.output
  size : w.heap.size ≤ w'.heap.size
  block : ∀ k, k < w.heap.size → ¬ S k → w'.heap[k]? = w.heap[k]?
theorem Kept.refl (S : Nat → Prop) (w : World) : Kept S w w := ⟨rfl, rfl, rfl, Nat.le_refl _, fun _ _ _ => rfl⟩
theorem Kept.trans {S : Nat → Prop} {a b c : World} (h : Kept S a b) (k : Kept S b c) : Kept S a c :=
  ⟨k.os.trans h.os, k.tape.trans h.tape, k.output.trans h.output, Nat.le_trans h.size k.size, fun i hi hs => (k.block i (Nat.lt_of_lt_of_le hi h.size) hs).trans (h.block i hi hs)⟩
theorem Kept.mono {S T : Nat → Prop} {a b : World} (h : Kept S a b) (hs : ∀ k, k < a.heap.size → S k → T k) : Kept T a b :=
  ⟨h.os, h.tape, h.output, h.size, fun i hi ht => h.block i hi (fun e => ht (hs i hi e))⟩
theorem Kept.of_below {S : Nat → Prop} {a b : World} (h : Below a.heap.size a b) : Kept S a b := ⟨h.os, h.tape, h.output, h.size, fun i hi _ => h.block i hi⟩
theorem Kept.below {S : Nat → Prop} {B : Nat} {a b : World} (h : Kept S a b) (hB : B ≤ a.heap.size) (hs : ∀ k, S k → B ≤ k) : Below B a b :=
  ⟨h.os, h.tape, h.output, h.size, fun i hi => h.block i (Nat.lt_of_lt_of_le hi hB) (fun e => by have := hs i e; omega)⟩
theorem Kept.cell {S : Nat → Prop} {a b : World} (h : Kept S a b) {p : Addr} {v : Value} (hc : a.cell? p = some v) (hs : ¬ S p.block) : b.cell? p = some v :=
  (World.cell?_of_block (h.block p.block (World.block_lt_of_cell? a p hc) hs)).trans hc
theorem Kept.frozen {S : Nat → Prop} {a b : World} (h : Kept S a b) {p : Addr} (hl : p.block < a.heap.size) (hs : ¬ S p.block) : b.frozen? p = a.frozen? p :=
  World.frozen?_of_block (h.block p.block hl hs)
theorem Kept.set {S : Nat → Prop} {a w : World} (h : Kept S a w) {p : Addr} (hp : S p.block) (u : Value) : Kept S a (w.setCell p u) :=
  h.trans ⟨rfl, rfl, rfl, by simp [World.setCell], fun k _ hk => Below.heap_setCell _ _ _ _ (fun e => hk (e ▸ hp))⟩
theorem Kept.grown {S : Nat → Prop} {a w w' : World} {row : Option Nat} (h : Kept S a w) (hg : w.grownBy w' row) (hr : ∀ k, row = some k → S k) : Kept S a w' :=
  h.trans ⟨hg.os, hg.tape, hg.output, hg.size, fun k hk hs => hg.block k hk (fun e => hs (hr k e.symm))⟩
/-- A writer at block b: its bytes, the slice v that holds them, its error. -/
def Wr (B : Nat) (w : World) (b : Nat) (v : Value) (l : List UInt8) (f : Int) : Prop :=
  B ≤ b ∧ w.cell? ⟨b, 0, none⟩ = some v ∧ w.cell? ⟨b, 1, none⟩ = some (.int .i64 f) ∧ w.frozen? ⟨b, 0, none⟩ = false ∧ w.frozen? ⟨b, 1, none⟩ = false ∧ w.ownsRow B 5 1 v l.length (cells8 l) ∧ v.ownBlock ≠ some b
/-- The blocks of a writer. -/
def own (b : Nat) (v : Value) : Nat → Prop := fun k => k = b ∨ v.ownBlock = some k
theorem ownsRow_kept {S : Nat → Prop} {w w' : World} {B : Nat} {v : Value} {n : Nat} {xs : List Value} (h : w.ownsRow B 5 1 v n xs) (hk : Kept S w w') (hs : ∀ k, v.ownBlock = some k → ¬ S k) : w'.ownsRow B 5 1 v n xs := by
  refine ⟨h.1, ?_⟩
  rcases h.2 with hn | ⟨g, cap, cur, rfl, hb, hgg, rest⟩
  · exact .inl hn
  · refine .inr ⟨g, cap, cur, rfl, hb, ?_, rest⟩
    rw [hk.block g (Array.getElem?_eq_some_iff.1 hgg).1 (hs g rfl)]
    exact hgg
theorem Wr.lt {B : Nat} {w : World} {b : Nat} {v : Value} {l : List UInt8} {f : Int} (h : Wr B w b v l f) : b < w.heap.size := World.block_lt_of_cell? w ⟨b, 0, none⟩ h.2.1
theorem Wr.kept {S : Nat → Prop} {B : Nat} {w w' : World} {b : Nat} {v : Value} {l : List UInt8} {f : Int} (h : Wr B w b v l f) (hk : Kept S w w') (hb : ¬ S b) (hs : ∀ k, v.ownBlock = some k → ¬ S k) : Wr B w' b v l f := by
  have hl := h.lt
  obtain ⟨h0, h1, h2, h3, h4, h5, h6⟩ := h
  exact ⟨h0, hk.cell h1 hb, hk.cell h2 hb, (hk.frozen hl hb).trans h3, (hk.frozen hl hb).trans h4, ownsRow_kept h5 hk hs, h6⟩
theorem Wr.below {B : Nat} {w w' : World} {b : Nat} {v : Value} {l : List UInt8} {f : Int} (h : Wr B w b v l f) (hb : Below w.heap.size w w') : Wr B w' b v l f :=
  h.kept (S := fun _ => False) (Kept.of_below hb) id (fun _ _ => id)
theorem Wr.own_ge {B : Nat} {w : World} {b : Nat} {v : Value} {l : List UInt8} {f : Int} (h : Wr B w b v l f) : ∀ k, own b v k → B ≤ k := by
  rintro k (rfl | hk)
  · exact h.1
  · exact (h.2.2.2.2.2.1.lt k hk).1
theorem Wr.own_lt {B : Nat} {w : World} {b : Nat} {v : Value} {l : List UInt8} {f : Int} (h : Wr B w b v l f) : ∀ k, own b v k → k < w.heap.size := by
  rintro k (rfl | hk)
  · exact h.lt
  · exact (h.2.2.2.2.2.1.lt k hk).2
/-- What a call on a writer leaves. -/
def Left (B b : Nat) (v : Value) (w : World) (l : List UInt8) (f : Int) (w' : World) : Prop :=
  ∃ v', Wr B w' b v' l f ∧ Kept (own b v) w w' ∧ (v'.ownBlock = v.ownBlock ∨ ∃ g, v'.ownBlock = some g ∧ w.heap.size ≤ g)
theorem Left.refl {B b : Nat} {v : Value} {w : World} {l : List UInt8} {f : Int} (h : Wr B w b v l f) : Left B b v w l f w := ⟨v, h, Kept.refl _ _, .inl rfl⟩

theorem strCells8 (s : ByteArray) : Lib.strCells s = cells8 s.data.toList := by simp [Lib.strCells, cells8]
/-- Where what is appended lies. -/
theorem append_where {w : World} {B n : Nat} {v : Value} {xs : List Value} {i : TypeInfo} (hi : Try.prog.info? 5 = some i) (hz : i.zero = some (.int .u8 0)) (hsize : i.size = 1) (hby : i.bytes = 1)
    (hown : w.ownsRow B 5 1 v n xs) (s : ByteArray) (hb : n + s.size ≤ 140737488355328) (hB : B ≤ w.heap.size) :
    ∃ v' w', (Builtin.append_ #[28, 9] 28 #[v, .string s]).run Try.prog w = .ok v' w' ∧ w'.ownsRow B 5 1 v' (n + s.size) (xs ++ Lib.strCells s) ∧ w.grownBy w' v.ownBlock ∧ (v'.ownBlock = v.ownBlock ∨ v'.ownBlock = some w.heap.size) := by
  obtain ⟨v', w', hr, h1, h2, h3⟩ := Lib.run_append_own_string (P := Try.prog) w B 28 9 28 5 i Try.underlying28 Try.underlying9 hi hz hsize hby v n xs hown s (by unfold maxLen; omega) hb hB
  refine ⟨v', w', hr, h1, h2, ?_⟩
  rcases hown.2 with ⟨rfl, rfl⟩ | ⟨g, cap, cur, rfl, hbg, hg, hnc, hcm, hcs, htake⟩
  · by_cases hm : s.size = 0
    · left; rw [h3.2 ⟨rfl, hm⟩]
    · have hr2 := run_append_nil_string (P := Try.prog) w 28 9 28 5 i (.int .u8 0) Try.underlying28 Try.underlying9 hi hz s (by omega) (by omega) (by rw [hby]; omega)
      rw [hr] at hr2
      injection hr2 with e1 e2
      right; rw [e1]; rfl
  · by_cases hroom : n + s.size ≤ cap
    · have hr2 := Lib.run_append_room_string (P := Try.prog) w 28 9 28 5 i Try.underlying28 Try.underlying9 hi hsize g n cap cur hg s hroom (by omega)
      rw [hr] at hr2
      injection hr2 with e1 e2
      left; rw [e1]; rfl
    · have hr2 := Lib.run_append_grow_string (P := Try.prog) w 28 9 28 5 i (.int .u8 0) Try.underlying28 Try.underlying9 hi hz ⟨g, 0, none⟩ n cap xs (by rw [hsize]; exact hown.1) (hown.cells (g := g) rfl) s (by omega) (by omega) (by rw [hby]; exact growslice_fits (by omega) (by omega))
      rw [hr] at hr2
      injection hr2 with e1 e2
      right; rw [e1]; rfl
end Go.Proofs.Ytdpddlaedffmdaa
