/- Two disks beside one another: play, whatever the kind. -/
import Derived.Test.YtbjpphoohoedcaaHb
import Derived.Test.YtbjpphoohoedcaaHc
import Derived.Test.YtbjpphoohoedcaaHd
import Derived.Test.YtbjpphoohoedcaaHe
import Derived.Test.YtbjpphoohoedcaaHf
import Derived.Test.YtbjpphoohoedcaaHg
import Derived.Test.YtbjpphoohoedcaaHh
import Derived.Test.YtbjpphoohoedcaaHi
import Derived.Test.YtbjpphoohoedcaaHj
import Derived.Test.YtbjpphoohoedcaaHk
namespace Go.Proofs.Ytbjpphoohoedcaa
open Go.RowKit
set_option linter.unusedVariables false
set_option linter.unusedSimpArgs false

structure Opr where
  kd : Int
  on : Int
  n : Int
  s : ByteArray
  f : UInt8
  fs : List (Int × Int)
  ad : Option Addr
  c : Nat
def opCells (o : Opr) : Array Value := #[.int .i64 o.kd, .int .i64 o.on, .int .i64 o.n, .string o.s, .int .u8 (o.f.toNat : Int), .slice o.ad o.fs.length o.c]
def OpOk (v : World) (o : Opr) : Prop := I64 o.on ∧ I64 o.n ∧ o.s.size ≤ 140737488351232 ∧ o.fs.length ≤ 8796093021952 ∧ FtO v o.fs o.ad
theorem play_any {B : Nat} {v w : World} {a b : Nat} {fa fb : Nat → Prop} {S : DS} (t : Two B w a b fa fb S S) (o : Opr) (ho : OpOk v o) (hBw : B ≤ w.heap.size) (hv : Below v.heap.size v w) (hvB : v.heap.size ≤ B) (hfew : S.wait.length < 5864062014000) : Calls Try.prog 21 #[.agg #[pt a, pt b], .agg (opCells o)] w fun e w' => e = .returned (.bool true) ∧ ∃ S' : DS, TL B a b fa fb w S' S' w' ∧ S'.wait.length ≤ S.wait.length + 1 := by
  obtain ⟨kd, on, n, s, f, fs, ad, c⟩ := o
  obtain ⟨h1, h2, h3, h4, h5⟩ := ho
  simp only at h1 h2 h3 h4 h5
  unfold opCells
  simp only
  by_cases k1 : kd = 1
  · subst k1
    exact (play_read (v := v) t on n s f fs ad c hBw).mono (fun e w' ⟨x, y⟩ => ⟨x, _, y, by rw [readD_wait]; omega⟩)
  by_cases k2 : kd = 2
  · subst k2
    exact (play_write (v := v) t on n s f fs ad c hBw (by omega) hfew).mono (fun e w' ⟨x, y⟩ => ⟨x, _, y, writeD_wait _ _ _⟩)
  by_cases k3 : kd = 3
  · subst k3
    exact (play_full (v := v) t on n s f fs ad c hBw h2 hfew).mono (fun e w' ⟨x, y⟩ => ⟨x, _, y, writeD_wait _ _ _⟩)
  by_cases k4 : kd = 4
  · subst k4
    exact (play_flush (v := v) t on n s f fs ad c hBw).mono (fun e w' ⟨x, y⟩ => ⟨x, _, y, Nat.le_trans (flushD_wait _) (by omega)⟩)
  by_cases k5 : kd = 5
  · subst k5
    exact (play_cut (v := v) t on n s f fs ad c hBw h2).mono (fun e w' ⟨x, y⟩ => ⟨x, _, y, by rw [cutD_wait]; omega⟩)
  by_cases k6 : kd = 6
  · subst k6
    exact (play_crash (v := v) t on n s f fs ad c hBw h5 hv hvB h4).mono (fun e w' ⟨x, y⟩ => ⟨x, _, y, by simp [crashD]⟩)
  by_cases k7 : kd = 7
  · subst k7
    exact (play_pending (v := v) t on n s f fs ad c hBw (by omega)).mono (fun e w' ⟨x, y⟩ => ⟨x, _, y, by omega⟩)
  by_cases k8 : kd = 8
  · subst k8
    exact (play_image (v := v) t on n s f fs ad c hBw).mono (fun e w' ⟨x, y⟩ => ⟨x, _, y, by omega⟩)
  by_cases k9 : kd = 9
  · subst k9
    exact (play_every (v := v) t on n s f fs ad c hBw).mono (fun e w' ⟨x, S', y, z⟩ => ⟨x, S', y, by rw [z]; omega⟩)
  exact (play_other (v := v) t on n s f fs ad c hBw kd (by simpa using k1) (by simpa using k2) (by simpa using k3) (by simpa using k4) (by simpa using k5) (by simpa using k6) (by simpa using k7) (by simpa using k8) (by simpa using k9)).mono (fun e w' ⟨x, y⟩ => ⟨x, _, y, by omega⟩)
def OpsAt (w : World) (ob off : Nat) (l : List Opr) : Prop := ∀ (i : Nat) (o : Opr), l[i]? = some o → ∀ (j : Nat) (u : Value), (opCells o)[j]? = some u → w.cell? ⟨ob, off + i * 6 + j, none⟩ = some u
def OpsV (w : World) (l : List Opr) (a : Option Addr) : Prop := l = [] ∨ ∃ ob off, a = some ⟨ob, off, none⟩ ∧ ob < w.heap.size ∧ OpsAt w ob off l ∧ ∀ (i : Nat) (o : Opr), l[i]? = some o → OpOk w o
end Go.Proofs.Ytbjpphoohoedcaa
