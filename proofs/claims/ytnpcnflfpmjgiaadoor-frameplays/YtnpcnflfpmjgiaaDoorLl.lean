/- Two disks beside one another: play. -/
import Derived.Test.YtnpcnflfpmjgiaaDoorLb
import Derived.Test.YtnpcnflfpmjgiaaDoorLc
import Derived.Test.YtnpcnflfpmjgiaaDoorLd
import Derived.Test.YtnpcnflfpmjgiaaDoorLe
import Derived.Test.YtnpcnflfpmjgiaaDoorLf
import Derived.Test.YtnpcnflfpmjgiaaDoorLg
import Derived.Test.YtnpcnflfpmjgiaaDoorLh
import Derived.Test.YtnpcnflfpmjgiaaDoorLi
import Derived.Test.YtnpcnflfpmjgiaaDoorLj
import Derived.Test.YtnpcnflfpmjgiaaDoorLk
namespace Go.Proofs.YtnpcnflfpmjgiaaDoor
open Go.RowKit
set_option linter.unusedVariables false
set_option linter.unusedSimpArgs false

structure Opr where
  kd : Int
  on : Int
  n : Int
  g : Fr
  f : UInt8
  fs : List (Int × Int)
  ad : Option Addr
  c : Nat
def opCells (o : Opr) : Array Value := #[.int .i64 o.kd, .int .i64 o.on, .int .i64 o.n, .int .i64 o.g.kind, .int .u64 (o.g.num : Int), .int .i64 o.g.idx, .string o.g.body, .int .u8 (o.f.toNat : Int), .slice o.ad o.fs.length o.c]
def OpOk (v : World) (o : Opr) : Prop := I64 o.on ∧ I64 o.n ∧ o.g.num < 18446744073709551616 ∧ o.fs.length ≤ 8796093021952 ∧ FtO v o.fs o.ad
theorem play_any {B : Nat} {v w : World} {a b : Nat} {fa fb : Nat → Prop} {S : DS} (t : Two B w a b fa fb S S) (o : Opr) (ho : OpOk v o) (hT : Tab w) (hB : 1 < B) (hBw : B ≤ w.heap.size) (hv : Below v.heap.size v w) (hvB : v.heap.size ≤ B) (hfew : S.wait.length < 5864062014000) : Calls Tryd.prog 20 #[.agg #[.pointer (some ⟨a, 0, none⟩), .pointer (some ⟨b, 0, none⟩)], .agg (opCells o)] w fun e w' => e = .returned (.bool true) ∧ ∃ S' : DS, TL B a b fa fb w S' S' w' ∧ S'.wait.length ≤ S.wait.length + 1 := by
  obtain ⟨kd, on, n, ⟨gk, gn, gi, gb⟩, f, fs, ad, c⟩ := o
  obtain ⟨h1, h2, h3, h4, h5⟩ := ho
  simp only at h1 h2 h3 h4 h5
  unfold opCells
  simp only
  by_cases k1 : kd = 1
  · subst k1
    exact (play5_puts (v := v) t on n gk gn gi gb f fs ad c hT hB hBw h3 hfew).mono (fun e w' ⟨x, y⟩ => ⟨x, _, y, putD_wait _ _ _⟩)
  by_cases k2 : kd = 2
  · subst k2
    exact (play5_puts2 (v := v) t on n gk gn gi gb f fs ad c hT hB hBw h2 h3 hfew).mono (fun e w' ⟨x, y⟩ => ⟨x, _, y, putD_wait _ _ _⟩)
  by_cases k3 : kd = 3
  · subst k3
    exact (play5_get (v := v) t on n gk gn gi gb f fs ad c hT hB hBw ).mono (fun e w' ⟨x, y⟩ => ⟨x, _, y, by rw [readD_wait]; omega⟩)
  by_cases k4 : kd = 4
  · subst k4
    exact (play5_every (v := v) t on n gk gn gi gb f fs ad c hT hB hBw ).mono (fun e w' ⟨x, S', y, z⟩ => ⟨x, S', y, by rw [z]; omega⟩)
  by_cases k5 : kd = 5
  · subst k5
    exact (play5_flush (v := v) t on n gk gn gi gb f fs ad c hT hB hBw ).mono (fun e w' ⟨x, y⟩ => ⟨x, _, y, Nat.le_trans (flushD_wait _) (by omega)⟩)
  by_cases k6 : kd = 6
  · subst k6
    exact (play5_crash (v := v) t on n gk gn gi gb f fs ad c hT hB hBw h5 hv hvB h4).mono (fun e w' ⟨x, y⟩ => ⟨x, _, y, by simp [crashD]⟩)
  by_cases k7 : kd = 7
  · subst k7
    exact (play5_cut (v := v) t on n gk gn gi gb f fs ad c hT hB hBw h2).mono (fun e w' ⟨x, y⟩ => ⟨x, _, y, by rw [cutD_wait]; omega⟩)
  by_cases k8 : kd = 8
  · subst k8
    exact (play5_writes8 (v := v) t on n gk gn gi gb f fs ad c hT hB hBw h2 h3 hfew).mono (fun e w' ⟨x, sB, y⟩ => ⟨x, _, y, writeD_wait _ _ _⟩)
  by_cases k9 : kd = 9
  · subst k9
    exact (play5_writes9 (v := v) t on n gk gn gi gb f fs ad c hT hB hBw h2 h3 hfew).mono (fun e w' ⟨x, sB, y⟩ => ⟨x, _, y, writeD_wait _ _ _⟩)
  exact (play5_other (v := v) t on n gk gn gi gb f fs ad c hT hB hBw kd (by simpa using k1) (by simpa using k2) (by simpa using k3) (by simpa using k4) (by simpa using k5) (by simpa using k6) (by simpa using k7) (by simpa using k8) (by simpa using k9)).mono (fun e w' ⟨x, y⟩ => ⟨x, _, y, by omega⟩)
def OpsAt (w : World) (ob off : Nat) (l : List Opr) : Prop := ∀ (i : Nat) (o : Opr), l[i]? = some o → ∀ (j : Nat) (u : Value), (opCells o)[j]? = some u → w.cell? ⟨ob, off + i * 9 + j, none⟩ = some u
def OpsV (w : World) (l : List Opr) (a : Option Addr) : Prop := l = [] ∨ ∃ ob off, a = some ⟨ob, off, none⟩ ∧ ob < w.heap.size ∧ OpsAt w ob off l ∧ ∀ (i : Nat) (o : Opr), l[i]? = some o → OpOk w o
end Go.Proofs.YtnpcnflfpmjgiaaDoor
