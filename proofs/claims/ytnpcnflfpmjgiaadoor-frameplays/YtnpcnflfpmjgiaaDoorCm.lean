/- The statements' helpers: pick, sector; a list of writes in memory. -/
import Derived.Test.YtnpcnflfpmjgiaaDoorCl
namespace Go.Proofs.YtnpcnflfpmjgiaaDoor
open Go.RowKit
set_option linter.unusedVariables false
set_option linter.unusedSimpArgs false

/-- Which of n things a raw number speaks of. -/
def pickI (c n : Int) : Int := (if c < 0 then -(c + 1) else c) % n
def I64 (c : Int) : Prop := -9223372036854775808 ≤ c ∧ c ≤ 9223372036854775807
theorem pickI_range (c n : Int) (hn : 0 < n) : 0 ≤ pickI c n ∧ pickI c n < n := ⟨Int.emod_nonneg _ (by omega), Int.emod_lt_of_pos _ hn⟩
theorem neg_wraps {c : Int} (hc : I64 c) (h : c < 0) : wrap64 (c + 1) = c + 1 ∧ wrap64 (-(c + 1)) = -(c + 1) ∧ 0 ≤ -(c + 1) := by
  obtain ⟨h1, h2⟩ := hc
  unfold wrap64
  omega
theorem rem_eq (x n : Int) (h0 : 0 ≤ x) : x.tmod n = x % n := Int.tmod_eq_emod_of_nonneg h0
theorem rem_wrap {x n : Int} (h0 : 0 ≤ x) (hn : 0 < n) (hb : n ≤ 9223372036854775807) : IntKind.i64.wrap (x.tmod n) = x % n := by
  rw [rem_eq _ _ h0]
  have h1 := Int.emod_nonneg x (show n ≠ 0 by omega)
  have h2 := Int.emod_lt_of_pos x hn
  rw [IntKind.wrap_i64]; omega
/-- A write of raw numbers. -/
structure Pu where
  n : Int
  f : UInt8
  e : UInt8
/-- Writes in memory. -/
def Pts (w : World) (pb off : Nat) (ps : List Pu) : Prop := ∀ (i : Nat) (p : Pu), ps[i]? = some p → w.cell? ⟨pb, off + i * 3, none⟩ = some (.int .i64 p.n) ∧ w.cell? ⟨pb, off + i * 3 + 1, none⟩ = some (.int .u8 (p.f.toNat : Int)) ∧ w.cell? ⟨pb, off + i * 3 + 2, none⟩ = some (.int .u8 (p.e.toNat : Int)) ∧ I64 p.n
/-- A list of writes as an argument: none, or in memory. -/
def PtsV (w : World) (ps : List Pu) (a : Option Addr) : Prop := ps = [] ∨ ∃ pb off, a = some ⟨pb, off, none⟩ ∧ pb < w.heap.size ∧ Pts w pb off ps
theorem Pts.below {w w' : World} {B pb off : Nat} {ps : List Pu} (h : Pts w pb off ps) (hb : Below B w w') (hp : pb < B) : Pts w' pb off ps := fun i p hi => by
  obtain ⟨a, b, c, d⟩ := h i p hi
  exact ⟨(hb.cell (p := ⟨pb, off + i * 3, none⟩) hp).trans a, (hb.cell (p := ⟨pb, off + i * 3 + 1, none⟩) hp).trans b, (hb.cell (p := ⟨pb, off + i * 3 + 2, none⟩) hp).trans c, d⟩
theorem PtsV.below {w w' : World} {ps : List Pu} {a : Option Addr} (h : PtsV w ps a) (hb : Below w.heap.size w w') : PtsV w' ps a := by
  rcases h with h | ⟨pb, off, rfl, hl, h⟩
  · exact .inl h
  · exact .inr ⟨pb, off, rfl, Nat.lt_of_lt_of_le hl hb.size, h.below hb hl⟩
/-- What a raw write writes. -/
def lw (n : Nat) (p : Pu) : Nat × ByteArray := ((pickI p.n n).toNat, fullB p.f p.e)
/-- A write that is done. -/
theorem write_live {S : DS} (ho : S.off = false) (hc : S.cut = 0) {m : Nat} {s : ByteArray} (hm : m < S.safe.length) (hs : s.size = 512) : writeE S (m : Int) s = 0 ∧ writeD S (m : Int) s = { S with wait := S.wait ++ [(m, s)], wr := wrap64 (S.wr + 1) } := by
  have hr : refuseD S (m : Int) = 0 := by unfold refuseD; rw [ho]; simp; omega
  have hst : stepD S = S := by unfold stepD; rw [ho, hc]; cases S; simp_all
  unfold writeE writeD
  rw [hr, hst]
  simp [hs, ho]
theorem flush_live {S : DS} (ho : S.off = false) (hc : S.cut = 0) : flushE S = 0 ∧ flushD S = { S with safe := S.shown, wait := [], fl := wrap64 (S.fl + 1) } := by
  have hst : stepD S = S := by unfold stepD; rw [ho, hc]; cases S; simp_all
  unfold flushE flushD
  rw [hst]
  simp [ho]
theorem wrap_small {x : Int} (h0 : 0 ≤ x) (h : x ≤ 9223372036854775807) : wrap64 x = x := by unfold wrap64; omega
end Go.Proofs.YtnpcnflfpmjgiaaDoor
