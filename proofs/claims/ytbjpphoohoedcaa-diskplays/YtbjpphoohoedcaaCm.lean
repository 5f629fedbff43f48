/- The statements' helpers: pick, sector; a list of writes in memory. -/
import Derived.Test.YtbjpphoohoedcaaCl
namespace Go.Proofs.Ytbjpphoohoedcaa
open Go.RowKit
set_option linter.unusedVariables false
set_option linter.unusedSimpArgs false

/-- Which of n things a raw number speaks of. -/
def pickI (c n : Int) : Int := (if c < 0 then -(c + 1) else c) % n
def I64 (c : Int) : Prop := -9223372036854775808 ≤ c ∧ c ≤ 9223372036854775807
theorem pickI_range (c n : Int) (hn : 0 < n) : 0 ≤ pickI c n ∧ pickI c n < n := ⟨Int.emod_nonneg _ (by omega), Int.emod_lt_of_pos _ hn⟩
theorem neg_wraps {c : Int} (hc : I64 c) (h : c < 0) : wrap64 (c + 1) = c + 1 ∧ wrap64 (-(c + 1)) = -(c + 1) ∧ 0 ≤ -(c + 1) := by
  obtain ⟨h1, h2⟩ := hc
  unfold wrap64
  omega
theorem rem_eq (x n : Int) (h0 : 0 ≤ x) : x.tmod n = x % n := Int.tmod_eq_emod_of_nonneg h0
theorem rem_wrap {x n : Int} (h0 : 0 ≤ x) (hn : 0 < n) (hb : n ≤ 9223372036854775807) : IntKind.i64.wrap (x.tmod n) = x % n := by
  rw [rem_eq _ _ h0]
  have h1 := Int.emod_nonneg x (show n ≠ 0 by omega)
  have h2 := Int.emod_lt_of_pos x hn
  rw [IntKind.wrap_i64]; omega
theorem pick_any (c n : Int) (hc : I64 c) (hn : 0 < n) (hb : n ≤ 9223372036854775807) (w : World) : Calls Try.prog 20 #[.int .i64 c, .int .i64 n] w fun e w' => e = .returned (.int .i64 (pickI c n)) ∧ w' = w := by
  by_cases h : c < 0
  · obtain ⟨e1, e2, e3⟩ := neg_wraps hc h
    have HP : Hid (pickI c n = -(c + 1) % n) := by show _ = _; unfold pickI; rw [if_pos h]
    have r2 := rem_wrap e3 hn hb
    have r1 := rem_eq (-(c + 1)) n e3
    generalize pickI c n = P at *
    have hn0 : ¬ n = 0 := by omega
    clear hc
    go_enter Try.func20, Try.ntmps20
    go_wp2
    go_ret
    exact ⟨by rw [HP.out]; rfl, rfl⟩
  · have HP : Hid (pickI c n = c % n) := by show _ = _; unfold pickI; rw [if_neg h]
    have r2 := rem_wrap (show 0 ≤ c by omega) hn hb
    have r1 := rem_eq c n (by omega)
    have h' : 0 ≤ c := by omega
    generalize pickI c n = P at *
    have hn0 : ¬ n = 0 := by omega
    clear hc
    go_enter Try.func20, Try.ntmps20
    go_wp2
    go_ret
    exact ⟨by rw [HP.out]; rfl, rfl⟩
theorem sector_any (s : ByteArray) (k n : Nat) (hs : s.size = n * 512) (hn : n ≤ 4096) (hk : k < n) (w : World) : Calls Try.prog 29 #[.string s, .int .i64 k] w fun e w' => e = .returned (.string (sec s k)) ∧ w' = w := by
  have h1 : ¬ (s.size : Int) < 512 * (k : Int) + 512 := by omega
  have h2 : 512 * (k : Int) + 512 ≤ (s.size : Int) := by omega
  have HQ : Hid (sec s k = s.extract (512 * k) (512 * k + 512)) := by show _ = _; unfold sec; rw [show k * 512 = 512 * k by omega, show (k + 1) * 512 = 512 * k + 512 by omega]
  have hk1 : (k : Int) ≤ 4096 := by omega
  generalize sec s k = q at *
  clear hs
  go_enter Try.func29, Try.ntmps29
  go_wp2
  go_ret
  exact ⟨by rw [HQ.out]; rfl, rfl⟩
/-- A write of raw numbers. -/
structure Pu where
  n : Int
  f : UInt8
  e : UInt8
/-- Writes in memory. -/
def Pts (w : World) (pb off : Nat) (ps : List Pu) : Prop := ∀ (i : Nat) (p : Pu), ps[i]? = some p → w.cell? ⟨pb, off + i * 3, none⟩ = some (.int .i64 p.n) ∧ w.cell? ⟨pb, off + i * 3 + 1, none⟩ = some (.int .u8 (p.f.toNat : Int)) ∧ w.cell? ⟨pb, off + i * 3 + 2, none⟩ = some (.int .u8 (p.e.toNat : Int)) ∧ I64 p.n
/-- A list of writes as an argument: none, or in memory. -/
def PtsV (w : World) (ps : List Pu) (a : Option Addr) : Prop := ps = [] ∨ ∃ pb off, a = some ⟨pb, off, none⟩ ∧ pb < w.heap.size ∧ Pts w pb off ps
theorem Pts.below {w w' : World} {B pb off : Nat} {ps : List Pu} (h : Pts w pb off ps) (hb : Below B w w') (hp : pb < B) : Pts w' pb off ps := fun i p hi => by
  obtain ⟨a, b, c, d⟩ := h i p hi
  exact ⟨(hb.cell (p := ⟨pb, off + i * 3, none⟩) hp).trans a, (hb.cell (p := ⟨pb, off + i * 3 + 1, none⟩) hp).trans b, (hb.cell (p := ⟨pb, off + i * 3 + 2, none⟩) hp).trans c, d⟩
theorem PtsV.below {w w' : World} {ps : List Pu} {a : Option Addr} (h : PtsV w ps a) (hb : Below w.heap.size w w') : PtsV w' ps a := by
  rcases h with h | ⟨pb, off, rfl, hl, h⟩
  · exact .inl h
  · exact .inr ⟨pb, off, rfl, Nat.lt_of_lt_of_le hl hb.size, h.below hb hl⟩
/-- What a raw write writes. -/
def lw (n : Nat) (p : Pu) : Nat × ByteArray := ((pickI p.n n).toNat, fullB p.f p.e)
/-- A write that is done. -/
theorem write_live {S : DS} (ho : S.off = false) (hc : S.cut = 0) {m : Nat} {s : ByteArray} (hm : m < S.safe.length) (hs : s.size = 512) : writeE S (m : Int) s = 0 ∧ writeD S (m : Int) s = { S with wait := S.wait ++ [(m, s)], wr := wrap64 (S.wr + 1) } := by
  have hr : refuseD S (m : Int) = 0 := by unfold refuseD; rw [ho]; simp; omega
  have hst : stepD S = S := by unfold stepD; rw [ho, hc]; cases S; simp_all
  unfold writeE writeD
  rw [hr, hst]
  simp [hs, ho]
theorem flush_live {S : DS} (ho : S.off = false) (hc : S.cut = 0) : flushE S = 0 ∧ flushD S = { S with safe := S.shown, wait := [], fl := wrap64 (S.fl + 1) } := by
  have hst : stepD S = S := by unfold stepD; rw [ho, hc]; cases S; simp_all
  unfold flushE flushD
  rw [hst]
  simp [ho]
theorem wrap_small {x : Int} (h0 : 0 ≤ x) (h : x ≤ 9223372036854775807) : wrap64 x = x := by unfold wrap64; omega
end Go.Proofs.Ytbjpphoohoedcaa
