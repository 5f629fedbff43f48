/- The document's scale: Stages. -/
import Derived.Test.YtmbpclknhkbbkaaGreatB09
import Derived.Test.YtmbpclknhkbbkaaGreatLt
set_option linter.unusedSimpArgs false
set_option linter.unusedVariables false
namespace Go.Proofs.YtmbpclknhkbbkaaGreat
open Go.RowKit
set_option linter.unusedVariables false
set_option linter.unusedSimpArgs false

/-- What a weighing leaves: a number on the scale, and all other blocks. -/
def Lgt (sb : Nat) (w w' : World) : Prop := (∃ l : Int,Blk w' sb #[.int .i64 l] 205) ∧ Kept (fun k => k = sb) w w'
theorem Lgt.trans {sb : Nat} {a b c : World} (h : Lgt sb a b) (k : Lgt sb b c) : Lgt sb a c := ⟨k.1,h.2.trans k.2⟩
theorem Lgt.below {sb B : Nat} {w0 w w' : World} (h : Lgt sb w w') (hb : Below B w0 w) (hB : B ≤ w0.heap.size) (hs : B ≤ sb) : Below B w0 w' := hb.trans (h.2.below (Nat.le_trans hB hb.size) (fun k e => by omega))
set_option maxHeartbeats 4000000 in
theorem lst_any (w0 : World) (sb : Nat) (hsb : w0.heap.size ≤ sb) : ∀ (N : Nat) (xs : List Stg) (v : Value) (w : World) (l : Int),szL xs ≤ N → StgRow w0 v xs → Below w0.heap.size w0 w → Blk w sb #[.int .i64 l] 205 → Calls Tryz.prog 175 #[.pointer (some ⟨sb,0,none⟩),v] w fun e w' => e = .returned (.tuple #[]) ∧ Lgt sb w w' := by
 intro N
 induction N using Nat.strongRecOn with
 | _ N ih =>
  intro xs v w l hN hr hB hS
  obtain ⟨ad,cap,rfl,_⟩ := hr.slice
  have hlen : xs.length * 176 ≤ 140737488351232 := (stgRow_row hr).2
  have HR : Hid (StgRow w0 (.slice ad xs.length cap) xs) := hr
  have HB : Hid (Below w0.heap.size w0 w) := hB
  have HS : Hid (Lgt sb w w) := ⟨⟨l,hS⟩,Kept.refl _ _⟩
  have HSZ : Hid (szL xs ≤ N) := hN
  have HIH : Hid (∀ M,M < N → ∀ (xs : List Stg) (v : Value) (w : World) (l : Int),szL xs ≤ M → StgRow w0 v xs → Below w0.heap.size w0 w → Blk w sb #[.int .i64 l] 205 → Calls Tryz.prog 175 #[.pointer (some ⟨sb,0,none⟩),v] w fun e w' => e = .returned (.tuple #[]) ∧ Lgt sb w w') := ih
  have HSB : Hid (w0.heap.size ≤ sb) := hsb
  obtain ⟨n,hn⟩ : ∃ n,n = xs.length := ⟨_,rfl⟩
  have HN : Hid (n = xs.length) := hn
  rw [← hn] at hlen HR ⊢
  clear hn hr hN hB hS ih hsb
  go_enter Tryz.func175,Tryz.ntmps175
  go_wp2_with fail
  go_loopw [4] (fun i wr => ∃ (k : Nat),k ≤ n ∧ i = .int .i64 k ∧ Lgt sb w wr) (fun i _ => n - (intOf i).toNat)
  case atStart => exact ⟨0,by omega,rfl,HS.out⟩
  case round =>
   obtain ⟨k,hk,rfl,hL⟩ := hrel
   have HL : Hid (Lgt sb w wr) := hL
   clear hL HS
   by_cases hlt : k < n
   ·obtain ⟨y,hy⟩ : ∃ y,xs[k]? = some y := ⟨xs[k]'(by rw [← HN.out]; exact hlt),List.getElem?_eq_getElem _⟩
    obtain ⟨b,o,cs,rfl,_,hcc,hIs⟩ := (stgRow_row HR.out).1.at hy
    obtain ⟨v1,v2,rfl,hok,hth,hel⟩ := (stgIs_iff w0 y cs).1 hIs
    obtain ⟨ta,tc,rfl,_⟩ := hth.slice
    obtain ⟨ea,ec,rfl,_⟩ := hel.slice
    have HTh : Hid (StgRow w0 (.slice ta y.thn.length tc) y.thn) := hth
    have HEl : Hid (StgRow w0 (.slice ea y.els.length ec) y.els) := hel
    have HY : Hid (szL y.thn < N ∧ szL y.els < N) := by
     have h1 := szL_mem hy
     have h2 := HSZ.out
     rw [szS_eq] at h1
     exact ⟨by omega,by omega⟩
    have HQ : Hid (∀ W,Below w0.heap.size w0 W → W.cell? ⟨b,o + k * 13 + 11,none⟩ = some (.slice ta y.thn.length tc) ∧ W.cell? ⟨b,o + k * 13 + 12,none⟩ = some (.slice ea y.els.length ec)) := by
     intro W hW
     have hpw := pres_below hW
     exact ⟨by have := hpw _ _ (hcc 11 _ rfl); simpa using this,by have := hpw _ _ (hcc 12 _ rfl); simpa using this⟩
    have hd : decide ((k : Int) < n) = true := decide_eq_true (by omega)
    clear hcc hIs hth hel hok
    obtain ⟨⟨l1,hb1⟩,_⟩ := HL.out
    have CT : Hid (Calls Tryz.prog 174 #[.pointer (some ⟨sb,0,none⟩),.int .i64 1] wr fun e w' => ∃ l' : Int,e = .returned (.bool (decide (0 ≤ l'))) ∧ Blk w' sb #[.int .i64 l'] 205 ∧ Kept (fun k => k = sb) wr w') := take_any sb l1 1 wr hb1
    clear hb1
    go_wp2_with fail
    refine CT.out.mono ?_
    rintro e W1 ⟨l2,rfl,hb2,hk2⟩
    have HL1 : Hid (Lgt sb w W1) := HL.out.trans ⟨⟨l2,hb2⟩,hk2⟩
    have HB1 : Hid (Below w0.heap.size w0 W1) := HL1.out.below HB.out (Nat.le_refl _) HSB.out
    by_cases h2 : 0 ≤ l2
    ·have h2' : decide (0 ≤ l2) = true := decide_eq_true h2
     have C1 : Hid (Calls Tryz.prog 175 #[.pointer (some ⟨sb,0,none⟩),.slice ta y.thn.length tc] W1 fun e w' => e = .returned (.tuple #[]) ∧ Lgt sb W1 w') := HIH.out _ HY.out.1 y.thn _ W1 l2 (Nat.le_refl _) HTh.out HB1.out hb2
     obtain ⟨q1,_⟩ := HQ.out _ HB1.out
     rw [h2']
     clear hb2 hk2 CT h2 h2'
     go_wp2_with fail
     refine C1.out.mono ?_
     rintro e W2 ⟨rfl,hL2⟩
     have HL2 : Hid (Lgt sb w W2) := HL1.out.trans hL2
     have HB2 : Hid (Below w0.heap.size w0 W2) := HL2.out.below HB.out (Nat.le_refl _) HSB.out
     obtain ⟨⟨l3,hb3⟩,_⟩ := hL2
     have C2 : Hid (Calls Tryz.prog 175 #[.pointer (some ⟨sb,0,none⟩),.slice ea y.els.length ec] W2 fun e w' => e = .returned (.tuple #[]) ∧ Lgt sb W2 w') := HIH.out _ HY.out.2 y.els _ W2 l3 (Nat.le_refl _) HEl.out HB2.out hb3
     obtain ⟨_,q2⟩ := HQ.out _ HB2.out
     clear hb3 C1 q1
     go_wp2_with fail
     refine C2.out.mono ?_
     rintro e W3 ⟨rfl,hL3⟩
     have HL3 : Hid (Lgt sb w W3) := HL2.out.trans hL3
     clear C2 hL3 q2
     go_wp2
     exact ⟨⟨k + 1,by omega,by go_num,HL3.out⟩,by simp only [intOf]; omega⟩
    ·have h2' : decide (0 ≤ l2) = false := decide_eq_false h2
     rw [h2']
     clear hb2 hk2 CT h2 h2'
     go_wp2
     first | go_end0 | refine bodyPost_ret (results_none rfl _ _ _) rfl ?_
     exact ⟨rfl,HL1.out⟩
   ·have hd : decide ((k : Int) < n) = false := decide_eq_false (by omega)
    go_wp2
    first | go_end0 | refine bodyPost_ret (results_none rfl _ _ _) rfl ?_
    exact ⟨rfl,HL.out⟩
end Go.Proofs.YtmbpclknhkbbkaaGreat
