/- Puts and Gets at a disk that has its power: plain facts. -/
import Derived.Test.YtnpcnflfpmjgiaaDoorFx
import Derived.Test.YtnpcnflfpmjgiaaDoorFh
namespace Go.Proofs.YtnpcnflfpmjgiaaDoor
open Go.RowKit
set_option linter.unusedVariables false
set_option linter.unusedSimpArgs false

theorem at8_list (s : ByteArray) (i : Nat) : at8 s i = (s.data.toList[i]?).getD 0 := by unfold at8; rw [List.getD_eq_getElem?_getD]
theorem tear_list (s o : ByteArray) (k : Nat) : (tear s o k).data.toList = s.data.toList.take k ++ (o.data.toList.drop k).take (512 - k) := by
  unfold tear; rw [app_list, ext_list, ext_list, List.drop_zero, Nat.sub_zero]
theorem tear_first {s o : ByteArray} {k : Nat} (hs : s.size = 512) (hk : 0 < k) : at8 (tear s o k) 0 = at8 s 0 := by
  have hl : s.data.toList.length = 512 := hs
  rw [at8_list, at8_list, tear_list, List.getElem?_append_left (by rw [List.length_take]; omega), List.getElem?_take_of_lt hk]
theorem tear_last {s o : ByteArray} {k : Nat} (hs : s.size = 512) (hk : k < 512) : at8 (tear s o k) 511 = at8 o 511 := by
  have hl : s.data.toList.length = 512 := hs
  rw [at8_list, at8_list, tear_list, List.getElem?_append_right (by rw [List.length_take]; omega), List.length_take, Nat.min_eq_left (by omega), List.getElem?_take_of_lt (by omega), List.getElem?_drop, show k + (511 - k) = 511 by omega]
/-- A disk that has its power, and no cut ahead. -/
structure Live (S : DS) : Prop where
  ok : S.Ok
  on : S.off = false
  cut : S.cut = 0
theorem Live.step {S : DS} (h : Live S) : stepD S = S := by
  unfold stepD
  have h1 := h.on
  have h2 := h.cut
  obtain ⟨a, b, c, d, e, f, g⟩ := S
  simp only at h1 h2
  subst h1 h2
  rfl
theorem Live.refuse {S : DS} (h : Live S) {m : Nat} (hm : m < S.safe.length) : refuseD S (m : Int) = 0 := by
  unfold refuseD
  rw [h.on, if_neg (by simp), if_neg (by omega)]
theorem Live.refuse_no {S : DS} (h : Live S) {m : Nat} (hm : S.safe.length ≤ m) : refuseD S (m : Int) = 41 := by
  unfold refuseD
  rw [h.on, if_neg (by simp), if_pos (by omega)]
theorem Live.readS {S : DS} (h : Live S) {m : Nat} (hm : m < S.safe.length) : readS S (m : Int) = S.shown.getD m ByteArray.empty := by
  unfold Proofs.YtnpcnflfpmjgiaaDoor.readS
  rw [if_pos (h.refuse hm), Int.toNat_natCast]
theorem Live.readD {S : DS} (h : Live S) (n : Int) : Live (readD S n) := by
  unfold Proofs.YtnpcnflfpmjgiaaDoor.readD
  split
  · exact ⟨⟨h.ok.one, h.ok.most, h.ok.size, h.ok.num, h.ok.len, h.ok.cut0, h.ok.cut1, h.ok.idle⟩, h.on, h.cut⟩
  · exact h
theorem readD_safe (S : DS) (n : Int) : (readD S n).safe = S.safe := by unfold readD; split <;> rfl
theorem readD_shown (S : DS) (n : Int) : (readD S n).shown = S.shown := by unfold DS.shown; rw [readD_safe, readD_wait]
/-- What a Put leaves. -/
theorem Live.put {S : DS} (h : Live S) {m : Nat} (hm : m < S.safe.length) {f : Fr} (hw : wrong f = 0) :
    putE S (m : Int) f = 0 ∧ Live (putD S (m : Int) f) ∧ (putD S (m : Int) f).safe = S.safe ∧ (putD S (m : Int) f).wait = S.wait ++ [(m, putB S (m : Int) f)] ∧ (putB S (m : Int) f).size = 512 := by
  have hr := h.refuse hm
  have hR := h.readD (m : Int)
  have hr2 : refuseD (Proofs.YtnpcnflfpmjgiaaDoor.readD S (m : Int)) (m : Int) = 0 := hR.refuse (by rw [readD_safe]; exact hm)
  have hz : (putB S (m : Int) f).size = 512 := by
    obtain ⟨k, i, _, _, _, _, _, hz⟩ := right_of hw
    exact sealB_size _ _ _ _ _ hz
  have hst := hR.step
  have e1 : putE S (m : Int) f = 0 := by
    unfold putE
    rw [if_pos hw, if_pos hr]
    unfold writeE
    rw [if_neg (by rw [hr2]; simp), if_neg (by rw [hz]; simp), hst, hR.on, if_neg (by simp)]
  have e2 : putD S (m : Int) f = { Proofs.YtnpcnflfpmjgiaaDoor.readD S (m : Int) with wait := S.wait ++ [(m, putB S (m : Int) f)], wr := wrap64 ((Proofs.YtnpcnflfpmjgiaaDoor.readD S (m : Int)).wr + 1) } := by
    unfold putD
    rw [if_pos hw, if_pos hr]
    unfold writeD
    rw [if_neg (by rw [hr2]; simp), if_neg (by rw [hz]; simp), hst, hR.on, if_neg (by simp), readD_wait, Int.toNat_natCast]
  refine ⟨e1, ?_, by rw [e2]; exact readD_safe S _, by rw [e2], hz⟩
  rw [e2]
  refine ⟨⟨hR.ok.one, hR.ok.most, hR.ok.size, ?_, ?_, hR.ok.cut0, hR.ok.cut1, hR.ok.idle⟩, hR.on, hR.cut⟩
  · intro p hp
    show p.1 < (Proofs.YtnpcnflfpmjgiaaDoor.readD S (m : Int)).safe.length
    rw [readD_safe]
    rcases List.mem_append.1 hp with q | q
    · exact h.ok.num p q
    · rw [List.mem_singleton.1 q]; exact hm
  · intro p hp
    rcases List.mem_append.1 hp with q | q
    · exact h.ok.len p q
    · rw [List.mem_singleton.1 q]; exact hz
theorem Live.put_shown {S : DS} (h : Live S) {m : Nat} (hm : m < S.safe.length) {f : Fr} (hw : wrong f = 0) : (putD S (m : Int) f).shown = S.shown.set m (putB S (m : Int) f) := by
  obtain ⟨_, _, e1, e2, _⟩ := h.put hm hw
  unfold DS.shown
  rw [e1, e2, over_snoc]
theorem Live.putB {S : DS} (h : Live S) {m : Nat} (hm : m < S.safe.length) {f : Fr} (hw : wrong f = 0) (hn : f.num < 18446744073709551616) :
    openE (putB S (m : Int) f) = 0 ∧ openR (putB S (m : Int) f) = f ∧ (at8 (putB S (m : Int) f) 511).toNat = ((at8 (S.shown.getD m ByteArray.empty) 511).toNat + 1) % 256 ∧ at8 (putB S (m : Int) f) 0 = at8 (putB S (m : Int) f) 511 := by
  unfold Proofs.YtnpcnflfpmjgiaaDoor.putB
  rw [h.readS hm]
  obtain ⟨h1, h2, _, h4⟩ := open_sealR hw hn (((at8 (S.shown.getD m ByteArray.empty) 511).toNat + 1) % 256) (by omega)
  exact ⟨h1, h2, h4, (opened_facts h1).2.1⟩
theorem Live.get {S : DS} (h : Live S) {m : Nat} (hm : m < S.safe.length) : getE S (m : Int) = openE (S.shown.getD m ByteArray.empty) ∧ getF S (m : Int) = openR (S.shown.getD m ByteArray.empty) := by
  unfold getE getF
  rw [if_pos (h.refuse hm), if_pos (h.refuse hm), h.readS hm]
  exact ⟨rfl, rfl⟩
theorem live_crash {S : DS} (h : S.Ok) (fs : List (Int × Int)) : Live (crashD S fs) := by
  refine ⟨⟨?_, ?_, ?_, ?_, ?_, Int.le_refl _, ?_, fun _ => rfl⟩, rfl, rfl⟩
  · show 1 ≤ (settle _ _ _ _).length; rw [length_settle]; exact h.one
  · show (settle _ _ _ _).length ≤ _; rw [length_settle]; exact h.most
  · exact size_settle (fateK_le fs) h.size h.num h.len
  · intro p hp; cases hp
  · intro p hp; cases hp
  · show (0 : Int) ≤ 9223372036854775807; omega
theorem live_fresh {l : List ByteArray} (h1 : 1 ≤ l.length) (h2 : l.length ≤ 4096) (h3 : ∀ s ∈ l, s.size = 512) : Live (freshD l) := ⟨freshD_ok h1 h2 h3, rfl, rfl⟩
/-- The disk of the first examples. -/
def awF1 : Fr := ⟨1, 2, 3, ⟨#[97, 98]⟩⟩
def awF2 : Fr := ⟨9, 0, 0, ⟨#[]⟩⟩
def awS0 : DS := freshD (List.replicate 1 zero512)
def awS1 : DS := putD awS0 0 awF1
def awS2 : DS := putD awS1 0 awF2
def awS3 : DS := crashD awS2 [(1, 0), (2, 100)]
theorem zero512_size : zero512.size = 512 := by unfold zero512; simp [ByteArray.size]
theorem zero512_last : at8 zero512 511 = 0 := by
  rw [at8_list, show zero512.data.toList = List.replicate 512 (0 : UInt8) from Array.toList_replicate, List.getElem?_replicate, if_pos (by decide)]
  rfl
theorem crashD_safe (S : DS) (fs : List (Int × Int)) : (crashD S fs).safe = settle (fateK fs) 0 S.safe S.wait := rfl
theorem crashD_shown (S : DS) (fs : List (Int × Int)) : (crashD S fs).shown = (crashD S fs).safe := rfl
set_option maxRecDepth 20000 in
theorem aw_all : putE awS0 0 awF1 = 0 ∧ putE awS1 0 awF2 = 0 ∧ getE awS3 0 = 50 ∧ awS0.wait.length = 0 ∧ awS1.wait.length = 1 := by
  have zz : ((0 : Nat) : Int) = 0 := rfl
  have l0 : Live awS0 := live_fresh (by simp) (by simp) (by intro s hs; rw [List.mem_replicate] at hs; rw [hs.2]; exact zero512_size)
  have w1 : wrong awF1 = 0 := rfl
  have w2 : wrong awF2 = 0 := rfl
  have hl0 : 0 < awS0.safe.length := by simp [awS0, freshD]
  have p1 := l0.put (m := 0) hl0 w1
  have q1 := l0.putB (m := 0) hl0 w1 (by decide)
  have hs1 : awS1.shown = awS0.shown.set 0 (Proofs.YtnpcnflfpmjgiaaDoor.putB awS0 0 awF1) := l0.put_shown (m := 0) hl0 w1
  rw [zz] at p1 q1
  rw [show putD awS0 0 awF1 = awS1 from rfl] at p1
  obtain ⟨a1, l1, a2, a3, a4⟩ := p1
  obtain ⟨b1, b2, b3, b4⟩ := q1
  have hl1 : 0 < awS1.safe.length := by rw [a2]; exact hl0
  have p2 := l1.put (m := 0) hl1 w2
  have q2 := l1.putB (m := 0) hl1 w2 (by decide)
  rw [zz] at p2 q2
  rw [show putD awS1 0 awF2 = awS2 from rfl] at p2
  obtain ⟨c1, l2, c2, c3, c4⟩ := p2
  obtain ⟨d1, d2, d3, d4⟩ := q2
  generalize Proofs.YtnpcnflfpmjgiaaDoor.putB awS0 0 awF1 = P1 at *
  generalize Proofs.YtnpcnflfpmjgiaaDoor.putB awS1 0 awF2 = P2 at *
  have g0 : awS0.shown = [zero512] := rfl
  have s0 : awS0.safe = [zero512] := rfl
  have t0 : awS0.wait = [] := rfl
  have e1 : (at8 P1 511).toNat = 1 := by
    rw [b3, g0, List.getD_cons_zero, zero512_last]; rfl
  have e2 : (at8 P2 511).toNat = 2 := by
    rw [d3, hs1, g0, List.set_cons_zero, List.getD_cons_zero, e1]
  have l3 : Live awS3 := live_crash l2.ok _
  have hsafe : awS3.safe = [tear P2 P1 100] := by
    have hx : awS3.safe = settle (fateK [(1, 0), (2, 100)]) 0 awS2.safe awS2.wait := crashD_safe awS2 [(1, 0), (2, 100)]
    rw [hx, c2, a2, s0, c3, a3, t0]
    clear hx
    have k0 : fateK [(1, 0), (2, 100)] 0 = 512 := by decide
    have k1 : fateK [(1, 0), (2, 100)] 1 = 100 := by decide
    generalize fateK [(1, 0), (2, 100)] = ks at *
    rw [List.nil_append, List.cons_append, List.nil_append, settle, settle, settle, Nat.zero_add, k0, k1]
    unfold lay
    simp only [List.getD_cons_zero, List.set_cons_zero]
    rw [tear_full a4]
  have hsh : awS3.shown.getD 0 ByteArray.empty = tear P2 P1 100 := by
    rw [show awS3.shown = awS3.safe from crashD_shown _ _, hsafe, List.getD_cons_zero]
  have g := (l3.get (m := 0) (by rw [hsafe]; simp)).1
  rw [zz] at g
  refine ⟨a1, c1, ?_, rfl, by rw [a3, t0]; rfl⟩
  rw [g, hsh]
  unfold openE
  rw [if_neg (by rw [size_tear c4 a4 (by decide)]; simp), if_pos]
  rw [tear_first c4 (by decide), tear_last c4 (by decide)]
  intro e
  have h1 := congrArg UInt8.toNat e
  have h2 := congrArg UInt8.toNat d4
  omega
end Go.Proofs.YtnpcnflfpmjgiaaDoor
