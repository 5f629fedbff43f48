/- Package lex: walk, over the words that Tokens gathers. -/
import Derived.Test.YtlgfpjaomiomjaaGreatDoorLm
import Derived.Deep.CutRange
namespace Go.Proofs.YtlgfpjaomiomjaaGreatDoor
open Go.RowKit
set_option linter.unusedVariables false
set_option linter.unusedSimpArgs false

theorem clone_any (s : ByteArray) (w : World) (h : s.size ≤ 281474976710656) : Calls Tryz.prog 17 #[.string s] w fun e w' => e = .returned (.string s) ∧ Below w.heap.size w w' := by
  have C : Hid (Calls Tryz.prog 29 #[.string s] w fun e w' => e = .returned (.string s) ∧ Below w.heap.size w w') := Tryz.stringslite_Clone s w h
  go_enter Tryz.func17, Tryz.ntmps17
  go_wp2_with fail
  refine C.out.mono ?_
  rintro e w1 ⟨rfl, hb⟩
  go_wp2
  go_ret
  exact ⟨rfl, hb⟩
abbrev fltA (f : Nat × Nat × Nat) : Array Value := #[.int .i64 (f.1 : Int), .int .i64 (f.2.1 : Int), .int .i64 (f.2.2 : Int)]
abbrev plA (p : Nat × Nat) : Array Value := #[.int .i64 (p.1 : Int), .int .i64 (p.2 : Int)]
/-- The boxes of the walk: the answer, the place, the words told. -/
structure Mid (w : World) (lb : Nat) (wr : World) (q : Nat × Nat) (done : List Tk) (sv : Value) : Prop where
  res : Blk wr w.heap.size (fltA (0, 0, 0)) 28
  at' : Blk wr (w.heap.size + 1) (plA q) 26
  lst : Lst (w.heap.size + 2) wr lb sv done
  kept : Kept (fun k => k = lb) w wr
theorem Mid.below {w : World} {lb : Nat} {wr wx : World} {q : Nat × Nat} {done : List Tk} {sv : Value} (h : Mid w lb wr q done sv) (hb : Below wr.heap.size wr wx) : Mid w lb wx q done sv :=
  ⟨h.res.below hb, h.at'.below hb, h.lst.below hb, h.kept.trans (Kept.of_below hb)⟩
theorem Mid.place {w : World} {lb : Nat} {wr : World} {q : Nat × Nat} {done : List Tk} {sv : Value} (h : Mid w lb wr q done sv) (hlb : lb < w.heap.size) (x y : Nat) : Mid w lb ((wr.setCell ⟨w.heap.size + 1, 0, none⟩ (.int .i64 (x : Int))).setCell ⟨w.heap.size + 1, 1, none⟩ (.int .i64 (y : Int))) (x, y) done sv := by
  have hk : Kept (fun k => k = w.heap.size + 1) wr ((wr.setCell ⟨w.heap.size + 1, 0, none⟩ (.int .i64 (x : Int))).setCell ⟨w.heap.size + 1, 1, none⟩ (.int .i64 (y : Int))) := Kept.set (S := fun k => k = w.heap.size + 1) (Kept.set (S := fun k => k = w.heap.size + 1) (Kept.refl _ _) rfl _) rfl _
  refine ⟨h.res.kept hk (by omega), (h.at'.set 0 _).set 1 _, h.lst.kept hk (by omega) (fun k e => ?_), ?_⟩
  · have := (h.lst.row.lt k e).1; omega
  · exact ⟨hk.os.trans h.kept.os, hk.tape.trans h.kept.tape, hk.output.trans h.kept.output, Nat.le_trans h.kept.size hk.size, fun i hi hs => (hk.block i (Nat.lt_of_lt_of_le hi h.kept.size) (by omega)).trans (h.kept.block i hi hs)⟩
theorem Mid.drew {w : World} {lb : Nat} {wr : World} {q : Nat × Nat} {done : List Tk} {sv : Value} (h : Mid w lb wr q done sv) : Mid w lb wr.drew q done sv :=
  h.below ((Below.refl _ _).drew)
theorem Mid.size {w : World} {lb : Nat} {wr : World} {q : Nat × Nat} {done : List Tk} {sv : Value} (h : Mid w lb wr q done sv) : w.heap.size + 2 ≤ wr.heap.size := h.at'.lt
theorem Kept.setRow {S : Nat → Prop} {a w : World} (h : Kept S a w) {g : Nat} (hg : S g ∨ a.heap.size ≤ g) (cs : Array Value) : Kept S a (w.setRow g cs) :=
  ⟨h.os, h.tape, h.output, by rw [setRow_size]; exact h.size, fun k hk hs => by
    rw [setRow_other w g k cs (fun e => by subst e; rcases hg with q | q; exact hs q; omega)]; exact h.block k hk hs⟩
theorem Mid.done {w : World} {lb : Nat} {wr : World} {q : Nat × Nat} {done : List Tk} {sv : Value} (h : Mid w lb wr q done sv) (hlb : lb < w.heap.size) (cs : Array Value) : ∃ sv, Lst (w.heap.size + 2) (wr.setRow w.heap.size cs) lb sv done ∧ Kept (fun k => k = lb) w (wr.setRow w.heap.size cs) := by
  have hk : Kept (fun k => k = w.heap.size) wr (wr.setRow w.heap.size cs) := Kept.setRow (S := fun k => k = w.heap.size) (Kept.refl _ _) (.inl rfl) cs
  refine ⟨sv, h.lst.kept hk (by omega) (fun k e => ?_), h.kept.setRow (.inr (Nat.le_refl _)) cs⟩
  have := (h.lst.row.lt k e).1; omega
theorem Mid.keep {S : Nat → Prop} {w : World} {lb : Nat} {wr wx : World} {q : Nat × Nat} {done : List Tk} {sv : Value} (h : Mid w lb wr q done sv) (hk : Kept S wr wx) (hlb : lb < w.heap.size) (h1 : ∀ k, k < w.heap.size + 2 → ¬ S k) (h2 : ∀ k, sv.ownBlock = some k → ¬ S k) : Mid w lb wx q done sv :=
  ⟨h.res.kept hk (h1 _ (by omega)), h.at'.kept hk (h1 _ (by omega)), h.lst.kept hk (h1 _ (by omega)) h2,
    ⟨hk.os.trans h.kept.os, hk.tape.trans h.kept.tape, hk.output.trans h.kept.output, Nat.le_trans h.kept.size hk.size, fun i hi hs => (hk.block i (Nat.lt_of_lt_of_le hi h.kept.size) (h1 i (by omega))).trans (h.kept.block i hi hs)⟩⟩
theorem Mid.told {w : World} {lb : Nat} {wr wx : World} {q : Nat × Nat} {done dn : List Tk} {sv s2 : Value} (h : Mid w lb wr q done sv) (hlb : lb < w.heap.size) (hk : Kept (fun k => k = lb ∨ sv.ownBlock = some k) wr wx) (hl : Lst (w.heap.size + 2) wx lb s2 dn) : Mid w lb wx q dn s2 := by
  have hs : ∀ k, k < w.heap.size + 2 → k ≠ lb → ¬ (k = lb ∨ sv.ownBlock = some k) := fun k h1 h2 h3 => by
    rcases h3 with e | e
    · exact h2 e
    · have := (h.lst.row.lt k e).1; omega
  exact ⟨h.res.kept hk (hs _ (by omega) (by omega)), h.at'.kept hk (hs _ (by omega) (by omega)), hl,
    ⟨hk.os.trans h.kept.os, hk.tape.trans h.kept.tape, hk.output.trans h.kept.output, Nat.le_trans h.kept.size hk.size, fun i hi hn => (hk.block i (Nat.lt_of_lt_of_le hi h.kept.size) (hs i (by omega) hn)).trans (h.kept.block i hi hn)⟩⟩
/-- What stands at the head of each round. -/
structure WalkAt (w : World) (lb : Nat) (T : List Tk × (Nat × Nat × Nat)) (n : Nat) (wr : World) (r : ByteArray) (p : Nat × Nat) (done : List Tk) (sv : Value) : Prop where
  eq1 : done ++ (lexF (r.size + 1) p r.data.toList).1 = T.1
  eq2 : (lexF (r.size + 1) p r.data.toList).2 = T.2
  len : done.length + r.size ≤ n
  place : p.1 + r.size ≤ n + 1 ∧ p.2 + r.size ≤ n + 1
  mid : Mid w lb wr p done sv
theorem past_le : ∀ (a : List UInt8) (p : Nat × Nat), (past p a).1 ≤ p.1 + a.length ∧ (past p a).2 ≤ p.2 + a.length
  | [], p => by simp [past]
  | c :: cs, p => by
    have := past_le cs (if c = 10 then (p.1 + 1, 1) else (p.1, p.2 + 1))
    rw [past]
    split at this
    · rename_i h; rw [if_pos h]; simp at this ⊢; omega
    · rename_i h; rw [if_neg h]; simp at this ⊢; omega
def szOf : Value → Nat
  | .string s => s.size
  | _ => 0
theorem info27 : (Tryz.prog.info? 26).map (·.size) = some 2 := by kernel_rfl
theorem info29 : (Tryz.prog.info? 28).map (·.size) = some 3 := by kernel_rfl
theorem one27 {a b : Int} {k1 k2 : IntKind} : (#[Value.int k1 a, .int k2 b]).all (·.oneCell') = true := by simp [Value.oneCell']
theorem one29 {a b c : Int} {k1 k2 k3 : IntKind} : (#[Value.int k1 a, .int k2 b, .int k3 c]).all (·.oneCell') = true := by simp [Value.oneCell']
set_option maxHeartbeats 4000000 in
set_option maxRecDepth 100000 in
theorem walk_any (s : ByteArray) (hs : s.size ≤ 65536) (w : World) (hT : Tabs w) (lb : Nat) (hl : Blk w lb #[.slice none 0 0] 31) (hlb : 4 < lb) :
    Calls Tryz.prog 12 #[.string s, .func (.func 13) #[] #[.pointer (some ⟨lb, 0, none⟩)]] w fun e w' => e = .returned (.agg (fltA (lexL s.data.toList).2)) ∧ ∃ sv, Lst (w.heap.size + 2) w' lb sv (lexL s.data.toList).1 ∧ Kept (fun k => k = lb) w w' := by
  have hlen : s.data.toList.length = s.size := by simp
  have hTl : lexL s.data.toList = lexF (s.size + 1) (1, 1) s.data.toList := by unfold lexL; rw [hlen]
  have hlw : lb < w.heap.size := hl.lt
  have HTl : Hid (lexL s.data.toList = lexF (s.size + 1) (1, 1) s.data.toList) := hTl
  have HS : Hid (∃ sv, WalkAt w lb (lexL s.data.toList) s.size ((w.alloc (.cells (fltA (0, 0, 0)) 28)).alloc (.cells (plA (1, 1)) 26)) s (1, 1) [] sv) := by
    refine ⟨.slice none 0 0, ⟨?_, ?_, ?_, ?_, ⟨?_, ?_, ?_, ?_⟩⟩⟩
    · rw [hTl]; rfl
    · rw [hTl]
    · simp
    · exact ⟨by show 1 + _ ≤ _; omega, by show 1 + _ ≤ _; omega⟩
    · exact (Blk.new w _ _).below ((Below.refl _ _).alloc (Nat.le_refl _) _)
    · simpa using Blk.new (w.alloc (.cells (fltA (0, 0, 0)) 28)) (plA (1, 1)) 26
    · have hb : Below w.heap.size w ((w.alloc (.cells (fltA (0, 0, 0)) 28)).alloc (.cells (plA (1, 1)) 26)) := ((Below.refl _ _).alloc (Nat.le_refl _) _).alloc (by simp) _
      exact ⟨hl.below hb, World.ownsRow_nil _ _ _ _, by omega⟩
    · exact ((Kept.refl _ _).alloc _).alloc _
  generalize lexL s.data.toList = TL at *
  have HT : Hid (Tabs w) := hT
  clear hT hl hTl hlen
  go_enter Tryz.func12, Tryz.ntmps12
  go_wp2
  go_loopw [0] (fun t wr => ∃ r p done sv, t = .string r ∧ WalkAt w lb TL s.size wr r p done sv) (fun t _ => szOf t)
  case atStart => obtain ⟨sv, h⟩ := HS.out; exact ⟨s, (1, 1), [], sv, rfl, h⟩
  case round =>
    obtain ⟨r, p, done, sv, rfl, hW⟩ := hrel
    obtain ⟨eq1, eq2, hlenr, ⟨hp1, hp2⟩, hM⟩ := hW
    have HEQ1 : Hid (done ++ (lexF (r.size + 1) p r.data.toList).1 = TL.1) := eq1
    have HEQ2 : Hid ((lexF (r.size + 1) p r.data.toList).2 = TL.2) := eq2
    have HM : Hid (Mid w lb wr p done sv) := hM
    have HTr : Hid (∀ wx q dn s2, Mid w lb wx q dn s2 → Tabs wx) := fun wx q dn s2 h => HT.out.kept h.kept (fun k hk e => by omega)
    have CG : Hid (Calls Tryz.prog 19 #[.string r] wr fun e w' => e = .returned (.int .i64 (gapL false r.data.toList)) ∧ Below wr.heap.size wr w') := gap_any r (by unfold maxLen; omega) wr
    have hgl := gap_le r.data.toList false
    have hrl : r.data.toList.length = r.size := by simp
    rw [hrl] at hgl
    obtain ⟨g, hg⟩ : ∃ g, g = gapL false r.data.toList := ⟨_, rfl⟩
    rw [← hg] at CG hgl
    have HG : Hid (g = gapL false r.data.toList) := hg
    clear eq1 eq2 hM hg HS
    go_wp2_with fail
    refine CG.out.mono ?_
    rintro e w1 ⟨rfl, hb1⟩
    have HM1 : Hid (Mid w lb w1 p done sv) := HM.out.below hb1
    clear HM CG hb1
    have hq := past_le (r.data.toList.take g) p
    have htl : (r.data.toList.take g).length = g := by rw [List.length_take]; omega
    rw [htl] at hq
    obtain ⟨q, hqe⟩ : ∃ q, q = past p (r.data.toList.take g) := ⟨_, rfl⟩
    have CB : Hid (Calls Tryz.prog 20 #[Pl p, .string (r.extract 0 g)] w1.drew fun e w'' => e = .returned (Pl q) ∧ w''.cell? ⟨w.heap.size + 1, 0, none⟩ = some (.int .i64 (p.1 : Int)) ∧ w''.cell? ⟨w.heap.size + 1, 1, none⟩ = some (.int .i64 (p.2 : Int)) ∧ w''.frozen? ⟨w.heap.size + 1, 0, none⟩ = false ∧ w''.frozen? ⟨w.heap.size + 1, 1, none⟩ = false ∧ Hid (Mid w lb w'' p done sv)) := by
      show Calls _ _ _ _ _
      have hbw : Below w1.heap.size w1 w1.drew := (Below.refl _ _).drew
      have := behind_any p (r.extract 0 g) (by omega) (by omega) (by simp; omega) w1.drew
      rw [ext_list, List.drop_zero, ← hqe] at this
      refine this.mono ?_
      rintro e w'' ⟨rfl, hb⟩
      have hm := (HM1.out.below hbw).below hb
      exact ⟨rfl, hm.at'.cell 0 rfl, hm.at'.cell 1 rfl, hm.at'.frozen 0, hm.at'.frozen 1, hm⟩
    rw [← hqe] at hq
    have HQ : Hid (q = past p (r.data.toList.take g)) := hqe
    clear hqe htl
    have a0 := HM1.out.at'.cell 0 (v := .int .i64 (p.1 : Int)) rfl
    have a1 := HM1.out.at'.cell 1 (v := .int .i64 (p.2 : Int)) rfl
    go_wp2
    go_cut [] from 10 to 52 (fun wx => Hid (Mid w lb wx q done sv))
    case first =>
      go_region_with (go_at_call 20; refine CB.out.mono ?_; rintro e w2 ⟨rfl, d0, d1, f0, f1, HM2⟩)
      all_goals (go_wp2_with fail; go_meet; exact HM2.out.place hlw q.1 q.2)
    case rest =>
      have hlen2 : r.data.toList.length = r.size := by simp
      obtain ⟨R, hRe⟩ : ∃ R, r.extract g r.size = R := ⟨_, rfl⟩
      have hRl : R.data.toList = r.data.toList.drop g := by rw [← hRe, ext_list, List.take_of_length_le (by omega)]
      have hRs : R.size = r.size - g := by rw [← hRe]; simp
      have HRl : Hid (r.data.toList.drop (gapL false r.data.toList) = R.data.toList) := by show _ = _; rw [hRl, ← HG.out]
      have HQ2 : Hid (past p (r.data.toList.take (gapL false r.data.toList)) = q) := by show _ = _; rw [HQ.out, ← HG.out]
      clear hRl a0 a1 HM1 CB HG HQ hlen2
      cases h0 : R.data.toList.isEmpty
      · have q0 : R.toList.isEmpty = false := by rw [ByteArray.toList_eq]; exact h0
        have hne : R.data.toList ≠ [] := List.isEmpty_eq_false_iff.1 h0
        have HNE : Hid (R.data.toList ≠ []) := hne
        have CF : Hid (Calls Tryz.prog 21 #[.string R] wc fun e w' => e = .returned (wdV (firstW R.data.toList)) ∧ Below wc.heap.size wc w') := first_any R (by omega) wc (HTr.out _ _ _ _ hcut.out)
        have HTX : Hid ((firstW R.data.toList).e = 0 → 1 ≤ (firstW R.data.toList).text.length ∧ (firstW R.data.toList).text.length ≤ R.size) := fun h => by
          have h1 := firstW_text _ h
          have h2 := firstW_len _ h
          have h3 : R.data.toList.length = R.size := by simp
          omega
        obtain ⟨x, hx⟩ : ∃ x, firstW R.data.toList = x := ⟨_, rfl⟩
        have HX : Hid (firstW R.data.toList = x) := hx
        rw [hx] at CF HTX
        obtain ⟨kd, tx, vl, er⟩ := x
        clear h0 hne hx
        go_wp2_with fail
        refine CF.out.mono ?_
        rintro e w3 ⟨rfl, hb3⟩
        have HM3 : Hid (Mid w lb (w3.alloc (.cells #[.int .i64 (kd : Int), .string ⟨tx.toArray⟩, .int .u64 (hiOf vl), .int .u64 (loOf vl), .int .i64 0, .int .i64 0] 39)) q done sv) := (hcut.out.below hb3).below ((Below.refl _ _).alloc (Nat.le_refl _) _)
        have HW3 : Hid (Blk (w3.alloc (.cells #[.int .i64 (kd : Int), .string ⟨tx.toArray⟩, .int .u64 (hiOf vl), .int .u64 (loOf vl), .int .i64 0, .int .i64 0] 39)) w3.heap.size #[.int .i64 (kd : Int), .string ⟨tx.toArray⟩, .int .u64 (hiOf vl), .int .u64 (loOf vl), .int .i64 0, .int .i64 0] 39) := Blk.new _ _ _
        have hz3 : w.heap.size + 2 ≤ w3.heap.size := Nat.le_trans hcut.out.size hb3.size
        have HSV : Hid (∀ k, sv.ownBlock = some k → k < w3.heap.size) := fun k e => Nat.lt_of_lt_of_le (hcut.out.lst.row.lt k e).2 hb3.size
        unfold wdV
        clear CF hb3
        by_cases he : er = 0
        · subst he
          obtain ⟨n1, n2⟩ := HTX.out rfl
          have m1 : 1 ≤ tx.length := n1
          have m2 : tx.length ≤ R.size := n2
          clear n1 n2
          obtain ⟨tb, htb⟩ : ∃ tb : ByteArray, tb = ⟨tx.toArray⟩ := ⟨_, rfl⟩
          have htbs : tb.size = tx.length := by rw [htb]; show tx.toArray.size = _; simp
          have HTB : Hid (tb.data.toList = tx) := by show _ = _; rw [htb]
          have HTB2 : Hid (tb = ⟨tx.toArray⟩) := htb
          rw [← htb] at HM3 HW3 ⊢
          clear htb
          go_wp2_with fail
          refine (clone_any tb _ (by omega)).mono ?_
          rintro e w5 ⟨rfl, hb5⟩
          have HM5 : Hid (Mid w lb w5 q done sv) := HM3.out.below hb5
          have HW5 : Hid (Blk w5 w3.heap.size #[.int .i64 (kd : Int), .string tb, .int .u64 (hiOf vl), .int .u64 (loOf vl), .int .i64 0, .int .i64 0] 39) := HW3.out.below hb5
          have hz5 : w3.heap.size < w5.heap.size := HW5.out.lt
          clear HM3 HW3 hb5
          have a0 := HM5.out.at'.cell 0 (v := .int .i64 (q.1 : Int)) rfl
          have a1 := HM5.out.at'.cell 1 (v := .int .i64 (q.2 : Int)) rfl
          have k0 := HW5.out.cell 0 (v := .int .i64 (kd : Int)) rfl
          have k1 := HW5.out.cell 1 (v := .string tb) rfl
          have k2 := HW5.out.cell 2 (v := .int .u64 (hiOf vl)) rfl
          have k3 := HW5.out.cell 3 (v := .int .u64 (loOf vl)) rfl
          have k4 := HW5.out.cell 4 (v := .int .i64 0) rfl
          have k5 := HW5.out.cell 5 (v := .int .i64 0) rfl
          have f1 := HW5.out.frozen 1
          have f4 := HW5.out.frozen 4
          have f5 := HW5.out.frozen 5
          have ne1 : ¬ (w3.heap.size = w.heap.size + 1) := by omega
          have ne2 : ¬ (w.heap.size + 1 = w3.heap.size) := by omega
          have HW6 : Hid (Blk (((w5.setCell ⟨w3.heap.size, 1, none⟩ (.string tb)).setCell ⟨w3.heap.size, 4, none⟩ (.int .i64 (q.1 : Int))).setCell ⟨w3.heap.size, 5, none⟩ (.int .i64 (q.2 : Int))) w3.heap.size (tkA ⟨kd, tx, vl, q.1, q.2⟩) 39) := by
            have := ((HW5.out.set 1 (.string tb)).set 4 (.int .i64 (q.1 : Int))).set 5 (.int .i64 (q.2 : Int))
            unfold tkA
            rw [← HTB2.out]
            exact this
          have HM6 : Hid (Mid w lb (((w5.setCell ⟨w3.heap.size, 1, none⟩ (.string tb)).setCell ⟨w3.heap.size, 4, none⟩ (.int .i64 (q.1 : Int))).setCell ⟨w3.heap.size, 5, none⟩ (.int .i64 (q.2 : Int))) q done sv) := by
            refine HM5.out.keep (S := fun k => k = w3.heap.size) (Kept.set (S := fun k => k = w3.heap.size) (Kept.set (S := fun k => k = w3.heap.size) (Kept.set (S := fun k => k = w3.heap.size) (Kept.refl _ _) rfl _) rfl _) rfl _) hlw (fun k hk e => by omega) (fun k e e2 => ?_)
            have := HSV.out k e
            omega
          have CT : Hid (Calls Tryz.prog 13 #[.agg #[.int .i64 (kd : Int), .string tb, .int .u64 (hiOf vl), .int .u64 (loOf vl), .int .i64 (q.1 : Int), .int .i64 (q.2 : Int)], .pointer (some ⟨lb, 0, none⟩)] (((w5.setCell ⟨w3.heap.size, 1, none⟩ (.string tb)).setCell ⟨w3.heap.size, 4, none⟩ (.int .i64 (q.1 : Int))).setCell ⟨w3.heap.size, 5, none⟩ (.int .i64 (q.2 : Int))) fun e w' => e = .returned (.bool true) ∧ ∃ s2, Hid (Mid w lb w' q (done ++ [⟨kd, tx, vl, q.1, q.2⟩]) s2 ∧ Blk w' w3.heap.size (tkA ⟨kd, tx, vl, q.1, q.2⟩) 39)) := by
            show Calls _ _ _ _ _
            rw [show Value.string tb = .string ⟨tx.toArray⟩ by rw [HTB2.out]] 
            rw [show Value.string tb = .string ⟨tx.toArray⟩ by rw [HTB2.out]] at HM6 HW6
            refine (tell_any (w.heap.size + 2) _ lb sv done ⟨kd, tx, vl, q.1, q.2⟩ HM6.out.lst HM6.out.size (by omega)).mono ?_
            rintro e w' ⟨rfl, s2, hl2, hk2, _⟩
            refine ⟨rfl, s2, HM6.out.told hlw hk2 hl2, HW6.out.kept hk2 (fun e => ?_)⟩
            rcases e with e | e
            · omega
            · have := HSV.out _ e; omega
          clear HM6 HW6
          go_wp2_with fail
          refine CT.out.mono ?_
          rintro e w7 ⟨rfl, s2, HM7⟩
          clear CT a0 a1 k0 k1 k2 k3 k4 k5 f1 f4 f5
          have a0 := HM7.out.1.at'.cell 0 (v := .int .i64 (q.1 : Int)) rfl
          have a1 := HM7.out.1.at'.cell 1 (v := .int .i64 (q.2 : Int)) rfl
          have k1 : w7.cell? ⟨w3.heap.size, 1, none⟩ = some (.string tb) := by rw [HTB2.out]; exact HM7.out.2.cell 1 rfl
          have CB2 : Hid (Calls Tryz.prog 20 #[Pl q, .string tb] w7 fun e w'' => e = .returned (Pl (past q tx)) ∧ Below w7.heap.size w7 w'') := by
            have := behind_any q tb (by omega) (by omega) (by omega) w7
            rw [HTB.out] at this
            exact this
          have hq3 := past_le tx q
          obtain ⟨q2, hq2⟩ : ∃ q2, q2 = past q tx := ⟨_, rfl⟩
          rw [← hq2] at CB2 hq3
          have E : Hid (∃ hs2 : (R.extract tx.length (r.size - g)).size = r.size - g - tx.length, (done ++ [⟨kd, tx, vl, q.1, q.2⟩]) ++ (lexF ((R.extract tx.length (r.size - g)).size + 1) q2 (R.extract tx.length (r.size - g)).data.toList).1 = TL.1 ∧ (lexF ((R.extract tx.length (r.size - g)).size + 1) q2 (R.extract tx.length (r.size - g)).data.toList).2 = TL.2) := by
            have hs2 : (R.extract tx.length (r.size - g)).size = r.size - g - tx.length := by simp; omega
            have hl2 : (R.extract tx.length (r.size - g)).data.toList = R.data.toList.drop tx.length := by
              have h3 : R.data.toList.length = R.size := by simp
              rw [ext_list, List.take_of_length_le (by omega)]
            have e1 := HEQ1.out
            have e2 := HEQ2.out
            have hf := lex_word (f := r.size) (p := p) HRl.out HNE.out HX.out rfl HQ2.out
            simp only at hf
            rw [hf] at e1 e2
            simp only at e1 e2
            refine ⟨hs2, ?_⟩
            have h3 : R.data.toList.length = R.size := by simp
            rw [hs2, hl2, hq2, lex_fuel (r.size - g - tx.length + 1) r.size _ _ (by rw [List.length_drop]; omega) (by rw [List.length_drop]; omega)]
            refine ⟨?_, e2⟩
            rw [← e1, List.append_assoc]; rfl
          clear hq2
          go_wp2_with fail
          refine CB2.out.mono ?_
          rintro e w8 ⟨rfl, hb8⟩
          have HM8 : Hid (Mid w lb w8 q (done ++ [⟨kd, tx, vl, q.1, q.2⟩]) s2) := HM7.out.1.below hb8
          clear CB2 hb8 a0 a1 k1 HM7
          have a0 := HM8.out.at'.cell 0 (v := .int .i64 (q.1 : Int)) rfl
          have a1 := HM8.out.at'.cell 1 (v := .int .i64 (q.2 : Int)) rfl
          have f0 := HM8.out.at'.frozen 0
          have f1 := HM8.out.at'.frozen 1
          go_wp2_with fail
          obtain ⟨hs2, E1, E2⟩ := E.out
          go_roundw
          case rel => exact ⟨_, q2, _, s2, rfl, ⟨E1, E2, by rw [hs2, List.length_append]; simp; omega, ⟨by rw [hs2]; omega, by rw [hs2]; omega⟩, HM8.out.place hlw q2.1 q2.2⟩⟩
          case measure => simp only [szOf]; rw [hs2]; omega
        · have he' : ((er : Int) != 0) = true := by simp [he]
          have E : Hid (TL = (done, (er, q.1, q.2))) := by
            show _ = _
            have e1 := HEQ1.out
            have e2 := HEQ2.out
            have hf := lex_fault (f := r.size) (p := p) HRl.out HNE.out (by rw [HX.out]; exact he)
            rw [hf, HX.out, HQ2.out] at e1 e2
            simp only [List.append_nil] at e1
            exact Prod.ext e1.symm e2.symm
          have a0 := HM3.out.at'.cell 0 (v := .int .i64 (q.1 : Int)) rfl
          have a1 := HM3.out.at'.cell 1 (v := .int .i64 (q.2 : Int)) rfl
          clear he
          go_wp2_with (refine wpList_store_row rfl 28 _ _ rfl w.heap.size _ rfl rfl 28 _ HM3.out.res info29 rfl one29 ?_)
          refine bodyPost_ret (v := .agg (fltA TL.2)) ?_ rfl ⟨rfl, ?_⟩
          · rw [E.out]; simp [results, Tryz.results12, go_sem, row_back HM3.out.res]
          · rw [E.out]; exact HM3.out.done hlw _
      · have q0 : R.toList.isEmpty = true := by rw [ByteArray.toList_eq]; exact h0
        have E : Hid (TL = (done, (0, 0, 0))) := by
          show _ = _
          have e1 := HEQ1.out
          have e2 := HEQ2.out
          have hf := lex_end (f := r.size) (p := p) (HRl.out.trans (List.isEmpty_iff.1 h0))
          rw [hf] at e1 e2
          simp only [List.append_nil] at e1
          exact Prod.ext e1.symm e2.symm
        clear h0
        go_wp2_with (refine wpList_store_row rfl 28 _ _ rfl w.heap.size _ rfl rfl 28 _ hcut.out.res info29 rfl one29 ?_)
        refine bodyPost_ret (v := .agg (fltA TL.2)) ?_ rfl ⟨rfl, ?_⟩
        · rw [E.out]; simp [results, Tryz.results12, go_sem, row_back hcut.out.res]
        · rw [E.out]; exact hcut.out.done hlw _
end Go.Proofs.YtlgfpjaomiomjaaGreatDoor
