/- Two disks beside one another, the program's and the document's: settled, read. -/
import Derived.Test.YtbjpphoohoedcaaRg
import Derived.Test.YtbjpphoohoedcaaCk
namespace Go.Proofs.Ytbjpphoohoedcaa
open Go.RowKit
set_option linter.unusedVariables false
set_option linter.unusedSimpArgs false

structure Two (B : Nat) (w : World) (a b : Nat) (fa fb : Nat → Prop) (S T : DS) : Prop where
  da : Dk B w a fa S
  db : Rk B w b fb T
  dis : ∀ k, fa k → ¬ fb k
def TL (B a b : Nat) (fa fb : Nat → Prop) (w : World) (S T : DS) (w' : World) : Prop := ∃ fa' fb', Two B w' a b fa' fb' S T ∧ Kept (fun k => fa k ∨ fb k) w w' ∧ ∀ k, (fa' k ∨ fb' k) → (fa k ∨ fb k) ∨ w.heap.size ≤ k
section
variable {B : Nat} {w w' w'' : World} {a b : Nat} {fa fb : Nat → Prop} {S T S' T' : DS}
theorem Two.kept {K : Nat → Prop} (t : Two B w a b fa fb S T) (hk : Kept K w w') (hn : ∀ k, (fa k ∨ fb k) → ¬ K k) : Two B w' a b fa fb S T := ⟨t.da.kept hk (fun k h => hn k (.inl h)), t.db.kept hk (fun k h => hn k (.inr h)), t.dis⟩
theorem Two.below (t : Two B w a b fa fb S T) (hb : Below w.heap.size w w') : Two B w' a b fa fb S T := ⟨t.da.below hb, t.db.below hb, t.dis⟩
theorem Two.low (t : Two B w a b fa fb S T) : ∀ k, (fa k ∨ fb k) → B ≤ k ∧ k < w.heap.size := fun k h => h.elim (t.da.fp k) (t.db.fp k)
theorem Two.stepA (t : Two B w a b fa fb S T) (h : Left B a fa w S' w') : TL B a b fa fb w S' T w' := by
  obtain ⟨fa', d', hk, hn⟩ := h
  refine ⟨fa', fb, ⟨d', t.db.kept hk (fun k hb ha => t.dis k ha hb), fun k ha hb => ?_⟩, hk.mono (fun k _ h => .inl h), fun k h => ?_⟩
  · rcases hn k ha with h | h
    · exact t.dis k h hb
    · have := (t.db.fp k hb).2; omega
  · rcases h with h | h
    · exact (hn k h).elim (fun x => .inl (.inl x)) .inr
    · exact .inl (.inr h)
theorem Two.stepB (t : Two B w a b fa fb S T) (h : RLeft B b fb w T' w') : TL B a b fa fb w S T' w' := by
  obtain ⟨fb', d', hk, hn⟩ := h
  refine ⟨fa, fb', ⟨t.da.kept hk (fun k ha hb => t.dis k ha hb), d', fun k ha hb => ?_⟩, hk.mono (fun k _ h => .inr h), fun k h => ?_⟩
  · rcases hn k hb with h | h
    · exact t.dis k ha h
    · have := (t.da.fp k ha).2; omega
  · rcases h with h | h
    · exact .inl (.inl h)
    · exact (hn k h).elim (fun x => .inl (.inr x)) .inr
theorem TL.refl (t : Two B w a b fa fb S T) : TL B a b fa fb w S T w := ⟨fa, fb, t, Kept.refl _ _, fun k h => .inl h⟩
theorem TL.trans {fa1 fb1 : Nat → Prop} (hk : Kept (fun k => fa k ∨ fb k) w w') (hn : ∀ k, (fa1 k ∨ fb1 k) → (fa k ∨ fb k) ∨ w.heap.size ≤ k) (h : TL B a b fa1 fb1 w' S T w'') : TL B a b fa fb w S T w'' := by
  obtain ⟨fa2, fb2, t, hk2, hn2⟩ := h
  refine ⟨fa2, fb2, t, ⟨hk2.os.trans hk.os, hk2.tape.trans hk.tape, hk2.output.trans hk.output, Nat.le_trans hk.size hk2.size, fun i hi hs => (hk2.block i (Nat.lt_of_lt_of_le hi hk.size) (fun h => ?_)).trans (hk.block i hi hs)⟩, fun k h => ?_⟩
  · rcases hn i h with x | x
    · exact hs x
    · omega
  · rcases hn2 k h with x | x
    · exact hn k x
    · exact .inr (Nat.le_trans hk.size x)
theorem TL.then (h : TL B a b fa fb w S T w') (hb : Below w'.heap.size w' w'') : TL B a b fa fb w S T w'' := by
  obtain ⟨fa', fb', t, hk, hn⟩ := h
  exact ⟨fa', fb', t.below hb, hk.trans (Kept.of_below hb), hn⟩
theorem TL.start (t : Two B w' a b fa fb S' T') (hb : Below w.heap.size w w') (hl : ∀ k, (fa k ∨ fb k) → k < w.heap.size) (h : TL B a b fa fb w' S T w'') : TL B a b fa fb w S T w'' := TL.trans (Kept.of_below hb) (fun k h => .inl h) h
theorem Below_new (w : World) (o : Obj) : Below w.heap.size w (w.alloc o) := (Below.refl _ _).alloc (Nat.le_refl _) _
set_option maxHeartbeats 1000000 in
set_option maxRecDepth 100000 in
theorem settled_any (t : Two B w a b fa fb S S) : Calls Try.prog 16 #[.agg #[pt a, pt b]] w fun e w' => e = .returned (.bool true) ∧ Below w.heap.size w w' := by
  unfold pt
  obtain ⟨W, hW⟩ : ∃ W, W = w.alloc (.cells #[.pointer (some ⟨a, 0, none⟩), .pointer (some ⟨b, 0, none⟩)] 33) := ⟨_, rfl⟩
  have hbW : Below w.heap.size w W := hW ▸ Below_new _ _
  have hblk : Blk W w.heap.size #[.pointer (some ⟨a, 0, none⟩), .pointer (some ⟨b, 0, none⟩)] 33 := hW ▸ Blk.new _ _ _
  have t1 := t.below hbW
  obtain ⟨g, h, cg, ch, pv, bx, rfl, da⟩ := t1.da
  obtain ⟨g', cg', pv', rfl, db⟩ := t1.db
  have KP : Hid (∀ w1 : World, Below W.heap.size W w1 → w1.cell? ⟨w.heap.size, 0, none⟩ = some (.pointer (some ⟨a, 0, none⟩)) ∧ w1.cell? ⟨w.heap.size, 1, none⟩ = some (.pointer (some ⟨b, 0, none⟩))) := fun w1 hb => ⟨(hblk.below hb).cell 0 rfl, (hblk.below hb).cell 1 rfl⟩
  have k0 := hblk.cell 0 (v := .pointer (some ⟨a, 0, none⟩)) rfl
  have k1 := hblk.cell 1 (v := .pointer (some ⟨b, 0, none⟩)) rfl
  have C1 : Hid (∀ w1 : World, Below W.heap.size W w1 → Calls Try.prog 34 #[.pointer (some ⟨a, 0, none⟩)] w1 fun e w' => e = .returned (.int .i64 S.safe.length) ∧ w' = w1) := fun w1 hb => size_any (da.below hb)
  have C2 : Hid (∀ w1 : World, Below W.heap.size W w1 → Calls Try.prog 40 #[.pointer (some ⟨b, 0, none⟩)] w1 fun e w' => e = .returned (.int .i64 S.safe.length) ∧ w' = w1) := fun w1 hb => rsize_any (db.below hb)
  have C3 : Hid (∀ w1 : World, Below W.heap.size W w1 → Calls Try.prog 26 #[.pointer (some ⟨a, 0, none⟩)] w1 fun e w' => e = .returned (.bool S.off) ∧ w' = w1) := fun w1 hb => off_any (da.below hb)
  have C4 : Hid (∀ w1 : World, Below W.heap.size W w1 → Calls Try.prog 41 #[.pointer (some ⟨b, 0, none⟩)] w1 fun e w' => e = .returned (.bool S.off) ∧ w' = w1) := fun w1 hb => roff_any (db.below hb)
  have C5 : Hid (∀ w1 : World, Below W.heap.size W w1 → Calls Try.prog 33 #[.pointer (some ⟨a, 0, none⟩)] w1 fun e w' => e = .returned (.agg #[.int .i64 S.rd, .int .i64 S.wr, .int .i64 S.fl]) ∧ Hid (Below W.heap.size W w')) := fun w1 hb => (stats_any (da.below hb)).mono (fun e w' ⟨h1, h2⟩ => ⟨h1, bstep hb h2 (Nat.le_refl _)⟩)
  have C6 : Hid (∀ w1 : World, Below W.heap.size W w1 → Calls Try.prog 42 #[.pointer (some ⟨b, 0, none⟩)] w1 fun e w' => e = .returned (.agg #[.int .i64 S.rd, .int .i64 S.wr, .int .i64 S.fl]) ∧ Hid (Below W.heap.size W w')) := fun w1 hb => (rstats_any (db.below hb)).mono (fun e w' ⟨h1, h2⟩ => ⟨h1, bstep hb h2 (Nat.le_refl _)⟩)
  have heq : ∀ w : World, (binOp .eql 67 (.agg #[.int .i64 S.rd, .int .i64 S.wr, .int .i64 S.fl]) (.agg #[.int .i64 S.rd, .int .i64 S.wr, .int .i64 S.fl])).run Try.prog w = .ok (.bool true) w := fun w => by rw [run_eqS]; simp
  have HB : Hid (∀ w1 : World, Below W.heap.size W w1 → Below w.heap.size w w1) := fun w1 hb => bstep hbW hb (Nat.le_refl _)
  clear t t1 da db hblk hbW
  generalize S.rd = A1 at *
  generalize S.wr = A2 at *
  generalize S.fl = A3 at *
  generalize S.safe.length = A4 at *
  generalize S.off = A5 at *
  go_enter Try.func16, Try.ntmps16
  go_wp2_with fail
  rw [← hW]
  clear hW
  go_region_held3 (fun w' => w'.cell? ⟨w.heap.size, 0, none⟩ = some (.pointer (some ⟨a, 0, none⟩)) ∧ w'.cell? ⟨w.heap.size, 1, none⟩ = some (.pointer (some ⟨b, 0, none⟩)))
    (first | go_keep | exact KP.out _ ⟨h6.out.os, h6.out.tape, h6.out.output, h6.out.size, h6.out.block⟩ | exact KP.out _ ⟨h5.out.os, h5.out.tape, h5.out.output, h5.out.size, h5.out.block⟩ | exact KP.out _ ⟨rfl, rfl, rfl, Nat.le_refl _, fun _ _ => rfl⟩)
    (first
      | (go_at_call 34; refine (C1.out _ (by exact ⟨rfl, rfl, rfl, Nat.le_refl _, fun _ _ => rfl⟩)).mono ?_; rintro e w1 ⟨rfl, hw⟩; rw [hw]; clear hw)
      | (go_at_call 40; refine (C2.out _ (by exact ⟨rfl, rfl, rfl, Nat.le_refl _, fun _ _ => rfl⟩)).mono ?_; rintro e w2 ⟨rfl, hw⟩; rw [hw]; clear hw)
      | (go_at_call 26; refine (C3.out _ (by exact ⟨rfl, rfl, rfl, Nat.le_refl _, fun _ _ => rfl⟩)).mono ?_; rintro e w3 ⟨rfl, hw⟩; rw [hw]; clear hw)
      | (go_at_call 41; refine (C4.out _ (by exact ⟨rfl, rfl, rfl, Nat.le_refl _, fun _ _ => rfl⟩)).mono ?_; rintro e w4 ⟨rfl, hw⟩; rw [hw]; clear hw)
      | (go_at_call 33; refine (C5.out _ (by exact ⟨rfl, rfl, rfl, Nat.le_refl _, fun _ _ => rfl⟩)).mono ?_; rintro e w5 ⟨rfl, h5⟩)
      | (go_at_call 42; refine (C6.out _ (by exact ⟨h5.out.os, h5.out.tape, h5.out.output, h5.out.size, h5.out.block⟩)).mono ?_; rintro e w6 ⟨rfl, h6⟩))
  have hend : Hid (Below w.heap.size w w6) := HB.out _ ⟨h6.out.os, h6.out.tape, h6.out.output, h6.out.size, h6.out.block⟩
  clear h5 h6 KP C1 C2 C3 C4 C5 C6 HB
  go_wp2
  go_ret
  exact ⟨rfl, hend.out⟩
set_option maxHeartbeats 1000000 in
set_option maxRecDepth 100000 in
theorem pread_any (t : Two B w a b fa fb S S) (n : Int) : Calls Try.prog 17 #[.agg #[pt a, pt b], .int .i64 n] w fun e w' => e = .returned (.bool true) ∧ TL B a b fa fb w (readD S n) (readD S n) w' := by
  unfold pt
  obtain ⟨W, hW⟩ : ∃ W, W = w.alloc (.cells #[.pointer (some ⟨a, 0, none⟩), .pointer (some ⟨b, 0, none⟩)] 33) := ⟨_, rfl⟩
  have hbW : Below w.heap.size w W := hW ▸ Below_new _ _
  have hblk : Blk W w.heap.size #[.pointer (some ⟨a, 0, none⟩), .pointer (some ⟨b, 0, none⟩)] 33 := hW ▸ Blk.new _ _ _
  have t1 := t.below hbW
  have k0 := hblk.cell 0 (v := .pointer (some ⟨a, 0, none⟩)) rfl
  have C1 : Hid (Calls Try.prog 28 #[.pointer (some ⟨a, 0, none⟩), .int .i64 n] W fun e w' => e = .returned (.tuple #[.string (readS S n), .int .i64 (refuseD S n)]) ∧ Left B a fa W (readD S n) w') := read_any t1.da n
  have HT : Hid (Two B W a b fa fb S S) := t1
  have HK : Hid (Blk W w.heap.size #[.pointer (some ⟨a, 0, none⟩), .pointer (some ⟨b, 0, none⟩)] 33) := hblk
  have HN : Hid (∀ k, (fa k ∨ fb k) → k ≠ w.heap.size) := fun k h e => by have := (t.low k h).2; omega
  have HW : Hid (Below w.heap.size w W) := hbW
  have HL : Hid (∀ k, (fa k ∨ fb k) → k < w.heap.size) := fun k h => (t.low k h).2
  have C2 : Hid (∀ (w1 : World) (fb' : Nat → Prop), Rk B w1 b fb' S → Calls Try.prog 43 #[.pointer (some ⟨b, 0, none⟩), .int .i64 n] w1 fun e w' => e = .returned (.tuple #[.string (readS S n), .int .i64 (refuseD S n)]) ∧ RLeft B b fb' w1 (readD S n) w') := fun w1 fb' d => rread_any d n
  clear t t1 hblk hbW
  generalize readS S n = rs at *
  generalize refuseD S n = re at *
  go_enter Try.func17, Try.ntmps17
  go_wp2_with fail
  rw [← hW]
  clear hW
  refine C1.out.mono ?_
  rintro e w2 ⟨rfl, hL⟩
  obtain ⟨fa', fb', t2, hk2, hn2⟩ := HT.out.stepA hL
  have k1 := (HK.out.kept hk2 (fun e => HN.out _ e rfl)).cell 1 (v := .pointer (some ⟨b, 0, none⟩)) rfl
  have C3 : Hid (Calls Try.prog 43 #[.pointer (some ⟨b, 0, none⟩), .int .i64 n] w2 fun e w' => e = .returned (.tuple #[.string rs, .int .i64 re]) ∧ TL B a b fa fb w (readD S n) (readD S n) w') := (C2.out w2 fb' t2.db).mono (fun e w' ⟨h1, h2⟩ => ⟨h1, TL.start HT.out HW.out HL.out (TL.trans hk2 hn2 (t2.stepB h2))⟩)
  clear C1 C2 HT HK HN HW HL hL t2 hk2 hn2 k0
  go_wp2_with fail
  refine C3.out.mono ?_
  rintro e w3 ⟨rfl, hT⟩
  have HT : Hid (TL B a b fa fb w (readD S n) (readD S n) w3) := hT
  clear C3 hT
  go_wp2
  go_ret
  exact ⟨rfl, HT.out⟩
end
theorem catL_secs (s : ByteArray) (m : Nat) (hs : s.size = m * 512) : ∀ k, k ≤ m → catL (secs s k) = s.data.toList.take (k * 512) := by
  intro k
  induction k with
  | zero => intro _; simp [secs, catL]
  | succ k ih =>
    intro hk
    rw [secs_succ, catL_snoc, ih (by omega)]
    have e : (sec s k).data.toList = (s.data.toList.take ((k + 1) * 512)).drop (k * 512) := by
      unfold sec
      rw [ByteArray.data_extract]
      simp [List.drop_take]
    rw [e]
    have h2 : s.data.toList.take (k * 512) = (s.data.toList.take ((k + 1) * 512)).take (k * 512) := by rw [List.take_take, show min (k * 512) ((k + 1) * 512) = k * 512 by omega]
    rw [h2, List.take_append_drop]
theorem catB_secs (s : ByteArray) (m : Nat) (hs : s.size = m * 512) : catB (secs s m) = s := by
  have h : s.data.toList.length = s.size := by simp
  unfold catB
  rw [catL_secs s m hs m (Nat.le_refl _), List.take_of_length_le (by omega)]
end Go.Proofs.Ytbjpphoohoedcaa
