/- Package lex: what Tokens does with each word. -/
import Derived.Test.YtlgfpjaomiomjaaGreatDoorLk
namespace Go.Proofs.YtlgfpjaomiomjaaGreatDoor
open Go.RowKit
set_option linter.unusedVariables false
set_option linter.unusedSimpArgs false

theorem infoTok : (Tryz.prog.info? 39).map (fun i => (i.zero, i.size, i.bytes)) = some (some (.agg zero36), 6, 56) := by kernel_rfl
theorem info_tok {i0 : Nat} (h : (Tryz.prog.info? 39).map (fun i => (i.zero, i.size, i.bytes)) = some (some (.agg zero36), 6, 56)) : ∃ i, Tryz.prog.info? 39 = some i ∧ i.zero = some (.agg zero36) ∧ i.size = 6 ∧ i.bytes = 56 := by
  cases hi : Tryz.prog.info? 39 with
  | none => rw [hi] at h; cases h
  | some i =>
    rw [hi] at h
    simp only [Option.map_some, Option.some.injEq, Prod.mk.injEq] at h
    exact ⟨i, rfl, h.1, h.2.1, h.2.2⟩
/-- The words that were told so far, in a box. -/
structure Lst (B : Nat) (w : World) (lb : Nat) (sv : Value) (ts : List Tk) : Prop where
  blk : Blk w lb #[sv] 31
  row : w.ownsRow B 39 6 sv ts.length (tcells ts)
  low : lb < B
theorem Lst.kept {S : Nat → Prop} {B : Nat} {w w' : World} {lb : Nat} {sv : Value} {ts : List Tk} (h : Lst B w lb sv ts) (hk : Kept S w w') (h1 : ¬ S lb) (h2 : ∀ k, sv.ownBlock = some k → ¬ S k) : Lst B w' lb sv ts :=
  ⟨h.blk.kept hk h1, ownsRow_kept h.row hk h2, h.low⟩
theorem Lst.below {B : Nat} {w w' : World} {lb : Nat} {sv : Value} {ts : List Tk} (h : Lst B w lb sv ts) (hb : Below w.heap.size w w') : Lst B w' lb sv ts := h.kept (S := fun _ => False) (Kept.of_below hb) id (fun _ _ => id)
abbrev tkA (t : Tk) : Array Value := #[.int .i64 (t.kind : Int), .string ⟨t.text.toArray⟩, .int .u64 (hiOf t.val), .int .u64 (loOf t.val), .int .i64 (t.line : Int), .int .i64 (t.col : Int)]
set_option maxHeartbeats 2000000 in
set_option maxRecDepth 100000 in
theorem tell_any (B : Nat) (w : World) (lb : Nat) (sv : Value) (ts : List Tk) (t : Tk) (h : Lst B w lb sv ts) (hB : B ≤ w.heap.size) (hn : ts.length ≤ 1000000) :
    Calls Tryz.prog 13 #[.agg (tkA t), .pointer (some ⟨lb, 0, none⟩)] w fun e w' => e = .returned (.bool true) ∧ ∃ sv', Lst B w' lb sv' (ts ++ [t]) ∧ Kept (fun k => k = lb ∨ sv.ownBlock = some k) w w' ∧ (∀ k, sv'.ownBlock = some k → sv.ownBlock = some k ∨ w.heap.size ≤ k) := by
  obtain ⟨i36, hi36, hz0, hz1, hz3⟩ := info_tok (i0 := 0) infoTok
  have hlb : lb < w.heap.size := h.blk.lt
  have c0 := h.blk.cell 0 (v := sv) rfl
  have HL : Hid (Lst B w lb sv ts) := h
  have b1 : Below w.heap.size w (w.alloc (.cells (tkA t) 39)) := (Below.refl _ _).alloc (Nat.le_refl _) _
  have b2 : Below w.heap.size w ((w.alloc (.cells (tkA t) 39)).alloc (.cells (tkA t) 39)) := b1.alloc (by simp) _
  have HR0 : Hid (((w.alloc (.cells (tkA t) 39)).alloc (.cells (tkA t) 39)).ownsRow B 39 6 sv ts.length (tcells ts)) := (h.row.alloc _).alloc _
  have HN0 : Hid (∀ (j : Nat) (u : Value), (tkV t)[j]? = some u → ((w.alloc (.cells (tkA t) 39)).alloc (.cells (tkA t) 39)).cell? ((⟨w.heap.size + 1, 0, none⟩ : Addr).add j) = some u) := by
    have hbk : Blk ((w.alloc (.cells (tkA t) 39)).alloc (.cells (tkA t) 39)) (w.heap.size + 1) (tkA t) 39 := by
      have := Blk.new (w.alloc (.cells (tkA t) 39)) (tkA t) 39
      simpa using this
    exact World.news_of_block hbk
  have HO0 : Hid (∀ u ∈ tkV t, u.oneCell' = true) := fun u hu => by
    simp [tkV] at hu; rcases hu with rfl | rfl | rfl | rfl | rfl | rfl <;> rfl
  have HZ1 : Hid (ts.length + 1 ≤ maxLen) := by show _ ≤ _; unfold maxLen; omega
  have HZ2 : Hid ((ts.length + 1) * 56 ≤ 140737488355328) := by show _ ≤ _; omega
  have HZ3 : Hid (B ≤ ((w.alloc (.cells (tkA t) 39)).alloc (.cells (tkA t) 39)).heap.size) := by show _ ≤ _; simp; omega
  have HK0 : Hid (Below w.heap.size w ((w.alloc (.cells (tkA t) 39)).alloc (.cells (tkA t) 39))) := b2
  have hbig : lb < w.heap.size + 1 := by omega
  clear h hn b1 b2
  go_enter Tryz.func13, Tryz.ntmps13
  go_wp2_with (at_builtin; refine wpList_append_lies _ rfl _ _ 31 rfl B 39 i36 (.agg zero36) 6 56 Tryz.underlying31 hi36 hz0 hz1 hz3 rfl (by decide) sv ts.length (tcells ts) rfl HR0.out ⟨w.heap.size + 1, 0, none⟩ 1 1 (tkV t) rfl rfl HN0.out HO0.out (by decide) HZ1.out HZ2.out HZ3.out _ rfl ?_)
  intro g1 cap1 w4 hown1 hgr1 hwh1 hlt1
  have hKA : Kept (fun k => k = lb ∨ sv.ownBlock = some k) w w4 := ((Kept.of_below HK0.out)).grown hgr1 (fun k e => .inr e)
  have hnl : ¬ sv.ownBlock = some lb := fun e => by
    have := (HL.out.row.lt lb e).1
    have := HL.out.low
    omega
  have hblk4 : Blk w4 lb #[sv] 31 := HL.out.blk.kept (S := fun k => sv.ownBlock = some k) (((Kept.of_below HK0.out)).grown hgr1 (fun k e => e)) hnl
  have d0 := hblk4.cell 0 (v := sv) rfl
  have d1 := hblk4.frozen 0
  have HX : Hid (Lst B (w4.setCell ⟨lb, 0, none⟩ (.slice (some ⟨g1, 0, none⟩) (ts.length + 1) cap1)) lb (.slice (some ⟨g1, 0, none⟩) (ts.length + 1) cap1) (ts ++ [t]) ∧ Kept (fun k => k = lb ∨ sv.ownBlock = some k) w (w4.setCell ⟨lb, 0, none⟩ (.slice (some ⟨g1, 0, none⟩) (ts.length + 1) cap1)) ∧ (∀ k, (Value.slice (some ⟨g1, 0, none⟩) (ts.length + 1) cap1).ownBlock = some k → sv.ownBlock = some k ∨ w.heap.size ≤ k)) := by
    have hg : ∀ k, (Value.slice (some ⟨g1, 0, none⟩) (ts.length + 1) cap1).ownBlock = some k → sv.ownBlock = some k ∨ w.heap.size ≤ k := fun k e => by
      have hj : g1 = k := by simpa [Value.ownBlock] using e
      subst hj
      rcases hwh1 with e | e
      · exact .inl e
      · right; omega
    refine ⟨⟨hblk4.set 0 _, ?_, HL.out.low⟩, Kept.set (S := fun k => k = lb ∨ sv.ownBlock = some k) hKA (.inl rfl) _, hg⟩
    rw [tcells_snoc, List.length_append]
    refine ownsRow_kept (S := fun k => k = lb) hown1 (Kept.set (S := fun k => k = lb) (Kept.refl _ _) rfl _) (fun k e he => ?_)
    have := (hown1.lt k e).1
    have := HL.out.low
    omega
  clear hown1 hgr1 hwh1 hKA hnl hblk4 HR0 HN0 HO0 HZ1 HZ2 HZ3
  go_wp2
  go_ret
  exact ⟨rfl, _, HX.out⟩
end Go.Proofs.YtlgfpjaomiomjaaGreatDoor
