/- Package exact: sorted: a list of their own of the taken places, by rising texts. -/
import Derived.Test.YtkcjcidndckgbaaSb
namespace Go.Proofs.Ytkcjcidndckgbaa
open Go.RowKit Go.Sort
set_option linter.unusedVariables false
set_option linter.unusedSimpArgs false

def flatS (l : List (ByteArray × Int)) : List Value := (l.map encS).flatten
theorem flatS_len (l : List (ByteArray × Int)) : (flatS l).length = l.length * 4 := by
  induction l with
  | nil => rfl
  | cons a l ih =>
    show (encS a ++ flatS l).length = _
    rw [List.length_append, ih, List.length_cons, show (encS a).length = 4 from encI_len _]; omega
theorem flatS_cons (a : ByteArray × Int) (l : List (ByteArray × Int)) : flatS (a :: l) = encS a ++ flatS l := by unfold flatS; rw [List.map_cons, List.flatten_cons]
theorem flatS_get (l : List (ByteArray × Int)) : ∀ (i : Nat) (x : ByteArray × Int), l[i]? = some x → ∀ (j : Nat) (v : Value), (encS x)[j]? = some v → (flatS l)[i * 4 + j]? = some v := by
  induction l with
  | nil => intro i x hx; simp at hx
  | cons a l ih =>
    intro i x hx j v hv
    have h4 : (encS a).length = 4 := encI_len _
    rw [flatS_cons]
    cases i with
    | zero =>
      have hx' : a = x := by simpa using hx
      subst hx'
      have hj : j < 4 := Nat.lt_of_lt_of_eq (List.getElem?_eq_some_iff.1 hv).1 h4
      rw [Nat.zero_mul, Nat.zero_add, List.getElem?_append_left (by rw [h4]; exact hj)]
      exact hv
    | succ i =>
      rw [List.getElem?_append_right (by rw [h4]; omega), h4, show (i + 1) * 4 + j - 4 = i * 4 + j by omega]
      exact ih i x (by simpa using hx) j v hv
theorem flatS_snoc (l : List (ByteArray × Int)) (x : ByteArray × Int) : flatS (l ++ [x]) = flatS l ++ encS x := by
  unfold flatS; simp
theorem row_owns {w : World} {base g n cap : Nat} {l : List (ByteArray × Int)} (h : w.ownsRow base 89 4 (.slice (some ⟨g, 0, none⟩) n cap) n (flatS l)) (hn : n = l.length) : RowOf 89 4 encS w g l := by
  subst hn
  rcases h.2 with ⟨e, _⟩ | ⟨g', cap', cur, e, _, hb, h4, _, hs, ht⟩
  · cases e
  · simp only [Value.slice.injEq, Option.some.injEq, Addr.mk.injEq, and_true, true_and] at e
    obtain ⟨rfl, rfl⟩ := e
    refine ⟨cur, hb, by rw [hs]; exact Nat.mul_le_mul_right 4 h4, fun i x hx j v hv => ?_⟩
    have h1 := flatS_get l i x hx j v hv
    rw [← ht] at h1
    have hlt : i * 4 + j < l.length * 4 := by
      have hj : j < 4 := Nat.lt_of_lt_of_eq (List.getElem?_eq_some_iff.1 hv).1 (encI_len _)
      have := (List.getElem?_eq_some_iff.1 hx).1
      omega
    rw [List.getElem?_take_of_lt hlt, Array.getElem?_toList] at h1
    exact h1
theorem low_owns {β : Type} (m base g cap : Nat) (f : β → List Value) (n : β → Nat) (hg : g < m) : Low m (fun s W => W.ownsRow base 89 4 (.slice (some ⟨g, 0, none⟩) (n s) cap) (n s) (f s)) := fun s A C hk hj =>
  ownsRow_kept hj hk (fun k hk' => by simp [Value.ownBlock] at hk'; omega)
attribute [local go_sem] Oper.semAt_some
set_option maxHeartbeats 8000000 in
set_option maxRecDepth 100000 in
theorem sortedI_any (q b most cap : Nat) (r : List (Pl Int)) (w : World) (h : MapAt w q b most r cap) (m : Nat) :
    CallsIn Fence.wide m Try.prog 43 #[.pointer (some ⟨q, 0, none⟩)] w fun e w' => ∃ g cp ys, e = .returned (.slice (some ⟨g, 0, none⟩) ys.length cp) ∧ ys.Perm (cont r) ∧ Srt ys ∧ CellsOf 4 encS w' g ys ∧ Below w.heap.size w w' ∧ w.heap.size ≤ g ∧ g < w'.heap.size := by
  have HM : Hid (MapAt w q b most r cap) := h
  have hb4 := h.big
  have hmost := h.most
  have c1 := h.hd.cell 1 (v := .int .i64 (cont r).length) rfl
  have CB : Hid (∀ w, CallsIn Fence.wide (m - 1) Try.prog 63 #[.slice (some ⟨b, 0, none⟩) r.length cap] w fun e w' => e = .returned (.func (.func 86) #[] #[.pointer (some ⟨w.heap.size, 0, none⟩)]) ∧ Blk w' w.heap.size #[.slice (some ⟨b, 0, none⟩) r.length cap] 75 ∧ Below w.heap.size w w') := fun w => callsIn_wide.2 (takenI_any (some ⟨b, 0, none⟩) r.length cap w)
  obtain ⟨i0, hi, hz0, hz1, hz2⟩ := info_of info89
  obtain ⟨c, hc⟩ : ∃ c, c = (cont r).length := ⟨_, rfl⟩
  have HC : Hid (c = (cont r).length) := hc
  rw [← hc] at c1 hmost
  have hb1 : Hid (i0.bytes * c ≤ 281474976710656) := by show _ ≤ _; rw [hz2]; omega
  have hb2 : Hid (c ≤ maxLen) := by show _ ≤ _; unfold maxLen; omega
  clear h hc
  refine callsIn_of_wp_marks Try.func43 rfl trivial ?_ rfl
  simp only [Try.ntmps43, List.size_toArray, List.length_cons, List.length_nil, Nat.reduceAdd, Nat.reduceSub, Array.replicate_succ, Array.replicate_zero, List.push_toArray, List.append_toArray, List.nil_append, List.cons_append]
  gi_wp2_with (gi_at_make; refine wpListIn_make_own _ rfl _ _ 74 rfl w.heap.size 89 i0 (.agg #[.bool false, .int .u32 0, .string ⟨#[]⟩, .int .i64 0]) 4 Try.underlying74 hi hz0 hz1 _ _ _ c rfl rfl rfl hb1.out hb2.out (Nat.le_refl _) ?_)
  intro w0 hown hgr
  have HO : Hid (w0.ownsRow w.heap.size 89 4 (.slice (some ⟨w.heap.size, 0, none⟩) 0 c) 0 []) := hown
  have HB0 : Hid (Below w.heap.size w w0) := ⟨hgr.os, hgr.tape, hgr.output, hgr.size, fun k hk => hgr.block k hk (by simp)⟩
  clear hown hgr hb1 hb2 c1
  have HA : Hid (Below w0.heap.size w0 (w0.alloc (.cells #[.slice (some ⟨w.heap.size, 0, none⟩) 0 c] 74))) := (Below.refl _ _).alloc (Nat.le_refl _) _
  have HX : Hid (Blk (w0.alloc (.cells #[.slice (some ⟨w.heap.size, 0, none⟩) 0 c] 74)) w0.heap.size #[.slice (some ⟨w.heap.size, 0, none⟩) 0 c] 74) := Blk.new w0 _ 74
  have HMA : Hid (MapAt (w0.alloc (.cells #[.slice (some ⟨w.heap.size, 0, none⟩) 0 c] 74)) q b most r cap) := (HM.out.below HB0.out).below HA.out
  have c2 := HMA.out.hd.cell 2 (v := .slice (some ⟨b, 0, none⟩) r.length cap) rfl
  gi_wp2_with fail
  refine ⟨trivial, no_depth _, ?_⟩
  refine (CB.out _).mono ?_
  rintro e w1 ⟨rfl, hbx, hb1⟩
  have HB1 : Hid (Below w0.heap.size w0 w1) := HA.out.trans (hb1.mono HA.out.size)
  have HX1 : Hid (Blk w1 w0.heap.size #[.slice (some ⟨w.heap.size, 0, none⟩) 0 c] 74) := HX.out.below hb1
  have HM1 : Hid (MapAt w1 q b most r cap) := HMA.out.below hb1
  rw [World.size_alloc] at hbx ⊢
  have HY1 : Hid (Blk w1 (w0.heap.size + 1) #[.slice (some ⟨b, 0, none⟩) r.length cap] 75) := hbx
  have HBw : Hid (Below w.heap.size w w1) := HB0.out.trans (HB1.out.mono HB0.out.size)
  have HO1 : Hid (w1.ownsRow w.heap.size 89 4 (.slice (some ⟨w.heap.size, 0, none⟩) 0 c) 0 []) := ownsRow_kept HO.out (Kept.of_below (S := fun _ => False) HB1.out) (fun k _ => id)
  have hz0' := HB0.out.size
  have hgl : w.heap.size < w0.heap.size := by
    rcases HO.out.2 with ⟨e, _⟩ | ⟨g', cap', cur, e, _, hb, _⟩
    · cases e
    · simp only [Value.slice.injEq, Option.some.injEq, Addr.mk.injEq, and_true, true_and] at e
      rw [← e.1] at hb
      exact (Array.getElem?_eq_some_iff.1 hb).1
  have hbl : b < w.heap.size := HM.out.row.lt
  clear hbx hb1 CB HA HX HMA c2 HO
  gi_wp2_with fail
  have hlt1 := HX1.out.lt
  have hlty := HY1.out.lt
  refine range_outer (gf := 86) (lb := #[.pointer (some ⟨w0.heap.size + 1, 0, none⟩)]) (encs := fun x : ByteArray × Int => #[Value.agg (encI (some x)).toArray]) (xs := cont r) (S := fun k => k = w.heap.size ∨ k = w0.heap.size) rfl (enters_of Try.func86 (by kernel_rfl) rfl)
    (fun k e => by rcases e with e | e <;> omega)
    (takenI_tells r b cap hb4.2 w1 HM1.out.row _ HY1.out (fun k => k = w.heap.size ∨ k = w0.heap.size) (fun e => by rcases e with e | e <;> omega) (fun e => by rcases e with e | e <;> omega)) (Below.refl _ _) (fun _ => rfl)
    (fun pre W => Blk W w0.heap.size #[.slice (some ⟨w.heap.size, 0, none⟩) pre.length c] 74 ∧ W.ownsRow w.heap.size 89 4 (.slice (some ⟨w.heap.size, 0, none⟩) pre.length c) pre.length (flatS pre) ∧ Kept (fun k => k = w.heap.size ∨ k = w0.heap.size) w1 W)
    (fun _ _ _ => False)
    ((low_blk _ _ (fun pre : List (ByteArray × Int) => #[.slice (some ⟨w.heap.size, 0, none⟩) pre.length c]) _ (by omega)).and ((low_owns _ _ _ _ (fun pre => flatS pre) (fun pre => pre.length) (by omega)).and (low_kept _ _ _ (Nat.le_refl _))))
    (fun c => low_pure _ _)
    ⟨HX1.out, HO1.out, Kept.refl _ _⟩ ?round ?done ?stop
  case round =>
    rintro l pre x W K hl hlt hz hpre ⟨hxw, how, hK⟩ hKK
    obtain ⟨k', v⟩ := x
    have hlen : (pre ++ [(k', v)]).length ≤ (cont r).length := hpre.length_le
    have hcap : pre.length + 1 ≤ c := by rw [HC.out]; simpa using hlen
    have HXN : Hid (Blk (W.alloc (.cells #[.bool true, .int .u32 (spr k'), .string k', .int .i64 v] 89)) W.heap.size #[.bool true, .int .u32 (spr k'), .string k', .int .i64 v] 89) := Blk.new W _ 89
    simp only [encI, List.size_toArray]
    gi_wp2_with fail
    refine hKK _ _ ((Kept.refl _ _).alloc _) ?_
    intro Wb hkb hrec
    have hk1 : Kept (fun k => k = l) W Wb := ((Kept.refl (fun k => k = l) W).alloc _).trans hkb
    have HXB : Hid (Blk Wb W.heap.size #[.bool true, .int .u32 (spr k'), .string k', .int .i64 v] 89) := HXN.out.kept hkb (by show ¬ _ = _; omega)
    have HVB : Hid (Blk Wb w0.heap.size #[.slice (some ⟨w.heap.size, 0, none⟩) pre.length c] 74) := hxw.kept hk1 (by show ¬ _ = _; omega)
    have HOB : Hid (Wb.ownsRow w.heap.size 89 4 (.slice (some ⟨w.heap.size, 0, none⟩) pre.length c) pre.length (flatS pre)) := ownsRow_kept how hk1 (fun k hk => by simp [Value.ownBlock] at hk; show ¬ _ = _; omega)
    have HKB : Hid (Kept (fun k => k = w.heap.size ∨ k = w0.heap.size) w1 Wb) := ⟨hk1.os.trans hK.os, hk1.tape.trans hK.tape, hk1.output.trans hK.output, Nat.le_trans hK.size hk1.size, fun k hk hs => (hk1.block k (Nat.lt_of_lt_of_le hk hK.size) (fun e => by have e' : k = l := e; omega)).trans (hK.block k hk hs)⟩
    have x0 := HXB.out.cell 0 (v := .bool true) rfl
    have x1 := HXB.out.cell 1 (v := .int .u32 (spr k')) rfl
    have x2 := HXB.out.cell 2 (v := .string k') rfl
    have x3 := HXB.out.cell 3 (v := .int .i64 v) rfl
    have v0 := HVB.out.cell 0 (v := .slice (some ⟨w.heap.size, 0, none⟩) pre.length c) rfl
    have HAN : Hid (Kept (fun k => k = w.heap.size ∨ k = w0.heap.size) Wb (Wb.alloc (.cells #[.bool true, .int .u32 (spr k'), .string k', .int .i64 v] 89))) := Kept.of_below ((Below.refl _ _).alloc (Nat.le_refl _) _)
    have HO2 : Hid ((Wb.alloc (.cells #[.bool true, .int .u32 (spr k'), .string k', .int .i64 v] 89)).ownsRow w.heap.size 89 4 (.slice (some ⟨w.heap.size, 0, none⟩) pre.length c) pre.length (flatS pre)) := ownsRow_kept HOB.out (Kept.of_below (S := fun _ => False) ((Below.refl _ _).alloc (Nat.le_refl _) _)) (fun k _ => id)
    have HV2 : Hid (Blk (Wb.alloc (.cells #[.bool true, .int .u32 (spr k'), .string k', .int .i64 v] 89)) w0.heap.size #[.slice (some ⟨w.heap.size, 0, none⟩) pre.length c] 74) := HVB.out.below ((Below.refl _ _).alloc (Nat.le_refl _) _)
    have HN2 : Hid (∀ j u, ([.bool true, .int .u32 (spr k'), .string k', .int .i64 v] : List Value)[j]? = some u → (Wb.alloc (.cells #[.bool true, .int .u32 (spr k'), .string k', .int .i64 v] 89)).cell? ((⟨Wb.heap.size, 0, none⟩ : Addr).add j) = some u) := fun j u hu => by
      rw [Addr.add_mid, Nat.zero_add]
      rw [← List.getElem?_toArray] at hu
      exact (Blk.new Wb #[.bool true, .int .u32 (spr k'), .string k', .int .i64 v] 89).cell j hu
    have HE2 : Hid (flatS (pre ++ [(k', v)]) = flatS pre ++ [.bool true, .int .u32 (spr k'), .string k', .int .i64 v] ∧ (pre ++ [(k', v)]).length = pre.length + 1) := ⟨flatS_snoc pre (k', v), by simp⟩
    clear hKK hpre how hK hkb hrec hk1 hxw HXN hlen HOB
    generalize flatS pre = F1 at *
    generalize pre.length = n1 at *
    gi_wp2_with (gi_at_builtin; refine wpListIn_append_fits _ rfl _ _ 74 rfl w.heap.size 89 i0 4 Try.underlying74 hi hz1 w.heap.size n1 c F1 rfl HO2.out ⟨Wb.heap.size, 0, none⟩ 1 1 [.bool true, .int .u32 (spr k'), .string k', .int .i64 v] rfl rfl HN2.out ?c1 hcap ?_)
    case c1 =>
      intro u hu
      simp only [List.mem_cons, List.not_mem_nil, or_false] at hu
      rcases hu with rfl | rfl | rfl | rfl <;> rfl
    intro W4 hown4 hgr4
    generalize Wb.alloc (.cells #[.bool true, .int .u32 (spr k'), .string k', .int .i64 v] 89) = W3 at *
    have HK4 : Hid (Kept (fun k => k = w.heap.size ∨ k = w0.heap.size) Wb W4) := HAN.out.grown hgr4 (fun k hk => by injection hk with hk; exact .inl hk.symm)
    have HV4 : Hid (Blk W4 w0.heap.size #[.slice (some ⟨w.heap.size, 0, none⟩) n1 c] 74) := HV2.out.kept ((Kept.refl (fun k => k = w.heap.size) W3).grown hgr4 (fun k hk => by injection hk with hk; exact hk.symm)) (by show ¬ _ = _; omega)
    have HO4 : Hid (W4.ownsRow w.heap.size 89 4 (.slice (some ⟨w.heap.size, 0, none⟩) (n1 + 1) c) (n1 + 1) (F1 ++ [.bool true, .int .u32 (spr k'), .string k', .int .i64 v])) := hown4
    have y0 := HV4.out.cell 0 (v := .slice (some ⟨w.heap.size, 0, none⟩) n1 c) rfl
    have y1 := HV4.out.frozen 0
    clear hown4 hgr4 HO2 HAN HV2 HN2 x0 x1 x2 x3 v0
    have HQ : Hid (Kept (fun k => k = w.heap.size ∨ k = w0.heap.size) Wb (W4.setCell ⟨w0.heap.size, 0, none⟩ (.slice (some ⟨w.heap.size, 0, none⟩) (n1 + 1) c)) ∧ Blk (W4.setCell ⟨w0.heap.size, 0, none⟩ (.slice (some ⟨w.heap.size, 0, none⟩) (n1 + 1) c)) w0.heap.size #[.slice (some ⟨w.heap.size, 0, none⟩) (pre ++ [(k', v)]).length c] 74 ∧ (W4.setCell ⟨w0.heap.size, 0, none⟩ (.slice (some ⟨w.heap.size, 0, none⟩) (n1 + 1) c)).ownsRow w.heap.size 89 4 (.slice (some ⟨w.heap.size, 0, none⟩) (pre ++ [(k', v)]).length c) (pre ++ [(k', v)]).length (flatS (pre ++ [(k', v)])) ∧ Kept (fun k => k = w.heap.size ∨ k = w0.heap.size) w1 (W4.setCell ⟨w0.heap.size, 0, none⟩ (.slice (some ⟨w.heap.size, 0, none⟩) (n1 + 1) c))) := by
      have ks : Kept (fun k => k = w0.heap.size) W4 (W4.setCell ⟨w0.heap.size, 0, none⟩ (.slice (some ⟨w.heap.size, 0, none⟩) (n1 + 1) c)) := (Kept.refl (fun k => k = w0.heap.size) W4).set (p := ⟨w0.heap.size, 0, none⟩) rfl _
      have k4 := HK4.out.trans (ks.mono fun _ _ e => .inr e)
      obtain ⟨e1, e2⟩ := HE2.out
      rw [e1, e2]
      exact ⟨k4, HV4.out.set 0 _, ownsRow_kept HO4.out ks (fun k hk => by simp [Value.ownBlock] at hk; show ¬ _ = _; omega), HKB.out.trans k4⟩
    gi_wp2_with fail
    exact HQ.out
  case done =>
    rintro W ⟨hxw, how, hK⟩ hks hD
    have HD5 : Hid (W.heap[w1.heap.size]? = some (.deferred (some []))) := hD
    have hzk := hK.size
    have hzz := HB1.out.size
    have hlc : (cont r).length = c := HC.out.symm
    have HRW : Hid (RowOf 89 4 encS W w.heap.size (cont r)) := row_owns how rfl
    rw [hlc] at hxw
    have v0 := hxw.cell 0 (v := .slice (some ⟨w.heap.size, 0, none⟩) c c) rfl
    have HVW : Hid (Blk W w0.heap.size #[.slice (some ⟨w.heap.size, 0, none⟩) c c] 74) := hxw
    have HBW : Hid (Below w.heap.size w W) := HBw.out.trans (hks.below HBw.out.size (fun k e => by rcases e with e | e <;> omega))
    have hwl : w1.heap.size < W.heap.size := (Array.getElem?_eq_some_iff.1 hD).1
    have CS : Hid (∀ m, CallsIn Fence.wide m Try.prog 64 #[.slice (some ⟨w.heap.size, 0, none⟩) c c, .func (.func 65) #[] #[]] W fun e w' => e = .returned (.tuple #[]) ∧ ∃ ys : List (ByteArray × Int), ys.Perm (cont r) ∧ Srt ys ∧ CellsOf 4 encS w' w.heap.size ys ∧ Kept (fun z => z = w.heap.size) W w') := fun m => by
      have h := sortI_any w.heap.size c (cont r) W HRW.out (cont_keys HM.out.rw) (by rw [hlc]; omega)
      rw [hlc] at h
      exact callsIn_wide.2 h
    clear hks hK hxw how hD
    gi_wp2_with fail
    refine ⟨trivial, no_depth _, ?_⟩
    refine (CS.out _).mono ?_
    rintro e w5 ⟨rfl, ys, hp, hsr, hce, hk5⟩
    have HF : Hid (ys.Perm (cont r) ∧ Srt ys ∧ CellsOf 4 encS w5 w.heap.size ys ∧ Kept (fun z => z = w.heap.size) W w5) := ⟨hp, hsr, hce, hk5⟩
    have HV5 : Hid (Blk w5 w0.heap.size #[.slice (some ⟨w.heap.size, 0, none⟩) c c] 74) := HVW.out.kept hk5 (by show ¬ _ = _; omega)
    have HD6 : Hid (w5.heap[w1.heap.size]? = some (.deferred (some []))) := (hk5.block _ hwl (by show ¬ _ = _; omega)).trans HD5.out
    have v5 := HV5.out.cell 0 (v := .slice (some ⟨w.heap.size, 0, none⟩) c c) rfl
    have hz5 := hk5.size
    clear hp hsr hce hk5 CS v0
    gi_wp2_with fail
    refine ⟨by simp, .inl ⟨_, _, rfl, run_takeDeferred HD6.out, ?_⟩⟩
    have hkk := kept_putObj (fun k => k = w1.heap.size) w5 w1.heap.size (.deferred none) rfl
    obtain ⟨h1, h2, h3, h4⟩ := HF.out
    have hly : ys.length = c := by rw [h1.length_eq, hlc]
    refine ⟨.slice (some ⟨w.heap.size, 0, none⟩) c c, ?_, w.heap.size, c, ys, by rw [hly], h1, h2, h3.kept hkk (by show ¬ _ = _; omega), (HBW.out.trans (h4.below HBW.out.size (fun k e => by have e' : k = w.heap.size := e; omega))).trans (hkk.below (Nat.le_trans HBW.out.size hz5) (fun k e => by have e' : k = w1.heap.size := e; omega)), Nat.le_refl _, by have := hkk.size; omega⟩
    simp [results, Try.results43, go_sem]
  case stop =>
    rintro c pre2 W' _ hf
    exact hf.elim
end Go.Proofs.Ytkcjcidndckgbaa
