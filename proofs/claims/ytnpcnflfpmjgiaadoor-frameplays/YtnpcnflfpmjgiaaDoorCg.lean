/- Package disk: Write, on a disk in memory and on none. -/
import Derived.Test.YtnpcnflfpmjgiaaDoorCf
namespace Go.Proofs.YtnpcnflfpmjgiaaDoor
open Go.RowKit
set_option linter.unusedVariables false
set_option linter.unusedSimpArgs false

theorem info91 : (Tryd.prog.info? 92).map (fun i => (i.zero, i.size, i.bytes)) = some (some .nilFunc, 1, 8) := by kernel_rfl
section
variable {B : Nat} {w : World} {b g h cg ch : Nat} {pv : Value} {bx : List (Nat × Nat)} {S : DS} {shown : List ByteArray}
/-- One more write is pending. -/
theorem Dv.pushed (d : Dv B w b g h cg ch pv bx S shown) (x : Nat × Nat) (p : Nat × ByteArray) (hx1 : Blk w x.1 #[.string p.2] 9) (hx2 : Blk w x.2 #[.int .i64 p.1] 3)
    (hnew : ∀ k, FP b g h pv bx k → k ≠ x.1 ∧ k ≠ x.2) (hB1 : B ≤ x.1) (hB2 : B ≤ x.2) (hpn : p.1 < S.safe.length) (hps : p.2.size = 512) (g' cap : Nat) (w6 : World)
    (hown : w6.ownsRow B 92 1 (.slice (some ⟨g', 0, none⟩) (S.wait.length + 1) cap) (S.wait.length + 1) (bx.map clo ++ [clo x])) (hg : w.grownBy w6 pv.ownBlock) (hwh : pv.ownBlock = some g' ∨ g' = w.heap.size) (q : Int) :
    Dv B ((w6.setCell ⟨b, 2, none⟩ (.slice (some ⟨g', 0, none⟩) (S.wait.length + 1) cap)).setCell ⟨b, 6, none⟩ (.int .i64 q)) b g h cg ch (.slice (some ⟨g', 0, none⟩) (S.wait.length + 1) cap) (bx ++ [x]) { S with wait := S.wait ++ [p], wr := q } shown ∧
    Kept (FP b g h pv bx) w ((w6.setCell ⟨b, 2, none⟩ (.slice (some ⟨g', 0, none⟩) (S.wait.length + 1) cap)).setCell ⟨b, 6, none⟩ (.int .i64 q)) ∧
    (∀ k, FP b g h (.slice (some ⟨g', 0, none⟩) (S.wait.length + 1) cap) (bx ++ [x]) k → FP b g h pv bx k ∨ k = x.1 ∨ k = x.2 ∨ w.heap.size ≤ k) := by
  have hgb : g' ≠ b ∧ g' ≠ g ∧ g' ≠ h := by
    rcases hwh with e | e
    · exact d.pb g' e
    · have h1 := d.blk.lt; have h2 := (d.fp g (.inr (.inl rfl))).2; have h3 := (d.fp h (.inr (.inr (.inl rfl)))).2; exact ⟨by omega, by omega, by omega⟩
  have hk6 : Kept (fun k => pv.ownBlock = some k) w w6 := (Kept.refl _ _).grown hg (fun k e => e)
  have hkb : Kept (fun k => k = b) w6 ((w6.setCell ⟨b, 2, none⟩ (.slice (some ⟨g', 0, none⟩) (S.wait.length + 1) cap)).setCell ⟨b, 6, none⟩ (.int .i64 q)) := Kept.set (S := fun k => k = b) (Kept.set (S := fun k => k = b) (Kept.refl _ _) rfl _) rfl _
  have hka : Kept (fun k => pv.ownBlock = some k ∨ k = b) w ((w6.setCell ⟨b, 2, none⟩ (.slice (some ⟨g', 0, none⟩) (S.wait.length + 1) cap)).setCell ⟨b, 6, none⟩ (.int .i64 q)) := (hk6.mono (fun k _ e => .inl e)).trans (hkb.mono (fun k _ e => .inr e))
  have hpb := fun e => (d.pb b e).1 rfl
  refine ⟨{
    ok := ⟨d.ok.one, d.ok.most, d.ok.size, ?_, ?_, d.ok.cut0, d.ok.cut1, d.ok.idle⟩
    blk := ((d.blk.kept hk6 hpb).set 2 _).set 6 _
    rowG := ownsRow_kept d.rowG hka (fun k e => by simp [Value.ownBlock] at e; subst e; rintro (e | e); exact (d.pb _ e).2.1 rfl; exact d.bg e.symm)
    rowH := ownsRow_kept d.rowH hka (fun k e => by simp [Value.ownBlock] at e; subst e; rintro (e | e); exact (d.pb _ e).2.2 rfl; exact d.bh e.symm)
    rowP := by
      have := ownsRow_kept hown hkb (fun k e => by simp [Value.ownBlock] at e; subst e; exact hgb.1)
      simpa using this
    hlen := d.hlen
    blen := by simp [d.blen]
    box := ?_
    bg := d.bg
    bh := d.bh
    gh := d.gh
    pb := fun k e => by simp [Value.ownBlock] at e; subst e; exact hgb
    xb := ?_
    low := d.low }, hka.mono (fun k _ e => by rcases e with e | e; exact .inr (.inr (.inr (.inl e))); exact .inl e), ?_⟩
  · intro p' hp'
    rcases List.mem_append.1 hp' with h1 | h1
    · exact d.ok.num p' h1
    · rw [List.mem_singleton.1 h1]; exact hpn
  · intro p' hp'
    rcases List.mem_append.1 hp' with h1 | h1
    · exact d.ok.len p' h1
    · rw [List.mem_singleton.1 h1]; exact hps
  · intro i y p' hy hp'
    have hp2 : (S.wait ++ [p])[i]? = some p' := hp'
    by_cases hi : i < bx.length
    · rw [List.getElem?_append_left hi] at hy
      rw [List.getElem?_append_left (by rw [← d.blen]; exact hi)] at hp2
      have hm : y ∈ bx := List.mem_of_getElem? hy
      have := d.box i y p' hy hp2
      have hx := d.xb y hm
      exact ⟨this.1.kept hka (by rintro (e | e); exact hx.1.2.2.2.2 e; exact hx.1.2.1 e), this.2.kept hka (by rintro (e | e); exact hx.2.2.2.2.2 e; exact hx.2.2.1 e)⟩
    · have h1 := (List.getElem?_eq_some_iff.1 hy).1
      simp at h1
      have hie : i = bx.length := by omega
      subst hie
      rw [List.getElem?_append_right (Nat.le_refl _)] at hy
      rw [d.blen, List.getElem?_append_right (Nat.le_refl _)] at hp2
      simp at hy hp2
      subst hy hp2
      exact ⟨hx1.kept hka (by rintro (e | e); exact (hnew _ (.inr (.inr (.inr (.inl e))))).1 rfl; exact (hnew b (.inl rfl)).1 e.symm), hx2.kept hka (by rintro (e | e); exact (hnew _ (.inr (.inr (.inr (.inl e))))).2 rfl; exact (hnew b (.inl rfl)).2 e.symm)⟩
  · intro y hy
    rcases List.mem_append.1 hy with h1 | h1
    · have hx := d.xb y h1
      have hl1 := (d.fp y.1 (.inr (.inr (.inr (.inr ⟨y, h1, .inl rfl⟩))))).2
      have hl2 := (d.fp y.2 (.inr (.inr (.inr (.inr ⟨y, h1, .inr rfl⟩))))).2
      refine ⟨⟨hx.1.1, hx.1.2.1, hx.1.2.2.1, hx.1.2.2.2.1, ?_⟩, ⟨hx.2.1, hx.2.2.1, hx.2.2.2.1, hx.2.2.2.2.1, ?_⟩⟩
      · intro e; simp [Value.ownBlock] at e; rcases hwh with q | q; exact hx.1.2.2.2.2 (e ▸ q); omega
      · intro e; simp [Value.ownBlock] at e; rcases hwh with q | q; exact hx.2.2.2.2.2 (e ▸ q); omega
    · rw [List.mem_singleton.1 h1]
      have hl1 := hx1.lt
      have hl2 := hx2.lt
      refine ⟨⟨hB1, (hnew b (.inl rfl)).1.symm, (hnew g (.inr (.inl rfl))).1.symm, (hnew h (.inr (.inr (.inl rfl)))).1.symm, ?_⟩, ⟨hB2, (hnew b (.inl rfl)).2.symm, (hnew g (.inr (.inl rfl))).2.symm, (hnew h (.inr (.inr (.inl rfl)))).2.symm, ?_⟩⟩
      · intro e; simp [Value.ownBlock] at e; rcases hwh with q | q; exact (hnew g' (.inr (.inr (.inr (.inl q))))).1 e; omega
      · intro e; simp [Value.ownBlock] at e; rcases hwh with q | q; exact (hnew g' (.inr (.inr (.inr (.inl q))))).2 e; omega
  · rintro k (e | e | e | e | ⟨y, hy, e⟩)
    · exact .inl (.inl e)
    · exact .inl (.inr (.inl e))
    · exact .inl (.inr (.inr (.inl e)))
    · simp [Value.ownBlock] at e
      subst e
      rcases hwh with q | q
      · exact .inl (.inr (.inr (.inr (.inl q))))
      · exact .inr (.inr (.inr (by omega)))
    · rcases List.mem_append.1 hy with h1 | h1
      · exact .inl (.inr (.inr (.inr (.inr ⟨y, h1, e⟩))))
      · rw [List.mem_singleton.1 h1] at e
        rcases e with e | e
        · exact .inr (.inl e)
        · exact .inr (.inr (.inl e))
end
/-- A Write: what it answers, what it leaves. -/
def writeE (S : DS) (n : Int) (s : ByteArray) : Int := if refuseD S n ≠ 0 then refuseD S n else if s.size ≠ 512 then 42 else if (stepD S).off then 40 else 0
def writeD (S : DS) (n : Int) (s : ByteArray) : DS := if refuseD S n ≠ 0 then S else if s.size ≠ 512 then S else if (stepD S).off then stepD S else { stepD S with wait := S.wait ++ [(n.toNat, s)], wr := wrap64 (S.wr + 1) }
theorem write_nil (n : Int) (s : ByteArray) (w : World) : Calls Tryd.prog 61 #[.pointer none, .int .i64 n, .string s] w fun e w' => e = .returned (.int .i64 1) ∧ w' = w := by
  go_enter Tryd.func61, Tryd.ntmps61
  go_wp2_with fail
  refine (refuse_nil _ _).mono ?_
  rintro e w1 ⟨rfl, rfl⟩
  go_wp2
  go_ret
  exact ⟨rfl, rfl⟩
set_option maxHeartbeats 1000000 in
set_option maxRecDepth 100000 in
theorem write_any {B : Nat} {w : World} {b : Nat} {fp : Nat → Prop} {S : DS} (d : Dk B w b fp S) (n : Int) (s : ByteArray) (hs : s.size ≤ 140737488355328) (hfew : S.wait.length < 17592186044416) (hBw : B ≤ w.heap.size) : Calls Tryd.prog 61 #[pt b, .int .i64 n, .string s] w fun e w' => e = .returned (.int .i64 (writeE S n s)) ∧ Left B b fp w (writeD S n s) w' := by
  have hL := Left.refl d
  obtain ⟨g, h, cg, ch, pv, bx, rfl, d⟩ := d
  have C1 : Hid (Calls Tryd.prog 83 #[.pointer (some ⟨b, 0, none⟩), .int .i64 n] w fun e w' => e = .returned (.int .i64 (refuseD S n)) ∧ w' = w) := refuse_any d n
  have C2 : Hid (Calls Tryd.prog 62 #[.pointer (some ⟨b, 0, none⟩)] w fun e w' => e = .returned (.bool (!(stepD S).off)) ∧ Dv B w' b g h cg ch pv bx (stepD S) S.shown ∧ Kept (fun k => k = b) w w' ∧ w'.heap.size = w.heap.size) := step_any d
  have CC : Hid (∀ w : World, Calls Tryd.prog 58 #[.string s] w fun e w' => e = .returned (.string s) ∧ Below w.heap.size w w') := clone_any s hs
  have HL : Hid (Left B b (FP b g h pv bx) w S w) := hL
  unfold pt
  by_cases hr : refuseD S n = 0
  · by_cases hz : s.size = 512
    · by_cases ho : (stepD S).off = true
      · have HE : Hid (writeE S n s = 40 ∧ writeD S n s = stepD S) := by show _ ∧ _; unfold writeE writeD; simp [hr, hz, ho]
        have ho2 : (!(stepD S).off) = false := by rw [ho]; rfl
        have hz2 : ((s.size : Int) != 512) = false := by rw [hz]; rfl
        rw [hr] at C1
        rw [ho2] at C2
        generalize writeE S n s = E at *
        generalize writeD S n s = T at *
        clear d hr ho hs hL hz ho2 hfew
        go_enter Tryd.func61, Tryd.ntmps61
        go_wp2_with fail
        refine C1.out.mono ?_
        rintro e w1 ⟨rfl, hw⟩
        rw [hw]
        clear hw
        go_wp2_with fail
        refine C2.out.mono ?_
        rintro e w2 ⟨rfl, hd, hk, hsz⟩
        have hend : Hid (Left B b (FP b g h pv bx) w T w2) := by
          rw [HE.out.2]
          exact ⟨_, ⟨g, h, cg, ch, pv, bx, rfl, hd⟩, hk.mono (fun k _ e => .inl e), fun k e => .inl e⟩
        clear hd hk hsz C1 C2
        go_wp2
        go_ret
        exact ⟨by rw [HE.out.1]; rfl, hend.out⟩
      · obtain ⟨m, rfl, hm⟩ := refuse_zero hr
        have HE : Hid (writeE S (m : Int) s = 0 ∧ writeD S (m : Int) s = { stepD S with wait := S.wait ++ [(m, s)], wr := wrap64 (S.wr + 1) }) := by show _ ∧ _; unfold writeE writeD; simp [hr, hz, ho]
        have ho2 : (!(stepD S).off) = true := by simpa using ho
        have hz2 : ((s.size : Int) != 512) = false := by rw [hz]; rfl
        rw [hr] at C1
        rw [ho2] at C2
        have HM : Hid (m < S.safe.length) := hm
        have hsh : Hid (S.shown.length = S.safe.length ∧ ∀ q ∈ S.shown, q.size = 512) := ⟨d.hlen, size_over d.ok.size d.ok.len⟩
        have HFW : Hid (S.wait.length < 17592186044416) := hfew
        generalize writeE S (m : Int) s = E at *
        generalize writeD S (m : Int) s = T at *
        have HZ : Hid (s.size = 512) := hz
        clear d hr ho hs hL hz ho2 hfew hm
        go_enter Tryd.func61, Tryd.ntmps61
        go_wp2_with fail
        refine C1.out.mono ?_
        rintro e w1 ⟨rfl, hw⟩
        rw [hw]
        clear hw
        go_wp2_with fail
        refine C2.out.mono ?_
        rintro e w2 ⟨rfl, hd, hk, hsz⟩
        clear C1 C2
        go_wp2_with fail
        refine (CC.out _).mono ?_
        rintro e w3 ⟨rfl, hb3⟩
        have hd3 := hd.below hb3
        have hk3 := hk.trans (Kept.of_below hb3)
        clear hd hk CC
        go_wp2_with fail
        refine (written_any _ _ _).mono ?_
        rintro e w4 ⟨rfl, hw⟩
        rw [hw]
        clear hw
        have hb4 : Below w3.heap.size w3 ((w3.alloc (.cells #[.int .i64 (m : Int)] 3)).alloc (.cells #[.string s] 9)) := ((Below.refl _ _).alloc (Nat.le_refl _) _).alloc (by simp) _
        have hd4 := hd3.below hb4
        have x2 : Blk ((w3.alloc (.cells #[.int .i64 (m : Int)] 3)).alloc (.cells #[.string s] 9)) w3.heap.size #[.int .i64 (m : Int)] 3 := (Blk.new w3 _ _).below ((Below.refl _ _).alloc (Nat.le_refl _) _)
        have x1 : Blk ((w3.alloc (.cells #[.int .i64 (m : Int)] 3)).alloc (.cells #[.string s] 9)) (w3.heap.size + 1) #[.string s] 9 := by
          have := Blk.new (w3.alloc (.cells #[.int .i64 (m : Int)] 3)) #[.string s] 9
          simpa using this
        have c1 := hd4.blk.cell 1 (v := .slice (some ⟨h, 0, none⟩) S.safe.length ch) rfl
        have hfp3 := hd3.fp
        generalize (w3.alloc (.cells #[.int .i64 (m : Int)] 3)).alloc (.cells #[.string s] 9) = w4 at *
        unfold clo
        have hm' : m < (stepD S).safe.length := HM.out
        have C71 := some71 h S.safe.length ch (w3.heap.size + 1, w3.heap.size) m 512 s (S.shown.getD m ByteArray.empty) (x1.cell 0 rfl) (x2.cell 0 rfl) HM.out hd4.ok.most (shown_at hd4 hm') (hd4.rowH.frozenAt _) HZ.out (size_getD hsh.out.2 (by rw [hsh.out.1]; exact HM.out)) (by omega) (Nat.le_refl _) (fun e => by have := (hfp3 h (.inr (.inr (.inl rfl)))).2; simp at e; omega)
        rw [show ((512 : Nat) : Int) = 512 from rfl, tear_full HZ.out] at C71
        have H71 : Hid (Calls Tryd.prog 94 #[.slice (some ⟨h, 0, none⟩) S.safe.length ch, .int .i64 512, .pointer (some ⟨w3.heap.size + 1, 0, none⟩), .pointer (some ⟨w3.heap.size, 0, none⟩)] w4 fun e w' => e = .returned (.int .i64 m) ∧ w' = (w4.setCell ⟨h, m, none⟩ (.string s)).drew) := C71
        clear C71
        go_wp2_with fail
        refine H71.out.mono ?_
        rintro e w5 ⟨rfl, hw⟩
        have hd5 : Dv B w5 b g h cg ch pv bx (stepD S) (S.shown.set m s) := by rw [hw]; exact (hd4.setH m s).drew
        have hk45 : Kept (fun k => k = h) w4 w5 := by rw [hw]; exact (Kept.set (S := fun k => k = h) (Kept.refl _ _) rfl _).drew
        have hn1 : ¬ w3.heap.size + 1 = h := fun e => by have := (hfp3 h (.inr (.inr (.inl rfl)))).2; omega
        have hn2 : ¬ w3.heap.size = h := fun e => by have := (hfp3 h (.inr (.inr (.inl rfl)))).2; omega
        have y1 := x1.kept hk45 hn1
        have y2 := x2.kept hk45 hn2
        have hk5 : Kept (FP b g h pv bx) w w5 := ((hk3.mono (fun k _ e => .inl e)).trans (Kept.of_below hb4)).trans (hk45.mono (fun k _ e => .inr (.inr (.inl e))))
        have hsz4 : w3.heap.size ≤ w5.heap.size := Nat.le_trans hb4.size hk45.size
        have hsz3 : w.heap.size ≤ w3.heap.size := hk3.size
        clear hw x1 x2 hk45 hb4 hd4 H71 c1 hd3 hk3 hb3 hn1 hn2
        have hb6 : Below w5.heap.size w5 (w5.alloc (.cells #[clo (w3.heap.size + 1, w3.heap.size)] 92)) := (Below.refl _ _).alloc (Nat.le_refl _) _
        have hd6 := hd5.below hb6
        have z1 := y1.below hb6
        have z2 := y2.below hb6
        have c2 := hd5.blk.cell 2 (v := pv) rfl
        have hblt := hd5.blk.lt
        have hrow := hd6.rowP
        have hnew := World.news_of_block (Blk.new w5 #[clo (w3.heap.size + 1, w3.heap.size)] 92)
        have hlen : (stepD S).wait.length = S.wait.length := rfl
        rw [hlen] at hrow
        have HROW : Hid ((w5.alloc (.cells #[clo (w3.heap.size + 1, w3.heap.size)] 92)).ownsRow B 92 1 pv S.wait.length (bx.map clo)) := hrow
        have HNEW : Hid (∀ (j : Nat) (u : Value), (#[clo (w3.heap.size + 1, w3.heap.size)] : Array Value).toList[j]? = some u → (w5.alloc (.cells #[clo (w3.heap.size + 1, w3.heap.size)] 92)).cell? ((⟨w5.heap.size, 0, none⟩ : Addr).add j) = some u) := hnew
        obtain ⟨i0, hi, hz0, hz1, hz3⟩ := info_parts info91
        clear hrow hnew hd5 y1 y2
        have HN : Hid (∀ u ∈ [clo (w3.heap.size + 1, w3.heap.size)], u.oneCell' = true) := fun u hu => by rw [List.mem_singleton.1 hu]; rfl
        have HB : Hid (S.wait.length + 1 ≤ maxLen ∧ (S.wait.length + 1) * 8 ≤ 140737488355328 ∧ B ≤ (w5.alloc (.cells #[clo (w3.heap.size + 1, w3.heap.size)] 92)).heap.size) := by
          have := HFW.out
          refine ⟨by unfold maxLen; omega, by omega, ?_⟩
          have := hb6.size; omega
        go_wp2_with (at_builtin; refine wpList_append_lies _ rfl _ _ 88 rfl B 92 i0 .nilFunc 1 8 Tryd.underlying88 hi hz0 hz1 hz3 rfl (by decide) _ _ _ rfl HROW.out ⟨w5.heap.size, 0, none⟩ 1 1 [clo (w3.heap.size + 1, w3.heap.size)] rfl rfl HNEW.out HN.out (by decide) HB.out.1 HB.out.2.1 HB.out.2.2 _ rfl ?_)
        intro g' cap w6 hown hgr hwh hlt6
        have hpush := hd6.pushed (w3.heap.size + 1, w3.heap.size) (m, s) z1 z2 (fun k e => by have := (hfp3 k e).2; exact ⟨by simp; omega, by simp; omega⟩) (by have := hBw; show B ≤ w3.heap.size + 1; omega) (by show B ≤ w3.heap.size; omega) hm' HZ.out g' cap w6 hown hgr (by simpa using hwh) (wrap64 (S.wr + 1))
        have hend : Hid (Left B b (FP b g h pv bx) w T ((w6.setCell ⟨b, 2, none⟩ (.slice (some ⟨g', 0, none⟩) (S.wait.length + 1) cap)).setCell ⟨b, 6, none⟩ (.int .i64 (wrap64 (S.wr + 1))))) := by
          obtain ⟨p1, p2, p3⟩ := hpush
          have hk6 : Kept (FP b g h pv bx) w ((w6.setCell ⟨b, 2, none⟩ (.slice (some ⟨g', 0, none⟩) (S.wait.length + 1) cap)).setCell ⟨b, 6, none⟩ (.int .i64 (wrap64 (S.wr + 1)))) := (hk5.trans (Kept.of_below hb6)).trans p2
          refine ⟨FP b g h (.slice (some ⟨g', 0, none⟩) (S.wait.length + 1) cap) (bx ++ [(w3.heap.size + 1, w3.heap.size)]), ⟨g, h, cg, ch, .slice (some ⟨g', 0, none⟩) (S.wait.length + 1) cap, bx ++ [(w3.heap.size + 1, w3.heap.size)], rfl, ?_⟩, hk6, ?_⟩
          · rw [HE.out.2]
            show Dv _ _ _ _ _ _ _ _ _ _ (over S.safe (S.wait ++ [(m, s)]))
            rw [over_snoc]
            exact p1
          · intro k e
            rcases p3 k e with e | e | e | e
            · exact .inl e
            · exact .inr (by rw [e]; show w.heap.size ≤ w3.heap.size + 1; omega)
            · exact .inr (by rw [e]; exact hsz3)
            · exact .inr (by have := hb6.size; omega)
        have hkx : Kept (fun k => pv.ownBlock = some k) (w5.alloc (.cells #[clo (w3.heap.size + 1, w3.heap.size)] 92)) w6 := (Kept.refl _ _).grown hgr (fun k e => e)
        have hb6k := hd6.blk.kept hkx (fun e => (hd6.pb b e).1 rfl)
        have c2' := hb6k.cell 2 (v := pv) rfl
        have f2' := hb6k.frozen 2
        have c6' := hb6k.cell 6 (v := .int .i64 S.wr) rfl
        have f6' := hb6k.frozen 6
        clear hpush hown hgr hwh hd6 hkx hb6k HROW HNEW HN HB z1 z2 c2 hk5 hb6
        go_wp2
        go_ret
        exact ⟨by rw [HE.out.1]; rfl, hend.out⟩
    · have HE : Hid (writeE S n s = 42 ∧ writeD S n s = S) := by show _ ∧ _; unfold writeE writeD; simp [hr, hz]
      have hz2 : ((s.size : Int) != 512) = true := by rw [bne_iff_ne]; omega
      rw [hr] at C1
      rw [HE.out.2]
      generalize writeE S n s = E at *
      clear d hr hs hL hz C2 hfew
      go_enter Tryd.func61, Tryd.ntmps61
      go_wp2_with fail
      refine C1.out.mono ?_
      rintro e w1 ⟨rfl, hw⟩
      rw [hw]
      clear hw
      go_wp2
      go_ret
      exact ⟨by rw [HE.out.1]; rfl, HL.out⟩
  · have HE : Hid (writeE S n s = refuseD S n ∧ writeD S n s = S) := by show _ ∧ _; unfold writeE writeD; simp [hr]
    have hr2 : (refuseD S n != 0) = true := by simpa using hr
    rw [HE.out.2]
    generalize writeE S n s = E at *
    generalize refuseD S n = R at *
    clear d hr hs hL C2 hfew
    go_enter Tryd.func61, Tryd.ntmps61
    go_wp2_with fail
    refine C1.out.mono ?_
    rintro e w1 ⟨rfl, hw⟩
    rw [hw]
    clear hw
    go_wp2
    go_ret
    exact ⟨by rw [HE.out.1]; rfl, HL.out⟩
end Go.Proofs.YtnpcnflfpmjgiaaDoor
