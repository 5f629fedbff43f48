/- Package schema: caught, Check. Package schema: Applied. Package schema: Meets. What each statement begins with: the chapter's first examples. -/
import Derived.Test.YtmbpclknhkbbkaaGreatJ21
import Derived.Defers
import Derived.Recover
import Derived.WalkLawsBesides
import Derived.Test.YtmbpclknhkbbkaaGreatJ43
import Derived.Test.YtmbpclknhkbbkaaGreatJ35
import Derived.Laws.OwnMore
import Derived.Test.YtmbpclknhkbbkaaGreatJ27
import Derived.Test.YtmbpclknhkbbkaaGreatJ12
import Derived.Test.YtmbpclknhkbbkaaGreatJ25
import Derived.Test.YtmbpclknhkbbkaaGreatJ42
import Derived.Test.YtmbpclknhkbbkaaGreatJ40
import Derived.Test.YtmbpclknhkbbkaaGreatJ39
import Derived.Test.YtmbpclknhkbbkaaGreatJ31
import Derived.Test.YtmbpclknhkbbkaaGreatJ22
import Derived.Deep.RegionHeld3
namespace Go.Proofs.YtmbpclknhkbbkaaGreat
open Go.RowKit
set_option linter.unusedVariables false
set_option linter.unusedSimpArgs false

/-- The deferred one, where the call returns: it does nothing. -/
theorem idle144 (p : Addr) (w : World) : CallsD Tryz.prog 144 #[.pointer (some p)] .returning w fun e u' w' => e = .returned (.tuple #[]) ∧ u' = .returning ∧ w' = w := by
  refine callsD_of_wpS Tryz.func144 rfl fun c₀ cs hu => ?_
  apply wpS_seq
  apply wpS_region
  simp [wpOpsS, go_sem, recoverD, hu, Tryz.ntmps144, Exit.thenS]
  rw [show (#[Value.pointer (some p)] ++ ((Array.replicate 6 undef).setIfInBounds 1 Value.nilIface).setIfInBounds 0 Value.nilIface) = #[Value.pointer (some p), Value.nilIface, Value.nilIface, undef, undef, undef, undef] from rfl]
  refine wpS_of_wp ?_
  go_wp2
  cases c₀
  simp_all [bodyPostS, results, Tryz.results144, Exit.thenS]
theorem assert104 (f : Int) (th : ByteArray) (w : World) : (Instr.typeAssert (.iface 104 (.agg #[.int .i64 f, .string th])) 20 104 false).run Tryz.prog w = .ok (.agg #[.int .i64 f, .string th]) w := by kernel_rfl
theorem catch144 (b : Nat) (x y : Value) (f : Int) (th : ByteArray) (w : World) (hb : Blk w b #[x, y] 104) :
    CallsD Tryz.prog 144 #[.pointer (some ⟨b, 0, none⟩)] (.panicking [pf f th]) w fun e u' w' => e = .returned (.tuple #[]) ∧ u' = .panicking [{ v := .iface 104 (.agg #[.int .i64 f, .string th]), recovered := true }] ∧ Blk w' b #[.int .i64 f, .string th] 104 ∧ Kept (fun k => k = b) w w' := by
  have h0 := hb.cell 0 (v := x) rfl
  have h1 := hb.cell 1 (v := y) rfl
  have f0 := hb.frozen 0
  have f1 := hb.frozen 1
  have HB1 : Hid (Blk ((w.setCell ⟨b, 0, none⟩ (.int .i64 f)).setCell ⟨b, 1, none⟩ (.string th)) b #[.int .i64 f, .string th] 104) := by
    have := (hb.set 0 (.int .i64 f)).set 1 (.string th)
    show Blk _ _ _ _
    simpa using this
  have HK : Hid (Kept (fun k => k = b) w ((w.setCell ⟨b, 0, none⟩ (.int .i64 f)).setCell ⟨b, 1, none⟩ (.string th))) := Kept.set (S := fun k => k = b) (Kept.set (S := fun k => k = b) (Kept.refl _ _) rfl _) rfl _
  clear hb
  refine callsD_of_wpS Tryz.func144 rfl fun c₀ cs hu => ?_
  unfold pf at hu
  apply wpS_seq
  apply wpS_region
  simp [wpOpsS, go_sem, recoverD, hu, Tryz.ntmps144, Exit.thenS]
  rw [show (#[Value.pointer (some ⟨b, 0, none⟩)] ++ ((Array.replicate 6 undef).setIfInBounds 1 (Value.iface 104 (.agg #[.int .i64 f, .string th]))).setIfInBounds 0 (Value.iface 104 (.agg #[.int .i64 f, .string th]))) = #[Value.pointer (some ⟨b, 0, none⟩), Value.iface 104 (.agg #[.int .i64 f, .string th]), Value.iface 104 (.agg #[.int .i64 f, .string th]), undef, undef, undef, undef] from rfl]
  refine wpS_of_wp ?_
  have hta := assert104 f th
  go_wp2
  change bodyPostS _ _ _ _ _ _ _ _ _
  simp [bodyPostS, results, Tryz.results144, Exit.thenS]
  exact ⟨HB1.out, HK.out⟩
theorem mk_func : ∀ (fn : Fn) (first cap : Array Value) (w : World), (Instr.makeFunc fn first cap).run Tryz.prog w = .ok (.func fn first cap) w := fun _ _ _ _ => rfl

def fndC (R : Option (Int × ByteArray)) : Int := (R.getD (0, ⟨#[]⟩)).1
def fndT (R : Option (Int × ByteArray)) : ByteArray := (R.getD (0, ⟨#[]⟩)).2
set_option maxHeartbeats 1000000 in
set_option maxRecDepth 100000 in
theorem caught_any (w : World) (xb : Nat) (R : Option (Int × ByteArray)) (hC : ∀ w1, Below w.heap.size w w1 → Calls Tryz.prog 63 #[.pointer (some ⟨xb, 0, none⟩)] w1 fun e w' => Below w1.heap.size w1 w' ∧ Fnd R e) :
    Calls Tryz.prog 62 #[.func (.func 63) #[] #[.pointer (some ⟨xb, 0, none⟩)]] w fun e w' => e = .returned (.agg #[.int .i64 (fndC R), .string (fndT R)]) ∧ Below w.heap.size w w' := by
  have hmf := mk_func
  have HB2 : Hid (Below w.heap.size w (w.alloc (.cells #[.int .i64 0, .string ⟨#[]⟩] 104))) := (Below.refl _ _).alloc (Nat.le_refl _) _
  have HX2 : Hid (Blk (w.alloc (.cells #[.int .i64 0, .string ⟨#[]⟩] 104)) w.heap.size #[.int .i64 0, .string ⟨#[]⟩] 104) := Blk.new w _ 104
  have HC : Hid (Calls Tryz.prog 63 #[.pointer (some ⟨xb, 0, none⟩)] (w.alloc (.cells #[.int .i64 0, .string ⟨#[]⟩] 104)) fun e w' => Below (w.alloc (.cells #[.int .i64 0, .string ⟨#[]⟩] 104)).heap.size (w.alloc (.cells #[.int .i64 0, .string ⟨#[]⟩] 104)) w' ∧ Fnd R e) := hC _ HB2.out
  clear hC
  go_enter_defers Tryz.func62, Tryz.ntmps62
  go_wp2_with fail
  generalize w.alloc _ = W2 at *
  refine HC.out.mono ?_
  rintro e W3 ⟨hb3, hf⟩
  have HB3 : Hid (Below w.heap.size w W3) := bst HB2.out hb3 (by have := HX2.out.lt; omega)
  have HX3 := hblk HX2 hb3
  have h0 := HX3.out.cell 0 (v := .int .i64 0) rfl
  have h1 := HX3.out.cell 1 (v := .string ⟨#[]⟩) rfl
  have f0 := HX3.out.frozen 0
  have f1 := HX3.out.frozen 1
  clear HC hb3 HB2 HX2
  rcases hf with ⟨rfl, rfl⟩ | ⟨c, th, rfl, rfl⟩
  · have HB4 : Hid (Below w.heap.size w ((W3.setCell ⟨w.heap.size, 0, none⟩ (.int .i64 0)).setCell ⟨w.heap.size, 1, none⟩ (.string ⟨#[]⟩))) := keptBelow HB3.out (Kept.set (S := fun k => k = w.heap.size) (Kept.set (S := fun k => k = w.heap.size) (Kept.refl _ _) rfl _) rfl _) (Nat.le_refl _)
    have HX4 : Hid (Blk ((W3.setCell ⟨w.heap.size, 0, none⟩ (.int .i64 0)).setCell ⟨w.heap.size, 1, none⟩ (.string ⟨#[]⟩)) w.heap.size #[.int .i64 0, .string ⟨#[]⟩] 104) := by
      have := (HX3.out.set 0 (.int .i64 0)).set 1 (.string ⟨#[]⟩)
      show Blk _ _ _ _
      simpa using this
    go_wp2
    generalize (W3.setCell ⟨w.heap.size, 0, none⟩ (.int .i64 0)).setCell ⟨w.heap.size, 1, none⟩ (.string ⟨#[]⟩) = W4 at HB4 HX4 ⊢
    have g0 := HX4.out.cell 0 (v := .int .i64 0) rfl
    have g1 := HX4.out.cell 1 (v := .string ⟨#[]⟩) rfl
    refine leaves_cons (f := 144) (args := #[.pointer (some ⟨w.heap.size, 0, none⟩)]) (by simp) (by simp [go_sem]) ?_
    refine (idle144 ⟨w.heap.size, 0, none⟩ _).mono ?_
    rintro e u' w'' ⟨rfl, rfl, rfl⟩
    simp [Leaves, settle, results, Tryz.results62, go_sem, g0, g1, Result.andThen]
    exact ⟨⟨rfl, rfl⟩, HB4.out⟩
  · go_wp2
    refine leaves_cons (f := 144) (args := #[.pointer (some ⟨w.heap.size, 0, none⟩)]) (by simp) (by simp [go_sem]) ?_
    refine (catch144 w.heap.size _ _ c th _ HX3.out).mono ?_
    rintro e u' w'' ⟨rfl, rfl, hb, hk⟩
    have g0 := hb.cell 0 (v := .int .i64 c) rfl
    have g1 := hb.cell 1 (v := .string th) rfl
    simp [Leaves, settle, results, Tryz.results62, go_sem, g0, g1, Result.andThen]
    exact ⟨⟨rfl, rfl⟩, keptBelow HB3.out hk (Nat.le_refl _)⟩

/-- Check: the first finding, or none. -/
theorem check_any (v : Value) (s : Sch) (w : World) (hs : SchIs w v s) : Calls Tryz.prog 15 #[v] w fun e w' => e = .returned (.tuple #[.int .i64 (fndC (checkE s)), .string (fndT (checkE s))]) ∧ Below w.heap.size w w' := by
  have hmf := mk_func
  obtain ⟨i0, j0, i1, j1, i2, j2, i3, j3, i4, j4, i5, j5, rfl, h0, h1, h2, h3, h4, h5⟩ := hs.parts
  clear h0 h1 h2 h3 h4 h5
  have hB0 : Below w.heap.size w (w.alloc (.cells #[.slice i0 s.headers.length j0, .slice i1 s.metas.length j1, .slice i2 s.states.length j2, .slice i3 s.actions.length j3, .slice i4 s.tables.length j4, .slice i5 s.control.length j5] 34)) := (Below.refl _ _).alloc (Nat.le_refl _) _
  have hX0 : Blk (w.alloc (.cells #[.slice i0 s.headers.length j0, .slice i1 s.metas.length j1, .slice i2 s.states.length j2, .slice i3 s.actions.length j3, .slice i4 s.tables.length j4, .slice i5 s.control.length j5] 34)) w.heap.size #[.slice i0 s.headers.length j0, .slice i1 s.metas.length j1, .slice i2 s.states.length j2, .slice i3 s.actions.length j3, .slice i4 s.tables.length j4, .slice i5 s.control.length j5] 34 := Blk.new w _ 34
  have hS0 := hs.pres (pres_below hB0)
  have HB0 : Hid (Below w.heap.size w (w.alloc (.cells #[.slice i0 s.headers.length j0, .slice i1 s.metas.length j1, .slice i2 s.states.length j2, .slice i3 s.actions.length j3, .slice i4 s.tables.length j4, .slice i5 s.control.length j5] 34))) := hB0
  have CC : Hid (Calls Tryz.prog 62 #[.func (.func 63) #[] #[.pointer (some ⟨w.heap.size, 0, none⟩)]] (w.alloc (.cells #[.slice i0 s.headers.length j0, .slice i1 s.metas.length j1, .slice i2 s.states.length j2, .slice i3 s.actions.length j3, .slice i4 s.tables.length j4, .slice i5 s.control.length j5] 34)) fun e w' => e = .returned (.agg #[.int .i64 (fndC (checkE s)), .string (fndT (checkE s))]) ∧ Below (w.alloc (.cells #[.slice i0 s.headers.length j0, .slice i1 s.metas.length j1, .slice i2 s.states.length j2, .slice i3 s.actions.length j3, .slice i4 s.tables.length j4, .slice i5 s.control.length j5] 34)).heap.size (w.alloc (.cells #[.slice i0 s.headers.length j0, .slice i1 s.metas.length j1, .slice i2 s.states.length j2, .slice i3 s.actions.length j3, .slice i4 s.tables.length j4, .slice i5 s.control.length j5] 34)) w') :=
    caught_any _ _ _ (fun w1 hb => check1_any w1 _ _ _ _ _ _ _ s (hS0.pres (pres_below hb)) (hX0.below hb))
  generalize checkE s = R at *
  clear hB0 hX0 hS0 hs
  go_enter Tryz.func15, Tryz.ntmps15
  go_wp2_with fail
  generalize (w.alloc _) = W0 at HB0 CC ⊢
  refine CC.out.mono ?_
  rintro e W1 ⟨rfl, hb1⟩
  have HB1 : Hid (Below w.heap.size w (W1.alloc (.cells #[.int .i64 (fndC R), .string (fndT R)] 104))) := (bst HB0.out hb1 (Nat.le_refl _)).alloc (bst HB0.out hb1 (Nat.le_refl _)).size _
  have HX1 : Hid (Blk (W1.alloc (.cells #[.int .i64 (fndC R), .string (fndT R)] 104)) W1.heap.size #[.int .i64 (fndC R), .string (fndT R)] 104) := Blk.new W1 _ 104
  clear hb1 HB0 CC
  go_wp2
  generalize W1.alloc _ = W2 at HB1 HX1 ⊢
  generalize W1.heap.size = n1 at HX1 ⊢
  have g0 := HX1.out.cell 0 (v := .int .i64 (fndC R)) rfl
  have g1 := HX1.out.cell 1 (v := .string (fndT R)) rfl
  clear HX1
  go_region
  generalize hW : W2.drew = W3
  have HB3 : Hid (Below w.heap.size w W3) := by rw [← hW]; exact HB1.out.drew
  clear hW HB1 g0 g1
  go_wp2
  first | go_ret2 | go_ret | trace_state
  exact ⟨rfl, HB3.out⟩
end Go.Proofs.YtmbpclknhkbbkaaGreat
namespace Go.Proofs.YtmbpclknhkbbkaaGreat
open Go.RowKit
set_option linter.unusedVariables false
set_option linter.unusedSimpArgs false

/-- A list of texts of the call's own: all of it is new memory. -/
theorem own_txt {w : World} {B : Nat} {sv : Value} {out : List ByteArray} (h : w.ownsRow B 9 1 sv out.length (strsV out)) (hl : out.length ≤ 128) (hok : ∀ x ∈ out, Okt x) : TxtRow (upw B w) sv out := by
  refine ⟨?_, by unfold Len; omega⟩
  rcases h.2 with ⟨rfl, h0⟩ | ⟨g, cap, cur, rfl, hb, hg, hn, _, hs, htk⟩
  · have : out = [] := List.length_eq_zero_iff.1 h0
    subst this
    exact ⟨none, 0, rfl, Nat.le_refl _, .inl rfl⟩
  · refine ⟨some ⟨g, 0, none⟩, cap, rfl, hn, .inr ⟨g, 0, rfl, fun i x hx => ⟨#[.string x], rfl, fun j u hu => ?_, rfl, hok x (List.mem_of_getElem? hx)⟩⟩⟩
    have hj : j = 0 := by
      rcases j with _ | j
      · rfl
      · simp at hu
    subst hj
    have hi := (List.getElem?_eq_some_iff.1 hx).1
    have hc := h.cellAt (g := g) (cap := cap) i (by omega)
    have e : (strsV out)[i]? = some (.string x) := by unfold strsV; rw [List.getElem?_map, hx]; rfl
    rw [e] at hc
    have : u = .string x := by simpa using hu.symm
    subst this
    refine cell_up ?_ hb
    simpa using hc
/-- The tables that are applied. -/
def appL (xs : List Stg) : List ByteArray := match wlkL apStp xs 1 [] with
  | .ok (_, out) => out
  | .error _ => []
def appliedE (s : Sch) : List ByteArray := if sizeE s.control = 0 then appL s.control else []
set_option maxHeartbeats 2000000 in
theorem applied_any (v : Value) (s : Sch) (w : World) (hs : SchIs w v s) : Calls Tryz.prog 23 #[v] w fun e w' => ∃ u, e = .returned u ∧ TxtRow (upw w.heap.size w') u (appliedE s) ∧ Below w.heap.size w w' := by
  obtain ⟨i0, j0, i1, j1, i2, j2, i3, j3, i4, j4, i5, j5, rfl, h0, h1, h2, h3, h4, h5⟩ := hs.parts
  have HR : Hid (StgRow w (.slice i5 s.control.length j5) s.control) := h5
  have hnil : Hid (∀ w', TxtRow (upw w.heap.size w') (.slice none 0 0) []) := fun w' => own_txt (World.ownsRow_nil w' _ 9 1) (by simp) (fun x hx => by cases hx)
  have HE : Hid (appliedE s = if sizeE s.control = 0 then appL s.control else []) := rfl
  generalize appliedE s = R at *
  clear hs h0 h1 h2 h3 h4 h5
  generalize s.control = xs at *
  have HB0 : Hid (Below w.heap.size w (w.alloc (.cells #[.slice i0 s.headers.length j0, .slice i1 s.metas.length j1, .slice i2 s.states.length j2, .slice i3 s.actions.length j3, .slice i4 s.tables.length j4, .slice i5 xs.length j5] 34))) := (Below.refl _ _).alloc (Nat.le_refl _) _
  have HX0 : Hid (Blk (w.alloc (.cells #[.slice i0 s.headers.length j0, .slice i1 s.metas.length j1, .slice i2 s.states.length j2, .slice i3 s.actions.length j3, .slice i4 s.tables.length j4, .slice i5 xs.length j5] 34)) w.heap.size #[.slice i0 s.headers.length j0, .slice i1 s.metas.length j1, .slice i2 s.states.length j2, .slice i3 s.actions.length j3, .slice i4 s.tables.length j4, .slice i5 xs.length j5] 34) := Blk.new w _ 34
  have hmm := @run_makeMap Tryz.prog
  have hmf := mf
  go_enter Tryz.func23, Tryz.ntmps23
  go_upto_region 1 with fail
  generalize (w.alloc _) = W0 at HB0 HX0 ⊢
  obtain ⟨xb, hxb⟩ : ∃ xb, xb = w.heap.size := ⟨_, rfl⟩
  rw [← hxb] at HX0 ⊢
  clear hxb
  have CS : Hid (Calls Tryz.prog 84 #[.slice i5 xs.length j5] W0 fun e w' => e = .returned (.int .i64 (sizeE xs)) ∧ Below W0.heap.size W0 w') := size_any _ xs W0 (HR.out.pres (pres_below HB0.out))
  have x5 := HX0.out.cell 5 (v := .slice i5 xs.length j5) rfl
  go_wp2_with fail
  refine CS.out.mono ?_
  rintro e W1 ⟨rfl, hb1⟩
  have HB1 : Hid (Below w.heap.size w W1) := HB0.out.trans (hb1.mono HB0.out.size)
  have HX1 := hblk HX0 hb1
  clear hb1 CS HB0 HX0 x5
  by_cases hE : sizeE xs = 0
  case neg =>
    have HE2 : Hid (R = []) := by show _ = _; rw [HE.out, if_neg hE]
    go_wp2
    go_ret
    exact ⟨_, rfl, by rw [HE2.out]; exact hnil.out _, HB1.out⟩
  have HE2 : Hid (R = appL xs) := by show _ = _; rw [HE.out, if_pos hE]
  have HF : Hid (szL xs ≤ 128) := size_le hE
  rw [hE]
  clear HE hE
  go_upto_region 5 with fail
  have HA4 : Hid (Below W1.heap.size W1 (((W1.alloc (.cells #[.slice none 0 0] 36)).alloc (.map #[] 0)).alloc (.cells #[.map (some (W1.heap.size + 1))] 108))) := (((Below.refl _ _).alloc (Nat.le_refl _) _).alloc (by simp) _).alloc (by simp; omega) _
  have HL4 : Hid (Blk (((W1.alloc (.cells #[.slice none 0 0] 36)).alloc (.map #[] 0)).alloc (.cells #[.map (some (W1.heap.size + 1))] 108)) W1.heap.size #[.slice none 0 0] 36) := ((Blk.new W1 _ 36).below ((Below.refl _ _).alloc (Nat.le_refl _) _)).below ((Below.refl _ _).alloc (Nat.le_refl _) _)
  have HS4 : Hid (SetT (((W1.alloc (.cells #[.slice none 0 0] 36)).alloc (.map #[] 0)).alloc (.cells #[.map (some (W1.heap.size + 1))] 108)) (W1.heap.size + 1) []) := by
    have := (SetT.new (W1.alloc (.cells #[.slice none 0 0] 36))).below (((Below.refl _ _).alloc (Nat.le_refl _) (.cells #[.map (some (W1.heap.size + 1))] 108)))
    show SetT _ _ _
    simpa using this
  have HM4 : Hid (Blk (((W1.alloc (.cells #[.slice none 0 0] 36)).alloc (.map #[] 0)).alloc (.cells #[.map (some (W1.heap.size + 1))] 108)) (W1.heap.size + 1 + 1) #[.map (some (W1.heap.size + 1))] 108) := by
    have := Blk.new ((W1.alloc (.cells #[.slice none 0 0] 36)).alloc (.map #[] 0)) #[.map (some (W1.heap.size + 1))] 108
    show Blk _ _ _ _
    simpa using this
  generalize (((W1.alloc _).alloc (.map #[] 0)).alloc _) = W4 at HA4 HL4 HS4 HM4 ⊢
  have hsz := HB1.out.size
  have HB4 : Hid (Below w.heap.size w W4) := HB1.out.trans (HA4.out.mono HB1.out.size)
  have x5 := (HX1.out.below HA4.out).cell 5 (v := .slice i5 xs.length j5) rfl
  obtain ⟨pl, hpl⟩ : ∃ pl, pl = W1.heap.size := ⟨_, rfl⟩
  rw [← hpl] at HL4 HS4 HM4 hsz ⊢
  clear hpl HA4 HX1 HB1 hmm
  have CW : Hid (Calls Tryz.prog 85 #[.slice i5 xs.length j5, .int .i64 1, .func (.func 86) #[] #[.pointer (some ⟨pl + 1 + 1, 0, none⟩), .pointer (some ⟨pl, 0, none⟩)]] W4 fun e w' => VOut (ApI w (pl + 1 + 1) pl (pl + 1) 0) (ApI w (pl + 1 + 1) pl (pl + 1) 0) (apOwn pl (pl + 1)) (fun _ _ => False) W4 (wlkL apStp xs 1 []) e w') := by
    refine walk86_fuel (ApI w (pl + 1 + 1) pl (pl + 1)) (ApI w (pl + 1 + 1) pl (pl + 1) 0) ?_ (apOwn pl (pl + 1)) (fun _ _ => False) apStp w _ _ ?_ ?_ ?_ ?_ ?_ (szL xs) 0 xs _ 1 [] W4 (Nat.le_refl _) HR.out ⟨HB4.out, HM4.out, HS4.out, ⟨_, HL4.out, World.ownsRow_nil _ _ _ _, fun k e => by simp [Value.ownBlock] at e⟩, (fun x hx => by cases hx), by have := HF.out; simp; omega⟩
    · intro f s a h
      exact ⟨h.below, h.cm, h.st, h.lst, h.okt, by have := h.fuel; omega⟩
    · intro f s a b h hb
      exact h.grow hb
    · intro f s a h
      exact pres_below h.below
    · intro f s a k h hk
      exact h.own hk
    · intro f s a b k h hb hk
      exact h.og hb hk
    · intro f s a x cs d h hx
      exact applied1_any w (pl + 1 + 1) pl (pl + 1) f ⟨by omega, by omega, by omega, by omega, by omega, by omega⟩ s a x cs d h hx
  have HE3 : Hid (R = match wlkL apStp xs 1 [] with | .ok (_, out) => out | .error _ => []) := HE2.out
  generalize wlkL apStp xs 1 [] = r at *
  clear HE2 HL4 HS4 HM4 HB4 HF HR
  go_wp2_with fail
  refine CW.out.mono ?_
  intro e W5 hout
  cases r with
  | error p => exact hout.2.elim
  | ok bs =>
    obtain ⟨bb, out⟩ := bs
    obtain ⟨rfl, _, hJ, _⟩ := hout
    obtain ⟨sv, l1, l2, l3⟩ := hJ.lst
    have l0 := l1.cell 0 (v := sv) rfl
    have HT : Hid (TxtRow (upw w.heap.size W5) sv R) := by
      show TxtRow _ _ _
      rw [HE3.out]
      exact own_txt l2 (by have := hJ.fuel; omega) hJ.okt
    have HB5 : Hid (Below w.heap.size w W5) := hJ.below
    clear hJ l1 l2 l3 CW x5 HE3
    go_wp2
    go_ret
    exact ⟨_, rfl, HT.out, HB5.out⟩
end Go.Proofs.YtmbpclknhkbbkaaGreat
namespace Go.Proofs.YtmbpclknhkbbkaaGreat
open Go.RowKit
set_option linter.unusedVariables false
set_option linter.unusedSimpArgs false

def meetsE (s : Sch) : Int := if sizeE s.control = 0 then mostL s.control 0 else 0
set_option maxHeartbeats 1000000 in
theorem meets_any (v : Value) (s : Sch) (w : World) (hs : SchIs w v s) : Calls Tryz.prog 25 #[v] w fun e w' => e = .returned (.int .i64 (meetsE s)) ∧ Below w.heap.size w w' := by
  obtain ⟨i0, j0, i1, j1, i2, j2, i3, j3, i4, j4, i5, j5, rfl, h0, h1, h2, h3, h4, h5⟩ := hs.parts
  have HR : Hid (StgRow w (.slice i5 s.control.length j5) s.control) := h5
  have HE : Hid (meetsE s = if sizeE s.control = 0 then mostL s.control 0 else 0) := rfl
  generalize meetsE s = R at *
  clear hs h0 h1 h2 h3 h4 h5
  generalize s.control = xs at *
  have HB0 : Hid (Below w.heap.size w (w.alloc (.cells #[.slice i0 s.headers.length j0, .slice i1 s.metas.length j1, .slice i2 s.states.length j2, .slice i3 s.actions.length j3, .slice i4 s.tables.length j4, .slice i5 xs.length j5] 34))) := (Below.refl _ _).alloc (Nat.le_refl _) _
  have HX0 : Hid (Blk (w.alloc (.cells #[.slice i0 s.headers.length j0, .slice i1 s.metas.length j1, .slice i2 s.states.length j2, .slice i3 s.actions.length j3, .slice i4 s.tables.length j4, .slice i5 xs.length j5] 34)) w.heap.size #[.slice i0 s.headers.length j0, .slice i1 s.metas.length j1, .slice i2 s.states.length j2, .slice i3 s.actions.length j3, .slice i4 s.tables.length j4, .slice i5 xs.length j5] 34) := Blk.new w _ 34
  go_enter Tryz.func25, Tryz.ntmps25
  go_upto_region 1 with fail
  generalize (w.alloc _) = W0 at HB0 HX0 ⊢
  obtain ⟨xb, hxb⟩ : ∃ xb, xb = w.heap.size := ⟨_, rfl⟩
  rw [← hxb] at HX0 ⊢
  clear hxb
  have CS : Hid (Calls Tryz.prog 84 #[.slice i5 xs.length j5] W0 fun e w' => e = .returned (.int .i64 (sizeE xs)) ∧ Below W0.heap.size W0 w') := size_any _ xs W0 (HR.out.pres (pres_below HB0.out))
  have x5 := HX0.out.cell 5 (v := .slice i5 xs.length j5) rfl
  go_wp2_with fail
  refine CS.out.mono ?_
  rintro e W1 ⟨rfl, hb1⟩
  have HB1 : Hid (Below w.heap.size w W1) := HB0.out.trans (hb1.mono HB0.out.size)
  have HX1 := hblk HX0 hb1
  clear hb1 CS HB0 HX0 x5
  by_cases hE : sizeE xs = 0
  case neg =>
    have HE2 : Hid (R = 0) := by show _ = _; rw [HE.out, if_neg hE]
    go_wp2
    go_ret
    exact ⟨by rw [HE2.out]; rfl, HB1.out⟩
  have HE2 : Hid (R = mostL xs 0) := by show _ = _; rw [HE.out, if_pos hE]
  rw [hE]
  clear HE hE
  have CM : Hid (Calls Tryz.prog 90 #[.slice i5 xs.length j5, .int .i64 0] W1 fun e w' => e = .returned (.int .i64 (mostL xs 0)) ∧ Below W1.heap.size W1 w') := most_any (szL xs) xs _ 0 W1 (Nat.le_refl _) (HR.out.pres (pres_below HB1.out))
  have x5 := HX1.out.cell 5 (v := .slice i5 xs.length j5) rfl
  go_wp2_with fail
  refine CM.out.mono ?_
  rintro e W2 ⟨rfl, hb2⟩
  have HB2 : Hid (Below w.heap.size w W2) := HB1.out.trans (hb2.mono HB1.out.size)
  clear hb2 CM HB1 HX1 x5
  go_wp2
  go_ret
  exact ⟨by rw [HE2.out]; rfl, HB2.out⟩
end Go.Proofs.YtmbpclknhkbbkaaGreat
namespace Go.Proofs.YtmbpclknhkbbkaaGreat
open Go.RowKit
set_option linter.unusedVariables false
set_option linter.unusedSimpArgs false

theorem chk_no : checkE (exS [511]) = none := by kernel_rfl
def badT : ByteArray := ⟨#[116, 97, 98, 108, 101, 32, 114, 111, 117, 116, 101]⟩
theorem chk_yes : checkE (exS [511, 0]) = some (76, badT) := by kernel_rfl
theorem app_ex : appliedE (exS [511]) = [⟨#[114, 111, 117, 116, 101]⟩] := by kernel_rfl
theorem meet_ex : meetsE (exS [511]) = 1 := by kernel_rfl
theorem tbl_ex : tblAt (exS [511]) ⟨#[114, 111, 117, 116, 101]⟩ = ((0 : Nat) : Int) := by kernel_rfl
def exT0 : Tbl := ⟨⟨#[114, 111, 117, 116, 101]⟩, [⟨⟨⟨#[105, 112]⟩, ⟨#[115, 114, 99]⟩⟩, 2⟩], [⟨#[111, 117, 116]⟩], 4, ⟨⟨#[111, 117, 116]⟩, [511]⟩, false⟩
theorem tbl_ex0 : (exS [511]).tables[0]? = some exT0 := rfl
theorem wid_ex : exT0.keys.map (fun k => widW (exS [511]) k.ref) = [32] := by kernel_rfl
theorem kind_ex : kindF exT0.keys 1 = 2 := by kernel_rfl
theorem name_ex : nameB (⟨#[114, 111, 117, 116, 101]⟩ : ByteArray).data.toList = true := by kernel_rfl
theorem width_ex : widW (exS [511]) ⟨⟨#[109, 101, 116, 97]⟩, ⟨#[112, 111, 114, 116]⟩⟩ = 9 := by kernel_rfl
theorem same_ne : ¬ exS [511] = exS [511, 0] := by
  intro h
  have : exT [511] = exT [511, 0] := congrArg Sch.tables h
  simp [exT] at this
/-- What shown holds: the example in its box, the table in another. -/
structure Shw (b1 b9 : Nat) (v0 v1 v2 v3 v4 v5 : Value) (A1 A2 A3 : Option Addr) (C1 C2 C3 : Nat) (V : World) : Prop where
  one : Blk V b1 #[v0, v1, v2, v3, v4, v5] 34
  sch : SchIs V (.agg #[v0, v1, v2, v3, v4, v5]) (exS [511])
  two : Blk V b9 #[.string ⟨#[114, 111, 117, 116, 101]⟩, .slice A1 1 C1, .slice A2 1 C2, .int .i64 4, .string ⟨#[111, 117, 116]⟩, .slice A3 1 C3, .bool false] 51
  tbl : TblIs V #[.string ⟨#[114, 111, 117, 116, 101]⟩, .slice A1 1 C1, .slice A2 1 C2, .int .i64 4, .string ⟨#[111, 117, 116]⟩, .slice A3 1 C3, .bool false] exT0
theorem Shw.below {b1 b9 : Nat} {v0 v1 v2 v3 v4 v5 : Value} {A1 A2 A3 : Option Addr} {C1 C2 C3 : Nat} {V V' : World} (h : Shw b1 b9 v0 v1 v2 v3 v4 v5 A1 A2 A3 C1 C2 C3 V) (hb : Below V.heap.size V V') : Shw b1 b9 v0 v1 v2 v3 v4 v5 A1 A2 A3 C1 C2 C3 V' :=
  ⟨h.one.below hb, h.sch.pres (pres_below hb), h.two.below hb, h.tbl.pres (pres_below hb)⟩
theorem sh25 {b1 b9 : Nat} {v0 v1 v2 v3 v4 v5 : Value} {A1 A2 A3 : Option Addr} {C1 C2 C3 : Nat} (W : World) (h : Hid (Shw b1 b9 v0 v1 v2 v3 v4 v5 A1 A2 A3 C1 C2 C3 W)) : Calls Tryz.prog 25 #[.agg #[v0, v1, v2, v3, v4, v5]] W fun e V => e = .returned (.int .i64 1) ∧ Hid (Below W.heap.size W V) ∧ Hid (Shw b1 b9 v0 v1 v2 v3 v4 v5 A1 A2 A3 C1 C2 C3 V) := by
  refine (meets_any _ _ W h.out.sch).mono ?_
  rintro e V ⟨rfl, hb⟩
  exact ⟨by simp only [meet_ex], hb, h.out.below hb⟩
theorem sh20 {b1 b9 : Nat} {v0 v1 v2 v3 v4 v5 : Value} {A1 A2 A3 : Option Addr} {C1 C2 C3 : Nat} (W : World) (h : Hid (Shw b1 b9 v0 v1 v2 v3 v4 v5 A1 A2 A3 C1 C2 C3 W)) : Calls Tryz.prog 20 #[.agg #[.string ⟨#[114, 111, 117, 116, 101]⟩, .slice A1 1 C1, .slice A2 1 C2, .int .i64 4, .string ⟨#[111, 117, 116]⟩, .slice A3 1 C3, .bool false]] W fun e V => e = .returned (.int .i64 2) ∧ Hid (Below W.heap.size W V) ∧ Hid (Shw b1 b9 v0 v1 v2 v3 v4 v5 A1 A2 A3 C1 C2 C3 V) := by
  refine (kind_any _ _ W h.out.tbl).mono ?_
  rintro e V ⟨rfl, hb⟩
  exact ⟨by simp only [kind_ex], hb, h.out.below hb⟩
theorem sh17 {b1 b9 : Nat} {v0 v1 v2 v3 v4 v5 : Value} {A1 A2 A3 : Option Addr} {C1 C2 C3 : Nat} (W : World) (h : Hid (Shw b1 b9 v0 v1 v2 v3 v4 v5 A1 A2 A3 C1 C2 C3 W)) : Calls Tryz.prog 17 #[.string ⟨#[114, 111, 117, 116, 101]⟩] W fun e V => e = .returned (.bool true) ∧ Hid (Below W.heap.size W V) ∧ Hid (Shw b1 b9 v0 v1 v2 v3 v4 v5 A1 A2 A3 C1 C2 C3 V) := by
  refine (isName_any ⟨#[114, 111, 117, 116, 101]⟩ (by unfold maxLen; decide) W).mono ?_
  rintro e V ⟨rfl, hb⟩
  exact ⟨by rw [name_ex], hb, h.out.below hb⟩
theorem sh61 {b1 b9 : Nat} {v0 v1 v2 v3 v4 v5 : Value} {A1 A2 A3 : Option Addr} {C1 C2 C3 : Nat} (W : World) (h : Hid (Shw b1 b9 v0 v1 v2 v3 v4 v5 A1 A2 A3 C1 C2 C3 W)) : Calls Tryz.prog 61 #[.agg #[v0, v1, v2, v3, v4, v5], .agg #[.string ⟨#[109, 101, 116, 97]⟩, .string ⟨#[112, 111, 114, 116]⟩]] W fun e V => e = .returned (.int .i64 9) ∧ Hid (Below W.heap.size W V) ∧ Hid (Shw b1 b9 v0 v1 v2 v3 v4 v5 A1 A2 A3 C1 C2 C3 V) := by
  refine (width_any _ _ ⟨⟨#[109, 101, 116, 97]⟩, ⟨#[112, 111, 114, 116]⟩⟩ W h.out.sch).mono ?_
  rintro e V ⟨rfl, hb⟩
  exact ⟨by simp only [width_ex], hb, h.out.below hb⟩
theorem sh28 {b1 b9 : Nat} {v0 v1 v2 v3 v4 v5 : Value} {A1 A2 A3 : Option Addr} {C1 C2 C3 : Nat} (W : World) (h : Hid (Shw b1 b9 v0 v1 v2 v3 v4 v5 A1 A2 A3 C1 C2 C3 W)) : Calls Tryz.prog 28 #[.agg #[v0, v1, v2, v3, v4, v5]] W fun e V => ∃ v', e = .returned v' ∧ Hid (SchIs V v' (exS [511])) ∧ Hid (Below W.heap.size W V) ∧ Hid (Shw b1 b9 v0 v1 v2 v3 v4 v5 A1 A2 A3 C1 C2 C3 V) := by
  refine (copy_any _ _ W h.out.sch).mono ?_
  rintro e V ⟨v', rfl, hv, hb⟩
  exact ⟨v', rfl, hv.pres (pres_up _ _), hb, h.out.below hb⟩
theorem sh30 {b1 b9 : Nat} {v0 v1 v2 v3 v4 v5 : Value} {A1 A2 A3 : Option Addr} {C1 C2 C3 : Nat} (W : World) (h : Hid (Shw b1 b9 v0 v1 v2 v3 v4 v5 A1 A2 A3 C1 C2 C3 W)) {v' : Value} (h2 : Hid (SchIs W v' (exS [511]))) : Calls Tryz.prog 30 #[.agg #[v0, v1, v2, v3, v4, v5], v'] W fun e V => e = .returned (.bool true) ∧ Hid (Below W.heap.size W V) ∧ Hid (Shw b1 b9 v0 v1 v2 v3 v4 v5 A1 A2 A3 C1 C2 C3 V) := by
  refine (same_any _ _ _ _ W h.out.sch h2.out).mono ?_
  rintro e V ⟨rfl, hb⟩
  exact ⟨by simp, hb, h.out.below hb⟩
theorem sh60 {b1 b9 : Nat} {v0 v1 v2 v3 v4 v5 : Value} {A1 A2 A3 : Option Addr} {C1 C2 C3 : Nat} (W : World) (h : Hid (Shw b1 b9 v0 v1 v2 v3 v4 v5 A1 A2 A3 C1 C2 C3 W)) : Calls Tryz.prog 60 #[.bool true] W fun e V => ∃ v', e = .returned v' ∧ Hid (SchIs V v' (exS [511, 0])) ∧ Hid (Below W.heap.size W V) ∧ Hid (Shw b1 b9 v0 v1 v2 v3 v4 v5 A1 A2 A3 C1 C2 C3 V) := by
  refine (example_yes W).mono ?_
  rintro e V ⟨v', rfl, hv, hb⟩
  exact ⟨v', rfl, hv, hb, h.out.below hb⟩
theorem sh30b {b1 b9 : Nat} {v0 v1 v2 v3 v4 v5 : Value} {A1 A2 A3 : Option Addr} {C1 C2 C3 : Nat} (W : World) (h : Hid (Shw b1 b9 v0 v1 v2 v3 v4 v5 A1 A2 A3 C1 C2 C3 W)) {v' : Value} (h2 : Hid (SchIs W v' (exS [511, 0]))) : Calls Tryz.prog 30 #[.agg #[v0, v1, v2, v3, v4, v5], v'] W fun e V => e = .returned (.bool false) ∧ Hid (Below W.heap.size W V) ∧ Hid (Shw b1 b9 v0 v1 v2 v3 v4 v5 A1 A2 A3 C1 C2 C3 V) := by
  refine (same_any _ _ _ _ W h.out.sch h2.out).mono ?_
  rintro e V ⟨rfl, hb⟩
  exact ⟨by rw [decide_eq_false same_ne], hb, h.out.below hb⟩
end Go.Proofs.YtmbpclknhkbbkaaGreat
