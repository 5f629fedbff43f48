/- SchemaControls: its walk. -/
import Derived.Test.YtmbpclknhkbbkaaGreatGf
import Derived.Test.YtmbpclknhkbbkaaGreatVe
import Derived.Test.YtmbpclknhkbbkaaGreatB27
import Derived.Deep.RegionHeld3
set_option linter.unusedSimpArgs false
set_option linter.unusedVariables false
namespace Go.Proofs.YtmbpclknhkbbkaaGreat
open Go.RowKit
set_option linter.unusedVariables false
set_option linter.unusedSimpArgs false

/-- What SchemaControls holds: its schema, in a block of its own. -/
structure Ctw (w0 : World) (xb : Nat) (v0 v1 v2 v3 v4 v5 : Value) (s : Sch) (V : World) : Prop where
 one : Blk V xb #[v0,v1,v2,v3,v4,v5] 34
 sch : SchIs V (.agg #[v0,v1,v2,v3,v4,v5]) s
 bel : Below w0.heap.size w0 V
theorem Ctw.below {w0 : World} {xb : Nat} {v0 v1 v2 v3 v4 v5 : Value} {s : Sch} {V V' : World} (h : Ctw w0 xb v0 v1 v2 v3 v4 v5 s V) (hb : Below V.heap.size V V') : Ctw w0 xb v0 v1 v2 v3 v4 v5 s V' := ⟨h.one.below hb,h.sch.pres (pres_below hb),bst h.bel hb⟩
theorem ct23 {w0 : World} {xb : Nat} {v0 v1 v2 v3 v4 v5 : Value} {s : Sch} (W : World) (h : Hid (Ctw w0 xb v0 v1 v2 v3 v4 v5 s W)) : Calls Tryz.prog 23 #[.agg #[v0,v1,v2,v3,v4,v5]] W fun e V => ∃ u,e = .returned u ∧ Hid (TxtRow V u (appliedE s)) ∧ Hid (Ctw w0 xb v0 v1 v2 v3 v4 v5 s V) := by
 refine (applied_any _ s W h.out.sch).mono ?_
 rintro e V ⟨u,rfl,h1,hb⟩
 exact ⟨u,rfl,h1.pres (pres_up _ _),h.out.below hb⟩
theorem ct23b {w0 : World} {xb : Nat} {v0 v1 v2 v3 v4 v5 : Value} {s : Sch} (W : World) (h : Hid (Ctw w0 xb v0 v1 v2 v3 v4 v5 s W)) {u' : Value} (h2 : Hid (TxtRow W u' (appliedE s))) : Calls Tryz.prog 23 #[.agg #[v0,v1,v2,v3,v4,v5]] W fun e V => ∃ u,e = .returned u ∧ Hid (TxtRow V u (appliedE s)) ∧ Hid (TxtRow V u' (appliedE s)) ∧ Hid (Ctw w0 xb v0 v1 v2 v3 v4 v5 s V) := by
 refine (applied_any _ s W h.out.sch).mono ?_
 rintro e V ⟨u,rfl,h1,hb⟩
 exact ⟨u,rfl,h1.pres (pres_up _ _),h2.out.pres (pres_below hb),h.out.below hb⟩
theorem ct24 {w0 : World} {xb : Nat} {v0 v1 v2 v3 v4 v5 : Value} {s : Sch} (W : World) (h : Hid (Ctw w0 xb v0 v1 v2 v3 v4 v5 s W)) : Calls Tryz.prog 24 #[.agg #[v0,v1,v2,v3,v4,v5]] W fun e V => ∃ u,e = .returned u ∧ Hid (TxtRow V u (appliedE s)) ∧ Hid (Ctw w0 xb v0 v1 v2 v3 v4 v5 s V) := by
 refine (rapplied_any _ s W h.out.sch).mono ?_
 rintro e V ⟨u,rfl,h1,hb⟩
 exact ⟨u,rfl,h1,h.out.below hb⟩
theorem ct24b {w0 : World} {xb : Nat} {v0 v1 v2 v3 v4 v5 : Value} {s : Sch} (W : World) (h : Hid (Ctw w0 xb v0 v1 v2 v3 v4 v5 s W)) {u' : Value} (h2 : Hid (TxtRow W u' (appliedE s))) : Calls Tryz.prog 24 #[.agg #[v0,v1,v2,v3,v4,v5]] W fun e V => ∃ u,e = .returned u ∧ Hid (TxtRow V u (appliedE s)) ∧ Hid (TxtRow V u' (appliedE s)) ∧ Hid (Ctw w0 xb v0 v1 v2 v3 v4 v5 s V) := by
 refine (rapplied_any _ s W h.out.sch).mono ?_
 rintro e V ⟨u,rfl,h1,hb⟩
 exact ⟨u,rfl,h1,h2.out.pres (pres_below hb),h.out.below hb⟩
theorem ct22 {w0 : World} {xb : Nat} {v0 v1 v2 v3 v4 v5 : Value} {s : Sch} (W : World) (h : Hid (Ctw w0 xb v0 v1 v2 v3 v4 v5 s W)) {u u' : Value} (h1 : Hid (TxtRow W u (appliedE s))) (h2 : Hid (TxtRow W u' (appliedE s))) : Calls Tryz.prog 22 #[u,u'] W fun e V => e = .returned (.bool true) ∧ Hid (Ctw w0 xb v0 v1 v2 v3 v4 v5 s V) := by
 refine (requalTxt_any u u' _ _ W h1.out.1 h2.out.1 (by have := h1.out.2; unfold Len at this; omega)).mono ?_
 rintro e V ⟨rfl,hb⟩
 exact ⟨by simp,h.out.below hb⟩
theorem ct25 {w0 : World} {xb : Nat} {v0 v1 v2 v3 v4 v5 : Value} {s : Sch} (W : World) (h : Hid (Ctw w0 xb v0 v1 v2 v3 v4 v5 s W)) : Calls Tryz.prog 25 #[.agg #[v0,v1,v2,v3,v4,v5]] W fun e V => e = .returned (.int .i64 (meetsE s)) ∧ Hid (Ctw w0 xb v0 v1 v2 v3 v4 v5 s V) := by
 refine (meets_any _ s W h.out.sch).mono ?_
 rintro e V ⟨rfl,hb⟩
 exact ⟨rfl,h.out.below hb⟩
theorem ct26 {w0 : World} {xb : Nat} {v0 v1 v2 v3 v4 v5 : Value} {s : Sch} (W : World) (h : Hid (Ctw w0 xb v0 v1 v2 v3 v4 v5 s W)) : Calls Tryz.prog 26 #[.agg #[v0,v1,v2,v3,v4,v5]] W fun e V => e = .returned (.int .i64 (meetsE s)) ∧ Hid (Ctw w0 xb v0 v1 v2 v3 v4 v5 s V) := by
 refine (rmeets_any _ s W h.out.sch).mono ?_
 rintro e V ⟨rfl,hb⟩
 exact ⟨rfl,h.out.below hb⟩
theorem ctw_of {w0 : World} {xb : Nat} {s : Sch} {a0 a1 a2 a3 a4 a5 : Option Addr} {n0 c0 n1 c1 n2 c2 n3 c3 n4 c4 n5 c5 : Nat} {w' : World} (h : Hid (Ctw w0 xb (.slice a0 n0 c0) (.slice a1 n1 c1) (.slice a2 n2 c2) (.slice a3 n3 c3) (.slice a4 n4 c4) (.slice a5 n5 c5) s w')) : w'.cell? ⟨xb,0,none⟩ = some (.slice a0 n0 c0) ∧ w'.cell? ⟨xb,1,none⟩ = some (.slice a1 n1 c1) ∧ w'.cell? ⟨xb,2,none⟩ = some (.slice a2 n2 c2) ∧ w'.cell? ⟨xb,3,none⟩ = some (.slice a3 n3 c3) ∧ w'.cell? ⟨xb,4,none⟩ = some (.slice a4 n4 c4) ∧ w'.cell? ⟨xb,5,none⟩ = some (.slice a5 n5 c5) :=
 ⟨h.out.one.cell 0 rfl,h.out.one.cell 1 rfl,h.out.one.cell 2 rfl,h.out.one.cell 3 rfl,h.out.one.cell 4 rfl,h.out.one.cell 5 rfl⟩
theorem ctw_end {w0 : World} {xb : Nat} {v0 v1 v2 v3 v4 v5 : Value} {s : Sch} {V : World} (h : Hid (Ctw w0 xb v0 v1 v2 v3 v4 v5 s V)) : Below w0.heap.size w0 V := h.out.bel
set_option maxHeartbeats 8000000 in
set_option maxRecDepth 100000 in
theorem controls_walk (v : Value) (s : Sch) (w : World) (hs : SchIs w v s) : Calls Tryz.prog 7 #[v] w fun e w' => e = .returned (.bool true) ∧ Below w.heap.size w w' := by
 obtain ⟨a0,c0,a1,c1,a2,c2,a3,c3,a4,c4,a5,c5,rfl,_⟩ := hs.parts
 have HB0 : Hid (Below w.heap.size w (w.alloc (.cells #[.slice a0 s.headers.length c0,.slice a1 s.metas.length c1,.slice a2 s.states.length c2,.slice a3 s.actions.length c3,.slice a4 s.tables.length c4,.slice a5 s.control.length c5] 34))) := (Below.refl _ _).alloc (Nat.le_refl _) _
 have HX0 : Hid (Blk (w.alloc (.cells #[.slice a0 s.headers.length c0,.slice a1 s.metas.length c1,.slice a2 s.states.length c2,.slice a3 s.actions.length c3,.slice a4 s.tables.length c4,.slice a5 s.control.length c5] 34)) w.heap.size #[.slice a0 s.headers.length c0,.slice a1 s.metas.length c1,.slice a2 s.states.length c2,.slice a3 s.actions.length c3,.slice a4 s.tables.length c4,.slice a5 s.control.length c5] 34) := Blk.new _ _ _
 have HS : Hid (SchIs w (.agg #[.slice a0 s.headers.length c0,.slice a1 s.metas.length c1,.slice a2 s.states.length c2,.slice a3 s.actions.length c3,.slice a4 s.tables.length c4,.slice a5 s.control.length c5]) s) := hs
 clear hs
 generalize s.headers.length = n0 at *
 generalize s.metas.length = n1 at *
 generalize s.states.length = n2 at *
 generalize s.actions.length = n3 at *
 generalize s.tables.length = n4 at *
 generalize s.control.length = n5 at *
 go_enter Tryz.func7,Tryz.ntmps7
 go_upto_region 1 with fail
 generalize (w.alloc _) = W0 at HB0 HX0 ⊢
 obtain ⟨xb,hxb⟩ : ∃ xb,xb = w.heap.size := ⟨_,rfl⟩
 rw [← hxb] at HX0 ⊢
 clear hxb
 go_wp2_with fail
 refine (shown_any _).mono ?_
 rintro e W1 ⟨rfl,hb⟩
 have HW : Hid (Ctw w xb (.slice a0 n0 c0) (.slice a1 n1 c1) (.slice a2 n2 c2) (.slice a3 n3 c3) (.slice a4 n4 c4) (.slice a5 n5 c5) s W1) := ⟨HX0.out.below hb,HS.out.pres (pres_below (bst HB0.out hb)),bst HB0.out hb⟩
 clear hb HB0 HX0 HS
 have HD : Hid (Ctw w xb (.slice a0 n0 c0) (.slice a1 n1 c1) (.slice a2 n2 c2) (.slice a3 n3 c3) (.slice a4 n4 c4) (.slice a5 n5 c5) s W1.drew) := HW.out.below ((Below.refl _ _).drew)
 go_upto_region 3 with fail
 go_region_held3 (fun w' => w'.cell? ⟨xb,0,none⟩ = some (.slice a0 n0 c0) ∧ w'.cell? ⟨xb,1,none⟩ = some (.slice a1 n1 c1) ∧ w'.cell? ⟨xb,2,none⟩ = some (.slice a2 n2 c2) ∧ w'.cell? ⟨xb,3,none⟩ = some (.slice a3 n3 c3) ∧ w'.cell? ⟨xb,4,none⟩ = some (.slice a4 n4 c4) ∧ w'.cell? ⟨xb,5,none⟩ = some (.slice a5 n5 c5))
  (exact ctw_of (by with_reducible assumption))
  (first
    | (go_at_call 22; refine (ct22 _ (by with_reducible assumption) (by with_reducible assumption) (by with_reducible assumption)).mono ?_; rintro e V ⟨rfl, K⟩)
    | (go_at_call 23; refine (ct23b _ (by with_reducible assumption) (by with_reducible assumption)).mono ?_; rintro e V ⟨u, rfl, J, J2, K⟩)
    | (go_at_call 23; refine (ct23 _ (by with_reducible assumption)).mono ?_; rintro e V ⟨u, rfl, J, K⟩)
    | (go_at_call 24; refine (ct24b _ (by with_reducible assumption) (by with_reducible assumption)).mono ?_; rintro e V ⟨u, rfl, J, J2, K⟩)
    | (go_at_call 24; refine (ct24 _ (by with_reducible assumption)).mono ?_; rintro e V ⟨u, rfl, J, K⟩)
    | (go_at_call 25; refine (ct25 _ (by with_reducible assumption)).mono ?_; rintro e V ⟨rfl, K⟩)
    | (go_at_call 26; refine (ct26 _ (by with_reducible assumption)).mono ?_; rintro e V ⟨rfl, K⟩))
 all_goals
  rename_i hHeld
  clear hHeld
  go_wp2
  go_ret
  exact ⟨rfl,ctw_end (by with_reducible assumption)⟩
end Go.Proofs.YtmbpclknhkbbkaaGreat
