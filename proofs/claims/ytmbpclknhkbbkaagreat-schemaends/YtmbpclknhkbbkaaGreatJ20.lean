/- The walk of SchemaEnds. -/
import Derived.Test.YtmbpclknhkbbkaaGreatJ37
import Derived.Test.YtmbpclknhkbbkaaGreatJ21
import Derived.Deep.RegionHeld3
namespace Go.Proofs.YtmbpclknhkbbkaaGreat
open Go.RowKit
set_option linter.unusedVariables false
set_option linter.unusedSimpArgs false

/-- What a round of SchemaEnds holds. -/
structure En0 (w : World) (xb : Nat) (v0 v1 v2 v3 v4 v5 : Value) (ad : Addr) (nm : ByteArray) (W : World) : Prop where
  below : Below w.heap.size w W
  box : Blk W xb #[v0, v1, v2, v3, v4, v5] 34
  nam : W.cell? ad = some (.string nm)
theorem en_keep {w : World} {xb : Nat} {v0 v1 v2 v3 v4 v5 : Value} {ad : Addr} {nm : ByteArray} {W V : World} (h : En0 w xb v0 v1 v2 v3 v4 v5 ad nm W) (hb : Below W.heap.size W V) : En0 w xb v0 v1 v2 v3 v4 v5 ad nm V := ⟨bst h.below hb (Nat.le_refl _), h.box.below hb, pres_below hb _ _ h.nam⟩
theorem en_of {w : World} {xb : Nat} {v0 v1 v2 v3 v4 v5 : Value} {ad : Addr} {nm : ByteArray} {W : World} (h : Hid (En0 w xb v0 v1 v2 v3 v4 v5 ad nm W)) : W.cell? ⟨xb, 0, none⟩ = some v0 ∧ W.cell? ⟨xb, 1, none⟩ = some v1 ∧ W.cell? ⟨xb, 2, none⟩ = some v2 ∧ W.cell? ⟨xb, 3, none⟩ = some v3 ∧ W.cell? ⟨xb, 4, none⟩ = some v4 ∧ W.cell? ⟨xb, 5, none⟩ = some v5 ∧ W.cell? ad = some (.string nm) :=
  ⟨h.out.box.cell 0 rfl, h.out.box.cell 1 rfl, h.out.box.cell 2 rfl, h.out.box.cell 3 rfl, h.out.box.cell 4 rfl, h.out.box.cell 5 rfl, h.out.nam⟩
theorem en_set {w : World} {xb : Nat} {v0 v1 v2 v3 v4 v5 : Value} {ad : Addr} {nm : ByteArray} {W : World} {nb : Nat} (h : Hid (En0 w xb v0 v1 v2 v3 v4 v5 ad nm W)) (hn : Hid (nb ≠ xb ∧ nb ≠ ad.block ∧ w.heap.size ≤ nb)) (a b : Value) : Hid (En0 w xb v0 v1 v2 v3 v4 v5 ad nm ((W.setCell ⟨nb, 0, none⟩ a).setCell ⟨nb, 1, none⟩ b)) := by
  have hk : Kept (fun k => k = nb) W ((W.setCell ⟨nb, 0, none⟩ a).setCell ⟨nb, 1, none⟩ b) := Kept.set (S := fun k => k = nb) (p := ⟨nb, 1, none⟩) (Kept.set (S := fun k => k = nb) (p := ⟨nb, 0, none⟩) (Kept.refl _ _) rfl _) rfl _
  have hsz := h.out.below.size
  exact ⟨h.out.below.trans (hk.below hsz (fun k e => by have := hn.out.2.2; omega)), h.out.box.kept hk (fun e => hn.out.1 e.symm), hk.cell h.out.nam (fun e => hn.out.2.1 e.symm)⟩
theorem hdr_form {W : World} {cs : Array Value} {t : Hdr} (h : HdrIs W cs t) : ∃ A C, cs = #[.string t.name, .slice A t.fields.length C] := by
  obtain ⟨v, rfl, _, h1⟩ := h
  obtain ⟨A, C, rfl, _⟩ := h1.1.slice
  exact ⟨A, C, rfl⟩
theorem en32 {w : World} {xb nb : Nat} {v0 v1 v2 v3 v4 v5 : Value} {ad : Addr} {nm : ByteArray} {s : Sch} (hs : Hid (SchIs w (.agg #[v0, v1, v2, v3, v4, v5]) s)) (hh : Hid (hdrAt s nm ≠ -1)) (W : World) (h : Hid (En0 w xb v0 v1 v2 v3 v4 v5 ad nm W)) (hn : Hid (Blk W nb #[.string ⟨#[]⟩, .slice none 0 0] 60)) : Calls Tryz.prog 32 #[.agg #[v0, v1, v2, v3, v4, v5], .string nm] W fun e V => ∃ A hn n C, e = .returned (.tuple #[.agg #[.string hn, .slice A n C], .bool true]) ∧ V.cell? ⟨nb, 0, none⟩ = some (.string ⟨#[]⟩) ∧ V.cell? ⟨nb, 1, none⟩ = some (.slice none 0 0) ∧ V.frozen? ⟨nb, 0, none⟩ = false ∧ V.frozen? ⟨nb, 1, none⟩ = false ∧ Hid (En0 w xb v0 v1 v2 v3 v4 v5 ad nm V) := by
  rcases idx_cases (fun h : Hdr => decide (h.name = nm)) s.headers 0 with ⟨h1, _⟩ | ⟨i, x, _, hx, _, h4, _⟩
  · exact absurd h1 hh.out
  · refine (header_at _ s nm W (hs.out.pres (pres_below h.out.below)) i x hx (by unfold hdrAt; rw [h4, Nat.zero_add])).mono ?_
    rintro e V ⟨cs, rfl, hI, hb⟩
    obtain ⟨A, C, rfl⟩ := hdr_form hI
    have hB := hn.out.below hb
    exact ⟨A, _, _, C, rfl, hB.cell 0 rfl, hB.cell 1 rfl, hB.frozen 0, hB.frozen 1, en_keep h.out hb⟩
theorem en32a {w : World} {xb : Nat} {v0 v1 v2 v3 v4 v5 : Value} {ad : Addr} {nm : ByteArray} {s : Sch} (hs : Hid (SchIs w (.agg #[v0, v1, v2, v3, v4, v5]) s)) (hh : Hid (hdrAt s nm ≠ -1)) (W : World) (h : Hid (En0 w xb v0 v1 v2 v3 v4 v5 ad nm W)) : Calls Tryz.prog 32 #[.agg #[v0, v1, v2, v3, v4, v5], .string nm] W fun e V => ∃ A hn n C, e = .returned (.tuple #[.agg #[.string hn, .slice A n C], .bool true]) ∧ Hid (En0 w xb v0 v1 v2 v3 v4 v5 ad nm V) ∧ Hid (En0 w xb v0 v1 v2 v3 v4 v5 ad nm (V.alloc (.cells #[.string hn, .slice A n C] 60))) ∧ Hid (En0 w xb v0 v1 v2 v3 v4 v5 ad nm (V.alloc (.cells #[.string ⟨#[]⟩, .slice none 0 0] 60))) := by
  rcases idx_cases (fun h : Hdr => decide (h.name = nm)) s.headers 0 with ⟨h1, _⟩ | ⟨i, x, _, hx, _, h4, _⟩
  · exact absurd h1 hh.out
  · refine (header_at _ s nm W (hs.out.pres (pres_below h.out.below)) i x hx (by unfold hdrAt; rw [h4, Nat.zero_add])).mono ?_
    rintro e V ⟨cs, rfl, hI, hb⟩
    obtain ⟨A, C, rfl⟩ := hdr_form hI
    have h5 := en_keep h.out hb
    exact ⟨A, _, _, C, rfl, h5, en_keep h5 ((Below.refl _ _).alloc (Nat.le_refl _) _), en_keep h5 ((Below.refl _ _).alloc (Nat.le_refl _) _)⟩
/-- Where the parser may be behind k states. -/
def EnAt (N : Nat) (C : Nat → Nat → Bool) (k : Nat) (a : Int) : Prop := a = -1 ∨ ∃ (i : Nat) (p : List Nat), a = (i : Int) ∧ p.length = k ∧ (i :: p).Nodup ∧ (∀ q ∈ i :: p, q < N) ∧ ∀ q ∈ p, C q i = true
theorem nodup_len {N : Nat} : ∀ {l : List Nat}, l.Nodup → (∀ q ∈ l, q < N) → l.length ≤ N := fun {l} h1 h2 => by
  have := List.Nodup.length_le_of_subset h1 (l₂ := List.range N) (fun q hq => List.mem_range.2 (h2 q hq))
  simpa using this
theorem enAt_few {N : Nat} {C : Nat → Nat → Bool} {k i : Nat} (h : EnAt N C k (i : Int)) (hN : N ≤ 32) : k < 32 ∧ i < N := by
  rcases h with h | ⟨j, p, h1, h2, h3, h4, _⟩
  · omega
  · have := nodup_len h3 h4
    have h5 := h4 j (by simp)
    simp at this
    exact ⟨by omega, by omega⟩
theorem enAt_next {s : Sch} {C : Nat → Nat → Bool} (h1 : ∀ i, i < s.states.length → C i i = false) (h2 : ∀ a b c, a < s.states.length → b < s.states.length → c < s.states.length → C a b = true → C b c = true → C a c = true)
    (h3 : ∀ (i : Nat) (x : Sta) (nx : ByteArray) (j : Nat) (y : Sta), s.states[i]? = some x → Goes x nx → s.states[j]? = some y → y.name = nx → C i j = true) {k i : Nat} {x : Sta} (hx : s.states[i]? = some x) (c : Int) (h : EnAt s.states.length C k (i : Int)) : EnAt s.states.length C (k + 1) (staAt s (nextF x c)) := by
  rcases idx_cases (fun h : Sta => decide (h.name = nextF x c)) s.states 0 with ⟨h4, _⟩ | ⟨j, y, hj, hy, hp, h4, _⟩
  · exact .inl h4
  · right
    rcases h with h | ⟨i', p, e, hp1, hp2, hp3, hp4⟩
    · omega
    · have e' : i' = i := by omega
      subst e'
      have hi := hp3 i' (by simp)
      have hC : C i' j = true := h3 i' x _ j y hx (goes_next x c) hy (by simpa using hp)
      have hall : ∀ q ∈ i' :: p, C q j = true := fun q hq => by
        rcases List.mem_cons.1 hq with rfl | hq
        · exact hC
        · exact h2 q i' j (hp3 q (by simp [hq])) hi hj (hp4 q hq) hC
      refine ⟨j, i' :: p, by unfold staAt; rw [h4, Nat.zero_add], by simp [hp1], ?_, fun q hq => ?_, hall⟩
      · rw [List.nodup_cons]
        refine ⟨fun hm => ?_, hp2⟩
        have := hall j hm
        rw [h1 j hj] at this
        cases this
      · rcases List.mem_cons.1 hq with rfl | hq
        · exact hj
        · exact hp3 q hq
theorem en_meas (i k : Nat) (a' : Int) (hk : k < 32) : (if intOf (.int .i64 a') < 0 then 0 else 33 - (intOf (.int .i64 ((k : Int) + 1))).toNat) < (if intOf (.int .i64 (i : Int)) < 0 then 0 else 33 - (intOf (.int .i64 (k : Int))).toNat) := by
  show (if a' < 0 then 0 else 33 - ((k : Int) + 1).toNat) < (if (i : Int) < 0 then 0 else 33 - (k : Int).toNat)
  rw [if_neg (by omega : ¬ ((i : Int) < 0))]
  split <;> omega
theorem open_ints {H : Type} {enc : TypeId × Value → H} {W : World} {held : Bool} {fuel : Nat} {cs : List Value} (h : Reads enc W held fuel 70 cs) : ∃ v xs, cs = [v] ∧ (Row 1 (Flat (fun x : Int => #[Value.int .i64 x]) Okn) W v xs ∧ Len 8 xs) := open_row Tryz.underlying70 cells3 (by decide) (show Tryz.prog.bytesOf 3 = 8 by kernel_rfl) h (fun _ _ _ g => by
  obtain ⟨b, rfl, hb⟩ := open_int g
  exact ⟨b, rfl, rfl, hb⟩)
set_option maxHeartbeats 4000000 in
set_option maxRecDepth 100000 in
theorem ends_walk (v : Value) (s : Sch) (u : Value) (ch : List Int) (w : World) (hs : SchIs w v s) (hr : Row 1 (Flat (fun x : Int => #[Value.int .i64 x]) Okn) w u ch ∧ Len 8 ch) : Calls Tryz.prog 13 #[v, u] w fun e w' => e = .returned (.bool true) ∧ Below w.heap.size w w' := by
  have HS : Hid (SchIs w v s) := hs
  obtain ⟨a0, c0, a1, c1, a2, c2, a3, c3, a4, c4, a5, c5, rfl, h0, h1, h2, h3, h4, h5⟩ := hs.parts
  obtain ⟨cad, ccap, rfl, _⟩ := hr.1.slice
  have hchl : ch.length * 8 ≤ 140737488351232 := hr.2
  have HCH : Hid (Row 1 (Flat (fun x : Int => #[Value.int .i64 x]) Okn) w (.slice cad ch.length ccap) ch) := hr.1
  have hlen : s.states.length * 104 ≤ 140737488351232 := h2.2
  have HR : Hid (Row 6 StaIs w (.slice a2 s.states.length c2) s.states) := h2.1
  have HST : Hid (checkE s = none → StOk s) := stOk_of
  have HNZ : Hid (checkE s ≠ none → (fndC (checkE s) == 0) = false) := (fnd_ok (checkE s) (check_nz s)).2
  have HSY : Hid (∀ W, Below w.heap.size w W → checkE s = none → Calls Tryz.prog 49 #[.agg #[.slice a0 s.headers.length c0, .slice a1 s.metas.length c1, .slice a2 s.states.length c2, .slice a3 s.actions.length c3, .slice a4 s.tables.length c4, .slice a5 s.control.length c5]] W fun e w' => e = .returned (.bool true) ∧ Below W.heap.size W w') := fun W hb hc => sound_yes _ s W (hs.pres (pres_below hb)) hc
  have HSN : Hid (∀ W, Below w.heap.size w W → (fndC (checkE s) == 0) = false → Calls Tryz.prog 49 #[.agg #[.slice a0 s.headers.length c0, .slice a1 s.metas.length c1, .slice a2 s.states.length c2, .slice a3 s.actions.length c3, .slice a4 s.tables.length c4, .slice a5 s.control.length c5]] W fun e w' => e = .returned (.bool false) ∧ Below W.heap.size W w') := fun W hb hc => sound_no _ s W (hs.pres (pres_below hb)) hc
  have HSP : Hid (∀ (i : Nat) (x : Sta) (c : Int) (W : World), s.states[i]? = some x → Below w.heap.size w W → Calls Tryz.prog 59 #[.agg #[.slice a0 s.headers.length c0, .slice a1 s.metas.length c1, .slice a2 s.states.length c2, .slice a3 s.actions.length c3, .slice a4 s.tables.length c4, .slice a5 s.control.length c5], .int .i64 i, .int .i64 c] W fun e w' => e = .returned (.int .i64 (staAt s (nextF x c))) ∧ Below W.heap.size W w') := fun i x c W hx hb => step_any _ s i x hx c W (hs.pres (pres_below hb))
  have HL : Hid (s.states.length = s.states.length) := rfl
  clear hs hr h0 h1 h2 h3 h4 h5
  generalize s.headers.length = n0 at *
  generalize s.metas.length = n1 at *
  generalize s.actions.length = n3 at *
  generalize s.tables.length = n4 at *
  generalize s.control.length = n5 at *
  generalize hN : s.states.length = n2 at *
  have HN2 : Hid (s.states.length = n2) := hN
  clear hN HL
  generalize hcl : ch.length = cn at *
  have HCN : Hid (ch.length = cn) := hcl
  clear hcl
  go_enter Tryz.func13, Tryz.ntmps13
  go_upto_region 1 with fail
  have HB0 : Hid (Below w.heap.size w (w.alloc (.cells #[.slice a0 n0 c0, .slice a1 n1 c1, .slice a2 n2 c2, .slice a3 n3 c3, .slice a4 n4 c4, .slice a5 n5 c5] 34))) := (Below.refl _ _).alloc (Nat.le_refl _) _
  have HX0 : Hid (Blk (w.alloc (.cells #[.slice a0 n0 c0, .slice a1 n1 c1, .slice a2 n2 c2, .slice a3 n3 c3, .slice a4 n4 c4, .slice a5 n5 c5] 34)) w.heap.size #[.slice a0 n0 c0, .slice a1 n1 c1, .slice a2 n2 c2, .slice a3 n3 c3, .slice a4 n4 c4, .slice a5 n5 c5] 34) := Blk.new _ _ _
  generalize (w.alloc _) = W0 at HB0 HX0 ⊢
  obtain ⟨xb, hxb⟩ : ∃ xb, xb = w.heap.size := ⟨_, rfl⟩
  have HXB : Hid (xb = w.heap.size) := hxb
  rw [← hxb] at HX0 ⊢
  clear hxb
  go_wp2_with fail
  refine (shown_any _).mono ?_
  rintro e W1 ⟨rfl, hb⟩
  have HB1 : Hid (Below w.heap.size w W1) := bst HB0.out hb
  have HX1 := hblk HX0 hb
  clear hb HB0 HX0
  obtain ⟨z0, z1, z2, z3, z4, z5⟩ := HX1.out.c6
  go_wp2_with fail
  by_cases hc : checkE s = none
  case neg =>
    refine (HSN.out _ HB1.out (HNZ.out hc)).mono ?_
    rintro e W2 ⟨rfl, hb⟩
    have HB2 : Hid (Below w.heap.size w W2) := bst HB1.out hb
    clear hb
    go_wp2
    go_ret
    exact ⟨rfl, HB2.out⟩
  refine (HSY.out _ HB1.out hc).mono ?_
  rintro e W2 ⟨rfl, hb⟩
  have HB2 : Hid (Below w.heap.size w W2) := bst HB1.out hb
  have HX2 := hblk HX1 hb
  obtain ⟨hfew, _, hhd, C, hC1, hC2, hC3⟩ := HST.out hc
  have HHD : Hid (∀ x ∈ s.states, hdrAt s x.header ≠ -1) := hhd
  have HCC : Hid (∀ (k i : Nat) (x : Sta) (c : Int), s.states[i]? = some x → EnAt n2 C k (i : Int) → EnAt n2 C (k + 1) (staAt s (nextF x c))) := fun k i x c hx h => by
    rw [← HN2.out] at h ⊢
    exact enAt_next hC1 hC2 hC3 hx c h
  have hfew2 : n2 ≤ 32 := by rw [← HN2.out]; exact hfew
  clear hb HB1 HX1 z0 z1 z2 z3 z4 z5 HSY HSN HNZ HST hc hhd hC1 hC2 hC3 hfew
  have z2 := HX2.out.cell 2 (v := .slice a2 n2 c2) rfl
  by_cases hn0 : n2 = 0
  · subst hn0
    go_wp2
    go_ret
    exact ⟨rfl, HB2.out⟩
  have hn0' : ((n2 : Int) == 0) = false := by simpa using hn0
  have hn0'' : (n2 == 0) = false := by simpa using hn0
  have H00 : Hid (EnAt n2 C 0 0) := .inr ⟨0, [], rfl, rfl, by simp, by simp; omega, by simp⟩
  go_wp2_with fail
  clear z2
  go_loopw [6, 7] (fun at_ n wr => ∃ (k : Nat) (a : Int), at_ = .int .i64 a ∧ n = .int .i64 k ∧ k ≤ 32 ∧ Below w.heap.size w wr ∧ Blk wr xb #[.slice a0 n0 c0, .slice a1 n1 c1, .slice a2 n2 c2, .slice a3 n3 c3, .slice a4 n4 c4, .slice a5 n5 c5] 34 ∧ Aside (EnAt n2 C k a)) (fun at_ n _ => if intOf at_ < 0 then 0 else 33 - (intOf n).toNat)
  case atStart => exact ⟨0, 0, rfl, rfl, by omega, HB2.out, HX2.out, H00.out⟩
  case round =>
    obtain ⟨k, a, rfl, rfl, hk, hb, hx, hA⟩ := hrel
    have HA : Hid (EnAt n2 C k a) := hA.out
    have HB : Hid (Below w.heap.size w wr) := hb
    have HX : Hid (Blk wr xb #[.slice a0 n0 c0, .slice a1 n1 c1, .slice a2 n2 c2, .slice a3 n3 c3, .slice a4 n4 c4, .slice a5 n5 c5] 34) := hx
    clear hA hb hx
    by_cases ha : a < 0
    · have ha' : decide (0 ≤ a) = false := by simp; omega
      go_wp2
      go_ret
      exact ⟨rfl, HB.out⟩
    · obtain ⟨i, rfl⟩ : ∃ i : Nat, a = (i : Int) := ⟨a.toNat, by omega⟩
      obtain ⟨hk32, hi⟩ := enAt_few HA.out hfew2
      obtain ⟨x, hx⟩ : ∃ x, s.states[i]? = some x := ⟨s.states[i]'(by rw [HN2.out]; exact hi), List.getElem?_eq_getElem _⟩
      obtain ⟨b, o, cs, rfl, _, hcs, y, rfl, _, _⟩ := HR.out.at hx
      have hq := hcs 1 (.string x.header) rfl
      have hbl := World.block_lt_of_cell? _ _ hq
      simp only at hbl
      have HHX : Hid (hdrAt s x.header ≠ -1) := HHD.out x (List.mem_of_getElem? hx)
      have HNX : Hid (∀ c : Int, EnAt n2 C (k + 1) (staAt s (nextF x c))) := fun c => HCC.out k i x c hx HA.out
      have HSX : Hid (∀ (c : Int) (W : World), Below w.heap.size w W → Calls Tryz.prog 59 #[.agg #[.slice a0 n0 c0, .slice a1 n1 c1, .slice (some ⟨b, o, none⟩) n2 c2, .slice a3 n3 c3, .slice a4 n4 c4, .slice a5 n5 c5], .int .i64 i, .int .i64 c] W fun e w' => e = .returned (.int .i64 (staAt s (nextF x c))) ∧ Below W.heap.size W w') := fun c W hb => HSP.out i x c W hx hb
      have HD0 : Hid (En0 w xb (.slice a0 n0 c0) (.slice a1 n1 c1) (.slice (some ⟨b, o, none⟩) n2 c2) (.slice a3 n3 c3) (.slice a4 n4 c4) (.slice a5 n5 c5) ⟨b, o + i * 6 + 1, none⟩ x.header wr.drew) := en_keep ⟨HB.out, HX.out, pres_below HB.out _ _ hq⟩ ((Below.refl _ _).drew)
      have HDA : Hid (En0 w xb (.slice a0 n0 c0) (.slice a1 n1 c1) (.slice (some ⟨b, o, none⟩) n2 c2) (.slice a3 n3 c3) (.slice a4 n4 c4) (.slice a5 n5 c5) ⟨b, o + i * 6 + 1, none⟩ x.header (wr.alloc (.cells #[.string ⟨#[]⟩, .slice none 0 0] 60)).drew) := en_keep ⟨HB.out, HX.out, pres_below HB.out _ _ hq⟩ (((Below.refl _ _).alloc (Nat.le_refl _) _).drew)
      have HNB : Hid (Blk (wr.alloc (.cells #[.string ⟨#[]⟩, .slice none 0 0] 60)).drew wr.heap.size #[.string ⟨#[]⟩, .slice none 0 0] 60) := Blk.new _ _ _
      have HNE : Hid (wr.heap.size ≠ xb ∧ wr.heap.size ≠ b ∧ w.heap.size ≤ wr.heap.size) := by
        have h1 := HB.out.size
        have h2 := HX.out.lt
        exact ⟨by omega, by omega, h1⟩
      have hk32' : decide (32 ≤ (k : Int)) = false := by simp; omega
      have hge : (0 : Int) ≤ (i : Int) := by omega
      clear ha hx hcs hq HCC HSP HHD HA
      go_upto_region 12 with fail
      go_region_held3 (fun W => W.cell? ⟨xb, 0, none⟩ = some (.slice a0 n0 c0) ∧ W.cell? ⟨xb, 1, none⟩ = some (.slice a1 n1 c1) ∧ W.cell? ⟨xb, 2, none⟩ = some (.slice (some ⟨b, o, none⟩) n2 c2) ∧ W.cell? ⟨xb, 3, none⟩ = some (.slice a3 n3 c3) ∧ W.cell? ⟨xb, 4, none⟩ = some (.slice a4 n4 c4) ∧ W.cell? ⟨xb, 5, none⟩ = some (.slice a5 n5 c5) ∧ W.cell? ⟨b, o + i * 6 + 1, none⟩ = some (.string x.header))
        (first | exact en_of (by with_reducible assumption) | exact en_of (en_set (by with_reducible assumption) HNE _ _))
        (first
          | (go_at_call 32; refine (en32 HS HHX _ (by with_reducible assumption) (by with_reducible assumption)).mono ?_; rintro e V ⟨A, hn, nn, CC, rfl, z0, z1, y0, y1, K0⟩)
          | (go_at_call 32; refine (en32a HS HHX _ (by with_reducible assumption)).mono ?_; rintro e V ⟨A, hn, nn, CC, rfl, K0, K1, K2⟩))
      all_goals first
        | (have HE : Hid (En0 w xb (.slice a0 n0 c0) (.slice a1 n1 c1) (.slice (some ⟨b, o, none⟩) n2 c2) (.slice a3 n3 c3) (.slice a4 n4 c4) (.slice a5 n5 c5) ⟨b, o + i * 6 + 1, none⟩ x.header (V.alloc (.cells #[.string hn, .slice A nn CC] 60))) := K1
           generalize (V.alloc _) = W3 at HE ⊢
           clear K0 K1 K2)
        | (have HE : Hid (En0 w xb (.slice a0 n0 c0) (.slice a1 n1 c1) (.slice (some ⟨b, o, none⟩) n2 c2) (.slice a3 n3 c3) (.slice a4 n4 c4) (.slice a5 n5 c5) ⟨b, o + i * 6 + 1, none⟩ x.header ((V.setCell ⟨wr.heap.size, 0, none⟩ (.string hn)).setCell ⟨wr.heap.size, 1, none⟩ (.slice A nn CC))) := en_set K0 HNE _ _
           generalize ((V.setCell ⟨wr.heap.size, 0, none⟩ (.string hn)).setCell ⟨wr.heap.size, 1, none⟩ (.slice A nn CC)) = W3 at HE ⊢
           clear K0 z0 z1 y0 y1)
      all_goals
        clear HD0 HDA HNB HNE HB HX hge hk32'
        have HB3 : Hid (Below w.heap.size w W3) := HE.out.below
        have HX3 : Hid (Blk W3 xb #[.slice a0 n0 c0, .slice a1 n1 c1, .slice (some ⟨b, o, none⟩) n2 c2, .slice a3 n3 c3, .slice a4 n4 c4, .slice a5 n5 c5] 34) := HE.out.box
        clear HE
        rename_i hHeld
        clear hHeld
        obtain ⟨c, hway⟩ : ∃ c : Int, (k < cn ∧ ∃ b2 o2, cad = some ⟨b2, o2, none⟩ ∧ W3.cell? ⟨b2, o2 + k, none⟩ = some (.int .i64 c)) ∨ (¬ k < cn ∧ decide ((k : Int) < (cn : Int)) = false ∧ c = -1) := by
          by_cases hkc : k < cn
          · obtain ⟨c, hc⟩ : ∃ c, ch[k]? = some c := ⟨_, List.getElem?_eq_getElem (by rw [HCN.out]; exact hkc)⟩
            obtain ⟨b2, o2, cs2, e2, _, hk2, rfl, _⟩ := HCH.out.at hc
            exact ⟨c, .inl ⟨hkc, b2, o2, e2, by have := pres_below HB3.out _ _ (hk2 0 (.int .i64 c) rfl); simpa using this⟩⟩
          · exact ⟨-1, .inr ⟨hkc, by simp; omega, rfl⟩⟩
        have HNC : Hid (EnAt n2 C (k + 1) (staAt s (nextF x c))) := HNX.out c
        have HSC : Hid (Calls Tryz.prog 59 #[.agg #[.slice a0 n0 c0, .slice a1 n1 c1, .slice (some ⟨b, o, none⟩) n2 c2, .slice a3 n3 c3, .slice a4 n4 c4, .slice a5 n5 c5], .int .i64 i, .int .i64 c] W3 fun e w' => e = .returned (.int .i64 (staAt s (nextF x c))) ∧ Below W3.heap.size W3 w') := HSX.out c W3 HB3.out
        generalize staAt s (nextF x c) = a' at HNC HSC
        clear HNX HSX HCH
        obtain ⟨z0, z1, z2, z3, z4, z5⟩ := HX3.out.c6
        rcases hway with ⟨hkc, b2, o2, rfl, r0⟩ | ⟨hkc, hkd, rfl⟩
        all_goals
          go_wp2_with fail
          refine HSC.out.mono ?_
          rintro e W4 ⟨rfl, hb4⟩
          have HB4 : Hid (Below w.heap.size w W4) := bst HB3.out hb4
          have HX4 := hblk HX3 hb4
          clear hb4 HB3 HX3 HSC z0 z1 z2 z3 z4 z5
          go_wp2
          exact ⟨⟨k + 1, a', rfl, by go_num, by omega, HB4.out, HX4.out, HNC.out⟩, en_meas i k a' hk32⟩
end Go.Proofs.YtmbpclknhkbbkaaGreat
