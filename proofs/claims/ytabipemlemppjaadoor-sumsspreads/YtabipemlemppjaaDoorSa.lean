/- Package sums' Slots: any texts (at most a million). -/
import Derived.Test.YtabipemlemppjaaDoorRt
import Derived.Test.YtabipemlemppjaaDoorSl
namespace Go.Proofs.YtabipemlemppjaaDoor
open Go.RowKit Go.Maps
set_option linter.unusedVariables false
set_option linter.unusedSimpArgs false

/-- The slot that a text has. -/
def lk : List (List UInt8 × Nat) → List UInt8 → Option Nat
  | [], _ => none
  | (t, s) :: H, x => if x = t then some s else lk H x
theorem lk_snoc (H : List (List UInt8 × Nat)) (t : List UInt8) (s : Nat) (hn : lk H t = none) (x : List UInt8) : lk (H ++ [(t, s)]) x = if x = t then some s else lk H x := by
  induction H with
  | nil => rfl
  | cons p H ih =>
    obtain ⟨a, b⟩ := p
    rw [lk] at hn
    by_cases hta : t = a
    · rw [if_pos hta] at hn; cases hn
    · rw [if_neg hta] at hn
      rw [List.cons_append, lk, ih hn, lk]
      by_cases hx : x = a
      · rw [if_pos hx, if_neg (fun e : x = t => hta (e.symm.trans hx)), if_pos hx]
      · rw [if_neg hx, if_neg hx]
theorem lk_mem {H : List (List UInt8 × Nat)} {t : List UInt8} {s : Nat} (h : lk H t = some s) : s ∈ H.map (·.2) := by
  induction H with
  | nil => cases h
  | cons p H ih =>
    obtain ⟨a, b⟩ := p
    rw [lk] at h
    split at h
    · injection h with h; subst h; simp
    · exact List.mem_cons_of_mem _ (ih h)
/-- The first free slot from a number on. -/
def slt (N : Nat) (T : List Nat) (s : Nat) : Nat := (s + dstF N T (T.length + 1) s) % N
theorem slt_is {N : Nat} {T : List Nat} {s d : Nat} (hs : s < N) (hT : T.length < N) (h : FF N T s d) : (s + d) % N = slt N T s := by
  obtain ⟨d', hd', h'⟩ := FF.some (N := N) (T := T) s hT
  obtain rfl := h.only h'
  unfold slt
  rw [dst_is _ _ _ hs (by omega) h]
/-- What Slots answers of texts, of which some have their slots. -/
def slF (seed N : Nat) : List (List UInt8) → List (List UInt8 × Nat) → List Nat → Option (List Nat)
  | [], _, out => some out
  | t :: ts, H, out => match lk H t with
    | some s => slF seed N ts H (out ++ [s])
    | none => if H.length = N then none else slF seed N ts (H ++ [(t, slt N (H.map (·.2)) (spreadN seed t % N))]) (out ++ [slt N (H.map (·.2)) (spreadN seed t % N)])
theorem slF_old {seed N : Nat} {t : List UInt8} {ts : List (List UInt8)} {H : List (List UInt8 × Nat)} {out : List Nat} {s : Nat} (h : lk H t = some s) : slF seed N (t :: ts) H out = slF seed N ts H (out ++ [s]) := by rw [slF, h]
theorem slF_full {seed N : Nat} {t : List UInt8} {ts : List (List UInt8)} {H : List (List UInt8 × Nat)} {out : List Nat} (h : lk H t = none) (hN : H.length = N) : slF seed N (t :: ts) H out = none := by rw [slF, h]; exact if_pos hN
theorem slF_new {seed N : Nat} {t : List UInt8} {ts : List (List UInt8)} {H : List (List UInt8 × Nat)} {out : List Nat} (h : lk H t = none) (hN : H.length ≠ N) : slF seed N (t :: ts) H out = slF seed N ts (H ++ [(t, slt N (H.map (·.2)) (spreadN seed t % N))]) (out ++ [slt N (H.map (·.2)) (spreadN seed t % N)]) := by rw [slF, h]; exact if_neg hN
def intsV (l : List Nat) : List Value := l.map fun n : Nat => Value.int .i64 (n : Int)
theorem intsV_snoc (l : List Nat) (n : Nat) : intsV (l ++ [n]) = intsV l ++ [Value.int .i64 (n : Int)] := by simp [intsV]
theorem spreadN_lt (seed : Nat) (t : List UInt8) : spreadN seed t < 4294967296 := spEnd_lt _
/-- How Slots ends. -/
def SlEnd (A : Option (List Nat)) (N len B : Nat) (e : Ending) (w' : World) : Prop := match A with
  | none => e = .returned (.tuple #[.slice none 0 0, .int .i64 120])
  | some out => ∃ v, e = .returned (.tuple #[v, .int .i64 0]) ∧ w'.ownsRow B 3 1 v out.length (intsV out) ∧ out.length = len ∧ ∀ s ∈ out, s < N
theorem row_base {w : World} {B B' e size : Nat} {v : Value} {n : Nat} {xs : List Value} (h : w.ownsRow B e size v n xs) (hb : B' ≤ B) : w.ownsRow B' e size v n xs := by
  refine ⟨h.1, ?_⟩
  rcases h.2 with hn | ⟨g, cap, cur, rfl, h1, rest⟩
  · exact .inl hn
  · exact .inr ⟨g, cap, cur, rfl, Nat.le_trans hb h1, rest⟩
/-- What Slots holds at the head of each round. -/
def SlAt (seed N : Nat) (l : List (List UInt8)) (w : World) (v : Value) (p : Nat) (wr : World) : Prop :=
  ∃ (H : List (List UInt8 × Nat)) (out : List Nat) (f : Int → Option Int), slF seed N (l.drop p) H out = slF seed N l [] [] ∧ H.length ≤ p ∧ H.length ≤ N ∧ out.length = p ∧ (∀ s ∈ out, s < N) ∧
    MapS wr w.heap.size H.length (fun t => (lk H t).map fun s => (s : Int)) ∧ MapI wr (w.heap.size + 1) H.length f ∧ Rg N f (H.map (·.2)) ∧
    wr.ownsRow (w.heap.size + 3) 3 1 v out.length (intsV out) ∧ wr.cell? ⟨w.heap.size + 1 + 1, 0, none⟩ = some (.int .i64 (N : Int)) ∧ wr.cell? ⟨w.heap.size + 1 + 1, 1, none⟩ = some (.map (some (w.heap.size + 1))) ∧ Below w.heap.size w wr ∧ w.heap.size + 3 < wr.heap.size
set_option maxHeartbeats 8000000 in
set_option maxRecDepth 100000 in
theorem slots_some (seed N : Nat) (hseed : seed < 4294967296) (hN0 : 0 < N) (hN : N < 9223372036854775808) (sb so cap : Nat) (l : List ByteArray) (hl : l.length ≤ 100000) (hls : ∀ s ∈ l, s.size ≤ 9223372036854775807) (w : World) (hS : Strs w sb so l) (hsb : sb < w.heap.size) :
    Calls Tryd.prog 27 #[.int .u32 seed, .int .i64 N, .slice (some ⟨sb, so, none⟩) l.length cap] w fun e w' => Below w.heap.size w w' ∧ SlEnd (slF seed N (l.map fun s => s.data.toList) [] []) N l.length w.heap.size e w' := by
  have hmm := @run_makeMap Tryd.prog
  obtain ⟨i0, hi, hz0, hz1, hz2⟩ := info_parts info3
  obtain ⟨W, hWd⟩ : ∃ W, W = ((w.alloc (.map #[] 0)).alloc (.map #[] 0)).alloc (.cells #[.int .i64 (N : Int), .map (some (w.heap.size + 1))] 66) := ⟨_, rfl⟩
  have hsz : W.heap.size = w.heap.size + 3 := by rw [hWd]; simp
  obtain ⟨W5, hmk, hrow, hgr⟩ := run_make_own (P := Tryd.prog) W (w.heap.size + 3) 42 3 i0 (.int .i64 0) 1 Tryd.underlying42 hi hz0 hz1 .i64 .i64 l.length (by rw [hz2]; omega) (by unfold maxLen; omega) (by omega)
  have S5 : MapS W5 w.heap.size 0 (fun _ => none) := by
    have h1 : MapS W w.heap.size 0 (fun _ => none) := by rw [hWd]; exact ((MapS.new w).alloc _).alloc _
    exact h1.kept hgr (by simp)
  have I5 : MapI W5 (w.heap.size + 1) 0 (fun _ => none) := by
    have h0 := MapI.new (w.alloc (.map #[] 0))
    rw [show (w.alloc (.map #[] 0)).heap.size = w.heap.size + 1 by simp] at h0
    have h1 : MapI W (w.heap.size + 1) 0 (fun _ => none) := by rw [hWd]; exact h0.alloc _
    exact h1.kept hgr (by simp)
  have c0 : W5.cell? ⟨w.heap.size + 1 + 1, 0, none⟩ = some (.int .i64 (N : Int)) := by
    have h0 := (two_new ((w.alloc (.map #[] 0)).alloc (.map #[] 0)) (.int .i64 (N : Int)) (.map (some (w.heap.size + 1))) 66).1
    rw [← hWd, show ((w.alloc (.map #[] 0)).alloc (.map #[] 0)).heap.size = w.heap.size + 1 + 1 by simp] at h0
    exact hgr.cell h0 (Option.some_ne_none _)
  have c1 : W5.cell? ⟨w.heap.size + 1 + 1, 1, none⟩ = some (.map (some (w.heap.size + 1))) := by
    have h0 := (two_new ((w.alloc (.map #[] 0)).alloc (.map #[] 0)) (.int .i64 (N : Int)) (.map (some (w.heap.size + 1))) 66).2
    rw [← hWd, show ((w.alloc (.map #[] 0)).alloc (.map #[] 0)).heap.size = w.heap.size + 1 + 1 by simp] at h0
    exact hgr.cell h0 (Option.some_ne_none _)
  have hBW : Below w.heap.size w W := by rw [hWd]; exact (((Below.refl _ _).alloc (by simp) _).alloc (by simp) _).alloc (by simp; omega) _
  have hB5 : Below w.heap.size w W5 := hBW.grown hgr (by omega) (fun k hk => by cases hk)
  have hs5 : w.heap.size + 3 < W5.heap.size := by have := (hrow.lt (w.heap.size + 3) (by rw [hsz]; rfl)).2; omega
  rw [hsz] at hmk hrow
  rw [hWd] at hmk
  have HAT : Hid (SlAt seed N (l.map fun s => s.data.toList) w (.slice (some ⟨w.heap.size + 3, 0, none⟩) 0 l.length) 0 W5) :=
    ⟨[], [], fun _ => none, rfl, by simp, by simp, rfl, (by simp), S5, I5, ⟨fun s _ => by simp, by simp, by simp⟩, hrow, c0, c1, hB5, hs5⟩
  have HS : Hid (Strs w sb so l) := hS
  have HLS : Hid (∀ s ∈ l, s.size ≤ 9223372036854775807) := hls
  have hN1 : ¬ ((N : Int) < 1) := by omega
  obtain ⟨A, hA⟩ : ∃ A, slF seed N (l.map fun s => s.data.toList) [] [] = A := ⟨_, rfl⟩
  rw [hA]
  have HA : Hid (slF seed N (l.map fun s => s.data.toList) [] [] = A) := hA
  clear hsz hgr hBW hWd S5 I5 c0 c1 hB5 hs5 hrow hS hls hA
  go_enter Tryd.func27, Tryd.ntmps27
  go_wp2_with fail
  go_loopw [10, 26] (fun v iv wr => ∃ p : Nat, p ≤ l.length ∧ iv = .int .i64 p ∧ SlAt seed N (l.map fun s => s.data.toList) w v p wr) (fun _ iv _ => l.length - (intOf iv).toNat)
  case atStart => exact ⟨0, by omega, rfl, HAT.out⟩
  case round =>
    obtain ⟨p, hp, rfl, hat⟩ := hrel
    obtain ⟨H, out, f, h1, h2, h3, h4, h5, mS, mI, rg, row, c0, c1, hB, hsz⟩ := hat
    rw [h4] at row
    have HO : Hid (wr.ownsRow (w.heap.size + 3) 3 1 u10 p (intsV out)) := row
    obtain ⟨ba, bc, hv⟩ : ∃ ba bc, u10 = .slice ba p bc := by
      rcases row.2 with ⟨rfl, e⟩ | ⟨g, cap, cur, rfl, _⟩
      · rw [e]; exact ⟨_, _, rfl⟩
      · exact ⟨_, _, rfl⟩
    by_cases hlt : p < l.length
    · have hlt' : (p : Int) < l.length := by omega
      have hcell : wr.cell? ⟨sb, so + p, none⟩ = some (.string l[p]) := by rw [hB.cell (p := ⟨sb, so + p, none⟩) hsb]; exact HS.out p hlt
      have hSz : (l[p]).size ≤ 9223372036854775807 := HLS.out _ (List.getElem_mem hlt)
      have hdrop : (l.map fun s => s.data.toList).drop p = (l[p]).data.toList :: (l.map fun s => s.data.toList).drop (p + 1) := by
        rw [List.drop_eq_getElem_cons (by simpa using hlt)]; simp
      rw [hdrop] at h1
      generalize l[p] = S at *
      have hSm : S.size ≤ maxLen := by unfold maxLen; omega
      have LS := mS.look hSm
      subst hv
      cases hlk : lk H S.data.toList with
      | some s =>
        rw [hlk] at LS
        rw [slF_old hlk] at h1
        have hsN : s < N := rg.low s (lk_mem hlk)
        have HX : Hid ((wr.alloc (.cells #[.int .i64 (s : Int)] 3)).ownsRow (w.heap.size + 3) 3 1 (.slice ba p bc) p (intsV out)) := HO.out.alloc _
        have KEEP : Hid (∀ (v6 : Value) (w6 : World), w6.ownsRow (w.heap.size + 3) 3 1 v6 (p + 1) (intsV out ++ [.int .i64 (s : Int)]) → (wr.alloc (.cells #[.int .i64 (s : Int)] 3)).grownBy w6 (Value.slice ba p bc).ownBlock → SlAt seed N (l.map fun s => s.data.toList) w v6 (p + 1) w6) := fun v6 w6 hown6 hg6 => by
          have hne : ∀ k, k < w.heap.size + 3 → some k ≠ (Value.slice ba p bc).ownBlock := fun k hk e => by
            have := (HO.out.lt k e.symm).1; omega
          refine ⟨H, out ++ [s], f, h1, by omega, h3, by simp [h4], fun x hx => ?_, (mS.alloc _).kept hg6 (hne _ (by omega)), (mI.alloc _).kept hg6 (hne _ (by omega)), rg, ?_, hg6.cell ?_ (hne (w.heap.size + 1 + 1) (by omega)), hg6.cell ?_ (hne (w.heap.size + 1 + 1) (by omega)), Below.grown (hB.alloc hB.size _) hg6 (by simp; omega) (fun g hg => by have := (HO.out.lt g hg).1; omega), by have := hg6.size; simp at this; omega⟩
          · rcases List.mem_append.1 hx with hx | hx
            · exact h5 x hx
            · simp at hx; omega
          · rw [List.length_append, intsV_snoc, h4]; exact hown6
          · rw [World.cell?_alloc_old _ _ _ (by simp; omega)]; exact c0
          · rw [World.cell?_alloc_old _ _ _ (by simp; omega)]; exact c1
        clear row mS mI rg c0 c1 h1 h5 hdrop hlk
        go_wp2_with (at_builtin; refine wpList_append_own _ rfl _ _ 42 rfl (w.heap.size + 3) 3 i0 (.int .i64 0) 1 8 Tryd.underlying42 hi hz0 hz1 hz2 rfl (by decide) _ _ _ rfl HX.out ⟨wr.heap.size, 0, none⟩ 1 1 [.int .i64 (s : Int)] rfl rfl (one_cell wr _ 3) (by intro u hu; simp at hu; subst hu; rfl) (by unfold maxLen; omega) (by omega) (by simp; omega) ?_)
        intro v6 w6 hown6 hgrow6 _
        have F : Hid (SlAt seed N (l.map fun s => s.data.toList) w v6 (p + 1) w6) := KEEP.out v6 w6 hown6 hgrow6
        clear hown6 hgrow6 HX KEEP HO
        go_wp2_with fail
        exact ⟨⟨p + 1, by omega, by go_num, F.out⟩, by simp only [intOf]; omega⟩
      | none =>
        rw [hlk] at LS
        have LEN := mS.len 3
        by_cases hfull : H.length = N
        · rw [slF_full hlk hfull] at h1
          have hend : A = none := by rw [← HA.out, ← h1]
          subst hend
          have FIN : Hid (SlEnd none N l.length w.heap.size (.returned (.tuple #[.slice none 0 0, .int .i64 120])) wr) := rfl
          have heq : ((H.length : Int) == (N : Int)) = true := by simp [hfull]
          clear row mS mI rg h1 h5 hdrop hlk hfull
          go_wp2_with fail
          go_ret2
          exact ⟨hB, FIN.out⟩
        · rw [slF_new hlk hfull] at h1
          have heq : ((H.length : Int) == (N : Int)) = false := beq_eq_false_iff_ne.2 (by omega)
          have hTl : (H.map (·.2)).length < N := by rw [List.length_map]; omega
          have hHN : H.length < N := by omega
          have CS : Hid (∀ w : World, Calls Tryd.prog 24 #[.int .u32 (seed : Int), .string S] w fun e w' => e = .returned (.int .u32 ((spreadN seed S.data.toList : Nat) : Int)) ∧ w' = w) := fun w => spread_any seed hseed S (by omega) w
          have hsp := spreadN_lt seed S.data.toList
          obtain ⟨sp, hspe⟩ : ∃ sp, spreadN seed S.data.toList = sp := ⟨_, rfl⟩
          rw [hspe] at CS hsp h1
          have hrN := Nat.mod_lt sp hN0
          obtain ⟨r, hr⟩ : ∃ r, sp % N = r := ⟨_, rfl⟩
          rw [hr] at h1 hrN
          obtain ⟨D0, hD0, hFF⟩ := FF.some (N := N) (T := H.map (·.2)) r hTl
          have CT0 := fun (w1 : World) (h : MapI w1 (w.heap.size + 1) H.length f) => take_all (w.heap.size + 1) H.length N hN (H.map (·.2)) f r D0 hrN hFF rg (by omega) w1 h
          rw [slt_is hrN hTl hFF] at CT0
          have hxN : slt N (H.map (·.2)) r < N := Nat.mod_lt _ hN0
          obtain ⟨x, hx⟩ : ∃ x, slt N (H.map (·.2)) r = x := ⟨_, rfl⟩
          rw [hx] at h1 CT0 hxN
          have CT : Hid (∀ w1 : World, MapI w1 (w.heap.size + 1) H.length f → Calls Tryd.prog 40 #[.agg #[.int .i64 (N : Int), .map (some (w.heap.size + 1))], .int .i64 (r : Int)] w1 fun e w' => e = .returned (.int .i64 (x : Int)) ∧ ∃ f, MapI w' (w.heap.size + 1) (H.length + 1) f ∧ Rg N f (H.map (·.2) ++ [x]) ∧ w1.grownBy w' (some (w.heap.size + 1))) := CT0
          have HMI : Hid (MapI wr (w.heap.size + 1) H.length f) := mI
          have HMS : Hid (MapS wr w.heap.size H.length (fun t => (lk H t).map fun s => (s : Int))) := mS
          have HC : Hid (wr.cell? ⟨w.heap.size + 1 + 1, 0, none⟩ = some (.int .i64 (N : Int)) ∧ wr.cell? ⟨w.heap.size + 1 + 1, 1, none⟩ = some (.map (some (w.heap.size + 1)))) := ⟨c0, c1⟩
          have HBW : Hid (Below w.heap.size w wr) := hB
          have HH : Hid (slF seed N ((l.map fun s => s.data.toList).drop (p + 1)) (H ++ [(S.data.toList, x)]) (out ++ [x]) = slF seed N (l.map fun s => s.data.toList) [] []) := h1
          have H5 : Hid (∀ s ∈ out, s < N) := h5
          have HLK : Hid (lk H S.data.toList = none) := hlk
          have hq0 : IntKind.u64.wrap (sp : Int) = (sp : Int) := by rw [IntKind.wrap_u64]; omega
          have hq1 : IntKind.u64.wrap (N : Int) = (N : Int) := by rw [IntKind.wrap_u64]; omega
          have hmod : (sp : Int) % (N : Int) = (r : Int) := by rw [← hr, Int.natCast_emod]
          have hq2 : Int.tmod (sp : Int) (N : Int) = (r : Int) := by rw [Int.tmod_eq_emod_of_nonneg (by omega)]; exact hmod
          have hq3 : IntKind.u64.wrap (r : Int) = (r : Int) := by rw [IntKind.wrap_u64]; omega
          have hq4 : IntKind.i64.wrap (r : Int) = (r : Int) := by rw [IntKind.wrap_i64]; omega
          have hNn : N ≠ 0 := by omega
          have hNne : ((N : Int) == 0) = false := beq_eq_false_iff_ne.2 (by omega)
          have hsp' : (sp : Int) < 4294967296 := by omega
          clear row mS mI rg h1 h5 hdrop hlk hfull hspe hr hx CT0 hFF hD0 hTl hB
          go_wp2_with fail
          go_region_with (first
            | (go_at_call 24; refine (CS.out _).mono ?_; rintro e v1 ⟨rfl, rfl⟩)
            | (go_at_call 40; refine (CT.out _ (MapI.drew HMI.out)).mono ?_; rintro e v2 ⟨rfl, f2, hM2, hR2, hg2⟩))
          all_goals
            have hne2 : some w.heap.size ≠ some (w.heap.size + 1) := by simp
            have S6 : MapS v2 w.heap.size H.length (fun t => (lk H t).map fun s => (s : Int)) := (MapS.drew HMS.out).kept hg2 hne2
            have R6 : Hid (v2.ownsRow (w.heap.size + 3) 3 1 (.slice ba p bc) p (intsV out)) := World.ownsRow.kept (w := wr.drew) HO.out hg2 (.inr (fun e => by have := (HO.out.lt (w.heap.size + 1) e).1; omega))
            have B6 : Below w.heap.size w v2 := HBW.out.drew.grown hg2 (by have := HBW.out.size; show _ ≤ wr.heap.size; omega) (fun k hk => by cases hk; omega)
            have s6 : w.heap.size + 3 < v2.heap.size := Nat.lt_of_lt_of_le hsz hg2.size
            have e0 : v2.cell? ⟨w.heap.size + 1 + 1, 0, none⟩ = some (.int .i64 (N : Int)) := hg2.cell (w := wr.drew) HC.out.1 (fun e => by have e' : w.heap.size + 1 + 1 = w.heap.size + 1 := Option.some.inj e; omega)
            have e1 : v2.cell? ⟨w.heap.size + 1 + 1, 1, none⟩ = some (.map (some (w.heap.size + 1))) := hg2.cell (w := wr.drew) HC.out.2 (fun e => by have e' : w.heap.size + 1 + 1 = w.heap.size + 1 := Option.some.inj e; omega)
            obtain ⟨v3, hrun3, hS3, hg3⟩ := S6.put (by unfold maxLen; omega) hSm (wf_small (show x < 9223372036854775808 by omega)) (by rw [HLK.out]; rfl)
            have R7 : Hid (v3.ownsRow (w.heap.size + 3) 3 1 (.slice ba p bc) p (intsV out)) := World.ownsRow.kept R6.out hg3 (.inr (fun e => by have := (HO.out.lt w.heap.size e).1; omega))
            have B7 : Below w.heap.size w v3 := B6.grown hg3 (by omega) (fun k hk => by cases hk; omega)
            have s7 : w.heap.size + 3 < v3.heap.size := Nat.lt_of_lt_of_le s6 hg3.size
            have I7 : MapI v3 (w.heap.size + 1) (H.length + 1) f2 := hM2.kept hg3 (by simp)
            have f0 : v3.cell? ⟨w.heap.size + 1 + 1, 0, none⟩ = some (.int .i64 (N : Int)) := hg3.cell e0 (fun e => by have e' : w.heap.size + 1 + 1 = w.heap.size := Option.some.inj e; omega)
            have f1 : v3.cell? ⟨w.heap.size + 1 + 1, 1, none⟩ = some (.map (some (w.heap.size + 1))) := hg3.cell e1 (fun e => by have e' : w.heap.size + 1 + 1 = w.heap.size := Option.some.inj e; omega)
            have HX : Hid ((v3.alloc (.cells #[.int .i64 (x : Int)] 3)).ownsRow (w.heap.size + 3) 3 1 (.slice ba p bc) p (intsV out)) := R7.out.alloc _
            have KEEP : Hid (∀ (v6 : Value) (w6 : World), w6.ownsRow (w.heap.size + 3) 3 1 v6 (p + 1) (intsV out ++ [.int .i64 (x : Int)]) → (v3.alloc (.cells #[.int .i64 (x : Int)] 3)).grownBy w6 (Value.slice ba p bc).ownBlock → SlAt seed N (l.map fun s => s.data.toList) w v6 (p + 1) w6) := fun v6 w6 hown6 hg6 => by
              have hne : ∀ k, k < w.heap.size + 3 → some k ≠ (Value.slice ba p bc).ownBlock := fun k hk e => by
                have := (HO.out.lt k e.symm).1; omega
              have hlen : (H ++ [(S.data.toList, x)]).length = H.length + 1 := by simp
              refine ⟨H ++ [(S.data.toList, x)], out ++ [x], f2, HH.out, by rw [hlen]; omega, by rw [hlen]; omega, by simp [h4], fun y hy => ?_, ?_, ?_, ?_, ?_, hg6.cell ?_ (hne (w.heap.size + 1 + 1) (by omega)), hg6.cell ?_ (hne (w.heap.size + 1 + 1) (by omega)), Below.grown (B7.alloc B7.size _) hg6 (by simp; omega) (fun g hg => by have := (HO.out.lt g hg).1; omega), by have := hg6.size; simp at this; omega⟩
              · rcases List.mem_append.1 hy with hy | hy
                · exact H5.out y hy
                · simp at hy; omega
              · rw [hlen]
                have := (hS3.alloc (.cells #[.int .i64 (x : Int)] 3)).kept hg6 (hne _ (by omega))
                have e : (fun t => if t = S.data.toList then some (x : Int) else (lk H t).map fun s => (s : Int)) = (fun t => (lk (H ++ [(S.data.toList, x)]) t).map fun s => (s : Int)) := by
                  funext t
                  rw [lk_snoc H _ x HLK.out]
                  by_cases ht : t = S.data.toList
                  · rw [if_pos ht, if_pos ht]; rfl
                  · rw [if_neg ht, if_neg ht]
                rw [e] at this
                exact this
              · rw [hlen]; exact (I7.alloc _).kept hg6 (hne _ (by omega))
              · rw [List.map_append]; exact hR2
              · rw [List.length_append, intsV_snoc, h4]; exact hown6
              · rw [World.cell?_alloc_old _ _ _ (by simp; omega)]; exact f0
              · rw [World.cell?_alloc_old _ _ _ (by simp; omega)]; exact f1
            clear S6 R6 B6 s6 e0 e1 hS3 hg3 hM2 hR2 hg2 I7 f0 f1 R7 LS LEN HMI HMS CS CT hq0 hq1 hq2 hq3 hq4 hmod
            go_wp2_with (at_builtin; refine wpList_append_own _ rfl _ _ 42 rfl (w.heap.size + 3) 3 i0 (.int .i64 0) 1 8 Tryd.underlying42 hi hz0 hz1 hz2 rfl (by decide) _ _ _ rfl HX.out ⟨v3.heap.size, 0, none⟩ 1 1 [.int .i64 (x : Int)] rfl rfl (one_cell v3 _ 3) (by intro u hu; simp at hu; subst hu; rfl) (by unfold maxLen; omega) (by omega) (by simp; omega) ?_)
            intro v6 w6 hown6 hgrow6 _
            have F : Hid (SlAt seed N (l.map fun s => s.data.toList) w v6 (p + 1) w6) := KEEP.out v6 w6 hown6 hgrow6
            clear hown6 hgrow6 HX KEEP HO
            go_wp2_with fail
            exact ⟨⟨p + 1, by omega, by go_num, F.out⟩, by simp only [intOf]; omega⟩
    · obtain rfl : p = l.length := by omega
      have hend : A = some out := by
        rw [← HA.out, ← h1, List.drop_of_length_le (by simp)]; rfl
      subst hend
      subst hv
      have FIN : Hid (SlEnd (some out) N l.length w.heap.size (.returned (.tuple #[.slice ba l.length bc, .int .i64 0])) wr) := ⟨_, rfl, by rw [h4]; exact row_base row (by omega), h4, h5⟩
      clear row mS mI rg c0 c1 h1 h5 HO
      go_wp2_with fail
      go_ret2
      exact ⟨hB, FIN.out⟩
end Go.Proofs.YtabipemlemppjaaDoor
