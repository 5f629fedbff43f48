/- The document's Slots: it answers as slF says. -/
import Derived.Test.YtabipemlemppjaaDoorSt
namespace Go.Proofs.YtabipemlemppjaaDoor
open Go.RowKit Go.Maps
set_option linter.unusedVariables false
set_option linter.unusedSimpArgs false

/-- A number laid into a sorted list at its place. -/
def insAt (S : List Nat) (p x : Nat) : List Nat := S.take p ++ [x] ++ S.drop p
theorem insAt_length {S : List Nat} {p x : Nat} (hp : p ≤ S.length) : (insAt S p x).length = S.length + 1 := by
  simp [insAt]; omega
theorem insAt_mem {S : List Nat} {p x y : Nat} : y ∈ insAt S p x ↔ y = x ∨ y ∈ S := by
  have h : S.take p ++ S.drop p = S := List.take_append_drop p S
  have : y ∈ S ↔ y ∈ S.take p ∨ y ∈ S.drop p := by rw [← List.mem_append, h]
  simp only [insAt, List.mem_append, List.mem_singleton, this]
  constructor
  · rintro ((h | h) | h)
    · exact .inr (.inl h)
    · exact .inl h
    · exact .inr (.inr h)
  · rintro (h | h | h)
    · exact .inl (.inr h)
    · exact .inl (.inl h)
    · exact .inr h
theorem insAt_sorted {S : List Nat} {p x : Nat} (hS : S.Pairwise (· < ·)) (hp : PosOf S x p) (hx : x ∉ S) : (insAt S p x).Pairwise (· < ·) := by
  have h1 : ∀ y ∈ S.take p, y < x := fun y hy => by
    obtain ⟨i, hi⟩ := List.mem_iff_getElem?.1 hy
    have hip : i < p := by have := (List.getElem?_eq_some_iff.1 hi).1; simp at this; omega
    rw [List.getElem?_take_of_lt hip] at hi
    exact (hp.2 i y hi).1 hip
  have h2 : ∀ y ∈ S.drop p, x < y := fun y hy => by
    obtain ⟨i, hi⟩ := List.mem_iff_getElem?.1 hy
    rw [List.getElem?_drop] at hi
    have h3 := hp.2 (p + i) y hi
    have h4 : ¬ y < x := fun e => by have := h3.2 e; omega
    have h5 : y ≠ x := fun e => hx (e ▸ List.mem_of_getElem? hi)
    omega
  unfold insAt
  rw [List.append_assoc, List.pairwise_append]
  refine ⟨hS.sublist (List.take_sublist _ _), ?_, ?_⟩
  · rw [List.singleton_append, List.pairwise_cons]
    exact ⟨h2, hS.sublist (List.drop_sublist _ _)⟩
  · intro a ha b hb
    rcases List.mem_append.1 hb with hb | hb
    · simp at hb; subst hb; exact h1 a ha
    · have := h1 a ha; have := h2 b hb; omega
/-- What the document's Slots holds at the head of each round. -/
structure RfAt (seed N : Nat) (l : List (List UInt8)) (w : World) (ov tv : Value) (p : Nat) (H : List (List UInt8 × Nat)) (out S : List Nat) (wr : World) : Prop where
  eq : slF seed N (l.drop p) H out = slF seed N l [] []
  hp : H.length ≤ p
  hN : H.length ≤ N
  len : out.length = p
  low : ∀ s ∈ out, s < N
  sl : S.length = H.length
  so : S.Pairwise (· < ·)
  mem : ∀ x, x ∈ S ↔ x ∈ H.map (·.2)
  old : ∀ (k : Nat) (t : List UInt8) (s : Nat), k < p → l[k]? = some t → out[k]? = some s → lk H t = some s
  new : ∀ t, (∀ k, k < p → l[k]? ≠ some t) → lk H t = none
  ro : wr.ownsRow w.heap.size 3 1 ov p (intsV out)
  rt : wr.ownsRow w.heap.size 3 1 tv S.length (intsV S)
  ap : ∀ g, ov.ownBlock = some g → tv.ownBlock ≠ some g
  be : Below w.heap.size w wr

theorem intsV_one (a : List Nat) : ∀ u ∈ intsV a, u.oneCell' = true := fun u hu => by
  obtain ⟨n, _, rfl⟩ := List.mem_map.1 hu; rfl
theorem intsV_len (a : List Nat) : (intsV a).length = a.length := by simp [intsV]
theorem intsV_take {S : List Nat} {p j : Nat} {u : Value} (h : (intsV (S.take p))[j]? = some u) : (intsV S)[j]? = some u := by
  have hj : j < p := by have := (List.getElem?_eq_some_iff.1 h).1; rw [intsV_len] at this; simp at this; omega
  rw [intsV, List.getElem?_map, List.getElem?_take_of_lt hj] at h
  rw [intsV, List.getElem?_map]; exact h
theorem intsV_drop {S : List Nat} {p j : Nat} {u : Value} (h : (intsV (S.drop p))[j]? = some u) : (intsV S)[p + j]? = some u := by
  rw [intsV, List.getElem?_map, List.getElem?_drop] at h
  rw [intsV, List.getElem?_map]; exact h
theorem insAt_V (S : List Nat) (p x : Nat) : intsV (insAt S p x) = intsV (S.take p) ++ [.int .i64 (x : Int)] ++ intsV (S.drop p) := by
  simp [intsV, insAt]
theorem wpList_append_none {P : Program} {w : World} {ops : Array Oper} {rest : List Oper} {o : Oper} {a : Act} {Q : Exit → Act → World → Prop} (hgd : o.guard = none) (s x : Operand) (t : TypeId)
    (ho : o.op = .call { callee := .builtin .append, args := #[s, x], argTypes := #[t, t] }) (base : Nat) (e : TypeId) (i : TypeInfo) (size : Nat) (ht : P.underlying t = some (.slice e)) (hi : P.info? e = some i)
    (v : Value) (n : Nat) (xs : List Value) (hs : a.eval s = v) (hown : w.ownsRow base e size v n xs) (hx : a.eval x = .slice none 0 0) (h : wpList P ops Q rest (a.put o.dst v) w) : wpList P ops Q (o :: rest) a w :=
  wpList_plain hgd fun _ hK => by
    have hr := run_append_owned_none (P := P) (w := w) base t o.type e i size ht hi v n xs hown
    unfold Oper.wp execOp
    simp only [ho, resolve, invoke, builtin, Sem.run_bind, Sem.run_pure, Result.andThen_ok, List.map_toArray, List.map_cons, List.map_nil, hs, hx, hr]
    exact hK _ _ h
theorem add_plain0 (b o i : Nat) : (⟨b, o, none⟩ : Addr).add i = ⟨b, o + i, none⟩ := by unfold Addr.add; split <;> simp_all
theorem drop_at {l : List (List UInt8)} {p : Nat} {t : List UInt8} (ht : l[p]? = some t) : l.drop p = t :: l.drop (p + 1) := by
  obtain ⟨h, rfl⟩ := List.getElem?_eq_some_iff.1 ht
  exact List.drop_eq_getElem_cons h
theorem snoc_at {out : List Nat} {p k s s' : Nat} (hl : out.length = p) (hk : k < p + 1) (h : (out ++ [s])[k]? = some s') : (k < p ∧ out[k]? = some s') ∨ (k = p ∧ s' = s) := by
  rcases Nat.lt_or_ge k p with h' | h'
  · rw [List.getElem?_append_left (by omega)] at h; exact .inl ⟨h', h⟩
  · obtain rfl : k = p := by omega
    rw [List.getElem?_append_right (by omega), hl, Nat.sub_self] at h
    simp at h; exact .inr ⟨rfl, h.symm⟩
theorem RfAt.old_step {seed N : Nat} {l : List (List UInt8)} {w wo w6 : World} {ov tv ov' : Value} {p : Nat} {H : List (List UInt8 × Nat)} {out S : List Nat} (h : RfAt seed N l w ov tv p H out S wo) {t : List UInt8} {s : Nat} (ht : l[p]? = some t) (hlk : lk H t = some s) (hs : s < N)
    (hown : w6.ownsRow w.heap.size 3 1 ov' (p + 1) (intsV out ++ [.int .i64 (s : Int)])) (hrt : w6.ownsRow w.heap.size 3 1 tv S.length (intsV S)) (hap : ∀ g, ov'.ownBlock = some g → tv.ownBlock ≠ some g) (hbe : Below w.heap.size w w6) :
    RfAt seed N l w ov' tv (p + 1) H (out ++ [s]) S w6 := by
  refine ⟨?_, by have := h.hp; omega, h.hN, by simp [h.len], fun x hx => ?_, h.sl, h.so, h.mem, fun k t' s' hk ht' hs' => ?_, fun t' hn => h.new t' fun k hk => hn k (by omega), by rw [intsV_snoc]; exact hown, hrt, hap, hbe⟩
  · rw [← h.eq, drop_at ht, slF_old hlk]
  · rcases List.mem_append.1 hx with hx | hx
    · exact h.low x hx
    · simp at hx; omega
  · rcases snoc_at h.len hk hs' with ⟨h1, h2⟩ | ⟨rfl, rfl⟩
    · exact h.old k t' s' h1 ht' h2
    · rw [ht] at ht'; cases ht'; exact hlk
theorem RfAt.new_step {seed N : Nat} {l : List (List UInt8)} {w wo w6 : World} {ov tv ov' tv' : Value} {p : Nat} {H : List (List UInt8 × Nat)} {out S : List Nat} (h : RfAt seed N l w ov tv p H out S wo) {t : List UInt8} {x pos : Nat} (ht : l[p]? = some t) (hlk : lk H t = none) (hN : H.length ≠ N)
    (hx : slt N (H.map (·.2)) (spreadN seed t % N) = x) (hxN : x < N) (hpos : PosOf S x pos) (hxS : x ∉ S)
    (hown : w6.ownsRow w.heap.size 3 1 ov' (p + 1) (intsV out ++ [.int .i64 (x : Int)])) (hrt : w6.ownsRow w.heap.size 3 1 tv' (S.length + 1) (intsV (insAt S pos x))) (hap : ∀ g, ov'.ownBlock = some g → tv'.ownBlock ≠ some g) (hbe : Below w.heap.size w w6) :
    RfAt seed N l w ov' tv' (p + 1) (H ++ [(t, x)]) (out ++ [x]) (insAt S pos x) w6 := by
  have hil := insAt_length (x := x) hpos.1
  refine ⟨?_, by have := h.hp; simp; omega, by have := h.hN; simp; omega, by simp [h.len], fun y hy => ?_, by rw [hil, h.sl]; simp, insAt_sorted h.so hpos hxS, fun y => ?_, fun k t' s' hk ht' hs' => ?_, fun t' hn => ?_, by rw [intsV_snoc]; exact hown, by rw [hil]; exact hrt, hap, hbe⟩
  · rw [← h.eq, drop_at ht, slF_new hlk hN, hx]
  · rcases List.mem_append.1 hy with hy | hy
    · exact h.low y hy
    · simp at hy; omega
  · rw [insAt_mem, h.mem y, List.map_append, List.mem_append]
    simp only [List.map_cons, List.map_nil, List.mem_singleton]
    exact Or.comm
  · rw [lk_snoc H t x hlk]
    rcases snoc_at h.len hk hs' with ⟨h1, h2⟩ | ⟨rfl, rfl⟩
    · have h3 := h.old k t' s' h1 ht' h2
      rw [if_neg (fun e => by rw [e, hlk] at h3; cases h3)]; exact h3
    · rw [ht] at ht'; cases ht'; rw [if_pos rfl]
  · rw [lk_snoc H t x hlk, if_neg (fun e => hn p (by omega) (by rw [e]; exact ht))]
    exact h.new t' fun k hk => hn k (by omega)
theorem row_heap {w w' : World} {B e size n : Nat} {v : Value} {xs : List Value} (h : w.ownsRow B e size v n xs) (hh : w'.heap = w.heap) : w'.ownsRow B e size v n xs := by
  refine ⟨h.1, ?_⟩
  rcases h.2 with hn | ⟨g, cap, cur, rfl, h1, hg, rest⟩
  · exact .inl hn
  · exact .inr ⟨g, cap, cur, rfl, h1, by rw [hh]; exact hg, rest⟩
theorem bytes_ne {t u : ByteArray} (h : ¬ t = u) : ¬ t.toList = u.toList ∧ (t.toList == u.toList) = false ∧ ¬ t.data.toList = u.data.toList ∧ ¬ t.data = u.data := by
  have h1 : ¬ t.data = u.data := fun e => by
    obtain ⟨t⟩ := t; obtain ⟨u⟩ := u
    exact h (congrArg ByteArray.mk e)
  have h2 : ¬ t.data.toList = u.data.toList := fun e => h1 (Array.toList_inj.1 e)
  have h3 : ¬ t.toList = u.toList := by rw [ByteArray.toList_eq, ByteArray.toList_eq]; exact h2
  exact ⟨h3, beq_eq_false_iff_ne.2 h3, h2, h1⟩
/-- A step along the ring. -/
theorem slt_step {N : Nat} {T : List Nat} {x e : Nat} (hx : x < N) (hT : T.length < N) (h : FF N T x e) (hm : x ∈ T) : ∃ e', e = e' + 1 ∧ FF N T ((x + 1) % N) e' ∧ slt N T ((x + 1) % N) = slt N T x := by
  have he : e ≠ 0 := fun e0 => by
    subst e0
    have := h.1
    rw [Nat.add_zero, Nat.mod_eq_of_lt hx] at this
    exact this hm
  obtain ⟨e', rfl⟩ : ∃ e', e = e' + 1 := ⟨e - 1, by omega⟩
  have h' : FF N T ((x + 1) % N) e' := by have := h.skip (k := 1) (by omega); simpa using this
  refine ⟨e', rfl, h', ?_⟩
  rw [← slt_is hx hT h, ← slt_is (Nat.mod_lt _ (by omega)) hT h', Nat.mod_add_mod, Nat.add_assoc, Nat.add_comm 1 e']
theorem slt_free {N : Nat} {T : List Nat} {x : Nat} (hx : x < N) (hT : T.length < N) (hm : x ∉ T) : slt N T x = x := by
  have h : FF N T x 0 := ⟨by rw [Nat.add_zero, Nat.mod_eq_of_lt hx]; exact hm, fun e he => by omega⟩
  rw [← slt_is hx hT h, Nat.add_zero, Nat.mod_eq_of_lt hx]

set_option maxHeartbeats 8000000 in
set_option maxRecDepth 100000 in
theorem rslots_some (seed N : Nat) (hseed : seed < 4294967296) (hN0 : 0 < N) (hN : N < 9223372036854775808) (sb so cap : Nat) (l : List ByteArray) (hl : l.length ≤ 100000) (hls : ∀ s ∈ l, s.size ≤ 9223372036854775807) (w : World) (hS : Strs w sb so l) (hsb : sb < w.heap.size) :
    Calls Tryd.prog 26 #[.int .u32 seed, .int .i64 N, .slice (some ⟨sb, so, none⟩) l.length cap] w fun e w' => Below w.heap.size w w' ∧ SlEnd (slF seed N (l.map fun s => s.data.toList) [] []) N l.length w.heap.size e w' := by
  obtain ⟨i0, hi, hz0, hz1, hz2⟩ := info_parts info3
  have HS : Hid (Strs w sb so l) := hS
  have HLS : Hid (∀ s ∈ l, s.size ≤ 9223372036854775807) := hls
  have hN1 : ¬ ((N : Int) < 1) := by omega
  obtain ⟨A, hA⟩ : ∃ A, slF seed N (l.map fun s => s.data.toList) [] [] = A := ⟨_, rfl⟩
  rw [hA]
  have HA : Hid (slF seed N (l.map fun s => s.data.toList) [] [] = A) := hA
  have HAT : Hid (RfAt seed N (l.map fun s => s.data.toList) w (.slice none 0 0) (.slice none 0 0) 0 [] [] [] w) :=
    ⟨rfl, by simp, by simp, rfl, by simp, rfl, List.Pairwise.nil, by simp, fun k t s h => by omega, fun t _ => rfl, World.ownsRow_nil _ _ _ _, World.ownsRow_nil _ _ _ _, fun g h => by simp [Value.ownBlock] at h, Below.refl _ _⟩
  clear hS hls hA
  go_enter Tryd.func26, Tryd.ntmps26
  go_wp2_with fail
  go_loopw [8, 9, 10] (fun ov tv iv wr => ∃ (p : Nat) (H : List (List UInt8 × Nat)) (out S : List Nat), p ≤ l.length ∧ iv = .int .i64 p ∧ RfAt seed N (l.map fun s => s.data.toList) w ov tv p H out S wr) (fun _ _ iv _ => l.length - (intOf iv).toNat)
  case atStart => exact ⟨0, [], [], [], by omega, rfl, HAT.out⟩
  case round =>
    obtain ⟨wo, hwo⟩ : ∃ wo, wo = wr := ⟨_, rfl⟩
    subst hwo
    obtain ⟨p, H, out, S, hp, rfl, hat⟩ := hrel
    have AT : Hid (RfAt seed N (l.map fun s => s.data.toList) w u8 u9 p H out S wo) := hat
    obtain ⟨oa, oc, rfl, hoI⟩ := row_val (a := out) (by rw [hat.len]; exact hat.ro)
    obtain ⟨ta, tc, rfl, htI⟩ := row_val hat.rt
    have hout := hat.len
    rw [hout] at AT
    have HOI : Hid (0 < out.length → ∃ g, oa = some ⟨g, 0, none⟩ ∧ Ints wo g out) := hoI
    have HTI : Hid (0 < S.length → ∃ g, ta = some ⟨g, 0, none⟩ ∧ Ints wo g S) := htI
    have hB := hat.be
    have hSl : S.length ≤ p := by have := hat.sl; have := hat.hp; omega
    have hSN : S.length ≤ N := by have := hat.sl; have := hat.hN; omega
    clear hat hoI htI
    rw [hout]
    by_cases hlt : p < l.length
    · have hlt' : (p : Int) < l.length := by omega
      obtain ⟨t, ht⟩ : ∃ t, l[p]? = some t := ⟨_, List.getElem?_eq_getElem hlt⟩
      have HT : Hid (l[p]? = some t) := ht
      have hct : wo.cell? ⟨sb, so + p, none⟩ = some (.string t) := by
        rw [hB.cell (p := ⟨sb, so + p, none⟩) hsb]
        obtain ⟨h1, h2⟩ := List.getElem?_eq_some_iff.1 ht
        rw [HS.out p h1, h2]
      clear ht
      go_wp2_with fail
      go_loopw [11, 12] (fun av kv wr => ∃ q : Nat, q ≤ p ∧ kv = .int .i64 q ∧ wr.heap = wo.heap ∧ Below w.heap.size w wr ∧ ((av = .int .i64 (-1) ∧ ∀ j u, j < q → l[j]? = some u → ¬ u = t) ∨ ∃ s : Nat, av = .int .i64 s ∧ s < N ∧ lk H t.data.toList = some s)) (fun _ kv _ => p - (intOf kv).toNat)
      case atStart => exact ⟨0, by omega, rfl, rfl, hB, .inl ⟨rfl, fun j u h => by omega⟩⟩
      case round =>
        obtain ⟨q, hq, rfl, hh, hBq, hor⟩ := hrel
        have HHQ : Hid (wr.heap = wo.heap) := hh
        have hct2 : wr.cell? ⟨sb, so + p, none⟩ = some (.string t) := by rw [World.cell?_of_block (w := wo) (by rw [hh])]; exact hct
        rcases hor with ⟨rfl, hnone⟩ | ⟨s, rfl, hsN, hlk⟩
        · have HNO : Hid (∀ j u, j < q → l[j]? = some u → ¬ u = t) := hnone
          clear hnone
          by_cases hqp : q < p
          · have hqp' : (q : Int) < p := by omega
            have hql' : (q : Int) < l.length := by omega
            obtain ⟨u, hu⟩ : ∃ u, l[q]? = some u := ⟨_, List.getElem?_eq_getElem (by omega)⟩
            have HU : Hid (l[q]? = some u) := hu
            have hcu : wr.cell? ⟨sb, so + q, none⟩ = some (.string u) := by
              rw [hBq.cell (p := ⟨sb, so + q, none⟩) hsb]
              obtain ⟨h1, h2⟩ := List.getElem?_eq_some_iff.1 hu
              rw [HS.out q h1, h2]
            clear hu hh
            by_cases hut : u = t
            · subst hut
              obtain ⟨g, rfl, hint⟩ := HOI.out (by omega)
              obtain ⟨s, hs⟩ : ∃ s, out[q]? = some s := ⟨_, List.getElem?_eq_getElem (by omega)⟩
              have hcs : wr.cell? ⟨g, q, none⟩ = some (.int .i64 (s : Int)) := by rw [World.cell?_of_block (w := wo) (by rw [HHQ.out])]; exact hint.2 q s hs
              have hsN : s < N := AT.out.low s (List.mem_of_getElem? hs)
              have HLK : Hid (lk H u.data.toList = some s) := AT.out.old q _ s hqp (by rw [List.getElem?_map, HU.out]; rfl) hs
              clear hint hs
              go_wp2_with fail
              go_quiet (fail)
              go_wp2_with fail
              refine ⟨⟨q + 1, by omega, by go_num, HHQ.out, ⟨hBq.os, hBq.tape, hBq.output, hBq.size, hBq.block⟩, .inr ⟨s, rfl, hsN, HLK.out⟩⟩, by simp only [intOf]; omega⟩
            · obtain ⟨hu1, hu2, hu3, hu4⟩ := bytes_ne hut
              go_wp2_with fail
              go_quiet (fail)
              go_wp2_with fail
              refine ⟨⟨q + 1, by omega, by go_num, HHQ.out, ⟨hBq.os, hBq.tape, hBq.output, hBq.size, hBq.block⟩, .inl ⟨rfl, fun j v hj hv => ?_⟩⟩, by simp only [intOf]; omega⟩
              rcases Nat.lt_or_ge j q with h | h
              · exact HNO.out j v h hv
              · obtain rfl : j = q := by omega
                have := HU.out; rw [hv] at this; cases this; exact hut
          · obtain rfl : q = p := by omega
            have hlkn : lk H t.data.toList = none := AT.out.new _ fun k hk e => by
              rw [List.getElem?_map] at e
              cases hu : l[k]? with
              | none => rw [hu] at e; cases e
              | some u =>
                rw [hu] at e
                have e' : u.data.toList = t.data.toList := by simpa using e
                by_cases hut : u = t
                · exact HNO.out k u hk hu hut
                · exact (bytes_ne hut).2.2.1 e'
            have hqq : ¬ ((q : Int) < q) := by omega
            by_cases hfull : S.length = N
            · have hend : A = none := by
                rw [← HA.out, ← AT.out.eq, drop_at (t := t.data.toList) (by rw [List.getElem?_map, HT.out]; rfl), slF_full hlkn (by rw [← AT.out.sl]; exact hfull)]
              subst hend
              have FIN : Hid (SlEnd none N l.length w.heap.size (.returned (.tuple #[.slice none 0 0, .int .i64 120])) wr) := rfl
              have hge : (N : Int) ≤ S.length := by omega
              clear hfull AT hlkn
              go_wp2_with fail
              go_ret2
              exact ⟨hBq, FIN.out⟩
            · have hSlt : S.length < N := by omega
              have hHl : H.length < N := by have := AT.out.sl; omega
              have hTl : (H.map (·.2)).length < N := by rw [List.length_map]; exact hHl
              have hSz : t.size ≤ 9223372036854775807 := HLS.out t (List.mem_of_getElem? HT.out)
              have CS : Hid (∀ w : World, Calls Tryd.prog 25 #[.int .u32 (seed : Int), .string t] w fun e w' => e = .returned (.int .u32 ((spreadN seed t.data.toList : Nat) : Int)) ∧ w' = w) := fun w => rspread_any seed hseed t hSz w
              have hsp := spreadN_lt seed t.data.toList
              have HSPE : Hid (spreadN seed t.data.toList = spreadN seed t.data.toList) := rfl
              obtain ⟨sp, hspe⟩ : ∃ sp, spreadN seed t.data.toList = sp := ⟨_, rfl⟩
              rw [hspe] at CS hsp
              have HSP : Hid (spreadN seed t.data.toList = sp) := hspe
              have hrN := Nat.mod_lt sp hN0
              obtain ⟨r, hr⟩ : ∃ r, sp % N = r := ⟨_, rfl⟩
              rw [hr] at hrN
              have HR : Hid (sp % N = r) := hr
              have CST : Hid (∀ (x : Nat) (w1 : World), x < N → w1.heap = wo.heap → Calls Tryd.prog 39 #[.slice ta S.length tc, .int .i64 (x : Int)] w1 fun e w' => (∃ pos : Nat, e = .returned (.tuple #[.int .i64 pos, .bool (decide (x ∈ S))]) ∧ PosOf S x pos) ∧ w'.heap = w1.heap ∧ Below w1.heap.size w1 w') := fun x w1 hx hw1 => stands_any S AT.out.so (by omega) x (by omega) w.heap.size _ w1 (row_heap AT.out.rt hw1)
              have hq0 : IntKind.i64.wrap (sp : Int) = (sp : Int) := by rw [IntKind.wrap_i64]; omega
              have hmod : (sp : Int) % (N : Int) = (r : Int) := by rw [← hr, Int.natCast_emod]
              have hq2 : Int.tmod (sp : Int) (N : Int) = (r : Int) := by rw [Int.tmod_eq_emod_of_nonneg (by omega)]; exact hmod
              have hq4 : IntKind.i64.wrap (r : Int) = (r : Int) := by rw [IntKind.wrap_i64]; omega
              have hNn : N ≠ 0 := by omega
              have hNne : ((N : Int) == 0) = false := beq_eq_false_iff_ne.2 (by omega)
              have hsp' : (sp : Int) < 4294967296 := by omega
              have hnge : ¬ ((N : Int) ≤ S.length) := by omega
              have HLKN : Hid (lk H t.data.toList = none) := hlkn
              clear hfull hlkn hspe hr hh HSPE
              go_wp2_with fail
              refine (CS.out _).mono ?_
              rintro e v1 ⟨rfl, rfl⟩
              clear CS
              go_wp2_with fail
              refine (CST.out r _ hrN HHQ.out).mono ?_
              rintro e v2 ⟨⟨pos0, rfl, hpos0⟩, hh2, hb2⟩
              have B2 : Below w.heap.size w v2 := hBq.trans (hb2.mono hBq.size)
              obtain ⟨D0, hD0, hFF⟩ := FF.some (N := N) (T := H.map (·.2)) r hTl
              rw [List.length_map] at hD0
              have HST : Hid (∃ (x pos e : Nat), Value.int .i64 (r : Int) = .int .i64 x ∧ Value.int .i64 (pos0 : Int) = .int .i64 pos ∧ Value.bool (decide (r ∈ S)) = .bool (decide (x ∈ S)) ∧ x < N ∧ PosOf S x pos ∧ FF N (H.map (·.2)) x e ∧ e ≤ H.length ∧ slt N (H.map (·.2)) x = slt N (H.map (·.2)) r ∧ v2.heap = wo.heap ∧ Below w.heap.size w v2) := ⟨r, pos0, D0, rfl, rfl, rfl, hrN, hpos0, hFF, hD0, rfl, hh2.trans HHQ.out, B2⟩
              clear hpos0 hh2 hb2 B2 hFF hD0 hq0 hmod hq2 hq4
              go_wp2_with fail
              go_loopw [11, 14, 15] (fun av pv iv wr => ∃ (x pos e : Nat), av = .int .i64 x ∧ pv = .int .i64 pos ∧ iv = .bool (decide (x ∈ S)) ∧ x < N ∧ PosOf S x pos ∧ FF N (H.map (·.2)) x e ∧ e ≤ H.length ∧ slt N (H.map (·.2)) x = slt N (H.map (·.2)) r ∧ wr.heap = wo.heap ∧ Below w.heap.size w wr) (fun av _ _ _ => dstF N (H.map (·.2)) (H.length + 1) (intOf av).toNat)
              case atStart => exact HST.out
              case round =>
                obtain ⟨x, pos, e, rfl, rfl, rfl, hx, hpos, hF, heN, hslt, hh3, hB3⟩ := hrel
                have HPOS : Hid (PosOf S x pos) := hpos
                have HSLT : Hid (slt N (H.map (·.2)) x = slt N (H.map (·.2)) r) := hslt
                have HH3 : Hid (wr.heap = wo.heap) := hh3
                by_cases hxS : x ∈ S
                · have hxd : decide (x ∈ S) = true := decide_eq_true hxS
                  rw [hxd]
                  obtain ⟨e', he', hF', hs'⟩ := slt_step hx hTl hF ((AT.out.mem x).1 hxS)
                  obtain ⟨x', hx'⟩ : ∃ x', (x + 1) % N = x' := ⟨_, rfl⟩
                  have hxN' : x' < N := by rw [← hx']; exact Nat.mod_lt _ hN0
                  rw [hx'] at hF' hs'
                  have DEC : Hid (dstF N (H.map (·.2)) (H.length + 1) x' < dstF N (H.map (·.2)) (H.length + 1) x) := by
                    show _ < _
                    rw [dst_is _ _ _ hx (by omega) hF, dst_is _ _ _ hxN' (by omega) hF']; omega
                  have HF : Hid (FF N (H.map (·.2)) x' e') := hF'
                  have HS2 : Hid (slt N (H.map (·.2)) x' = slt N (H.map (·.2)) r) := hs'.trans hslt
                  have hm1 : ((x : Int) + 1) % (N : Int) = (x' : Int) := by rw [← hx']; simp
                  have hm2 : Int.tmod ((x : Int) + 1) (N : Int) = (x' : Int) := by rw [Int.tmod_eq_emod_of_nonneg (by omega)]; exact hm1
                  have hm3 : IntKind.i64.wrap (x' : Int) = (x' : Int) := by rw [IntKind.wrap_i64]; omega
                  have hm4 : IntKind.i64.wrap ((x : Int) + 1) = (x : Int) + 1 := by rw [IntKind.wrap_i64]; omega
                  clear hF hF' hs' hslt hx' hxS hxd hh3 HST hpos
                  go_wp2_with fail
                  refine (CST.out x' _ hxN' HH3.out).mono ?_
                  rintro e2 v3 ⟨⟨pos', rfl, hpos'⟩, hh4, hb4⟩
                  have HP' : Hid (PosOf S x' pos') := hpos'
                  have HH4 : Hid (v3.heap = wo.heap) := hh4.trans HH3.out
                  have B4 : Below w.heap.size w v3 := hB3.trans (hb4.mono hB3.size)
                  clear hpos' hh4 hb4
                  go_wp2_with fail
                  refine ⟨⟨x', pos', e', rfl, rfl, rfl, hxN', HP'.out, HF.out, by omega, HS2.out, HH4.out, B4⟩, ?_⟩
                  simp only [intOf, Int.toNat_natCast]
                  exact DEC.out
                · have hxd : decide (x ∈ S) = false := decide_eq_false hxS
                  rw [hxd]
                  have HXS : Hid (x ∉ S) := hxS
                  have HXR : Hid (slt N (H.map (·.2)) (spreadN seed t.data.toList % N) = x) := by
                    show _ = _
                    rw [HSP.out, HR.out, ← hslt, slt_free hx hTl (fun h => hxS ((AT.out.mem x).2 h))]
                  have hposl : pos ≤ S.length := hpos.1
                  have hposI : (pos : Int) ≤ S.length := by omega
                  have HRO : Hid (wr.ownsRow w.heap.size 3 1 (.slice oa q oc) q (intsV out)) := row_heap AT.out.ro hh3
                  have HRT : Hid (wr.ownsRow w.heap.size 3 1 (.slice ta S.length tc) S.length (intsV S)) := row_heap AT.out.rt hh3
                  have hszw := hB3.size
                  have HN1 : Hid (wr.ownsRow wr.heap.size 3 1 (.slice none 0 0) 0 []) := World.ownsRow_nil _ _ _ _
                  have KEEP : Hid (∀ (w8 w9 : World) (v8 : Value) (g c : Nat), w8.ownsRow wr.heap.size 3 1 v8 (S.length + 1) (intsV (insAt S pos x)) → Below wr.heap.size wr w8 →
                      w9.ownsRow w.heap.size 3 1 (.slice (some ⟨g, 0, none⟩) (q + 1) c) (q + 1) (intsV out ++ [.int .i64 (x : Int)]) → (w8.alloc (.cells #[.int .i64 (x : Int)] 3)).grownBy w9 (Value.slice oa q oc).ownBlock → ((Value.slice oa q oc).ownBlock = some g ∨ g = w8.heap.size + 1) →
                      RfAt seed N (l.map fun s => s.data.toList) w (.slice (some ⟨g, 0, none⟩) (q + 1) c) v8 (q + 1) (H ++ [(t.data.toList, x)]) (out ++ [x]) (insAt S pos x) w9) := fun w8 w9 v8 g c h8 hb8 h9 hg9 hor => by
                    have hB8 : Below w.heap.size w w8 := hB3.trans (hb8.mono hszw)
                    have hoB : ∀ k, (Value.slice oa q oc).ownBlock = some k → k < wr.heap.size := fun k hk => (HRO.out.lt k hk).2
                    have hv8 : ∀ k, v8.ownBlock = some k → wr.heap.size ≤ k ∧ k < w8.heap.size := h8.lt
                    refine AT.out.new_step (tv' := v8) (by rw [List.getElem?_map, HT.out]; rfl) HLKN.out (by omega) HXR.out hx HPOS.out HXS.out h9 ?_ ?_ ?_
                    · refine row_base (World.ownsRow.kept (h8.alloc _) hg9 ?_) hszw
                      cases hr : v8.ownBlock with
                      | none => exact .inl rfl
                      | some k => exact .inr fun e => by have := hoB k e.symm; have := (hv8 k hr).1; omega
                    · intro k hk e
                      simp [Value.ownBlock] at hk
                      subst hk
                      have := hv8 g e
                      rcases hor with h | h
                      · have := hoB g h; omega
                      · omega
                    · exact Below.grown (hB8.alloc hB8.size _) hg9 (by have := hB8.size; simp; omega) fun k hk => (HRO.out.lt k hk).1
                  clear hF hslt hxS hxd hh3 HST hpos HH3 CST
                  rcases HRT.out.2 with ⟨hnil, hS0⟩ | ⟨g0, cap0, cur0, hsome, hg0, hgg, hle, hmx, _, _⟩
                  · simp only [Value.slice.injEq] at hnil
                    obtain ⟨rfl, _, rfl⟩ := hnil
                    obtain rfl : pos = 0 := by omega
                    have HSE : Hid (S = []) := List.length_eq_zero_iff.1 hS0
                    have H6 : Hid ((wr.alloc (.cells #[.int .i64 (x : Int)] 3)).ownsRow wr.heap.size 3 1 (.slice none 0 0) 0 []) := HN1.out.alloc _
                    rw [hS0]
                    go_wp2_with (at_builtin; refine wpList_append_own _ rfl _ _ 42 rfl wr.heap.size 3 i0 (.int .i64 0) 1 8 Tryd.underlying42 hi hz0 hz1 hz2 rfl (by decide) _ _ _ rfl H6.out ⟨wr.heap.size, 0, none⟩ 1 1 [.int .i64 (x : Int)] rfl rfl (one_cell wr _ 3) (by intro u hu; simp at hu; subst hu; rfl) (by unfold maxLen; omega) (by omega) (by simp) ?_)
                    intro v8 w8 hown8 hgrow8 _
                    have B8 : Below wr.heap.size wr w8 := Below.grown ((Below.refl _ _).alloc (Nat.le_refl _) _) hgrow8 (by simp) fun k hk => by cases hk
                    have R1 : Hid (w8.ownsRow wr.heap.size 3 1 v8 1 [.int .i64 (x : Int)]) := hown8
                    have R8 : Hid (w8.ownsRow wr.heap.size 3 1 v8 (S.length + 1) (intsV (insAt S 0 x))) := by
                      show World.ownsRow _ _ _ _ _ _ _
                      rw [insAt_V, HSE.out]
                      exact R1.out
                    clear hown8
                    have hsz8 := B8.size
                    have HO8 : Hid ((w8.alloc (.cells #[.int .i64 (x : Int)] 3)).ownsRow w.heap.size 3 1 (.slice oa q oc) q (intsV out)) := (row_below HRO.out B8).alloc _
                    clear hgrow8
                    go_wp2_with (at_builtin; first | (refine wpList_append_none rfl _ _ 42 rfl wr.heap.size 3 i0 1 Tryd.underlying42 hi _ 1 _ rfl R1.out rfl ?_) | (refine wpList_append_lies _ rfl _ _ 42 rfl w.heap.size 3 i0 (.int .i64 0) 1 8 Tryd.underlying42 hi hz0 hz1 hz2 rfl (by decide) _ _ _ rfl HO8.out ⟨w8.heap.size, 0, none⟩ 1 1 [.int .i64 (x : Int)] rfl rfl (one_cell w8 _ 3) (by intro u hu; simp at hu; subst hu; rfl) (by decide) (by unfold maxLen; omega) (by omega) (by simp; omega) (w8.heap.size + 1) (by simp) ?_))
                    intro g c w9 hown9 hgrow9 hor9 hlt9
                    have F : Hid (RfAt seed N (l.map fun s => s.data.toList) w (.slice (some ⟨g, 0, none⟩) (q + 1) c) v8 (q + 1) (H ++ [(t.data.toList, x)]) (out ++ [x]) (insAt S 0 x) w9) := KEEP.out w8 w9 v8 g c R8.out B8 hown9 hgrow9 hor9
                    clear hown9 hgrow9 hor9 hlt9 KEEP
                    go_wp2_with fail
                    exact ⟨⟨q + 1, H ++ [(t.data.toList, x)], out ++ [x], insAt S 0 x, by omega, by go_num, F.out⟩, by simp only [intOf]; omega⟩
                  · simp only [Value.slice.injEq] at hsome
                    obtain ⟨rfl, _, rfl⟩ := hsome
                    have HC : Hid (∀ j u, (intsV S)[j]? = some u → wr.cell? ((⟨g0, 0, none⟩ : Addr).add j) = some u) := HRT.out.cells rfl
                    have hg0w : g0 < wr.heap.size := (Array.getElem?_eq_some_iff.1 hgg).1
                    have hmx' : tc ≤ 9223372036854775807 := by simpa [maxLen] using hmx
                    clear hgg hmx
                    have HL1 : Hid ((intsV (S.take pos)).length = pos * 1) := by show _ = _; rw [intsV_len]; simp; omega
                    have HC1 : Hid (∀ j u, (intsV (S.take pos))[j]? = some u → wr.cell? ((⟨g0, 0, none⟩ : Addr).add j) = some u) := fun j u hu => HC.out j u (intsV_take hu)
                    have hposc : pos ≤ tc := by omega
                    go_wp2_with (at_builtin; refine wpList_append_own _ rfl _ _ 42 rfl wr.heap.size 3 i0 (.int .i64 0) 1 8 Tryd.underlying42 hi hz0 hz1 hz2 rfl (by decide) _ _ _ rfl HN1.out ⟨g0, 0, none⟩ pos tc (intsV (S.take pos)) rfl HL1.out HC1.out (intsV_one _) (by unfold maxLen; omega) (by omega) (Nat.le_refl _) ?_)
                    intro v6 w6 hown6 hgrow6 _
                    have B6 : Below wr.heap.size wr w6 := Below.grown (Below.refl _ _) hgrow6 (Nat.le_refl _) fun k hk => by cases hk
                    have R6 : Hid (w6.ownsRow wr.heap.size 3 1 v6 pos (intsV (S.take pos))) := hown6
                    have H6 : Hid ((w6.alloc (.cells #[.int .i64 (x : Int)] 3)).ownsRow wr.heap.size 3 1 v6 pos (intsV (S.take pos))) := hown6.alloc _
                    have hsz6 := B6.size
                    clear hown6 hgrow6
                    go_wp2_with (at_builtin; refine wpList_append_own _ rfl _ _ 42 rfl wr.heap.size 3 i0 (.int .i64 0) 1 8 Tryd.underlying42 hi hz0 hz1 hz2 rfl (by decide) _ _ _ rfl H6.out ⟨w6.heap.size, 0, none⟩ 1 1 [.int .i64 (x : Int)] rfl rfl (one_cell w6 _ 3) (by intro u hu; simp at hu; subst hu; rfl) (by unfold maxLen; omega) (by omega) (by simp; omega) ?_)
                    intro v7 w7 hown7 hgrow7 _
                    have B7 : Below wr.heap.size wr w7 := Below.grown (B6.alloc B6.size _) hgrow7 (by simp; omega) fun k hk => (R6.out.lt k hk).1
                    have R7 : Hid (w7.ownsRow wr.heap.size 3 1 v7 (pos + 1) (intsV (S.take pos) ++ [.int .i64 (x : Int)])) := hown7
                    have hsz7 := B7.size
                    clear hown7 hgrow7 H6
                    have HL3 : Hid ((intsV (S.drop pos)).length = (S.length - pos) * 1) := by show _ = _; rw [intsV_len]; simp
                    have HC3 : Hid (∀ j u, (intsV (S.drop pos))[j]? = some u → w7.cell? ((⟨g0, pos, none⟩ : Addr).add j) = some u) := fun j u hu => by
                      have h1 := HC.out (pos + j) u (intsV_drop hu)
                      rw [add_plain0, Nat.zero_add] at h1
                      rw [add_plain0, B7.cell (p := ⟨g0, pos + j, none⟩) hg0w]; exact h1
                    by_cases htp : tc = pos
                    · have hsp0 : S.length = pos := by omega
                      have HL0 : Hid ((intsV (S.drop pos)).length = 0 * 1) := by show _ = _; rw [HL3.out]; omega
                      have HNO2 : Hid (∀ (ad : Addr) (j : Nat) (u : Value), (intsV (S.drop pos))[j]? = some u → w7.cell? (ad.add j) = some u) := fun ad j u hu => by
                        rw [List.drop_of_length_le (by omega)] at hu; simp [intsV] at hu
                      go_wp2_with (at_builtin; go_loud (refine wpList_append_own _ rfl _ _ 42 rfl wr.heap.size 3 i0 (.int .i64 0) 1 8 Tryd.underlying42 hi hz0 hz1 hz2 rfl (by decide) _ _ _ rfl R7.out _ 0 0 (intsV (S.drop pos)) rfl HL0.out (HNO2.out _) (intsV_one _) (by unfold maxLen; omega) (by omega) hsz7 ?_))
                      intro v8 w8 hown8 hgrow8 _
                      have B8 : Below wr.heap.size wr w8 := Below.grown B7 hgrow8 (by omega) fun k hk => (R7.out.lt k hk).1
                      have R8 : Hid (w8.ownsRow wr.heap.size 3 1 v8 (S.length + 1) (intsV (insAt S pos x))) := by
                        show World.ownsRow _ _ _ _ _ _ _
                        rw [insAt_V]
                        have e8 : pos + 1 + (S.length - pos) = S.length + 1 := by omega
                        first | exact hown8 | (rw [e8] at hown8; exact hown8) | (rw [show S.length + 1 = pos + 1 by omega]; exact hown8) | (rw [show S.length + 1 = pos + 1 by omega]; simpa using hown8) | (rw [e8] at hown8; simpa using hown8)
                      have hsz8 := B8.size
                      have HO8 : Hid ((w8.alloc (.cells #[.int .i64 (x : Int)] 3)).ownsRow w.heap.size 3 1 (.slice oa q oc) q (intsV out)) := (row_below HRO.out B8).alloc _
                      clear hown8 hgrow8
                      go_wp2_with (at_builtin; refine wpList_append_lies _ rfl _ _ 42 rfl w.heap.size 3 i0 (.int .i64 0) 1 8 Tryd.underlying42 hi hz0 hz1 hz2 rfl (by decide) _ _ _ rfl HO8.out ⟨w8.heap.size, 0, none⟩ 1 1 [.int .i64 (x : Int)] rfl rfl (one_cell w8 _ 3) (by intro u hu; simp at hu; subst hu; rfl) (by decide) (by unfold maxLen; omega) (by omega) (by simp; omega) (w8.heap.size + 1) (by simp) ?_)
                      intro g c w9 hown9 hgrow9 hor9 hlt9
                      have F : Hid (RfAt seed N (l.map fun s => s.data.toList) w (.slice (some ⟨g, 0, none⟩) (q + 1) c) v8 (q + 1) (H ++ [(t.data.toList, x)]) (out ++ [x]) (insAt S pos x) w9) := KEEP.out w8 w9 v8 g c R8.out B8 hown9 hgrow9 hor9
                      clear hown9 hgrow9 hor9 hlt9 KEEP
                      go_wp2_with fail
                      exact ⟨⟨q + 1, H ++ [(t.data.toList, x)], out ++ [x], insAt S pos x, by omega, by go_num, F.out⟩, by simp only [intOf]; omega⟩
                    · go_wp2_with (at_builtin; go_loud (refine wpList_append_own _ rfl _ _ 42 rfl wr.heap.size 3 i0 (.int .i64 0) 1 8 Tryd.underlying42 hi hz0 hz1 hz2 rfl (by decide) _ _ _ rfl R7.out _ (S.length - pos) (tc - pos) (intsV (S.drop pos)) rfl HL3.out HC3.out (intsV_one _) (by unfold maxLen; omega) (by omega) hsz7 ?_))
                      intro v8 w8 hown8 hgrow8 _
                      have B8 : Below wr.heap.size wr w8 := Below.grown B7 hgrow8 (by omega) fun k hk => (R7.out.lt k hk).1
                      have R8 : Hid (w8.ownsRow wr.heap.size 3 1 v8 (S.length + 1) (intsV (insAt S pos x))) := by
                        show World.ownsRow _ _ _ _ _ _ _
                        rw [insAt_V]
                        have e8 : pos + 1 + (S.length - pos) = S.length + 1 := by omega
                        first | exact hown8 | (rw [e8] at hown8; exact hown8) | (rw [show S.length + 1 = pos + 1 by omega]; exact hown8) | (rw [show S.length + 1 = pos + 1 by omega]; simpa using hown8) | (rw [e8] at hown8; simpa using hown8)
                      have hsz8 := B8.size
                      have HO8 : Hid ((w8.alloc (.cells #[.int .i64 (x : Int)] 3)).ownsRow w.heap.size 3 1 (.slice oa q oc) q (intsV out)) := (row_below HRO.out B8).alloc _
                      clear hown8 hgrow8
                      go_wp2_with (at_builtin; refine wpList_append_lies _ rfl _ _ 42 rfl w.heap.size 3 i0 (.int .i64 0) 1 8 Tryd.underlying42 hi hz0 hz1 hz2 rfl (by decide) _ _ _ rfl HO8.out ⟨w8.heap.size, 0, none⟩ 1 1 [.int .i64 (x : Int)] rfl rfl (one_cell w8 _ 3) (by intro u hu; simp at hu; subst hu; rfl) (by decide) (by unfold maxLen; omega) (by omega) (by simp; omega) (w8.heap.size + 1) (by simp) ?_)
                      intro g c w9 hown9 hgrow9 hor9 hlt9
                      have F : Hid (RfAt seed N (l.map fun s => s.data.toList) w (.slice (some ⟨g, 0, none⟩) (q + 1) c) v8 (q + 1) (H ++ [(t.data.toList, x)]) (out ++ [x]) (insAt S pos x) w9) := KEEP.out w8 w9 v8 g c R8.out B8 hown9 hgrow9 hor9
                      clear hown9 hgrow9 hor9 hlt9 KEEP
                      go_wp2_with fail
                      exact ⟨⟨q + 1, H ++ [(t.data.toList, x)], out ++ [x], insAt S pos x, by omega, by go_num, F.out⟩, by simp only [intOf]; omega⟩
        · have hs0 : ¬ ((s : Int) < 0) := by omega
          have hs0' : (0 : Int) ≤ s := by omega
          have HRO : Hid (wr.ownsRow w.heap.size 3 1 (.slice oa p oc) p (intsV out)) := row_heap AT.out.ro hh
          have HRT : Hid (wr.ownsRow w.heap.size 3 1 (.slice ta S.length tc) S.length (intsV S)) := row_heap AT.out.rt hh
          have hsz := hBq.size
          have KEEP : Hid (∀ (g c : Nat) (w6 : World), w6.ownsRow w.heap.size 3 1 (.slice (some ⟨g, 0, none⟩) (p + 1) c) (p + 1) (intsV out ++ [.int .i64 (s : Int)]) → (wr.alloc (.cells #[.int .i64 (s : Int)] 3)).grownBy w6 (Value.slice oa p oc).ownBlock → ((Value.slice oa p oc).ownBlock = some g ∨ g = wr.heap.size + 1) → RfAt seed N (l.map fun s => s.data.toList) w (.slice (some ⟨g, 0, none⟩) (p + 1) c) (.slice ta S.length tc) (p + 1) H (out ++ [s]) S w6) := fun g c w6 hown hgr hor => by
            refine AT.out.old_step (by rw [List.getElem?_map, HT.out]; rfl) hlk hsN hown ?_ ?_ ?_
            · refine World.ownsRow.kept (HRT.out.alloc _) hgr ?_
              cases hr : (Value.slice ta S.length tc).ownBlock with
              | none => exact .inl rfl
              | some k => exact .inr fun e => AT.out.ap k e.symm hr
            · intro k hk e
              simp [Value.ownBlock] at hk
              subst hk
              rcases hor with h | h
              · exact AT.out.ap g h e
              · have := (HRT.out.lt g e).2; omega
            · exact Below.grown (hBq.alloc hBq.size _) hgr (by simp; omega) fun k hk => (HRO.out.lt k hk).1
          clear hh hlk
          rcases (by omega : (q : Int) < p ∨ ¬ (q : Int) < p) with hqc | hqc
          all_goals
            go_wp2_with (at_builtin; refine wpList_append_lies _ rfl _ _ 42 rfl w.heap.size 3 i0 (.int .i64 0) 1 8 Tryd.underlying42 hi hz0 hz1 hz2 rfl (by decide) _ _ _ rfl (HRO.out.alloc (.cells #[.int .i64 (s : Int)] 3)) ⟨wr.heap.size, 0, none⟩ 1 1 [.int .i64 (s : Int)] rfl rfl (one_cell wr _ 3) (by intro u hu; simp at hu; subst hu; rfl) (by decide) (by unfold maxLen; omega) (by omega) (by simp; omega) (wr.heap.size + 1) (by simp) ?_)
            intro g c w6 hown6 hgrow6 hor6 hlt6
            have F := Hid.out (p := _) (KEEP.out g c w6 hown6 hgrow6 hor6)
            have F' : Hid (RfAt seed N (l.map fun s => s.data.toList) w (.slice (some ⟨g, 0, none⟩) (p + 1) c) (.slice ta S.length tc) (p + 1) H (out ++ [s]) S w6) := F
            clear hown6 hgrow6 hor6 hlt6 KEEP F
            go_wp2_with fail
            exact ⟨⟨p + 1, H, out ++ [s], S, by omega, by go_num, F'.out⟩, by simp only [intOf]; omega⟩
    · obtain rfl : p = l.length := by omega
      have hend : A = some out := by
        rw [← HA.out, ← AT.out.eq, List.drop_of_length_le (by simp)]; rfl
      subst hend
      have FIN : Hid (SlEnd (some out) N l.length w.heap.size (.returned (.tuple #[.slice oa l.length oc, .int .i64 0])) wo) := ⟨_, rfl, by rw [AT.out.len]; exact AT.out.ro, AT.out.len, AT.out.low⟩
      clear AT
      go_wp2_with fail
      go_ret2
      exact ⟨hB, FIN.out⟩
end Go.Proofs.YtabipemlemppjaaDoor
