/- ExactKeeps' walk. -/
import Derived.Test.YtkcjcidndckgbaaDoorKs
import Derived.Lib.ItoaMem
import Derived.Laws.Bits128
import Derived.Deep.CutRange
namespace Go.Proofs.YtkcjcidndckgbaaDoor
open Go.RowKit
set_option linter.unusedVariables false
set_option linter.unusedSimpArgs false

theorem Tab.below {w w' : World} (h : Tab w) (hb : Below w.heap.size w w') : Tab w' := by
  unfold Tab Lib.TabIs World.var? at *
  cases hg : Tryd.prog.globalNamed "internal/strconv.uint64pow10" with
  | none => simp [hg] at h
  | some g =>
    simp only [hg, Option.bind_some] at h ⊢
    have hlt : g < w.heap.size := by
      rcases Nat.lt_or_ge g w.heap.size with h' | h'
      · exact h'
      · rw [Array.getElem?_eq_none h'] at h; simp at h
    rw [hb.block g hlt]
    exact h
theorem i64_and12 (n : Int) : bits .and .i64 n 4095 = n % 4096 := by
  have h127 : (BitVec.ofInt 64 4095).toNat = 2 ^ 12 - 1 := by decide
  have key : (BitVec.ofInt 64 n &&& BitVec.ofInt 64 4095).toNat = (n % ((2 ^ 64 : Nat) : Int)).toNat % 2 ^ 12 := by
    rw [BitVec.toNat_and, BitVec.toNat_ofInt, h127, Nat.and_two_pow_sub_one_eq_mod]
  show IntKind.i64.wrap ((BitVec.ofInt 64 n &&& BitVec.ofInt 64 4095).toNat : Nat) = n % 4096
  rw [key, IntKind.wrap_i64]
  omega
theorem i64_and40 (n : Int) : bits .and .i64 n 1099511627775 = n % 1099511627776 := by
  have h127 : (BitVec.ofInt 64 1099511627775).toNat = 2 ^ 40 - 1 := by decide
  have key : (BitVec.ofInt 64 n &&& BitVec.ofInt 64 1099511627775).toNat = (n % ((2 ^ 64 : Nat) : Int)).toNat % 2 ^ 40 := by
    rw [BitVec.toNat_and, BitVec.toNat_ofInt, h127, Nat.and_two_pow_sub_one_eq_mod]
  show IntKind.i64.wrap ((BitVec.ofInt 64 n &&& BitVec.ofInt 64 1099511627775).toNat : Nat) = n % 1099511627776
  rw [key, IntKind.wrap_i64]
  omega
/-- A list of numbers that came in. -/
def IntRow (w : World) (v : Value) (xs : List Int) : Prop := ∃ ad cap, v = .slice ad xs.length cap ∧ (xs = [] ∨ ∃ b o, ad = some ⟨b, o, none⟩ ∧ ∀ i x, xs[i]? = some x → w.cell? ⟨b, o + i, none⟩ = some (.int .i64 x))
set_option maxHeartbeats 8000000 in
set_option maxRecDepth 100000 in
theorem keeps_cut (w : World) (most : Int) (ad : Option Addr) (tcap : Nat) (xs : List Int) (tail0 tail : ByteArray) (htl : (64 < tail0.size ∧ tail = tail0.extract 0 64) ∨ (tail0.size ≤ 64 ∧ tail = tail0)) (ht : tail.size ≤ 64) (hx : xs = [] ∨ ∃ b o, ad = some ⟨b, o, none⟩ ∧ ∀ i x, xs[i]? = some x → w.cell? ⟨b, o + i, none⟩ = some (.int .i64 x)) (hxl : xs.length * 8 ≤ 140737488351232) (hT : Tab w) :
    Calls Tryd.prog 3 #[.int .i64 most, .slice ad xs.length tcap, .string tail0] w fun e w' => e = .returned (.bool true) ∧ Below w.heap.size w w' := by
  have h12 := i64_and12 most
  obtain ⟨n, hn, hn2⟩ : ∃ n : Nat, n ≤ 4095 ∧ bits .and .i64 most 4095 = (n : Int) := ⟨(most % 4096).toNat, by omega, by rw [h12]; omega⟩
  have HT : Hid (∀ W, Below w.heap.size w W → Tab W) := fun W hW => hT.below hW
  have CA : Hid (Calls Tryd.prog 4 #[] w fun e w' => e = .returned (.bool true) ∧ Below w.heap.size w w') := awake_any w
  have CN : Hid (∀ W, Calls Tryd.prog 5 #[.int .i64 ((n : Int) + 1)] W fun e w' => ∃ q b r cap, e = .returned (.tuple #[.pointer (some ⟨q, 0, none⟩), .int .i64 0]) ∧ Hid (MapAt w' q b (n + 1) r cap ∧ cont r = [] ∧ Below W.heap.size W w' ∧ W.heap.size ≤ q ∧ W.heap.size ≤ b)) := fun W => by
    have h := newI_ok (n + 1) (by omega) (by omega) W
    rw [show ((n + 1 : Nat) : Int) = (n : Int) + 1 by omega] at h
    refine h.mono ?_
    rintro e w' ⟨q, b, r, cap, rfl, h1, h2, h3, h4, h5⟩
    exact ⟨q, b, r, cap, rfl, h1, h2, h3, h4, h5⟩
  obtain ⟨i0, hi, hz0, hz1, hz2⟩ := info_of info3
  have HX : Hid (xs = [] ∨ ∃ b o, ad = some ⟨b, o, none⟩ ∧ ∀ i x, xs[i]? = some x → w.cell? ⟨b, o + i, none⟩ = some (.int .i64 x)) := hx
  have hb1 : Hid (i0.bytes * (n + 1) ≤ 281474976710656) := by show _ ≤ _; rw [hz2]; omega
  have hb2 : Hid (n + 1 ≤ maxLen) := by show _ ≤ _; unfold maxLen; omega
  clear hx hT h12
  go_enter Tryd.func3, Tryd.ntmps3
  go_wp2_with fail
  refine CA.out.mono ?_
  rintro e w1 ⟨rfl, hb⟩
  have HB1 : Hid (Below w.heap.size w w1) := hb
  clear hb CA
  go_upto_if 25 with fail
  go_cut [2] from 23 to 27 (fun s W => s = .string tail ∧ W = w1)
  case first =>
    rcases htl with ⟨hl, he⟩ | ⟨hl, he⟩
    · have HE : Hid (tail = tail0.extract 0 64) := he
      have hl2 : 64 ≤ tail0.size := by omega
      clear he
      go_wp2_with fail
      go_meet
      exact ⟨by rw [HE.out], rfl⟩
    · subst he
      go_wp2_with fail
      go_meet
      exact ⟨rfl, rfl⟩
  case rest =>
    obtain ⟨rfl, rfl⟩ := hcut
    clear htl
    have CK : Hid (∀ W, Below w.heap.size w W → ∀ i : Nat, i < 10000 → Calls Tryd.prog 7 #[.int .i64 i, .string tail] W fun e w' => e = .returned (.string (keyB i tail)) ∧ Below W.heap.size W w') := fun W hW i hi => key_any i hi tail ht W (HT.out W hW)
    go_wp2_with fail
    refine (CN.out _).mono ?_
    rintro e w2 ⟨q, b0, r0, cap0, rfl, H2⟩
    clear CN HT
    go_wp2_with (at_make; refine wpList_make_full _ rfl _ _ 22 rfl w2.heap.size 3 i0 (.int .i64 0) 1 Tryd.underlying22 hi hz0 hz1 _ _ _ _ (n + 1) rfl rfl (by omega) (by omega) hb1.out hb2.out (Nat.le_refl _) ?_)
    intro w3 hown hgr
    have HK0 : Hid (KS tail w w3 q b0 w2.heap.size (n + 1) r0 cap0 (List.replicate (n + 1) none)) := by
      obtain ⟨h1, h2, h3, h4, h5⟩ := H2.out
      have hb : Below w2.heap.size w2 w3 := ⟨hgr.os, hgr.tape, hgr.output, hgr.size, fun k hk => hgr.block k hk (by simp)⟩
      have hq := h1.hd.lt
      have hbl := h1.row.lt
      have hs := HB1.out.size
      have hs2 := h3.size
      exact ⟨h1.below hb, RowOf.madeH hown, by simp, by rw [h2, cont_replicate], fun i x hx => by rw [List.getElem?_replicate] at hx; split at hx <;> simp at hx, (HB1.out.trans (h3.mono HB1.out.size)).trans (hb.mono (by omega)), by omega, by omega, by omega, by omega, by omega⟩
    generalize w2.heap.size = g at *
    have HL0 : Hid ((cont (List.replicate (n + 1) (none : Pl Int))).length = 0 ∧ ∀ j, 0 ≤ j → j ≤ n → (List.replicate (n + 1) (none : Pl Int))[j]? = some none) := ⟨by rw [cont_replicate]; rfl, fun j _ hj => by rw [List.getElem?_replicate, if_pos (by omega)]⟩
    clear hown hgr hi hz0 hz1 hz2 hb1 hb2 H2
    go_wp2_with fail
    go_loopw [12, 13] (fun a i wr => ∃ (k b cap : Nat) (r hs : List (Pl Int)), a = .int .i64 k ∧ i = .int .i64 k ∧ k ≤ n + 1 ∧ Hid (KS tail w wr q b g (n + 1) r cap hs) ∧ Hid ((cont hs).length = k ∧ ∀ j, k ≤ j → j ≤ n → hs[j]? = some none)) (fun _ i _ => n + 1 - (intOf i).toNat)
    case atStart => exact ⟨0, b0, cap0, r0, _, rfl, rfl, by omega, HK0, HL0⟩
    case round =>
      obtain ⟨k, b, cap, r, hs, rfl, rfl, hk, HK, HL⟩ := hrel
      clear HK0 HL0
      by_cases hkn : k ≤ n
      · have hnone := HL.out.2 k (Nat.le_refl _) hkn
        have HNO : Hid (hs[k]? = some none) := hnone
        have hgl := HK.out.row.lt
        have C1 : Hid (Calls Tryd.prog 7 #[.int .i64 k, .string tail] wr fun e w' => e = .returned (.string (keyB k tail)) ∧ Below wr.heap.size wr w') := CK.out wr HK.out.bel k (by omega)
        have C2 : Hid (∀ W, KS tail w W q b g (n + 1) r cap hs → Calls Tryd.prog 6 #[.pointer (some ⟨q, 0, none⟩), .string (keyB k tail), .int .i64 ((k : Int) + 1)] W fun e w' => e = .returned (.int .i64 0) ∧ w'.cell? ⟨g, k, none⟩ = some (.int .i64 0) ∧ w'.frozen? ⟨g, k, none⟩ = false ∧ ∃ b2 r2 cap2, Hid (KS tail w (w'.setCell ⟨g, k, none⟩ (.int .i64 ((k : Int) + 1))) q b2 g (n + 1) r2 cap2 (hs.set k (some (keyB k tail, (k : Int) + 1))))) := fun W h => put_ks h ht (by omega) HNO.out _ (by omega)
        have HL2 : Hid ((cont (hs.set k (some (keyB k tail, (k : Int) + 1)))).length = k + 1 ∧ ∀ j, k + 1 ≤ j → j ≤ n → (hs.set k (some (keyB k tail, (k : Int) + 1)))[j]? = some none) := ⟨by rw [(cont_lay _ HNO.out).length_eq, List.length_cons, HL.out.1], fun j h1 h2 => by rw [List.getElem?_set_ne (by omega)]; exact HL.out.2 j (by omega) h2⟩
        clear hnone HL HNO
        generalize keyB k tail = KB at *
        go_wp2_with fail
        refine C1.out.mono ?_
        rintro e w4 ⟨rfl, hb4⟩
        have HK4 : Hid (KS tail w w4 q b g (n + 1) r cap hs) := HK.out.below hb4
        clear hb4 C1 HK
        go_wp2_with fail
        refine (C2.out _ HK4.out).mono ?_
        rintro e w5 ⟨rfl, g0, f0, b2, r2, cap2, HK5⟩
        clear C2 HK4
        go_wp2_with fail
        exact ⟨⟨k + 1, b2, cap2, r2, _, by go_num, by go_num, by omega, HK5, HL2⟩, by simp only [intOf]; omega⟩
      · have HL2 : Hid ((cont hs).length = k) := HL.out.1
        clear HL
        go_wp2_with fail
        clear hkn
        go_loopw [12, 14] (fun a i wr => ∃ (p m b cap : Nat) (r hs : List (Pl Int)), a = .int .i64 m ∧ i = .int .i64 p ∧ p ≤ xs.length ∧ m ≤ n + 1 ∧ Hid (KS tail w wr q b g (n + 1) r cap hs) ∧ Hid ((cont hs).length = m)) (fun _ i _ => xs.length - (intOf i).toNat)
        case atStart => exact ⟨0, k, b, cap, r, hs, rfl, rfl, by omega, by omega, HK, HL2⟩
        case round =>
          clear HK HL2
          obtain ⟨p, m, b, cap, r, hs, rfl, rfl, hp, hm, HK, HL⟩ := hrel
          have hgl := HK.out.row.lt
          by_cases hpl : p < xs.length
          · obtain ⟨x, hx⟩ : ∃ x, xs[p]? = some x := ⟨xs[p], List.getElem?_eq_getElem hpl⟩
            rcases HX.out with hnil | ⟨tb, tof, rfl, hc⟩
            · rw [hnil] at hpl; simp at hpl
            have cx : wr.cell? ⟨tb, tof + p, none⟩ = some (.int .i64 x) := (World.cell?_of_block (HK.out.bel.block tb (World.block_lt_of_cell? w _ (hc p x hx)))).trans (hc p x hx)
            obtain ⟨y, hy⟩ : ∃ y : Nat, bits .and .i64 x 1099511627775 = (y : Int) := ⟨(x % 1099511627776).toNat, by rw [i64_and40]; omega⟩
            obtain ⟨kk, hkk, hkn⟩ : ∃ kk : Nat, ((y : Int) % ((n : Int) + 1)) = (kk : Int) ∧ kk ≤ n := ⟨y % (n + 1), by rw [show (n : Int) + 1 = ((n + 1 : Nat) : Int) by omega, Int.natCast_emod], by have := Nat.mod_lt y (show 0 < n + 1 by omega); omega⟩
            have C1 : Hid (Calls Tryd.prog 7 #[.int .i64 kk, .string tail] wr fun e w' => e = .returned (.string (keyB kk tail)) ∧ Below wr.heap.size wr w') := CK.out wr HK.out.bel kk (by omega)
            obtain ⟨z, hz⟩ : ∃ z, hs[kk]? = some z := ⟨hs[kk]'(by rw [HK.out.len]; omega), List.getElem?_eq_getElem _⟩
            have HZ : Hid (hs[kk]? = some z) := hz
            have HLE : Hid ((cont hs).length ≤ n + 1) := HK.out.le
            clear hz hc hx
            cases z with
            | none =>
              have g0 := HK.out.cell0 HZ.out
              have C2 : Hid (∀ W, KS tail w W q b g (n + 1) r cap hs → Calls Tryd.prog 6 #[.pointer (some ⟨q, 0, none⟩), .string (keyB kk tail), .int .i64 (5000 + (p : Int))] W fun e w' => e = .returned (.int .i64 0) ∧ w'.cell? ⟨g, kk, none⟩ = some (.int .i64 0) ∧ w'.frozen? ⟨g, kk, none⟩ = false ∧ ∃ b2 r2 cap2, Hid (KS tail w (w'.setCell ⟨g, kk, none⟩ (.int .i64 (5000 + (p : Int)))) q b2 g (n + 1) r2 cap2 (hs.set kk (some (keyB kk tail, 5000 + (p : Int)))))) := fun W h => put_ks h ht (by omega) HZ.out _ (by omega)
              have HL2 : Hid ((cont (hs.set kk (some (keyB kk tail, 5000 + (p : Int))))).length = m + 1) := by show _ = _; rw [(cont_lay _ HZ.out).length_eq, List.length_cons, HL.out]
              have hm2 : m + 1 ≤ n + 1 := by have := HK.out.room HZ.out; rw [HK.out.con.length_eq, HL.out] at this; omega
              clear HL HLE HZ
              generalize keyB kk tail = KB at *
              go_wp2_with fail
              refine C1.out.mono ?_
              rintro e w4 ⟨rfl, hb4⟩
              have HK4 : Hid (KS tail w w4 q b g (n + 1) r cap hs) := HK.out.below hb4
              clear hb4 C1 HK g0 cx
              go_wp2_with fail
              refine (C2.out _ HK4.out).mono ?_
              rintro e w5 ⟨rfl, g0, f0, b2, r2, cap2, HK5⟩
              clear C2 HK4
              go_wp2_with fail
              exact ⟨⟨p + 1, m + 1, b2, cap2, r2, _, by go_num, by go_num, by omega, by omega, HK5, HL2⟩, by simp only [intOf]; omega⟩
            | some yv =>
              obtain ⟨ky, v⟩ := yv
              obtain ⟨rfl, hv⟩ : ky = keyB kk tail ∧ v ≠ 0 := HK.out.key kk (ky, v) HZ.out
              have g0 := HK.out.cellv HZ.out
              have hv2 : (v == 0) = false := by simpa using hv
              have C2 : Hid (∀ W, KS tail w W q b g (n + 1) r cap hs → Calls Tryd.prog 8 #[.pointer (some ⟨q, 0, none⟩), .string (keyB kk tail)] W fun e w' => e = .returned (.tuple #[.int .i64 v, .bool true]) ∧ w'.cell? ⟨g, kk, none⟩ = some (.int .i64 v) ∧ w'.frozen? ⟨g, kk, none⟩ = false ∧ ∃ r2, Hid (KS tail w (w'.setCell ⟨g, kk, none⟩ (.int .i64 0)) q b g (n + 1) r2 cap (hs.set kk none))) := fun W h => drop_ks h ht (by omega) HZ.out
              have hmm : (cont (hs.set kk none)).length + 1 = m := by rw [← HL.out, (cont_take HZ.out).length_eq, List.length_cons]
              obtain ⟨m1, hm1⟩ : ∃ m1, m1 = (cont (hs.set kk none)).length := ⟨_, rfl⟩
              have HL2 : Hid ((cont (hs.set kk none)).length = m1) := hm1.symm
              rw [← hm1] at hmm
              clear HL HLE HZ hm1 hv
              generalize keyB kk tail = KB at *
              go_wp2_with fail
              refine C1.out.mono ?_
              rintro e w4 ⟨rfl, hb4⟩
              have HK4 : Hid (KS tail w w4 q b g (n + 1) r cap hs) := HK.out.below hb4
              clear hb4 C1 HK g0 cx
              go_wp2_with fail
              refine (C2.out _ HK4.out).mono ?_
              rintro e w5 ⟨rfl, g0, f0, r2, HK5⟩
              clear C2 HK4
              go_wp2_with fail
              exact ⟨⟨p + 1, m1, b, cap, r2, _, congrArg (Value.int .i64) (by omega), by go_num, by omega, by omega, HK5, HL2⟩, by simp only [intOf]; omega⟩
          · have e : p = xs.length := by omega
            subst e
            go_wp2_with fail
            go_loopw [18] (fun i wr => ∃ (j : Nat), i = .int .i64 j ∧ j ≤ n + 1 ∧ Hid (KS tail w wr q b g (n + 1) r cap hs)) (fun i _ => n + 1 - (intOf i).toNat)
            case atStart => exact ⟨0, rfl, by omega, HK⟩
            case round =>
              clear HK
              obtain ⟨j, rfl, hj, HK⟩ := hrel
              have hgl := HK.out.row.lt
              by_cases hjn : j ≤ n
              · have C1 : Hid (Calls Tryd.prog 7 #[.int .i64 j, .string tail] wr fun e w' => e = .returned (.string (keyB j tail)) ∧ Below wr.heap.size wr w') := CK.out wr HK.out.bel j (by omega)
                obtain ⟨z, hz⟩ : ∃ z, hs[j]? = some z := ⟨hs[j]'(by rw [HK.out.len]; omega), List.getElem?_eq_getElem _⟩
                have HZ : Hid (hs[j]? = some z) := hz
                clear hz
                cases z with
                | none =>
                  have C2 : Hid (∀ W, KS tail w W q b g (n + 1) r cap hs → Calls Tryd.prog 9 #[.pointer (some ⟨q, 0, none⟩), .string (keyB j tail)] W fun e w' => e = .returned (.tuple #[.int .i64 0, .bool false]) ∧ w'.cell? ⟨g, j, none⟩ = some (.int .i64 0) ∧ Hid (KS tail w w' q b g (n + 1) r cap hs)) := fun W h => get_ks_none h ht (by omega) HZ.out
                  clear HZ
                  generalize keyB j tail = KB at *
                  go_wp2_with fail
                  refine C1.out.mono ?_
                  rintro e w4 ⟨rfl, hb4⟩
                  have HK4 : Hid (KS tail w w4 q b g (n + 1) r cap hs) := HK.out.below hb4
                  clear hb4 C1 HK
                  go_wp2_with fail
                  refine (C2.out _ HK4.out).mono ?_
                  rintro e w5 ⟨rfl, g0, HK5⟩
                  clear C2 HK4
                  go_wp2_with fail
                  exact ⟨⟨j + 1, by go_num, by omega, HK5⟩, by simp only [intOf]; omega⟩
                | some yv =>
                  obtain ⟨ky, v⟩ := yv
                  obtain ⟨rfl, hv⟩ : ky = keyB j tail ∧ v ≠ 0 := HK.out.key j (ky, v) HZ.out
                  have hv2 : (v == 0) = false := by simpa using hv
                  have C2 : Hid (∀ W, KS tail w W q b g (n + 1) r cap hs → Calls Tryd.prog 9 #[.pointer (some ⟨q, 0, none⟩), .string (keyB j tail)] W fun e w' => e = .returned (.tuple #[.int .i64 v, .bool true]) ∧ w'.cell? ⟨g, j, none⟩ = some (.int .i64 v) ∧ Hid (KS tail w w' q b g (n + 1) r cap hs)) := fun W h => get_ks_some h ht (by omega) HZ.out
                  clear HZ
                  generalize keyB j tail = KB at *
                  go_wp2_with fail
                  refine C1.out.mono ?_
                  rintro e w4 ⟨rfl, hb4⟩
                  have HK4 : Hid (KS tail w w4 q b g (n + 1) r cap hs) := HK.out.below hb4
                  clear hb4 C1 HK
                  go_wp2_with fail
                  refine (C2.out _ HK4.out).mono ?_
                  rintro e w5 ⟨rfl, g0, HK5⟩
                  clear C2 HK4
                  go_wp2_with fail
                  · rename_i hh
                    simp [bne, hv2] at hh
                  · exact ⟨⟨j + 1, by go_num, by omega, HK5⟩, by simp only [intOf]; omega⟩
              · have e : j = n + 1 := by omega
                subst e
                by_cases hfull : m = n + 1
                · subst hfull
                  have C1 : Hid (Calls Tryd.prog 6 #[.pointer (some ⟨q, 0, none⟩), .string ⟨#[111, 110, 101, 32, 109, 111, 114, 101]⟩, .int .i64 1] wr fun e w' => e = .returned (.int .i64 120) ∧ Hid (KS tail w w' q b g (n + 1) r cap hs)) := more_full HK.out HL.out
                  have C2 : Hid (∀ W, KS tail w W q b g (n + 1) r cap hs → Calls Tryd.prog 10 #[.pointer (some ⟨q, 0, none⟩)] W fun e w' => e = .returned (.int .i64 ((n : Int) + 1)) ∧ w' = W) := fun W h => by
                    have := len_ks h
                    rw [HL.out, show ((n + 1 : Nat) : Int) = (n : Int) + 1 by omega] at this
                    exact this
                  clear HL HK
                  go_wp2_with fail
                  refine C1.out.mono ?_
                  rintro e w4 ⟨rfl, HK4⟩
                  go_wp2_with fail
                  refine (C2.out _ HK4.out).mono ?_
                  rintro e w5 ⟨rfl, rfl⟩
                  have HF : Hid (Below w.heap.size w w5) := HK4.out.bel
                  clear C1 C2 HK4
                  go_wp2_with fail
                  go_ret
                  exact ⟨rfl, HF.out⟩
                · have hne : ((m : Int) == (n : Int) + 1) = false := by simp; omega
                  have C1 : Hid (Calls Tryd.prog 6 #[.pointer (some ⟨q, 0, none⟩), .string ⟨#[111, 110, 101, 32, 109, 111, 114, 101]⟩, .int .i64 1] wr fun e w' => e = .returned (.int .i64 0) ∧ Below w.heap.size w w' ∧ Calls Tryd.prog 10 #[.pointer (some ⟨q, 0, none⟩)] w' fun e w'' => e = .returned (.int .i64 ((m : Int) + 1)) ∧ w'' = w') := by
                    have h := more_room HK.out (by rw [HL.out]; omega)
                    rw [HL.out] at h
                    exact h
                  clear HL HK
                  go_wp2_with fail
                  refine C1.out.mono ?_
                  rintro e w4 ⟨rfl, hb4, hc4⟩
                  have HF : Hid (Below w.heap.size w w4) := hb4
                  have C2 : Hid (Calls Tryd.prog 10 #[.pointer (some ⟨q, 0, none⟩)] w4 fun e w'' => e = .returned (.int .i64 ((m : Int) + 1)) ∧ w'' = w4) := hc4
                  clear C1 hb4 hc4
                  go_wp2_with fail
                  refine C2.out.mono ?_
                  rintro e w5 ⟨rfl, rfl⟩
                  clear C2
                  go_wp2_with fail
                  go_ret
                  exact ⟨rfl, HF.out⟩
end Go.Proofs.YtkcjcidndckgbaaDoor
