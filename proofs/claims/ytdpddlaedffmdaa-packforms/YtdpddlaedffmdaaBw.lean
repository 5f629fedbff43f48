/- The walk of PackBack: whatever the items: true; older memory is as it was. -/
import Derived.Test.YtdpddlaedffmdaaPg
import Derived.Test.YtdpddlaedffmdaaWw
namespace Go.Proofs.Ytdpddlaedffmdaa
open Go.RowKit
set_option linter.unusedVariables false
set_option linter.unusedSimpArgs false

theorem enc_len (i : It) (hi : i.ok) : i.enc.length ≤ i.s.size + 16 := by
  unfold It.enc
  split
  · have := vb_ten i.n hi.1; omega
  · split
    · split
      · rename_i h; have := isFx_bounds (fit_parts h).1; rw [be_length]; omega
      · simp
    · split
      · have := vb_ten i.s.size (by have := hi.2.2.1; omega); have := size_list i.s; simp only [List.length_append]; omega
      · split
        · have := size_list i.s; omega
        · split
          · rw [be_length]; omega
          · simp
theorem encs_split (l : List It) (i : Nat) : encs l = encs (l.take i) ++ encs (l.drop i) := by
  unfold encs; rw [← List.flatten_append, ← List.map_append, List.take_append_drop]
/-- A step of the reader over the whole. -/
theorem whole_step (l : List It) (s : ByteArray) (hs : s.data.toList = encs l) (i : Nat) (h : i < l.length) (hi : (l[i]).ok) :
    (gotS l[i] s (encs (l.take i)).length 0).1 ∧ (gotS l[i] s (encs (l.take i)).length 0).2 = ((encs (l.take (i + 1))).length, 0) := by
  have e := encs_split l i
  have hd : s.data.toList.drop (encs (l.take i)).length = l[i].enc ++ encs (l.drop (i + 1)) := by
    rw [hs, e, List.drop_left, encs_drop l i h]
  have ha : (encs (l.take i)).length ≤ s.size := by rw [← size_list, hs, e, List.length_append]; omega
  have := got_whole l[i] hi s _ _ ha hd
  rw [encs_take l i h, List.length_append]; exact this
theorem Rd.step {B : Nat} {w w' : World} {r : Nat} (hB : B ≤ w.heap.size) (hr : B ≤ r) (hk : Kept (fun k => k = r) w w') : Below B w w' := hk.below hB (fun k e => by have e : k = r := e; omega)
/-- All but the last byte. -/
theorem cut_last (s : ByteArray) (L : List UInt8) (h : s.data.toList = L) (hz : ¬ s.size = 0) : ∃ z, (s.extract 0 (L.length - 1)).data.toList ++ [z] = L ∧ (s.extract 0 (L.length - 1)).size ≤ s.size := by
  have hn : L ≠ [] := by
    intro e; rw [e] at h; exact hz (by rw [← size_list, h]; rfl)
  refine ⟨L.getLast hn, ?_, ?_⟩
  · have e := ext_list s 0 (L.length - 1)
    rw [Nat.zero_add, List.drop_zero, h] at e
    rw [e, ← List.dropLast_eq_take, List.dropLast_concat_getLast hn]
  · rw [ByteArray.size_extract]; omega
set_option maxHeartbeats 4000000 in
set_option maxRecDepth 100000 in
/-- The walk, at some items. -/
theorem packBack_some (b0 off cap : Nat) (l : List It) (hl : l.length ≤ 140737488351232) (w : World) (hI : Items w b0 off l) (hb : b0 < w.heap.size) : Calls Try.prog 5 #[.slice (some ⟨b0, off, none⟩) l.length cap] w fun e w' => e = .returned (.bool true) ∧ Below w.heap.size w w' := by
  go_enter Try.func5, Try.ntmps5
  go_wp2_with fail
  refine (awake_any _).mono ?_
  rintro e w1 ⟨rfl, hB1⟩
  have HB1 : Hid (Below w.heap.size w w1) := hB1
  clear hB1
  go_wp2_with fail
  have hI1 : Items w1 b0 off l := hI.below HB1.out hb
  refine (light_any b0 off cap l hl _ hI1 (Nat.lt_of_lt_of_le hb HB1.out.size)).mono ?_
  rintro e w2 ⟨⟨lg, rfl, hlg⟩, hb2⟩
  have HB2 : Hid (Below w.heap.size w w2) := bstep HB1.out hb2
  have HG : Hid (lg = true → wt l ≤ 1048576) := hlg
  clear hb2 HB1 hI1 hlg
  cases lg
  · go_wp2
    go_ret
    exact ⟨rfl, HB2.out⟩
  have HW : Hid (wt l ≤ 1048576) := HG.out rfl
  clear HG
  go_wp2_with fail
  refine (new_any _).mono ?_
  rintro e w3 ⟨rfl, rfl⟩
  have HT : Hid (Wr w.heap.size (w2.alloc (.cells #[.slice none 0 0, .int .i64 0] 71)) w2.heap.size (.slice none 0 0) [] 0) := Wr.new HB2.out.size 71
  have HB4 : Hid (Below w.heap.size w (w2.alloc (.cells #[.slice none 0 0, .int .i64 0] 71))) := HB2.out.alloc HB2.out.size _
  have hbk : w.heap.size ≤ w2.heap.size := HB2.out.size
  go_wp2_with fail
  generalize (w2.alloc (.cells #[.slice none 0 0, .int .i64 0] 71)) = W4 at *
  clear HB2
  generalize w2.heap.size = bw at *
  go_loopw [5, 6] (fun y z wr => ∃ i : Nat, y = .int .i64 i ∧ i ≤ l.length ∧ ∃ (v : Value), (encs (l.take i)).length ≤ 31 * wt (l.take i) ∧ Wr w.heap.size wr bw v (encs (l.take i)) 0 ∧ Below w.heap.size w wr) (fun y _ _ => (l.length - intOf y).toNat)
  case atStart => exact ⟨0, rfl, by omega, _, by simp [encs], HT.out, HB4.out⟩
  case round =>
    obtain ⟨i, rfl, hi, v1, hln, hT, hB⟩ := hrel
    have HLN : Hid ((encs (l.take i)).length ≤ 31 * wt (l.take i)) := hln
    clear hln HT HB4
    by_cases hlt : i < l.length
    · obtain ⟨hit, hok⟩ := (hI.below hB hb) i hlt
      have hw1 : wt (l.take (i + 1)) = wt (l.take i) + (1 + l[i].s.size / 16) := by
        rw [List.take_succ_eq_append_getElem hlt]; exact wt_snoc _ _
      have hwl : wt (l.take (i + 1)) ≤ 1048576 := Nat.le_trans (wt_take l (i + 1)) HW.out
      have hel := enc_len l[i] hok
      have he1 := encs_take l i hlt
      have HTL : Hid ((encs (l.take (i + 1))).length ≤ 31 * wt (l.take (i + 1))) := by
        show _ ≤ _
        rw [he1, List.length_append]; have := HLN.out; omega
      have hs1 : (encs (l.take i)).length + l[i].s.size + 26 ≤ 140737488355328 := by have := HLN.out; omega
      have CA : Hid (Calls Try.prog 14 #[.pointer (some ⟨bw, 0, none⟩), .agg #[.bool l[i].o, .int .i64 l[i].kd, .int .u64 l[i].n, .int .i64 l[i].k, .string l[i].s, .int .u64 (hiOf l[i].x), .int .u64 (loOf l[i].x)]] wr fun e w' => e = .returned (.bool true) ∧ Left w.heap.size bw v1 wr (encs (l.take (i + 1))) 0 w') := by
        rw [he1]; exact put_any hT hB.size l[i] hok hs1
      obtain ⟨c0, c1, c2, c3, c4, c5, c6⟩ := hit
      have HTT : Hid (Wr w.heap.size wr bw v1 (encs (l.take i)) 0) := hT
      have HBB : Hid (Below w.heap.size w wr) := hB
      clear hT hB hw1 hwl hs1 HLN hel he1 hok
      generalize hI0 : l[i] = I at *
      clear hI0
      go_wp2_with fail
      refine CA.out.mono ?_
      rintro e w5 ⟨rfl, hL⟩
      have hB5 := HBB.out.trans (hL.below HTT.out HBB.out.size)
      obtain ⟨v3, T3, -, -⟩ := hL
      go_wp2
      exact ⟨⟨i + 1, rfl, by omega, _, HTL.out, T3, hB5⟩, by simp only [intOf]; omega⟩
    · obtain rfl : i = l.length := by omega
      rw [List.take_length] at hT HLN
      have hlen : (encs l).length ≤ 140737488351232 := by have := HLN.out; have := HW.out; omega
      obtain ⟨s, hs⟩ : ∃ s : ByteArray, s = ⟨(encs l).toArray⟩ := ⟨_, rfl⟩
      have HSL : Hid (s.data.toList = encs l) := by show _ = _; rw [hs]
      have hss : s.size = (encs l).length := by rw [← size_list, HSL.out]
      have hsz : s.size ≤ 140737488351232 := by omega
      have CO : Hid (Calls Try.prog 15 #[.pointer (some ⟨bw, 0, none⟩)] wr fun e w' => e = .returned (.tuple #[.string s, .int .i64 0]) ∧ ∃ n, w' = wr.drewN n) := by
        have := out_any hT; rw [show outR (encs l) 0 = s by unfold outR; rw [if_pos rfl, hs]] at this; exact this
      have HTT : Hid (Wr w.heap.size wr bw v1 (encs l) 0) := hT
      have HBB : Hid (Below w.heap.size w wr) := hB
      clear hT hB HLN hs hlen
      go_wp2_with fail
      refine CO.out.mono ?_
      rintro e w5 ⟨rfl, nd, rfl⟩
      have HT5 : Hid (Wr w.heap.size (wr.drewN nd) bw v1 (encs l) 0) := HTT.out
      have HB5 : Hid (Below w.heap.size w (wr.drewN nd)) := ⟨HBB.out.os, HBB.out.tape, HBB.out.output, HBB.out.size, HBB.out.block⟩
      clear HTT HBB CO
      generalize wr.drewN nd = w5 at *
      go_wp2_with fail
      refine (open_any s _).mono ?_
      rintro e w6 ⟨rfl, rfl⟩
      have hb6 : Below w5.heap.size w5 (w5.alloc (.cells #[.string s, .int .i64 0, .int .i64 0] 75)) := (Below.refl _ _).alloc (Nat.le_refl _) _
      have HT6 : Hid (Wr w.heap.size (w5.alloc (.cells #[.string s, .int .i64 0, .int .i64 0] 75)) bw v1 (encs l) 0) := HT5.out.below hb6
      have HB6 : Hid (Below w.heap.size w (w5.alloc (.cells #[.string s, .int .i64 0, .int .i64 0] 75))) := HB5.out.alloc HB5.out.size _
      have HR6 : Hid (Rd (w5.alloc (.cells #[.string s, .int .i64 0, .int .i64 0] 75)) w5.heap.size s 0 0) := Rd.new s w5 75
      have hr5 : w.heap.size ≤ w5.heap.size := HB5.out.size
      clear hb6 HT5 HB5
      generalize w5.alloc (.cells #[.string s, .int .i64 0, .int .i64 0] 75) = w6 at *
      generalize w5.heap.size = rb at *
      go_wp2_with fail
      refine (len_any HT6.out).mono ?_
      rintro e w7 ⟨rfl, rfl⟩
      clear HT6
      go_wp2
      go_loopw [10, 11] (fun y z wr => ∃ i : Nat, y = .int .i64 i ∧ i ≤ l.length ∧ Rd wr rb s (encs (l.take i)).length 0 ∧ Below w.heap.size w wr) (fun y _ _ => (l.length - intOf y).toNat)
      case atStart => exact ⟨0, rfl, by omega, by simpa [encs] using HR6.out, HB6.out⟩
      case round =>
        obtain ⟨i, rfl, hi2, hR, hB⟩ := hrel
        clear HR6 HB6
        by_cases hlt2 : i < l.length
        · obtain ⟨hit, hok⟩ := (hI.below hB hb) i hlt2
          have hst := whole_step l s HSL.out i hlt2 hok
          have CA : Hid (Calls Try.prog 17 #[.pointer (some ⟨rb, 0, none⟩), .agg #[.bool l[i].o, .int .i64 l[i].kd, .int .u64 l[i].n, .int .i64 l[i].k, .string l[i].s, .int .u64 (hiOf l[i].x), .int .u64 (loOf l[i].x)]] wr fun e w' => e = .returned (.bool true) ∧ Rd w' rb s (encs (l.take (i + 1))).length 0 ∧ Kept (fun k => k = rb) wr w') := by
            refine (got_any hR hsz l[i] hok).mono ?_
            rintro e w' ⟨r, rfl, hr, h2, h3⟩
            rw [hst.2] at h2
            rw [hr hst.1]
            exact ⟨rfl, h2, h3⟩
          obtain ⟨c0, c1, c2, c3, c4, c5, c6⟩ := hit
          have HBB : Hid (Below w.heap.size w wr) := hB
          clear hR hB hok hst
          generalize hI0 : l[i] = I at *
          clear hI0
          go_wp2_with fail
          refine CA.out.mono ?_
          rintro e w8 ⟨rfl, hR8, hk8⟩
          have hB8 := HBB.out.trans (Rd.step HBB.out.size hr5 hk8)
          go_wp2
          exact ⟨⟨i + 1, rfl, by omega, hR8, hB8⟩, by simp only [intOf]; omega⟩
        · obtain rfl : i = l.length := by omega
          rw [List.take_length, ← hss] at hR
          have HR7 : Hid (Rd wr rb s s.size 0) := hR
          have HB7 : Hid (Below w.heap.size w wr) := hB
          clear hR hB
          go_wp2_with fail
          refine (fault_any HR7.out).mono ?_
          rintro e w8 ⟨rfl, n8, rfl⟩
          rw [show faultAt s.size 0 = 0 by unfold faultAt; rw [if_pos rfl]]
          have HR8 : Hid (Rd (wr.drewN n8) rb s s.size 0) := HR7.out
          have HB8 : Hid (Below w.heap.size w (wr.drewN n8)) := ⟨HB7.out.os, HB7.out.tape, HB7.out.output, HB7.out.size, HB7.out.block⟩
          clear HR7 HB7
          generalize wr.drewN n8 = w8 at *
          go_wp2_with fail
          refine (at_any HR8.out).mono ?_
          rintro e w9 ⟨rfl, rfl⟩
          go_wp2_with fail
          refine (end_any HR8.out hsz).mono ?_
          rintro e w10 ⟨rfl, n10, rfl⟩
          rw [show endR s s.size 0 = 0 by unfold endR; rw [if_neg (by omega)]]
          have HB10 : Hid (Below w.heap.size w (w9.drewN n10)) := ⟨HB8.out.os, HB8.out.tape, HB8.out.output, HB8.out.size, HB8.out.block⟩
          clear HR8 HB8
          generalize w9.drewN n10 = w10 at *
          by_cases hz : s.size = 0
          · go_wp2
            go_ret
            exact ⟨rfl, HB10.out⟩
          · go_wp2_with fail
            obtain ⟨z, hcut, hs2⟩ := cut_last s (encs l) HSL.out hz
            generalize s.extract 0 ((encs l).length - 1) = s2 at *
            have hsz2 : s2.size ≤ 140737488351232 := by omega
            refine (open_any s2 _).mono ?_
            rintro e w11 ⟨rfl, rfl⟩
            have HB11 : Hid (Below w.heap.size w (w10.alloc (.cells #[.string s2, .int .i64 0, .int .i64 0] 75))) := HB10.out.alloc HB10.out.size _
            have HR11 : Hid (Rd (w10.alloc (.cells #[.string s2, .int .i64 0, .int .i64 0] 75)) w10.heap.size s2 0 0) := Rd.new s2 w10 75
            have hq5 : w.heap.size ≤ w10.heap.size := HB10.out.size
            have HCT : Hid (s2.data.toList ++ [z] = encs l) := hcut
            clear HB10 hcut hs2 HSL hss hsz hr5
            go_wp2
            generalize w10.alloc (.cells #[.string s2, .int .i64 0, .int .i64 0] 75) = w11 at *
            generalize w10.heap.size = qb at *
            go_loopw [15] (fun y wr => ∃ i : Nat, y = .int .i64 i ∧ i ≤ l.length ∧ ∃ (a : Nat) (f : Int), Rd wr qb s2 a f ∧ (f = 3 ∨ (f = 0 ∧ s2.data.toList.drop a ++ [z] = encs (l.drop i))) ∧ Below w.heap.size w wr) (fun y _ => (l.length - intOf y).toNat)
            case atStart => exact ⟨0, rfl, by omega, 0, 0, HR11.out, .inr ⟨rfl, by simpa using HCT.out⟩, HB11.out⟩
            case round =>
              obtain ⟨i, rfl, hi3, a, f, hR, hF, hB⟩ := hrel
              clear HR11 HB11 HCT
              by_cases hlt3 : i < l.length
              · obtain ⟨hit, hok⟩ := (hI.below hB hb) i hlt3
                have CA : Hid (Calls Try.prog 17 #[.pointer (some ⟨qb, 0, none⟩), .agg #[.bool l[i].o, .int .i64 l[i].kd, .int .u64 l[i].n, .int .i64 l[i].k, .string l[i].s, .int .u64 (hiOf l[i].x), .int .u64 (loOf l[i].x)]] wr fun e w' => ∃ r : Bool, e = .returned (.bool r) ∧ ((gotS l[i] s2 a f).1 → r = true) ∧ Rd w' qb s2 (gotS l[i] s2 a f).2.1 (gotS l[i] s2 a f).2.2 ∧ Kept (fun k => k = qb) wr w') := got_any hR hsz2 l[i] hok
                have HNF : Hid ((gotS l[i] s2 a f).2.2 = 3 ∨ ((gotS l[i] s2 a f).2.2 = 0 ∧ s2.data.toList.drop (gotS l[i] s2 a f).2.1 ++ [z] = encs (l.drop (i + 1)))) := by
                  show _ ∨ _
                  rcases hF with rfl | ⟨rfl, hd⟩
                  · exact .inl (got_dead _ _ _ _ (by decide))
                  · rw [encs_drop l i hlt3] at hd
                    exact cut_step _ hok _ _ _ _ hR.1.2.2.2 hd
                obtain ⟨c0, c1, c2, c3, c4, c5, c6⟩ := hit
                have HBB : Hid (Below w.heap.size w wr) := hB
                clear hR hB hok hF
                generalize hI0 : l[i] = I at *
                clear hI0
                generalize gotS I s2 a f = GG at *
                go_wp2_with fail
                refine CA.out.mono ?_
                rintro e w12 ⟨r, rfl, -, hR12, hk12⟩
                have hB12 := HBB.out.trans (Rd.step HBB.out.size hq5 hk12)
                go_wp2
                exact ⟨⟨i + 1, rfl, by omega, _, _, hR12, HNF.out, hB12⟩, by simp only [intOf]; omega⟩
              · obtain rfl : i = l.length := by omega
                have hf3 : f = 3 := by
                  rcases hF with h | ⟨_, h⟩
                  · exact h
                  · rw [List.drop_length] at h; simp [encs] at h
                subst hf3
                have CE : Hid (Calls Try.prog 20 #[.pointer (some ⟨qb, 0, none⟩)] wr fun e w' => e = .returned (.int .i64 3) ∧ ∃ n, w' = wr.drewN n) := by
                  have := end_any hR hsz2; rw [show endR s2 a 3 = 3 by unfold endR; rw [if_neg (by simp)]] at this; exact this
                have HBB : Hid (Below w.heap.size w wr) := hB
                clear hR hB hF
                go_wp2_with fail
                refine CE.out.mono ?_
                rintro e w12 ⟨rfl, n12, rfl⟩
                have hB12 : Below w.heap.size w (wr.drewN n12) := ⟨HBB.out.os, HBB.out.tape, HBB.out.output, HBB.out.size, HBB.out.block⟩
                go_wp2
                go_ret
                exact ⟨rfl, hB12⟩
set_option maxHeartbeats 4000000 in
set_option maxRecDepth 100000 in
/-- The walk, at no item. -/
theorem packBack_empty (ad : Option Addr) (cap : Nat) (w : World) : Calls Try.prog 5 #[.slice ad 0 cap] w fun e w' => e = .returned (.bool true) ∧ Below w.heap.size w w' := by
  obtain ⟨s, hs⟩ : ∃ s : ByteArray, s = ⟨#[]⟩ := ⟨_, rfl⟩
  have hss : s.size = 0 := by rw [hs]; rfl
  have HO : Hid (outR [] 0 = s) := by show _ = _; unfold outR; rw [if_pos rfl, hs]
  clear hs
  go_enter Try.func5, Try.ntmps5
  go_wp2_with fail
  refine (awake_any _).mono ?_
  rintro e w1 ⟨rfl, hB1⟩
  have HB1 : Hid (Below w.heap.size w w1) := hB1
  clear hB1
  go_wp2_with fail
  refine (light_nil ad cap _).mono ?_
  rintro e w2 ⟨rfl, hb2⟩
  have HB2 : Hid (Below w.heap.size w w2) := bstep HB1.out hb2
  clear hb2 HB1
  go_wp2_with fail
  refine (new_any _).mono ?_
  rintro e w3 ⟨rfl, rfl⟩
  have HT : Hid (Wr w.heap.size (w2.alloc (.cells #[.slice none 0 0, .int .i64 0] 71)) w2.heap.size (.slice none 0 0) [] 0) := Wr.new HB2.out.size 71
  have HB4 : Hid (Below w.heap.size w (w2.alloc (.cells #[.slice none 0 0, .int .i64 0] 71))) := HB2.out.alloc HB2.out.size _
  go_wp2_with fail
  generalize (w2.alloc (.cells #[.slice none 0 0, .int .i64 0] 71)) = W4 at *
  clear HB2
  generalize w2.heap.size = bw at *
  go_loopw [5] (fun y wr => y = .int .i64 0 ∧ Wr w.heap.size wr bw (.slice none 0 0) [] 0 ∧ Below w.heap.size w wr) (fun _ _ => 0)
  case atStart => exact ⟨rfl, HT.out, HB4.out⟩
  case round =>
    obtain ⟨rfl, hT, hB⟩ := hrel
    clear HT HB4
    have CO : Hid (Calls Try.prog 15 #[.pointer (some ⟨bw, 0, none⟩)] wr fun e w' => e = .returned (.tuple #[.string s, .int .i64 0]) ∧ ∃ n, w' = wr.drewN n) := by
      have := out_any hT; rw [HO.out] at this; exact this
    have HTT : Hid (Wr w.heap.size wr bw (.slice none 0 0) [] 0) := hT
    have HBB : Hid (Below w.heap.size w wr) := hB
    clear hT hB HO
    go_wp2_with fail
    refine CO.out.mono ?_
    rintro e w5 ⟨rfl, nd, rfl⟩
    have HT5 : Hid (Wr w.heap.size (wr.drewN nd) bw (.slice none 0 0) [] 0) := HTT.out
    have HB5 : Hid (Below w.heap.size w (wr.drewN nd)) := ⟨HBB.out.os, HBB.out.tape, HBB.out.output, HBB.out.size, HBB.out.block⟩
    clear HTT HBB CO
    generalize wr.drewN nd = w5 at *
    go_wp2_with fail
    refine (open_any s _).mono ?_
    rintro e w6 ⟨rfl, rfl⟩
    have hb6 : Below w5.heap.size w5 (w5.alloc (.cells #[.string s, .int .i64 0, .int .i64 0] 75)) := (Below.refl _ _).alloc (Nat.le_refl _) _
    have HT6 : Hid (Wr w.heap.size (w5.alloc (.cells #[.string s, .int .i64 0, .int .i64 0] 75)) bw (.slice none 0 0) [] 0) := HT5.out.below hb6
    have HB6 : Hid (Below w.heap.size w (w5.alloc (.cells #[.string s, .int .i64 0, .int .i64 0] 75))) := HB5.out.alloc HB5.out.size _
    have HR6 : Hid (Rd (w5.alloc (.cells #[.string s, .int .i64 0, .int .i64 0] 75)) w5.heap.size s 0 0) := Rd.new s w5 75
    clear hb6 HT5 HB5
    generalize w5.alloc (.cells #[.string s, .int .i64 0, .int .i64 0] 75) = w6 at *
    generalize w5.heap.size = rb at *
    go_wp2_with fail
    refine (len_any HT6.out).mono ?_
    rintro e w7 ⟨rfl, rfl⟩
    clear HT6
    go_wp2
    go_loopw [10] (fun y wr => y = .int .i64 0 ∧ Rd wr rb s 0 0 ∧ Below w.heap.size w wr) (fun _ _ => 0)
    case atStart => exact ⟨rfl, HR6.out, HB6.out⟩
    case round =>
      obtain ⟨rfl, hR, hB⟩ := hrel
      have HR7 : Hid (Rd wr rb s 0 0) := hR
      have HB7 : Hid (Below w.heap.size w wr) := hB
      clear hR hB HR6 HB6
      go_wp2_with fail
      refine (fault_any HR7.out).mono ?_
      rintro e w8 ⟨rfl, n8, rfl⟩
      rw [show faultAt 0 0 = 0 by unfold faultAt; rw [if_pos rfl]]
      have HR8 : Hid (Rd (wr.drewN n8) rb s 0 0) := HR7.out
      have HB8 : Hid (Below w.heap.size w (wr.drewN n8)) := ⟨HB7.out.os, HB7.out.tape, HB7.out.output, HB7.out.size, HB7.out.block⟩
      clear HR7 HB7
      generalize wr.drewN n8 = w8 at *
      go_wp2_with fail
      refine (at_any HR8.out).mono ?_
      rintro e w9 ⟨rfl, rfl⟩
      go_wp2_with fail
      refine (end_any HR8.out (by omega)).mono ?_
      rintro e w10 ⟨rfl, n10, rfl⟩
      rw [show endR s 0 0 = 0 by unfold endR; rw [if_neg (by omega)]]
      have HB10 : Hid (Below w.heap.size w (w9.drewN n10)) := ⟨HB8.out.os, HB8.out.tape, HB8.out.output, HB8.out.size, HB8.out.block⟩
      clear HR8 HB8
      generalize w9.drewN n10 = w10 at *
      go_wp2
      go_ret
      exact ⟨rfl, HB10.out⟩
end Go.Proofs.Ytdpddlaedffmdaa
