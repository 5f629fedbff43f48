/- Package disk: Load and New. -/
import Derived.Test.YtnpcnflfpmjgiaaDoorCg
namespace Go.Proofs.YtnpcnflfpmjgiaaDoor
open Go.RowKit
set_option linter.unusedVariables false
set_option linter.unusedSimpArgs false

theorem info9 : (Tryd.prog.info? 9).map (fun i => (i.zero, i.size, i.bytes)) = some (some (.string ⟨#[]⟩), 1, 16) := by kernel_rfl
theorem ownsRow_low {w : World} {B B' e z : Nat} {v : Value} {n : Nat} {xs : List Value} (h : w.ownsRow B e z v n xs) (hb : B' ≤ B) : w.ownsRow B' e z v n xs := by
  refine ⟨h.1, ?_⟩
  rcases h.2 with hn | ⟨g, cap, cur, rfl, hg, rest⟩
  · exact .inl hn
  · exact .inr ⟨g, cap, cur, rfl, Nat.le_trans hb hg, rest⟩
/-- A sector of an image. -/
def sec (s : ByteArray) (k : Nat) : ByteArray := s.extract (k * 512) ((k + 1) * 512)
def secs (s : ByteArray) (n : Nat) : List ByteArray := (List.range n).map (sec s)
theorem secs_length (s : ByteArray) (n : Nat) : (secs s n).length = n := by simp [secs]
theorem secs_succ (s : ByteArray) (n : Nat) : secs s (n + 1) = secs s n ++ [sec s n] := by simp [secs, List.range_succ]
theorem sec_size {s : ByteArray} {n k : Nat} (hs : s.size = n * 512) (hk : k < n) : (sec s k).size = 512 := by
  unfold sec; rw [ByteArray.size_extract, hs]; omega
theorem secs_size {s : ByteArray} {n : Nat} (hs : s.size = n * 512) : ∀ q ∈ secs s n, q.size = 512 := by
  intro q hq
  simp only [secs, List.mem_map, List.mem_range] at hq
  obtain ⟨k, hk, rfl⟩ := hq
  exact sec_size hs hk
/-- The row while it is filled. -/
def half (s : ByteArray) (n k : Nat) : List Value := strs (secs s k) ++ List.replicate (n - k) (.string ⟨#[]⟩)
theorem half_set (s : ByteArray) (n k : Nat) (hk : k < n) : (half s n k).set k (.string (sec s k)) = half s n (k + 1) := by
  unfold half
  rw [List.set_append_right _ _ (by simp [strs, secs_length]), secs_succ]
  have : n - k = (n - (k + 1)) + 1 := by omega
  simp [strs, secs_length, this, List.replicate_succ]
theorem half_full (s : ByteArray) (n : Nat) : half s n n = strs (secs s n) := by simp [half]
/-- A disk at which nothing has happened. -/
def freshD (l : List ByteArray) : DS := ⟨l, [], false, 0, 0, 0, 0⟩
theorem freshD_ok {l : List ByteArray} (h1 : 1 ≤ l.length) (h2 : l.length ≤ 4096) (h3 : ∀ s ∈ l, s.size = 512) : (freshD l).Ok :=
  ⟨h1, h2, h3, by simp [freshD], by simp [freshD], Int.le_refl _, (by show (0 : Int) ≤ 9223372036854775807; omega), fun e => rfl⟩
theorem may_any (n : Int) (w : World) : Calls Tryd.prog 44 #[.int .i64 n] w fun e w' => e = .returned (.bool (decide (1 ≤ n ∧ n ≤ 4096))) ∧ w' = w := by
  by_cases h1 : 1 ≤ n
  · by_cases h2 : n ≤ 4096
    · rw [decide_eq_true ⟨h1, h2⟩]
      go_enter Tryd.func44, Tryd.ntmps44
      go_wp2
      go_ret
      exact ⟨rfl, rfl⟩
    · rw [decide_eq_false (fun e => h2 e.2)]
      go_enter Tryd.func44, Tryd.ntmps44
      go_wp2
      go_ret
      exact ⟨rfl, rfl⟩
  · rw [decide_eq_false (fun e => h1 e.1)]
    go_enter Tryd.func44, Tryd.ntmps44
    go_wp2
    go_ret
    exact ⟨rfl, rfl⟩
/-- A new disk comes out. -/
def Made (B : Nat) (w : World) (S : DS) (e : Ending) (w' : World) : Prop := ∃ b fp, e = .returned (.tuple #[pt b, .int .i64 0]) ∧ Dk B w' b fp S ∧ (∀ k, fp k → w.heap.size ≤ k) ∧ Below w.heap.size w w'
set_option maxHeartbeats 1000000 in
set_option maxRecDepth 100000 in
theorem load_ok (s : ByteArray) (n : Nat) (hs : s.size = n * 512) (h1 : 1 ≤ n) (h2 : n ≤ 4096) (B : Nat) (w : World) (hB : B ≤ w.heap.size) : Calls Tryd.prog 30 #[.string s] w fun e w' => Made B w (freshD (secs s n)) e w' := by
  have CM : Hid (∀ w : World, Calls Tryd.prog 44 #[.int .i64 (n : Int)] w fun e w' => e = .returned (.bool true) ∧ w' = w) := by
    show ∀ w : World, _
    intro w
    have := may_any (n : Int) w
    rw [decide_eq_true (by omega)] at this
    exact this
  have CC : Hid (∀ w : World, Calls Tryd.prog 58 #[.string s] w fun e w' => e = .returned (.string s) ∧ Below w.heap.size w w') := clone_any s (by omega)
  have hq : (s.size : Int) / 512 = (n : Int) := by omega
  have hm : (s.size : Int) % 512 = 0 := by omega
  have HS : Hid (s.size = n * 512) := hs
  obtain ⟨i0, hi, hz0, hz1, hz3⟩ := info_parts info9
  clear hs
  go_enter Tryd.func30, Tryd.ntmps30
  go_wp2_with fail
  refine (CM.out _).mono ?_
  rintro e w1 ⟨rfl, hw⟩
  rw [hw]
  clear hw
  go_wp2_with fail
  refine (CC.out _).mono ?_
  rintro e w2 ⟨rfl, hb2⟩
  clear CM CC
  go_wp2_with (at_make; refine wpList_make_full _ rfl _ _ 81 rfl B 9 i0 (.string ⟨#[]⟩) 1 Tryd.underlying81 hi hz0 hz1 _ _ _ _ n rfl rfl rfl rfl ?c1 ?c2 ?c3 ?_)
  case c1 => rw [hz3]; omega
  case c2 => unfold maxLen; omega
  case c3 => have := hb2.size; omega
  intro w3 hrow hgr
  have hrow0 : w3.ownsRow B 9 1 (.slice (some ⟨w2.heap.size, 0, none⟩) n n) n (half s n 0) := by
    have e : (madeCells #[Value.string ⟨#[]⟩] n).toList = half s n 0 := by
      rw [toList_madeCells_one]; simp [half, secs, strs]
    rw [← e]; exact hrow
  have HR : Hid (w3.ownsRow B 9 1 (.slice (some ⟨w2.heap.size, 0, none⟩) n n) n (half s n 0)) := hrow0
  have HB : Hid (Below w.heap.size w w3) := (bstep (Below.refl _ _) hb2).grown hgr hb2.size (fun k e => by simp at e)
  have hz23 : w2.heap.size < w3.heap.size := (hrow0.lt _ rfl).2
  have hz12 : w.heap.size ≤ w2.heap.size := hb2.size
  clear hrow hrow0 hgr hb2
  go_wp2
  go_loopw [25] (fun t w4 => ∃ k : Nat, k ≤ n ∧ t = .int .i64 k ∧ w4.ownsRow B 9 1 (.slice (some ⟨w2.heap.size, 0, none⟩) n n) n (half s n k) ∧ Below w.heap.size w w4 ∧ w2.heap.size < w4.heap.size) (fun t _ => n - (intOf t).toNat)
  case atStart => exact ⟨0, Nat.zero_le _, rfl, HR.out, HB.out, hz23⟩
  case round =>
    obtain ⟨k, hk, rfl, hR, hBk, hzk⟩ := hrel
    by_cases hlt : k < n
    · have hk' : (k : Int) < (n : Int) := by omega
      have hend : Hid (∀ q : ByteArray, q = sec s k → (wr.setCell ⟨w2.heap.size, k, none⟩ (.string q)).ownsRow B 9 1 (.slice (some ⟨w2.heap.size, 0, none⟩) n n) n (half s n (k + 1)) ∧ Below w.heap.size w (wr.setCell ⟨w2.heap.size, k, none⟩ (.string q)) ∧ w2.heap.size < (wr.setCell ⟨w2.heap.size, k, none⟩ (.string q)).heap.size) := by
        show ∀ q : ByteArray, _
        rintro q rfl
        have := (hR.stored k (.string (sec s k))).1
        rw [half_set s n k hlt] at this
        exact ⟨this, hBk.setCell hz12 _, by simpa using hzk⟩
      have hl : k < (half s n k).length := by have := hR.1; omega
      have hc : ∃ v, wr.cell? ⟨w2.heap.size, k, none⟩ = some v := ⟨_, (hR.cellAt k (by omega)).trans (List.getElem?_eq_getElem hl)⟩
      obtain ⟨v, hc⟩ := hc
      have hf := hR.frozenAt k
      have hsz := HS.out
      clear hR hBk HR HB hl
      go_wp2_with fail
      exact ⟨⟨k + 1, by omega, by go_num, hend.out _ rfl⟩, by simp [intOf]; omega⟩
    · have hk' : ¬ (k : Int) < (n : Int) := by omega
      have hke : k = n := by omega
      have hR2 : wr.ownsRow B 9 1 (.slice (some ⟨w2.heap.size, 0, none⟩) n n) n (strs (secs s n)) := by rw [← half_full, ← hke]; rw [hke] at hR ⊢; exact hR
      have C39 := Tryd.slices_Clone_string w2.heap.size 0 n n (secs s n) wr (by rw [secs_length]; exact Nat.le_refl _) (by omega) (fun j hj => by
        rw [secs_length] at hj
        have h3 := (hR2.cellAt j (by omega)).trans (strs_at (secs s n) j (by rw [secs_length]; exact hj))
        rw [Nat.zero_add]; exact h3)
      have H39 : Hid (Calls Tryd.prog 59 #[.slice (some ⟨w2.heap.size, 0, none⟩) n n] wr fun e w' => ∃ v', e = .returned v' ∧ w'.ownsRow wr.heap.size 9 1 v' n (((secs s n).take n).map (Value.string)) ∧ v' ≠ .slice none 0 0 ∧ Below wr.heap.size wr w') := C39
      have HR2 : Hid (wr.ownsRow B 9 1 (.slice (some ⟨w2.heap.size, 0, none⟩) n n) n (strs (secs s n))) := hR2
      have HBk : Hid (Below w.heap.size w wr) := hBk
      clear C39 hR2 hR HR HB hke hBk
      go_wp2_with fail
      refine H39.out.mono ?_
      rintro e w5 ⟨v', rfl, hv, hvn, hb5⟩
      obtain ⟨h', ch, rfl, hh1, hh2⟩ := hv.form (by omega)
      have hend : Hid (Made B w (freshD (secs s n)) (.returned (.tuple #[pt w5.heap.size, .int .i64 0])) (w5.alloc (.cells (body w2.heap.size h' n ch (.slice none 0 0) (freshD (secs s n))) 90))) := by
        have hb6 : Below w5.heap.size w5 (w5.alloc (.cells (body w2.heap.size h' n ch (.slice none 0 0) (freshD (secs s n))) 90)) := (Below.refl _ _).alloc (Nat.le_refl _) _
        have hzr : wr.heap.size ≤ w5.heap.size := hb5.size
        have hrg := ownsRow_kept (S := fun _ => False) (ownsRow_kept (S := fun _ => False) HR2.out (Kept.of_below hb5) (fun _ _ => id)) (Kept.of_below hb6) (fun _ _ => id)
        have hrh := ownsRow_kept (S := fun _ => False) (ownsRow_low hv (show B ≤ wr.heap.size by omega)) (Kept.of_below hb6) (fun _ _ => id)
        have et : (secs s n).take n = secs s n := List.take_of_length_le (by rw [secs_length]; exact Nat.le_refl _)
        rw [et] at hrh
        refine ⟨w5.heap.size, FP w5.heap.size w2.heap.size h' (.slice none 0 0) [], rfl, ⟨w2.heap.size, h', n, ch, .slice none 0 0, [], rfl, {
          ok := freshD_ok (by rw [secs_length]; exact h1) (by rw [secs_length]; exact h2) (secs_size HS.out)
          blk := Blk.new _ _ _
          rowG := by simpa [freshD, secs_length] using hrg
          rowH := by
            show World.ownsRow _ B 9 1 (.slice (some ⟨h', 0, none⟩) (secs s n).length ch) (secs s n).length (strs (over (secs s n) []))
            rw [secs_length]; exact hrh
          rowP := World.ownsRow_nil _ _ _ _
          hlen := rfl
          blen := rfl
          box := fun i x p hx hp => by simp at hx
          bg := by omega
          bh := by omega
          gh := by omega
          pb := fun k e => by simp [Value.ownBlock] at e
          xb := fun x hx => by simp at hx
          low := by omega }⟩, ?_, ?_⟩
        · rintro k (e | e | e | e | ⟨x, hx, _⟩)
          · omega
          · omega
          · omega
          · simp [Value.ownBlock] at e
          · simp at hx
        · exact bstep (bstep HBk.out hb5 (Nat.le_refl _)) hb6 (Nat.le_refl _)
      have hbody : body w2.heap.size h' n ch (.slice none 0 0) (freshD (secs s n)) = #[.slice (some ⟨w2.heap.size, 0, none⟩) n n, .slice (some ⟨h', 0, none⟩) n ch, .slice none 0 0, .bool false, .int .i64 0, .int .i64 0, .int .i64 0, .int .i64 0] := by unfold body freshD; simp [secs_length]
      rw [hbody] at hend
      clear H39 hbody HR2 HBk hv hvn hb5
      go_wp2
      go_ret2
      exact hend.out
theorem load_no (s : ByteArray) (hs : s.size ≤ 140737488355328) (hn : ¬ (s.size % 512 = 0 ∧ 1 ≤ s.size / 512 ∧ s.size / 512 ≤ 4096)) (w : World) : Calls Tryd.prog 30 #[.string s] w fun e w' => e = .returned (.tuple #[.pointer none, .int .i64 1]) ∧ w' = w := by
  have CM : Hid (∀ w : World, Calls Tryd.prog 44 #[.int .i64 ((s.size : Int) / 512)] w fun e w' => e = .returned (.bool (decide (1 ≤ (s.size : Int) / 512 ∧ (s.size : Int) / 512 ≤ 4096))) ∧ w' = w) := may_any _
  by_cases hm : 1 ≤ (s.size : Int) / 512 ∧ (s.size : Int) / 512 ≤ 4096
  · have h3 : ¬ (s.size : Int) % 512 = 0 := fun e => hn ⟨by omega, by omega, by omega⟩
    have h4 : ((s.size : Int) % 512 != 0) = true := by rw [bne_iff_ne]; exact h3
    rw [decide_eq_true hm] at CM
    clear hm hn h3
    go_enter Tryd.func30, Tryd.ntmps30
    go_wp2_with fail
    refine (CM.out _).mono ?_
    rintro e w1 ⟨rfl, hw⟩
    rw [hw]
    clear hw
    go_wp2
    go_ret2
    exact ⟨rfl, rfl⟩
  · rw [decide_eq_false hm] at CM
    clear hm hn
    go_enter Tryd.func30, Tryd.ntmps30
    go_wp2_with fail
    refine (CM.out _).mono ?_
    rintro e w1 ⟨rfl, hw⟩
    rw [hw]
    clear hw
    go_wp2
    go_ret2
    exact ⟨rfl, rfl⟩
/-- A sector of noughts. -/
def zero512 : ByteArray := ⟨Array.replicate 512 0⟩
theorem repeat_zero (n : Nat) : Lib.repeatL [0] n = List.replicate n (0 : UInt8) := by
  induction n with
  | zero => rfl
  | succ n ih => show [0] ++ Lib.repeatL [0] n = _; rw [ih]; rfl
theorem sec_zero (n k : Nat) (hk : k < n) : sec ⟨(List.replicate (n * 512) (0 : UInt8)).toArray⟩ k = zero512 := by
  apply ByteArray.ext
  unfold sec zero512
  simp only [ByteArray.data_extract]
  apply Array.ext'
  simp only [Array.toList_extract, List.toList_toArray, List.extract_eq_take_drop, Array.toList_replicate, List.drop_replicate, List.take_replicate]
  congr 1
  omega
theorem secs_zero (n : Nat) : ∀ m, m ≤ n → secs ⟨(List.replicate (n * 512) (0 : UInt8)).toArray⟩ m = List.replicate m zero512 := by
  intro m
  induction m with
  | zero => intro _; rfl
  | succ m ih => intro h; rw [secs_succ, ih (by omega), sec_zero n m (by omega), List.replicate_succ']
set_option maxRecDepth 100000 in
theorem new_ok (n : Nat) (h1 : 1 ≤ n) (h2 : n ≤ 4096) (B : Nat) (w : World) (hB : B ≤ w.heap.size) : Calls Tryd.prog 18 #[.int .i64 n] w fun e w' => Made B w (freshD (List.replicate n zero512)) e w' := by
  have CM : Hid (∀ w : World, Calls Tryd.prog 44 #[.int .i64 (n : Int)] w fun e w' => e = .returned (.bool true) ∧ w' = w) := by
    show ∀ w : World, _
    intro w
    have := may_any (n : Int) w
    rw [decide_eq_true (by omega)] at this
    exact this
  have CR : Hid (∀ w : World, Calls Tryd.prog 45 #[.string ⟨#[0]⟩, .int .i64 ((n * 512 : Nat) : Int)] w fun e w' => e = .returned (.string ⟨(List.replicate (n * 512) (0 : UInt8)).toArray⟩) ∧ Below w.heap.size w w') := by
    show ∀ w : World, _
    intro w
    have := Tryd.strings_Repeat ⟨#[0]⟩ (n * 512) w (by omega) (by show 1 * (n * 512) ≤ _; omega)
    rw [show (⟨#[0]⟩ : ByteArray).data.toList = [0] from rfl, repeat_zero] at this
    exact this
  have CL : Hid (∀ w : World, B ≤ w.heap.size → Calls Tryd.prog 30 #[.string ⟨(List.replicate (n * 512) (0 : UInt8)).toArray⟩] w fun e w' => Made B w (freshD (List.replicate n zero512)) e w') := by
    show ∀ w : World, _
    intro w hw
    have := load_ok ⟨(List.replicate (n * 512) (0 : UInt8)).toArray⟩ n (by simp [ByteArray.size]) h1 h2 B w hw
    rw [secs_zero n n (Nat.le_refl _)] at this
    exact this
  have hmul : (n : Int) * 512 = ((n * 512 : Nat) : Int) := by omega
  have hn1 : ((n * 512 : Nat) : Int) ≤ 2097152 := by omega
  generalize (⟨(List.replicate (n * 512) (0 : UInt8)).toArray⟩ : ByteArray) = q at *
  generalize hD : freshD (List.replicate n zero512) = D at *
  clear hD
  generalize n * 512 = N at *
  go_enter Tryd.func18, Tryd.ntmps18
  go_wp2_with fail
  refine (CM.out _).mono ?_
  rintro e w1 ⟨rfl, hw⟩
  rw [hw]
  clear hw
  go_wp2_with fail
  refine (CR.out _).mono ?_
  rintro e w2 ⟨rfl, hb⟩
  go_wp2_with fail
  refine (CL.out _ (Nat.le_trans hB hb.size)).mono ?_
  rintro e w3 ⟨b, fp, rfl, hd, hfp, hb3⟩
  have hend : Hid (Made B w D (.returned (.tuple #[pt b, .int .i64 0])) w3) := ⟨b, fp, rfl, hd, fun k e => Nat.le_trans hb.size (hfp k e), bstep hb hb3 (Nat.le_refl _)⟩
  clear hd hfp hb hb3 CM CR CL
  unfold pt at *
  go_wp2
  go_ret2
  exact hend.out
theorem new_no (n : Int) (hn : ¬ (1 ≤ n ∧ n ≤ 4096)) (w : World) : Calls Tryd.prog 18 #[.int .i64 n] w fun e w' => e = .returned (.tuple #[.pointer none, .int .i64 1]) ∧ w' = w := by
  have CM : Hid (∀ w : World, Calls Tryd.prog 44 #[.int .i64 n] w fun e w' => e = .returned (.bool false) ∧ w' = w) := by
    show ∀ w : World, _
    intro w
    have := may_any n w
    rw [decide_eq_false hn] at this
    exact this
  clear hn
  go_enter Tryd.func18, Tryd.ntmps18
  go_wp2_with fail
  refine (CM.out _).mono ?_
  rintro e w1 ⟨rfl, hw⟩
  rw [hw]
  clear hw
  go_wp2
  go_ret2
  exact ⟨rfl, rfl⟩
end Go.Proofs.YtnpcnflfpmjgiaaDoor
