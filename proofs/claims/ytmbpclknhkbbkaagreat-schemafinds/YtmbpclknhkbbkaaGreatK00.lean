/- The document's Header, Action, Table. -/
import Derived.Test.YtmbpclknhkbbkaaGreatK38
import Derived.Test.YtmbpclknhkbbkaaGreatK39
set_option linter.unusedSimpArgs false
set_option linter.unusedVariables false
namespace Go.Proofs.YtmbpclknhkbbkaaGreat
open Go.RowKit
set_option linter.unusedVariables false
set_option linter.unusedSimpArgs false

set_option maxHeartbeats 2000000 in
set_option maxRecDepth 100000 in
theorem rheader_none (v : Value) (s : Sch) (name : ByteArray) (w : World) (hs : SchIs w v s) (hi : hdrAt s name = -1) : Calls Tryz.prog 41 #[v,.string name] w fun e w' => e = .returned (.tuple #[.agg #[.string ⟨#[]⟩,.slice none 0 0],.bool false]) ∧ Below w.heap.size w w' := by
 obtain ⟨a0,c0,a1,c1,a2,c2,a3,c3,a4,c4,a5,c5,rfl,h0,h1,h2,h3,h4,h5⟩ := hs.parts
 have HB0 : Hid (Blk ((w.alloc (.cells (bxA s a0 c0 a1 c1 a2 c2 a3 c3 a4 c4 a5 c5) 34)).alloc (.cells #[.string ⟨#[]⟩,.slice none 0 0] 60)) w.heap.size (bxA s a0 c0 a1 c1 a2 c2 a3 c3 a4 c4 a5 c5) 34 ∧ Blk ((w.alloc (.cells (bxA s a0 c0 a1 c1 a2 c2 a3 c3 a4 c4 a5 c5) 34)).alloc (.cells #[.string ⟨#[]⟩,.slice none 0 0] 60)) (w.heap.size + 1) #[.string ⟨#[]⟩,.slice none 0 0] 60 ∧ Below w.heap.size w ((w.alloc (.cells (bxA s a0 c0 a1 c1 a2 c2 a3 c3 a4 c4 a5 c5) 34)).alloc (.cells #[.string ⟨#[]⟩,.slice none 0 0] 60))) :=
  ⟨(Blk.new w (bxA s a0 c0 a1 c1 a2 c2 a3 c3 a4 c4 a5 c5) 34).below ((Below.refl _ _).alloc (Nat.le_refl _) _),by simpa using Blk.new (w.alloc (.cells (bxA s a0 c0 a1 c1 a2 c2 a3 c3 a4 c4 a5 c5) 34)) #[.string ⟨#[]⟩,.slice none 0 0] 60,((Below.refl _ _).alloc (Nat.le_refl _) _).alloc (by simp) _⟩
 have C : Hid (∀ W,Pres w W → Calls Tryz.prog 129 #[.agg (bxA s a0 c0 a1 c1 a2 c2 a3 c3 a4 c4 a5 c5),.string name] W fun e w' => e = .returned (.int .i64 (hdrAt s name)) ∧ Below W.heap.size W w') := fun W hp => rhdrAt_any _ s name W (hs.pres hp)
 rw [hi] at C
 have H4 : Hid (HdrRow w (.slice a0 s.headers.length c0) s.headers) := h0
 clear hs h0 h1 h2 h3 h4 h5 hi
 go_enter Tryz.func41,Tryz.ntmps41
 go_upto_region 1 with fail
 generalize ((w.alloc _).alloc _) = W0 at HB0 ⊢
 obtain ⟨p0,p1,p2,p3,p4,p5⟩ := HB0.out.1.c6
 go_wp2_with fail
 refine (C.out _ (pres_below HB0.out.2.2)).mono ?_
 rintro e V0 ⟨rfl,hb0⟩
 have HB1 : Hid (Blk V0 w.heap.size (bxA s a0 c0 a1 c1 a2 c2 a3 c3 a4 c4 a5 c5) 34 ∧ Blk V0 (w.heap.size + 1) #[.string ⟨#[]⟩,.slice none 0 0] 60 ∧ Below w.heap.size w V0) := ⟨HB0.out.1.below hb0,HB0.out.2.1.below hb0,bst HB0.out.2.2 hb0 (Nat.le_refl _)⟩
 clear hb0 HB0 C p0 p1 p2 p3 p4 p5
 have p4 := HB1.out.1.cell 0 (v := .slice a0 s.headers.length c0) rfl
 have z0 := HB1.out.2.1.cell 0 (v := .string ⟨#[]⟩) rfl
 have y0 := HB1.out.2.1.frozen 0
 have z1 := HB1.out.2.1.cell 1 (v := .slice none 0 0) rfl
 have y1 := HB1.out.2.1.frozen 1
 have HF : Hid (Blk ((V0.setCell ⟨w.heap.size + 1,0,none⟩ (.string ⟨#[]⟩)).setCell ⟨w.heap.size + 1,1,none⟩ (.slice none 0 0)) (w.heap.size + 1) #[.string ⟨#[]⟩,.slice none 0 0] 60 ∧ Below w.heap.size w ((V0.setCell ⟨w.heap.size + 1,0,none⟩ (.string ⟨#[]⟩)).setCell ⟨w.heap.size + 1,1,none⟩ (.slice none 0 0))) := by
  have h := HB1.out.2.1
  have hb := HB1.out.2.2
  exact ⟨((h.set 0 _).set 1 _),((hb.setCell (by simp) _).setCell (by simp) _)⟩
 go_wp2
 generalize ((V0.setCell ⟨w.heap.size + 1,0,none⟩ (.string ⟨#[]⟩)).setCell ⟨w.heap.size + 1,1,none⟩ (.slice none 0 0)) = WG at HF ⊢
 have k0 := HF.out.1.cell 0 (v := .string ⟨#[]⟩) rfl
 have k1 := HF.out.1.cell 1 (v := .slice none 0 0) rfl
 refine bodyPost_ret (v := .tuple #[.agg #[.string ⟨#[]⟩,.slice none 0 0],.bool false]) (by simp [results,Tryz.results41,go_sem,k0,k1]) rfl ⟨rfl,HF.out.2⟩
set_option maxHeartbeats 2000000 in
set_option maxRecDepth 100000 in
theorem rheader_at (v : Value) (s : Sch) (name : ByteArray) (w : World) (hs : SchIs w v s) (i : Nat) (t : Hdr) (ht : s.headers[i]? = some t) (hi : hdrAt s name = (i : Int)) : Calls Tryz.prog 41 #[v,.string name] w fun e w' => ∃ cs',e = .returned (.tuple #[.agg cs',.bool true]) ∧ HdrIs w' cs' t ∧ Below w.heap.size w w' := by
 obtain ⟨a0,c0,a1,c1,a2,c2,a3,c3,a4,c4,a5,c5,rfl,h0,h1,h2,h3,h4,h5⟩ := hs.parts
 have HB0 : Hid (Blk ((w.alloc (.cells (bxA s a0 c0 a1 c1 a2 c2 a3 c3 a4 c4 a5 c5) 34)).alloc (.cells #[.string ⟨#[]⟩,.slice none 0 0] 60)) w.heap.size (bxA s a0 c0 a1 c1 a2 c2 a3 c3 a4 c4 a5 c5) 34 ∧ Blk ((w.alloc (.cells (bxA s a0 c0 a1 c1 a2 c2 a3 c3 a4 c4 a5 c5) 34)).alloc (.cells #[.string ⟨#[]⟩,.slice none 0 0] 60)) (w.heap.size + 1) #[.string ⟨#[]⟩,.slice none 0 0] 60 ∧ Below w.heap.size w ((w.alloc (.cells (bxA s a0 c0 a1 c1 a2 c2 a3 c3 a4 c4 a5 c5) 34)).alloc (.cells #[.string ⟨#[]⟩,.slice none 0 0] 60))) :=
  ⟨(Blk.new w (bxA s a0 c0 a1 c1 a2 c2 a3 c3 a4 c4 a5 c5) 34).below ((Below.refl _ _).alloc (Nat.le_refl _) _),by simpa using Blk.new (w.alloc (.cells (bxA s a0 c0 a1 c1 a2 c2 a3 c3 a4 c4 a5 c5) 34)) #[.string ⟨#[]⟩,.slice none 0 0] 60,((Below.refl _ _).alloc (Nat.le_refl _) _).alloc (by simp) _⟩
 have C : Hid (∀ W,Pres w W → Calls Tryz.prog 129 #[.agg (bxA s a0 c0 a1 c1 a2 c2 a3 c3 a4 c4 a5 c5),.string name] W fun e w' => e = .returned (.int .i64 (hdrAt s name)) ∧ Below W.heap.size W w') := fun W hp => rhdrAt_any _ s name W (hs.pres hp)
 rw [hi] at C
 have H4 : Hid (HdrRow w (.slice a0 s.headers.length c0) s.headers) := h0
 clear hs h0 h1 h2 h3 h4 h5 hi
 go_enter Tryz.func41,Tryz.ntmps41
 go_upto_region 1 with fail
 generalize ((w.alloc _).alloc _) = W0 at HB0 ⊢
 obtain ⟨p0,p1,p2,p3,p4,p5⟩ := HB0.out.1.c6
 go_wp2_with fail
 refine (C.out _ (pres_below HB0.out.2.2)).mono ?_
 rintro e V0 ⟨rfl,hb0⟩
 have HB1 : Hid (Blk V0 w.heap.size (bxA s a0 c0 a1 c1 a2 c2 a3 c3 a4 c4 a5 c5) 34 ∧ Blk V0 (w.heap.size + 1) #[.string ⟨#[]⟩,.slice none 0 0] 60 ∧ Below w.heap.size w V0) := ⟨HB0.out.1.below hb0,HB0.out.2.1.below hb0,bst HB0.out.2.2 hb0 (Nat.le_refl _)⟩
 clear hb0 HB0 C p0 p1 p2 p3 p4 p5
 have p4 := HB1.out.1.cell 0 (v := .slice a0 s.headers.length c0) rfl
 have hlt : i < s.headers.length := (List.getElem?_eq_some_iff.1 ht).1
 obtain ⟨b,o,⟨cl⟩,rfl,hsz,hcl,hI⟩ := H4.out.1.at ht
 have hcs : cl.length = 2 := hsz
 have hz : (Tryz.prog.info? 60).map (·.size) = some 2 := by kernel_rfl
 have hz' : (Tryz.prog.info? 60).map (·.size) = some cl.length := by rw [hcs]; exact hz
 have R1 : Hid (V0.rangeAt b (o + i * 2) cl) := fun j u hu => pres_below HB1.out.2.2 _ _ (hcl j u (by simpa using hu))
 have hb4 : (0 : Int) ≤ (i : Int) ∧ (i : Int) < (s.headers.length : Int) := by omega
 have hn : ¬ ((i : Int) < 0) := by omega
 have HI : Hid (HdrIs w cl.toArray t) := hI
 clear ht hcl hI hsz H4
 have hone : cl.toArray.all (·.oneCell') = true := hdr_good.one HI.out
 have HON : Hid (cl.toArray.all (·.oneCell') = true) := hone
 have hd' : (Tryz.prog.info? 60).map (·.size) = some cl.toArray.size := by rw [List.size_toArray,hcs]; exact hz
 have TH : Hid (V0.there (w.heap.size + 1) 0 cl.toArray.size) := blk_there HB1.out.2.1 (by simp [hcs])
 have HF : Hid ((V0.setCells (w.heap.size + 1) 0 cl).rangeAt (w.heap.size + 1) 0 cl ∧ HdrIs (V0.setCells (w.heap.size + 1) 0 cl) cl.toArray t ∧ Below w.heap.size w (V0.setCells (w.heap.size + 1) 0 cl)) := by
  have hbl := below_setCells HB1.out.2.2 (show w.heap.size ≤ w.heap.size + 1 by omega) 0 cl
  exact ⟨World.rangeAt_setCells_same _ _ _ _ TH.out,HI.out.pres (pres_below hbl),hbl⟩
 clear hone
 go_wp2_with (first | (refine wpList_load_mid rfl 60 _ rfl b (o + i * 2) rfl cl _ R1.out Tryz.underlying60 rfl hz' ?_) | (refine wpList_store_mid rfl 60 _ _ rfl (w.heap.size + 1) 0 cl.toArray rfl rfl TH.out hd' HON.out ?_))
 clear TH
 generalize V0.setCells (w.heap.size + 1) 0 cl = WF at HF ⊢
 have hl : ∃ x0 x1,cl = [x0,x1] := by
  have := hcs
  match cl,this with
  | [x0,x1],_ => exact ⟨x0,x1,rfl⟩
 obtain ⟨x0,x1,rfl⟩ := hl
 have k0 := HF.out.1 0 x0 rfl
 have k1 := HF.out.1 1 x1 rfl
 simp only [Nat.zero_add] at k0 k1
 refine bodyPost_ret (v := .tuple #[.agg #[x0,x1],.bool true]) (by simp [results,Tryz.results41,go_sem,k0,k1]) rfl ⟨_,rfl,HF.out.2.1,HF.out.2.2⟩
set_option maxHeartbeats 2000000 in
set_option maxRecDepth 100000 in
theorem raction_none (v : Value) (s : Sch) (name : ByteArray) (w : World) (hs : SchIs w v s) (hi : actAt s name = -1) : Calls Tryz.prog 42 #[v,.string name] w fun e w' => e = .returned (.tuple #[.agg #[.string ⟨#[]⟩,.slice none 0 0,.slice none 0 0],.bool false]) ∧ Below w.heap.size w w' := by
 obtain ⟨a0,c0,a1,c1,a2,c2,a3,c3,a4,c4,a5,c5,rfl,h0,h1,h2,h3,h4,h5⟩ := hs.parts
 have HB0 : Hid (Blk ((w.alloc (.cells (bxA s a0 c0 a1 c1 a2 c2 a3 c3 a4 c4 a5 c5) 34)).alloc (.cells #[.string ⟨#[]⟩,.slice none 0 0,.slice none 0 0] 65)) w.heap.size (bxA s a0 c0 a1 c1 a2 c2 a3 c3 a4 c4 a5 c5) 34 ∧ Blk ((w.alloc (.cells (bxA s a0 c0 a1 c1 a2 c2 a3 c3 a4 c4 a5 c5) 34)).alloc (.cells #[.string ⟨#[]⟩,.slice none 0 0,.slice none 0 0] 65)) (w.heap.size + 1) #[.string ⟨#[]⟩,.slice none 0 0,.slice none 0 0] 65 ∧ Below w.heap.size w ((w.alloc (.cells (bxA s a0 c0 a1 c1 a2 c2 a3 c3 a4 c4 a5 c5) 34)).alloc (.cells #[.string ⟨#[]⟩,.slice none 0 0,.slice none 0 0] 65))) :=
  ⟨(Blk.new w (bxA s a0 c0 a1 c1 a2 c2 a3 c3 a4 c4 a5 c5) 34).below ((Below.refl _ _).alloc (Nat.le_refl _) _),by simpa using Blk.new (w.alloc (.cells (bxA s a0 c0 a1 c1 a2 c2 a3 c3 a4 c4 a5 c5) 34)) #[.string ⟨#[]⟩,.slice none 0 0,.slice none 0 0] 65,((Below.refl _ _).alloc (Nat.le_refl _) _).alloc (by simp) _⟩
 have C : Hid (∀ W,Pres w W → Calls Tryz.prog 130 #[.agg (bxA s a0 c0 a1 c1 a2 c2 a3 c3 a4 c4 a5 c5),.string name] W fun e w' => e = .returned (.int .i64 (actAt s name)) ∧ Below W.heap.size W w') := fun W hp => ractAt_any _ s name W (hs.pres hp)
 rw [hi] at C
 have H4 : Hid (ActRow w (.slice a3 s.actions.length c3) s.actions) := h3
 clear hs h0 h1 h2 h3 h4 h5 hi
 go_enter Tryz.func42,Tryz.ntmps42
 go_upto_region 1 with fail
 generalize ((w.alloc _).alloc _) = W0 at HB0 ⊢
 obtain ⟨p0,p1,p2,p3,p4,p5⟩ := HB0.out.1.c6
 go_wp2_with fail
 refine (C.out _ (pres_below HB0.out.2.2)).mono ?_
 rintro e V0 ⟨rfl,hb0⟩
 have HB1 : Hid (Blk V0 w.heap.size (bxA s a0 c0 a1 c1 a2 c2 a3 c3 a4 c4 a5 c5) 34 ∧ Blk V0 (w.heap.size + 1) #[.string ⟨#[]⟩,.slice none 0 0,.slice none 0 0] 65 ∧ Below w.heap.size w V0) := ⟨HB0.out.1.below hb0,HB0.out.2.1.below hb0,bst HB0.out.2.2 hb0 (Nat.le_refl _)⟩
 clear hb0 HB0 C p0 p1 p2 p3 p4 p5
 have p4 := HB1.out.1.cell 3 (v := .slice a3 s.actions.length c3) rfl
 have z0 := HB1.out.2.1.cell 0 (v := .string ⟨#[]⟩) rfl
 have y0 := HB1.out.2.1.frozen 0
 have z1 := HB1.out.2.1.cell 1 (v := .slice none 0 0) rfl
 have y1 := HB1.out.2.1.frozen 1
 have z2 := HB1.out.2.1.cell 2 (v := .slice none 0 0) rfl
 have y2 := HB1.out.2.1.frozen 2
 have HF : Hid (Blk (((V0.setCell ⟨w.heap.size + 1,0,none⟩ (.string ⟨#[]⟩)).setCell ⟨w.heap.size + 1,1,none⟩ (.slice none 0 0)).setCell ⟨w.heap.size + 1,2,none⟩ (.slice none 0 0)) (w.heap.size + 1) #[.string ⟨#[]⟩,.slice none 0 0,.slice none 0 0] 65 ∧ Below w.heap.size w (((V0.setCell ⟨w.heap.size + 1,0,none⟩ (.string ⟨#[]⟩)).setCell ⟨w.heap.size + 1,1,none⟩ (.slice none 0 0)).setCell ⟨w.heap.size + 1,2,none⟩ (.slice none 0 0))) := by
  have h := HB1.out.2.1
  have hb := HB1.out.2.2
  exact ⟨(((h.set 0 _).set 1 _).set 2 _),(((hb.setCell (by simp) _).setCell (by simp) _).setCell (by simp) _)⟩
 go_wp2
 generalize (((V0.setCell ⟨w.heap.size + 1,0,none⟩ (.string ⟨#[]⟩)).setCell ⟨w.heap.size + 1,1,none⟩ (.slice none 0 0)).setCell ⟨w.heap.size + 1,2,none⟩ (.slice none 0 0)) = WG at HF ⊢
 obtain ⟨k0,k1,k2⟩ := HF.out.1.c3
 refine bodyPost_ret (v := .tuple #[.agg #[.string ⟨#[]⟩,.slice none 0 0,.slice none 0 0],.bool false]) (by simp [results,Tryz.results42,go_sem,k0,k1,k2]) rfl ⟨rfl,HF.out.2⟩
set_option maxHeartbeats 2000000 in
set_option maxRecDepth 100000 in
theorem raction_at (v : Value) (s : Sch) (name : ByteArray) (w : World) (hs : SchIs w v s) (i : Nat) (t : Actn) (ht : s.actions[i]? = some t) (hi : actAt s name = (i : Int)) : Calls Tryz.prog 42 #[v,.string name] w fun e w' => ∃ cs',e = .returned (.tuple #[.agg cs',.bool true]) ∧ ActIs w' cs' t ∧ Below w.heap.size w w' := by
 obtain ⟨a0,c0,a1,c1,a2,c2,a3,c3,a4,c4,a5,c5,rfl,h0,h1,h2,h3,h4,h5⟩ := hs.parts
 have HB0 : Hid (Blk ((w.alloc (.cells (bxA s a0 c0 a1 c1 a2 c2 a3 c3 a4 c4 a5 c5) 34)).alloc (.cells #[.string ⟨#[]⟩,.slice none 0 0,.slice none 0 0] 65)) w.heap.size (bxA s a0 c0 a1 c1 a2 c2 a3 c3 a4 c4 a5 c5) 34 ∧ Blk ((w.alloc (.cells (bxA s a0 c0 a1 c1 a2 c2 a3 c3 a4 c4 a5 c5) 34)).alloc (.cells #[.string ⟨#[]⟩,.slice none 0 0,.slice none 0 0] 65)) (w.heap.size + 1) #[.string ⟨#[]⟩,.slice none 0 0,.slice none 0 0] 65 ∧ Below w.heap.size w ((w.alloc (.cells (bxA s a0 c0 a1 c1 a2 c2 a3 c3 a4 c4 a5 c5) 34)).alloc (.cells #[.string ⟨#[]⟩,.slice none 0 0,.slice none 0 0] 65))) :=
  ⟨(Blk.new w (bxA s a0 c0 a1 c1 a2 c2 a3 c3 a4 c4 a5 c5) 34).below ((Below.refl _ _).alloc (Nat.le_refl _) _),by simpa using Blk.new (w.alloc (.cells (bxA s a0 c0 a1 c1 a2 c2 a3 c3 a4 c4 a5 c5) 34)) #[.string ⟨#[]⟩,.slice none 0 0,.slice none 0 0] 65,((Below.refl _ _).alloc (Nat.le_refl _) _).alloc (by simp) _⟩
 have C : Hid (∀ W,Pres w W → Calls Tryz.prog 130 #[.agg (bxA s a0 c0 a1 c1 a2 c2 a3 c3 a4 c4 a5 c5),.string name] W fun e w' => e = .returned (.int .i64 (actAt s name)) ∧ Below W.heap.size W w') := fun W hp => ractAt_any _ s name W (hs.pres hp)
 rw [hi] at C
 have H4 : Hid (ActRow w (.slice a3 s.actions.length c3) s.actions) := h3
 clear hs h0 h1 h2 h3 h4 h5 hi
 go_enter Tryz.func42,Tryz.ntmps42
 go_upto_region 1 with fail
 generalize ((w.alloc _).alloc _) = W0 at HB0 ⊢
 obtain ⟨p0,p1,p2,p3,p4,p5⟩ := HB0.out.1.c6
 go_wp2_with fail
 refine (C.out _ (pres_below HB0.out.2.2)).mono ?_
 rintro e V0 ⟨rfl,hb0⟩
 have HB1 : Hid (Blk V0 w.heap.size (bxA s a0 c0 a1 c1 a2 c2 a3 c3 a4 c4 a5 c5) 34 ∧ Blk V0 (w.heap.size + 1) #[.string ⟨#[]⟩,.slice none 0 0,.slice none 0 0] 65 ∧ Below w.heap.size w V0) := ⟨HB0.out.1.below hb0,HB0.out.2.1.below hb0,bst HB0.out.2.2 hb0 (Nat.le_refl _)⟩
 clear hb0 HB0 C p0 p1 p2 p3 p4 p5
 have p4 := HB1.out.1.cell 3 (v := .slice a3 s.actions.length c3) rfl
 have hlt : i < s.actions.length := (List.getElem?_eq_some_iff.1 ht).1
 obtain ⟨b,o,⟨cl⟩,rfl,hsz,hcl,hI⟩ := H4.out.1.at ht
 have hcs : cl.length = 3 := hsz
 have hz : (Tryz.prog.info? 65).map (·.size) = some 3 := by kernel_rfl
 have hz' : (Tryz.prog.info? 65).map (·.size) = some cl.length := by rw [hcs]; exact hz
 have R1 : Hid (V0.rangeAt b (o + i * 3) cl) := fun j u hu => pres_below HB1.out.2.2 _ _ (hcl j u (by simpa using hu))
 have hb4 : (0 : Int) ≤ (i : Int) ∧ (i : Int) < (s.actions.length : Int) := by omega
 have hn : ¬ ((i : Int) < 0) := by omega
 have HI : Hid (ActIs w cl.toArray t) := hI
 clear ht hcl hI hsz H4
 have hone : cl.toArray.all (·.oneCell') = true := act_good.one HI.out
 have HON : Hid (cl.toArray.all (·.oneCell') = true) := hone
 have hd' : (Tryz.prog.info? 65).map (·.size) = some cl.toArray.size := by rw [List.size_toArray,hcs]; exact hz
 have TH : Hid (V0.there (w.heap.size + 1) 0 cl.toArray.size) := blk_there HB1.out.2.1 (by simp [hcs])
 have HF : Hid ((V0.setCells (w.heap.size + 1) 0 cl).rangeAt (w.heap.size + 1) 0 cl ∧ ActIs (V0.setCells (w.heap.size + 1) 0 cl) cl.toArray t ∧ Below w.heap.size w (V0.setCells (w.heap.size + 1) 0 cl)) := by
  have hbl := below_setCells HB1.out.2.2 (show w.heap.size ≤ w.heap.size + 1 by omega) 0 cl
  exact ⟨World.rangeAt_setCells_same _ _ _ _ TH.out,HI.out.pres (pres_below hbl),hbl⟩
 clear hone
 go_wp2_with (first | (refine wpList_load_mid rfl 65 _ rfl b (o + i * 3) rfl cl _ R1.out Tryz.underlying65 rfl hz' ?_) | (refine wpList_store_mid rfl 65 _ _ rfl (w.heap.size + 1) 0 cl.toArray rfl rfl TH.out hd' HON.out ?_))
 clear TH
 generalize V0.setCells (w.heap.size + 1) 0 cl = WF at HF ⊢
 have hl : ∃ x0 x1 x2,cl = [x0,x1,x2] := by
  have := hcs
  match cl,this with
  | [x0,x1,x2],_ => exact ⟨x0,x1,x2,rfl⟩
 obtain ⟨x0,x1,x2,rfl⟩ := hl
 have k0 := HF.out.1 0 x0 rfl
 have k1 := HF.out.1 1 x1 rfl
 have k2 := HF.out.1 2 x2 rfl
 simp only [Nat.zero_add] at k0 k1 k2
 refine bodyPost_ret (v := .tuple #[.agg #[x0,x1,x2],.bool true]) (by simp [results,Tryz.results42,go_sem,k0,k1,k2]) rfl ⟨_,rfl,HF.out.2.1,HF.out.2.2⟩
set_option maxHeartbeats 2000000 in
set_option maxRecDepth 100000 in
theorem rtable_none (v : Value) (s : Sch) (name : ByteArray) (w : World) (hs : SchIs w v s) (hi : tblAt s name = -1) : Calls Tryz.prog 43 #[v,.string name] w fun e w' => e = .returned (.tuple #[.agg #[.string ⟨#[]⟩,.slice none 0 0,.slice none 0 0,.int .i64 0,.string ⟨#[]⟩,.slice none 0 0,.bool false],.int .i64 0,.bool false]) ∧ Below w.heap.size w w' := by
 obtain ⟨a0,c0,a1,c1,a2,c2,a3,c3,a4,c4,a5,c5,rfl,h0,h1,h2,h3,h4,h5⟩ := hs.parts
 have HB0 : Hid (Blk ((w.alloc (.cells (bxA s a0 c0 a1 c1 a2 c2 a3 c3 a4 c4 a5 c5) 34)).alloc (.cells #[.string ⟨#[]⟩,.slice none 0 0,.slice none 0 0,.int .i64 0,.string ⟨#[]⟩,.slice none 0 0,.bool false] 51)) w.heap.size (bxA s a0 c0 a1 c1 a2 c2 a3 c3 a4 c4 a5 c5) 34 ∧ Blk ((w.alloc (.cells (bxA s a0 c0 a1 c1 a2 c2 a3 c3 a4 c4 a5 c5) 34)).alloc (.cells #[.string ⟨#[]⟩,.slice none 0 0,.slice none 0 0,.int .i64 0,.string ⟨#[]⟩,.slice none 0 0,.bool false] 51)) (w.heap.size + 1) #[.string ⟨#[]⟩,.slice none 0 0,.slice none 0 0,.int .i64 0,.string ⟨#[]⟩,.slice none 0 0,.bool false] 51 ∧ Below w.heap.size w ((w.alloc (.cells (bxA s a0 c0 a1 c1 a2 c2 a3 c3 a4 c4 a5 c5) 34)).alloc (.cells #[.string ⟨#[]⟩,.slice none 0 0,.slice none 0 0,.int .i64 0,.string ⟨#[]⟩,.slice none 0 0,.bool false] 51))) :=
  ⟨(Blk.new w (bxA s a0 c0 a1 c1 a2 c2 a3 c3 a4 c4 a5 c5) 34).below ((Below.refl _ _).alloc (Nat.le_refl _) _),by simpa using Blk.new (w.alloc (.cells (bxA s a0 c0 a1 c1 a2 c2 a3 c3 a4 c4 a5 c5) 34)) #[.string ⟨#[]⟩,.slice none 0 0,.slice none 0 0,.int .i64 0,.string ⟨#[]⟩,.slice none 0 0,.bool false] 51,((Below.refl _ _).alloc (Nat.le_refl _) _).alloc (by simp) _⟩
 have C : Hid (∀ W,Pres w W → Calls Tryz.prog 131 #[.agg (bxA s a0 c0 a1 c1 a2 c2 a3 c3 a4 c4 a5 c5),.string name] W fun e w' => e = .returned (.int .i64 (tblAt s name)) ∧ Below W.heap.size W w') := fun W hp => rtblAt_any _ s name W (hs.pres hp)
 rw [hi] at C
 have H4 : Hid (TblRow w (.slice a4 s.tables.length c4) s.tables) := h4
 clear hs h0 h1 h2 h3 h4 h5 hi
 go_enter Tryz.func43,Tryz.ntmps43
 go_upto_region 1 with fail
 generalize ((w.alloc _).alloc _) = W0 at HB0 ⊢
 obtain ⟨p0,p1,p2,p3,p4,p5⟩ := HB0.out.1.c6
 go_wp2_with fail
 refine (C.out _ (pres_below HB0.out.2.2)).mono ?_
 rintro e V0 ⟨rfl,hb0⟩
 have HB1 : Hid (Blk V0 w.heap.size (bxA s a0 c0 a1 c1 a2 c2 a3 c3 a4 c4 a5 c5) 34 ∧ Blk V0 (w.heap.size + 1) #[.string ⟨#[]⟩,.slice none 0 0,.slice none 0 0,.int .i64 0,.string ⟨#[]⟩,.slice none 0 0,.bool false] 51 ∧ Below w.heap.size w V0) := ⟨HB0.out.1.below hb0,HB0.out.2.1.below hb0,bst HB0.out.2.2 hb0 (Nat.le_refl _)⟩
 clear hb0 HB0 C p0 p1 p2 p3 p4 p5
 have p4 := HB1.out.1.cell 4 (v := .slice a4 s.tables.length c4) rfl
 have z0 := HB1.out.2.1.cell 0 (v := .string ⟨#[]⟩) rfl
 have y0 := HB1.out.2.1.frozen 0
 have z1 := HB1.out.2.1.cell 1 (v := .slice none 0 0) rfl
 have y1 := HB1.out.2.1.frozen 1
 have z2 := HB1.out.2.1.cell 2 (v := .slice none 0 0) rfl
 have y2 := HB1.out.2.1.frozen 2
 have z3 := HB1.out.2.1.cell 3 (v := .int .i64 0) rfl
 have y3 := HB1.out.2.1.frozen 3
 have z4 := HB1.out.2.1.cell 4 (v := .string ⟨#[]⟩) rfl
 have y4 := HB1.out.2.1.frozen 4
 have z5 := HB1.out.2.1.cell 5 (v := .slice none 0 0) rfl
 have y5 := HB1.out.2.1.frozen 5
 have z6 := HB1.out.2.1.cell 6 (v := .bool false) rfl
 have y6 := HB1.out.2.1.frozen 6
 have HF : Hid (Blk (((((((V0.setCell ⟨w.heap.size + 1,0,none⟩ (.string ⟨#[]⟩)).setCell ⟨w.heap.size + 1,1,none⟩ (.slice none 0 0)).setCell ⟨w.heap.size + 1,2,none⟩ (.slice none 0 0)).setCell ⟨w.heap.size + 1,3,none⟩ (.int .i64 0)).setCell ⟨w.heap.size + 1,4,none⟩ (.string ⟨#[]⟩)).setCell ⟨w.heap.size + 1,5,none⟩ (.slice none 0 0)).setCell ⟨w.heap.size + 1,6,none⟩ (.bool false)) (w.heap.size + 1) #[.string ⟨#[]⟩,.slice none 0 0,.slice none 0 0,.int .i64 0,.string ⟨#[]⟩,.slice none 0 0,.bool false] 51 ∧ Below w.heap.size w (((((((V0.setCell ⟨w.heap.size + 1,0,none⟩ (.string ⟨#[]⟩)).setCell ⟨w.heap.size + 1,1,none⟩ (.slice none 0 0)).setCell ⟨w.heap.size + 1,2,none⟩ (.slice none 0 0)).setCell ⟨w.heap.size + 1,3,none⟩ (.int .i64 0)).setCell ⟨w.heap.size + 1,4,none⟩ (.string ⟨#[]⟩)).setCell ⟨w.heap.size + 1,5,none⟩ (.slice none 0 0)).setCell ⟨w.heap.size + 1,6,none⟩ (.bool false))) := by
  have h := HB1.out.2.1
  have hb := HB1.out.2.2
  exact ⟨(((((((h.set 0 _).set 1 _).set 2 _).set 3 _).set 4 _).set 5 _).set 6 _),(((((((hb.setCell (by simp) _).setCell (by simp) _).setCell (by simp) _).setCell (by simp) _).setCell (by simp) _).setCell (by simp) _).setCell (by simp) _)⟩
 go_wp2
 generalize (((((((V0.setCell ⟨w.heap.size + 1,0,none⟩ (.string ⟨#[]⟩)).setCell ⟨w.heap.size + 1,1,none⟩ (.slice none 0 0)).setCell ⟨w.heap.size + 1,2,none⟩ (.slice none 0 0)).setCell ⟨w.heap.size + 1,3,none⟩ (.int .i64 0)).setCell ⟨w.heap.size + 1,4,none⟩ (.string ⟨#[]⟩)).setCell ⟨w.heap.size + 1,5,none⟩ (.slice none 0 0)).setCell ⟨w.heap.size + 1,6,none⟩ (.bool false)) = WG at HF ⊢
 obtain ⟨k0,k1,k2,k3,k4,k5,k6⟩ := HF.out.1.c7
 refine bodyPost_ret (v := .tuple #[.agg #[.string ⟨#[]⟩,.slice none 0 0,.slice none 0 0,.int .i64 0,.string ⟨#[]⟩,.slice none 0 0,.bool false],.int .i64 0,.bool false]) (by simp [results,Tryz.results43,go_sem,k0,k1,k2,k3,k4,k5,k6]) rfl ⟨rfl,HF.out.2⟩
set_option maxHeartbeats 2000000 in
set_option maxRecDepth 100000 in
theorem rtable_at (v : Value) (s : Sch) (name : ByteArray) (w : World) (hs : SchIs w v s) (i : Nat) (t : Tbl) (ht : s.tables[i]? = some t) (hi : tblAt s name = (i : Int)) : Calls Tryz.prog 43 #[v,.string name] w fun e w' => ∃ cs',e = .returned (.tuple #[.agg cs',.int .i64 i,.bool true]) ∧ TblIs w' cs' t ∧ Below w.heap.size w w' := by
 obtain ⟨a0,c0,a1,c1,a2,c2,a3,c3,a4,c4,a5,c5,rfl,h0,h1,h2,h3,h4,h5⟩ := hs.parts
 have HB0 : Hid (Blk ((w.alloc (.cells (bxA s a0 c0 a1 c1 a2 c2 a3 c3 a4 c4 a5 c5) 34)).alloc (.cells #[.string ⟨#[]⟩,.slice none 0 0,.slice none 0 0,.int .i64 0,.string ⟨#[]⟩,.slice none 0 0,.bool false] 51)) w.heap.size (bxA s a0 c0 a1 c1 a2 c2 a3 c3 a4 c4 a5 c5) 34 ∧ Blk ((w.alloc (.cells (bxA s a0 c0 a1 c1 a2 c2 a3 c3 a4 c4 a5 c5) 34)).alloc (.cells #[.string ⟨#[]⟩,.slice none 0 0,.slice none 0 0,.int .i64 0,.string ⟨#[]⟩,.slice none 0 0,.bool false] 51)) (w.heap.size + 1) #[.string ⟨#[]⟩,.slice none 0 0,.slice none 0 0,.int .i64 0,.string ⟨#[]⟩,.slice none 0 0,.bool false] 51 ∧ Below w.heap.size w ((w.alloc (.cells (bxA s a0 c0 a1 c1 a2 c2 a3 c3 a4 c4 a5 c5) 34)).alloc (.cells #[.string ⟨#[]⟩,.slice none 0 0,.slice none 0 0,.int .i64 0,.string ⟨#[]⟩,.slice none 0 0,.bool false] 51))) :=
  ⟨(Blk.new w (bxA s a0 c0 a1 c1 a2 c2 a3 c3 a4 c4 a5 c5) 34).below ((Below.refl _ _).alloc (Nat.le_refl _) _),by simpa using Blk.new (w.alloc (.cells (bxA s a0 c0 a1 c1 a2 c2 a3 c3 a4 c4 a5 c5) 34)) #[.string ⟨#[]⟩,.slice none 0 0,.slice none 0 0,.int .i64 0,.string ⟨#[]⟩,.slice none 0 0,.bool false] 51,((Below.refl _ _).alloc (Nat.le_refl _) _).alloc (by simp) _⟩
 have C : Hid (∀ W,Pres w W → Calls Tryz.prog 131 #[.agg (bxA s a0 c0 a1 c1 a2 c2 a3 c3 a4 c4 a5 c5),.string name] W fun e w' => e = .returned (.int .i64 (tblAt s name)) ∧ Below W.heap.size W w') := fun W hp => rtblAt_any _ s name W (hs.pres hp)
 rw [hi] at C
 have H4 : Hid (TblRow w (.slice a4 s.tables.length c4) s.tables) := h4
 clear hs h0 h1 h2 h3 h4 h5 hi
 go_enter Tryz.func43,Tryz.ntmps43
 go_upto_region 1 with fail
 generalize ((w.alloc _).alloc _) = W0 at HB0 ⊢
 obtain ⟨p0,p1,p2,p3,p4,p5⟩ := HB0.out.1.c6
 go_wp2_with fail
 refine (C.out _ (pres_below HB0.out.2.2)).mono ?_
 rintro e V0 ⟨rfl,hb0⟩
 have HB1 : Hid (Blk V0 w.heap.size (bxA s a0 c0 a1 c1 a2 c2 a3 c3 a4 c4 a5 c5) 34 ∧ Blk V0 (w.heap.size + 1) #[.string ⟨#[]⟩,.slice none 0 0,.slice none 0 0,.int .i64 0,.string ⟨#[]⟩,.slice none 0 0,.bool false] 51 ∧ Below w.heap.size w V0) := ⟨HB0.out.1.below hb0,HB0.out.2.1.below hb0,bst HB0.out.2.2 hb0 (Nat.le_refl _)⟩
 clear hb0 HB0 C p0 p1 p2 p3 p4 p5
 have p4 := HB1.out.1.cell 4 (v := .slice a4 s.tables.length c4) rfl
 have hlt : i < s.tables.length := (List.getElem?_eq_some_iff.1 ht).1
 obtain ⟨b,o,⟨cl⟩,rfl,hsz,hcl,hI⟩ := H4.out.1.at ht
 have hcs : cl.length = 7 := hsz
 have hz : (Tryz.prog.info? 51).map (·.size) = some 7 := by kernel_rfl
 have hz' : (Tryz.prog.info? 51).map (·.size) = some cl.length := by rw [hcs]; exact hz
 have R1 : Hid (V0.rangeAt b (o + i * 7) cl) := fun j u hu => pres_below HB1.out.2.2 _ _ (hcl j u (by simpa using hu))
 have hb4 : (0 : Int) ≤ (i : Int) ∧ (i : Int) < (s.tables.length : Int) := by omega
 have hn : ¬ ((i : Int) < 0) := by omega
 have HI : Hid (TblIs w cl.toArray t) := hI
 clear ht hcl hI hsz H4
 have hone : cl.toArray.all (·.oneCell') = true := tbl_good.one HI.out
 have HON : Hid (cl.toArray.all (·.oneCell') = true) := hone
 have hd' : (Tryz.prog.info? 51).map (·.size) = some cl.toArray.size := by rw [List.size_toArray,hcs]; exact hz
 have TH : Hid (V0.there (w.heap.size + 1) 0 cl.toArray.size) := blk_there HB1.out.2.1 (by simp [hcs])
 have HF : Hid ((V0.setCells (w.heap.size + 1) 0 cl).rangeAt (w.heap.size + 1) 0 cl ∧ TblIs (V0.setCells (w.heap.size + 1) 0 cl) cl.toArray t ∧ Below w.heap.size w (V0.setCells (w.heap.size + 1) 0 cl)) := by
  have hbl := below_setCells HB1.out.2.2 (show w.heap.size ≤ w.heap.size + 1 by omega) 0 cl
  exact ⟨World.rangeAt_setCells_same _ _ _ _ TH.out,HI.out.pres (pres_below hbl),hbl⟩
 clear hone
 go_wp2_with (first | (refine wpList_load_mid rfl 51 _ rfl b (o + i * 7) rfl cl _ R1.out Tryz.underlying51 rfl hz' ?_) | (refine wpList_store_mid rfl 51 _ _ rfl (w.heap.size + 1) 0 cl.toArray rfl rfl TH.out hd' HON.out ?_))
 clear TH
 generalize V0.setCells (w.heap.size + 1) 0 cl = WF at HF ⊢
 have hl : ∃ x0 x1 x2 x3 x4 x5 x6,cl = [x0,x1,x2,x3,x4,x5,x6] := by
  have := hcs
  match cl,this with
  | [x0,x1,x2,x3,x4,x5,x6],_ => exact ⟨x0,x1,x2,x3,x4,x5,x6,rfl⟩
 obtain ⟨x0,x1,x2,x3,x4,x5,x6,rfl⟩ := hl
 have k0 := HF.out.1 0 x0 rfl
 have k1 := HF.out.1 1 x1 rfl
 have k2 := HF.out.1 2 x2 rfl
 have k3 := HF.out.1 3 x3 rfl
 have k4 := HF.out.1 4 x4 rfl
 have k5 := HF.out.1 5 x5 rfl
 have k6 := HF.out.1 6 x6 rfl
 simp only [Nat.zero_add] at k0 k1 k2 k3 k4 k5 k6
 refine bodyPost_ret (v := .tuple #[.agg #[x0,x1,x2,x3,x4,x5,x6],.int .i64 i,.bool true]) (by simp [results,Tryz.results43,go_sem,k0,k1,k2,k3,k4,k5,k6]) rfl ⟨_,rfl,HF.out.2.1,HF.out.2.2⟩
end Go.Proofs.YtmbpclknhkbbkaaGreat
