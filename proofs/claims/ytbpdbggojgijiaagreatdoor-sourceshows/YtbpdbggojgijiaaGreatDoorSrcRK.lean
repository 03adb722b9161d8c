/- The document's own: data from a text. -/
import Derived.Test.YtbpdbggojgijiaaGreatDoorSrcRC
import Derived.Test.YtbpdbggojgijiaaGreatDoorSrcRE
import Derived.Test.YtbpdbggojgijiaaGreatDoorSrcRF
import Derived.Test.YtbpdbggojgijiaaGreatDoorSrcRG
import Derived.Test.YtbpdbggojgijiaaGreatDoorSrcRH
import Derived.Test.YtbpdbggojgijiaaGreatDoorSrcRI
import Derived.Test.YtbpdbggojgijiaaGreatDoorSrcRJ
import Derived.Test.YtbpdbggojgijiaaGreatDoorRefJAll
namespace Go.Proofs.YtbpdbggojgijiaaGreatDoor.Src
open Go Go.RowKit Go.Maps
set_option linter.unusedVariables false
set_option linter.unusedSimpArgs false

theorem wp_code {P : Program} {c c' : Code} {Q : Exit → Act → World → Prop} {a : Act} {w : World} (h : c = c') (hw : c'.wp P Q a w) : c.wp P Q a w := h ▸ hw
theorem gi_on {B db : Nat} {d : PD} {w w' : World} (h : GI B db d w) (hb : Below w.heap.size w w') : GI B db d w' := by
  obtain ⟨v1, v2, v3, vs, zs, hd, hs, hz, hlk⟩ := h
  have hk : KT [] w w' := kt_on hb
  exact ⟨v1, v2, v3, vs, zs, heap_on hd hb, hs.kt hk (by simp) (by simp), hz.kt hk (by simp) (by simp), kt_own hk hlk (by simp)⟩
theorem bthB {B : Nat} {W a b : World} (h : Below B W a) (hB : B ≤ a.heap.size) (k : Below a.heap.size a b) : Below B W b := h.trans (k.mono hB)
/-- words, with empty ones behind -/
theorem wd_pad (ws : List By) (i : Nat) (h : i < ws.length + 10) : (ws ++ List.replicate 10 [])[i]? = some (wd ws i) := by
  unfold wd
  rw [List.getD_eq_getElem?_getD]
  by_cases e : i < ws.length
  · rw [List.getElem?_append_left e, List.getElem?_eq_getElem e]
    rfl
  · rw [List.getElem?_append_right (by omega), List.getElem?_eq_none (by omega : ws.length ≤ i), List.getElem?_replicate, if_pos (by omega)]
    rfl
theorem own_cs {w : World} {B n c g : Nat} {e : TypeId} {xs : List Value} (h : w.ownsRow B e 1 (.slice (some ⟨g, 0, none⟩) n c) n xs) : ∃ cs, w.heap[g]? = some (.cells cs e) ∧ ∀ (i : Nat) (u : Value), xs[i]? = some u → cs[i]? = some u := by
  rcases h.2 with ⟨hv, _⟩ | ⟨g', cap, cur, hv, h2, h3, h4, h5, h6, h7⟩
  · cases hv
  · obtain rfl : g = g' := by
      injection hv with h8 h9 h10
      injection h8 with h8
      injection h8
    refine ⟨cur, h3, fun i u hu => ?_⟩
    rw [← h7, List.getElem?_take] at hu
    split at hu
    · rw [← Array.getElem?_toList]
      exact hu
    · cases hu
/-- what the document's own takes a text for -/
def fromP (l : By) : PD := takeL sayP pd0 (((cutB 10 l).take ((cutB 10 l).length - 1)).map (cutB 32))
def dfQ (l : By) (e : Ending) (w' : World) : Prop := ∃ D : Dt, DAt w' D ∧ D.fits ∧ pdOf D = fromP l ∧ ((chkE D = 0 ∧ showD D = l ∧ e = .returned (.tuple #[D.v, .bool true])) ∨ (¬ (chkE D = 0 ∧ showD D = l) ∧ e = .returned (.tuple #[zD, .bool false])))
set_option maxRecDepth 100000 in
set_option maxHeartbeats 32000000 in
theorem DataFrom_c (sl : By) (w : World) (hs : sl.length ≤ 4096) : Calls Tryz.prog 11 #[.string ⟨sl.toArray⟩] w fun e w' => dfQ sl e w' ∧ Below w.heap.size w w' := by
  obtain ⟨i0, hi, hz0, hz1, hz2⟩ := info_parts info_str
  have b0 := (Below.refl _ w).alloc (Nat.le_refl _) (.cells #[.slice none 0 0, .slice none 0 0, .slice none 0 0] 26)
  have r0 := World.alloc_heap_new w (.cells #[.slice none 0 0, .slice none 0 0, .slice none 0 0] 26)
  obtain ⟨W1, hW1⟩ : ∃ W1, W1 = w.alloc (.cells #[.slice none 0 0, .slice none 0 0, .slice none 0 0] 26) := ⟨_, rfl⟩
  rw [← hW1] at b0 r0
  have HS10 : Hid (Calls Tryz.prog 29 #[.string ⟨sl.toArray⟩, .int .u8 10] W1 fun e w' => spQ 10 sl W1 e w') := split_c ⟨sl.toArray⟩ 10 W1 (by show sl.toArray.size ≤ _; simp; omega)
  obtain ⟨ls, hls⟩ : ∃ ls, ls = cutB 10 sl := ⟨_, rfl⟩
  obtain ⟨n, hn⟩ : ∃ n, ls.length = n := ⟨_, rfl⟩
  have hn1 : n ≤ 4097 := by
    have := cut_count (c := 10) sl
    rw [← hls, hn] at this
    omega
  have hn0 : 1 ≤ n := by
    have := cutB_ne 10 sl
    rw [← hls] at this
    have := List.length_pos_iff.2 this
    omega
  have HLl : Hid (∀ (k : Nat) (l : By), ls[k]? = some l → l.length ≤ 4096) := fun k l hl => by
    have := cut_len (c := 10) (l := sl) l (by rw [← hls]; exact List.mem_of_getElem? hl)
    omega
  have HF : Hid (takeL sayP pd0 ((ls.take (n - 1)).map (cutB 32)) = fromP sl) := by
    show _ = takeL sayP pd0 (((cutB 10 sl).take ((cutB 10 sl).length - 1)).map (cutB 32))
    rw [← hls, hn]
  have HW1 := hideS hW1
  have HB0 := hideS b0
  have HR0 := hideS r0
  have HN := hideS hn
  have HLs := hideS hls
  have HSd : Hid (∀ (T : By) (v : World), Calls Tryz.prog 30 #[.string ⟨T.toArray⟩] v fun e w' => e = .returned (.int .i64 (sayP T)) ∧ w' = v) := fun T v => said_c ⟨T.toArray⟩ v
  clear b0 r0 hW1 hls hn
  go_enter Tryz.func11, Tryz.ntmps11
  go_wp2_with (go_at_call 29; rw [← HW1.out]; refine HS10.out.mono ?_; rintro e w1 ⟨v, rfl, o1, b1⟩; refine unhid ?_)
  rw [← HLs.out, HN.out] at o1
  obtain ⟨gl, cl, rfl⟩ := own_some o1 hn0
  obtain ⟨cs1, hcs1, hx1⟩ := own_cs o1
  have b2 := (Below.refl _ w1).alloc (Nat.le_refl _) (.cells #[.slice none 0 0, .slice none 0 0, .slice none 0 0] 26)
  have r2 := World.alloc_heap_new w1 (.cells #[.slice none 0 0, .slice none 0 0, .slice none 0 0] 26)
  have hgl : gl < w1.heap.size := (Array.getElem?_eq_some_iff.1 hcs1).1
  have h2 := heap_on hcs1 b2
  have r3 := heap_on (heap_on HR0.out b1) b2
  have hwl : w.heap.size < w1.heap.size := by
    have := (Array.getElem?_eq_some_iff.1 (heap_on HR0.out b1)).1
    exact this
  have HBW := hideS (bthen (bthen HB0.out b1) b2)
  obtain ⟨B, hB⟩ : ∃ B, B = w1.heap.size := ⟨_, rfl⟩
  obtain ⟨W2, hW2⟩ : ∃ W2, W2 = w1.alloc (.cells #[.slice none 0 0, .slice none 0 0, .slice none 0 0] 26) := ⟨_, rfl⟩
  have hszW : W2.heap.size = B + 1 := by rw [hW2, hB]; simp
  rw [← hW2] at h2 r2 r3 HBW
  rw [← hB] at r2 hgl hwl
  have HLr : Hid (∀ v : World, Below B W2 v → ∀ (k : Nat) (l : By), ls[k]? = some l → v.cell? ⟨gl, k, none⟩ = some (.string ⟨l.toArray⟩)) := fun v hv k l hl => by
    rw [Lib.cell_of_heap ((hv.block gl hgl).trans h2)]
    exact hx1 k _ (by rw [List.getElem?_map, hl]; rfl)
  have HR2 : Hid (∀ v : World, Below B W2 v → v.heap[w.heap.size]? = some (.cells #[.slice none 0 0, .slice none 0 0, .slice none 0 0] 26)) := fun v hv => (hv.block _ hwl).trans r3
  have HI0 : Hid (GI B B (takeL sayP pd0 ((ls.take 0).map (cutB 32))) W2) := gi_new r2
  have HM0 : Hid (lim 0 4096 (takeL sayP pd0 ((ls.take 0).map (cutB 32)))) := lim0 4096
  have HB2 := hideS (Below.refl B W2)
  have HhB := hideS hB
  have HhW := hideS hW2
  clear o1 hcs1 hx1 b2 r2 h2 r3 hB hW2 b1
  refine hideS ?_
  go_wp2_with fail
  simp only [← HhB.out, ← HhW.out]
  go_loopw [6] (fun x6 wr => ∃ k : Nat, k + 1 ≤ n ∧ x6 = .int .i64 k ∧ Hid (GI B B (takeL sayP pd0 ((ls.take k).map (cutB 32))) wr) ∧ Hid (lim k 4096 (takeL sayP pd0 ((ls.take k).map (cutB 32)))) ∧ Hid (Below B W2 wr)) (fun x6 _ => n - (intOf x6).toNat)
  case atStart => exact ⟨0, hn0, rfl, HI0, HM0, HB2⟩
  case round =>
    obtain ⟨k, hk, rfl, HI, HM, HBk⟩ := hrel
    by_cases hlt : k + 1 < n
    · obtain ⟨l, hl⟩ : ∃ l, ls[k]? = some l := ⟨_, List.getElem?_eq_getElem (by rw [HN.out]; omega)⟩
      have c0 := HLr.out wr HBk.out k l hl
      have hll := HLl.out k l hl
      have hszr : B ≤ wr.heap.size := by have := HBk.out.size; omega
      have HSp : Hid (Calls Tryz.prog 29 #[.string ⟨l.toArray⟩, .int .u8 32] wr fun e w' => spQ 32 l wr e w') := split_c ⟨l.toArray⟩ 32 wr (by show l.toArray.size ≤ _; simp; omega)
      have HE := hideS (takeL_succ sayP ls k l hl)
      have M9 : Hid (lim (k + 1) 4096 (takeL sayP pd0 ((ls.take (k + 1)).map (cutB 32)))) := by
        show lim _ _ _
        rw [HE.out]
        exact lim_take HM.out fun i => Nat.le_trans (wd_len l i) hll
      obtain ⟨d, hd0⟩ : ∃ d, d = takeL sayP pd0 ((ls.take k).map (cutB 32)) := ⟨_, rfl⟩
      obtain ⟨ws, hws⟩ : ∃ ws, ws = cutB 32 l := ⟨_, rfl⟩
      obtain ⟨nw, hnw⟩ : ∃ nw, nw = ws.length := ⟨_, rfl⟩
      have hnw1 : nw ≤ 4097 := by
        have := cut_count (c := 32) l
        rw [← hws, ← hnw] at this
        omega
      rw [← hd0] at HI HM HE
      rw [← hws] at HE
      have hk0 : decide ((k : Int) < 0) = false := by simp
      have hkn : decide (n ≤ k) = false := by simp; omega
      have hki : (k : Int) < (n : Int) := by omega
      have hki2 : (k : Int) + 1 < (n : Int) := by omega
      have HWs := hideS hws
      have HNw := hideS hnw
      clear hl hd0 hws hnw
      go_wp2_with (first
        | (go_at_call 29; refine HSp.out.mono ?_; rintro e w4 ⟨v4, rfl, o4, b4⟩; rw [← HWs.out, ← HNw.out] at o4; have O4 := hideS o4; have B4 := hideS b4; have hs4 : wr.heap.size ≤ w4.heap.size := b4.size; clear o4 b4)
        | (at_builtin; refine wpList_append_lies _ rfl _ _ 57 rfl wr.heap.size 9 i0 (.string ⟨#[]⟩) 1 16 Tryz.underlying57 hi hz0 hz1 hz2 rfl (by decide) _ _ _ rfl (O4.out.alloc _) ⟨w4.heap.size, 0, none⟩ 10 10 (List.replicate 10 (.string ⟨#[]⟩)) rfl rfl (World.news_of_block (World.alloc_heap_new w4 _)) (by simp [Value.oneCell']) (by decide) (by unfold maxLen; omega) (by omega) (by simp; omega) _ rfl ?_; intro g4 q4 w5 hown hgrow hat hl1; refine Hid.out ?_))
      refine hideS ?_
      have B5 := below_grown0 (B4.out.alloc hs4 _) (O4.out.alloc _) hgrow
      obtain ⟨cs, hcs, hx⟩ := own_cs hown
      have HG5 := hideS hcs
      have HC5 : Hid (∀ i, i < nw + 10 → cs[i]? = some (.string ⟨(wd ws i).toArray⟩)) := fun i hi => by
        refine hx i _ ?_
        have e : ((ws.map fun x => Value.string ⟨x.toArray⟩) ++ List.replicate 10 (Value.string ⟨#[]⟩)) = (ws ++ List.replicate 10 ([] : By)).map fun (x : By) => Value.string ⟨x.toArray⟩ := by
          rw [List.map_append, List.map_replicate]
        rw [e, List.getElem?_map, wd_pad ws i (by rw [← HNw.out]; exact hi)]
        rfl
      have HB5 := hideS (bthB HBk.out hszr B5)
      have HS5 : B ≤ w5.heap.size := Nat.le_trans hszr B5.size
      obtain ⟨v1, v2, v3, vs, zs, hd, hs, hz, hlk⟩ := gi_on HI.out B5
      obtain ⟨s1, c1, rfl⟩ := ownS_sl hs.row
      obtain ⟨s2, c2, rfl⟩ := ownS_sl hz.row
      obtain ⟨s3, c3, rfl⟩ := ownS_sl hlk
      have c30 : w5.cell? ⟨g4, 0, none⟩ = some (.string ⟨(wd ws 0).toArray⟩) := by rw [Lib.cell_of_heap hcs]; exact HC5.out 0 (by omega)
      obtain ⟨H, hH⟩ : ∃ H, wd ws 0 = H := ⟨_, rfl⟩
      rw [hH] at c30
      have hj0 : decide (nw + 10 ≤ 0) = false := by simp
      have hj1 : (0 : Int) < (nw : Int) + 10 := by omega
      have hj2 : 0 < nw + 10 := by omega
      clear hown hgrow hat hcs hx O4 B4 HI HBk c0 B5 hs4 HSp
      by_cases k1 : H = wSet
      · rw [k1] at c30
        have HTk : Hid (takeW sayP d ws = { d with sets := d.sets ++ [(wd ws 1, [])] }) := by
          show takeW sayP d ws = _
          unfold takeW
          rw [hH]
          rw [if_pos k1]
        go_upto_region 9 with fail
        refine wp_code (c' := (regF 9 (Tryz.f11.body.getD .skip)).getD .skip) (by kernel_rfl) ?_
        refine df9 (fun _ d _ _ _ h => by cases d <;> exact h) B B g4 (nw + 10) q4 (wd ws 1) cs w5 s1 _ c1 _ _ _ hd HG5.out (HC5.out 1 (by omega)) (by omega) HS5 (Nat.le_refl _) hs.row (by have := HM.out.s; omega) ?_
        intro a6 c6 w6 y33 y34 y35 y36 y37 y38 y39 y40 y41 g6 o6 b6 k6
        have G6 : Hid (GI B B (takeW sayP d ws) w6) := by
          show GI B B _ w6
          rw [HTk.out]
          exact ⟨_, _, _, _, _, g6, hs.more (wd ws 1) rfl k6 (by decide) o6, hz.kt k6 (by decide) (by decide), kt_own k6 hlk (by decide)⟩
        clear g6 o6 k6 hs hz hlk hd
        have I9 : Hid (GI B B (takeL sayP pd0 ((ls.take (k + 1)).map (cutB 32))) w6) := by
          show GI _ _ _ _
          rw [HE.out]
          exact G6.out
        have B9 : Hid (Below B W2 w6) := HB5.out.trans b6
        go_wp2_with fail
        go_roundw
        case rel => exact ⟨k + 1, by omega, by go_num, I9, M9, B9⟩
        case measure => simp [intOf]; omega
      by_cases k2 : H = wRule
      · rw [k2] at c30
        have HTk : Hid (takeW sayP d ws = { d with sets := onLast (ruleOf sayP ws) d.sets }) := by
          show takeW sayP d ws = _
          unfold takeW
          rw [hH]
          rw [if_neg k1, if_pos k2]
        go_upto_region 11 with fail
        refine wp_code (c' := (regF 11 (Tryz.f11.body.getD .skip)).getD .skip) (by kernel_rfl) ?_
        refine df11 (fun _ d _ _ _ h => by cases d <;> exact h) g4 (nw + 10) q4 (wd ws 1) (wd ws 2) (wd ws 3) (wd ws 4) (wd ws 5) (wd ws 6) (wd ws 7) (wd ws 8) (wd ws 9) (sayP (wd ws 1)) (sayP (wd ws 2)) (sayP (wd ws 3)) (sayP (wd ws 4)) (sayP (wd ws 5)) (sayP (wd ws 6)) (sayP (wd ws 7)) (sayP (wd ws 8)) cs w5 HG5.out (HC5.out 1 (by omega)) (HC5.out 2 (by omega)) (HC5.out 3 (by omega)) (HC5.out 4 (by omega)) (HC5.out 5 (by omega)) (HC5.out 6 (by omega)) (HC5.out 7 (by omega)) (HC5.out 8 (by omega)) (HC5.out 9 (by omega)) (by omega) (HSd.out _) (HSd.out _) (HSd.out _) (HSd.out _) (HSd.out _) (HSd.out _) (HSd.out _) (HSd.out _) ?_
        intro rb w6 y44 y45 y46 y47 y48 y49 y50 y51 y52 y53 y54 y55 y56 y57 y58 y59 y60 y61 y62 y63 y64 y65 y66 y67 y68 y69 y70 y71 y72 y73 y74 y75 y76 y77 y78 y79 y80 g6 s6 b6
        by_cases hT9 : wd ws 9 = [45]
        · have R6 : Hid (w6.heap[rb]? = _) := g6
          have x8 : w6.cell? ⟨rb, 8, none⟩ = some (.string ⟨(wd ws 9).toArray⟩) := by rw [Lib.cell_of_heap g6]; rfl
          have y8 : w6.frozen? ⟨rb, 8, none⟩ = false := Lib.frozen_of_heap g6 _
          rw [hT9] at x8
          have b7 : Below w5.heap.size w5 (w6.setCell ⟨rb, 8, none⟩ (.string ⟨#[]⟩)) := b6.setCell (p := ⟨rb, 8, none⟩) s6 _
          have R7 : (w6.setCell ⟨rb, 8, none⟩ (.string ⟨#[]⟩)).heap[rb]? = some (.cells #[.int .i64 (sayP (wd ws 1)), .int .i64 (sayP (wd ws 2)), .int .i64 (sayP (wd ws 3)), .int .i64 (sayP (wd ws 4)), .int .i64 (sayP (wd ws 5)), .int .i64 (sayP (wd ws 6)), .int .i64 (sayP (wd ws 7)), .int .i64 (sayP (wd ws 8)), .string (ruleOf sayP ws).s] 65) := by
            have := setCell_at (o := 8) g6 (.string ⟨#[]⟩)
            rw [this]
            have e : (ruleOf sayP ws).s = ⟨#[]⟩ := by
              show (⟨(if wd ws 9 = [45] then [] else wd ws 9).toArray⟩ : ByteArray) = _
              rw [if_pos hT9]
            rw [e]
            rfl
          clear g6
          go_upto_region 14 with fail
          obtain ⟨w7, hw7⟩ : ∃ w7, w7 = w6.setCell ⟨rb, 8, none⟩ (.string ⟨#[]⟩) := ⟨_, rfl⟩
          rw [← hw7] at b7 R7
          simp only [← hw7]
          clear hw7 x8 y8 R6 b6
          have h7 := kt_on (ts := []) b7
          have hdq : w7.heap[B]? = _ := heap_on hd b7
          have HB7 := hideS (bthB HB5.out HS5 b7)
          have R7' := hideS R7
          obtain ⟨o0, o1, o2⟩ := cells3 hdq
          obtain ⟨ss, hss⟩ : ∃ ss, ss = d.sets := ⟨_, rfl⟩
          have hs7 := hs.kt h7 (by decide) (by decide)
          have ot7 := hz.kt h7 (by decide) (by decide)
          have lk7 := kt_own h7 hlk (by decide)
          have low := hs
          have hks := HM.out.s
          have hkr := HM.out.ss
          rw [← hss] at hdq o0 hs7 hks hkr HTk low
          rcases List.eq_nil_or_concat ss with rfl | ⟨L, ⟨nm, r0⟩, rfl⟩
          · clear hss
            have G6 : Hid (GI B B (takeW sayP d ws) w7) := by
              show GI B B _ w7
              rw [HTk.out]
              exact ⟨_, _, _, _, _, hdq, hs7, ot7, lk7⟩
            clear h7 hs7 ot7 lk7 R7 hdq hs hz hlk hd
            have I9 : Hid (GI B B (takeL sayP pd0 ((ls.take (k + 1)).map (cutB 32))) w7) := by
              show GI _ _ _ _
              rw [HE.out]
              exact G6.out
            have B9 : Hid (Below B W2 w7) := HB7.out
            go_wp2_with fail
            go_roundw
            case rel => exact ⟨k + 1, by omega, by go_num, I9, M9, B9⟩
            case measure => simp [intOf]; omega
          · clear hss
            rw [List.concat_eq_append] at *
            rw [onLast_app] at HTk
            have hvl := hs7.len
            rcases List.eq_nil_or_concat vs with rfl | ⟨us, uu, rfl⟩
            · simp at hvl
            rw [List.concat_eq_append] at *
            have hul : us.length = L.length := by simpa using hvl
            have hlL : (L ++ [(nm, r0)]).length = L.length + 1 := by simp
            rw [hlL] at hdq o0 hks hs7
            have hrow := hs7.row
            rw [hlL] at hrow
            obtain ⟨gs, cc, he⟩ := own_some hrow (by omega)
            injection he with he1 he2 he3
            subst he1
            have hin := hs7.ins L.length (nm, r0) uu (by simp) (by rw [← hul]; simp)
            have hin5 := low.ins L.length (nm, r0) uu (by simp) (by rw [← hul]; simp)
            obtain ⟨ra, rc, rfl⟩ := ownS_sl hin
            have hxs : (seL (L ++ [(nm, r0)]) (us ++ [.slice ra r0.length rc]))[L.length * 2 + 1]? = some (.slice ra r0.length rc) := by
              rw [seL_app hul.symm, List.getElem?_append_right (by rw [seL_len hul]; omega), seL_len hul]
              have e : L.length * 2 + 1 - L.length * 2 = 1 := by omega
              rw [e]
              rfl
            have hne : (Value.slice ra r0.length rc).ownBlock ≠ some rb := fun e => by
              have := (hin5.lt rb e).2
              omega
            have hrn : r0.length ≤ 1000000 := by
              have := (hkr (nm, r0) (by simp)).2.1
              simp only at this
              omega
            have hob := own_at hin
            have hpos : (0 : Int) < (L.length : Int) + 1 := by omega
            have HS7 : B ≤ w7.heap.size := by have := HB7.out.size; omega
            have HD7 := hideS hdq
            have HR7 := hideS hrow
            have HI7 := hideS hin
            have HX7 := hideS hxs
            have HN7 := hideS hne
            have HO7 := hideS hob
            have HL7 := hideS hs7
            have OT7 := hideS ot7
            have LK7 := hideS lk7
            have HUL := hideS hul
            clear hdq hrow hin hxs hne hob hs7 ot7 lk7 hul hvl hlL low hin5 R7 h7 hs hz hlk hd he2 he3 hkr
            go_upto_region 16 with fail
            refine wp_code (c' := (regF 16 (Tryz.f11.body.getD .skip)).getD .skip) (by kernel_rfl) ?_
            refine df16 (fun _ d _ _ _ h => by cases d <;> exact h) B B rb gs L.length (ruleOf sayP ws) w7 c1 _ _ _ (ruL r0) ra r0.length rc HD7.out R7'.out HN7.out HS7 (Nat.le_refl _) HR7.out HX7.out HI7.out (by omega) hrn ?_
            intro a8 c8 w8 y90 y91 y92 y93 y94 y95 y96 y97 y98 y99 y100 y101 y102 y103 y104 y105 g8 o8 i8 b8 k8 at8
            have G8 : Hid (GI B B (takeW sayP d ws) w8) := by
              show GI B B _ w8
              rw [HTk.out]
              have lk8 : w8.ownsRow B 54 2 _ _ _ := kt_own (ts := [47, 65]) (fun b cs ty fr hb h1 => k8 b cs ty fr hb (fun e => h1 (List.mem_of_mem_take (i := 1) e)) fun e => by
                obtain ⟨c, hc⟩ := HO7.out b e.symm
                rw [hb] at hc
                simp at hc
                exact h1 (by rw [hc.2.1]; decide)) LK7.out (by decide)
              have ll := HL7.out.last (ruleOf sayP ws) (by unfold ruL; rw [List.flatMap_append]) HUL.out k8 (by decide) o8 i8 at8
              have ot := OT7.out.ko k8 HO7.out (by decide) (by decide) (by decide) (by decide)
              exact ⟨_, _, _, _, _, g8, ll, ot, lk8⟩
            clear g8 o8 i8 k8 at8
            have I9 : Hid (GI B B (takeL sayP pd0 ((ls.take (k + 1)).map (cutB 32))) w8) := by
              show GI _ _ _ _
              rw [HE.out]
              exact G8.out
            have B9 : Hid (Below B W2 w8) := HB7.out.trans b8
            go_wp2_with fail
            go_roundw
            case rel => exact ⟨k + 1, by omega, by go_num, I9, M9, B9⟩
            case measure => simp [intOf]; omega
        · have x8 : w6.cell? ⟨rb, 8, none⟩ = some (.string ⟨(wd ws 9).toArray⟩) := by rw [Lib.cell_of_heap g6]; rfl
          have hn9 : (wd ws 9 == [45]) = false := beq_eq_false_iff_ne.2 hT9
          have b7 := b6
          have R7 : w6.heap[rb]? = some (.cells #[.int .i64 (sayP (wd ws 1)), .int .i64 (sayP (wd ws 2)), .int .i64 (sayP (wd ws 3)), .int .i64 (sayP (wd ws 4)), .int .i64 (sayP (wd ws 5)), .int .i64 (sayP (wd ws 6)), .int .i64 (sayP (wd ws 7)), .int .i64 (sayP (wd ws 8)), .string (ruleOf sayP ws).s] 65) := by
            rw [g6]
            have e : (ruleOf sayP ws).s = ⟨(wd ws 9).toArray⟩ := by
              show (⟨(if wd ws 9 = [45] then [] else wd ws 9).toArray⟩ : ByteArray) = _
              rw [if_neg hT9]
            rw [e]
          clear g6
          go_upto_region 14 with fail
          obtain ⟨w7, hw7⟩ : ∃ w7, w7 = w6 := ⟨_, rfl⟩
          rw [← hw7] at b7 R7
          simp only [← hw7]
          clear hw7 x8 b6 hn9
          have h7 := kt_on (ts := []) b7
          have hdq : w7.heap[B]? = _ := heap_on hd b7
          have HB7 := hideS (bthB HB5.out HS5 b7)
          have R7' := hideS R7
          obtain ⟨o0, o1, o2⟩ := cells3 hdq
          obtain ⟨ss, hss⟩ : ∃ ss, ss = d.sets := ⟨_, rfl⟩
          have hs7 := hs.kt h7 (by decide) (by decide)
          have ot7 := hz.kt h7 (by decide) (by decide)
          have lk7 := kt_own h7 hlk (by decide)
          have low := hs
          have hks := HM.out.s
          have hkr := HM.out.ss
          rw [← hss] at hdq o0 hs7 hks hkr HTk low
          rcases List.eq_nil_or_concat ss with rfl | ⟨L, ⟨nm, r0⟩, rfl⟩
          · clear hss
            have G6 : Hid (GI B B (takeW sayP d ws) w7) := by
              show GI B B _ w7
              rw [HTk.out]
              exact ⟨_, _, _, _, _, hdq, hs7, ot7, lk7⟩
            clear h7 hs7 ot7 lk7 R7 hdq hs hz hlk hd
            have I9 : Hid (GI B B (takeL sayP pd0 ((ls.take (k + 1)).map (cutB 32))) w7) := by
              show GI _ _ _ _
              rw [HE.out]
              exact G6.out
            have B9 : Hid (Below B W2 w7) := HB7.out
            go_wp2_with fail
            go_roundw
            case rel => exact ⟨k + 1, by omega, by go_num, I9, M9, B9⟩
            case measure => simp [intOf]; omega
          · clear hss
            rw [List.concat_eq_append] at *
            rw [onLast_app] at HTk
            have hvl := hs7.len
            rcases List.eq_nil_or_concat vs with rfl | ⟨us, uu, rfl⟩
            · simp at hvl
            rw [List.concat_eq_append] at *
            have hul : us.length = L.length := by simpa using hvl
            have hlL : (L ++ [(nm, r0)]).length = L.length + 1 := by simp
            rw [hlL] at hdq o0 hks hs7
            have hrow := hs7.row
            rw [hlL] at hrow
            obtain ⟨gs, cc, he⟩ := own_some hrow (by omega)
            injection he with he1 he2 he3
            subst he1
            have hin := hs7.ins L.length (nm, r0) uu (by simp) (by rw [← hul]; simp)
            have hin5 := low.ins L.length (nm, r0) uu (by simp) (by rw [← hul]; simp)
            obtain ⟨ra, rc, rfl⟩ := ownS_sl hin
            have hxs : (seL (L ++ [(nm, r0)]) (us ++ [.slice ra r0.length rc]))[L.length * 2 + 1]? = some (.slice ra r0.length rc) := by
              rw [seL_app hul.symm, List.getElem?_append_right (by rw [seL_len hul]; omega), seL_len hul]
              have e : L.length * 2 + 1 - L.length * 2 = 1 := by omega
              rw [e]
              rfl
            have hne : (Value.slice ra r0.length rc).ownBlock ≠ some rb := fun e => by
              have := (hin5.lt rb e).2
              omega
            have hrn : r0.length ≤ 1000000 := by
              have := (hkr (nm, r0) (by simp)).2.1
              simp only at this
              omega
            have hob := own_at hin
            have hpos : (0 : Int) < (L.length : Int) + 1 := by omega
            have HS7 : B ≤ w7.heap.size := by have := HB7.out.size; omega
            have HD7 := hideS hdq
            have HR7 := hideS hrow
            have HI7 := hideS hin
            have HX7 := hideS hxs
            have HN7 := hideS hne
            have HO7 := hideS hob
            have HL7 := hideS hs7
            have OT7 := hideS ot7
            have LK7 := hideS lk7
            have HUL := hideS hul
            clear hdq hrow hin hxs hne hob hs7 ot7 lk7 hul hvl hlL low hin5 R7 h7 hs hz hlk hd he2 he3 hkr
            go_upto_region 16 with fail
            refine wp_code (c' := (regF 16 (Tryz.f11.body.getD .skip)).getD .skip) (by kernel_rfl) ?_
            refine df16 (fun _ d _ _ _ h => by cases d <;> exact h) B B rb gs L.length (ruleOf sayP ws) w7 c1 _ _ _ (ruL r0) ra r0.length rc HD7.out R7'.out HN7.out HS7 (Nat.le_refl _) HR7.out HX7.out HI7.out (by omega) hrn ?_
            intro a8 c8 w8 y90 y91 y92 y93 y94 y95 y96 y97 y98 y99 y100 y101 y102 y103 y104 y105 g8 o8 i8 b8 k8 at8
            have G8 : Hid (GI B B (takeW sayP d ws) w8) := by
              show GI B B _ w8
              rw [HTk.out]
              have lk8 : w8.ownsRow B 54 2 _ _ _ := kt_own (ts := [47, 65]) (fun b cs ty fr hb h1 => k8 b cs ty fr hb (fun e => h1 (List.mem_of_mem_take (i := 1) e)) fun e => by
                obtain ⟨c, hc⟩ := HO7.out b e.symm
                rw [hb] at hc
                simp at hc
                exact h1 (by rw [hc.2.1]; decide)) LK7.out (by decide)
              have ll := HL7.out.last (ruleOf sayP ws) (by unfold ruL; rw [List.flatMap_append]) HUL.out k8 (by decide) o8 i8 at8
              have ot := OT7.out.ko k8 HO7.out (by decide) (by decide) (by decide) (by decide)
              exact ⟨_, _, _, _, _, g8, ll, ot, lk8⟩
            clear g8 o8 i8 k8 at8
            have I9 : Hid (GI B B (takeL sayP pd0 ((ls.take (k + 1)).map (cutB 32))) w8) := by
              show GI _ _ _ _
              rw [HE.out]
              exact G8.out
            have B9 : Hid (Below B W2 w8) := HB7.out.trans b8
            go_wp2_with fail
            go_roundw
            case rel => exact ⟨k + 1, by omega, by go_num, I9, M9, B9⟩
            case measure => simp [intOf]; omega
      by_cases k3 : H = wZone
      · rw [k3] at c30
        have HTk : Hid (takeW sayP d ws = { d with zones := d.zones ++ [(wd ws 1, [])] }) := by
          show takeW sayP d ws = _
          unfold takeW
          rw [hH]
          rw [if_neg k1, if_neg k2, if_pos k3]
        go_upto_region 18 with fail
        refine wp_code (c' := (regF 18 (Tryz.f11.body.getD .skip)).getD .skip) (by kernel_rfl) ?_
        refine df18 (fun _ d _ _ _ h => by cases d <;> exact h) B B g4 (nw + 10) q4 (wd ws 1) cs w5 s2 _ c2 _ _ _ hd HG5.out (HC5.out 1 (by omega)) (by omega) HS5 (Nat.le_refl _) hz.row (by have := HM.out.z; omega) ?_
        intro a6 c6 w6 y108 y109 y110 y111 y112 y113 y114 y115 y116 g6 o6 b6 k6
        have G6 : Hid (GI B B (takeW sayP d ws) w6) := by
          show GI B B _ w6
          rw [HTk.out]
          exact ⟨_, _, _, _, _, g6, hs.kt k6 (by decide) (by decide), hz.more (wd ws 1) rfl k6 (by decide) o6, kt_own k6 hlk (by decide)⟩
        clear g6 o6 k6 hs hz hlk hd
        have I9 : Hid (GI B B (takeL sayP pd0 ((ls.take (k + 1)).map (cutB 32))) w6) := by
          show GI _ _ _ _
          rw [HE.out]
          exact G6.out
        have B9 : Hid (Below B W2 w6) := HB5.out.trans b6
        go_wp2_with fail
        go_roundw
        case rel => exact ⟨k + 1, by omega, by go_num, I9, M9, B9⟩
        case measure => simp [intOf]; omega
      by_cases k4 : H = wEra
      · rw [k4] at c30
        have HTk : Hid (takeW sayP d ws = { d with zones := onLast (eraOf sayP ws) d.zones }) := by
          show takeW sayP d ws = _
          unfold takeW
          rw [hH]
          rw [if_neg k1, if_neg k2, if_neg k3, if_pos k4]
        go_upto_region 20 with fail
        refine wp_code (c' := (regF 20 (Tryz.f11.body.getD .skip)).getD .skip) (by kernel_rfl) ?_
        refine df20 (fun _ d _ _ _ h => by cases d <;> exact h) g4 (nw + 10) q4 (wd ws 1) (wd ws 2) (wd ws 3) (wd ws 4) (wd ws 5) (sayP (wd ws 1)) (sayP (wd ws 2)) (sayP (wd ws 3)) (sayP (wd ws 5)) cs w5 HG5.out (HC5.out 1 (by omega)) (HC5.out 2 (by omega)) (HC5.out 3 (by omega)) (HC5.out 4 (by omega)) (HC5.out 5 (by omega)) (by omega) (HSd.out _) (HSd.out _) (HSd.out _) (HSd.out _) ?_
        intro rb w6 y119 y120 y121 y122 y123 y124 y125 y126 y127 y128 y129 y130 y131 y132 y133 y134 y135 y136 y137 y138 g6 s6 b6
        have b7 := b6
        have R7 := g6
        clear g6 b6
        obtain ⟨w7, hw7⟩ : ∃ w7, w7 = w6 := ⟨_, rfl⟩
        rw [← hw7] at b7 R7
        simp only [← hw7]
        clear hw7
        have h7 := kt_on (ts := []) b7
        have hdq : w7.heap[B]? = _ := heap_on hd b7
        have HB7 := hideS (bthB HB5.out HS5 b7)
        have R7' := hideS R7
        obtain ⟨o0, o1, o2⟩ := cells3 hdq
        obtain ⟨ss, hss⟩ : ∃ ss, ss = d.zones := ⟨_, rfl⟩
        have hz7 := hz.kt h7 (by decide) (by decide)
        have ot7 := hs.kt h7 (by decide) (by decide)
        have lk7 := kt_own h7 hlk (by decide)
        have low := hz
        have hks := HM.out.z
        have hkr := HM.out.zs
        rw [← hss] at hdq o1 hz7 hks hkr HTk low
        rcases List.eq_nil_or_concat ss with rfl | ⟨L, ⟨nm, r0⟩, rfl⟩
        · clear hss
          have G6 : Hid (GI B B (takeW sayP d ws) w7) := by
            show GI B B _ w7
            rw [HTk.out]
            exact ⟨_, _, _, _, _, hdq, ot7, hz7, lk7⟩
          clear h7 hz7 ot7 lk7 R7 hdq hs hz hlk hd
          have I9 : Hid (GI B B (takeL sayP pd0 ((ls.take (k + 1)).map (cutB 32))) w7) := by
            show GI _ _ _ _
            rw [HE.out]
            exact G6.out
          have B9 : Hid (Below B W2 w7) := HB7.out
          go_wp2_with fail
          go_roundw
          case rel => exact ⟨k + 1, by omega, by go_num, I9, M9, B9⟩
          case measure => simp [intOf]; omega
        · clear hss
          rw [List.concat_eq_append] at *
          rw [onLast_app] at HTk
          have hvl := hz7.len
          rcases List.eq_nil_or_concat zs with rfl | ⟨us, uu, rfl⟩
          · simp at hvl
          rw [List.concat_eq_append] at *
          have hul : us.length = L.length := by simpa using hvl
          have hlL : (L ++ [(nm, r0)]).length = L.length + 1 := by simp
          rw [hlL] at hdq o1 hks hz7
          have hrow := hz7.row
          rw [hlL] at hrow
          obtain ⟨gs, cc, he⟩ := own_some hrow (by omega)
          injection he with he1 he2 he3
          subst he1
          have hin := hz7.ins L.length (nm, r0) uu (by simp) (by rw [← hul]; simp)
          have hin5 := low.ins L.length (nm, r0) uu (by simp) (by rw [← hul]; simp)
          obtain ⟨ra, rc, rfl⟩ := ownS_sl hin
          have hxs : (seL (L ++ [(nm, r0)]) (us ++ [.slice ra r0.length rc]))[L.length * 2 + 1]? = some (.slice ra r0.length rc) := by
            rw [seL_app hul.symm, List.getElem?_append_right (by rw [seL_len hul]; omega), seL_len hul]
            have e : L.length * 2 + 1 - L.length * 2 = 1 := by omega
            rw [e]
            rfl
          have hne : (Value.slice ra r0.length rc).ownBlock ≠ some rb := fun e => by
            have := (hin5.lt rb e).2
            omega
          have hrn : r0.length ≤ 1000000 := by
            have := (hkr (nm, r0) (by simp)).2.1
            simp only at this
            omega
          have hob := own_at hin
          have hpos : (0 : Int) < (L.length : Int) + 1 := by omega
          have HS7 : B ≤ w7.heap.size := by have := HB7.out.size; omega
          have HD7 := hideS hdq
          have HR7 := hideS hrow
          have HI7 := hideS hin
          have HX7 := hideS hxs
          have HN7 := hideS hne
          have HO7 := hideS hob
          have HL7 := hideS hz7
          have OT7 := hideS ot7
          have LK7 := hideS lk7
          have HUL := hideS hul
          clear hdq hrow hin hxs hne hob hz7 ot7 lk7 hul hvl hlL low hin5 R7 h7 hs hz hlk hd he2 he3 hkr
          go_upto_region 23 with fail
          refine wp_code (c' := (regF 23 (Tryz.f11.body.getD .skip)).getD .skip) (by kernel_rfl) ?_
          refine df23 (fun _ d _ _ _ h => by cases d <;> exact h) B B rb gs L.length (eraOf sayP ws) w7 c2 _ _ _ (erL r0) ra r0.length rc HD7.out R7'.out HN7.out HS7 (Nat.le_refl _) HR7.out HX7.out HI7.out (by omega) hrn ?_
          intro a8 c8 w8 y144 y145 y146 y147 y148 y149 y150 y151 y152 y153 y154 y155 y156 y157 y158 y159 g8 o8 i8 b8 k8 at8
          have G8 : Hid (GI B B (takeW sayP d ws) w8) := by
            show GI B B _ w8
            rw [HTk.out]
            have lk8 : w8.ownsRow B 54 2 _ _ _ := kt_own (ts := [51, 67]) (fun b cs ty fr hb h1 => k8 b cs ty fr hb (fun e => h1 (List.mem_of_mem_take (i := 1) e)) fun e => by
              obtain ⟨c, hc⟩ := HO7.out b e.symm
              rw [hb] at hc
              simp at hc
              exact h1 (by rw [hc.2.1]; decide)) LK7.out (by decide)
            have ll := HL7.out.last (eraOf sayP ws) (by unfold erL; rw [List.flatMap_append]) HUL.out k8 (by decide) o8 i8 at8
            have ot := OT7.out.ko k8 HO7.out (by decide) (by decide) (by decide) (by decide)
            exact ⟨_, _, _, _, _, g8, ot, ll, lk8⟩
          clear g8 o8 i8 k8 at8
          have I9 : Hid (GI B B (takeL sayP pd0 ((ls.take (k + 1)).map (cutB 32))) w8) := by
            show GI _ _ _ _
            rw [HE.out]
            exact G8.out
          have B9 : Hid (Below B W2 w8) := HB7.out.trans b8
          go_wp2_with fail
          go_roundw
          case rel => exact ⟨k + 1, by omega, by go_num, I9, M9, B9⟩
          case measure => simp [intOf]; omega
      by_cases k5 : H = wLink
      · rw [k5] at c30
        have HTk : Hid (takeW sayP d ws = { d with links := d.links ++ [(wd ws 1, wd ws 2)] }) := by
          show takeW sayP d ws = _
          unfold takeW
          rw [hH]
          rw [if_neg k1, if_neg k2, if_neg k3, if_neg k4, if_pos k5]
        go_upto_region 25 with fail
        refine wp_code (c' := (regF 25 (Tryz.f11.body.getD .skip)).getD .skip) (by kernel_rfl) ?_
        refine df25 (fun _ d _ _ _ h => by cases d <;> exact h) B B g4 (nw + 10) q4 (wd ws 1) (wd ws 2) cs w5 s3 _ c3 _ _ _ hd HG5.out (HC5.out 1 (by omega)) (HC5.out 2 (by omega)) (by omega) HS5 (Nat.le_refl _) hlk (by have := HM.out.l; omega) ?_
        intro a6 c6 w6 y162 y163 y164 y165 y166 y167 y168 y169 y170 y171 y172 y173 g6 o6 b6 k6
        have G6 : Hid (GI B B (takeW sayP d ws) w6) := by
          show GI B B _ w6
          rw [HTk.out]
          exact ⟨_, _, _, _, _, g6, hs.kt k6 (by decide) (by decide), hz.kt k6 (by decide) (by decide), by
            have e : liL (d.links ++ [(wd ws 1, wd ws 2)]) = liL d.links ++ [.string ⟨(wd ws 1).toArray⟩, .string ⟨(wd ws 2).toArray⟩] := by
              unfold liL
              rw [List.flatMap_append]
              rfl
            show w6.ownsRow B _ 2 _ (d.links ++ [(wd ws 1, wd ws 2)]).length _
            rw [e, List.length_append]
            exact o6⟩
        clear g6 o6 k6 hs hz hlk hd
        have I9 : Hid (GI B B (takeL sayP pd0 ((ls.take (k + 1)).map (cutB 32))) w6) := by
          show GI _ _ _ _
          rw [HE.out]
          exact G6.out
        have B9 : Hid (Below B W2 w6) := HB5.out.trans b6
        go_wp2_with fail
        go_roundw
        case rel => exact ⟨k + 1, by omega, by go_num, I9, M9, B9⟩
        case measure => simp [intOf]; omega
      have e1 : (H == wSet) = false := beq_eq_false_iff_ne.2 k1
      have e2 : (H == wRule) = false := beq_eq_false_iff_ne.2 k2
      have e3 : (H == wZone) = false := beq_eq_false_iff_ne.2 k3
      have e4 : (H == wEra) = false := beq_eq_false_iff_ne.2 k4
      have e5 : (H == wLink) = false := beq_eq_false_iff_ne.2 k5
      have HTk : Hid (takeW sayP d ws = d) := by
        show takeW sayP d ws = _
        unfold takeW
        rw [hH]
        rw [if_neg k1, if_neg k2, if_neg k3, if_neg k4, if_neg k5]
      have G6 : Hid (GI B B (takeW sayP d ws) w5) := by
        show GI B B _ w5
        rw [HTk.out]
        exact ⟨_, _, _, _, _, hd, hs, hz, hlk⟩
      clear hs hz hlk hd
      have I9 : Hid (GI B B (takeL sayP pd0 ((ls.take (k + 1)).map (cutB 32))) w5) := by
        show GI _ _ _ _
        rw [HE.out]
        exact G6.out
      have B9 : Hid (Below B W2 w5) := HB5.out
      go_wp2_with fail
      go_roundw
      case rel => exact ⟨k + 1, by omega, by go_num, I9, M9, B9⟩
      case measure => simp [intOf]; omega
    · obtain rfl : n = k + 1 := by omega
      have hF0 := HF.out
      rw [show k + 1 - 1 = k by omega] at hF0
      rw [hF0] at HI HM
      obtain ⟨D, hd, hDA, hF, hpd⟩ := gi_dt HI.out HM.out (by unfold maxLen; omega) (by unfold maxLen; omega)
      have HC := hideS (CheckData_c D wr (hDA wr (KT.refl _ _)) hF)
      have HD := hideS hd
      have HZ := hideS (HR2.out wr HBk.out)
      have HDA := hideS hDA
      have HF2 := hideS hF
      have HP := hideS hpd
      have HBn : Hid (Below w.heap.size w wr) := HBW.out.trans (HBk.out.mono (by omega))
      obtain ⟨o0, o1, o2⟩ := cells3 hd
      clear hd hDA hF hpd HI HM hF0
      by_cases h0 : chkE D = 0
      · have HTx : Hid (∀ v : World, Below wr.heap.size wr v → Calls Tryz.prog 7 #[.agg #[.slice D.sa D.ns D.sc, .slice D.za D.nz D.zc, .slice D.la D.nl D.lc]] v fun e w' => e = .returned (.string ⟨(showD D).toArray⟩) ∧ Below v.heap.size v w') := fun v hv => DataText_c D v (HDA.out v (kt_on hv)) h0
        rw [h0] at HC
        obtain ⟨T, hT⟩ : ∃ T, T = showD D := ⟨_, rfl⟩
        rw [← hT] at HTx
        by_cases hTs : T = sl
        · have HCs : Hid (showD D = sl) := hT.symm.trans hTs
          have HH0 := hideS h0
          subst hTs
          clear hT h0
          go_wp2_with (first
            | (go_at_call 6; refine HC.out.mono ?_; rintro e w6 ⟨rfl, b6⟩; have B6 := hideS b6; obtain ⟨p0, p1, p2⟩ := cells3 (heap_on HD.out b6); clear b6)
            | (go_at_call 7; refine (HTx.out _ B6.out).mono ?_; rintro e w7 ⟨rfl, b7⟩; have B7 := hideS (bthen B6.out b7); obtain ⟨m0, m1, m2⟩ := cells3 (heap_on HD.out B7.out); have Z6 := heap_on HZ.out B7.out; have Z7 := hideS Z6; obtain ⟨z0, z1, z2⟩ := cells3 Z6; have f0 := frozen3 Z6 0; have f1 := frozen3 Z6 1; have f2 := frozen3 Z6 2; clear b7 Z6))
          have Q0 := Z7.out
          have Q1 := setCell_at (o := 0) Q0 (.slice D.sa D.ns D.sc)
          have Q2 := setCell_at (o := 1) Q1 (.slice D.za D.nz D.zc)
          have Q3 := setCell_at (o := 2) Q2 (.slice D.la D.nl D.lc)
          have kk := ((kt_on B7.out).trans (kt_set (ts := [26]) Q0 (by decide) 0 (.slice D.sa D.ns D.sc))).trans ((kt_set Q1 (by decide) 1 (.slice D.za D.nz D.zc)).trans (kt_set Q2 (by decide) 2 (.slice D.la D.nl D.lc)))
          have bb := bthen HBn.out B7.out
          refine bodyPost_ret (v := .tuple #[.agg #[.slice D.sa D.ns D.sc, .slice D.za D.nz D.zc, .slice D.la D.nl D.lc], .bool true]) ?_ rfl ⟨⟨D, HDA.out _ kk, HF2.out, HP.out, .inl ⟨HH0.out, HCs.out, rfl⟩⟩, ?_⟩
          · obtain ⟨x0, x1, x2⟩ := cells3 Q3
            simp [results, Tryz.results11, go_sem, x0, x1, x2]
          · exact ((bb.setCell (p := ⟨w.heap.size, 0, none⟩) (by simp) _).setCell (p := ⟨w.heap.size, 1, none⟩) (by simp) _).setCell (p := ⟨w.heap.size, 2, none⟩) (by simp) _
        · have hTe : (T == sl) = false := beq_eq_false_iff_ne.2 hTs
          have HCs : Hid (¬ (chkE D = 0 ∧ showD D = sl)) := fun h => hTs (hT.trans h.2)
          clear hT h0 hTs
          go_wp2_with (first
            | (go_at_call 6; refine HC.out.mono ?_; rintro e w6 ⟨rfl, b6⟩; have B6 := hideS b6; obtain ⟨p0, p1, p2⟩ := cells3 (heap_on HD.out b6); clear b6)
            | (go_at_call 7; refine (HTx.out _ B6.out).mono ?_; rintro e w7 ⟨rfl, b7⟩; have B7 := hideS (bthen B6.out b7); obtain ⟨m0, m1, m2⟩ := cells3 (heap_on HD.out B7.out); have Z6 := heap_on HZ.out B7.out; have Z7 := hideS Z6; obtain ⟨z0, z1, z2⟩ := cells3 Z6; have f0 := frozen3 Z6 0; have f1 := frozen3 Z6 1; have f2 := frozen3 Z6 2; clear b7 Z6))
          have Q0 := Z7.out
          have Q1 := setCell_at (o := 0) Q0 (.slice none 0 0)
          have Q2 := setCell_at (o := 1) Q1 (.slice none 0 0)
          have Q3 := setCell_at (o := 2) Q2 (.slice none 0 0)
          have kk := ((kt_on B7.out).trans (kt_set (ts := [26]) Q0 (by decide) 0 (.slice none 0 0))).trans ((kt_set Q1 (by decide) 1 (.slice none 0 0)).trans (kt_set Q2 (by decide) 2 (.slice none 0 0)))
          have bb := bthen HBn.out B7.out
          refine bodyPost_ret (v := .tuple #[.agg #[.slice none 0 0, .slice none 0 0, .slice none 0 0], .bool false]) ?_ rfl ⟨⟨D, HDA.out _ kk, HF2.out, HP.out, .inr ⟨HCs.out, rfl⟩⟩, ?_⟩
          · obtain ⟨x0, x1, x2⟩ := cells3 Q3
            simp [results, Tryz.results11, go_sem, x0, x1, x2]
          · exact ((bb.setCell (p := ⟨w.heap.size, 0, none⟩) (by simp) _).setCell (p := ⟨w.heap.size, 1, none⟩) (by simp) _).setCell (p := ⟨w.heap.size, 2, none⟩) (by simp) _
      · have HCs : Hid (¬ (chkE D = 0 ∧ showD D = sl)) := fun h => h0 h.1
        obtain ⟨E0, hE0⟩ : ∃ E0, E0 = chkE D := ⟨_, rfl⟩
        rw [← hE0] at HC h0
        have e0 : decide (E0 = 0) = false := decide_eq_false h0
        clear hE0
        go_wp2_with (go_at_call 6; refine HC.out.mono ?_; rintro e w6 ⟨rfl, b6⟩; have B6 := hideS b6; obtain ⟨p0, p1, p2⟩ := cells3 (heap_on HD.out b6); have Z6 := heap_on HZ.out b6; have Z7 := hideS Z6; obtain ⟨z0, z1, z2⟩ := cells3 Z6; have f0 := frozen3 Z6 0; have f1 := frozen3 Z6 1; have f2 := frozen3 Z6 2; clear b6 Z6)
        have Q0 := Z7.out
        have Q1 := setCell_at (o := 0) Q0 (.slice none 0 0)
        have Q2 := setCell_at (o := 1) Q1 (.slice none 0 0)
        have Q3 := setCell_at (o := 2) Q2 (.slice none 0 0)
        have kk := ((kt_on B6.out).trans (kt_set (ts := [26]) Q0 (by decide) 0 (.slice none 0 0))).trans ((kt_set Q1 (by decide) 1 (.slice none 0 0)).trans (kt_set Q2 (by decide) 2 (.slice none 0 0)))
        have bb := bthen HBn.out B6.out
        refine bodyPost_ret (v := .tuple #[.agg #[.slice none 0 0, .slice none 0 0, .slice none 0 0], .bool false]) ?_ rfl ⟨⟨D, HDA.out _ kk, HF2.out, HP.out, .inr ⟨HCs.out, rfl⟩⟩, ?_⟩
        · obtain ⟨x0, x1, x2⟩ := cells3 Q3
          simp [results, Tryz.results11, go_sem, x0, x1, x2]
        · exact ((bb.setCell (p := ⟨w.heap.size, 0, none⟩) (by simp) _).setCell (p := ⟨w.heap.size, 1, none⟩) (by simp) _).setCell (p := ⟨w.heap.size, 2, none⟩) (by simp) _
end Go.Proofs.YtbpdbggojgijiaaGreatDoor.Src
