/- source.guess: what a text may say, as data in memory. -/
import Derived.Test.YtbpdbggojgijiaaGreatDoorSourceW
namespace Go.Proofs.YtbpdbggojgijiaaGreatDoor.Src
open Go Go.RowKit Go.Maps
set_option linter.unusedVariables false
set_option linter.unusedSimpArgs false

theorem cut_count {c : UInt8} : ∀ l : By, (cutB c l).length ≤ l.length + 1
  | [] => by simp [cutB]
  | a :: l => by
    have ih := cut_count (c := c) l
    unfold cutB
    split
    · simp
      omega
    · split
      · simp
      · rename_i h t heq
        rw [heq] at ih
        simp at ih ⊢
        omega
theorem takeL_succ (num : By → Int) (ls : List By) (k : Nat) (l : By) (h : ls[k]? = some l) : takeL num pd0 ((ls.take (k + 1)).map (cutB 32)) = takeW num (takeL num pd0 ((ls.take k).map (cutB 32))) (cutB 32 l) := by
  rw [List.take_add_one, h, List.map_append, takeL_app]
  rfl
theorem gi_set {B db b o : Nat} {d : PD} {w : World} {cs : Array Value} {fr : Nat × Nat} (h : GI B db d w) (hb : w.heap[b]? = some (.cells cs 26 fr)) (hne : db ≠ b) (u : Value) : GI B db d (w.setCell ⟨b, o, none⟩ u) := by
  obtain ⟨v1, v2, v3, vs, zs, hd, hs, hz, hlk⟩ := h
  have hk : KT [26] w (w.setCell ⟨b, o, none⟩ u) := kt_set hb (by decide) o u
  exact ⟨v1, v2, v3, vs, zs, (Below.heap_setCell _ _ _ _ hne).trans hd, hs.kt hk (by decide) (by decide), hz.kt hk (by decide) (by decide), kt_own hk hlk (by decide)⟩
theorem gi_new {B db : Nat} {w : World} (hd : w.heap[db]? = some (.cells #[.slice none 0 0, .slice none 0 0, .slice none 0 0] 26)) : GI B db pd0 w :=
  ⟨_, _, _, [], [], hd, ⟨rfl, ⟨rfl, .inl ⟨rfl, rfl⟩⟩, fun j s u hs => by simp [pd0] at hs, fun i j u v _ h => by simp at h⟩, ⟨rfl, ⟨rfl, .inl ⟨rfl, rfl⟩⟩, fun j s u hs => by simp [pd0] at hs, fun i j u v _ h => by simp at h⟩, ⟨rfl, .inl ⟨rfl, rfl⟩⟩⟩
theorem cells3_inj {w : World} {b : Nat} {x y z x' y' z' : Value} {t : TypeId} (h : w.heap[b]? = some (.cells #[x, y, z] t)) (k : w.heap[b]? = some (.cells #[x', y', z'] t)) : x = x' ∧ y = y' ∧ z = z' := by
  rw [h] at k
  simpa using k
/-- the answer -/
def guQ (s : By) (w : World) (e : Ending) (w' : World) : Prop := ∃ D : Dt, e = .returned D.v ∧ (∀ w'' : World, KT [26] w' w'' → DAt w'' D) ∧ D.fits ∧ pdOf D = guessP numA s ∧ Below w.heap.size w w'
set_option maxHeartbeats 4000000 in
set_option maxRecDepth 100000 in
theorem guess_c (s : By) (w : World) (hX : EVs w) (hs : s.length ≤ 4096) :
    Calls Tryz.prog 27 #[.string ⟨s.toArray⟩] w fun e w' => guQ s w e w' := by
  obtain ⟨ls, hls⟩ : ∃ ls, ls = cutB 10 s := ⟨_, rfl⟩
  obtain ⟨n, hn⟩ : ∃ n, ls.length = n := ⟨_, rfl⟩
  have hn1 : n ≤ 4097 := by
    have := cut_count (c := 10) s
    rw [← hls, hn] at this
    omega
  have HLl : Hid (∀ (k : Nat) (l : By), ls[k]? = some l → l.length ≤ 4096) := fun k l hl => by
    have := cut_len (c := 10) (l := s) l (by rw [← hls]; exact List.mem_of_getElem? hl)
    omega
  obtain ⟨Z, hZ⟩ : ∃ Z : Obj, Z = .cells #[.slice none 0 0, .slice none 0 0, .slice none 0 0] 26 := ⟨_, rfl⟩
  obtain ⟨W0, hW0⟩ : ∃ W0, W0 = (w.alloc (.cells #[.slice none 0 0, .slice none 0 0, .slice none 0 0] 26)).alloc (.cells #[.slice none 0 0, .slice none 0 0, .slice none 0 0] 26) := ⟨_, rfl⟩
  have hsz : W0.heap.size = w.heap.size + 2 := by rw [hW0]; simp
  have b0 : Below w.heap.size w W0 := by
    rw [hW0]
    exact bthen ((Below.refl _ w).alloc (Nat.le_refl _) _) ((Below.refl _ _).alloc (Nat.le_refl _) _)
  have r0 : W0.heap[w.heap.size]? = some (.cells #[.slice none 0 0, .slice none 0 0, .slice none 0 0] 26) := by
    rw [hW0]
    exact heap_on (World.alloc_heap_new w _) ((Below.refl _ _).alloc (Nat.le_refl _) _)
  have r1 : W0.heap[w.heap.size + 1]? = some (.cells #[.slice none 0 0, .slice none 0 0, .slice none 0 0] 26) := by
    rw [hW0]
    have := World.alloc_heap_new (w.alloc (.cells #[.slice none 0 0, .slice none 0 0, .slice none 0 0] 26)) (.cells #[.slice none 0 0, .slice none 0 0, .slice none 0 0] 26)
    simpa using this
  obtain ⟨L, hL⟩ : ∃ L : Array Value, L = (ls.map fun l => Value.string ⟨l.toArray⟩).toArray := ⟨_, rfl⟩
  have HC : Hid (Calls Tryz.prog 45 #[.string ⟨s.toArray⟩, .string ⟨#[10]⟩] W0 fun e w' => e = .returned (.slice (some ⟨w.heap.size + 2, 0, none⟩) n n) ∧ w' = W0.alloc (.cells L 9)) := by
    have := split10_c s W0 (hX.on b0).2.2 (by omega)
    rw [← hls, hn, ← hL, hsz] at this
    exact this
  have b1 := (Below.refl _ W0).alloc (Nat.le_refl _) (.cells L 9)
  have HLr : Hid (∀ v : World, v.heap[w.heap.size + 2]? = some (.cells L 9) → ∀ (k : Nat) (l : By), ls[k]? = some l → v.cell? ⟨w.heap.size + 2, k, none⟩ = some (.string ⟨l.toArray⟩)) := fun v hv k l hl => by
    rw [Lib.cell_of_heap hv, hL]
    simp [hl]
  have HX := hideS hX
  have HT : Hid (∀ (k : Nat) (l : By) (v : World), k ≤ 4097 → l.length ≤ 4096 → Hid (GI (w.heap.size + 1) (w.heap.size + 1) (takeL numA pd0 ((ls.take k).map (cutB 32))) v) → Hid (lim k 4096 (takeL numA pd0 ((ls.take k).map (cutB 32)))) → Hid (Below (w.heap.size + 1) W0 v) → Calls Tryz.prog 46 #[.pointer (some ⟨w.heap.size + 1, 0, none⟩), .agg #[.string ⟨l.toArray⟩]] v fun e w' => e = .returned (.tuple #[]) ∧ GI (w.heap.size + 1) (w.heap.size + 1) (takeW numA (takeL numA pd0 ((ls.take k).map (cutB 32))) (cutB 32 l)) w' ∧ Below (w.heap.size + 1) v w' ∧ KT gTs v w') := fun k l v h1 h2 h3 h4 h5 =>
    take_c (w.heap.size + 1) (w.heap.size + 1) l v _ h3.out (h4.out.mono (by omega)) (by have := h5.out.size; omega) (fun u hu => HX.out.on (b0.trans ((h5.out.trans hu).mono (Nat.le_succ _)))) (Nat.le_refl _) (by omega)
  have HS0 : Hid (GI (w.heap.size + 1) (w.heap.size + 1) (takeL numA pd0 ((ls.take 0).map (cutB 32))) (W0.alloc (.cells L 9))) := gi_new (heap_on r1 b1)
  have HB0 : Hid (Below (w.heap.size + 1) W0 (W0.alloc (.cells L 9))) := b1.mono (by omega)
  have HR0 : Hid ((W0.alloc (.cells L 9)).heap[w.heap.size + 2]? = some (.cells L 9)) := by
    have := World.alloc_heap_new W0 (.cells L 9)
    rw [hsz] at this
    exact this
  have HM0 : Hid (lim 0 4096 (takeL numA pd0 ((ls.take 0).map (cutB 32)))) := lim0 4096
  have HB := hideS b0
  have H0 := hideS r0
  have HG : Hid (takeL numA pd0 ((ls.take n).map (cutB 32)) = guessP numA s) := by
    show _ = takeL numA pd0 ((cutB 10 s).map (cutB 32))
    rw [← hls, ← hn, List.take_length]
  have HSz := hideS hsz
  have HW0 := hideS hW0
  have HN := hideS hn
  clear b0 r0 r1 b1 hX hZ Z hL hls hsz hn hW0
  go_enter Tryz.func27, Tryz.ntmps27
  go_wp2_with (go_at_call 45; rw [← HW0.out]; refine HC.out.mono ?_; rintro e w1 ⟨rfl, rfl⟩)
  go_loopw [9] (fun x9 wr => ∃ k : Nat, k ≤ n ∧ x9 = .int .i64 k ∧ Hid (GI (w.heap.size + 1) (w.heap.size + 1) (takeL numA pd0 ((ls.take k).map (cutB 32))) wr) ∧ Hid (lim k 4096 (takeL numA pd0 ((ls.take k).map (cutB 32)))) ∧ Hid (Below (w.heap.size + 1) W0 wr) ∧ Hid (wr.heap[w.heap.size + 2]? = some (.cells L 9))) (fun x9 _ => n - (intOf x9).toNat)
  case atStart => exact ⟨0, Nat.zero_le _, rfl, HS0, HM0, HB0, HR0⟩
  case round =>
    obtain ⟨k, hk, rfl, HI, HM, HBk, HR⟩ := hrel
    by_cases hlt : k < n
    · obtain ⟨l, hl⟩ : ∃ l, ls[k]? = some l := ⟨_, List.getElem?_eq_getElem (by rw [HN.out]; exact hlt)⟩
      have HL1 := hideS hl
      have c0 := HLr.out wr HR.out k l hl
      have hll := HLl.out k l hl
      have HTk := hideS (HT.out k l wr (by omega) hll HI HM HBk)
      have HE := hideS (takeL_succ numA ls k l hl)
      have HW : Hid (∀ i, (wd (cutB 32 l) i).length ≤ 4096) := fun i => Nat.le_trans (wd_len l i) hll
      clear hl
      go_wp2_with (go_at_call 46; refine HTk.out.mono ?_; rintro e w3 ⟨rfl, i3, b3, k3⟩)
      have I3 : Hid (GI (w.heap.size + 1) (w.heap.size + 1) (takeL numA pd0 ((ls.take (k + 1)).map (cutB 32))) w3) := by
        show GI _ _ _ _
        rw [HE.out]
        exact i3
      have M3 : Hid (lim (k + 1) 4096 (takeL numA pd0 ((ls.take (k + 1)).map (cutB 32)))) := by
        show lim _ _ _
        rw [HE.out]
        exact lim_take HM.out HW.out
      have B3 := hideS (HBk.out.trans b3)
      have R3 : Hid (w3.heap[w.heap.size + 2]? = some (.cells L 9)) := k3 _ _ _ _ HR.out (by decide)
      clear i3 b3 k3
      go_roundw
      case rel => exact ⟨k + 1, by omega, by go_num, I3, M3, B3, R3⟩
      case measure => simp [intOf]; omega
    · obtain rfl : n = k := by omega
      rw [HG.out] at HI HM
      obtain ⟨v1, v2, v3, vs, zs, hd, hs1, hz1, hlk1⟩ := HI.out
      obtain ⟨s1, c1, rfl⟩ := ownS_sl hs1.row
      obtain ⟨s2, c2, rfl⟩ := ownS_sl hz1.row
      obtain ⟨s3, c3, rfl⟩ := ownS_sl hlk1
      generalize (guessP numA s).sets.length = n1 at hd
      generalize (guessP numA s).zones.length = n2 at hd
      generalize (guessP numA s).links.length = n3 at hd
      have q0 : wr.heap[w.heap.size]? = some (.cells #[.slice none 0 0, .slice none 0 0, .slice none 0 0] 26) := (HBk.out.block _ (Nat.lt_succ_self _)).trans H0.out
      have HQ0 := hideS q0
      have HD := hideS hd
      obtain ⟨o0, o1, o2⟩ := cells3 hd
      obtain ⟨p0, p1, p2⟩ := cells3 q0
      have f0 := frozen3 q0 0
      have f1 := frozen3 q0 1
      have f2 := frozen3 q0 2
      clear hd hs1 hz1 hlk1 q0
      go_wp2_with fail
      have G1 := gi_set (o := 0) HI.out HQ0.out (by omega) (.slice s1 n1 c1)
      have Q1 := setCell_at (o := 0) HQ0.out (.slice s1 n1 c1)
      have G2 := gi_set (o := 1) G1 Q1 (by omega) (.slice s2 n2 c2)
      have Q2 := setCell_at (o := 1) Q1 (.slice s2 n2 c2)
      have G3 := gi_set (o := 2) G2 Q2 (by omega) (.slice s3 n3 c3)
      have Q3 := setCell_at (o := 2) Q2 (.slice s3 n3 c3)
      obtain ⟨D, hd, hDAt, hF, hpd⟩ := gi_dt G3 HM.out (by unfold maxLen; omega) (by unfold maxLen; omega)
      have hd2 : (((wr.setCell ⟨w.heap.size, 0, none⟩ (.slice s1 n1 c1)).setCell ⟨w.heap.size, 1, none⟩ (.slice s2 n2 c2)).setCell ⟨w.heap.size, 2, none⟩ (.slice s3 n3 c3)).heap[w.heap.size + 1]? = some (.cells #[.slice s1 n1 c1, .slice s2 n2 c2, .slice s3 n3 c3] 26) := (Below.heap_setCell _ _ _ _ (show w.heap.size + 1 ≠ w.heap.size by omega)).trans ((Below.heap_setCell _ _ _ _ (show w.heap.size + 1 ≠ w.heap.size by omega)).trans ((Below.heap_setCell _ _ _ _ (show w.heap.size + 1 ≠ w.heap.size by omega)).trans HD.out))
      obtain ⟨e1, e2, e3⟩ := cells3_inj hd2 hd
      refine bodyPost_ret (v := .agg #[.slice s1 n1 c1, .slice s2 n2 c2, .slice s3 n3 c3]) ?_ rfl (show guQ _ _ _ _ from ⟨D, by rw [e1, e2, e3], hDAt, hF, hpd, ?_⟩)
      · obtain ⟨y0, y1, y2⟩ := cells3 Q3
        simp [results, Tryz.results27, go_sem, y0, y1, y2]
      · have bb := HB.out.trans (HBk.out.mono (Nat.le_succ _))
        exact ((bb.setCell (p := ⟨w.heap.size, 0, none⟩) (by simp) _).setCell (p := ⟨w.heap.size, 1, none⟩) (by simp) _).setCell (p := ⟨w.heap.size, 2, none⟩) (by simp) _
end Go.Proofs.YtbpdbggojgijiaaGreatDoor.Src
