/- The contract of table.Look. -/
import Derived.Test.YtdffopkljomipaaGreatDoorTableB
import Derived.Test.YtdffopkljomipaaGreatDoorOffAAll
namespace Go.Proofs.YtdffopkljomipaaGreatDoor
open Go Go.RowKit
set_option linter.unusedVariables false

theorem boxT {W : World} {b : Nat} {o : Obj} (h : W.heap[b]? = some o) (x : Obj) : (W.alloc x).heap[b]? = some o := (((Below.refl _ W).alloc (Nat.le_refl _) x).block b (Array.getElem?_eq_some_iff.1 h).1).trans h
abbrev offC (x y : Int) (s : ByteArray) : Obj := .cells #[.int .i64 x, .int .i64 y, .string s] 32
set_option maxRecDepth 100000 in
set_option maxHeartbeats 8000000 in
theorem Look_c (a : Option Addr) (n c : Nat) (ts : Nat → Tu) (t : Int) (w : World) (hn : n ≤ maxLen) (hT : TuAt w a n ts) :
    Calls Tryz.prog 8 #[.slice a n c, .int .i64 t] w fun e w' => e = .returned (.tuple #[(lukO ts n t).v, .int .i64 (lukE ts n t)]) ∧ Below w.heap.size w w' := by
  have HT := hideH hT
  have HI : Hid (∀ v, Below w.heap.size w v → Calls Tryz.prog 18 #[.slice a n c] v fun e w' => e = .returned (.bool (isTB ts n)) ∧ Below v.heap.size v w') := fun v hv => isTable_b a n c ts v hn (HT.out.on hv)
  obtain ⟨R, hR⟩ : ∃ R, R = lukO ts n t := ⟨_, rfl⟩
  obtain ⟨E, hE⟩ : ∃ E, E = lukE ts n t := ⟨_, rfl⟩
  rw [← hR, ← hE]
  have HR := hideH hR
  have HE := hideH hE
  clear hT hR hE
  unfold maxLen at hn
  have hb := hideH ((Below.refl _ w).alloc (Nat.le_refl _) (offC 0 0 ⟨#[]⟩))
  have hbx := hideH (World.alloc_heap_new w (offC 0 0 ⟨#[]⟩))
  go_enter Tryz.func8, Tryz.ntmps8
  go_wp2_with fail
  refine (HI.out _ hb.out).mono ?_
  rintro e w1 ⟨rfl, hw1⟩
  have H1 := hideH (bthen hb.out hw1)
  have C1 := hideH (heap_on hbx.out hw1)
  clear hw1 hb hbx HI
  have hlw : w.heap.size < w1.heap.size := (Array.getElem?_eq_some_iff.1 C1.out).1
  obtain ⟨p0, p1, p2⟩ := cells3 C1.out
  have g0 := frozen3 C1.out 0
  have g1 := frozen3 C1.out 1
  have g2 := frozen3 C1.out 2
  cases hq : isTB ts n
  · have e1 : E = 1 := by rw [HE.out]; unfold lukE; rw [hq, if_neg (by decide)]
    have e2 : R = oZ := by rw [HR.out]; unfold lukO; rw [← HE.out, e1, if_neg (by decide)]
    have HX1 := hideH e1
    have HX2 := hideH e2
    clear e1 e2 hq
    go_wp2_with fail
    refine bodyPost_ret (v := .tuple #[.agg #[.int .i64 0, .int .i64 0, .string ⟨#[]⟩], .int .i64 1]) ?_ rfl ⟨by rw [HX1.out, HX2.out]; rfl, ?_⟩
    · have q0 := setCell_at (o := 2) (setCell_at (o := 1) (setCell_at (o := 0) C1.out (.int .i64 0)) (.int .i64 0)) (.string ⟨#[]⟩)
      obtain ⟨y0, y1, y2⟩ := cells3 q0
      simp [results, Tryz.results8, go_sem, y0, y1, y2]
    · exact ((H1.out.setCell (p := ⟨w.heap.size, 0, none⟩) (by simp) _).setCell (p := ⟨w.heap.size, 1, none⟩) (by simp) _).setCell (p := ⟨w.heap.size, 2, none⟩) (by simp) _
  · have hIs := (isTB_iff ts n).1 hq
    by_cases ht : 0 ≤ t ∧ t < 1893456000
    · have e1 : E = 0 := by rw [HE.out]; unfold lukE; rw [hq, if_pos rfl, if_pos ht]
      have e2 : R = lokO ts t n := by rw [HR.out]; unfold lukO; rw [← HE.out, e1, if_pos rfl]
      have HX1 := hideH e1
      have HX2 := hideH e2
      obtain ⟨ht1, ht2⟩ := ht
      have hn0 := hIs.1
      have HRis := hideH hIs.2.2.2
      clear e1 e2 hq hIs HR HE
      rcases HT.out.on H1.out with h0 | ⟨b, off, rfl, hcs⟩
      · omega
      have HCS := hideH hcs
      obtain ⟨d0, d1, d2, d3⟩ := hcs 0 (by omega)
      clear hcs
      simp only [Nat.zero_mul, Nat.add_zero] at d0 d1 d2 d3
      have V1 := hideH ((Below.refl _ w1).alloc (Nat.le_refl _) (offC (ts 0).tt (ts 0).sv (ts 0).ab))
      have X1 := hideH (World.alloc_heap_new w1 (offC (ts 0).tt (ts 0).sv (ts 0).ab))
      have hni : (0 : Int) < (n : Int) := by omega
      go_wp2_with fail
      clear d0 d1 d2 d3 p0 p1 p2 g0 g1 g2 HCS
      go_loopw [26] (fun x26 v => ∃ k : Nat, k ≤ n ∧ x26 = .int .i64 k ∧ Hid (v.heap[w.heap.size]? = some (offC 0 0 ⟨#[]⟩)) ∧ Hid (v.heap[w1.heap.size]? = some (offC (ts (lokI ts t k)).tt (ts (lokI ts t k)).sv (ts (lokI ts t k)).ab)) ∧ Hid (Below w.heap.size w v)) (fun x26 _ => n - (intOf x26).toNat)
      case atStart => exact ⟨0, Nat.zero_le _, rfl, heap_on C1.out V1.out, X1, bthen H1.out V1.out⟩
      case round =>
        obtain ⟨k, hk, rfl, HC, HO, HW⟩ := hrel
        by_cases hlt : k < n
        · rcases HT.out.on HW.out with h0 | ⟨b', off', hbb, hcs⟩
          · omega
          obtain ⟨rfl, rfl⟩ : b = b' ∧ off = off' := by simpa using hbb
          obtain ⟨d0, d1, d2, d3⟩ := hcs k hlt
          clear hcs hbb
          have VB := hideH ((Below.refl _ wr).alloc (Nat.le_refl _) (.cells #[.int .i64 (ts k).at_, .int .i64 (ts k).tt, .int .i64 (ts k).sv, .string (ts k).ab] 41))
          have O2 := hideH (heap_on HO.out VB.out)
          have C2 := hideH (heap_on HC.out VB.out)
          have H2 := hideH (bthen HW.out VB.out)
          have hlw2 : w1.heap.size < wr.heap.size := (Array.getElem?_eq_some_iff.1 HO.out).1
          obtain ⟨p0, p1, p2⟩ := cells3 HO.out
          have g0 := frozen3 HO.out 0
          have g1 := frozen3 HO.out 1
          have g2 := frozen3 HO.out 2
          by_cases hat : (ts k).at_ ≤ t
          · have HQ : Hid (lokI ts t (k + 1) = k) := by show _ = _; rw [lokI, if_pos hat]
            generalize lokI ts t k = q at HO O2 p0 p1 p2
            go_wp2_with fail
            go_roundw
            case rel =>
              refine ⟨k + 1, by omega, by go_num, ?_, ?_, ?_⟩
              · show _ = _
                refine boxT ?_ _
                rw [Below.heap_setCell _ _ _ _ (show w.heap.size ≠ w1.heap.size by omega), Below.heap_setCell _ _ _ _ (show w.heap.size ≠ w1.heap.size by omega), Below.heap_setCell _ _ _ _ (show w.heap.size ≠ w1.heap.size by omega)]
                exact HC.out
              · show _ = _
                rw [HQ.out]
                exact boxT (setCell_at (o := 2) (setCell_at (o := 1) (setCell_at (o := 0) HO.out (.int .i64 (ts k).tt)) (.int .i64 (ts k).sv)) (.string (ts k).ab)) _
              · have h3 := ((HW.out.setCell (p := ⟨w1.heap.size, 0, none⟩) (by show w.heap.size ≤ w1.heap.size; omega) (.int .i64 (ts k).tt)).setCell (p := ⟨w1.heap.size, 1, none⟩) (by show w.heap.size ≤ w1.heap.size; omega) (.int .i64 (ts k).sv)).setCell (p := ⟨w1.heap.size, 2, none⟩) (by show w.heap.size ≤ w1.heap.size; omega) (.string (ts k).ab)
                exact h3.alloc h3.size _
            case measure => simp [intOf]; omega
          · have hat2 : t < (ts k).at_ := by omega
            have HQ0 := hideH (lokI_stop HRis.out hk (fun _ => hat2))
            obtain ⟨q, hq⟩ : ∃ q, q = lokI ts t k := ⟨_, rfl⟩
            rw [← hq] at HQ0 HO O2 p0 p1 p2
            have HQ := HQ0
            clear hq HQ0
            obtain ⟨r0, r1, r2⟩ := cells3 C2.out
            have f0 := frozen3 C2.out 0
            have f1 := frozen3 C2.out 1
            have f2 := frozen3 C2.out 2
            go_wp2_with fail
            refine bodyPost_ret (v := .tuple #[.agg #[.int .i64 (ts q).tt, .int .i64 (ts q).sv, .string (ts q).ab], .int .i64 0]) ?_ rfl ⟨by rw [HX1.out, HX2.out]; unfold lokO; rw [HQ.out], ?_⟩
            · have q0 := setCell_at (o := 2) (setCell_at (o := 1) (setCell_at (o := 0) C2.out (.int .i64 (ts q).tt)) (.int .i64 (ts q).sv)) (.string (ts q).ab)
              obtain ⟨y0, y1, y2⟩ := cells3 q0
              simp [results, Tryz.results8, go_sem, y0, y1, y2]
            · exact ((H2.out.setCell (p := ⟨w.heap.size, 0, none⟩) (by simp) _).setCell (p := ⟨w.heap.size, 1, none⟩) (by simp) _).setCell (p := ⟨w.heap.size, 2, none⟩) (by simp) _
        · obtain rfl : k = n := by omega
          obtain ⟨q, hq⟩ : ∃ q, q = lokI ts t k := ⟨_, rfl⟩
          have HQ := hideH hq.symm
          rw [← hq] at HO
          clear hq
          obtain ⟨p0, p1, p2⟩ := cells3 HO.out
          obtain ⟨r0, r1, r2⟩ := cells3 HC.out
          have f0 := frozen3 HC.out 0
          have f1 := frozen3 HC.out 1
          have f2 := frozen3 HC.out 2
          go_wp2_with fail
          refine bodyPost_ret (v := .tuple #[.agg #[.int .i64 (ts q).tt, .int .i64 (ts q).sv, .string (ts q).ab], .int .i64 0]) ?_ rfl ⟨by rw [HX1.out, HX2.out]; unfold lokO; rw [HQ.out], ?_⟩
          · have q0 := setCell_at (o := 2) (setCell_at (o := 1) (setCell_at (o := 0) HC.out (.int .i64 (ts q).tt)) (.int .i64 (ts q).sv)) (.string (ts q).ab)
            obtain ⟨y0, y1, y2⟩ := cells3 q0
            simp [results, Tryz.results8, go_sem, y0, y1, y2]
          · exact ((HW.out.setCell (p := ⟨w.heap.size, 0, none⟩) (by simp) _).setCell (p := ⟨w.heap.size, 1, none⟩) (by simp) _).setCell (p := ⟨w.heap.size, 2, none⟩) (by simp) _
    · have e1 : E = 3 := by rw [HE.out]; unfold lukE; rw [hq, if_pos rfl, if_neg ht]
      have e2 : R = oZ := by rw [HR.out]; unfold lukO; rw [← HE.out, e1, if_neg (by decide)]
      have HX1 := hideH e1
      have HX2 := hideH e2
      clear e1 e2 hq hIs
      by_cases ht0 : t < 0
      · clear ht
        go_wp2_with fail
        refine bodyPost_ret (v := .tuple #[.agg #[.int .i64 0, .int .i64 0, .string ⟨#[]⟩], .int .i64 3]) ?_ rfl ⟨by rw [HX1.out, HX2.out]; rfl, ?_⟩
        · have q0 := setCell_at (o := 2) (setCell_at (o := 1) (setCell_at (o := 0) C1.out (.int .i64 0)) (.int .i64 0)) (.string ⟨#[]⟩)
          obtain ⟨y0, y1, y2⟩ := cells3 q0
          simp [results, Tryz.results8, go_sem, y0, y1, y2]
        · exact ((H1.out.setCell (p := ⟨w.heap.size, 0, none⟩) (by simp) _).setCell (p := ⟨w.heap.size, 1, none⟩) (by simp) _).setCell (p := ⟨w.heap.size, 2, none⟩) (by simp) _
      · have ht3 : 1893456000 ≤ t := by omega
        clear ht
        go_wp2_with fail
        refine bodyPost_ret (v := .tuple #[.agg #[.int .i64 0, .int .i64 0, .string ⟨#[]⟩], .int .i64 3]) ?_ rfl ⟨by rw [HX1.out, HX2.out]; rfl, ?_⟩
        · have q0 := setCell_at (o := 2) (setCell_at (o := 1) (setCell_at (o := 0) C1.out (.int .i64 0)) (.int .i64 0)) (.string ⟨#[]⟩)
          obtain ⟨y0, y1, y2⟩ := cells3 q0
          simp [results, Tryz.results8, go_sem, y0, y1, y2]
        · exact ((H1.out.setCell (p := ⟨w.heap.size, 0, none⟩) (by simp) _).setCell (p := ⟨w.heap.size, 1, none⟩) (by simp) _).setCell (p := ⟨w.heap.size, 2, none⟩) (by simp) _
end Go.Proofs.YtdffopkljomipaaGreatDoor
