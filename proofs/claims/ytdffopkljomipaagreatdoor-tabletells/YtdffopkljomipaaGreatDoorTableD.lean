/- The document's own LookOf. -/
import Derived.Test.YtdffopkljomipaaGreatDoorTableC
import Derived.Deep.QuietTactic
import Derived.BigQuiet
namespace Go.Proofs.YtdffopkljomipaaGreatDoor
open Go Go.RowKit
set_option linter.unusedVariables false

def godT (ts : Nat → Tu) (k : Nat) : Prop := ∀ j, j < k → (ts j).at_ < 1893456000 ∧ (1 ≤ j → (ts (j - 1)).at_ < (ts j).at_)
theorem godT_isT {ts : Nat → Tu} {n : Nat} (h0 : 0 < n) (h1 : (ts 0).at_ = 0) (h : godT ts n) : isT ts n := ⟨h0, h1, (h (n - 1) (by omega)).1, fun i a b => (h i b).2 a⟩
def lokQ (ts : Nat → Tu) (t : Int) (k : Nat) : Of := if k = 0 then oZ else lokO ts t k
set_option maxRecDepth 100000 in
set_option maxHeartbeats 8000000 in
theorem LookOf_c (a : Option Addr) (n c : Nat) (ts : Nat → Tu) (t : Int) (w : World) (hn : n ≤ maxLen) (hT : TuAt w a n ts) :
    Calls Tryz.prog 10 #[.slice a n c, .int .i64 t] w fun e w' => e = .returned (.tuple #[(lukO ts n t).v, .int .i64 (lukE ts n t)]) ∧ Below w.heap.size w w' := by
  have HT := hideH hT
  obtain ⟨R, hR⟩ : ∃ R, R = lukO ts n t := ⟨_, rfl⟩
  obtain ⟨E, hE⟩ : ∃ E, E = lukE ts n t := ⟨_, rfl⟩
  rw [← hR, ← hE]
  have HR := hideH hR
  have HE := hideH hE
  clear hT hR hE
  unfold maxLen at hn
  have hb := hideH ((Below.refl _ w).alloc (Nat.le_refl _) (offC 0 0 ⟨#[]⟩))
  have hbx := hideH (World.alloc_heap_new w (offC 0 0 ⟨#[]⟩))
  by_cases hz : n = 0
  · subst hz
    have e1 : E = 1 := by rw [HE.out]; unfold lukE; rw [if_neg (fun h => absurd ((isTB_iff ts 0).1 h).1 (Nat.lt_irrefl _))]
    have e2 : R = oZ := by rw [HR.out]; unfold lukO; rw [← HE.out, e1, if_neg (by decide)]
    have HX1 := hideH e1
    have HX2 := hideH e2
    clear e1 e2
    obtain ⟨r0, r1, r2⟩ := cells3 hbx.out
    have f0 := frozen3 hbx.out 0
    have f1 := frozen3 hbx.out 1
    have f2 := frozen3 hbx.out 2
    go_enter Tryz.func10, Tryz.ntmps10
    go_wp2_with fail
    refine bodyPost_ret (v := .tuple #[.agg #[.int .i64 0, .int .i64 0, .string ⟨#[]⟩], .int .i64 1]) ?_ rfl ⟨by rw [HX1.out, HX2.out]; rfl, hb.out⟩
    simp [results, Tryz.results10, go_sem, r0, r1, r2]
  · rcases HT.out.on hb.out with h0 | ⟨b, off, rfl, hcs⟩
    · omega
    obtain ⟨d0, d1, d2, d3⟩ := hcs 0 (by omega)
    simp only [Nat.zero_mul, Nat.add_zero] at d0 d1 d2 d3
    clear hcs d1 d2 d3
    have hni : (0 : Int) < (n : Int) := by omega
    have hz1 : ((n : Int) == 0) = false := by simp; omega
    rcases beq_cases (ts 0).at_ 0 with ⟨q1, q2⟩ | ⟨q1, q2⟩
    · have Q2 := hideH q2
      go_enter Tryz.func10, Tryz.ntmps10
      go_wp2_with fail
      clear d0
      go_loopw [6] (fun x6 v => ∃ k : Nat, k ≤ n ∧ x6 = .int .i64 k ∧ Hid (godT ts k) ∧ Hid (v.heap[w.heap.size]? = some (offC 0 0 ⟨#[]⟩)) ∧ Hid (Below w.heap.size w v)) (fun x6 _ => n - (intOf x6).toNat)
      case atStart => exact ⟨0, Nat.zero_le _, rfl, fun j h => absurd h (Nat.not_lt_zero _), hbx, hb⟩
      case round =>
        obtain ⟨k, hk, rfl, HG, HC, HW⟩ := hrel
        by_cases hlt : k < n
        · rcases HT.out.on HW.out with h0 | ⟨b', off', hbb, hcs⟩
          · omega
          obtain ⟨rfl, rfl⟩ : b = b' ∧ off = off' := by simpa using hbb
          have d0 := (hcs k hlt).1
          have HCS := hideH hcs
          have hki : (k : Int) < (n : Int) := by omega
          clear hcs hbb
          obtain ⟨r0, r1, r2⟩ := cells3 HC.out
          have f0 := frozen3 HC.out 0
          have f1 := frozen3 HC.out 1
          have f2 := frozen3 HC.out 2
          by_cases hen : (ts k).at_ < 1893456000
          · have hen2 : ¬ (1893456000 ≤ (ts k).at_) := by omega
            by_cases hk0 : k = 0
            · subst hk0
              simp only [Nat.zero_mul, Nat.add_zero] at d0
              clear hki HCS
              go_wp2_with fail
              go_quiet (fail)
              go_wp2_with fail
              go_roundw
              case rel => exact ⟨1, by omega, rfl, fun j h => by obtain rfl : j = 0 := by omega
                                                                 exact ⟨hen, fun h => by omega⟩, HC, below_drewN HW.out _⟩
              case measure => simp [intOf]; omega
            · obtain ⟨p, rfl⟩ : ∃ p, k = p + 1 := ⟨k - 1, by omega⟩
              have d1 := (HCS.out p (by omega)).1
              have hwp : IntKind.i64.wrap (p : Int) = (p : Int) := wrap_nnT (by omega) (by omega)
              have hp1 : (p : Int) < (n : Int) := by omega
              have hp2 : (0 : Int) < (p : Int) + 1 := by omega
              have hp3 : 0 < p + 1 := by omega
              have hki2 : (p : Int) + 1 < (n : Int) := by omega
              have hp4 : p < n := by omega
              have hp5 : (0 : Int) ≤ (p : Int) + 1 := by omega
              clear HCS
              by_cases hq : (ts (p + 1)).at_ ≤ (ts p).at_
              · have e1 : E = 1 := by rw [HE.out]; unfold lukE; rw [if_neg (fun h => by have hI := (isTB_iff ts n).1 h; have h5 := hI.2.2.2 (p + 1) (by omega) (by omega); simp only [Nat.add_sub_cancel] at h5; omega)]
                have e2 : R = oZ := by rw [HR.out]; unfold lukO; rw [← HE.out, e1, if_neg (by decide)]
                have HX1 := hideH e1
                have HX2 := hideH e2
                clear e1 e2
                go_wp2_with fail
                go_quiet (fail)
                go_wp2_with fail
                refine bodyPost_ret (v := .tuple #[.agg #[.int .i64 0, .int .i64 0, .string ⟨#[]⟩], .int .i64 1]) ?_ rfl ⟨by rw [HX1.out, HX2.out]; rfl, ?_⟩
                · have q0 := setCell_at (o := 2) (setCell_at (o := 1) (setCell_at (o := 0) (show (wr.drewN nq).heap[w.heap.size]? = some (offC 0 0 ⟨#[]⟩) from HC.out) (.int .i64 0)) (.int .i64 0)) (.string ⟨#[]⟩)
                  obtain ⟨y0, y1, y2⟩ := cells3 q0
                  simp [results, Tryz.results10, go_sem, y0, y1, y2]
                · exact (((below_drewN HW.out _).setCell (p := ⟨w.heap.size, 0, none⟩) (by simp) _).setCell (p := ⟨w.heap.size, 1, none⟩) (by simp) _).setCell (p := ⟨w.heap.size, 2, none⟩) (by simp) _
              · go_wp2_with fail
                go_quiet (fail)
                go_wp2_with fail
                go_roundw
                case rel => exact ⟨p + 2, by omega, by go_num, fun j h => by
                  by_cases hj : j = p + 1
                  · subst hj
                    simp only [Nat.add_sub_cancel]
                    exact ⟨hen, fun _ => by omega⟩
                  · exact HG.out j (by omega), HC, below_drewN HW.out _⟩
                case measure => simp [intOf]; omega
          · have hen2 : 1893456000 ≤ (ts k).at_ := by omega
            have e1 : E = 1 := by rw [HE.out]; unfold lukE; rw [if_neg (fun h => by have hI := (isTB_iff ts n).1 h; have h5 := risT_le hI.2.2.2 (i := k) (j := n - 1) (by omega) (by omega); have h6 := hI.2.2.1; omega)]
            have e2 : R = oZ := by rw [HR.out]; unfold lukO; rw [← HE.out, e1, if_neg (by decide)]
            have HX1 := hideH e1
            have HX2 := hideH e2
            clear e1 e2
            go_wp2_with fail
            go_quiet (fail)
            go_wp2_with fail
            refine bodyPost_ret (v := .tuple #[.agg #[.int .i64 0, .int .i64 0, .string ⟨#[]⟩], .int .i64 1]) ?_ rfl ⟨by rw [HX1.out, HX2.out]; rfl, ?_⟩
            · have q0 := setCell_at (o := 2) (setCell_at (o := 1) (setCell_at (o := 0) (show (wr.drewN nq).heap[w.heap.size]? = some (offC 0 0 ⟨#[]⟩) from HC.out) (.int .i64 0)) (.int .i64 0)) (.string ⟨#[]⟩)
              obtain ⟨y0, y1, y2⟩ := cells3 q0
              simp [results, Tryz.results10, go_sem, y0, y1, y2]
            · exact (((below_drewN HW.out _).setCell (p := ⟨w.heap.size, 0, none⟩) (by simp) _).setCell (p := ⟨w.heap.size, 1, none⟩) (by simp) _).setCell (p := ⟨w.heap.size, 2, none⟩) (by simp) _
        · obtain rfl : k = n := by omega
          have hIs := godT_isT (by omega) Q2.out HG.out
          have hq := (isTB_iff ts k).2 hIs
          have HRis := hideH hIs.2.2.2
          have HQ0 := Q2
          clear hIs
          by_cases ht : 0 ≤ t ∧ t < 1893456000
          · have e1 : E = 0 := by rw [HE.out]; unfold lukE; rw [hq, if_pos rfl, if_pos ht]
            have e2 : R = lokO ts t k := by rw [HR.out]; unfold lukO; rw [← HE.out, e1, if_pos rfl]
            have hti : inB t 0 1893455999 = true := by unfold inB; simp; omega
            have HX1 := hideH e1
            have HX2 := hideH e2
            clear e1 e2 hq HR HE
            go_wp2_with (go_at_call 22; refine (isTime_c _ _).mono ?_; rintro e w1 ⟨rfl, rfl⟩)
            have V1 := hideH ((Below.refl _ w1).alloc (Nat.le_refl _) (offC 0 0 ⟨#[]⟩))
            have X1 := hideH (World.alloc_heap_new w1 (offC 0 0 ⟨#[]⟩))
            have hlw : w.heap.size < w1.heap.size := (Array.getElem?_eq_some_iff.1 HC.out).1
            obtain ⟨ht1, ht2⟩ := ht
            go_loopw [8] (fun x8 v => ∃ j : Nat, j ≤ k ∧ x8 = .int .i64 j ∧ Hid (v.heap[w.heap.size]? = some (offC 0 0 ⟨#[]⟩)) ∧ Hid (v.heap[w1.heap.size]? = some (offC (lokQ ts t j).tot (lokQ ts t j).sv (lokQ ts t j).ab)) ∧ Hid (Below w.heap.size w v)) (fun x8 _ => k - (intOf x8).toNat)
            case atStart => exact ⟨0, Nat.zero_le _, rfl, heap_on HC.out V1.out, X1, bthen HW.out V1.out⟩
            case round =>
              obtain ⟨j, hj, rfl, HC2, HO, HW2⟩ := hrel
              by_cases hlt2 : j < k
              · rcases HT.out.on HW2.out with h0 | ⟨b', off', hbb, hcs⟩
                · omega
                obtain ⟨rfl, rfl⟩ : b = b' ∧ off = off' := by simpa using hbb
                obtain ⟨d0, d1, d2, d3⟩ := hcs j hlt2
                clear hcs hbb
                obtain ⟨p0, p1, p2⟩ := cells3 HO.out
                have g0 := frozen3 HO.out 0
                have g1 := frozen3 HO.out 1
                have g2 := frozen3 HO.out 2
                have hji : (j : Int) < (k : Int) := by omega
                by_cases hat : (ts j).at_ ≤ t
                · have HQ : Hid (lokQ ts t (j + 1) = ⟨(ts j).tt, (ts j).sv, (ts j).ab⟩) := by show _ = _; unfold lokQ lokO; rw [if_neg (by omega), lokI, if_pos hat]
                  generalize lokQ ts t j = q at HO p0 p1 p2
                  go_wp2_with fail
                  go_roundw
                  case rel =>
                    refine ⟨j + 1, by omega, by go_num, ?_, ?_, ?_⟩
                    · show _ = _
                      rw [Below.heap_setCell _ _ _ _ (show w.heap.size ≠ w1.heap.size by omega), Below.heap_setCell _ _ _ _ (show w.heap.size ≠ w1.heap.size by omega), Below.heap_setCell _ _ _ _ (show w.heap.size ≠ w1.heap.size by omega)]
                      exact HC2.out
                    · show _ = _
                      rw [HQ.out]
                      exact setCell_at (o := 2) (setCell_at (o := 1) (setCell_at (o := 0) HO.out (.int .i64 (ts j).tt)) (.int .i64 (ts j).sv)) (.string (ts j).ab)
                    · exact ((HW2.out.setCell (p := ⟨w1.heap.size, 0, none⟩) (by show w.heap.size ≤ w1.heap.size; omega) (.int .i64 (ts j).tt)).setCell (p := ⟨w1.heap.size, 1, none⟩) (by show w.heap.size ≤ w1.heap.size; omega) (.int .i64 (ts j).sv)).setCell (p := ⟨w1.heap.size, 2, none⟩) (by show w.heap.size ≤ w1.heap.size; omega) (.string (ts j).ab)
                  case measure => simp [intOf]; omega
                · have HQ : Hid (lokQ ts t (j + 1) = lokQ ts t j) := by
                    show _ = _
                    have hj0 : j ≠ 0 := fun e => by
                      subst e
                      have := HQ0.out
                      omega
                    unfold lokQ lokO
                    rw [if_neg (by omega), if_neg hj0, lokI, if_neg hat]
                  generalize lokQ ts t j = q at HO p0 p1 p2 HQ
                  go_wp2_with fail
                  go_roundw
                  case rel => exact ⟨j + 1, by omega, by go_num, HC2, by rw [HQ.out]; exact HO, HW2⟩
                  case measure => simp [intOf]; omega
              · obtain rfl : j = k := by omega
                have HQ : Hid (lokO ts t j = lokQ ts t j) := by show _ = _; unfold lokQ; rw [if_neg (by omega)]
                generalize lokQ ts t j = q at HO HQ
                obtain ⟨p0, p1, p2⟩ := cells3 HO.out
                obtain ⟨r0, r1, r2⟩ := cells3 HC2.out
                have f0 := frozen3 HC2.out 0
                have f1 := frozen3 HC2.out 1
                have f2 := frozen3 HC2.out 2
                go_wp2_with fail
                refine bodyPost_ret (v := .tuple #[.agg #[.int .i64 q.tot, .int .i64 q.sv, .string q.ab], .int .i64 0]) ?_ rfl ⟨by rw [HX1.out, HX2.out, HQ.out], ?_⟩
                · have q0 := setCell_at (o := 2) (setCell_at (o := 1) (setCell_at (o := 0) HC2.out (.int .i64 q.tot)) (.int .i64 q.sv)) (.string q.ab)
                  obtain ⟨y0, y1, y2⟩ := cells3 q0
                  simp [results, Tryz.results10, go_sem, y0, y1, y2]
                · exact ((HW2.out.setCell (p := ⟨w.heap.size, 0, none⟩) (by simp) _).setCell (p := ⟨w.heap.size, 1, none⟩) (by simp) _).setCell (p := ⟨w.heap.size, 2, none⟩) (by simp) _
          · have e1 : E = 3 := by rw [HE.out]; unfold lukE; rw [hq, if_pos rfl, if_neg ht]
            have e2 : R = oZ := by rw [HR.out]; unfold lukO; rw [← HE.out, e1, if_neg (by decide)]
            have hti : inB t 0 1893455999 = false := by unfold inB; simp; omega
            have HX1 := hideH e1
            have HX2 := hideH e2
            clear e1 e2 hq HR HE
            obtain ⟨r0, r1, r2⟩ := cells3 HC.out
            have f0 := frozen3 HC.out 0
            have f1 := frozen3 HC.out 1
            have f2 := frozen3 HC.out 2
            go_wp2_with (go_at_call 22; refine (isTime_c _ _).mono ?_; rintro e w1 ⟨rfl, rfl⟩)
            refine bodyPost_ret (v := .tuple #[.agg #[.int .i64 0, .int .i64 0, .string ⟨#[]⟩], .int .i64 3]) ?_ rfl ⟨by rw [HX1.out, HX2.out]; rfl, ?_⟩
            · have q0 := setCell_at (o := 2) (setCell_at (o := 1) (setCell_at (o := 0) HC.out (.int .i64 0)) (.int .i64 0)) (.string ⟨#[]⟩)
              obtain ⟨y0, y1, y2⟩ := cells3 q0
              simp [results, Tryz.results10, go_sem, y0, y1, y2]
            · exact ((HW.out.setCell (p := ⟨w.heap.size, 0, none⟩) (by simp) _).setCell (p := ⟨w.heap.size, 1, none⟩) (by simp) _).setCell (p := ⟨w.heap.size, 2, none⟩) (by simp) _
    · have hne : ((ts 0).at_ != 0) = true := by rw [bne_iff_ne]; exact q2
      have e1 : E = 1 := by rw [HE.out]; unfold lukE; rw [if_neg (fun h => by have hI := (isTB_iff ts n).1 h; exact q2 hI.2.1)]
      have e2 : R = oZ := by rw [HR.out]; unfold lukO; rw [← HE.out, e1, if_neg (by decide)]
      have HX1 := hideH e1
      have HX2 := hideH e2
      clear e1 e2
      go_enter Tryz.func10, Tryz.ntmps10
      obtain ⟨r0, r1, r2⟩ := cells3 hbx.out
      go_wp2_with fail
      refine bodyPost_ret (v := .tuple #[.agg #[.int .i64 0, .int .i64 0, .string ⟨#[]⟩], .int .i64 1]) ?_ rfl ⟨by rw [HX1.out, HX2.out]; rfl, hb.out⟩
      simp [results, Tryz.results10, go_sem, r0, r1, r2]
end Go.Proofs.YtdffopkljomipaaGreatDoor
