/- The walk of the statement BooksTrue: it returns true, and nothing that lay in memory has turned. -/
import Derived.Test.YtcdokhjmpkcpnafBooksI
import Derived.Deep.RegionHeld3
namespace Go.Proofs.Ytcdokhjmpkcpnaf
open Go Go.RowKit
set_option linter.unusedVariables false

theorem bix_own {bs : Nat → Bk} {n j : Nat} (hd : dist (fun j => (bs j).lc) n) (hj : j < n) : bixI bs n (bs j).lc = j := by
  unfold bixI bix
  rw [find_rng hj (by simp) (fun i hi => beq_eq_false_iff_ne.2 fun e => hd j hj i hi (by rw [← tl, ← tl]; exact e.symm))]
theorem bt_own {bs : Nat → Bk} {n j : Nat} (key : ByteArray) (h : bchk n bs = 0) (hj : j < n) : btT bs n (bs j).lc key = txt bs key n j ∧ btE bs n (bs j).lc = 0 := by
  have e := bix_own (bchk_parts h).2.2.2 hj
  unfold btT btE
  rw [if_pos h, if_pos h, e, if_neg (by omega), if_neg (by omega)]
  exact ⟨rfl, rfl⟩
set_option maxRecDepth 100000 in
set_option maxHeartbeats 8000000 in
theorem BooksTrue_w (a : Option Addr) (n c : Nat) (bs : Nat → Bk) (ci : Int) (key : ByteArray) (w : World) (hn : n ≤ maxLen) (hc : n ≤ c) (hP : BAt w a n bs) (hf : ∀ j, j < n → (bs j).fits) (hi : -9223372036854775808 ≤ ci ∧ ci ≤ 9223372036854775807) :
    Calls Try.prog 4 #[.slice a n c, .int .i64 ci, .string key] w fun e w' => e = .returned (.bool true) ∧ Below w.heap.size w w' := by
  have HP := hideH hP
  have HF := hideH hf
  have HC := hideH (fun v (hv : Below w.heap.size w v) => BCheck_c a n c bs v hn hc (HP.out.on hv) HF.out)
  have HT := hideH (fun v (hv : Below w.heap.size w v) (loc : ByteArray) => BText_c a n c bs loc key v hn hc (HP.out.on hv) HF.out)
  unfold maxLen at hn
  clear hP hf
  go_enter Try.func4, Try.ntmps4
  go_wp2_with fail
  refine (HC.out _ (Below.refl _ w)).mono ?_
  rintro e w1 ⟨rfl, hw1⟩
  have H1 := hideH hw1
  clear hw1
  rcases beq_cases (bchk n bs) 0 with ⟨q1, q2⟩ | ⟨q1, q2⟩
  · rw [q2]
    have Q := hideH q2
    clear q1 q2
    rcases beq_cases (n : Int) 0 with ⟨l1, l2⟩ | ⟨l1, l2⟩
    · go_wp2_with fail
      refine (booksBegun_c _).mono ?_
      rintro e w2 ⟨rfl, hw2⟩
      go_wp2_with fail
      go_ret
      exact ⟨rfl, bthen H1.out hw2⟩
    · have hn4 : n ≤ 4 := (bchk_parts Q.out).1
      obtain ⟨j, hj, hjl⟩ : ∃ j : Nat, cho ci n = j ∧ j < n := by
        have hp : (0 : Int) < n := by omega
        have h1 : 0 ≤ cho ci n ∧ cho ci n < n := by
          unfold cho
          split
          · exact ⟨Int.emod_nonneg _ (by omega), Int.emod_lt_of_pos _ hp⟩
          · exact ⟨Int.emod_nonneg _ (by omega), Int.emod_lt_of_pos _ hp⟩
        exact ⟨(cho ci n).toNat, by omega, by omega⟩
      have HCH : Hid (∀ v, Calls Try.prog 10 #[.int .i64 ci, .int .i64 n] v fun e w' => e = .returned (.int .i64 j) ∧ w' = v) := fun v => by
        have := choose_law ci n v (by omega) (by omega) hi.1 hi.2
        rwa [hj] at this
      obtain ⟨t1, t2⟩ := bt_own key Q.out hjl
      rcases (HP.out.on H1.out).rows with h0 | ⟨b, off, hsa, hcs⟩
      · omega
      obtain ⟨d0, d1, d2⟩ := hcs j hjl
      have hk0 : decide ((j : Int) < 0) = false := by simp
      have hkn : decide (n ≤ j) = false := by simp; omega
      have hjl2 : (j : Int) < (n : Int) := by omega
      clear hcs hj
      subst hsa
      have HT1 : Hid (∀ v, Below w.heap.size w v → Calls Try.prog 5 #[.slice (some ⟨b, off, none⟩) n c, .string (bs j).lc, .string key] v fun e w' => e = .returned (.tuple #[.string (txt bs key n j), .bool (!(txt bs key n j).toList.isEmpty), .int .i64 0]) ∧ Below v.heap.size v w') := fun v hv => by
        have := HT.out v hv (bs j).lc
        rwa [t1, t2] at this
      obtain ⟨T, hT⟩ : ∃ T, T = txt bs key n j := ⟨_, rfl⟩
      rw [← hT] at HT1
      have HTT := hideH hT
      clear hT t1 t2
      go_wp2_with fail
      refine (HCH.out _).mono ?_
      rintro e w1 ⟨rfl, rfl⟩
      have B1 := hideH ((Below.refl _ w1).alloc (Nat.le_refl _) (bs j).cs)
      have X1 : Hid ((w1.alloc (bs j).cs).heap[w1.heap.size]? = some (bs j).cs) := World.alloc_heap_new _ _
      have H2 := hideH (bthen H1.out B1.out)
      obtain ⟨te, hte⟩ : ∃ te, T.toList.isEmpty = te := ⟨_, rfl⟩
      rw [hte] at HT1
      clear HCH
      go_wp2_with fail
      clear d0 d1 d2
      refine (HT1.out _ H2.out).mono ?_
      rintro e w2 ⟨rfl, hw2⟩
      have H3 := hideH (bthen H2.out hw2)
      have X2 := hideH (heap_onB X1.out hw2)
      clear hw2 H2 B1 X1 HT1
      go_wp2_with fail
      go_loopw [11] (fun x11 v => ∃ k : Nat, k ≤ (bs j).n ∧ x11 = .int .i64 k ∧ Hid (∀ t, t < k → (((bs j).ks t).data.toList == key.data.toList) = false) ∧ Hid (Below w.heap.size w v) ∧ Hid (v.heap[w1.heap.size]? = some (bs j).cs)) (fun x11 _ => (bs j).n - (intOf x11).toNat)
      case atStart => exact ⟨0, Nat.zero_le _, rfl, fun t ht => by omega, H3, X2⟩
      case round =>
        obtain ⟨k, hk, rfl, HA, HW, HX⟩ := hrel
        have c0 : wr.cell? ⟨w1.heap.size, 0, none⟩ = some (.string (bs j).lc) := by simp [World.cell?, HX.out]
        have c1 : wr.cell? ⟨w1.heap.size, 1, none⟩ = some (.int .i64 (bs j).pa) := by simp [World.cell?, HX.out]
        have c2 : wr.cell? ⟨w1.heap.size, 2, none⟩ = some (.slice (bs j).a (bs j).n (bs j).c) := by simp [World.cell?, HX.out]
        have hnj : (bs j).n ≤ 1000 := ((bchk_parts Q.out).2.1 j hjl).1
        by_cases hlt : k < (bs j).n
        · rcases (HP.out.on HW.out).prs j hjl with h0 | ⟨b2, off2, hsb, hcs2⟩
          · omega
          obtain ⟨d0, d1⟩ := hcs2 k hlt
          clear hcs2
          have c3 : wr.cell? ⟨w1.heap.size, 2, none⟩ = some (.slice (some ⟨b2, off2, none⟩) (bs j).n (bs j).c) := by rw [← hsb]; exact c2
          clear c2 hsb
          have hj0 : decide ((k : Int) < 0) = false := by simp
          have hjn : decide ((bs j).n ≤ k) = false := by simp; omega
          have hkl : (k : Int) < ((bs j).n : Int) := by omega
          by_cases hq : ((bs j).ks k).data.toList = key.data.toList
          · have hkk : (bs j).ks k = key := by
              have := Array.toList_inj.1 hq
              cases h1 : (bs j).ks k; cases h2 : key; rw [h1, h2] at this; congr 1
            have hTk : (bs j).ts k = T := by
              rw [HTT.out]
              exact (txt_hit j (find_rng hlt (by simp [hq]) HA.out)).symm
            simp only [hkk] at d0
            simp only [hTk] at d1
            have D1 := hideH d1
            have C3 := hideH c3
            clear hq hkk hTk
            go_wp2_with fail
            refine (booksBegun_c _).mono ?_
            rintro e w3 ⟨rfl, hw3⟩
            have e1 := cell_on D1.out hw3
            have e3 := cell_on C3.out hw3
            have H4 := hideH (bthen HW.out hw3)
            clear hw3 d0 d1 c0 c1 c3
            go_wp2_with fail
            go_ret
            exact ⟨rfl, H4.out⟩
          · have hq1 : ¬ ((bs j).ks k).toList = key.toList := by rw [tl, tl]; exact hq
            have hq2 : (((bs j).ks k).toList == key.toList) = false := beq_eq_false_iff_ne.2 hq1
            have HA2 : Hid (∀ t, t < k + 1 → (((bs j).ks t).data.toList == key.data.toList) = false) := fun t ht => by
              rcases Nat.lt_or_ge t k with h | h
              · exact HA.out t h
              · obtain rfl : t = k := by omega
                exact beq_eq_false_iff_ne.2 hq
            clear hq
            go_wp2_with fail
            go_roundw
            case rel => exact ⟨k + 1, by omega, by go_num, HA2, HW, HX⟩
            case measure => simp [intOf]; omega
        · obtain rfl : k = (bs j).n := by omega
          have hpa := (bchk_parts Q.out).2.2.1 j hjl
          have hTp : T = txt bs key n (bs j).pa := by
            rw [HTT.out]
            exact txt_up (bchk_parts Q.out).2.2.1 j hjl (find_rno HA.out)
          have HTP := hideH hTp
          clear hTp
          by_cases hp : (bs j).pa < 0
          · have hp1 : (bs j).pa = -1 := by omega
            obtain rfl : te = true := by
              rw [← hte, HTP.out, hp1, txt_none, tl]; rfl
            have hpd : decide ((bs j).pa < 0) = true := decide_eq_true hp
            go_wp2_with fail
            refine (booksBegun_c _).mono ?_
            rintro e w3 ⟨rfl, hw3⟩
            have H4 := hideH (bthen HW.out hw3)
            clear hw3
            go_wp2_with fail
            go_ret
            exact ⟨rfl, H4.out⟩
          · obtain ⟨p, hpp⟩ : ∃ p : Nat, (bs j).pa = p := ⟨(bs j).pa.toNat, by omega⟩
            rw [hpp] at c1 hpa
            have hpn : p < n := by omega
            obtain ⟨t1, t2⟩ := bt_own key Q.out hpn
            have HT2 : Hid (∀ v, Below w.heap.size w v → Calls Try.prog 5 #[.slice (some ⟨b, off, none⟩) n c, .string (bs p).lc, .string key] v fun e w' => e = .returned (.tuple #[.string T, .bool (!te), .int .i64 0]) ∧ Below v.heap.size v w') := fun v hv => by
              have := HT.out v hv (bs p).lc
              rw [t1, t2, ← hpp, ← HTP.out, hte] at this
              exact this
            rcases (HP.out.on HW.out).rows with h0 | ⟨b3, off3, hsa, hcs⟩
            · omega
            obtain ⟨rfl, rfl⟩ : b = b3 ∧ off = off3 := by simpa using hsa
            obtain ⟨d0, d1, d2⟩ := hcs p hpn
            have hk0' : decide ((p : Int) < 0) = false := by simp
            have hkn' : decide (n ≤ p) = false := by simp; omega
            have hge : ¬ ((n : Int) ≤ (p : Int)) := by omega
            have hge2 : decide ((n : Int) ≤ (p : Int)) = false := decide_eq_false hge
            have hpl : (p : Int) < (n : Int) := by omega
            clear hcs hsa t1 t2 hp hpp hpa
            go_wp2_with fail
            refine (HT2.out _ HW.out).mono ?_
            rintro e w3 ⟨rfl, hw3⟩
            have H4 := hideH (bthen HW.out hw3)
            clear hw3
            go_wp2_with fail
            refine (booksBegun_c _).mono ?_
            rintro e w4 ⟨rfl, hw4⟩
            have H5 := hideH (bthen H4.out hw4)
            clear hw4
            go_wp2_with fail
            go_ret
            exact ⟨rfl, H5.out⟩
  · have hne : (bchk n bs != 0) = true := by rw [bne_iff_ne]; exact q2
    clear q1 q2
    go_wp2_with fail
    refine (booksBegun_c _).mono ?_
    rintro e w2 ⟨rfl, hw2⟩
    go_wp2_with fail
    go_ret
    exact ⟨rfl, bthen H1.out hw2⟩
end Go.Proofs.Ytcdokhjmpkcpnaf
