/- Contracts of the document's own bookAt. -/
import Derived.Test.YtfjjdicgekgbeaaGreatDoorBooksEAll
import Derived.OwnWalk
namespace Go.Proofs.YtfjjdicgekgbeaaGreatDoor
open Go Go.RowKit
set_option linter.unusedVariables false

set_option maxHeartbeats 4000000 in
theorem bookAt_c (a : Option Addr) (n c : Nat) (bs : Nat → Bk) (loc : ByteArray) (w : World) (hn : n ≤ 1000) (hP : BAt w a n bs) :
    Calls Tryz.prog 25 #[.slice a n c, .string loc] w fun e w' => e = .returned (.int .i64 (bixI bs n loc)) ∧ Below w.heap.size w w' := by
  have HP := hideH hP
  clear hP
  generalize hV : bixI bs n loc = V
  have HV := hideH hV
  clear hV
  go_enter Tryz.func25, Tryz.ntmps25
  go_wp2_with fail
  go_loopw [5] (fun x3 wr => ∃ j : Nat, j ≤ n ∧ x3 = .int .i64 j ∧ Hid (∀ i, i < j → ((bs i).lc.toList == loc.toList) = false) ∧ Hid (Below w.heap.size w wr)) (fun x3 _ => n - (intOf x3).toNat)
  case atStart => exact ⟨0, Nat.zero_le _, rfl, fun i hi => by omega, Below.refl _ _⟩
  case round =>
    obtain ⟨j, hj, rfl, HA, HW⟩ := hrel
    by_cases hlt : j < n
    · rcases (HP.out.on HW.out).rows with h0 | ⟨b, off, hsa, hcs⟩
      · omega
      obtain ⟨c0, c1, c2⟩ := hcs j hlt
      clear hcs
      have hk0 : decide ((j : Int) < 0) = false := by simp
      have hkn : decide (n ≤ j) = false := by simp; omega
      have hkl : (j : Int) < (n : Int) := by omega
      by_cases hq : (bs j).lc.toList = loc.toList
      · have hqb : ((bs j).lc.toList == loc.toList) = true := beq_iff_eq.2 hq
        have HX : Hid (V = j) := by
          show V = j
          rw [← HV.out]
          unfold bixI bix
          rw [find_rng hlt hqb HA.out]
        go_wp2_with fail
        go_ret
        exact ⟨ret_int HX.out.symm, HW.out⟩
      · have hqb : ((bs j).lc.toList == loc.toList) = false := beq_eq_false_iff_ne.2 hq
        have HA2 : Hid (∀ i, i < j + 1 → ((bs i).lc.toList == loc.toList) = false) := fun i hi => by
          rcases Nat.lt_or_ge i j with h | h
          · exact HA.out i h
          · obtain rfl : i = j := by omega
            exact hqb
        go_wp2_with fail
        try simp only [← hsa]
        go_roundw
        case rel => exact ⟨j + 1, by omega, by go_num, HA2, HW⟩
        case measure => simp [intOf]; omega
    · have HX : Hid (V = -1) := by
        show V = -1
        rw [← HV.out]
        unfold bixI bix
        rw [find_rno (fun i hi => HA.out i (by omega))]
      go_wp2_with fail
      go_ret
      exact ⟨ret_int HX.out.symm, HW.out⟩
set_option maxHeartbeats 8000000 in
theorem RtextOf_c (a : Option Addr) (n c : Nat) (bs : Nat → Bk) (key : ByteArray) (at0 : Int) (w : World) (hn : n ≤ 1000) (hP : BAt w a n bs) (hr : ∀ j, j < n → (bs j).n ≤ 1000 ∧ rsOK (bs j)) (hpa : ∀ j, j < n → -1 ≤ (bs j).pa ∧ (bs j).pa < j) (h0 : -1 ≤ at0) (h1 : at0 < n) :
    Calls Tryz.prog 46 #[.slice a n c, .int .i64 at0, .string key] w fun e w' => e = .returned (.tuple #[.string (txt bs key n at0), .bool (!(txt bs key n at0).toList.isEmpty)]) ∧ Below w.heap.size w w' := by
  have HP := hideH hP
  have HR := hideH hr
  have HPA := hideH hpa
  generalize hV : txt bs key n at0 = V
  have HV := hideH hV
  clear hP hr hpa hV
  go_enter Tryz.func46, Tryz.ntmps46
  go_wp2_with fail
  go_loopw [1] (fun x1 wr => ∃ p : Int, -1 ≤ p ∧ p < n ∧ x1 = .int .i64 p ∧ Hid (txt bs key n p = V) ∧ Hid (Below w.heap.size w wr)) (fun x1 _ => (intOf x1 + 1).toNat)
  case atStart => exact ⟨at0, h0, h1, rfl, HV, Below.refl _ _⟩
  case round =>
    obtain ⟨p, hp0, hp1, rfl, HT, HW⟩ := hrel
    by_cases hneg : p < 0
    · obtain rfl : p = -1 := by omega
      have HX : Hid (V = ⟨#[]⟩) := by show V = _; rw [← HT.out]; exact txt_none _ _ _
      go_wp2_with fail
      go_ret2
      exact ⟨by rw [HX.out, emp0]; rfl, HW.out⟩
    · obtain ⟨q, rfl⟩ : ∃ q : Nat, p = q := ⟨p.toNat, by omega⟩
      have hge : (0 : Int) ≤ (q : Int) := by omega
      have hq : q < n := by omega
      obtain ⟨wo, hwo⟩ : ∃ wo, wo = wr := ⟨_, rfl⟩
      subst hwo
      have hnq := (HR.out q hq).1
      rcases (HP.out.on HW.out).rows with e0 | ⟨b, off, hsa, hcs⟩
      · omega
      subst hsa
      have HCC := hideH (hcs q hq)
      clear hcs
      have hk0 : decide ((q : Int) < 0) = false := by simp
      have hkn : decide (n ≤ q) = false := by simp; omega
      have hql : (q : Int) < (n : Int) := by omega
      go_wp2_with fail
      go_loopw [8] (fun x8 v => ∃ i : Nat, i ≤ (bs q).n ∧ x8 = .int .i64 i ∧ Hid (∀ t, t < i → (((bs q).ks t).data.toList == key.data.toList) = false) ∧ v = wo) (fun x8 _ => (bs q).n - (intOf x8).toNat)
      case atStart => exact ⟨0, Nat.zero_le _, rfl, fun t ht => by omega, rfl⟩
      case round =>
        obtain ⟨i, hi, rfl, HA, rfl⟩ := hrel
        obtain ⟨c0, c1, c2⟩ := HCC.out
        by_cases hlt : i < (bs q).n
        · rcases (HP.out.on HW.out).prs q hq with h0 | ⟨b2, off2, hsb, hcs2⟩
          · omega
          obtain ⟨d0, d1⟩ := hcs2 i hlt
          clear hcs2
          have c3 : wr.cell? ⟨b, off + q * 3 + 2, none⟩ = some (.slice (some ⟨b2, off2, none⟩) (bs q).n (bs q).c) := by rw [← hsb]; exact c2
          clear c2 hsb
          have hj0 : decide ((i : Int) < 0) = false := by simp
          have hjn : decide ((bs q).n ≤ i) = false := by simp; omega
          have hil : (i : Int) < ((bs q).n : Int) := by omega
          by_cases hk : ((bs q).ks i).data.toList = key.data.toList
          · have hkb : ((bs q).ks i).toList = key.toList := by rw [tl, tl]; exact hk
            have hVt : (bs q).ts i = V := by
              rw [← HT.out]
              exact (txt_hit q (find_rng hlt (by simp [hk]) HA.out)).symm
            simp only [hVt] at d1
            clear hk
            go_wp2_with fail
            go_quiet (fail)
            go_wp2_with fail
            go_ret2
            exact ⟨rfl, below_drewN HW.out _⟩
          · have hkb : ¬ ((bs q).ks i).toList = key.toList := by rw [tl, tl]; exact hk
            have hkb2 : (((bs q).ks i).toList == key.toList) = false := beq_eq_false_iff_ne.2 hkb
            have HA2 : Hid (∀ t, t < i + 1 → (((bs q).ks t).data.toList == key.data.toList) = false) := fun t ht => by
              rcases Nat.lt_or_ge t i with h | h
              · exact HA.out t h
              · obtain rfl : t = i := by omega
                exact beq_eq_false_iff_ne.2 hk
            clear hk
            go_wp2_with fail
            go_roundw
            case rel => exact ⟨i + 1, by omega, by go_num, HA2, by first | trivial | rfl⟩
            case measure => simp [intOf]; omega
        · obtain rfl : i = (bs q).n := by omega
          have HT2 : Hid (txt bs key n (bs q).pa = V) := by
            show _ = V
            rw [← HT.out, txt_up HPA.out q hq (find_rno HA.out)]
          have hpa := HPA.out q hq
          go_wp2_with fail
          go_roundw
          case rel => exact ⟨(bs q).pa, hpa.1, by omega, rfl, HT2, HW⟩
          case measure => simp [intOf]; omega
end Go.Proofs.YtfjjdicgekgbeaaGreatDoor

/- The document's own TextOf, and the walk of the statement BooksTells, once the document's own CheckBooks answers bchk. -/
namespace Go.Proofs.YtfjjdicgekgbeaaGreatDoor
open Go Go.RowKit
set_option linter.unusedVariables false

/-- what is owed of the document's own CheckBooks -/
def CBk (a : Option Addr) (n c : Nat) (bs : Nat → Bk) (w : World) : Prop := ∀ v, Below w.heap.size w v → Calls Tryz.prog 16 #[.slice a n c] v fun e w' => e = .returned (.int .i64 (bchk n bs)) ∧ Below v.heap.size v w'
end Go.Proofs.YtfjjdicgekgbeaaGreatDoor
