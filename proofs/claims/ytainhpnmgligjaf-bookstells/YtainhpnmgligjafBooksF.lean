/- Contracts of package books: place, textOf. -/
import Derived.Test.YtainhpnmgligjafBooksE
namespace Go.Proofs.Ytainhpnmgligjaf
open Go Go.RowKit
set_option linter.unusedVariables false

theorem place_c (x : Bk) (key : ByteArray) (w : World) (hn : x.n ≤ 1000) (hP : x.row w) (hr : rsOK x) :
    Calls Try.prog 26 #[.slice x.a x.n x.c, .string key] w fun e w' => bsE x key w e w' := by
  have HC := hideH (Bsearch_c x key w hn hP hr)
  clear hP hr
  have hmf : ∀ (fn : Fn) (first cap : Array Value) (w : World), (Instr.makeFunc fn first cap).run Try.prog w = .ok (.func fn first cap) w := fun _ _ _ _ => rfl
  go_enter Try.func26, Try.ntmps26
  go_wp2_with fail
  refine HC.out.mono ?_
  rintro e w1 ⟨i, b, rfl, hw1, hp⟩
  have HP := hideH hp
  have HW := hideH hw1
  clear hp hw1 HC
  go_wp2_with fail
  go_ret2
  unfold bsE
  exact ⟨i, b, rfl, HW.out, HP.out⟩
/-- which of a book's pairs has a key -/
def kix (x : Bk) (key : ByteArray) : Option Nat := (List.range x.n).find? fun t => (x.ks t).data.toList == key.data.toList
theorem kix_of {x : Bk} {key : ByteArray} {i : Nat} {b : Bool} (hr : rsOK x) (h : bsP x key i b) : kix x key = if b then some i else none := by
  rcases h with ⟨rfl, h1, h2⟩ | ⟨rfl, h1⟩
  · refine find_rng h1 (by simp [h2]) fun t ht => ?_
    refine beq_eq_false_iff_ne.2 fun e => ?_
    have := rs_lt hr ht h1
    unfold ltB at this
    rw [tl, tl, e, h2, less_irr] at this
    cases this
  · exact find_rno fun t ht => beq_eq_false_iff_ne.2 (h1 t ht)
/-- the text of a key, in so many steps -/
def txF (bs : Nat → Bk) (key : ByteArray) : Nat → Int → ByteArray
  | 0, _ => ⟨#[]⟩
  | f + 1, p => if p = -1 then ⟨#[]⟩ else match kix (bs p.toNat) key with
    | some i => (bs p.toNat).ts i
    | none => txF bs key f (bs p.toNat).pa
theorem txF_more {bs : Nat → Bk} {key : ByteArray} {n : Nat} (hpa : ∀ j, j < n → -1 ≤ (bs j).pa ∧ (bs j).pa < j) : ∀ (f g : Nat) (p : Int), -1 ≤ p → p < n → p + 1 < f → p + 1 < g → txF bs key f p = txF bs key g p
  | 0, _, p, h0, h1, h2, h3 => by omega
  | _, 0, p, h0, h1, h2, h3 => by omega
  | f + 1, g + 1, p, h0, h1, h2, h3 => by
    unfold txF
    by_cases hp : p = -1
    · rw [if_pos hp, if_pos hp]
    · rw [if_neg hp, if_neg hp]
      cases kix (bs p.toNat) key with
      | some i => rfl
      | none =>
        have := hpa p.toNat (by omega)
        exact txF_more hpa f g _ this.1 (by omega) (by omega) (by omega)
def txt (bs : Nat → Bk) (key : ByteArray) (n : Nat) (p : Int) : ByteArray := txF bs key (n + 2) p
theorem txt_none (bs : Nat → Bk) (key : ByteArray) (n : Nat) : txt bs key n (-1) = ⟨#[]⟩ := by unfold txt txF; rw [if_pos rfl]
theorem txt_hit {bs : Nat → Bk} {key : ByteArray} {n i : Nat} (p : Nat) (h : kix (bs p) key = some i) : txt bs key n p = (bs p).ts i := by
  unfold txt txF
  rw [if_neg (by omega)]
  simp [h]
theorem txt_up {bs : Nat → Bk} {key : ByteArray} {n : Nat} (hpa : ∀ j, j < n → -1 ≤ (bs j).pa ∧ (bs j).pa < j) (p : Nat) (hp : p < n) (h : kix (bs p) key = none) : txt bs key n p = txt bs key n (bs p).pa := by
  have hp' := hpa p hp
  unfold txt
  rw [txF.eq_2, if_neg (by omega)]
  simp only [Int.toNat_natCast, h]
  exact txF_more hpa _ _ _ hp'.1 (by omega) (by omega) (by omega)
set_option maxHeartbeats 8000000 in
theorem textOf_c (a : Option Addr) (n c : Nat) (bs : Nat → Bk) (key : ByteArray) (at0 : Int) (w : World) (hn : n ≤ 1000) (hP : BAt w a n bs) (hr : ∀ j, j < n → (bs j).n ≤ 1000 ∧ rsOK (bs j)) (hpa : ∀ j, j < n → -1 ≤ (bs j).pa ∧ (bs j).pa < j) (h0 : -1 ≤ at0) (h1 : at0 < n) :
    Calls Try.prog 13 #[.slice a n c, .int .i64 at0, .string key] w fun e w' => e = .returned (.string (txt bs key n at0)) ∧ Below w.heap.size w w' := by
  have HP := hideH hP
  have HR := hideH hr
  have HPA := hideH hpa
  generalize hV : txt bs key n at0 = V
  have HV := hideH hV
  clear hP hr hpa hV
  go_enter Try.func13, Try.ntmps13
  go_wp2_with fail
  go_loopw [1] (fun x1 wr => ∃ p : Int, -1 ≤ p ∧ p < n ∧ x1 = .int .i64 p ∧ Hid (txt bs key n p = V) ∧ Hid (Below w.heap.size w wr)) (fun x1 _ => (intOf x1 + 1).toNat)
  case atStart => exact ⟨at0, h0, h1, rfl, HV, Below.refl _ _⟩
  case round =>
    obtain ⟨p, hp0, hp1, rfl, HT, HW⟩ := hrel
    rcases beq_cases p (-1) with ⟨q1, rfl⟩ | ⟨q1, q2⟩
    · have HX : Hid (V = ⟨#[]⟩) := by show V = _; rw [← HT.out]; exact txt_none _ _ _
      go_wp2_with fail
      go_ret
      exact ⟨by rw [HX.out]; rfl, HW.out⟩
    · obtain ⟨q, rfl⟩ : ∃ q : Nat, p = q := ⟨p.toNat, by omega⟩
      have hne : ((q : Int) != -1) = true := by rw [bne_iff_ne]; exact q2
      have hq : q < n := by omega
      clear q1 q2
      rcases (HP.out.on HW.out).rows with e0 | ⟨b, off, hsa, hcs⟩
      · omega
      obtain ⟨c0, c1, c2⟩ := hcs q hq
      clear hcs
      have hk0 : decide ((q : Int) < 0) = false := by simp
      have hkn : decide (n ≤ q) = false := by simp; omega
      have HPL := hideH (place_c (bs q) key wr (HR.out q hq).1 ((HP.out.on HW.out).prs q hq) (HR.out q hq).2)
      have HBP := hideH ((HP.out.on HW.out).prs q hq)
      have HCL := hideH (And.intro c1 c2)
      have HRQ := hideH (HR.out q hq).2
      go_wp2_with fail
      refine HPL.out.mono ?_
      rintro e w1 ⟨i, bb, rfl, hw1, hp⟩
      have H1 := hideH (bthen HW.out hw1)
      have HK := hideH (kix_of HRQ.out hp)
      have HBQ := hideH (HBP.out.on hw1)
      have d1 := cell_on HCL.out.1 hw1
      have d2 := cell_on HCL.out.2 hw1
      have HPP := hideH hp
      clear hw1 hp c0 c1 c2 HPL HBP HCL
      cases bb
      · have HT2 : Hid (txt bs key n (bs q).pa = V) := by
          show _ = V
          rw [← HT.out, txt_up HPA.out q hq HK.out]
        have hpa := HPA.out q hq
        go_wp2_with fail
        try simp only [← hsa]
        go_roundw
        case rel => exact ⟨(bs q).pa, hpa.1, by omega, rfl, HT2, H1⟩
        case measure => simp [intOf]; omega
      · have HX : Hid (V = (bs q).ts i) := by
          show V = _
          rw [← HT.out, txt_hit q HK.out]
        have hi : i < (bs q).n := by
          rcases HPP.out with ⟨_, h, _⟩ | ⟨h, _⟩
          · exact h
          · cases h
        rcases HBQ.out with e0 | ⟨b2, off2, hsb, hcs2⟩
        · omega
        obtain ⟨f0, f1⟩ := hcs2 i hi
        clear hcs2
        have hj0 : decide ((i : Int) < 0) = false := by simp
        have hjn : decide ((bs q).n ≤ i) = false := by simp; omega
        have hjl : (i : Int) < ((bs q).n : Int) := by omega
        have d3 : w1.cell? ⟨b, off + q * 3 + 2, none⟩ = some (.slice (some ⟨b2, off2, none⟩) (bs q).n (bs q).c) := by rw [← hsb]; exact d2
        clear d2 hsb
        go_wp2_with fail
        go_ret
        exact ⟨by rw [HX.out]; rfl, H1.out⟩
end Go.Proofs.Ytainhpnmgligjaf
