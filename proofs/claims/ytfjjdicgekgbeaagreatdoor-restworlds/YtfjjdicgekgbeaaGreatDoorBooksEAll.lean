/- Contracts of package books: place. -/
import Derived.Test.YtfjjdicgekgbeaaGreatDoorBooksAAll
import Derived.OwnWalk
namespace Go.Proofs.YtfjjdicgekgbeaaGreatDoor
open Go Go.RowKit
set_option linter.unusedVariables false

/-- where a key is found, or that it is nowhere -/
def bsP (x : Bk) (key : ByteArray) (i : Nat) (b : Bool) : Prop := b = true ∧ i < x.n ∧ (x.ks i).data.toList = key.data.toList ∨ b = false ∧ ∀ t, t < x.n → (x.ks t).data.toList ≠ key.data.toList
def bsE (x : Bk) (key : ByteArray) (w : World) (e : Ending) (w' : World) : Prop := ∃ (i : Nat) (b : Bool), e = .returned (.tuple #[.int .i64 i, .bool b]) ∧ Below w.heap.size w w' ∧ bsP x key i b
theorem tl (a : ByteArray) : a.toList = a.data.toList := ByteArray.toList_eq a
set_option maxHeartbeats 8000000 in
theorem Bsearch_c (x : Bk) (key : ByteArray) (w : World) (hn : x.n ≤ 1000) (hP : x.row w) (hr : rsOK x) :
    Calls Tryz.prog 178 #[.slice x.a x.n x.c, .string key, .func (.func 179) #[] #[]] w fun e w' => bsE x key w e w' := by
  have HP := hideH hP
  have HR := hideH hr
  clear hP hr
  have HC := hideH (fun j v => place1_c (x.ks j) (x.ts j) key v)
  go_enter Tryz.func178, Tryz.ntmps178
  go_wp2_with fail
  go_loopw [9, 10] (fun x9 x10 wr => ∃ i j : Nat, i ≤ j ∧ j ≤ x.n ∧ x9 = .int .i64 i ∧ x10 = .int .i64 j ∧ Hid (∀ t, t < i → ltB (x.ks t) key = true) ∧ Hid (∀ t, j ≤ t → t < x.n → ltB (x.ks t) key = false) ∧ Hid (Below w.heap.size w wr)) (fun x9 x10 _ => (intOf x10).toNat - (intOf x9).toNat)
  case atStart => exact ⟨0, x.n, Nat.zero_le _, Nat.le_refl _, rfl, rfl, fun t ht => by omega, fun t h1 h2 => by omega, Below.refl _ _⟩
  case round =>
    obtain ⟨i, j, hij, hjn, rfl, rfl, HA, HB, HW⟩ := hrel
    by_cases hlt : i < j
    · obtain ⟨h, hh⟩ : ∃ h : Nat, h = (i + j) / 2 := ⟨_, rfl⟩
      have hm1 : i ≤ h := by omega
      have hm2 : h < j := by omega
      have hmid : ((i : Int) + (j : Int)) / 2 = (h : Int) := by omega
      clear hh
      rcases HP.out.on HW.out with h0 | ⟨b, off, hsa, hcs⟩
      · omega
      obtain ⟨d0, d1⟩ := hcs h (by omega)
      clear hcs
      have hk0 : decide ((h : Int) < 0) = false := by simp
      have hkn : decide (x.n ≤ h) = false := by simp; omega
      have hlt2 : (h : Int) < (x.n : Int) := by omega
      obtain ⟨cz, hcz⟩ : ∃ cz, cz = Lib.compareBytes (x.ks h).data.toList key.data.toList := ⟨_, rfl⟩
      have HC1 := hideH (HC.out h)
      rw [← hcz] at HC1
      have HCZ := hideH hcz
      clear hcz
      by_cases hq : cz < 0
      · have HA2 : Hid (∀ t, t < h + 1 → ltB (x.ks t) key = true) := fun t ht => by
          have e : ltB (x.ks h) key = true := by
            have := (cmp_less (x.ks h).data.toList key.data.toList).1.1 (by rw [← HCZ.out]; exact hq)
            unfold ltB; rwa [tl, tl]
          rcases Nat.lt_or_ge t h with h1 | h1
          · exact less_trans (rs_lt HR.out h1 (by omega)) e
          · obtain rfl : t = h := by omega
            exact e
        have hqd : decide (cz < 0) = true := decide_eq_true hq
        go_wp2_with (go_at_call 179; refine (HC1.out _).mono ?_; rintro e w1 ⟨rfl, hw1⟩)
        have H1 := hideH (bthen HW.out hw1)
        clear hw1
        try simp only [← hsa]
        go_roundw
        case rel => exact ⟨h + 1, j, by omega, hjn, by go_num, rfl, HA2, HB, H1⟩
        case measure => simp [intOf]; omega
      · have hqd : decide (cz < 0) = false := decide_eq_false hq
        go_wp2_with (go_at_call 179; refine (HC1.out _).mono ?_; rintro e w1 ⟨rfl, hw1⟩)
        have HB2 : Hid (∀ t, h ≤ t → t < x.n → ltB (x.ks t) key = false) := fun t h1 h2 => by
          have e : ltB (x.ks h) key = false := by
            cases hb : ltB (x.ks h) key
            · rfl
            · unfold ltB at hb
              rw [tl, tl] at hb
              have := (cmp_less (x.ks h).data.toList key.data.toList).1.2 hb
              rw [← HCZ.out] at this
              omega
          rcases Nat.lt_or_ge h t with h3 | h3
          · cases hb : ltB (x.ks t) key
            · rfl
            · have := less_trans (rs_lt HR.out h3 h2) hb
              rw [show Op.bytesLess (x.ks h).toList key.toList = false from e] at this
              cases this
          · obtain rfl : t = h := by omega
            exact e
        have H1 := hideH (bthen HW.out hw1)
        clear hw1
        try simp only [← hsa]
        go_roundw
        case rel => exact ⟨i, h, by omega, by omega, rfl, rfl, HA, HB2, H1⟩
        case measure => simp [intOf]; omega
    · obtain rfl : i = j := by omega
      by_cases hin : i < x.n
      · rcases HP.out.on HW.out with h0 | ⟨b, off, hsa, hcs⟩
        · omega
        obtain ⟨d0, d1⟩ := hcs i hin
        clear hcs
        have hk0 : decide ((i : Int) < 0) = false := by simp
        have hkn : decide (x.n ≤ i) = false := by simp; omega
        have hlt2 : (i : Int) < (x.n : Int) := by omega
        obtain ⟨cz, hcz⟩ : ∃ cz, cz = Lib.compareBytes (x.ks i).data.toList key.data.toList := ⟨_, rfl⟩
        have HC1 := hideH (HC.out i)
        rw [← hcz] at HC1
        have HCZ := hideH hcz
        clear hcz
        rcases beq_cases cz 0 with ⟨q1, q2⟩ | ⟨q1, q2⟩
        · have HQ : Hid ((x.ks i).data.toList = key.data.toList) := (cmp_less _ _).2.1 (by rw [← HCZ.out]; exact q2)
          clear q2
          go_wp2_with (go_at_call 179; refine (HC1.out _).mono ?_; rintro e w1 ⟨rfl, hw1⟩)
          go_ret2
          unfold bsE
          exact ⟨i, true, rfl, bthen HW.out hw1, .inl ⟨rfl, hin, HQ.out⟩⟩
        · have HQ : Hid ((x.ks i).data.toList ≠ key.data.toList) := fun e => q2 (by rw [HCZ.out]; exact (cmp_less _ _).2.2 e)
          clear q2
          go_wp2_with (go_at_call 179; refine (HC1.out _).mono ?_; rintro e w1 ⟨rfl, hw1⟩)
          go_ret2
          unfold bsE
          refine ⟨i, false, rfl, bthen HW.out hw1, .inr ⟨rfl, fun t ht e => ?_⟩⟩
          rcases Nat.lt_or_ge t i with h3 | h3
          · have := HA.out t h3
            unfold ltB at this
            rw [tl, tl, e, less_irr] at this
            cases this
          · rcases Nat.lt_or_ge i t with h4 | h4
            · have h5 := rs_lt HR.out h4 ht
              have h6 := HB.out i (Nat.le_refl _) hin
              unfold ltB at h5 h6
              rw [tl, tl] at h5 h6
              rw [e, h6] at h5
              cases h5
            · obtain rfl : t = i := by omega
              exact HQ.out e
      · have hin2 : ¬ ((i : Int) < (x.n : Int)) := by omega
        go_wp2_with fail
        go_ret2
        unfold bsE
        refine ⟨i, false, rfl, HW.out, .inr ⟨rfl, fun t ht e => ?_⟩⟩
        have := HA.out t (by omega)
        unfold ltB at this
        rw [tl, tl, e, less_irr] at this
        cases this
end Go.Proofs.YtfjjdicgekgbeaaGreatDoor

/- Contracts of package books: place, textOf. -/
namespace Go.Proofs.YtfjjdicgekgbeaaGreatDoor
open Go Go.RowKit
set_option linter.unusedVariables false

theorem place_c (x : Bk) (key : ByteArray) (w : World) (hn : x.n ≤ 1000) (hP : x.row w) (hr : rsOK x) :
    Calls Tryz.prog 145 #[.slice x.a x.n x.c, .string key] w fun e w' => bsE x key w e w' := by
  have HC := hideH (Bsearch_c x key w hn hP hr)
  clear hP hr
  have hmf : ∀ (fn : Fn) (first cap : Array Value) (w : World), (Instr.makeFunc fn first cap).run Tryz.prog w = .ok (.func fn first cap) w := fun _ _ _ _ => rfl
  go_enter Tryz.func145, Tryz.ntmps145
  go_wp2_with fail
  refine HC.out.mono ?_
  rintro e w1 ⟨i, b, rfl, hw1, hp⟩
  have HP := hideH hp
  have HW := hideH hw1
  clear hp hw1 HC
  go_wp2_with fail
  go_ret2
  unfold bsE
  exact ⟨i, b, rfl, HW.out, HP.out⟩
/-- which of a book's pairs has a key -/
def kix (x : Bk) (key : ByteArray) : Option Nat := (List.range x.n).find? fun t => (x.ks t).data.toList == key.data.toList
theorem kix_of {x : Bk} {key : ByteArray} {i : Nat} {b : Bool} (hr : rsOK x) (h : bsP x key i b) : kix x key = if b then some i else none := by
  rcases h with ⟨rfl, h1, h2⟩ | ⟨rfl, h1⟩
  · refine find_rng h1 (by simp [h2]) fun t ht => ?_
    refine beq_eq_false_iff_ne.2 fun e => ?_
    have := rs_lt hr ht h1
    unfold ltB at this
    rw [tl, tl, e, h2, less_irr] at this
    cases this
  · exact find_rno fun t ht => beq_eq_false_iff_ne.2 (h1 t ht)
/-- the text of a key, in so many steps -/
def txF (bs : Nat → Bk) (key : ByteArray) : Nat → Int → ByteArray
  | 0, _ => ⟨#[]⟩
  | f + 1, p => if p = -1 then ⟨#[]⟩ else match kix (bs p.toNat) key with
    | some i => (bs p.toNat).ts i
    | none => txF bs key f (bs p.toNat).pa
theorem txF_more {bs : Nat → Bk} {key : ByteArray} {n : Nat} (hpa : ∀ j, j < n → -1 ≤ (bs j).pa ∧ (bs j).pa < j) : ∀ (f g : Nat) (p : Int), -1 ≤ p → p < n → p + 1 < f → p + 1 < g → txF bs key f p = txF bs key g p
  | 0, _, p, h0, h1, h2, h3 => by omega
  | _, 0, p, h0, h1, h2, h3 => by omega
  | f + 1, g + 1, p, h0, h1, h2, h3 => by
    unfold txF
    by_cases hp : p = -1
    · rw [if_pos hp, if_pos hp]
    · rw [if_neg hp, if_neg hp]
      cases kix (bs p.toNat) key with
      | some i => rfl
      | none =>
        have := hpa p.toNat (by omega)
        exact txF_more hpa f g _ this.1 (by omega) (by omega) (by omega)
def txt (bs : Nat → Bk) (key : ByteArray) (n : Nat) (p : Int) : ByteArray := txF bs key (n + 2) p
theorem txt_none (bs : Nat → Bk) (key : ByteArray) (n : Nat) : txt bs key n (-1) = ⟨#[]⟩ := by unfold txt txF; rw [if_pos rfl]
theorem txt_hit {bs : Nat → Bk} {key : ByteArray} {n i : Nat} (p : Nat) (h : kix (bs p) key = some i) : txt bs key n p = (bs p).ts i := by
  unfold txt txF
  rw [if_neg (by omega)]
  simp [h]
theorem txt_up {bs : Nat → Bk} {key : ByteArray} {n : Nat} (hpa : ∀ j, j < n → -1 ≤ (bs j).pa ∧ (bs j).pa < j) (p : Nat) (hp : p < n) (h : kix (bs p) key = none) : txt bs key n p = txt bs key n (bs p).pa := by
  have hp' := hpa p hp
  unfold txt
  rw [txF.eq_2, if_neg (by omega)]
  simp only [Int.toNat_natCast, h]
  exact txF_more hpa _ _ _ hp'.1 (by omega) (by omega) (by omega)
set_option maxHeartbeats 8000000 in
theorem textOf_c (a : Option Addr) (n c : Nat) (bs : Nat → Bk) (key : ByteArray) (at0 : Int) (w : World) (hn : n ≤ 1000) (hP : BAt w a n bs) (hr : ∀ j, j < n → (bs j).n ≤ 1000 ∧ rsOK (bs j)) (hpa : ∀ j, j < n → -1 ≤ (bs j).pa ∧ (bs j).pa < j) (h0 : -1 ≤ at0) (h1 : at0 < n) :
    Calls Tryz.prog 107 #[.slice a n c, .int .i64 at0, .string key] w fun e w' => e = .returned (.string (txt bs key n at0)) ∧ Below w.heap.size w w' := by
  have HP := hideH hP
  have HR := hideH hr
  have HPA := hideH hpa
  generalize hV : txt bs key n at0 = V
  have HV := hideH hV
  clear hP hr hpa hV
  go_enter Tryz.func107, Tryz.ntmps107
  go_wp2_with fail
  go_loopw [1] (fun x1 wr => ∃ p : Int, -1 ≤ p ∧ p < n ∧ x1 = .int .i64 p ∧ Hid (txt bs key n p = V) ∧ Hid (Below w.heap.size w wr)) (fun x1 _ => (intOf x1 + 1).toNat)
  case atStart => exact ⟨at0, h0, h1, rfl, HV, Below.refl _ _⟩
  case round =>
    obtain ⟨p, hp0, hp1, rfl, HT, HW⟩ := hrel
    rcases beq_cases p (-1) with ⟨q1, rfl⟩ | ⟨q1, q2⟩
    · have HX : Hid (V = ⟨#[]⟩) := by show V = _; rw [← HT.out]; exact txt_none _ _ _
      go_wp2_with fail
      go_ret
      exact ⟨by rw [HX.out]; rfl, HW.out⟩
    · obtain ⟨q, rfl⟩ : ∃ q : Nat, p = q := ⟨p.toNat, by omega⟩
      have hne : ((q : Int) != -1) = true := by rw [bne_iff_ne]; exact q2
      have hq : q < n := by omega
      clear q1 q2
      rcases (HP.out.on HW.out).rows with e0 | ⟨b, off, hsa, hcs⟩
      · omega
      obtain ⟨c0, c1, c2⟩ := hcs q hq
      clear hcs
      have hk0 : decide ((q : Int) < 0) = false := by simp
      have hkn : decide (n ≤ q) = false := by simp; omega
      have HPL := hideH (place_c (bs q) key wr (HR.out q hq).1 ((HP.out.on HW.out).prs q hq) (HR.out q hq).2)
      have HBP := hideH ((HP.out.on HW.out).prs q hq)
      have HCL := hideH (And.intro c1 c2)
      have HRQ := hideH (HR.out q hq).2
      go_wp2_with fail
      refine HPL.out.mono ?_
      rintro e w1 ⟨i, bb, rfl, hw1, hp⟩
      have H1 := hideH (bthen HW.out hw1)
      have HK := hideH (kix_of HRQ.out hp)
      have HBQ := hideH (HBP.out.on hw1)
      have d1 := cell_on HCL.out.1 hw1
      have d2 := cell_on HCL.out.2 hw1
      have HPP := hideH hp
      clear hw1 hp c0 c1 c2 HPL HBP HCL
      cases bb
      · have HT2 : Hid (txt bs key n (bs q).pa = V) := by
          show _ = V
          rw [← HT.out, txt_up HPA.out q hq HK.out]
        have hpa := HPA.out q hq
        go_wp2_with fail
        try simp only [← hsa]
        go_roundw
        case rel => exact ⟨(bs q).pa, hpa.1, by omega, rfl, HT2, H1⟩
        case measure => simp [intOf]; omega
      · have HX : Hid (V = (bs q).ts i) := by
          show V = _
          rw [← HT.out, txt_hit q HK.out]
        have hi : i < (bs q).n := by
          rcases HPP.out with ⟨_, h, _⟩ | ⟨h, _⟩
          · exact h
          · cases h
        rcases HBQ.out with e0 | ⟨b2, off2, hsb, hcs2⟩
        · omega
        obtain ⟨f0, f1⟩ := hcs2 i hi
        clear hcs2
        have hj0 : decide ((i : Int) < 0) = false := by simp
        have hjn : decide ((bs q).n ≤ i) = false := by simp; omega
        have hjl : (i : Int) < ((bs q).n : Int) := by omega
        have d3 : w1.cell? ⟨b, off + q * 3 + 2, none⟩ = some (.slice (some ⟨b2, off2, none⟩) (bs q).n (bs q).c) := by rw [← hsb]; exact d2
        clear d2 hsb
        go_wp2_with fail
        go_ret
        exact ⟨by rw [HX.out]; rfl, H1.out⟩
end Go.Proofs.YtfjjdicgekgbeaaGreatDoor

/- The contract of books.Text. -/
namespace Go.Proofs.YtfjjdicgekgbeaaGreatDoor
open Go Go.RowKit
set_option linter.unusedVariables false

theorem heap_onB {w w' : World} {b : Nat} {o : Obj} (h : w.heap[b]? = some o) (hb : Below w.heap.size w w') : w'.heap[b]? = some o := (hb.block b (Array.getElem?_eq_some_iff.1 h).1).trans h
theorem bchk_parts {n : Nat} {bs : Nat → Bk} (h : bchk n bs = 0) : n ≤ 4 ∧ (∀ j, j < n → (bs j).n ≤ 1000 ∧ rsOK (bs j)) ∧ (∀ j, j < n → -1 ≤ (bs j).pa ∧ (bs j).pa < j) ∧ dist (fun j => (bs j).lc) n := by
  unfold bchk at h
  split at h
  · rename_i h1
    split at h
    · split at h
      · rename_i h2
        split at h
        · rename_i h3
          refine ⟨h1.1, fun j hj => ⟨?_, of_decide_eq_true (h2.2 j hj)⟩, fun j hj => ?_, h2.1⟩
          · have := of_decide_eq_true (h1.2 j hj)
            omega
          · have := List.all_eq_true.1 h3 j (List.mem_range.2 hj)
            exact of_decide_eq_true this
        · cases h
      · cases h
    · cases h
  · cases h
theorem bixI_in (bs : Nat → Bk) (n : Nat) (s : ByteArray) : -1 ≤ bixI bs n s ∧ bixI bs n s < n := by
  unfold bixI
  cases h : bix bs n s with
  | none => simp; omega
  | some j =>
    have := List.mem_range.1 (List.mem_of_find?_eq_some h)
    simp
    omega
/-- what books.Text answers: the text, the error -/
def btT (bs : Nat → Bk) (n : Nat) (loc key : ByteArray) : ByteArray := if bchk n bs = 0 then (if bixI bs n loc < 0 then ⟨#[]⟩ else txt bs key n (bixI bs n loc)) else ⟨#[]⟩
def btE (bs : Nat → Bk) (n : Nat) (loc : ByteArray) : Int := if bchk n bs = 0 then (if bixI bs n loc < 0 then 4 else 0) else bchk n bs
theorem emp0 : (!(⟨#[]⟩ : ByteArray).toList.isEmpty) = false := by rw [tl]; rfl
set_option maxHeartbeats 8000000 in
theorem BText_c (a : Option Addr) (n c : Nat) (bs : Nat → Bk) (loc key : ByteArray) (w : World) (hn : n ≤ maxLen) (hc : n ≤ c) (hP : BAt w a n bs) (hf : ∀ j, j < n → (bs j).fits) :
    Calls Tryz.prog 65 #[.slice a n c, .string loc, .string key] w fun e w' => e = .returned (.tuple #[.string (btT bs n loc key), .bool (!(btT bs n loc key).toList.isEmpty), .int .i64 (btE bs n loc)]) ∧ Below w.heap.size w w' := by
  have HP := hideH hP
  have HF := hideH hf
  have hmf : ∀ (fn : Fn) (first cap : Array Value) (w : World), (Instr.makeFunc fn first cap).run Tryz.prog w = .ok (.func fn first cap) w := fun _ _ _ _ => rfl
  have hb0 := hideH ((Below.refl _ w).alloc (Nat.le_refl _) (.cells #[.string loc] 9))
  have hbx := hideH (show (w.alloc (.cells #[.string loc] 9)).heap[w.heap.size]? = some (.cells #[.string loc] 9) from World.alloc_heap_new _ _)
  have HC := hideH (fun v (hv : Below w.heap.size w v) => BCheck_c a n c bs v hn hc (HP.out.on hv) HF.out)
  have HI := hideH (fun v (hv : Below w.heap.size w v) (hq : v.cell? ⟨w.heap.size, 0, none⟩ = some (.string loc)) => IndexFunc_c a n c bs loc w.heap.size v hn (HP.out.on hv) hq)
  have HT := hideH (fun (v : World) (hv : Below w.heap.size w v) (h0 : bchk n bs = 0) => textOf_c a n c bs key (bixI bs n loc) v (by have := (bchk_parts h0).1; omega) (HP.out.on hv) (bchk_parts h0).2.1 (bchk_parts h0).2.2.1 (bixI_in bs n loc).1 (bixI_in bs n loc).2)
  obtain ⟨T, hT⟩ : ∃ T, T = btT bs n loc key := ⟨_, rfl⟩
  obtain ⟨E, hE⟩ : ∃ E, E = btE bs n loc := ⟨_, rfl⟩
  rw [← hT, ← hE]
  have HTT := hideH hT
  have HEE := hideH hE
  clear hP hf hT hE
  go_enter Tryz.func65, Tryz.ntmps65
  go_wp2_with fail
  refine (HC.out _ hb0.out).mono ?_
  rintro e w1 ⟨rfl, hw1⟩
  have H1 := hideH (bthen hb0.out hw1)
  have X1 := hideH (heap_onB hbx.out hw1)
  clear hw1 hb0 hbx
  rcases beq_cases (bchk n bs) 0 with ⟨q1, q2⟩ | ⟨q1, q2⟩
  · rw [q2]
    have Q := hideH q2
    have HT2 := hideH (fun v hv => HT.out v hv q2)
    clear q1 q2 HT
    have hin := bixI_in bs n loc
    go_wp2_with fail
    refine (HI.out _ H1.out (by simp [World.cell?, X1.out])).mono ?_
    rintro e w2 ⟨rfl, hw2⟩
    have H2 := hideH (bthen H1.out hw2)
    clear hw2
    by_cases hx : bixI bs n loc < 0
    · have ET : Hid (T = ⟨#[]⟩) := by show T = _; rw [HTT.out]; unfold btT; rw [if_pos Q.out, if_pos hx]
      have EE : Hid (E = 4) := by show E = _; rw [HEE.out]; unfold btE; rw [if_pos Q.out, if_pos hx]
      go_wp2_with fail
      go_ret3
      exact ⟨by rw [ET.out, EE.out, emp0]; rfl, H2.out⟩
    · have ET : Hid (T = txt bs key n (bixI bs n loc)) := by show T = _; rw [HTT.out]; unfold btT; rw [if_pos Q.out, if_neg hx]
      have EE : Hid (E = 0) := by show E = _; rw [HEE.out]; unfold btE; rw [if_pos Q.out, if_neg hx]
      have HT3 : Hid (∀ v, Below w.heap.size w v → Calls Tryz.prog 107 #[.slice a n c, .int .i64 (bixI bs n loc), .string key] v fun e w' => e = .returned (.string T) ∧ Below v.heap.size v w') := fun v hv => by rw [ET.out]; exact HT2.out v hv
      go_wp2_with fail
      refine (HT3.out _ H2.out).mono ?_
      rintro e w3 ⟨rfl, hw3⟩
      have H3 := hideH (bthen H2.out hw3)
      clear hw3
      go_wp2_with fail
      go_ret3
      exact ⟨by rw [EE.out]; rfl, H3.out⟩
  · have ET : Hid (T = ⟨#[]⟩) := by show T = _; rw [HTT.out]; unfold btT; rw [if_neg q2]
    have EE : Hid (E = bchk n bs) := by show E = _; rw [HEE.out]; unfold btE; rw [if_neg q2]
    have hne : (bchk n bs != 0) = true := by rw [bne_iff_ne]; exact q2
    clear q1 q2
    go_wp2_with fail
    go_ret3
    exact ⟨by rw [ET.out, EE.out, emp0]; rfl, H1.out⟩
end Go.Proofs.YtfjjdicgekgbeaaGreatDoor

/- The statements' own books: shelf; what books.Check and books.Text answer of it. -/
namespace Go.Proofs.YtfjjdicgekgbeaaGreatDoor
open Go Go.RowKit
set_option linter.unusedVariables false

def sk1 (j : Nat) : ByteArray := if j = 0 then ⟨#[65, 47, 87, 101, 115, 116]⟩ else if j = 1 then ⟨#[109, 105, 100, 47, 100]⟩ else ⟨#[109, 105, 100, 47, 115]⟩
def st1 (j : Nat) : ByteArray := if j = 0 then ⟨#[87, 101, 115, 116]⟩ else if j = 1 then ⟨#[77, 68, 84]⟩ else ⟨#[77, 83, 84]⟩
def sk2 (j : Nat) : ByteArray := if j = 0 then ⟨#[65, 47, 87, 101, 115, 116]⟩ else ⟨#[109, 105, 100, 47, 115]⟩
def st2 (j : Nat) : ByteArray := if j = 0 then ⟨#[]⟩ else ⟨#[109, 115, 116]⟩
/-- shelf: pairs in blocks a and b; the parent of the first -/
def shf (a b : Nat) (p : Int) (j : Nat) : Bk := if j = 0 then ⟨⟨#[114, 111, 111, 116]⟩, p, some ⟨a, 0, none⟩, 3, 3, sk1, st1⟩ else ⟨⟨#[120, 120]⟩, 0, some ⟨b, 0, none⟩, 2, 2, sk2, st2⟩
set_option maxRecDepth 100000 in
theorem sh_ok (a b : Nat) : bchk 2 (shf a b (-1)) = 0 := by kernel_rfl
set_option maxRecDepth 100000 in
theorem sh_range (a b : Nat) : bchk 2 (shf a b 0) = 3 := by kernel_rfl
set_option maxRecDepth 100000 in
theorem sh_1 (a b : Nat) : btT (shf a b (-1)) 2 ⟨#[120, 120]⟩ ⟨#[109, 105, 100, 47, 115]⟩ = ⟨#[109, 115, 116]⟩ ∧ btE (shf a b (-1)) 2 ⟨#[120, 120]⟩ = 0 := ⟨by kernel_rfl, by kernel_rfl⟩
set_option maxRecDepth 100000 in
theorem sh_2 (a b : Nat) : btT (shf a b (-1)) 2 ⟨#[120, 120]⟩ ⟨#[109, 105, 100, 47, 100]⟩ = ⟨#[77, 68, 84]⟩ := by kernel_rfl
set_option maxRecDepth 100000 in
theorem sh_3 (a b : Nat) : btT (shf a b (-1)) 2 ⟨#[120, 120]⟩ ⟨#[65, 47, 87, 101, 115, 116]⟩ = ⟨#[]⟩ := by kernel_rfl
set_option maxRecDepth 100000 in
theorem sh_4 (a b : Nat) : btE (shf a b (-1)) 2 ⟨#[121, 121]⟩ = 4 := by kernel_rfl
def sA : Obj := .cells #[.string ⟨#[65, 47, 87, 101, 115, 116]⟩, .string ⟨#[87, 101, 115, 116]⟩, .string ⟨#[109, 105, 100, 47, 100]⟩, .string ⟨#[77, 68, 84]⟩, .string ⟨#[109, 105, 100, 47, 115]⟩, .string ⟨#[77, 83, 84]⟩] 89
def sB : Obj := .cells #[.string ⟨#[65, 47, 87, 101, 115, 116]⟩, .string ⟨#[]⟩, .string ⟨#[109, 105, 100, 47, 115]⟩, .string ⟨#[109, 115, 116]⟩] 89
def sC (a b : Nat) (p : Int) : Obj := .cells #[.string ⟨#[114, 111, 111, 116]⟩, .int .i64 p, .slice (some ⟨a, 0, none⟩) 3 3, .string ⟨#[120, 120]⟩, .int .i64 0, .slice (some ⟨b, 0, none⟩) 2 2] 87
/-- a shelf lies in a world -/
structure SAt (w : World) (a b s : Nat) (p : Int) : Prop where
  ha : w.heap[a]? = some sA
  hb : w.heap[b]? = some sB
  hs : w.heap[s]? = some (sC a b p)
theorem SAt.on {w w' : World} {a b s : Nat} {p : Int} (h : SAt w a b s p) (hb : Below w.heap.size w w') : SAt w' a b s p := ⟨heap_onB h.ha hb, heap_onB h.hb hb, heap_onB h.hs hb⟩
theorem SAt.books {w : World} {a b s : Nat} {p : Int} (h : SAt w a b s p) : BAt w (some ⟨s, 0, none⟩) 2 (shf a b p) := by
  refine ⟨.inr ⟨s, 0, rfl, fun j hj => ?_⟩, fun j hj => ?_⟩
  · rcases (show j = 0 ∨ j = 1 by omega) with rfl | rfl
    · refine ⟨?_, ?_, ?_⟩ <;> simp [World.cell?, h.hs, sC, shf]
    · refine ⟨?_, ?_, ?_⟩ <;> simp [World.cell?, h.hs, sC, shf]
  · rcases (show j = 0 ∨ j = 1 by omega) with rfl | rfl
    · refine .inr ⟨a, 0, rfl, fun i hi => ?_⟩
      have hi : i < 3 := hi
      rcases (show i = 0 ∨ i = 1 ∨ i = 2 by omega) with rfl | rfl | rfl
      · constructor <;> simp [World.cell?, h.ha, sA, shf, sk1, st1]
      · constructor <;> simp [World.cell?, h.ha, sA, shf, sk1, st1]
      · constructor <;> simp [World.cell?, h.ha, sA, shf, sk1, st1]
    · refine .inr ⟨b, 0, rfl, fun i hi => ?_⟩
      have hi : i < 2 := hi
      rcases (show i = 0 ∨ i = 1 by omega) with rfl | rfl
      · constructor <;> simp [World.cell?, h.hb, sB, shf, sk2, st2]
      · constructor <;> simp [World.cell?, h.hb, sB, shf, sk2, st2]
theorem sk1_10 (i : Nat) : (sk1 i).size ≤ 10 := by
  unfold sk1; split
  · decide
  · split <;> decide
theorem st1_10 (i : Nat) : (st1 i).size ≤ 10 := by
  unfold st1; split
  · decide
  · split <;> decide
theorem sk2_10 (i : Nat) : (sk2 i).size ≤ 10 := by unfold sk2; split <;> decide
theorem st2_10 (i : Nat) : (st2 i).size ≤ 10 := by unfold st2; split <;> decide
theorem shf_fits (a b : Nat) {p : Int} (hp : p = -1 ∨ p = 0) (j : Nat) : (shf a b p j).fits := by
  have hm : ∀ n, n ≤ 10 → n ≤ maxLen := fun n hn => by unfold maxLen; omega
  unfold shf
  split
  · constructor
    case lc => exact hm _ (show ByteArray.size ⟨#[114, 111, 111, 116]⟩ ≤ 10 by decide)
    case n => exact hm _ (show 3 ≤ 10 by decide)
    case ks => exact fun i _ => hm _ (sk1_10 i)
    case ts => exact fun i _ => hm _ (st1_10 i)
    all_goals (simp; omega)
  · constructor
    case lc => exact hm _ (show ByteArray.size ⟨#[120, 120]⟩ ≤ 10 by decide)
    case n => exact hm _ (show 2 ≤ 10 by decide)
    case ks => exact fun i _ => hm _ (sk2_10 i)
    case ts => exact fun i _ => hm _ (st2_10 i)
    all_goals simp
set_option maxRecDepth 100000 in
set_option maxHeartbeats 1000000 in
theorem shelf_c (w : World) : Calls Tryz.prog 34 #[] w fun e w' => ∃ a b s, e = .returned (.slice (some ⟨s, 0, none⟩) 2 2) ∧ SAt w' a b s (-1) ∧ Below w.heap.size w w' ∧ w.heap.size ≤ s ∧ a ≠ s ∧ b ≠ s := by
  have KB : Hid (∀ c : Obj, Below w.heap.size w (((w.alloc sA).alloc sB).alloc c)) := fun c => (((Below.refl _ w).alloc (Nat.le_refl _) _).alloc (by simp) _).alloc (by simp; omega) _
  have KS : Hid (SAt (((w.alloc sA).alloc sB).alloc (sC w.heap.size (w.heap.size + 1) (-1))) w.heap.size (w.heap.size + 1) (w.heap.size + 1 + 1) (-1)) := by
    refine ⟨?_, ?_, ?_⟩
    · rw [Below.heap_alloc _ _ _ (by simp; omega), Below.heap_alloc _ _ _ (by simp)]; exact World.alloc_heap_new _ _
    · rw [Below.heap_alloc _ _ _ (by simp)]
      have := World.alloc_heap_new (w.alloc sA) sB
      rwa [World.size_alloc] at this
    · have := World.alloc_heap_new ((w.alloc sA).alloc sB) (sC w.heap.size (w.heap.size + 1) (-1))
      rwa [World.size_alloc, World.size_alloc] at this
  go_enter Tryz.func34, Tryz.ntmps34
  go_wp2_with fail
  go_ret
  exact ⟨w.heap.size, w.heap.size + 1, w.heap.size + 1 + 1, rfl, KS.out, KB.out _, by omega, by omega, by omega⟩
end Go.Proofs.YtfjjdicgekgbeaaGreatDoor

/- What the statements ask of books in any case: booksBegun answers true. -/
namespace Go.Proofs.YtfjjdicgekgbeaaGreatDoor
open Go Go.RowKit
set_option linter.unusedVariables false

theorem shT1 (v : World) {a b s : Nat} (h : SAt v a b s (-1)) : Calls Tryz.prog 65 #[.slice (some ⟨s, 0, none⟩) 2 2, .string ⟨#[120, 120]⟩, .string ⟨#[109, 105, 100, 47, 115]⟩] v fun e w' => e = .returned (.tuple #[.string ⟨#[109, 115, 116]⟩, .bool true, .int .i64 0]) ∧ Below v.heap.size v w' := by
  have hb : (!(⟨#[109, 115, 116]⟩ : ByteArray).toList.isEmpty) = true := by rw [tl]; rfl
  have := BText_c (some ⟨s, 0, none⟩) 2 2 (shf a b (-1)) ⟨#[120, 120]⟩ ⟨#[109, 105, 100, 47, 115]⟩ v (by unfold maxLen; omega) (Nat.le_refl _) h.books (fun j _ => shf_fits a b (.inl rfl) j)
  rwa [(sh_1 a b).1, (sh_1 a b).2, hb] at this
theorem shT2 (v : World) {a b s : Nat} (h : SAt v a b s (-1)) : Calls Tryz.prog 65 #[.slice (some ⟨s, 0, none⟩) 2 2, .string ⟨#[120, 120]⟩, .string ⟨#[109, 105, 100, 47, 100]⟩] v fun e w' => e = .returned (.tuple #[.string ⟨#[77, 68, 84]⟩, .bool true, .int .i64 0]) ∧ Below v.heap.size v w' := by
  have hb : (!(⟨#[77, 68, 84]⟩ : ByteArray).toList.isEmpty) = true := by rw [tl]; rfl
  have := BText_c (some ⟨s, 0, none⟩) 2 2 (shf a b (-1)) ⟨#[120, 120]⟩ ⟨#[109, 105, 100, 47, 100]⟩ v (by unfold maxLen; omega) (Nat.le_refl _) h.books (fun j _ => shf_fits a b (.inl rfl) j)
  rwa [sh_2 a b, (sh_1 a b).2, hb] at this
theorem shT3 (v : World) {a b s : Nat} (h : SAt v a b s (-1)) : Calls Tryz.prog 65 #[.slice (some ⟨s, 0, none⟩) 2 2, .string ⟨#[120, 120]⟩, .string ⟨#[65, 47, 87, 101, 115, 116]⟩] v fun e w' => e = .returned (.tuple #[.string ⟨#[]⟩, .bool false, .int .i64 0]) ∧ Below v.heap.size v w' := by
  have hb : (!(⟨#[]⟩ : ByteArray).toList.isEmpty) = false := by rw [tl]; rfl
  have := BText_c (some ⟨s, 0, none⟩) 2 2 (shf a b (-1)) ⟨#[120, 120]⟩ ⟨#[65, 47, 87, 101, 115, 116]⟩ v (by unfold maxLen; omega) (Nat.le_refl _) h.books (fun j _ => shf_fits a b (.inl rfl) j)
  rwa [sh_3 a b, (sh_1 a b).2, hb] at this
set_option maxRecDepth 100000 in
theorem sh_5 (a b : Nat) : btT (shf a b (-1)) 2 ⟨#[121, 121]⟩ ⟨#[65, 47, 87, 101, 115, 116]⟩ = ⟨#[]⟩ := by kernel_rfl
theorem shT4 (v : World) {a b s : Nat} (h : SAt v a b s (-1)) : Calls Tryz.prog 65 #[.slice (some ⟨s, 0, none⟩) 2 2, .string ⟨#[121, 121]⟩, .string ⟨#[65, 47, 87, 101, 115, 116]⟩] v fun e w' => e = .returned (.tuple #[.string ⟨#[]⟩, .bool false, .int .i64 4]) ∧ Below v.heap.size v w' := by
  have hb : (!(⟨#[]⟩ : ByteArray).toList.isEmpty) = false := by rw [tl]; rfl
  have := BText_c (some ⟨s, 0, none⟩) 2 2 (shf a b (-1)) ⟨#[121, 121]⟩ ⟨#[65, 47, 87, 101, 115, 116]⟩ v (by unfold maxLen; omega) (Nat.le_refl _) h.books (fun j _ => shf_fits a b (.inl rfl) j)
  rwa [sh_5 a b, sh_4 a b, hb] at this
theorem shK (v : World) {a b s : Nat} {p E : Int} (hp : p = -1 ∨ p = 0) (hE : bchk 2 (shf a b p) = E) (h : SAt v a b s p) : Calls Tryz.prog 60 #[.slice (some ⟨s, 0, none⟩) 2 2] v fun e w' => e = .returned (.int .i64 E) ∧ Below v.heap.size v w' := by
  have := BCheck_c (some ⟨s, 0, none⟩) 2 2 (shf a b p) v (by unfold maxLen; omega) (Nat.le_refl _) h.books (fun j _ => shf_fits a b hp j)
  rwa [hE] at this
theorem SAt.set {w : World} {a b s : Nat} (h : SAt w a b s (-1)) (h1 : a ≠ s) (h2 : b ≠ s) : SAt (w.setCell ⟨s, 1, none⟩ (.int .i64 0)) a b s 0 := by
  refine ⟨(Below.heap_setCell _ _ _ _ h1).trans h.ha, (Below.heap_setCell _ _ _ _ h2).trans h.hb, ?_⟩
  have := heap_setCell_same w s 1 _ _ (.int .i64 0) h.hs
  simpa [sC] using this
end Go.Proofs.YtfjjdicgekgbeaaGreatDoor
