/- The document's own SameData, of data that are the same. -/
import Derived.Test.YtfjjdicgekgbeaaGreatDoorOffCAll
import Derived.Deep.QuietTactic
import Derived.BigQuiet
import Derived.Test.YtfjjdicgekgbeaaGreatDoorAppRow
import Derived.Test.YtfjjdicgekgbeaaGreatDoorRefApAll
import Derived.Deep.RegionHeldLaw
import Derived.WalkKit
import Derived.Deep.CutRange
import Derived.Deep.RegionHeld3
import Derived.Deep.AppendLies
import Derived.Test.YtfjjdicgekgbeaaGreatDoorBackE
import Derived.Test.YtfjjdicgekgbeaaGreatDoorBackFAll
import Derived.Test.YtfjjdicgekgbeaaGreatDoorTrieGAll
import Derived.Test.YtfjjdicgekgbeaaGreatDoorTrieQAll
import Derived.Test.YtfjjdicgekgbeaaGreatDoorNamesTAll
namespace Go.Proofs.YtfjjdicgekgbeaaGreatDoor
open Go Go.RowKit
set_option linter.unusedVariables false

/-- the same data, wherever they lie -/
structure SameDt (D E : Dt) : Prop where
  ns : E.ns = D.ns
  sets : ∀ j, j < D.ns → (E.ss j).nm = (D.ss j).nm ∧ (E.ss j).n = (D.ss j).n ∧ ∀ i, i < (D.ss j).n → (E.ss j).rs i = (D.ss j).rs i
  nz : E.nz = D.nz
  zones : ∀ j, j < D.nz → (E.zs j).nm = (D.zs j).nm ∧ (E.zs j).n = (D.zs j).n ∧ ∀ i, i < (D.zs j).n → (E.zs j).es i = (D.zs j).es i
  nl : E.nl = D.nl
  links : ∀ j, j < D.nl → E.ls j = D.ls j
theorem SameDt.refl (D : Dt) : SameDt D D := ⟨rfl, fun _ _ => ⟨rfl, rfl, fun _ _ => rfl⟩, rfl, fun _ _ => ⟨rfl, rfl, fun _ _ => rfl⟩, rfl, fun _ _ => rfl⟩
theorem SameDt.symm {D E : Dt} (h : SameDt D E) : SameDt E D := ⟨h.ns.symm, fun j hj => by
  have := h.sets j (by rw [← h.ns]; exact hj)
  exact ⟨this.1.symm, this.2.1.symm, fun i hi => (this.2.2 i (by rw [← this.2.1]; exact hi)).symm⟩, h.nz.symm, fun j hj => by
  have := h.zones j (by rw [← h.nz]; exact hj)
  exact ⟨this.1.symm, this.2.1.symm, fun i hi => (this.2.2 i (by rw [← this.2.1]; exact hi)).symm⟩, h.nl.symm, fun j hj => (h.links j (by rw [← h.nl]; exact hj)).symm⟩
theorem P2.congr {w : World} {a : Option Addr} {n m : Nat} {f g f' g' : Nat → Value} (h : P2 w a n f g) (hn : n = m) (e : ∀ j, j < m → f j = f' j ∧ g j = g' j) : P2 w a m f' g' := by
  subst hn
  rcases h with h | ⟨b, off, h1, h2⟩
  · exact .inl h
  · exact .inr ⟨b, off, h1, fun j hj => by rw [← (e j hj).1, ← (e j hj).2]; exact h2 j hj⟩
theorem ARow.congr {w : World} {a : Option Addr} {n m c : Nat} {f f' : Nat → Rl} (h : ARow w a n c f) (hn : n = m) (e : ∀ j, j < m → f j = f' j) : ARow w a m c f' := by
  subst hn
  rcases h with h | ⟨b, off, h1, h2⟩
  · exact .inl h
  · exact .inr ⟨b, off, h1, fun j hj => by rw [← e j hj]; exact h2 j hj⟩
theorem ERow.congr {w : World} {a : Option Addr} {n m : Nat} {f f' : Nat → Er} (h : ERow w a n f) (hn : n = m) (e : ∀ j, j < m → f j = f' j) : ERow w a m f' := by
  subst hn
  rcases h with h | ⟨b, off, h1, h2⟩
  · exact .inl h
  · exact .inr ⟨b, off, h1, fun j hj => by rw [← e j hj]; exact h2 j hj⟩
theorem EAt_on {w w' : World} {b o : Nat} {x : Er} (h : EAt w b o x) (hb : Below w.heap.size w w') : EAt w' b o x := ⟨cell_on h.1 hb, cell_on h.2.1 hb, cell_on h.2.2.1 hb, cell_on h.2.2.2.1 hb, cell_on h.2.2.2.2 hb⟩
/-- the two boxes -/
def sdW (w v : World) (A B : Array Value) : Prop := Below w.heap.size w v ∧ v.heap[w.heap.size]? = some (.cells A 26) ∧ v.heap[w.heap.size + 1]? = some (.cells B 26)
theorem sdW.drew {w v : World} {A B : Array Value} (h : sdW w v A B) (m : Nat) : sdW w (v.drewN m) A B := ⟨below_drewN h.1 m, h.2⟩
set_option maxRecDepth 100000 in
set_option maxHeartbeats 16000000 in
theorem SameData_x (sa sb za zb la lb : Option Addr) (ns nz nl sc sd zc zd lc ld : Nat) (snm : Nat → ByteArray) (sn : Nat → Nat) (ra rb : Nat → Option Addr) (rc rd : Nat → Nat) (rs : Nat → Nat → Rl) (znm : Nat → ByteArray) (zn : Nat → Nat) (ea eb : Nat → Option Addr) (ec ed : Nat → Nat) (es : Nat → Nat → Er) (l1 l2 : Nat → ByteArray) (w : World)
    (S1 : P2 w sa ns (fun j => .string (snm j)) (fun j => .slice (ra j) (sn j) (rc j))) (S2 : P2 w sb ns (fun j => .string (snm j)) (fun j => .slice (rb j) (sn j) (rd j)))
    (R1 : ∀ j, j < ns → ARow w (ra j) (sn j) (rc j) (rs j)) (R2 : ∀ j, j < ns → ARow w (rb j) (sn j) (rd j) (rs j))
    (Z1 : P2 w za nz (fun j => .string (znm j)) (fun j => .slice (ea j) (zn j) (ec j))) (Z2 : P2 w zb nz (fun j => .string (znm j)) (fun j => .slice (eb j) (zn j) (ed j)))
    (E1 : ∀ j, j < nz → ERow w (ea j) (zn j) (es j)) (E2 : ∀ j, j < nz → ERow w (eb j) (zn j) (es j))
    (L1 : P2 w la nl (fun j => .string (l1 j)) (fun j => .string (l2 j))) (L2 : P2 w lb nl (fun j => .string (l1 j)) (fun j => .string (l2 j)))
    (n1 : ns ≤ maxLen) (n2 : nz ≤ maxLen) (n3 : nl ≤ maxLen) (m1 : ∀ j, j < ns → sn j ≤ maxLen) (m2 : ∀ j, j < nz → zn j ≤ maxLen) :
    Calls Tryz.prog 12 #[.agg #[.slice sa ns sc, .slice za nz zc, .slice la nl lc], .agg #[.slice sb ns sd, .slice zb nz zd, .slice lb nl ld]] w fun e w' => e = .returned (.bool true) ∧ Below w.heap.size w w' := by
  have HS1 := hideH S1
  have HS2 := hideH S2
  have HR1 := hideH R1
  have HR2 := hideH R2
  have HZ1 := hideH Z1
  have HZ2 := hideH Z2
  have HE1 := hideH E1
  have HE2 := hideH E2
  have HL1 := hideH L1
  have HL2 := hideH L2
  have M1 := hideH m1
  have M2 := hideH m2
  have bx := two_boxes w (.cells #[.slice sa ns sc, .slice za nz zc, .slice la nl lc] 26) (.cells #[.slice sb ns sd, .slice zb nz zd, .slice lb nl ld] 26)
  obtain ⟨W0, hW0⟩ : ∃ W0, W0 = (w.alloc (.cells #[.slice sa ns sc, .slice za nz zc, .slice la nl lc] 26)).alloc (.cells #[.slice sb ns sd, .slice zb nz zd, .slice lb nl ld] 26) := ⟨_, rfl⟩
  rw [← hW0] at bx
  have K0 : Hid (sdW w W0 #[.slice sa ns sc, .slice za nz zc, .slice la nl lc] #[.slice sb ns sd, .slice zb nz zd, .slice lb nl ld]) := bx
  unfold maxLen at n1 n2 n3
  clear S1 S2 R1 R2 Z1 Z2 E1 E2 L1 L2 m1 m2 bx
  go_enter Tryz.func12, Tryz.ntmps12
  go_wp2_with fail
  simp only [← hW0]
  clear hW0
  go_loopw [5] (fun x v => ∃ k : Nat, k ≤ ns ∧ x = .int .i64 k ∧ Hid (sdW w v #[.slice sa ns sc, .slice za nz zc, .slice la nl lc] #[.slice sb ns sd, .slice zb nz zd, .slice lb nl ld])) (fun x _ => ns - (intOf x).toNat)
  case atStart => exact ⟨0, Nat.zero_le _, rfl, K0⟩
  case round =>
    obtain ⟨k, hk, rfl, K1⟩ := hrel
    obtain ⟨p0, p1, p2⟩ := cells3 K1.out.2.1
    obtain ⟨q0, q1, q2⟩ := cells3 K1.out.2.2
    by_cases hlt : k < ns
    · rcases HS1.out with h0 | ⟨b, off, hsa, hcs⟩
      · omega
      rcases HS2.out with h0 | ⟨b2, off2, hsb, hcs2⟩
      · omega
      subst hsa hsb
      have d0 := cell_on (hcs k hlt).1 K1.out.1
      have d1 := cell_on (hcs k hlt).2 K1.out.1
      have e0 := cell_on (hcs2 k hlt).1 K1.out.1
      have e1 := cell_on (hcs2 k hlt).2 K1.out.1
      have D0 := hideH (hcs k hlt)
      have E0 := hideH (hcs2 k hlt)
      have hk0 : decide ((k : Int) < 0) = false := by simp
      have hkn : decide (ns ≤ k) = false := by simp; omega
      have hki : (k : Int) < (ns : Int) := by omega
      clear hcs hcs2
      have nn := M1.out k hlt
      unfold maxLen at nn
      have HX1 := hideH (HR1.out k hlt)
      have HX2 := hideH (HR2.out k hlt)
      obtain ⟨xa, hxa⟩ : ∃ x, x = ra k := ⟨_, rfl⟩
      obtain ⟨xb, hxb⟩ : ∃ x, x = rb k := ⟨_, rfl⟩
      obtain ⟨xn, hxn⟩ : ∃ x, x = sn k := ⟨_, rfl⟩
      simp only [← hxa, ← hxb, ← hxn] at d1 e1 D0 E0 nn HX1 HX2
      clear hxa hxb hxn
      go_wp2_with fail
      go_quiet (fail)
      go_wp2_with fail
      clear d0 d1 e0 e1 p0 p1 p2 q0 q1 q2
      go_loopw [6] (fun x v => ∃ i : Nat, i ≤ xn ∧ x = .int .i64 i ∧ Hid (sdW w v #[.slice (some ⟨b, off, none⟩) ns sc, .slice za nz zc, .slice la nl lc] #[.slice (some ⟨b2, off2, none⟩) ns sd, .slice zb nz zd, .slice lb nl ld])) (fun x _ => xn - (intOf x).toNat)
      case atStart => exact ⟨0, Nat.zero_le _, rfl, K1.out.drew _⟩
      case round =>
        obtain ⟨i, hi, rfl, K3⟩ := hrel
        clear K1
        obtain ⟨p0, p1, p2⟩ := cells3 K3.out.2.1
        obtain ⟨q0, q1, q2⟩ := cells3 K3.out.2.2
        have d0 := cell_on D0.out.1 K3.out.1
        have d1 := cell_on D0.out.2 K3.out.1
        have e0 := cell_on E0.out.1 K3.out.1
        have e1 := cell_on E0.out.2 K3.out.1
        by_cases hil : i < xn
        · rcases HX1.out with h0 | ⟨c, o, hra, hrow⟩
          · omega
          rcases HX2.out with h0 | ⟨c2, o2, hrb, hrow2⟩
          · omega
          subst hra hrb
          obtain ⟨f0, f1, f2, f3, f4, f5, f6, f7, f8⟩ := RAt.on (hrow i hil) K3.out.1
          obtain ⟨g0, g1, g2, g3, g4, g5, g6, g7, g8⟩ := RAt.on (hrow2 i hil) K3.out.1
          have hi0 : decide ((i : Int) < 0) = false := by simp
          have hin : decide (xn ≤ i) = false := by simp; omega
          have hii : (i : Int) < (xn : Int) := by omega
          clear hrow hrow2
          go_wp2_with fail
          go_quiet (fail)
          go_wp2_with fail
          go_roundw
          case rel => exact ⟨i + 1, by omega, by go_num, K3.out.drew _⟩
          case measure => simp [intOf]; omega
        · obtain rfl : i = xn := by omega
          have hin : ¬ ((i : Int) < (i : Int)) := by omega
          go_wp2_with fail
          go_roundw
          case rel => exact ⟨k + 1, by omega, by go_num, K3⟩
          case measure => simp [intOf]; omega
    · obtain rfl : ns = k := by omega
      have hkn : ¬ ((ns : Int) < (ns : Int)) := by omega
      go_wp2_with fail
      clear p0 p1 p2 q0 q1 q2
      have K0 := K1
      clear K1
      go_loopw [7] (fun x v => ∃ k : Nat, k ≤ nz ∧ x = .int .i64 k ∧ Hid (sdW w v #[.slice sa ns sc, .slice za nz zc, .slice la nl lc] #[.slice sb ns sd, .slice zb nz zd, .slice lb nl ld])) (fun x _ => nz - (intOf x).toNat)
      case atStart => exact ⟨0, Nat.zero_le _, rfl, K0⟩
      case round =>
        obtain ⟨k, hk, rfl, K1⟩ := hrel
        obtain ⟨p0, p1, p2⟩ := cells3 K1.out.2.1
        obtain ⟨q0, q1, q2⟩ := cells3 K1.out.2.2
        by_cases hlt : k < nz
        · rcases HZ1.out with h0 | ⟨b, off, hsa, hcs⟩
          · omega
          rcases HZ2.out with h0 | ⟨b2, off2, hsb, hcs2⟩
          · omega
          subst hsa hsb
          have d0 := cell_on (hcs k hlt).1 K1.out.1
          have d1 := cell_on (hcs k hlt).2 K1.out.1
          have e0 := cell_on (hcs2 k hlt).1 K1.out.1
          have e1 := cell_on (hcs2 k hlt).2 K1.out.1
          have D0 := hideH (hcs k hlt)
          have E0 := hideH (hcs2 k hlt)
          have hk0 : decide ((k : Int) < 0) = false := by simp
          have hkn : decide (nz ≤ k) = false := by simp; omega
          have hki : (k : Int) < (nz : Int) := by omega
          clear hcs hcs2
          have nn := M2.out k hlt
          unfold maxLen at nn
          have HX1 := hideH (HE1.out k hlt)
          have HX2 := hideH (HE2.out k hlt)
          obtain ⟨xa, hxa⟩ : ∃ x, x = ea k := ⟨_, rfl⟩
          obtain ⟨xb, hxb⟩ : ∃ x, x = eb k := ⟨_, rfl⟩
          obtain ⟨xn, hxn⟩ : ∃ x, x = zn k := ⟨_, rfl⟩
          simp only [← hxa, ← hxb, ← hxn] at d1 e1 D0 E0 nn HX1 HX2
          clear hxa hxb hxn
          go_wp2_with fail
          go_quiet (fail)
          go_wp2_with fail
          clear d0 d1 e0 e1 p0 p1 p2 q0 q1 q2
          go_loopw [8] (fun x v => ∃ i : Nat, i ≤ xn ∧ x = .int .i64 i ∧ Hid (sdW w v #[.slice sa ns sc, .slice (some ⟨b, off, none⟩) nz zc, .slice la nl lc] #[.slice sb ns sd, .slice (some ⟨b2, off2, none⟩) nz zd, .slice lb nl ld])) (fun x _ => xn - (intOf x).toNat)
          case atStart => exact ⟨0, Nat.zero_le _, rfl, K1.out.drew _⟩
          case round =>
            obtain ⟨i, hi, rfl, K3⟩ := hrel
            clear K1
            obtain ⟨p0, p1, p2⟩ := cells3 K3.out.2.1
            obtain ⟨q0, q1, q2⟩ := cells3 K3.out.2.2
            have d0 := cell_on D0.out.1 K3.out.1
            have d1 := cell_on D0.out.2 K3.out.1
            have e0 := cell_on E0.out.1 K3.out.1
            have e1 := cell_on E0.out.2 K3.out.1
            by_cases hil : i < xn
            · rcases HX1.out with h0 | ⟨c, o, hra, hrow⟩
              · omega
              rcases HX2.out with h0 | ⟨c2, o2, hrb, hrow2⟩
              · omega
              subst hra hrb
              obtain ⟨f0, f1, f2, f3, f4⟩ := EAt_on (hrow i hil) K3.out.1
              obtain ⟨g0, g1, g2, g3, g4⟩ := EAt_on (hrow2 i hil) K3.out.1
              have hi0 : decide ((i : Int) < 0) = false := by simp
              have hin : decide (xn ≤ i) = false := by simp; omega
              have hii : (i : Int) < (xn : Int) := by omega
              clear hrow hrow2
              go_wp2_with fail
              go_quiet (fail)
              go_wp2_with fail
              go_roundw
              case rel => exact ⟨i + 1, by omega, by go_num, K3.out.drew _⟩
              case measure => simp [intOf]; omega
            · obtain rfl : i = xn := by omega
              have hin : ¬ ((i : Int) < (i : Int)) := by omega
              go_wp2_with fail
              go_roundw
              case rel => exact ⟨k + 1, by omega, by go_num, K3⟩
              case measure => simp [intOf]; omega
        · obtain rfl : nz = k := by omega
          have hkn : ¬ ((nz : Int) < (nz : Int)) := by omega
          go_wp2_with fail
          clear p0 p1 p2 q0 q1 q2
          have K0 := K1
          clear K1
          go_loopw [9] (fun x v => ∃ k : Nat, k ≤ nl ∧ x = .int .i64 k ∧ Hid (sdW w v #[.slice sa ns sc, .slice za nz zc, .slice la nl lc] #[.slice sb ns sd, .slice zb nz zd, .slice lb nl ld])) (fun x _ => nl - (intOf x).toNat)
          case atStart => exact ⟨0, Nat.zero_le _, rfl, K0⟩
          case round =>
            obtain ⟨k, hk, rfl, K1⟩ := hrel
            obtain ⟨p0, p1, p2⟩ := cells3 K1.out.2.1
            obtain ⟨q0, q1, q2⟩ := cells3 K1.out.2.2
            by_cases hlt : k < nl
            · rcases HL1.out with h0 | ⟨b, off, hsa, hcs⟩
              · omega
              rcases HL2.out with h0 | ⟨b2, off2, hsb, hcs2⟩
              · omega
              subst hsa hsb
              have d0 := cell_on (hcs k hlt).1 K1.out.1
              have d1 := cell_on (hcs k hlt).2 K1.out.1
              have e0 := cell_on (hcs2 k hlt).1 K1.out.1
              have e1 := cell_on (hcs2 k hlt).2 K1.out.1
              have D0 := hideH (hcs k hlt)
              have E0 := hideH (hcs2 k hlt)
              have hk0 : decide ((k : Int) < 0) = false := by simp
              have hkn : decide (nl ≤ k) = false := by simp; omega
              have hki : (k : Int) < (nl : Int) := by omega
              clear hcs hcs2
              go_wp2_with fail
              go_quiet (fail)
              go_wp2_with fail
              go_roundw
              case rel => exact ⟨k + 1, by omega, by go_num, K1.out.drew _⟩
              case measure => simp [intOf]; omega
            · obtain rfl : nl = k := by omega
              have hkn : ¬ ((nl : Int) < (nl : Int)) := by omega
              go_wp2_with fail
              go_ret
              exact ⟨rfl, K1.out.1⟩
theorem SameData_c (D E : Dt) (w : World) (hD : DAt w D) (hE : DAt w E) (hF : D.fits) (hS : SameDt D E) :
    Calls Tryz.prog 12 #[D.v, E.v] w fun e w' => e = .returned (.bool true) ∧ Below w.heap.size w w' := by
  have := SameData_x D.sa E.sa D.za E.za D.la E.la D.ns D.nz D.nl D.sc E.sc D.zc E.zc D.lc E.lc (fun j => (D.ss j).nm) (fun j => (D.ss j).n) (fun j => (D.ss j).a) (fun j => (E.ss j).a) (fun j => (D.ss j).c) (fun j => (E.ss j).c) (fun j => (D.ss j).rs) (fun j => (D.zs j).nm) (fun j => (D.zs j).n) (fun j => (D.zs j).a) (fun j => (E.zs j).a) (fun j => (D.zs j).c) (fun j => (E.zs j).c) (fun j => (D.zs j).es) (fun j => (D.ls j).nm) (fun j => (D.ls j).to) w
    hD.sets (hE.sets.congr hS.ns fun j hj => ⟨by rw [(hS.sets j hj).1], by simp only [St.sl]; rw [(hS.sets j hj).2.1]⟩)
    hD.rules (fun j hj => (hE.rules j (by rw [hS.ns]; exact hj)).congr (hS.sets j hj).2.1 (hS.sets j hj).2.2)
    hD.zones (hE.zones.congr hS.nz fun j hj => ⟨by rw [(hS.zones j hj).1], by simp only [Zn.sl]; rw [(hS.zones j hj).2.1]⟩)
    hD.eras (fun j hj => (hE.eras j (by rw [hS.nz]; exact hj)).congr (hS.zones j hj).2.1 (hS.zones j hj).2.2)
    hD.links (hE.links.congr hS.nl fun j hj => by rw [hS.links j hj]; exact ⟨rfl, rfl⟩) hF.ns hF.nz hF.nl hF.sn hF.zn
  have hv : E.v = .agg #[.slice E.sa D.ns E.sc, .slice E.za D.nz E.zc, .slice E.la D.nl E.lc] := by unfold Dt.v; rw [hS.ns, hS.nz, hS.nl]
  rw [hv]
  exact this
end Go.Proofs.YtfjjdicgekgbeaaGreatDoor

/- Rows of structs, to be copied: their cells, one behind the other; what is kept where a row of one type grows. -/
namespace Go.Proofs.YtfjjdicgekgbeaaGreatDoor
open Go Go.RowKit Go.Maps
set_option linter.unusedVariables false

/-- n structs of S cells each -/
def rowC (f : Nat → List Value) (n : Nat) : List Value := (List.range n).flatMap f
theorem rowC_succ (f : Nat → List Value) (n : Nat) : rowC f (n + 1) = rowC f n ++ f n := by
  unfold rowC
  rw [List.range_succ, List.flatMap_append]
  simp
theorem rowC_len {f : Nat → List Value} {S : Nat} (h : ∀ j, (f j).length = S) : ∀ n, (rowC f n).length = n * S
  | 0 => by simp [rowC]
  | n + 1 => by rw [rowC_succ, List.length_append, rowC_len h n, h, Nat.succ_mul]
theorem rowC_at {f : Nat → List Value} {S : Nat} (h : ∀ j, (f j).length = S) : ∀ {n j o : Nat}, j < n → o < S → (rowC f n)[j * S + o]? = (f j)[o]?
  | 0, j, o, hj, _ => absurd hj (Nat.not_lt_zero _)
  | n + 1, j, o, hj, ho => by
    rw [rowC_succ]
    have hl := rowC_len h n
    by_cases e : j < n
    · have : j * S + o < n * S := by
        have : (j + 1) * S ≤ n * S := Nat.mul_le_mul_right _ e
        rw [Nat.succ_mul] at this
        omega
      rw [List.getElem?_append_left (by omega)]
      exact rowC_at h e ho
    · obtain rfl : j = n := by omega
      rw [List.getElem?_append_right (by omega), hl]
      congr 1
      omega
theorem rowC_inv {f : Nat → List Value} {S : Nat} (h : ∀ j, (f j).length = S) {n i : Nat} {u : Value} (hu : (rowC f n)[i]? = some u) : i / S < n ∧ i % S < S ∧ i = (i / S) * S + i % S ∧ (f (i / S))[i % S]? = some u := by
  have hl := rowC_len h n
  have hi := (List.getElem?_eq_some_iff.1 hu).1
  have hS : 0 < S := by
    rcases Nat.eq_zero_or_pos S with e | e
    · subst e; omega
    · exact e
  have h1 : i / S < n := (Nat.div_lt_iff_lt_mul hS).2 (by omega)
  have h2 := Nat.mod_lt i hS
  have h3 : i = (i / S) * S + i % S := by rw [Nat.mul_comm]; exact (Nat.div_add_mod i S).symm
  refine ⟨h1, h2, h3, ?_⟩
  rw [← rowC_at h h1 h2, ← h3]
  exact hu
theorem rowC_one {f : Nat → List Value} {n : Nat} (h : ∀ j, ∀ u ∈ f j, u.oneCell' = true) : ∀ u ∈ rowC f n, u.oneCell' = true := by
  intro u hu
  obtain ⟨j, _, hj⟩ := List.mem_flatMap.1 hu
  exact h j u hj
theorem rowC_congr {f g : Nat → List Value} : ∀ {n : Nat}, (∀ j, j < n → f j = g j) → rowC f n = rowC g n
  | 0, _ => rfl
  | n + 1, h => by rw [rowC_succ, rowC_succ, rowC_congr (fun j hj => h j (by omega)), h n (by omega)]
/-- a row that lies in memory, as an append reads it -/
theorem rowC_news {w : World} {f : Nat → List Value} {S : Nat} (h : ∀ j, (f j).length = S) {n b off : Nat} (hc : ∀ j, j < n → ∀ o u, (f j)[o]? = some u → w.cell? ⟨b, off + j * S + o, none⟩ = some u) : ∀ i u, (rowC f n)[i]? = some u → w.cell? ((⟨b, off, none⟩ : Addr).add i) = some u := fun i u hu => by
  have hadd : (⟨b, off, none⟩ : Addr).add i = ⟨b, off + i, none⟩ := by unfold Addr.add; split <;> simp_all
  obtain ⟨h1, h2, h3, h4⟩ := rowC_inv h hu
  rw [hadd]
  have := hc _ h1 _ _ h4
  rw [← this]
  congr 2
  omega
theorem own_cells {w : World} {base S n : Nat} {e : TypeId} {v : Value} {f : Nat → List Value} (hf : ∀ j, (f j).length = S) (h : w.ownsRow base e S v n (rowC f n)) : ∃ a c, v = .slice a n c ∧ n ≤ c ∧ c ≤ maxLen ∧ (n = 0 ∨ ∃ g, a = some ⟨g, 0, none⟩ ∧ base ≤ g ∧ ∀ j, j < n → ∀ o u, (f j)[o]? = some u → w.cell? ⟨g, 0 + j * S + o, none⟩ = some u) := by
  rcases h.2 with ⟨rfl, rfl⟩ | ⟨g, cap, cur, rfl, hb, hg, hn, hm, hs, ht⟩
  · exact ⟨none, 0, rfl, Nat.le_refl _, by unfold maxLen; omega, .inl rfl⟩
  · refine ⟨_, cap, rfl, hn, hm, .inr ⟨g, rfl, hb, fun j hj o u hu => ?_⟩⟩
    have ho : o < S := by rw [← hf j]; exact (List.getElem?_eq_some_iff.1 hu).1
    have : j * S + o < n * S := by
      have : (j + 1) * S ≤ n * S := Nat.mul_le_mul_right _ hj
      rw [Nat.succ_mul] at this
      omega
    rw [Nat.zero_add, h.cellAt _ this, rowC_at hf hj ho]
    exact hu
/-- the cells of rules, eras, links -/
def ruC (rs : Nat → Rl) (j : Nat) : List Value := (rs j).cs.toList
def erC (es : Nat → Er) (j : Nat) : List Value := (es j).cs.toList
def liC (l1 l2 : Nat → ByteArray) (j : Nat) : List Value := [.string (l1 j), .string (l2 j)]
/-- the cells of sets and zones -/
def seC (nm : Nat → ByteArray) (vs : Nat → Value) (j : Nat) : List Value := [.string (nm j), vs j]
theorem ruC_len (rs : Nat → Rl) : ∀ j, (ruC rs j).length = 9 := fun _ => rfl
theorem erC_len (es : Nat → Er) : ∀ j, (erC es j).length = 5 := fun _ => rfl
theorem liC_len (l1 l2 : Nat → ByteArray) : ∀ j, (liC l1 l2 j).length = 2 := fun _ => rfl
theorem seC_len (nm : Nat → ByteArray) (vs : Nat → Value) : ∀ j, (seC nm vs j).length = 2 := fun _ => rfl
theorem ruC_one (rs : Nat → Rl) (j : Nat) : ∀ u ∈ ruC rs j, u.oneCell' = true := by
  intro u hu
  simp only [ruC] at hu
  simp at hu
  rcases hu with rfl | rfl | rfl | rfl | rfl | rfl | rfl | rfl | rfl <;> rfl
theorem erC_one (es : Nat → Er) (j : Nat) : ∀ u ∈ erC es j, u.oneCell' = true := by
  intro u hu
  simp only [erC] at hu
  simp at hu
  rcases hu with rfl | rfl | rfl | rfl | rfl <;> rfl
theorem liC_one (l1 l2 : Nat → ByteArray) (j : Nat) : ∀ u ∈ liC l1 l2 j, u.oneCell' = true := by
  intro u hu
  simp [liC] at hu
  rcases hu with rfl | rfl <;> rfl
theorem ru_news {w : World} {a : Option Addr} {n c : Nat} {rs : Nat → Rl} (h : ARow w a n c rs) : n = 0 ∨ ∃ ad, a = some ad ∧ ∀ i u, (rowC (ruC rs) n)[i]? = some u → w.cell? (ad.add i) = some u := by
  rcases h with h | ⟨b, off, h1, h2⟩
  · exact .inl h
  · refine .inr ⟨_, h1, rowC_news (ruC_len rs) fun j hj o u hu => ?_⟩
    obtain ⟨f0, f1, f2, f3, f4, f5, f6, f7, f8⟩ := h2 j hj
    simp only [ruC] at hu
    match o, hu with
    | 0, hu => simp at hu; rw [← hu]; exact f0
    | 1, hu => simp at hu; rw [← hu]; exact f1
    | 2, hu => simp at hu; rw [← hu]; exact f2
    | 3, hu => simp at hu; rw [← hu]; exact f3
    | 4, hu => simp at hu; rw [← hu]; exact f4
    | 5, hu => simp at hu; rw [← hu]; exact f5
    | 6, hu => simp at hu; rw [← hu]; exact f6
    | 7, hu => simp at hu; rw [← hu]; exact f7
    | 8, hu => simp at hu; rw [← hu]; exact f8
    | o + 9, hu => simp at hu
theorem er_news {w : World} {a : Option Addr} {n : Nat} {es : Nat → Er} (h : ERow w a n es) : n = 0 ∨ ∃ ad, a = some ad ∧ ∀ i u, (rowC (erC es) n)[i]? = some u → w.cell? (ad.add i) = some u := by
  rcases h with h | ⟨b, off, h1, h2⟩
  · exact .inl h
  · refine .inr ⟨_, h1, rowC_news (erC_len es) fun j hj o u hu => ?_⟩
    obtain ⟨f0, f1, f2, f3, f4⟩ := h2 j hj
    simp only [erC] at hu
    match o, hu with
    | 0, hu => simp at hu; rw [← hu]; exact f0
    | 1, hu => simp at hu; rw [← hu]; exact f1
    | 2, hu => simp at hu; rw [← hu]; exact f2
    | 3, hu => simp at hu; rw [← hu]; exact f3
    | 4, hu => simp at hu; rw [← hu]; exact f4
    | o + 5, hu => simp at hu
theorem li_news {w : World} {a : Option Addr} {n : Nat} {l1 l2 : Nat → ByteArray} (h : P2 w a n (fun j => .string (l1 j)) (fun j => .string (l2 j))) : n = 0 ∨ ∃ ad, a = some ad ∧ ∀ i u, (rowC (liC l1 l2) n)[i]? = some u → w.cell? (ad.add i) = some u := by
  rcases h with h | ⟨b, off, h1, h2⟩
  · exact .inl h
  · refine .inr ⟨_, h1, rowC_news (liC_len l1 l2) fun j hj o u hu => ?_⟩
    obtain ⟨f0, f1⟩ := h2 j hj
    simp only [liC] at hu
    match o, hu with
    | 0, hu => simp at hu; rw [← hu]; exact f0
    | 1, hu => simp at hu; rw [← hu]; exact f1
    | o + 2, hu => simp at hu
theorem ru_row {w : World} {base n : Nat} {v : Value} {rs : Nat → Rl} {e : TypeId} (h : w.ownsRow base e 9 v n (rowC (ruC rs) n)) : ∃ a c, v = .slice a n c ∧ ARow w a n c rs := by
  obtain ⟨a, c, rfl, _, _, h2⟩ := own_cells (ruC_len rs) h
  refine ⟨a, c, rfl, h2.imp id fun ⟨g, h3, _, h4⟩ => ⟨g, 0, h3, fun j hj => ?_⟩⟩
  have k := h4 j hj
  exact ⟨k 0 _ rfl, k 1 _ rfl, k 2 _ rfl, k 3 _ rfl, k 4 _ rfl, k 5 _ rfl, k 6 _ rfl, k 7 _ rfl, k 8 _ rfl⟩
theorem er_row {w : World} {base n : Nat} {v : Value} {es : Nat → Er} {e : TypeId} (h : w.ownsRow base e 5 v n (rowC (erC es) n)) : ∃ a c, v = .slice a n c ∧ ERow w a n es := by
  obtain ⟨a, c, rfl, _, _, h2⟩ := own_cells (erC_len es) h
  refine ⟨a, c, rfl, h2.imp id fun ⟨g, h3, _, h4⟩ => ⟨g, 0, h3, fun j hj => ?_⟩⟩
  have k := h4 j hj
  exact ⟨k 0 _ rfl, k 1 _ rfl, k 2 _ rfl, k 3 _ rfl, k 4 _ rfl⟩
theorem li_row {w : World} {base n : Nat} {v : Value} {l1 l2 : Nat → ByteArray} {e : TypeId} (h : w.ownsRow base e 2 v n (rowC (liC l1 l2) n)) : ∃ a c, v = .slice a n c ∧ P2 w a n (fun j => .string (l1 j)) (fun j => .string (l2 j)) := by
  obtain ⟨a, c, rfl, _, _, h2⟩ := own_cells (liC_len l1 l2) h
  refine ⟨a, c, rfl, h2.imp id fun ⟨g, h3, _, h4⟩ => ⟨g, 0, h3, fun j hj => ?_⟩⟩
  have k := h4 j hj
  exact ⟨k 0 _ rfl, k 1 _ rfl⟩
theorem se_row {w : World} {base n : Nat} {v : Value} {nm : Nat → ByteArray} {vs : Nat → Value} {e : TypeId} (h : w.ownsRow base e 2 v n (rowC (seC nm vs) n)) : ∃ a c, v = .slice a n c ∧ P2 w a n (fun j => .string (nm j)) vs := by
  obtain ⟨a, c, rfl, _, _, h2⟩ := own_cells (seC_len nm vs) h
  refine ⟨a, c, rfl, h2.imp id fun ⟨g, h3, _, h4⟩ => ⟨g, 0, h3, fun j hj => ?_⟩⟩
  have k := h4 j hj
  exact ⟨k 0 _ rfl, k 1 _ rfl⟩
/-- all but what is of type t is as it was -/
def KeptB (t : TypeId) (w w' : World) : Prop := ∀ (b : Nat) (cs : Array Value) (ty : TypeId) (fr : Nat × Nat), w.heap[b]? = some (.cells cs ty fr) → ty ≠ t → w'.heap[b]? = some (.cells cs ty fr)
theorem KeptB.trans {t : TypeId} {a b c : World} (h : KeptB t a b) (k : KeptB t b c) : KeptB t a c := fun x cs ty fr hx h1 => k x cs ty fr (h x cs ty fr hx h1) h1
theorem KeptB.refl (t : TypeId) (a : World) : KeptB t a a := fun x cs ty fr hx h1 => hx
theorem keptB_on {t : TypeId} {w w' : World} (h : Below w.heap.size w w') : KeptB t w w' := fun b cs ty fr hb _ => heap_on hb h
theorem keptB_own {t e : TypeId} {w w' : World} {base S n : Nat} {v : Value} {xs : List Value} (hk : KeptB t w w') (h : w.ownsRow base e S v n xs) (he : e ≠ t) : w'.ownsRow base e S v n xs :=
  ⟨h.1, h.2.imp id fun ⟨g, cap, cur, h1, h2, h3, h4⟩ => ⟨g, cap, cur, h1, h2, hk _ _ _ _ h3 he, h4⟩⟩
theorem keptB_grown {e : TypeId} {w w' : World} {v : Value} {base S n : Nat} {xs : List Value} (h : w.ownsRow base e S v n xs) (hg : w.grownBy w' v.ownBlock) : KeptB e w w' := fun b cs ty fr hb h1 => by
  refine (hg.block b (Array.getElem?_eq_some_iff.1 hb).1 fun e => ?_).trans hb
  rcases h.2 with ⟨rfl, h0⟩ | ⟨g, cap, cur, rfl, _, hg2, _⟩
  · cases e
  · obtain rfl : b = g := by simpa [Value.ownBlock] using e
    rw [hb] at hg2
    simp at hg2
    exact h1 hg2.2.1
theorem wp_append_rowO {P : Program} (w : World) {o : Oper} {a : Act} {K : Act → World → Prop} {Q : Exit → Act → World → Prop} (s x : Operand) (t : TypeId)
    (ho : o.op = .call { callee := .builtin .append, args := #[s, x], argTypes := #[t, t] })
    (base : Nat) (e : TypeId) (i : TypeInfo) (z : Value) (size bytes : Nat) (ht : P.underlying t = some (.slice e)) (hi : P.info? e = some i) (hz : i.zero = some z)
    (hsize : i.size = size) (hby : i.bytes = bytes) (hzs : z.cells.size = size) (hsz : 0 < size)
    (v : Value) (n : Nat) (xs : List Value) (hs : a.eval s = v) (hown : w.ownsRow base e size v n xs)
    (ao : Option Addr) (m c : Nat) (news : List Value) (hx : a.eval x = .slice ao m c) (hl : news.length = m * size) (hnews : m = 0 ∨ ∃ ad, ao = some ad ∧ ∀ j u, news[j]? = some u → w.cell? (ad.add j) = some u) (h1 : ∀ u ∈ news, u.oneCell' = true)
    (h63 : n + m ≤ maxLen) (hbytes : (n + m) * bytes ≤ 140737488355328) (hbase : base ≤ w.heap.size)
    (h : ∀ v' w', w'.ownsRow base e size v' (n + m) (xs ++ news) → w.grownBy w' v.ownBlock → (v'.ownBlock = v.ownBlock ∨ v'.ownBlock = some w.heap.size) → K (a.put o.dst v') w') :
    Oper.wp P o a w K Q := by
  have key : ∃ v' w', (Builtin.append_ #[t, t] o.type #[v, .slice ao m c]).run P w = .ok v' w' ∧ w'.ownsRow base e size v' (n + m) (xs ++ news) ∧ w.grownBy w' v.ownBlock ∧ (v'.ownBlock = v.ownBlock ∨ v'.ownBlock = some w.heap.size) := by
    have hnil : m = 0 → news = [] := fun h => by
      subst h
      cases news with
      | nil => rfl
      | cons => simp at hl
    cases ao with
    | none =>
      rcases hnews with rfl | ⟨ad, h0, _⟩
      · rw [hnil rfl]
        exact ⟨v, w, run_append_void base t o.type e i size c ht hi v n xs hown, by simpa using hown, ⟨rfl, rfl, rfl, Nat.le_refl _, fun _ _ _ => rfl⟩, .inl rfl⟩
      · cases h0
    | some ad =>
      have hn : ∀ j u, news[j]? = some u → w.cell? (ad.add j) = some u := by
        rcases hnews with rfl | ⟨ad', h0, h⟩
        · intro j u hj
          rw [hnil rfl] at hj
          simp at hj
        · cases h0; exact h
      obtain ⟨v', w', hr, h2, h3, _, h5⟩ := run_append_own_at (P := P) w base t o.type e i z size bytes ht hi hz hsize hby hzs hsz v n xs hown ad m c news hl hn h1 h63 hbytes hbase
      exact ⟨v', w', hr, h2, h3, h5⟩
  obtain ⟨v', w', hr, h2, h3, h4⟩ := key
  unfold Oper.wp execOp
  simp only [ho, resolve, invoke, builtin, Sem.run_bind, Sem.run_pure, Result.andThen_ok, List.map_toArray, List.map_cons, List.map_nil, hs, hx, hr]
  exact h v' w' h2 h3 h4
theorem wpList_append_rowO {P : Program} (w : World) {ops : Array Oper} {rest : List Oper} {o : Oper} {a : Act} {Q : Exit → Act → World → Prop} (hgd : o.guard = none) (s x : Operand) (t : TypeId)
    (ho : o.op = .call { callee := .builtin .append, args := #[s, x], argTypes := #[t, t] })
    (base : Nat) (e : TypeId) (i : TypeInfo) (z : Value) (size bytes : Nat) (ht : P.underlying t = some (.slice e)) (hi : P.info? e = some i) (hz : i.zero = some z)
    (hsize : i.size = size) (hby : i.bytes = bytes) (hzs : z.cells.size = size) (hsz : 0 < size)
    (v : Value) (n : Nat) (xs : List Value) (hs : a.eval s = v) (hown : w.ownsRow base e size v n xs)
    (ao : Option Addr) (m c : Nat) (news : List Value) (hx : a.eval x = .slice ao m c) (hl : news.length = m * size) (hnews : m = 0 ∨ ∃ ad, ao = some ad ∧ ∀ j u, news[j]? = some u → w.cell? (ad.add j) = some u) (h1 : ∀ u ∈ news, u.oneCell' = true)
    (h63 : n + m ≤ maxLen) (hbytes : (n + m) * bytes ≤ 140737488355328) (hbase : base ≤ w.heap.size)
    (h : ∀ v' w', w'.ownsRow base e size v' (n + m) (xs ++ news) → w.grownBy w' v.ownBlock → (v'.ownBlock = v.ownBlock ∨ v'.ownBlock = some w.heap.size) → wpList P ops Q rest (a.put o.dst v') w') : wpList P ops Q (o :: rest) a w :=
  wpList_plain hgd fun _ hK => wp_append_rowO w s x t ho base e i z size bytes ht hi hz hsize hby hzs hsz v n xs hs hown ao m c news hx hl hnews h1 h63 hbytes hbase fun v' w' h2 h3 h4 => hK _ _ (h v' w' h2 h3 h4)
end Go.Proofs.YtfjjdicgekgbeaaGreatDoor

/- A region that draws its order, whose last operation waits for all others: the region without it, and then that one. -/
namespace Go.Proofs.YtfjjdicgekgbeaaGreatDoor
open Go Go.RowKit
set_option linter.unusedVariables false

variable {P : Program}
theorem upon_q {o : Oper} {a : Act} {K : Act → World → Prop} {Q1 Q2 : Exit → Act → World → Prop} (hq : ∀ ex a w, ex ≠ .normal → Q1 ex a w → Q2 ex a w) : ∀ r, o.upon P a K Q1 r → o.upon P a K Q2 r := by
  intro r h
  have hl : LetsOut Q1 → LetsOut Q2 := fun ⟨a, w, h⟩ => ⟨a, w, hq _ _ _ (by intro e; cases e) h⟩
  cases r with
  | ok n w' =>
    cases n <;> simp only [Oper.upon] at h ⊢ <;>
      first
        | exact h
        | exact Calls.mono h (fun e w'' he => by cases e <;> first | exact he | exact hq _ _ _ (by intro e; cases e) he | exact hl he)
  | halt x w' => cases x <;> simp only [Oper.upon] at h ⊢ <;> first | exact h | exact hq _ _ _ (by intro e; cases e) h
/-- what is left behind the others -/
def Qlast (P : Program) (ops : Array Oper) (Q : Exit → Act → World → Prop) (n : Nat) : Exit → Act → World → Prop
  | .normal, a, w => wpOp P ops Q n (fun a' w' => Q .normal a' w') a w
  | x, a, w => Q x a w
theorem qlast_n {ops : Array Oper} {Q : Exit → Act → World → Prop} {n : Nat} {a : Act} {w : World} (h : wpOp P ops Q n (fun a' w' => Q .normal a' w') a w) : Qlast P ops Q n .normal a w := h
theorem qlast_q {ops : Array Oper} {Q : Exit → Act → World → Prop} {n : Nat} : ∀ ex a w, ex ≠ .normal → Qlast P ops Q n ex a w → Q ex a w := by
  intro ex a w h
  cases ex <;> first | exact absurd rfl h | exact id
variable {ops : Array Oper} {o : Oper} {Q : Exit → Act → World → Prop} {md : Region.Mode}
theorem wpOp_q {i : Nat} (hi : i < ops.size) (hg : ∀ (j : Nat) (oj : Oper), ops[j]? = some oj → oj.guard = none) {K K' : Act → World → Prop} (hK : ∀ a w, K a w → K' a w) {a : Act} {w : World} (h : wpOp P ops (Qlast P (ops.push o) Q ops.size) i K a w) : wpOp P (ops.push o) Q i K' a w := by
  have e1 : (ops.push o)[i]? = ops[i]? := by rw [Array.getElem?_push, if_neg (by omega)]
  have e2 := Array.getElem?_eq_getElem hi
  have hw : ∀ y, Region.wanted ops[i] y = true := fun y => by simp [Region.wanted, hg i _ e2]
  unfold wpOp at h ⊢
  rw [e1, e2]
  rw [e2] at h
  simp only [hw, if_true] at h ⊢
  rcases h with h | ⟨h1, a', w', h2⟩
  · exact .inl (Oper.wp_mono hK (upon_q qlast_q _ h))
  · exact .inr ⟨h1, a', w', qlast_q _ _ _ (by intro e; cases e) h2⟩
theorem getD_push_lt {l : Array Bool} {b d : Bool} {i : Nat} (h : i < l.size) : (l.push b).getD i d = l.getD i d := by
  simp [Array.getD, h, Nat.lt_succ_of_lt h, Array.getElem_push_lt h]
theorem getD_push_eq {l : Array Bool} {b d : Bool} : (l.push b).getD l.size d = b := by simp [Array.getD]
theorem push_set {l : Array Bool} {i : Nat} {b c : Bool} (h : i < l.size) : (l.push b).setIfInBounds i c = (l.setIfInBounds i c).push b := by
  apply Array.ext_getElem?
  intro j
  rw [Array.getElem?_setIfInBounds, Array.getElem?_push, Array.getElem?_push, Array.getElem?_setIfInBounds, Array.size_setIfInBounds]
  by_cases e : i = j
  · subst e
    rw [if_pos rfl, if_pos (by simp; omega), if_neg (by omega), if_pos rfl, if_pos h]
  · rw [if_neg e, if_neg e]
theorem ready_lt {listed : Array Bool} (hs : listed.size = ops.size) (hord : ∀ (i : Nat) (oi : Oper), ops[i]? = some oi → ∀ e ∈ oi.after, e.on < ops.size) {i : Nat} (hi : i < ops.size) : i ∈ Region.ready md (ops.push o) (listed.push false) ↔ i ∈ Region.ready md ops listed := by
  rw [mem_ready, mem_ready, getD_push_lt (by omega)]
  have e1 : (ops.push o)[i]? = ops[i]? := by rw [Array.getElem?_push, if_neg (by omega)]
  rw [e1]
  constructor
  · rintro ⟨h1, oi, h2, h3⟩
    exact ⟨h1, oi, h2, fun e he hb => by have := h3 e he hb; rwa [getD_push_lt (by rw [hs]; exact hord i oi h2 e he)] at this⟩
  · rintro ⟨h1, oi, h2, h3⟩
    exact ⟨h1, oi, h2, fun e he hb => by rw [getD_push_lt (by rw [hs]; exact hord i oi h2 e he)]; exact h3 e he hb⟩
/-- the least one that has not come up may come up -/
theorem ready_none {listed : Array Bool} (hs : listed.size = ops.size) (hord : ∀ (i : Nat) (oi : Oper), ops[i]? = some oi → ∀ e ∈ oi.after, e.on < i) (h : Region.ready md ops listed = []) : ∀ i, i < ops.size → listed.getD i true = true ∧ listed.getD i false = true := by
  intro i
  induction i using Nat.strongRecOn with
  | ind i ih =>
    intro hi
    have e2 := Array.getElem?_eq_getElem hi
    have e3 : ∀ d, listed.getD i d = listed[i]'(by omega) := fun d => by simp [Array.getD, hs, hi]
    cases hb : listed[i]'(by omega) with
    | true => exact ⟨by rw [e3, hb], by rw [e3, hb]⟩
    | false =>
      exfalso
      have : i ∈ Region.ready md ops listed := mem_ready.2 ⟨by rw [e3, hb], _, e2, fun e he _ => (ih e.on (hord i _ e2 e he) (by have := hord i _ e2 e he; omega)).2⟩
      rw [h] at this
      cases this
theorem ready_all {listed : Array Bool} (h : ∀ i, i < ops.size → listed.getD i true = true) : Region.ready md ops listed = [] := by
  apply List.eq_nil_iff_forall_not_mem.2
  intro i hi
  obtain ⟨h1, oi, h2, _⟩ := mem_ready.1 hi
  have := h i (Array.getElem?_eq_some_iff.1 h2).1
  rw [h1] at this
  cases this
theorem any_last (hg : ∀ (j : Nat) (oj : Oper), ops[j]? = some oj → oj.guard = none) (hord : ∀ (i : Nat) (oi : Oper), ops[i]? = some oi → ∀ e ∈ oi.after, e.on < i) (hall : ∀ i, i < ops.size → ∃ e ∈ o.after, e.on = i ∧ Region.binds md e = true) (hin : ∀ e ∈ o.after, e.on < ops.size) :
    ∀ (fuel : Nat) (listed : Array Bool) (a : Act) (w : World), listed.size = ops.size → wpAny P md ops (Qlast P (ops.push o) Q ops.size) fuel listed a w → wpAny P md (ops.push o) Q (fuel + 1) (listed.push false) a w := by
  have hord' : ∀ (i : Nat) (oi : Oper), ops[i]? = some oi → ∀ e ∈ oi.after, e.on < ops.size := fun i oi h e he => Nat.lt_trans (hord i oi h e he) (Array.getElem?_eq_some_iff.1 h).1
  have hlast : ∀ listed : Array Bool, listed.size = ops.size → (ops.size ∈ Region.ready md (ops.push o) (listed.push false) ↔ ∀ i, i < ops.size → listed.getD i false = true) := fun listed hs => by
    rw [mem_ready, ← hs, getD_push_eq, hs]
    constructor
    · rintro ⟨_, oi, h2, h3⟩ i hi
      obtain rfl : o = oi := by simpa using h2
      obtain ⟨e, he, rfl, hb⟩ := hall i hi
      have := h3 e he hb
      rwa [getD_push_lt (by omega)] at this
    · intro h
      exact ⟨rfl, o, by simp, fun e he _ => by rw [getD_push_lt (by have := hin e he; omega)]; exact h _ (hin e he)⟩
  have hfin : ∀ listed : Array Bool, listed.size = ops.size → (∀ i, i < ops.size → listed.getD i false = true) → Region.ready md (ops.push o) ((listed.push false).setIfInBounds ops.size true) = [] := fun listed hs h => by
    refine ready_all fun i hi => ?_
    simp at hi
    by_cases e : i = ops.size
    · subst e
      simp [Array.getD, hs]
    · have hi2 : i < ops.size := by omega
      have h1 := h i hi2
      have e3 : listed.getD i false = listed[i]'(by omega) := by simp [Array.getD, hs, hi2]
      rw [e3] at h1
      have : ((listed.push false).setIfInBounds ops.size true).getD i true = listed[i]'(by omega) := by
        rw [getD_set_ne true (Ne.symm e), getD_push_lt (by omega)]
        simp [Array.getD, hs, hi2]
      rw [this, h1]
  intro fuel
  induction fuel with
  | zero =>
    intro listed a w hs H
    have hall2 := fun i hi => (ready_none hs hord H.1 i hi).2
    have hm := (hlast listed hs).2 hall2
    refine ⟨fun h => (by rw [h] at hm; cases hm), fun i hi => ?_⟩
    have hin2 : i < ops.size + 1 := by
      obtain ⟨_, oi, h2, _⟩ := mem_ready.1 hi
      have := (Array.getElem?_eq_some_iff.1 h2).1
      simpa using this
    by_cases e : i = ops.size
    · subst e
      exact wpOp_mono (fun a' w' h => ⟨hfin listed hs hall2, h⟩) H.2
    · have := (ready_lt (o := o) hs hord' (by omega)).1 hi
      rw [H.1] at this
      cases this
  | succ fuel ih =>
    intro listed a w hs H
    refine ⟨fun h => ?_, fun i hi => ?_⟩
    · exfalso
      have hr : Region.ready md ops listed = [] := by
        apply List.eq_nil_iff_forall_not_mem.2
        intro i hi
        have hil : i < ops.size := by
          obtain ⟨_, oi, h2, _⟩ := mem_ready.1 hi
          exact (Array.getElem?_eq_some_iff.1 h2).1
        have := (ready_lt (o := o) hs hord' hil).2 hi
        rw [h] at this
        cases this
      have hm := (hlast listed hs).2 (fun i hi => (ready_none hs hord hr i hi).2)
      rw [h] at hm
      cases hm
    · have hin2 : i < ops.size + 1 := by
        obtain ⟨_, oi, h2, _⟩ := mem_ready.1 hi
        have := (Array.getElem?_eq_some_iff.1 h2).1
        simpa using this
      by_cases e : i = ops.size
      · subst e
        have hall2 := (hlast listed hs).1 hi
        have hr : Region.ready md ops listed = [] := ready_all fun i hi => by
          have h1 := hall2 i hi
          have e3 : ∀ d, listed.getD i d = listed[i]'(by omega) := fun d => by simp [Array.getD, hs, hi]
          rw [e3] at h1 ⊢
          exact h1
        refine wpOp_mono (fun a' w' h => ⟨fun _ => h, fun j hj => ?_⟩) (H.1 hr)
        rw [hfin listed hs hall2] at hj
        cases hj
      · have hil : i < ops.size := by omega
        have h1 := H.2 i ((ready_lt (o := o) hs hord' hil).1 hi)
        refine wpOp_q hil hg (fun a' w' h => ?_) h1
        have := ih (listed.setIfInBounds i true) a' w' (by simpa using hs) h
        rw [push_set (by omega)]
        exact this
/-- the same as a question that the kernel answers -/
def lastOK (ops : Array Oper) : Bool :=
  match ops.back? with
  | none => false
  | some o => (List.range ops.pop.size).all (fun i => match ops.pop[i]? with | some oi => oi.guard.isNone && oi.after.all (fun e => decide (e.on < i)) | none => true) && (List.range ops.pop.size).all (fun i => o.after.any fun e => e.on == i && Region.binds .any e) && o.after.all fun e => decide (e.on < ops.pop.size)
theorem region_last {ops : Array Oper} {id : Nat} {a : Act} {w : World} {S : World → Prop} (hm : P.follows .mixedOrders = true) (hok : lastOK ops = true) (hS : S w.drew)
    (h : S w.drew → wpAnyH P .any ops.pop (Qlast P ops Q ops.pop.size) S ops.pop.size (Array.replicate ops.pop.size false) a w.drew) : (Code.region id ops true).wp P Q a w := by
  unfold lastOK at hok
  cases hb : ops.back? with
  | none => rw [hb] at hok; cases hok
  | some o =>
    rw [hb] at hok
    simp only [Bool.and_eq_true, List.all_eq_true, List.mem_range, Array.all_eq_true_iff_forall_mem, Array.any_eq_true, decide_eq_true_eq] at hok
    obtain ⟨⟨h1, h2⟩, h3⟩ := hok
    have hp : ops = ops.pop.push o := by
      have hs : 0 < ops.size := by
        rcases Nat.eq_zero_or_pos ops.size with e | e
        · rw [Array.back?_eq_getElem?, Array.getElem?_eq_none (by omega)] at hb
          cases hb
        · exact e
      rw [Array.back?_eq_getElem?] at hb
      apply Array.ext_getElem?
      intro i
      rw [Array.getElem?_push, Array.getElem?_pop, Array.size_pop]
      by_cases e : i = ops.size - 1
      · rw [if_pos e, e, hb]
      · rw [if_neg e]
        by_cases h : i < ops.size - 1
        · rw [if_pos h]
        · rw [if_neg h, Array.getElem?_eq_none (by omega)]
    have hsz : ops.size = ops.pop.size + 1 := by rw [hp]; simp
    have hg : ∀ (j : Nat) (oj : Oper), ops.pop[j]? = some oj → oj.guard = none := fun j oj hj => by
      have := h1 j (Array.getElem?_eq_some_iff.1 hj).1
      rw [hj] at this
      simp only [Bool.and_eq_true] at this
      exact Option.isNone_iff_eq_none.1 this.1
    have hord : ∀ (i : Nat) (oi : Oper), ops.pop[i]? = some oi → ∀ e ∈ oi.after, e.on < i := fun i oi hi e he => by
      have := h1 i (Array.getElem?_eq_some_iff.1 hi).1
      rw [hi] at this
      simp only [Bool.and_eq_true, Array.all_eq_true_iff_forall_mem, decide_eq_true_eq] at this
      exact this.2 e he
    have hall : ∀ i, i < ops.pop.size → ∃ e ∈ o.after, e.on = i ∧ Region.binds .any e = true := fun i hi => by
      obtain ⟨k, hk, he⟩ := h2 i hi
      simp only [beq_iff_eq] at he
      exact ⟨o.after[k], Array.getElem_mem hk, he⟩
    have key := any_last (P := P) (Q := Q) (md := .any) (o := o) hg hord hall h3 ops.pop.size (Array.replicate ops.pop.size false) a w.drew (by simp) (by
      rw [← hp]
      exact wpAny_of_held _ _ _ _ (h hS))
    refine wp_region_any hm ?_
    rw [← hp, ← Array.replicate_succ, ← hsz] at key
    exact key
end Go.Proofs.YtfjjdicgekgbeaaGreatDoor

/- The document's own OwnData: data of its own, the same. -/
namespace Go.Proofs.YtfjjdicgekgbeaaGreatDoor
open Go Go.RowKit Go.Maps
set_option linter.unusedVariables false
set_option linter.unusedSimpArgs false

theorem info_li : (Tryz.prog.info? 78).map (fun i => (i.zero, i.size, i.bytes)) = some (some (.agg #[.string ⟨#[]⟩, .string ⟨#[]⟩]), 2, 32) := by kernel_rfl
theorem info_ru : (Tryz.prog.info? 74).map (fun i => (i.zero, i.size, i.bytes)) = some (some (.agg #[.int .i64 0, .int .i64 0, .int .i64 0, .int .i64 0, .int .i64 0, .int .i64 0, .int .i64 0, .int .i64 0, .string ⟨#[]⟩]), 9, 80) := by kernel_rfl
theorem info_er : (Tryz.prog.info? 76).map (fun i => (i.zero, i.size, i.bytes)) = some (some (.agg #[.int .i64 0, .int .i64 0, .int .i64 0, .string ⟨#[]⟩, .int .i64 0]), 5, 48) := by kernel_rfl
theorem info_se : (Tryz.prog.info? 59).map (fun i => (i.zero, i.size, i.bytes)) = some (some (.agg #[.string ⟨#[]⟩, .slice none 0 0]), 2, 40) := by kernel_rfl
theorem info_zo : (Tryz.prog.info? 62).map (fun i => (i.zero, i.size, i.bytes)) = some (some (.agg #[.string ⟨#[]⟩, .slice none 0 0]), 2, 40) := by kernel_rfl
theorem own_lt2' {w : World} {base n size : Nat} {e : TypeId} {v : Value} {xs : List Value} (h : w.ownsRow base e size v n xs) {g : Nat} (hg : v.ownBlock = some g) : base ≤ g ∧ g < w.heap.size := by
  rcases h.2 with ⟨rfl, _⟩ | ⟨g', cap, cur, rfl, hb, hh, _⟩
  · simp [Value.ownBlock] at hg
  · obtain rfl : g' = g := by simpa [Value.ownBlock] using hg
    exact ⟨hb, (Array.getElem?_eq_some_iff.1 hh).1⟩
theorem own_sl {w : World} {base n size : Nat} {e : TypeId} {v : Value} {xs : List Value} (h : w.ownsRow base e size v n xs) : ∃ a c, v = .slice a n c := by
  rcases h.2 with ⟨rfl, rfl⟩ | ⟨g', cap, cur, rfl, _⟩
  · exact ⟨_, _, rfl⟩
  · exact ⟨_, _, rfl⟩
theorem own_oneC {w : World} {base n size : Nat} {e : TypeId} {v : Value} {xs : List Value} (h : w.ownsRow base e size v n xs) : v.oneCell' = true := by
  rcases h.2 with ⟨rfl, _⟩ | ⟨g', cap, cur, rfl, _⟩ <;> rfl
theorem keptB_box {w : World} {b : Nat} {cs : Array Value} {t : TypeId} (h : w.heap[b]? = some (.cells cs t)) (o : Nat) (u : Value) : KeptB t w (w.setCell ⟨b, o, none⟩ u) := fun x cs' ty fr hx h1 => by
  by_cases e : x = b
  · subst e
    rw [h] at hx
    simp at hx
    exact absurd hx.2.1.symm h1
  · exact (Below.heap_setCell _ _ _ _ e).trans hx
/-- the boxes about -/
structure oW (w W : World) (A : Array Value) (ob : Nat) (v1 v2 v3 : Value) : Prop where
  b : Below w.heap.size w W
  a : W.heap[w.heap.size]? = some (.cells A 26)
  r : W.heap[w.heap.size + 1]? = some (.cells #[.slice none 0 0, .slice none 0 0, .slice none 0 0] 26)
  o : W.heap[ob]? = some (.cells #[v1, v2, v3] 26)
  ob : w.heap.size + 2 ≤ ob
/-- the first append: a row that lies in memory, behind an empty one -/
theorem dup1 {P : Program} (w0 U : World) {ops : Array Oper} {o : Oper} {a : Act} {K : Act → World → Prop} {Q : Exit → Act → World → Prop} {E : Prop} (hgd : o.guard = none) (s x : Operand) (t : TypeId)
    (ho : o.op = .call { callee := .builtin .append, args := #[s, x], argTypes := #[t, t] })
    (base : Nat) (e : TypeId) (i : TypeInfo) (z : Value) (size bytes : Nat) (ht : P.underlying t = some (.slice e)) (hi : P.info? e = some i) (hz : i.zero = some z)
    (hsize : i.size = size) (hby : i.bytes = bytes) (hzs : z.cells.size = size) (hsz : 0 < size)
    (g : Nat) (hs : a.eval s = .slice (some ⟨g, 0, none⟩) 0 0) (ao : Option Addr) (m c : Nat) (news : List Value) (hx : a.eval x = .slice ao m c) (hl : news.length = m * size) (hnews : m = 0 ∨ ∃ ad, ao = some ad ∧ ∀ j u, news[j]? = some u → w0.cell? (ad.add j) = some u) (h1 : ∀ u ∈ news, u.oneCell' = true)
    (hU : Below w0.heap.size w0 U) (hg : U.heap[g]? = some (.cells #[] e)) (hb : w0.heap.size ≤ g) (hbase : base ≤ w0.heap.size) (hm : m ≤ 1000) (hbs : m * bytes ≤ 140737488355328)
    (h : ∀ a1 c1 w1, Hid (w1.ownsRow base e size (.slice a1 m c1) m news) → Hid (Below w0.heap.size w0 w1) → K (a.put o.dst (.slice a1 m c1)) w1) :
    if Region.wanted o (yielded ops a.tmps) = true then Oper.wp P o a U K Q else E := by
  have hown := own_empty (base := base) (size := size) hg (by omega)
  have hlt : ∀ {ad : Addr} {u : Value}, w0.cell? ad = some u → U.cell? ad = some u := fun {ad u} hc => by
    have hlb : ad.block < w0.heap.size := by
      rcases Nat.lt_or_ge ad.block w0.heap.size with h | h
      · exact h
      · simp [World.cell?, Array.getElem?_eq_none h] at hc
    rw [hU.cell hlb]
    exact hc
  refine step_append_row U hgd s x t ho base e i z size bytes ht hi hz hsize hby hzs hsz _ 0 [] hs hown ao m c news hx hl (hnews.imp id fun ⟨ad, k1, k2⟩ => ⟨ad, k1, fun j u hj => hlt (k2 j u hj)⟩) h1 (by unfold maxLen; omega) (by rw [Nat.zero_add]; exact hbs) (by have := hU.size; omega) ?_
  intro v1 w1 k1 k2 _
  rw [Nat.zero_add, List.nil_append] at k1
  obtain ⟨a1, c1, rfl⟩ := own_sl k1
  refine h a1 c1 w1 k1 (hU.grown k2 hU.size fun k hk => ?_)
  obtain rfl : g = k := by simpa [Value.ownBlock] using hk
  exact hb
/-- the second one: one struct of two cells more -/
theorem dup2 {P : Program} (U : World) {ops : Array Oper} {o : Oper} {a : Act} {K : Act → World → Prop} {Q : Exit → Act → World → Prop} {E : Prop} (hgd : o.guard = none) (s x : Operand) (t : TypeId)
    (ho : o.op = .call { callee := .builtin .append, args := #[s, x], argTypes := #[t, t] })
    (base : Nat) (e : TypeId) (i : TypeInfo) (z : Value) (ht : P.underlying t = some (.slice e)) (hi : P.info? e = some i) (hz : i.zero = some z)
    (hsize : i.size = 2) (hby : i.bytes = 40) (hzs : z.cells.size = 2)
    (v : Value) (n : Nat) (xs : List Value) (hs : a.eval s = v) (hown : U.ownsRow base e 2 v n xs) (g : Nat) (x1 x2 : Value) (hx : a.eval x = .slice (some ⟨g, 0, none⟩) 1 1) (hg : U.heap[g]? = some (.cells #[x1, x2] e)) (o1 : x1.oneCell' = true) (o2 : x2.oneCell' = true) (hn : n ≤ 1000) (hbase : base ≤ U.heap.size)
    (h : ∀ a2 c2 w2, Hid (w2.ownsRow base e 2 (.slice a2 (n + 1) c2) (n + 1) (xs ++ [x1, x2])) → Hid (KeptB e U w2) → Hid (Below base U w2) → K (a.put o.dst (.slice a2 (n + 1) c2)) w2) :
    if Region.wanted o (yielded ops a.tmps) = true then Oper.wp P o a U K Q else E := by
  refine step_append_row U hgd s x t ho base e i z 2 40 ht hi hz hsize hby hzs (by decide) v n xs hs hown (some ⟨g, 0, none⟩) 1 1 [x1, x2] hx rfl (.inr ⟨_, rfl, World.news_of_block hg⟩) (by intro u hu; simp at hu; rcases hu with rfl | rfl; exact o1; exact o2) (by unfold maxLen; omega) (by omega) hbase ?_
  intro v2 w2 k1 k2 _
  obtain ⟨a2, c2, rfl⟩ := own_sl k1
  exact h a2 c2 w2 k1 (keptB_grown hown k2) ((Below.refl base U).grown k2 hbase fun k hk => (own_lt2' hown hk).1)
/-- what OwnData answers -/
structure owP (ns nz nl : Nat) (snm : Nat → ByteArray) (sn : Nat → Nat) (rs : Nat → Nat → Rl) (znm : Nat → ByteArray) (zn : Nat → Nat) (es : Nat → Nat → Er) (l1 l2 : Nat → ByteArray) (B : Nat) (w' : World) (v1 v2 v3 : Value) (vs zs : Nat → Value) : Prop where
  sets : w'.ownsRow B 59 2 v1 ns (rowC (seC snm vs) ns)
  rules : ∀ j, j < ns → w'.ownsRow B 74 9 (vs j) (sn j) (rowC (ruC (rs j)) (sn j))
  zones : w'.ownsRow B 62 2 v2 nz (rowC (seC znm zs) nz)
  eras : ∀ j, j < nz → w'.ownsRow B 76 5 (zs j) (zn j) (rowC (erC (es j)) (zn j))
  links : w'.ownsRow B 78 2 v3 nl (rowC (liC l1 l2) nl)
def owQ (ns nz nl : Nat) (snm : Nat → ByteArray) (sn : Nat → Nat) (rs : Nat → Nat → Rl) (znm : Nat → ByteArray) (zn : Nat → Nat) (es : Nat → Nat → Er) (l1 l2 : Nat → ByteArray) (w : World) (e : Ending) (w' : World) : Prop :=
  ∃ v1 v2 v3 vs zs, e = .returned (.agg #[v1, v2, v3]) ∧ owP ns nz nl snm sn rs znm zn es l1 l2 w.heap.size w' v1 v2 v3 vs zs ∧ Below w.heap.size w w'
set_option maxRecDepth 100000 in
set_option maxHeartbeats 16000000 in
theorem OwnData_x (sa za la : Option Addr) (ns nz nl sc zc lc : Nat) (snm : Nat → ByteArray) (sn : Nat → Nat) (ra : Nat → Option Addr) (rc : Nat → Nat) (rs : Nat → Nat → Rl) (znm : Nat → ByteArray) (zn : Nat → Nat) (ea : Nat → Option Addr) (ec : Nat → Nat) (es : Nat → Nat → Er) (l1 l2 : Nat → ByteArray) (w : World)
    (S1 : P2 w sa ns (fun j => .string (snm j)) (fun j => .slice (ra j) (sn j) (rc j))) (R1 : ∀ j, j < ns → ARow w (ra j) (sn j) (rc j) (rs j))
    (Z1 : P2 w za nz (fun j => .string (znm j)) (fun j => .slice (ea j) (zn j) (ec j))) (E1 : ∀ j, j < nz → ERow w (ea j) (zn j) (es j))
    (L1 : P2 w la nl (fun j => .string (l1 j)) (fun j => .string (l2 j)))
    (n1 : ns ≤ 1000) (n2 : nz ≤ 1000) (n3 : nl ≤ 1000) (m1 : ∀ j, j < ns → sn j ≤ 1000) (m2 : ∀ j, j < nz → zn j ≤ 1000) :
    Calls Tryz.prog 6 #[.agg #[.slice sa ns sc, .slice za nz zc, .slice la nl lc]] w fun e w' => owQ ns nz nl snm sn rs znm zn es l1 l2 w e w' := by
  have HS1 := hideH S1
  have HR1 := hideH R1
  have HZ1 := hideH Z1
  have HE1 := hideH E1
  have HL1 := hideH L1
  have M1 := hideH m1
  have M2 := hideH m2
  have bx := two_boxes w (.cells #[.slice sa ns sc, .slice za nz zc, .slice la nl lc] 26) (.cells #[.slice none 0 0, .slice none 0 0, .slice none 0 0] 26)
  obtain ⟨W0, hW0⟩ : ∃ W0, W0 = (w.alloc (.cells #[.slice sa ns sc, .slice za nz zc, .slice la nl lc] 26)).alloc (.cells #[.slice none 0 0, .slice none 0 0, .slice none 0 0] 26) := ⟨_, rfl⟩
  have hsz0 : W0.heap.size = w.heap.size + 2 := by rw [hW0]; simp
  rw [← hW0] at bx
  have bz := (Below.refl _ W0).alloc (Nat.le_refl _) (.cells #[] 78)
  have B0 := hideH (bthen bx.1 bz)
  have KA := hideH (heap_on bx.2.1 bz)
  have KR := hideH (heap_on bx.2.2 bz)
  have O0 := hideH (own_empty (base := w.heap.size) (size := 2) (World.alloc_heap_new W0 (.cells #[] 78)) (by omega))
  have HN1 := hideH (li_news (HL1.out.on B0.out))
  obtain ⟨i0, hi, hz0, hz1, hz2⟩ := info_parts info_li
  obtain ⟨p0, p1, p2⟩ := cells3 KA.out
  clear S1 R1 Z1 E1 L1 m1 m2 bx bz
  go_enter Tryz.func6, Tryz.ntmps6
  go_wp2_with (at_builtin; refine wpList_append_rowO _ rfl _ _ 24 rfl w.heap.size 78 i0 _ 2 32 Tryz.underlying24 hi hz0 hz1 hz2 rfl (by decide) (.slice (some ⟨W0.heap.size, 0, none⟩) 0 0) 0 [] (by simp [hW0, Act.eval]) (by rw [← hW0]; exact O0.out) la nl lc (rowC (liC l1 l2) nl) rfl (rowC_len (liC_len _ _) _) (by rw [← hW0]; exact HN1.out) (rowC_one (liC_one _ _)) (by unfold maxLen; omega) (by omega) (by rw [← hW0]; exact B0.out.size) ?_; intro v3 w3 hown3 hgrow3 hat3; refine Hid.out ?_)
  have G3 : Hid ((W0.alloc (.cells #[] 78)).grownBy w3 (Value.slice (some ⟨W0.heap.size, 0, none⟩) 0 0).ownBlock) := by rw [hW0] at hgrow3 ⊢; exact hgrow3
  rw [Nat.zero_add, List.nil_append] at hown3
  have O3 := hideH hown3
  obtain ⟨a3, c3, rfl⟩ := own_sl hown3
  clear hown3 hgrow3 hat3 p0 p1 p2
  have hne : ∀ b : Nat, b < W0.heap.size → some b ≠ (Value.slice (some ⟨W0.heap.size, 0, none⟩) 0 0).ownBlock := fun b hb e => by
    simp [Value.ownBlock] at e
    omega
  have B3 := hideH (B0.out.grown G3.out B0.out.size (fun k hk => by simp [Value.ownBlock] at hk; omega))
  have A3 : Hid (w3.heap[w.heap.size]? = some (.cells #[.slice sa ns sc, .slice za nz zc, .slice la nl lc] 26)) := (G3.out.block _ (Array.getElem?_eq_some_iff.1 KA.out).1 (hne _ (by omega))).trans KA.out
  have R3 : Hid (w3.heap[w.heap.size + 1]? = some (.cells #[.slice none 0 0, .slice none 0 0, .slice none 0 0] 26)) := (G3.out.block _ (Array.getElem?_eq_some_iff.1 KR.out).1 (hne _ (by omega))).trans KR.out
  have bz := (Below.refl _ w3).alloc (Nat.le_refl _) (.cells #[.slice none 0 0, .slice none 0 0, .slice a3 nl c3] 26)
  have hob : w.heap.size + 2 ≤ w3.heap.size := by have := (Array.getElem?_eq_some_iff.1 R3.out).1; omega
  obtain ⟨w4, hw4⟩ : ∃ w4, w4 = w3.alloc (.cells #[.slice none 0 0, .slice none 0 0, .slice a3 nl c3] 26) := ⟨_, rfl⟩
  rw [← hw4] at bz
  have Q4 : Hid (oW w w4 #[.slice sa ns sc, .slice za nz zc, .slice la nl lc] w3.heap.size (.slice none 0 0) (.slice none 0 0) (.slice a3 nl c3)) := ⟨bthen B3.out bz, heap_on A3.out bz, heap_on R3.out bz, by rw [hw4]; exact World.alloc_heap_new _ _, hob⟩
  have L4 := hideH (own_on O3.out bz)
  obtain ⟨ob, hobe⟩ : ∃ ob, ob = w3.heap.size := ⟨_, rfl⟩
  rw [← hobe] at Q4
  clear G3 hne B3 A3 R3 O3 O0 KA KR B0 HN1 bz hW0
  refine hideH ?_
  go_wp2_with fail
  simp only [← hw4, ← hobe]
  clear hw4 hobe hob
  go_loopw [4] (fun x4 W => ∃ (j : Nat) (va : Option Addr) (vc : Nat) (vs : Nat → Value), j ≤ ns ∧ x4 = .int .i64 j ∧ Hid (oW w W #[.slice sa ns sc, .slice za nz zc, .slice la nl lc] ob (.slice va j vc) (.slice none 0 0) (.slice a3 nl c3)) ∧ Hid (W.ownsRow w.heap.size 78 2 (.slice a3 nl c3) nl (rowC (liC l1 l2) nl)) ∧ Hid (W.ownsRow w.heap.size 59 2 (.slice va j vc) j (rowC (seC snm vs) j)) ∧ Hid (∀ i, i < j → W.ownsRow w.heap.size 74 9 (vs i) (sn i) (rowC (ruC (rs i)) (sn i)))) (fun x4 _ => ns - (intOf x4).toNat)
  case atStart => exact ⟨0, none, 0, fun _ => .slice none 0 0, Nat.zero_le _, rfl, Q4, L4, World.ownsRow_nil _ _ _ _, fun i hi => by omega⟩
  case round =>
    obtain ⟨j, va, vc, vs, hj, rfl, Q5, L5, O5, I5⟩ := hrel
    clear Q4 L4
    obtain ⟨p0, p1, p2⟩ := cells3 Q5.out.a
    by_cases hlt : j < ns
    · rcases HS1.out with h0 | ⟨b, off, hsa, hcs⟩
      · omega
      subst hsa
      have d0 := cell_on (hcs j hlt).1 Q5.out.b
      have d1 := cell_on (hcs j hlt).2 Q5.out.b
      have HC := hideH (hcs j hlt)
      have HM := M1.out j hlt
      have HNw := hideH (ru_news ((HR1.out j hlt).on Q5.out.b))
      obtain ⟨o0, o1, o2⟩ := cells3 Q5.out.o
      have hobl := (Array.getElem?_eq_some_iff.1 Q5.out.o).1
      have hk0 : decide ((j : Int) < 0) = false := by simp
      have hkn : decide (ns ≤ j) = false := by simp; omega
      have hki : (j : Int) < (ns : Int) := by omega
      simp only at d0 d1
      have hbl : b < w.heap.size := cell_lt (hcs j hlt).1
      have GC : Hid (∀ v : World, Below w.heap.size w v → v.cell? ⟨b, off + j * 2, none⟩ = some (.string (snm j)) ∧ v.cell? ⟨b, off + j * 2 + 1, none⟩ = some (.slice (ra j) (sn j) (rc j))) := fun v hv => ⟨cell_on HC.out.1 hv, cell_on HC.out.2 hv⟩
      have KS : Hid (∀ v : World, Below w.heap.size w v → KeptB 59 wr v → v.cell? ⟨w.heap.size, 0, none⟩ = some (.slice (some ⟨b, off, none⟩) ns sc) ∧ v.cell? ⟨b, off + j * 2, none⟩ = some (.string (snm j)) ∧ v.cell? ⟨b, off + j * 2 + 1, none⟩ = some (.slice (ra j) (sn j) (rc j))) := fun v hv hk => ⟨(cells3 (hk _ _ _ _ Q5.out.a (by decide))).1, GC.out v hv⟩
      have KT : Hid (∀ (v : World) (u : Value), Below w.heap.size w v → KeptB 59 wr v → (v.setCell ⟨ob, 0, none⟩ u).cell? ⟨w.heap.size, 0, none⟩ = some (.slice (some ⟨b, off, none⟩) ns sc) ∧ (v.setCell ⟨ob, 0, none⟩ u).cell? ⟨b, off + j * 2, none⟩ = some (.string (snm j)) ∧ (v.setCell ⟨ob, 0, none⟩ u).cell? ⟨b, off + j * 2 + 1, none⟩ = some (.slice (ra j) (sn j) (rc j))) := fun v u hv hk => by
        have hobw := Q5.out.ob
        rw [World.cell?_of_block (Below.heap_setCell _ _ _ _ (show w.heap.size ≠ ob by omega)), World.cell?_of_block (Below.heap_setCell _ _ _ _ (show b ≠ ob by omega)), World.cell?_of_block (Below.heap_setCell _ _ _ _ (show b ≠ ob by omega))]
        exact KS.out v hv hk
      have BW := Q5.out.b
      have hbs := Q5.out.b.size
      obtain ⟨i1, hi1, hy0, hy1, hy2⟩ := info_parts info_ru
      obtain ⟨i2, hi2, hx0, hx1, hx2⟩ := info_parts info_se
      clear hcs
      go_upto_region 5 with fail
      clear p0 p1 p2 d0 d1
      have hS0 : Hid (∀ v : World, Below w.heap.size w v → KeptB 59 wr v → v.cell? ⟨ob, 0, none⟩ = some (.slice va j vc) ∧ v.cell? ⟨w.heap.size, 0, none⟩ = some (.slice (some ⟨b, off, none⟩) ns sc) ∧ v.cell? ⟨b, off + j * 2, none⟩ = some (.string (snm j)) ∧ v.cell? ⟨b, off + j * 2 + 1, none⟩ = some (.slice (ra j) (sn j) (rc j))) := fun v hv hk => ⟨(cells3 (hk _ _ _ _ Q5.out.o (by decide))).1, KS.out v hv hk⟩
      clear o0 o1 o2
      refine region_last (S := fun v => v.cell? ⟨ob, 0, none⟩ = some (.slice va j vc) ∧ v.cell? ⟨w.heap.size, 0, none⟩ = some (.slice (some ⟨b, off, none⟩) ns sc) ∧ v.cell? ⟨b, off + j * 2, none⟩ = some (.string (snm j)) ∧ v.cell? ⟨b, off + j * 2 + 1, none⟩ = some (.slice (ra j) (sn j) (rc j))) (by kernel_rfl) (by kernel_rfl) (hS0.out wr.drew BW.drew (keptB_on (Below.refl _ wr).drew)) (fun hHeld => ?_)
      refine wpAnyH_take (i := 0) (v := ?vs0) rfl (by kernel_rfl) (by kernel_rfl) (by kernel_rfl) (fun _ _ _ h => h) (Or.inl ⟨by rfl, ?ys0⟩) hHeld ?rs0
      case ys0 => intro w hSw; (try dsimp only at hSw); go_simp; (try with_reducible rfl)
      try simp only [Act.put, List.setIfInBounds_toArray, List.set_cons_zero, List.set_cons_succ]
      refine wpAnyH_take (i := 1) (v := ?vs1) rfl (by kernel_rfl) (by kernel_rfl) (by kernel_rfl) (fun _ _ _ h => h) (Or.inl ⟨by rfl, ?ys1⟩) hHeld ?rs1
      case ys1 => intro w hSw; (try dsimp only at hSw); go_simp; (try with_reducible rfl)
      try simp only [Act.put, List.setIfInBounds_toArray, List.set_cons_zero, List.set_cons_succ]
      refine wpAnyH_take (i := 2) (v := ?vs2) rfl (by kernel_rfl) (by kernel_rfl) (by kernel_rfl) (fun _ _ _ h => h) (Or.inl ⟨by rfl, ?ys2⟩) hHeld ?rs2
      case ys2 => intro w hSw; (try dsimp only at hSw); go_simp; (try with_reducible rfl)
      try simp only [Act.put, List.setIfInBounds_toArray, List.set_cons_zero, List.set_cons_succ]
      refine wpAnyH_take (i := 3) (v := ?vs3) rfl (by kernel_rfl) (by kernel_rfl) (by kernel_rfl) (fun _ _ _ h => h) (Or.inl ⟨by rfl, ?ys3⟩) hHeld ?rs3
      case ys3 => intro w hSw; (try dsimp only at hSw); go_simp; (try with_reducible rfl)
      try simp only [Act.put, List.setIfInBounds_toArray, List.set_cons_zero, List.set_cons_succ]
      refine wpAnyH_take (i := 4) (v := ?vs4) rfl (by kernel_rfl) (by kernel_rfl) (by kernel_rfl) (fun _ _ _ h => h) (Or.inl ⟨by rfl, ?ys4⟩) hHeld ?rs4
      case ys4 => intro w hSw; (try dsimp only at hSw); go_simp; (try with_reducible rfl)
      try simp only [Act.put, List.setIfInBounds_toArray, List.set_cons_zero, List.set_cons_succ]
      refine wpAnyH_take (i := 5) (v := ?vs5) rfl (by kernel_rfl) (by kernel_rfl) (by kernel_rfl) (fun _ _ _ h => h) (Or.inl ⟨by rfl, ?ys5⟩) hHeld ?rs5
      case ys5 => intro w hSw; (try dsimp only at hSw); go_simp; (try with_reducible rfl)
      try simp only [Act.put, List.setIfInBounds_toArray, List.set_cons_zero, List.set_cons_succ]
      refine wpAnyH_take (i := 6) (v := ?vs6) rfl (by kernel_rfl) (by kernel_rfl) (by kernel_rfl) (fun _ _ _ h => h) (Or.inl ⟨by rfl, ?ys6⟩) hHeld ?rs6
      case ys6 => intro w hSw; (try dsimp only at hSw); go_simp; (try with_reducible rfl)
      try simp only [Act.put, List.setIfInBounds_toArray, List.set_cons_zero, List.set_cons_succ]
      refine wpAnyH_take (i := 7) (v := ?vs7) rfl (by kernel_rfl) (by kernel_rfl) (by kernel_rfl) (fun _ _ _ h => h) (Or.inl ⟨by rfl, ?ys7⟩) hHeld ?rs7
      case ys7 => intro w hSw; (try dsimp only at hSw); go_simp; (try with_reducible rfl)
      try simp only [Act.put, List.setIfInBounds_toArray, List.set_cons_zero, List.set_cons_succ]
      refine wpAnyH_take (i := 9) (v := ?vs9) rfl (by kernel_rfl) (by kernel_rfl) (by kernel_rfl) (fun _ _ _ h => h) (Or.inl ⟨by rfl, ?ys9⟩) hHeld ?rs9
      case ys9 => intro w hSw; (try dsimp only at hSw); go_simp; (try with_reducible rfl)
      try simp only [Act.put, List.setIfInBounds_toArray, List.set_cons_zero, List.set_cons_succ]
      refine wpAnyH_take (i := 10) (v := ?vs10) rfl (by kernel_rfl) (by kernel_rfl) (by kernel_rfl) (fun _ _ _ h => h) (Or.inl ⟨by rfl, ?ys10⟩) hHeld ?rs10
      case ys10 => intro w hSw; (try dsimp only at hSw); go_simp; (try with_reducible rfl)
      try simp only [Act.put, List.setIfInBounds_toArray, List.set_cons_zero, List.set_cons_succ]
      refine wpAnyH_take (i := 11) (v := ?vs11) rfl (by kernel_rfl) (by kernel_rfl) (by kernel_rfl) (fun _ _ _ h => h) (Or.inl ⟨by rfl, ?ys11⟩) hHeld ?rs11
      case ys11 => intro w hSw; (try dsimp only at hSw); go_simp; (try with_reducible rfl)
      try simp only [Act.put, List.setIfInBounds_toArray, List.set_cons_zero, List.set_cons_succ]
      refine wpAnyH_take (i := 12) (v := ?vs12) rfl (by kernel_rfl) (by kernel_rfl) (by kernel_rfl) (fun _ _ _ h => h) (Or.inl ⟨by rfl, ?ys12⟩) hHeld ?rs12
      case ys12 => intro w hSw; (try dsimp only at hSw); go_simp; (try with_reducible rfl)
      try simp only [Act.put, List.setIfInBounds_toArray, List.set_cons_zero, List.set_cons_succ]
      refine wpAnyH_take (i := 13) (v := ?vs13) rfl (by kernel_rfl) (by kernel_rfl) (by kernel_rfl) (fun _ _ _ h => h) (Or.inl ⟨by rfl, ?ys13⟩) hHeld ?rs13
      case ys13 => intro w hSw; (try dsimp only at hSw); go_simp; (try with_reducible rfl)
      try simp only [Act.put, List.setIfInBounds_toArray, List.set_cons_zero, List.set_cons_succ]
      refine wpAnyH_take (i := 14) (v := ?vs14) rfl (by kernel_rfl) (by kernel_rfl) (by kernel_rfl) (fun _ _ _ h => h) (Or.inl ⟨by rfl, ?ys14⟩) hHeld ?rs14
      case ys14 => intro w hSw; (try dsimp only at hSw); go_simp; (try with_reducible rfl)
      try simp only [Act.put, List.setIfInBounds_toArray, List.set_cons_zero, List.set_cons_succ]
      refine wpAnyH_ready (rs := [8]) (by kernel_rfl) (by simp) ?_
      refine AllReadyH.cons (i := 8) rfl (fun K hK => ?_) AllReadyH.nil
      go_simp
      refine hK.out _ _ ?ss8 (fun hHeld => ?_)
      case ss8 => exact hS0.out _ (BW.alloc hbs _).drew (keptB_on ((Below.refl _ wr).alloc (Nat.le_refl _) _).drew)
      clear hK K
      try simp only [Act.put, List.setIfInBounds_toArray, List.set_cons_zero, List.set_cons_succ]
      refine wpAnyH_ready (rs := [15]) (by kernel_rfl) (by simp) ?_
      refine AllReadyH.cons (i := 15) rfl (fun K hK => ?_) AllReadyH.nil
      refine dup1 wr _ rfl _ _ 57 rfl w.heap.size 74 i1 _ 9 80 Tryz.underlying57 hi1 hy0 hy1 hy2 rfl (by decide) _ rfl (ra j) (sn j) (rc j) (rowC (ruC (rs j)) (sn j)) rfl (rowC_len (ruC_len _) _) HNw.out (rowC_one (ruC_one _)) (by exact ((Below.refl _ wr).alloc (Nat.le_refl _) _).drew) (by exact World.alloc_heap_new wr _) (Nat.le_refl _) hbs HM (by omega) ?_
      intro a1 c1 w1 O1 B1
      refine hK.out _ _ ?ss15 (fun hHeld => ?_)
      case ss15 => exact hS0.out _ (bthen BW B1.out) (keptB_on B1.out)
      clear hK K
      try simp only [Act.put, List.setIfInBounds_toArray, List.set_cons_zero, List.set_cons_succ]
      refine wpAnyH_take (i := 16) (v := ?vs16) rfl (by kernel_rfl) (by kernel_rfl) (by kernel_rfl) (fun _ _ _ h => h) (Or.inl ⟨by rfl, ?ys16⟩) hHeld ?rs16
      case ys16 => intro w hSw; (try dsimp only at hSw); go_simp; (try with_reducible rfl)
      try simp only [Act.put, List.setIfInBounds_toArray, List.set_cons_zero, List.set_cons_succ]
      refine wpAnyH_ready (rs := [17]) (by kernel_rfl) (by simp) ?_
      refine AllReadyH.cons (i := 17) rfl (fun K hK => ?_) AllReadyH.nil
      go_simp
      refine hK.out _ _ ?ss17 (fun hHeld => ?_)
      case ss17 => exact hS0.out _ (bthen BW (B1.out.alloc B1.out.size _)) (keptB_on (B1.out.alloc B1.out.size _))
      clear hK K
      try simp only [Act.put, List.setIfInBounds_toArray, List.set_cons_zero, List.set_cons_succ]
      refine wpAnyH_ready (rs := [18]) (by kernel_rfl) (by simp) ?_
      refine AllReadyH.cons (i := 18) rfl (fun K hK => ?_) AllReadyH.nil
      refine dup2 _ rfl _ _ 22 rfl w.heap.size 59 i2 _ Tryz.underlying22 hi2 hx0 hx1 hx2 rfl _ j _ rfl (own_on O5.out (B1.out.alloc B1.out.size _)) _ (.string (snm j)) (.slice a1 (sn j) c1) rfl (World.alloc_heap_new w1 _) rfl rfl (by omega) (by have := B1.out.size; simp; omega) ?_
      intro a2 c2 w2 O2 K2a B2
      have K2 : Hid (KeptB 59 wr w2) := (keptB_on (B1.out.alloc B1.out.size _)).trans K2a.out
      have W2 : Hid (Below w.heap.size w w2) := (bthen BW (B1.out.alloc B1.out.size _)).trans B2.out
      have I2 := hideH (keptB_own K2a.out (own_on O1.out ((Below.refl _ w1).alloc (Nat.le_refl _) (.cells #[.string (snm j), .slice a1 (sn j) c1] 59))) (by decide))
      refine hK.out _ _ ?ss18 (fun hHeld => ?_)
      case ss18 => exact hS0.out _ W2.out K2.out
      clear hK K
      try simp only [Act.put, List.setIfInBounds_toArray, List.set_cons_zero, List.set_cons_succ]
      refine wpAnyH_take (i := 19) (v := ?vs19) rfl (by kernel_rfl) (by kernel_rfl) (by kernel_rfl) (fun _ _ _ h => h) (Or.inl ⟨by rfl, ?ys19⟩) hHeld ?rs19
      case ys19 => intro w hSw; (try dsimp only at hSw); go_simp; (try with_reducible rfl)
      try simp only [Act.put, List.setIfInBounds_toArray, List.set_cons_zero, List.set_cons_succ]
      refine wpAnyH_done (by kernel_rfl) ?_ _
      have ow2 := (cells3 (K2.out _ _ _ _ Q5.out.o (by decide))).1
      have of2 : w2.frozen? ⟨ob, 0, none⟩ = false := by simp [World.frozen?, K2.out _ _ _ _ Q5.out.o (by decide)]
      refine qlast_n ?_
      refine wpOp_step rfl (fun K hK => ?_)
      go_simp
      refine hK _ _ ?_
      clear hK K
      all_goals
        have QO := K2.out _ _ _ _ Q5.out.o (by decide)
        have QR := K2.out _ _ _ _ Q5.out.r (by decide)
        have QA := K2.out _ _ _ _ Q5.out.a (by decide)
        have hobw := Q5.out.ob
        have KD := keptB_box QO 0 (.slice a2 (j + 1) c2)
        have HQ : Hid (oW w (w2.setCell ⟨ob, 0, none⟩ (.slice a2 (j + 1) c2)) #[.slice (some ⟨b, off, none⟩) ns sc, .slice za nz zc, .slice la nl lc] ob (.slice a2 (j + 1) c2) (.slice none 0 0) (.slice a3 nl c3)) := ⟨W2.out.setCell (p := ⟨ob, 0, none⟩) (by show w.heap.size ≤ ob; omega) _, (Below.heap_setCell _ _ _ _ (show w.heap.size ≠ ob by omega)).trans QA, (Below.heap_setCell _ _ _ _ (show w.heap.size + 1 ≠ ob by omega)).trans QR, by simpa using setCell_at (o := 0) QO (.slice a2 (j + 1) c2), hobw⟩
        have HO : Hid ((w2.setCell ⟨ob, 0, none⟩ (.slice a2 (j + 1) c2)).ownsRow w.heap.size 59 2 (.slice a2 (j + 1) c2) (j + 1) (rowC (seC snm (fun i => if i = j then .slice a1 (sn j) c1 else vs i)) (j + 1))) := by
          show World.ownsRow _ _ _ _ _ _ _
          rw [rowC_succ, rowC_congr (g := seC snm vs) (fun i hi => by simp only [seC]; rw [if_neg (by omega)])]
          have := keptB_own KD O2.out (by decide)
          show World.ownsRow _ _ _ _ _ _ (rowC (seC snm vs) j ++ [.string (snm j), if j = j then .slice a1 (sn j) c1 else vs j])
          rw [if_pos rfl]
          exact this
        have HI : Hid (∀ i, i < j + 1 → (w2.setCell ⟨ob, 0, none⟩ (.slice a2 (j + 1) c2)).ownsRow w.heap.size 74 9 ((fun i => if i = j then .slice a1 (sn j) c1 else vs i) i) (sn i) (rowC (ruC (rs i)) (sn i))) := fun i hi => by
          refine keptB_own KD ?_ (by decide)
          simp only
          by_cases e : i = j
          · subst e
            rw [if_pos rfl]
            exact I2.out
          · rw [if_neg e]
            exact keptB_own K2.out (I5.out i (by omega)) (by decide)
        have KK : Hid (∀ (e : TypeId) (S n : Nat) (v : Value) (xs : List Value), e ≠ 59 → e ≠ 26 → wr.ownsRow w.heap.size e S v n xs → (w2.setCell ⟨ob, 0, none⟩ (.slice a2 (j + 1) c2)).ownsRow w.heap.size e S v n xs) := fun e S n v xs h1 h2 h => keptB_own KD (keptB_own K2.out h h1) h2
        clear QO QR QA KD
        go_wp2_with fail
        go_roundw
        case rel => exact ⟨j + 1, a2, c2, _, by omega, by go_num, HQ, KK.out _ _ _ _ _ (by decide) (by decide) L5.out, HO, HI⟩
        case measure => simp [intOf]; omega
    · obtain rfl : ns = j := by omega
      have hki : ¬ ((ns : Int) < (ns : Int)) := by omega
      go_wp2_with fail
      clear p0 p1 p2
      obtain ⟨sv, hsv⟩ : ∃ x, x = va := ⟨_, rfl⟩
      obtain ⟨svc, hsvc⟩ : ∃ x, x = vc := ⟨_, rfl⟩
      obtain ⟨ys, hys⟩ : ∃ x, x = vs := ⟨_, rfl⟩
      rw [← hsv, ← hsvc] at Q5 O5
      rw [← hys] at O5 I5
      have Q6 := Q5
      have L6 := L5
      have S6 := O5
      have Y6 := I5
      clear Q5 L5 O5 I5 hsv hsvc hys
      go_loopw [5] (fun x5 W => ∃ (j : Nat) (va : Option Addr) (vc : Nat) (vs : Nat → Value), j ≤ nz ∧ x5 = .int .i64 j ∧ Hid (oW w W #[.slice sa ns sc, .slice za nz zc, .slice la nl lc] ob (.slice sv ns svc) (.slice va j vc) (.slice a3 nl c3)) ∧ Hid (W.ownsRow w.heap.size 78 2 (.slice a3 nl c3) nl (rowC (liC l1 l2) nl)) ∧ Hid (W.ownsRow w.heap.size 59 2 (.slice sv ns svc) ns (rowC (seC snm ys) ns)) ∧ Hid (∀ i, i < ns → W.ownsRow w.heap.size 74 9 (ys i) (sn i) (rowC (ruC (rs i)) (sn i))) ∧ Hid (W.ownsRow w.heap.size 62 2 (.slice va j vc) j (rowC (seC znm vs) j)) ∧ Hid (∀ i, i < j → W.ownsRow w.heap.size 76 5 (vs i) (zn i) (rowC (erC (es i)) (zn i)))) (fun x5 _ => nz - (intOf x5).toNat)
      case atStart => exact ⟨0, none, 0, fun _ => .slice none 0 0, Nat.zero_le _, rfl, Q6, L6, S6, Y6, World.ownsRow_nil _ _ _ _, fun i hi => by omega⟩
      case round =>
        obtain ⟨j, va, vc, vs, hj, rfl, Q5, L5, S5, Y5, O5, I5⟩ := hrel
        clear Q6 L6 S6 Y6
        rename World => wr
        obtain ⟨p0, p1, p2⟩ := cells3 Q5.out.a
        by_cases hlt : j < nz
        · rcases HZ1.out with h0 | ⟨b, off, hsa, hcs⟩
          · omega
          subst hsa
          have d0 := cell_on (hcs j hlt).1 Q5.out.b
          have d1 := cell_on (hcs j hlt).2 Q5.out.b
          have HC := hideH (hcs j hlt)
          have HM := M2.out j hlt
          have HNw := hideH (er_news ((HE1.out j hlt).on Q5.out.b))
          obtain ⟨o0, o1, o2⟩ := cells3 Q5.out.o
          have hobl := (Array.getElem?_eq_some_iff.1 Q5.out.o).1
          have hk0 : decide ((j : Int) < 0) = false := by simp
          have hkn : decide (nz ≤ j) = false := by simp; omega
          have hki : (j : Int) < (nz : Int) := by omega
          simp only at d0 d1
          have hbl : b < w.heap.size := cell_lt (hcs j hlt).1
          have GC : Hid (∀ v : World, Below w.heap.size w v → v.cell? ⟨b, off + j * 2, none⟩ = some (.string (znm j)) ∧ v.cell? ⟨b, off + j * 2 + 1, none⟩ = some (.slice (ea j) (zn j) (ec j))) := fun v hv => ⟨cell_on HC.out.1 hv, cell_on HC.out.2 hv⟩
          have KS : Hid (∀ v : World, Below w.heap.size w v → KeptB 62 wr v → v.cell? ⟨w.heap.size, 1, none⟩ = some (.slice (some ⟨b, off, none⟩) nz zc) ∧ v.cell? ⟨b, off + j * 2, none⟩ = some (.string (znm j)) ∧ v.cell? ⟨b, off + j * 2 + 1, none⟩ = some (.slice (ea j) (zn j) (ec j))) := fun v hv hk => ⟨(cells3 (hk _ _ _ _ Q5.out.a (by decide))).2.1, GC.out v hv⟩
          have KT : Hid (∀ (v : World) (u : Value), Below w.heap.size w v → KeptB 62 wr v → (v.setCell ⟨ob, 1, none⟩ u).cell? ⟨w.heap.size, 1, none⟩ = some (.slice (some ⟨b, off, none⟩) nz zc) ∧ (v.setCell ⟨ob, 1, none⟩ u).cell? ⟨b, off + j * 2, none⟩ = some (.string (znm j)) ∧ (v.setCell ⟨ob, 1, none⟩ u).cell? ⟨b, off + j * 2 + 1, none⟩ = some (.slice (ea j) (zn j) (ec j))) := fun v u hv hk => by
            have hobw := Q5.out.ob
            rw [World.cell?_of_block (Below.heap_setCell _ _ _ _ (show w.heap.size ≠ ob by omega)), World.cell?_of_block (Below.heap_setCell _ _ _ _ (show b ≠ ob by omega)), World.cell?_of_block (Below.heap_setCell _ _ _ _ (show b ≠ ob by omega))]
            exact KS.out v hv hk
          have BW := Q5.out.b
          have hbs := Q5.out.b.size
          obtain ⟨i1, hi1, hy0, hy1, hy2⟩ := info_parts info_er
          obtain ⟨i2, hi2, hx0, hx1, hx2⟩ := info_parts info_zo
          clear hcs
          go_upto_region 9 with fail
          clear p0 p1 p2 d0 d1
          have hS0 : Hid (∀ v : World, Below w.heap.size w v → KeptB 62 wr v → v.cell? ⟨ob, 1, none⟩ = some (.slice va j vc) ∧ v.cell? ⟨w.heap.size, 1, none⟩ = some (.slice (some ⟨b, off, none⟩) nz zc) ∧ v.cell? ⟨b, off + j * 2, none⟩ = some (.string (znm j)) ∧ v.cell? ⟨b, off + j * 2 + 1, none⟩ = some (.slice (ea j) (zn j) (ec j))) := fun v hv hk => ⟨(cells3 (hk _ _ _ _ Q5.out.o (by decide))).2.1, KS.out v hv hk⟩
          clear o0 o1 o2
          refine region_last (S := fun v => v.cell? ⟨ob, 1, none⟩ = some (.slice va j vc) ∧ v.cell? ⟨w.heap.size, 1, none⟩ = some (.slice (some ⟨b, off, none⟩) nz zc) ∧ v.cell? ⟨b, off + j * 2, none⟩ = some (.string (znm j)) ∧ v.cell? ⟨b, off + j * 2 + 1, none⟩ = some (.slice (ea j) (zn j) (ec j))) (by kernel_rfl) (by kernel_rfl) (hS0.out wr.drew BW.drew (keptB_on (Below.refl _ wr).drew)) (fun hHeld => ?_)
          refine wpAnyH_take (i := 0) (v := ?vz0) rfl (by kernel_rfl) (by kernel_rfl) (by kernel_rfl) (fun _ _ _ h => h) (Or.inl ⟨by rfl, ?yz0⟩) hHeld ?rz0
          case yz0 => intro w hSw; (try dsimp only at hSw); go_simp; (try with_reducible rfl)
          try simp only [Act.put, List.setIfInBounds_toArray, List.set_cons_zero, List.set_cons_succ]
          refine wpAnyH_take (i := 1) (v := ?vz1) rfl (by kernel_rfl) (by kernel_rfl) (by kernel_rfl) (fun _ _ _ h => h) (Or.inl ⟨by rfl, ?yz1⟩) hHeld ?rz1
          case yz1 => intro w hSw; (try dsimp only at hSw); go_simp; (try with_reducible rfl)
          try simp only [Act.put, List.setIfInBounds_toArray, List.set_cons_zero, List.set_cons_succ]
          refine wpAnyH_take (i := 2) (v := ?vz2) rfl (by kernel_rfl) (by kernel_rfl) (by kernel_rfl) (fun _ _ _ h => h) (Or.inl ⟨by rfl, ?yz2⟩) hHeld ?rz2
          case yz2 => intro w hSw; (try dsimp only at hSw); go_simp; (try with_reducible rfl)
          try simp only [Act.put, List.setIfInBounds_toArray, List.set_cons_zero, List.set_cons_succ]
          refine wpAnyH_take (i := 3) (v := ?vz3) rfl (by kernel_rfl) (by kernel_rfl) (by kernel_rfl) (fun _ _ _ h => h) (Or.inl ⟨by rfl, ?yz3⟩) hHeld ?rz3
          case yz3 => intro w hSw; (try dsimp only at hSw); go_simp; (try with_reducible rfl)
          try simp only [Act.put, List.setIfInBounds_toArray, List.set_cons_zero, List.set_cons_succ]
          refine wpAnyH_take (i := 4) (v := ?vz4) rfl (by kernel_rfl) (by kernel_rfl) (by kernel_rfl) (fun _ _ _ h => h) (Or.inl ⟨by rfl, ?yz4⟩) hHeld ?rz4
          case yz4 => intro w hSw; (try dsimp only at hSw); go_simp; (try with_reducible rfl)
          try simp only [Act.put, List.setIfInBounds_toArray, List.set_cons_zero, List.set_cons_succ]
          refine wpAnyH_take (i := 5) (v := ?vz5) rfl (by kernel_rfl) (by kernel_rfl) (by kernel_rfl) (fun _ _ _ h => h) (Or.inl ⟨by rfl, ?yz5⟩) hHeld ?rz5
          case yz5 => intro w hSw; (try dsimp only at hSw); go_simp; (try with_reducible rfl)
          try simp only [Act.put, List.setIfInBounds_toArray, List.set_cons_zero, List.set_cons_succ]
          refine wpAnyH_take (i := 6) (v := ?vz6) rfl (by kernel_rfl) (by kernel_rfl) (by kernel_rfl) (fun _ _ _ h => h) (Or.inl ⟨by rfl, ?yz6⟩) hHeld ?rz6
          case yz6 => intro w hSw; (try dsimp only at hSw); go_simp; (try with_reducible rfl)
          try simp only [Act.put, List.setIfInBounds_toArray, List.set_cons_zero, List.set_cons_succ]
          refine wpAnyH_take (i := 7) (v := ?vz7) rfl (by kernel_rfl) (by kernel_rfl) (by kernel_rfl) (fun _ _ _ h => h) (Or.inl ⟨by rfl, ?yz7⟩) hHeld ?rz7
          case yz7 => intro w hSw; (try dsimp only at hSw); go_simp; (try with_reducible rfl)
          try simp only [Act.put, List.setIfInBounds_toArray, List.set_cons_zero, List.set_cons_succ]
          refine wpAnyH_take (i := 9) (v := ?vz9) rfl (by kernel_rfl) (by kernel_rfl) (by kernel_rfl) (fun _ _ _ h => h) (Or.inl ⟨by rfl, ?yz9⟩) hHeld ?rz9
          case yz9 => intro w hSw; (try dsimp only at hSw); go_simp; (try with_reducible rfl)
          try simp only [Act.put, List.setIfInBounds_toArray, List.set_cons_zero, List.set_cons_succ]
          refine wpAnyH_take (i := 10) (v := ?vz10) rfl (by kernel_rfl) (by kernel_rfl) (by kernel_rfl) (fun _ _ _ h => h) (Or.inl ⟨by rfl, ?yz10⟩) hHeld ?rz10
          case yz10 => intro w hSw; (try dsimp only at hSw); go_simp; (try with_reducible rfl)
          try simp only [Act.put, List.setIfInBounds_toArray, List.set_cons_zero, List.set_cons_succ]
          refine wpAnyH_take (i := 11) (v := ?vz11) rfl (by kernel_rfl) (by kernel_rfl) (by kernel_rfl) (fun _ _ _ h => h) (Or.inl ⟨by rfl, ?yz11⟩) hHeld ?rz11
          case yz11 => intro w hSw; (try dsimp only at hSw); go_simp; (try with_reducible rfl)
          try simp only [Act.put, List.setIfInBounds_toArray, List.set_cons_zero, List.set_cons_succ]
          refine wpAnyH_take (i := 12) (v := ?vz12) rfl (by kernel_rfl) (by kernel_rfl) (by kernel_rfl) (fun _ _ _ h => h) (Or.inl ⟨by rfl, ?yz12⟩) hHeld ?rz12
          case yz12 => intro w hSw; (try dsimp only at hSw); go_simp; (try with_reducible rfl)
          try simp only [Act.put, List.setIfInBounds_toArray, List.set_cons_zero, List.set_cons_succ]
          refine wpAnyH_take (i := 13) (v := ?vz13) rfl (by kernel_rfl) (by kernel_rfl) (by kernel_rfl) (fun _ _ _ h => h) (Or.inl ⟨by rfl, ?yz13⟩) hHeld ?rz13
          case yz13 => intro w hSw; (try dsimp only at hSw); go_simp; (try with_reducible rfl)
          try simp only [Act.put, List.setIfInBounds_toArray, List.set_cons_zero, List.set_cons_succ]
          refine wpAnyH_take (i := 14) (v := ?vz14) rfl (by kernel_rfl) (by kernel_rfl) (by kernel_rfl) (fun _ _ _ h => h) (Or.inl ⟨by rfl, ?yz14⟩) hHeld ?rz14
          case yz14 => intro w hSw; (try dsimp only at hSw); go_simp; (try with_reducible rfl)
          try simp only [Act.put, List.setIfInBounds_toArray, List.set_cons_zero, List.set_cons_succ]
          refine wpAnyH_ready (rs := [8]) (by kernel_rfl) (by simp) ?_
          refine AllReadyH.cons (i := 8) rfl (fun K hK => ?_) AllReadyH.nil
          go_simp
          refine hK.out _ _ ?sz8 (fun hHeld => ?_)
          case sz8 => exact hS0.out _ (BW.alloc hbs _).drew (keptB_on ((Below.refl _ wr).alloc (Nat.le_refl _) _).drew)
          clear hK K
          try simp only [Act.put, List.setIfInBounds_toArray, List.set_cons_zero, List.set_cons_succ]
          refine wpAnyH_ready (rs := [15]) (by kernel_rfl) (by simp) ?_
          refine AllReadyH.cons (i := 15) rfl (fun K hK => ?_) AllReadyH.nil
          refine dup1 wr _ rfl _ _ 60 rfl w.heap.size 76 i1 _ 5 48 Tryz.underlying60 hi1 hy0 hy1 hy2 rfl (by decide) _ rfl (ea j) (zn j) (ec j) (rowC (erC (es j)) (zn j)) rfl (rowC_len (erC_len _) _) HNw.out (rowC_one (erC_one _)) (by exact ((Below.refl _ wr).alloc (Nat.le_refl _) _).drew) (by exact World.alloc_heap_new wr _) (Nat.le_refl _) hbs HM (by omega) ?_
          intro a1 c1 w1 O1 B1
          refine hK.out _ _ ?sz15 (fun hHeld => ?_)
          case sz15 => exact hS0.out _ (bthen BW B1.out) (keptB_on B1.out)
          clear hK K
          try simp only [Act.put, List.setIfInBounds_toArray, List.set_cons_zero, List.set_cons_succ]
          refine wpAnyH_take (i := 16) (v := ?vz16) rfl (by kernel_rfl) (by kernel_rfl) (by kernel_rfl) (fun _ _ _ h => h) (Or.inl ⟨by rfl, ?yz16⟩) hHeld ?rz16
          case yz16 => intro w hSw; (try dsimp only at hSw); go_simp; (try with_reducible rfl)
          try simp only [Act.put, List.setIfInBounds_toArray, List.set_cons_zero, List.set_cons_succ]
          refine wpAnyH_ready (rs := [17]) (by kernel_rfl) (by simp) ?_
          refine AllReadyH.cons (i := 17) rfl (fun K hK => ?_) AllReadyH.nil
          go_simp
          refine hK.out _ _ ?sz17 (fun hHeld => ?_)
          case sz17 => exact hS0.out _ (bthen BW (B1.out.alloc B1.out.size _)) (keptB_on (B1.out.alloc B1.out.size _))
          clear hK K
          try simp only [Act.put, List.setIfInBounds_toArray, List.set_cons_zero, List.set_cons_succ]
          refine wpAnyH_ready (rs := [18]) (by kernel_rfl) (by simp) ?_
          refine AllReadyH.cons (i := 18) rfl (fun K hK => ?_) AllReadyH.nil
          refine dup2 _ rfl _ _ 23 rfl w.heap.size 62 i2 _ Tryz.underlying23 hi2 hx0 hx1 hx2 rfl _ j _ rfl (own_on O5.out (B1.out.alloc B1.out.size _)) _ (.string (znm j)) (.slice a1 (zn j) c1) rfl (World.alloc_heap_new w1 _) rfl rfl (by omega) (by have := B1.out.size; simp; omega) ?_
          intro a2 c2 w2 O2 K2a B2
          have K2 : Hid (KeptB 62 wr w2) := (keptB_on (B1.out.alloc B1.out.size _)).trans K2a.out
          have W2 : Hid (Below w.heap.size w w2) := (bthen BW (B1.out.alloc B1.out.size _)).trans B2.out
          have I2 := hideH (keptB_own K2a.out (own_on O1.out ((Below.refl _ w1).alloc (Nat.le_refl _) (.cells #[.string (znm j), .slice a1 (zn j) c1] 62))) (by decide))
          refine hK.out _ _ ?sz18 (fun hHeld => ?_)
          case sz18 => exact hS0.out _ W2.out K2.out
          clear hK K
          try simp only [Act.put, List.setIfInBounds_toArray, List.set_cons_zero, List.set_cons_succ]
          refine wpAnyH_take (i := 19) (v := ?vz19) rfl (by kernel_rfl) (by kernel_rfl) (by kernel_rfl) (fun _ _ _ h => h) (Or.inl ⟨by rfl, ?yz19⟩) hHeld ?rz19
          case yz19 => intro w hSw; (try dsimp only at hSw); go_simp; (try with_reducible rfl)
          try simp only [Act.put, List.setIfInBounds_toArray, List.set_cons_zero, List.set_cons_succ]
          refine wpAnyH_done (by kernel_rfl) ?_ _
          have ow2 := (cells3 (K2.out _ _ _ _ Q5.out.o (by decide))).2.1
          have of2 : w2.frozen? ⟨ob, 1, none⟩ = false := by simp [World.frozen?, K2.out _ _ _ _ Q5.out.o (by decide)]
          refine qlast_n ?_
          refine wpOp_step rfl (fun K hK => ?_)
          go_simp
          refine hK _ _ ?_
          clear hK K
          all_goals
            have QO := K2.out _ _ _ _ Q5.out.o (by decide)
            have QR := K2.out _ _ _ _ Q5.out.r (by decide)
            have QA := K2.out _ _ _ _ Q5.out.a (by decide)
            have hobw := Q5.out.ob
            have KD := keptB_box QO 1 (.slice a2 (j + 1) c2)
            have HQ : Hid (oW w (w2.setCell ⟨ob, 1, none⟩ (.slice a2 (j + 1) c2)) #[.slice sa ns sc, .slice (some ⟨b, off, none⟩) nz zc, .slice la nl lc] ob (.slice sv ns svc) (.slice a2 (j + 1) c2) (.slice a3 nl c3)) := ⟨W2.out.setCell (p := ⟨ob, 1, none⟩) (by show w.heap.size ≤ ob; omega) _, (Below.heap_setCell _ _ _ _ (show w.heap.size ≠ ob by omega)).trans QA, (Below.heap_setCell _ _ _ _ (show w.heap.size + 1 ≠ ob by omega)).trans QR, by simpa using setCell_at (o := 1) QO (.slice a2 (j + 1) c2), hobw⟩
            have HO : Hid ((w2.setCell ⟨ob, 1, none⟩ (.slice a2 (j + 1) c2)).ownsRow w.heap.size 62 2 (.slice a2 (j + 1) c2) (j + 1) (rowC (seC znm (fun i => if i = j then .slice a1 (zn j) c1 else vs i)) (j + 1))) := by
              show World.ownsRow _ _ _ _ _ _ _
              rw [rowC_succ, rowC_congr (g := seC znm vs) (fun i hi => by simp only [seC]; rw [if_neg (by omega)])]
              have := keptB_own KD O2.out (by decide)
              show World.ownsRow _ _ _ _ _ _ (rowC (seC znm vs) j ++ [.string (znm j), if j = j then .slice a1 (zn j) c1 else vs j])
              rw [if_pos rfl]
              exact this
            have HI : Hid (∀ i, i < j + 1 → (w2.setCell ⟨ob, 1, none⟩ (.slice a2 (j + 1) c2)).ownsRow w.heap.size 76 5 ((fun i => if i = j then .slice a1 (zn j) c1 else vs i) i) (zn i) (rowC (erC (es i)) (zn i))) := fun i hi => by
              refine keptB_own KD ?_ (by decide)
              simp only
              by_cases e : i = j
              · subst e
                rw [if_pos rfl]
                exact I2.out
              · rw [if_neg e]
                exact keptB_own K2.out (I5.out i (by omega)) (by decide)
            have KK : Hid (∀ (e : TypeId) (S n : Nat) (v : Value) (xs : List Value), e ≠ 62 → e ≠ 26 → wr.ownsRow w.heap.size e S v n xs → (w2.setCell ⟨ob, 1, none⟩ (.slice a2 (j + 1) c2)).ownsRow w.heap.size e S v n xs) := fun e S n v xs h1 h2 h => keptB_own KD (keptB_own K2.out h h1) h2
            clear QO QR QA KD
            go_wp2_with fail
            go_roundw
            case rel => exact ⟨j + 1, a2, c2, _, by omega, by go_num, HQ, KK.out _ _ _ _ _ (by decide) (by decide) L5.out, KK.out _ _ _ _ _ (by decide) (by decide) S5.out, (fun i hi => KK.out _ _ _ _ _ (by decide) (by decide) (Y5.out i hi)), HO, HI⟩
            case measure => simp [intOf]; omega
        · obtain rfl : nz = j := by omega
          have hki : ¬ ((nz : Int) < (nz : Int)) := by omega
          obtain ⟨o0, o1, o2⟩ := cells3 Q5.out.o
          obtain ⟨r0, r1, r2⟩ := cells3 Q5.out.r
          have f0 := frozen3 Q5.out.r 0
          have f1 := frozen3 Q5.out.r 1
          have f2 := frozen3 Q5.out.r 2
          go_wp2_with fail
          have QR := Q5.out.r
          have KD := (keptB_box QR 0 (.slice sv ns svc)).trans ((keptB_box (setCell_at (o := 0) QR (.slice sv ns svc)) 1 (.slice va nz vc)).trans (keptB_box (setCell_at (o := 1) (setCell_at (o := 0) QR (.slice sv ns svc)) (.slice va nz vc)) 2 (.slice a3 nl c3)))
          refine bodyPost_ret (v := .agg #[.slice sv ns svc, .slice va nz vc, .slice a3 nl c3]) ?_ rfl (show owQ _ _ _ _ _ _ _ _ _ _ _ _ _ _ from ⟨_, _, _, ys, vs, rfl, ?_, ?_⟩)
          · have q0 := setCell_at (o := 2) (setCell_at (o := 1) (setCell_at (o := 0) QR (.slice sv ns svc)) (.slice va nz vc)) (.slice a3 nl c3)
            obtain ⟨y0, y1, y2⟩ := cells3 q0
            simp [results, Tryz.results6, go_sem, y0, y1, y2]
          · exact ⟨keptB_own KD S5.out (by decide), fun i hi => keptB_own KD (Y5.out i hi) (by decide), keptB_own KD O5.out (by decide), fun i hi => keptB_own KD (I5.out i hi) (by decide), keptB_own KD L5.out (by decide)⟩
          · exact ((Q5.out.b.setCell (p := ⟨w.heap.size + 1, 0, none⟩) (by simp) _).setCell (p := ⟨w.heap.size + 1, 1, none⟩) (by simp) _).setCell (p := ⟨w.heap.size + 1, 2, none⟩) (by simp) _
theorem OwnData_c (D : Dt) (w : World) (hD : DAt w D) (hF : D.fits) (hc : chkE D = 0) :
    Calls Tryz.prog 6 #[D.v] w fun e w' => ∃ E : Dt, e = .returned E.v ∧ DAt w' E ∧ SameDt D E ∧ Below w.heap.size w w' := by
  obtain ⟨⟨h1, h2, h3⟩, _⟩ := chk_all hc
  refine (OwnData_x D.sa D.za D.la D.ns D.nz D.nl D.sc D.zc D.lc (fun j => (D.ss j).nm) (fun j => (D.ss j).n) (fun j => (D.ss j).a) (fun j => (D.ss j).c) (fun j => (D.ss j).rs) (fun j => (D.zs j).nm) (fun j => (D.zs j).n) (fun j => (D.zs j).a) (fun j => (D.zs j).c) (fun j => (D.zs j).es) (fun j => (D.ls j).nm) (fun j => (D.ls j).to) w hD.sets hD.rules hD.zones hD.eras hD.links (by omega) (by omega) (by omega) (fun j hj => by have := h2 j hj; omega) (fun j hj => by have := h3 j hj; omega)).mono ?_
  rintro e w' ⟨v1, v2, v3, vs, zs, rfl, hp, hb⟩
  obtain ⟨a1, c1, rfl, r1⟩ := se_row hp.sets
  obtain ⟨a2, c2, rfl, r2⟩ := se_row hp.zones
  obtain ⟨a3, c3, rfl, r3⟩ := li_row hp.links
  have hs : ∀ j, ∃ p : Option Addr × Nat, j < D.ns → vs j = .slice p.1 (D.ss j).n p.2 ∧ ARow w' p.1 (D.ss j).n p.2 (D.ss j).rs := fun j => by
    by_cases hj : j < D.ns
    · obtain ⟨a, c, e, h⟩ := ru_row (hp.rules j hj)
      exact ⟨(a, c), fun _ => ⟨e, h⟩⟩
    · exact ⟨(none, 0), fun h => absurd h hj⟩
  have hz : ∀ j, ∃ p : Option Addr × Nat, j < D.nz → zs j = .slice p.1 (D.zs j).n p.2 ∧ ERow w' p.1 (D.zs j).n (D.zs j).es := fun j => by
    by_cases hj : j < D.nz
    · obtain ⟨a, c, e, h⟩ := er_row (hp.eras j hj)
      exact ⟨(a, c), fun _ => ⟨e, h⟩⟩
    · exact ⟨(none, 0), fun h => absurd h hj⟩
  obtain ⟨f, hf⟩ := Classical.axiomOfChoice hs
  obtain ⟨g, hg⟩ := Classical.axiomOfChoice hz
  refine ⟨{ sa := a1, ns := D.ns, sc := c1, ss := fun j => ⟨(D.ss j).nm, (f j).1, (D.ss j).n, (f j).2, (D.ss j).rs⟩, za := a2, nz := D.nz, zc := c2, zs := fun j => ⟨(D.zs j).nm, (g j).1, (D.zs j).n, (g j).2, (D.zs j).es⟩, la := a3, nl := D.nl, lc := c3, ls := D.ls }, rfl, ⟨?_, fun j hj => (hf j hj).2, ?_, fun j hj => (hg j hj).2, r3⟩, ⟨rfl, fun j hj => ⟨rfl, rfl, fun _ _ => rfl⟩, rfl, fun j hj => ⟨rfl, rfl, fun _ _ => rfl⟩, rfl, fun j hj => rfl⟩, hb⟩
  · exact r1.congr rfl fun j hj => ⟨rfl, (hf j hj).1⟩
  · exact r2.congr rfl fun j hj => ⟨rfl, (hg j hj).1⟩
end Go.Proofs.YtfjjdicgekgbeaaGreatDoor

/- What is spoilt: a row of texts, a trie; the answers of Words and Build in one form. -/
namespace Go.Proofs.YtfjjdicgekgbeaaGreatDoor.Tri
open Go Go.RowKit Go.Maps
set_option linter.unusedVariables false

/-- nodes from k on are as they were, and their edges are rows still -/
structure Sp (base : Nat) (v : Value) (N : Nat) (vs : Nat → Value) (m : Nat → Nat) (k : Nat) (W : World) : Prop where
  row : ∃ xs, W.ownsRow base 43 2 v N xs ∧ ∀ i, k ≤ i → i < N → xs[i * 2]? = some (vs i)
  es : ∀ i, k ≤ i → i < N → ∃ ys, W.ownsRow base 45 2 (vs i) (m i) ys
theorem sp_start {W : World} {base : Nat} {v : Value} {vs : Nat → Value} {t : List Nd} (h : OwT W base v vs t) : Sp base v t.length vs (fun i => (nod t i).es.length) 0 W := by
  refine ⟨⟨_, h.row, fun i _ hi => ?_⟩, fun i _ hi => ⟨_, h.es i hi⟩⟩
  rw [ncells_at _ _ (by omega)]
  unfold ncell
  rw [if_pos (by omega), show i * 2 / 2 = i by omega]
theorem own_setC {W : World} {base n S g c o : Nat} {e : TypeId} {xs : List Value} {u : Value} (h : W.ownsRow base e S (.slice (some ⟨g, 0, none⟩) n c) n xs) (ho : o < n * S) : (W.setCell ⟨g, o, none⟩ u).ownsRow base e S (.slice (some ⟨g, 0, none⟩) n c) n (xs.set o u) := by
  rcases h.2 with ⟨e1, _⟩ | ⟨g', cap, cur, e1, hb, hg, hn, hm, hs, ht⟩
  · cases e1
  · injection e1 with e2 e3 e4
    obtain rfl : g = g' := by simpa using e2
    subst e4
    refine ⟨by rw [List.length_set]; exact h.1, .inr ⟨g, c, cur.setIfInBounds o u, rfl, hb, setCell_at hg u, hn, hm, by rw [Array.size_setIfInBounds]; exact hs, ?_⟩⟩
    rw [Array.toList_setIfInBounds, List.take_set, ht]
theorem grown_setC {W : World} {g o : Nat} {u : Value} (hg : g < W.heap.size) : W.grownBy (W.setCell ⟨g, o, none⟩ u) (some g) :=
  ⟨rfl, rfl, rfl, by simp, fun k hk hne => Below.heap_setCell _ _ _ _ (fun e => hne (by rw [e]))⟩
/-- an edge is spoilt -/
theorem sp_edge {W : World} {base N g c k o : Nat} {v : Value} {vs : Nat → Value} {m : Nat → Nat} {u : Value} (h : Sp base v N vs m k W) (hk : k < N) (hv : vs k = .slice (some ⟨g, 0, none⟩) (m k) c) (ho : o < m k * 2) (hav : ∀ j, j < N → ap (vs j) v) (haa : ∀ i j, i < N → j < N → i ≠ j → ap (vs i) (vs j)) : Sp base v N vs m k (W.setCell ⟨g, o, none⟩ u) ∧ base ≤ g := by
  obtain ⟨ys, hy⟩ := h.es k (Nat.le_refl _) hk
  have hb : (vs k).ownBlock = some g := by rw [hv]; rfl
  have hgl := own_lt hy hb
  have hgr : W.grownBy (W.setCell ⟨g, o, none⟩ u) (vs k).ownBlock := by rw [hb]; exact grown_setC hgl.2
  obtain ⟨xs, h1, h2⟩ := h.row
  refine ⟨⟨⟨xs, own_far h1 hgr (ap_symm (hav k hk)), h2⟩, fun i h3 h4 => ?_⟩, hgl.1⟩
  by_cases e : i = k
  · subst e
    rw [hv] at hy ⊢
    exact ⟨_, own_setC hy ho⟩
  · obtain ⟨zs, hz⟩ := h.es i h3 h4
    exact ⟨zs, own_far hz hgr (haa i k h4 hk e)⟩
/-- a node is spoilt -/
theorem sp_node {W : World} {base N G C k : Nat} {vs : Nat → Value} {m : Nat → Nat} {u u' : Value} (h : Sp base (.slice (some ⟨G, 0, none⟩) N C) N vs m k W) (hk : k < N) (hav : ∀ j, j < N → ap (vs j) (.slice (some ⟨G, 0, none⟩) N C)) : Sp base (.slice (some ⟨G, 0, none⟩) N C) N vs m (k + 1) ((W.setCell ⟨G, k * 2, none⟩ u).setCell ⟨G, k * 2 + 1, none⟩ u') ∧ base ≤ G := by
  obtain ⟨xs, h1, h2⟩ := h.row
  have hgl := own_lt h1 (g := G) rfl
  have s1 := own_setC (u := u) h1 (show k * 2 < N * 2 by omega)
  have s2 := own_setC (u := u') s1 (show k * 2 + 1 < N * 2 by omega)
  have g1 : W.grownBy (W.setCell ⟨G, k * 2, none⟩ u) (Value.slice (some ⟨G, 0, none⟩) N C).ownBlock := grown_setC hgl.2
  have g2 : (W.setCell ⟨G, k * 2, none⟩ u).grownBy ((W.setCell ⟨G, k * 2, none⟩ u).setCell ⟨G, k * 2 + 1, none⟩ u') (Value.slice (some ⟨G, 0, none⟩) N C).ownBlock := grown_setC (by simp; exact hgl.2)
  refine ⟨⟨⟨_, s2, fun i h3 h4 => ?_⟩, fun i h3 h4 => ?_⟩, hgl.1⟩
  · rw [List.getElem?_set_ne (by omega), List.getElem?_set_ne (by omega)]
    exact h2 i (by omega) h4
  · obtain ⟨zs, hz⟩ := h.es i (by omega) h4
    exact ⟨zs, own_far (own_far hz g1 (hav i h4)) g2 (hav i h4)⟩
/-- what Words answers, told or not -/
theorem words_u (X : Wd) (loc : ByteArray) (t p : Int) : ∃ (N : Nat) (E : Int) (ss : Nat → ByteArray), N ≤ 1000 ∧
    (∀ w, NEnv w X → Calls Tryz.prog 7 #[X.v, .string loc, .int .i64 t, .int .i64 p] w fun e w' => ∃ a c, e = .returned (.tuple #[.slice a N c, .int .i64 E]) ∧ w'.ownsRow w.heap.size 9 1 (.slice a N c) N (srw ss N) ∧ Below w.heap.size w w') ∧
    (∀ w, NEnv w X → Calls Tryz.prog 9 #[X.v, .string loc, .int .i64 t, .int .i64 p] w fun e w' => ∃ a c, e = .returned (.tuple #[.slice a N c, .int .i64 E]) ∧ w'.ownsRow w.heap.size 9 1 (.slice a N c) N (srw ss N) ∧ Below w.heap.size w w') := by
  by_cases h : bwE X loc t p = 0
  · refine ⟨X.D.nz, 0, wsB X loc t p, by have := ws_nz h; omega, fun w hE => (Words_ok h w hE).mono ?_, fun w hE => (RWords_ok h w hE).mono ?_⟩
    · rintro e w' ⟨a, c, rfl, _, _, ho, hb⟩
      exact ⟨a, c, rfl, ho, hb⟩
    · rintro e w' ⟨a, c, rfl, _, _, ho, hb⟩
      exact ⟨a, c, rfl, ho, hb⟩
  · refine ⟨0, bwE X loc t p, fun _ => ⟨#[]⟩, by omega, fun w hE => (Words_no h w hE).mono ?_, fun w hE => (RWords_no h w hE).mono ?_⟩
    · rintro e w' ⟨rfl, hb⟩
      exact ⟨none, 0, rfl, World.ownsRow_nil _ _ _ _, hb⟩
    · rintro e w' ⟨rfl, hb⟩
      exact ⟨none, 0, rfl, World.ownsRow_nil _ _ _ _, hb⟩
/-- what Build answers, built or not -/
theorem build_u (n : Nat) (ss : Nat → ByteArray) (hn : n ≤ maxLen) (hf : ∀ j, j < n → (ss j).size ≤ maxLen) : ∃ (T : List Nd), fitT T ∧ (∀ (a : Option Addr) (c : Nat) w, TxA w a n ss → Calls Tryz.prog 8 #[.slice a n c] w fun e w' => ∃ ta tc vs, e = .returned (.tuple #[.slice ta T.length tc, .int .i64 (bldE n ss)]) ∧ OwT w' w.heap.size (.slice ta T.length tc) vs T ∧ Below w.heap.size w w') ∧
    (bldE n ss = 0 → 0 < T.length ∧ ∀ (a : Option Addr) (c : Nat) w, TxA w a n ss → Calls Tryz.prog 14 #[.slice a n c] w fun e w' => ∃ ta tc, e = .returned (.slice ta T.length tc) ∧ TrL w' ta T ∧ Below w.heap.size w w') := by
  by_cases h : bldE n ss = 0
  · refine ⟨trI n ss, bld_fitT h, fun a c w hP => (Build_c a n c ss w hn hP hf).mono ?_, fun _ => ⟨(bld_okT h).1, fun a c w hP => (BuildOf_c a n c ss w hP h).mono ?_⟩⟩
    · rintro e w' ⟨hb, ⟨h1, _⟩ | ⟨_, v, vs, rfl, hO⟩⟩
      · exact absurd h h1
      · rw [h]
        rcases hO.row.2 with ⟨rfl, h2⟩ | ⟨g, cap, cur, rfl, _⟩
        · have := (bld_okT h).1
          omega
        · exact ⟨_, _, vs, rfl, hO, hb⟩
    · rintro e w' ⟨v, vs, rfl, hO, hb⟩
      obtain ⟨ta, tc, rfl, _, htr⟩ := hO.trl (bld_okT h).1
      exact ⟨ta, tc, rfl, htr, hb⟩
  · refine ⟨[], ⟨by simp, fun j hj => by simp at hj⟩, fun a c w hP => (Build_c a n c ss w hn hP hf).mono ?_, fun h1 => absurd h1 h⟩
    rintro e w' ⟨hb, ⟨_, rfl⟩ | ⟨h1, _⟩⟩
    · exact ⟨none, 0, fun _ => .slice none 0 0, rfl, ⟨World.ownsRow_nil _ _ _ _, fun j hj => by simp at hj, fun j hj => by simp at hj, fun i j hi => by simp at hi⟩, hb⟩
    · exact absurd h1 h
end Go.Proofs.YtfjjdicgekgbeaaGreatDoor.Tri

/- The walk of the statement RestWorlds: it returns true, and nothing that lay in memory has turned. -/
namespace Go.Proofs.YtfjjdicgekgbeaaGreatDoor.Tri
open Go Go.RowKit Go.Maps
set_option linter.unusedVariables false

theorem own_txR {w : World} {base n c : Nat} {a : Option Addr} {ss : Nat → ByteArray} (h : w.ownsRow base 9 1 (.slice a n c) n (srw ss n)) : TX w a (wdL ss n) := by
  rw [srw_enc] at h
  obtain ⟨a2, c2, hv, hc2, htx⟩ := TX_own (wdL_len ss n).symm h
  obtain ⟨rfl, _, rfl⟩ := Value.slice.inj hv
  exact htx
theorem same_trueR (a1 a2 : Option Addr) (c1 c2 : Nat) (ss : Nat → ByteArray) (n : Nat) (w : World) (h1 : TX w a1 (wdL ss n)) (h2 : TX w a2 (wdL ss n)) (n1 : n ≤ 1000) : Calls Tryz.prog 11 #[.slice a1 n c1, .slice a2 n c2] w fun e w' => e = .returned (.bool true) ∧ Below w.heap.size w w' := by
  have := SameTexts_c a1 a2 c1 c2 (wdL ss n) (wdL ss n) w h1 h2 (by rw [wdL_len]; exact n1) (by rw [wdL_len]; exact n1)
  rw [decide_eq_true rfl, wdL_len] at this
  exact this
set_option maxRecDepth 100000 in
set_option maxHeartbeats 8000000 in
theorem RestWorlds_w (X : Wd) (loc : ByteArray) (t p : Int) (la : Option Addr) (ln lc : Nat) (ls : Nat → ByteArray) (w : World) (hE : NEnv w X) (hs0 : loc.size ≤ maxLen) (ht : -9223372036854775808 ≤ t ∧ t ≤ 9223372036854775807) (hp : -9223372036854775808 ≤ p ∧ p ≤ 9223372036854775807) (hn : ln ≤ maxLen) (hP : TxA w la ln ls) (hf : ∀ j, j < ln → (ls j).size ≤ maxLen) :
    Calls Tryz.prog 3 #[X.v, .string loc, .int .i64 t, .int .i64 p, .slice la ln lc] w fun e w' => e = .returned (.bool true) ∧ Below w.heap.size w w' := by
  have HE := hideH hE
  have HPt := hideH hP
  have HB := hideH ((Below.refl _ w).alloc (Nat.le_refl _) (.cells X.cs 30))
  have HX := hideH (World.alloc_heap_new w (.cells X.cs 30))
  obtain ⟨c0, c1, c2, c3, c4⟩ := cells5n HX.out
  have HG := hideH (fun v (hv : Below w.heap.size w v) => backBegun_c v (HE.out.on hv).ue.env.laid (HE.out.on hv).ue.env.mx)
  have HC := hideH (CheckWorld_c X _ (HE.out.on HB.out))
  by_cases h : nchk X = 0
  · have hck : chkE X.D = 0 := (uchk_ok (nchk_ok h).1).1
    obtain ⟨N, E, ss, hN, hW1, hW2⟩ := words_u X loc t p
    have HW1 := hideH (fun v (hv : Below w.heap.size w v) => hW1 v (HE.out.on hv))
    have HW2 := hideH (fun v (hv : Below w.heap.size w v) => hW2 v (HE.out.on hv))
    obtain ⟨T, hT, hBu, hBo⟩ := build_u ln ls hn hf
    have HBu := hideH (fun v (hv : Below w.heap.size w v) => hBu la lc v (HPt.out.on hv))
    have HBo : Hid (bldE ln ls = 0 → 0 < T.length ∧ ∀ v, Below w.heap.size w v → Calls Tryz.prog 14 #[.slice la ln lc] v fun e w' => ∃ ta tc, e = .returned (.slice ta T.length tc) ∧ TrL w' ta T ∧ Below v.heap.size v w') := fun h0 => ⟨(hBo h0).1, fun v hv => (hBo h0).2 la lc v (HPt.out.on hv)⟩
    have HBe := hideH (fun v (hv : Below w.heap.size w v) => BuildError_c la ln lc ls v hn (HPt.out.on hv) hf)
    unfold ckP at HBe
    have HOw := hideH (fun v (hv : Below w.heap.size w v) => OwnData_c X.D v (HE.out.on hv).ue.env.dat (HE.out.on hv).ue.dfit hck)
    have HDa := hideH (fun v (hv : Below w.heap.size w v) => (HE.out.on hv).ue.env.dat)
    have HFi := hideH (HE.out.ue.dfit)
    have HST := hideH (fun a1 a2 c1 c2 v h1 h2 => SameTries_c a1 a2 c1 c2 T v hT h1 h2)
    rw [h] at HC
    have HT := hideH hT
    clear h hck hW1 hW2 hBu hBo hT hn hf hP hE hs0 ht hp
    generalize bldE ln ls = be at HBu HBo HBe
    go_enter Tryz.func3, Tryz.ntmps3
    go_wp2_with fail
    refine HC.out.mono ?_
    rintro e w1 ⟨rfl, hw⟩
    have H1 := hideH (bthen HB.out hw)
    have C1 := hideH (heap_on HX.out hw)
    clear hw c0 c1 c2 c3 c4 HX HB HC
    obtain ⟨c0, c1, c2, c3, c4⟩ := cells5n C1.out
    go_wp2_with fail
    refine (HOw.out _ H1.out).mono ?_
    rintro e w2 ⟨Y, rfl, hY, hSY, hw⟩
    have V2 := hideH ((Below.refl _ w2).alloc (Nat.le_refl _) (.cells #[.slice Y.sa Y.ns Y.sc, .slice Y.za Y.nz Y.zc, .slice Y.la Y.nl Y.lc] 26))
    have H2 := hideH (bthen (bthen H1.out hw) V2.out)
    have C2 := hideH (heap_on (heap_on C1.out hw) V2.out)
    have D2 := hideH (hY.on V2.out)
    have B2 := hideH (World.alloc_heap_new w2 (.cells #[.slice Y.sa Y.ns Y.sc, .slice Y.za Y.nz Y.zc, .slice Y.la Y.nl Y.lc] 26))
    have HSY := hideH hSY
    have hl2 := (Array.getElem?_eq_some_iff.1 (heap_on C1.out hw)).1
    have c5 := cells5n (heap_on C1.out hw)
    clear hw c0 c1 c2 c3 c4 hY hSY H1 C1 V2 HOw
    obtain ⟨c0, c1, c2, c3, c4⟩ := c5
    obtain ⟨wa, hwa⟩ : ∃ x, x = w2.alloc (.cells #[.slice Y.sa Y.ns Y.sc, .slice Y.za Y.nz Y.zc, .slice Y.la Y.nl Y.lc] 26) := ⟨_, rfl⟩
    rw [← hwa] at H2 C2 D2 B2
    obtain ⟨yb, hyb⟩ : ∃ x, x = w2.heap.size := ⟨_, rfl⟩
    rw [← hyb] at B2
    have hyl : w.heap.size < wa.heap.size := (Array.getElem?_eq_some_iff.1 C2.out).1
    have hyb2 : yb < wa.heap.size := (Array.getElem?_eq_some_iff.1 B2.out).1
    go_wp2_with fail
    simp only [← hwa, ← hyb]
    clear hwa hyb c0 c1 c2 c3 c4 hl2
    refine (HW1.out _ H2.out).mono ?_
    rintro e w3 ⟨a3, k3, rfl, ho, hw⟩
    have L3 := hideH hw
    have O3 := hideH ho
    clear hw ho
    go_wp2_with fail
    go_loopw [14] (fun x14 W => ∃ (k : Nat) (xs : List Value), k ≤ N ∧ x14 = .int .i64 k ∧ Hid (W.ownsRow wa.heap.size 9 1 (.slice a3 N k3) N xs) ∧ Hid (Below wa.heap.size wa W)) (fun x14 _ => N - (intOf x14).toNat)
    case atStart => exact ⟨0, _, Nat.zero_le _, rfl, O3, L3⟩
    case round =>
      obtain ⟨k, xs, hk, rfl, O4, L4⟩ := hrel
      clear O3 L3
      by_cases hlt : k < N
      · rcases O4.out.2 with ⟨e1, h0⟩ | ⟨g, cap, cur, e1, hb, hg, hnc, hcm, hcs, htake⟩
        · omega
        injection e1 with e2 e3 e4
        subst e2 e4
        have ck : ∃ u, wr.cell? ⟨g, k, none⟩ = some u := by
          rw [O4.out.cellAt k (by omega)]
          have : k < xs.length := by rw [O4.out.1]; omega
          exact ⟨_, List.getElem?_eq_getElem this⟩
        obtain ⟨u, ck⟩ := ck
        have fk := O4.out.frozenAt k
        have hk0 : decide ((k : Int) < 0) = false := by simp
        have hkn : decide (N ≤ k) = false := by simp; omega
        have hki : (k : Int) < (N : Int) := by omega
        have O5 := hideH (own_setC (u := .string ⟨#[115, 112, 111, 105, 108, 116]⟩) O4.out (show k < N * 1 by omega))
        have L5 := hideH (L4.out.setCell (p := ⟨g, k, none⟩) hb (.string ⟨#[115, 112, 111, 105, 108, 116]⟩))
        clear hg hcs htake hcm hnc e3
        go_wp2_with fail
        go_roundw
        case rel => exact ⟨k + 1, _, by omega, by go_num, O5, L5⟩
        case measure => simp [intOf]; omega
      · obtain rfl : N = k := by omega
        have hki : ¬ ((N : Int) < (N : Int)) := by omega
        rename World => w4
        have H4 := hideH (bthen H2.out L4.out)
        have C4 := hideH (heap_on C2.out L4.out)
        have D4 := hideH (D2.out.on L4.out)
        have B4 := hideH (heap_on B2.out L4.out)
        clear H2 C2 D2 B2 L4 O4 hyl hyb2
        go_wp2_with fail
        refine (HBu.out _ H4.out).mono ?_
        rintro e w5 ⟨ta, tc, vs, rfl, hO, hw⟩
        have L5 := hideH hw
        have S5 := hideH (sp_start hO)
        have HAv := hideH hO.av
        have HAa := hideH hO.aa
        have HMe : Hid (∀ i, i < T.length → (nod T i).es.length ≤ maxLen) := HT.out.es
        have hTl := HT.out.len
        clear hw hO
        obtain ⟨M, hM⟩ : ∃ M, M = T.length := ⟨_, rfl⟩
        obtain ⟨me, hme⟩ : ∃ me : Nat → Nat, me = fun i => (nod T i).es.length := ⟨_, rfl⟩
        rw [← hme] at S5
        have HMe2 : Hid (∀ i, i < M → me i ≤ maxLen) := fun i hi => by rw [hme]; exact HMe.out i (by omega)
        have HMl := hideH hM
        rw [← hM] at S5 HAv HAa hTl ⊢
        unfold maxLen at hTl
        clear hme hM HMe
        go_wp2_with fail
        go_loopw [17] (fun x17 W => ∃ (k : Nat), k ≤ M ∧ x17 = .int .i64 k ∧ Hid (Sp w4.heap.size (.slice ta M tc) M vs me k W) ∧ Hid (Below w4.heap.size w4 W)) (fun x17 _ => M - (intOf x17).toNat)
        case atStart => exact ⟨0, Nat.zero_le _, rfl, S5, L5⟩
        case round =>
          obtain ⟨k, hk, rfl, S6, L6⟩ := hrel
          clear S5 L5
          by_cases hlt : k < M
          · obtain ⟨xs, r1, r2⟩ := S6.out.row
            obtain ⟨G, rfl, hGl⟩ : ∃ G, ta = some ⟨G, 0, none⟩ ∧ w4.heap.size ≤ G := by
              rcases r1.2 with ⟨e1, h0⟩ | ⟨g, cap, cur, e1, hb, _⟩
              · omega
              · injection e1 with e2
                exact ⟨g, e2, hb⟩
            have HR6 := hideH r1
            have hvk : ∃ ea ec, vs k = .slice ea (me k) ec := by
              obtain ⟨ys, hy⟩ := S6.out.es k (Nat.le_refl _) hlt
              rcases hy.2 with ⟨e1, h0⟩ | ⟨g, cap, cur, e1, _⟩
              · exact ⟨none, 0, by rw [e1, h0]⟩
              · exact ⟨_, _, e1⟩
            obtain ⟨ea, ec, hvk⟩ := hvk
            have n0 : wr.cell? ⟨G, k * 2, none⟩ = some (.slice ea (me k) ec) := by rw [r1.cellAt (k * 2) (by omega), r2 k (Nat.le_refl _) hlt, hvk]
            have hmk := HMe2.out k hlt
            unfold maxLen at hmk
            have HVk := hideH hvk
            have hk0 : decide ((k : Int) < 0) = false := by simp
            have hkn : decide (M ≤ k) = false := by simp; omega
            have hki : (k : Int) < (M : Int) := by omega
            clear r1 r2 hvk
            go_wp2_with fail
            go_loopw [18] (fun x18 W => ∃ (q : Nat), q ≤ me k ∧ x18 = .int .i64 q ∧ Hid (Sp w4.heap.size (.slice (some ⟨G, 0, none⟩) M tc) M vs me k W) ∧ Hid (Below w4.heap.size w4 W)) (fun x18 _ => me k - (intOf x18).toNat)
            case atStart => exact ⟨0, Nat.zero_le _, rfl, S6, L6⟩
            case round =>
              obtain ⟨q, hq, rfl, S7, L7⟩ := hrel
              clear S6 L6 n0 HR6
              rename World => wq
              obtain ⟨xs', r1, r2⟩ := S7.out.row
              have n0 : wq.cell? ⟨G, k * 2, none⟩ = some (.slice ea (me k) ec) := by rw [r1.cellAt (k * 2) (by omega), r2 k (Nat.le_refl _) hlt, HVk.out]
              have n1 : ∃ u, wq.cell? ⟨G, k * 2 + 1, none⟩ = some u := by
                rw [r1.cellAt (k * 2 + 1) (by omega)]
                have : k * 2 + 1 < xs'.length := by rw [r1.1]; omega
                exact ⟨_, List.getElem?_eq_getElem this⟩
              obtain ⟨u1, n1⟩ := n1
              have f0 := r1.frozenAt (k * 2)
              have f1 := r1.frozenAt (k * 2 + 1)
              clear r1 r2
              by_cases hql : q < me k
              · obtain ⟨ys, hy⟩ := S7.out.es k (Nat.le_refl _) hlt
                obtain ⟨g, rfl, hgl⟩ : ∃ g, ea = some ⟨g, 0, none⟩ ∧ w4.heap.size ≤ g := by
                  rw [HVk.out] at hy
                  rcases hy.2 with ⟨e1, h0⟩ | ⟨g, cap, cur, e1, hb, _⟩
                  · omega
                  · injection e1 with e2
                    exact ⟨g, e2, hb⟩
                have hyl : ys.length = me k * 2 := hy.1
                rw [HVk.out] at hy
                have ce : ∀ o, o < me k * 2 → ∃ u, wq.cell? ⟨g, o, none⟩ = some u := fun o ho => by
                  rw [hy.cellAt o ho]
                  exact ⟨_, List.getElem?_eq_getElem (by omega)⟩
                obtain ⟨u2, e0⟩ := ce (q * 2) (by omega)
                obtain ⟨u3, e1⟩ := ce (q * 2 + 1) (by omega)
                have h0 := hy.frozenAt (q * 2)
                have h1 := hy.frozenAt (q * 2 + 1)
                have S8 := sp_edge (u := .int .u8 0) S7.out hlt HVk.out (show q * 2 < me k * 2 by omega) HAv.out HAa.out
                have S9 := hideH (sp_edge (u := .int .i64 0) S8.1 hlt HVk.out (show q * 2 + 1 < me k * 2 by omega) HAv.out HAa.out).1
                have L9 := hideH ((L7.out.setCell (p := ⟨g, q * 2, none⟩) hgl (.int .u8 0)).setCell (p := ⟨g, q * 2 + 1, none⟩) hgl (.int .i64 0))
                have hq0 : decide ((q : Int) < 0) = false := by simp
                have hqn : decide (me k ≤ q) = false := by simp; omega
                have hqi : (q : Int) < (me k : Int) := by omega
                clear ce hy S8 hyl f0 f1 n1
                go_wp2_with fail
                go_roundw
                case rel => exact ⟨q + 1, by omega, by go_num, S9, L9⟩
                case measure => simp [intOf]; omega
              · obtain rfl : q = me k := by omega
                have hqi : ¬ ((me k : Int) < (me k : Int)) := by omega
                have S9 := hideH (sp_node (u := .slice none 0 0) (u' := .int .i64 0) S7.out hlt HAv.out).1
                have L9 := hideH ((L7.out.setCell (p := ⟨G, k * 2, none⟩) hGl (.slice none 0 0)).setCell (p := ⟨G, k * 2 + 1, none⟩) hGl (.int .i64 0))
                go_wp2_with fail
                go_roundw
                case rel => exact ⟨k + 1, by omega, by go_num, S9, L9⟩
                case measure => simp [intOf]; omega
          · obtain rfl : M = k := by omega
            have hki : ¬ ((M : Int) < (M : Int)) := by omega
            rename World => w6
            have H6 := hideH (bthen H4.out L6.out)
            have C6 := hideH (heap_on C4.out L6.out)
            have D6 := hideH (D4.out.on L6.out)
            have B6 := hideH (heap_on B4.out L6.out)
            clear H4 C4 D4 B4 L6 S6
            obtain ⟨c0, c1, c2, c3, c4⟩ := cells5n C6.out
            go_wp2_with fail
            refine (HW1.out _ H6.out).mono ?_
            rintro e w7 ⟨a7, k7, rfl, ho, hw⟩
            have H7 := hideH (bthen H6.out hw)
            have C7 := hideH (heap_on C6.out hw)
            have D7 := hideH (D6.out.on hw)
            have B7 := hideH (heap_on B6.out hw)
            have T7 := hideH (own_txR ho)
            clear hw ho c0 c1 c2 c3 c4 H6 C6 D6 B6
            go_wp2_with fail
            refine (HBu.out _ H7.out).mono ?_
            rintro e w8 ⟨tb, tbc, vs2, rfl, hO2, hw⟩
            have H8 := hideH (bthen H7.out hw)
            have C8 := hideH (heap_on C7.out hw)
            have D8 := hideH (D7.out.on hw)
            have B8 := hideH (heap_on B7.out hw)
            have T8 := hideH (T7.out.on hw)
            have R8 : Hid (0 < T.length → TrL w8 tb T) := fun h => by
              obtain ⟨ta', tc', e1, _, htr⟩ := hO2.trl h
              injection e1 with e2
              rw [e2]
              exact htr
            clear hw hO2 H7 C7 D7 B7 T7
            obtain ⟨c0, c1, c2, c3, c4⟩ := cells5n C8.out
            go_wp2_with fail
            refine (HW2.out _ H8.out).mono ?_
            rintro e w9 ⟨a9, k9, rfl, ho, hw⟩
            have H9 := hideH (bthen H8.out hw)
            have C9 := hideH (heap_on C8.out hw)
            have D9 := hideH (D8.out.on hw)
            have B9 := hideH (heap_on B8.out hw)
            have T9 := hideH (T8.out.on hw)
            have U9 := hideH (own_txR ho)
            have R9 : Hid (0 < T.length → TrL w9 tb T) := fun h => (R8.out h).on hw
            clear hw ho c0 c1 c2 c3 c4 H8 C8 D8 B8 T8 R8
            go_wp2_with fail
            refine (HBe.out _ H9.out).mono ?_
            rintro e wA ⟨rfl, hw⟩
            have HA := hideH (bthen H9.out hw)
            have CA := hideH (heap_on C9.out hw)
            have DA := hideH (D9.out.on hw)
            have BA := hideH (heap_on B9.out hw)
            have TA := hideH (T9.out.on hw)
            have UA := hideH (U9.out.on hw)
            have RA : Hid (0 < T.length → TrL wA tb T) := fun h => (R9.out h).on hw
            clear hw H9 C9 D9 B9 T9 U9 R9
            go_wp2_with fail
            refine (HG.out _ HA.out).mono ?_
            rintro e wB ⟨rfl, hw⟩
            have HBb := hideH (bthen HA.out hw)
            have CB := hideH (heap_on CA.out hw)
            have DB := hideH (DA.out.on hw)
            have BB := hideH (heap_on BA.out hw)
            have TB := hideH (TA.out.on hw)
            have UB := hideH (UA.out.on hw)
            have RB : Hid (0 < T.length → TrL wB tb T) := fun h => (RA.out h).on hw
            clear hw HA CA DA BA TA UA RA
            go_wp2_with fail
            refine (same_trueR _ _ _ _ ss N _ TB.out UB.out hN).mono ?_
            rintro e wC ⟨rfl, hw⟩
            have HCc := hideH (bthen HBb.out hw)
            have CC := hideH (heap_on CB.out hw)
            have DC := hideH (DB.out.on hw)
            have BC := hideH (heap_on BB.out hw)
            have RC : Hid (0 < T.length → TrL wC tb T) := fun h => (RB.out h).on hw
            clear hw HBb CB DB BB TB UB RB
            obtain ⟨c0, c1, c2, c3, c4⟩ := cells5n CC.out
            obtain ⟨d0, d1, d2⟩ := cells3 BC.out
            go_wp2_with fail
            refine (SameData_c X.D Y _ (HDa.out _ HCc.out) DC.out HFi.out HSY.out).mono ?_
            rintro e wD ⟨rfl, hw⟩
            have HDd := hideH (bthen HCc.out hw)
            have RD : Hid (0 < T.length → TrL wD tb T) := fun h => (RC.out h).on hw
            clear hw HCc CC DC BC RC c0 c1 c2 c3 c4 d0 d1 d2
            by_cases hbe : be = 0
            · obtain ⟨hTp, hBo2⟩ := HBo.out hbe
              have HB2 := hideH hBo2
              have RE := hideH (RD.out hTp)
              subst hbe
              clear RD hBo2
              go_wp2_with fail
              refine (HB2.out _ HDd.out).mono ?_
              rintro e wE ⟨tz, tzc, rfl, htz, hw⟩
              have HEe := hideH (bthen HDd.out hw)
              have RF := hideH (RE.out.on hw)
              have RG := hideH htz
              clear hw htz HDd RE
              go_wp2_with fail
              refine (HST.out _ _ _ _ _ RF.out RG.out).mono ?_
              rintro e wF ⟨rfl, hw⟩
              have HFf := hideH (bthen HEe.out hw)
              clear hw HEe RF RG
              go_wp2_with fail
              go_ret
              exact ⟨ret_bool (by simp), HFf.out⟩
            · have hbn : (be != 0) = true := by rw [bne_iff_ne]; exact hbe
              clear RD hbe
              go_wp2_with fail
              go_ret
              exact ⟨ret_bool (by simp), HDd.out⟩
  · have hne : (nchk X != 0) = true := by rw [bne_iff_ne]; exact h
    generalize nchk X = nc at HC hne
    clear h
    go_enter Tryz.func3, Tryz.ntmps3
    go_wp2_with fail
    refine HC.out.mono ?_
    rintro e w1 ⟨rfl, hw⟩
    have H1 := hideH (bthen HB.out hw)
    clear hw c0 c1 c2 c3 c4 HX HB HC
    go_wp2_with fail
    refine (HG.out _ H1.out).mono ?_
    rintro e w2 ⟨rfl, hw⟩
    have H2 := hideH (bthen H1.out hw)
    clear hw
    go_wp2_with fail
    go_ret
    exact ⟨rfl, H2.out⟩
end Go.Proofs.YtfjjdicgekgbeaaGreatDoor.Tri
