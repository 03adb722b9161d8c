/- The document's own SameData, of data that are the same. -/
import Derived.Test.YtbpdbggojgijiaaGreatDoorOffCAll
import Derived.Deep.QuietTactic
import Derived.BigQuiet
namespace Go.Proofs.YtbpdbggojgijiaaGreatDoor
open Go Go.RowKit
set_option linter.unusedVariables false

/-- the same data, wherever they lie -/
structure SameDt (D E : Dt) : Prop where
  ns : E.ns = D.ns
  sets : ∀ j, j < D.ns → (E.ss j).nm = (D.ss j).nm ∧ (E.ss j).n = (D.ss j).n ∧ ∀ i, i < (D.ss j).n → (E.ss j).rs i = (D.ss j).rs i
  nz : E.nz = D.nz
  zones : ∀ j, j < D.nz → (E.zs j).nm = (D.zs j).nm ∧ (E.zs j).n = (D.zs j).n ∧ ∀ i, i < (D.zs j).n → (E.zs j).es i = (D.zs j).es i
  nl : E.nl = D.nl
  links : ∀ j, j < D.nl → E.ls j = D.ls j
theorem SameDt.refl (D : Dt) : SameDt D D := ⟨rfl, fun _ _ => ⟨rfl, rfl, fun _ _ => rfl⟩, rfl, fun _ _ => ⟨rfl, rfl, fun _ _ => rfl⟩, rfl, fun _ _ => rfl⟩
theorem SameDt.symm {D E : Dt} (h : SameDt D E) : SameDt E D := ⟨h.ns.symm, fun j hj => by
  have := h.sets j (by rw [← h.ns]; exact hj)
  exact ⟨this.1.symm, this.2.1.symm, fun i hi => (this.2.2 i (by rw [← this.2.1]; exact hi)).symm⟩, h.nz.symm, fun j hj => by
  have := h.zones j (by rw [← h.nz]; exact hj)
  exact ⟨this.1.symm, this.2.1.symm, fun i hi => (this.2.2 i (by rw [← this.2.1]; exact hi)).symm⟩, h.nl.symm, fun j hj => (h.links j (by rw [← h.nl]; exact hj)).symm⟩
theorem P2.congr {w : World} {a : Option Addr} {n m : Nat} {f g f' g' : Nat → Value} (h : P2 w a n f g) (hn : n = m) (e : ∀ j, j < m → f j = f' j ∧ g j = g' j) : P2 w a m f' g' := by
  subst hn
  rcases h with h | ⟨b, off, h1, h2⟩
  · exact .inl h
  · exact .inr ⟨b, off, h1, fun j hj => by rw [← (e j hj).1, ← (e j hj).2]; exact h2 j hj⟩
theorem ARow.congr {w : World} {a : Option Addr} {n m c : Nat} {f f' : Nat → Rl} (h : ARow w a n c f) (hn : n = m) (e : ∀ j, j < m → f j = f' j) : ARow w a m c f' := by
  subst hn
  rcases h with h | ⟨b, off, h1, h2⟩
  · exact .inl h
  · exact .inr ⟨b, off, h1, fun j hj => by rw [← e j hj]; exact h2 j hj⟩
theorem ERow.congr {w : World} {a : Option Addr} {n m : Nat} {f f' : Nat → Er} (h : ERow w a n f) (hn : n = m) (e : ∀ j, j < m → f j = f' j) : ERow w a m f' := by
  subst hn
  rcases h with h | ⟨b, off, h1, h2⟩
  · exact .inl h
  · exact .inr ⟨b, off, h1, fun j hj => by rw [← e j hj]; exact h2 j hj⟩
theorem EAt_on {w w' : World} {b o : Nat} {x : Er} (h : EAt w b o x) (hb : Below w.heap.size w w') : EAt w' b o x := ⟨cell_on h.1 hb, cell_on h.2.1 hb, cell_on h.2.2.1 hb, cell_on h.2.2.2.1 hb, cell_on h.2.2.2.2 hb⟩
/-- the two boxes -/
def sdW (w v : World) (A B : Array Value) : Prop := Below w.heap.size w v ∧ v.heap[w.heap.size]? = some (.cells A 26) ∧ v.heap[w.heap.size + 1]? = some (.cells B 26)
theorem sdW.drew {w v : World} {A B : Array Value} (h : sdW w v A B) (m : Nat) : sdW w (v.drewN m) A B := ⟨below_drewN h.1 m, h.2⟩
set_option maxRecDepth 100000 in
set_option maxHeartbeats 16000000 in
theorem SameData_x (sa sb za zb la lb : Option Addr) (ns nz nl sc sd zc zd lc ld : Nat) (snm : Nat → ByteArray) (sn : Nat → Nat) (ra rb : Nat → Option Addr) (rc rd : Nat → Nat) (rs : Nat → Nat → Rl) (znm : Nat → ByteArray) (zn : Nat → Nat) (ea eb : Nat → Option Addr) (ec ed : Nat → Nat) (es : Nat → Nat → Er) (l1 l2 : Nat → ByteArray) (w : World)
    (S1 : P2 w sa ns (fun j => .string (snm j)) (fun j => .slice (ra j) (sn j) (rc j))) (S2 : P2 w sb ns (fun j => .string (snm j)) (fun j => .slice (rb j) (sn j) (rd j)))
    (R1 : ∀ j, j < ns → ARow w (ra j) (sn j) (rc j) (rs j)) (R2 : ∀ j, j < ns → ARow w (rb j) (sn j) (rd j) (rs j))
    (Z1 : P2 w za nz (fun j => .string (znm j)) (fun j => .slice (ea j) (zn j) (ec j))) (Z2 : P2 w zb nz (fun j => .string (znm j)) (fun j => .slice (eb j) (zn j) (ed j)))
    (E1 : ∀ j, j < nz → ERow w (ea j) (zn j) (es j)) (E2 : ∀ j, j < nz → ERow w (eb j) (zn j) (es j))
    (L1 : P2 w la nl (fun j => .string (l1 j)) (fun j => .string (l2 j))) (L2 : P2 w lb nl (fun j => .string (l1 j)) (fun j => .string (l2 j)))
    (n1 : ns ≤ maxLen) (n2 : nz ≤ maxLen) (n3 : nl ≤ maxLen) (m1 : ∀ j, j < ns → sn j ≤ maxLen) (m2 : ∀ j, j < nz → zn j ≤ maxLen) :
    Calls Tryz.prog 10 #[.agg #[.slice sa ns sc, .slice za nz zc, .slice la nl lc], .agg #[.slice sb ns sd, .slice zb nz zd, .slice lb nl ld]] w fun e w' => e = .returned (.bool true) ∧ Below w.heap.size w w' := by
  have HS1 := hideH S1
  have HS2 := hideH S2
  have HR1 := hideH R1
  have HR2 := hideH R2
  have HZ1 := hideH Z1
  have HZ2 := hideH Z2
  have HE1 := hideH E1
  have HE2 := hideH E2
  have HL1 := hideH L1
  have HL2 := hideH L2
  have M1 := hideH m1
  have M2 := hideH m2
  have bx := two_boxes w (.cells #[.slice sa ns sc, .slice za nz zc, .slice la nl lc] 26) (.cells #[.slice sb ns sd, .slice zb nz zd, .slice lb nl ld] 26)
  obtain ⟨W0, hW0⟩ : ∃ W0, W0 = (w.alloc (.cells #[.slice sa ns sc, .slice za nz zc, .slice la nl lc] 26)).alloc (.cells #[.slice sb ns sd, .slice zb nz zd, .slice lb nl ld] 26) := ⟨_, rfl⟩
  rw [← hW0] at bx
  have K0 : Hid (sdW w W0 #[.slice sa ns sc, .slice za nz zc, .slice la nl lc] #[.slice sb ns sd, .slice zb nz zd, .slice lb nl ld]) := bx
  unfold maxLen at n1 n2 n3
  clear S1 S2 R1 R2 Z1 Z2 E1 E2 L1 L2 m1 m2 bx
  go_enter Tryz.func10, Tryz.ntmps10
  go_wp2_with fail
  simp only [← hW0]
  clear hW0
  go_loopw [5] (fun x v => ∃ k : Nat, k ≤ ns ∧ x = .int .i64 k ∧ Hid (sdW w v #[.slice sa ns sc, .slice za nz zc, .slice la nl lc] #[.slice sb ns sd, .slice zb nz zd, .slice lb nl ld])) (fun x _ => ns - (intOf x).toNat)
  case atStart => exact ⟨0, Nat.zero_le _, rfl, K0⟩
  case round =>
    obtain ⟨k, hk, rfl, K1⟩ := hrel
    obtain ⟨p0, p1, p2⟩ := cells3 K1.out.2.1
    obtain ⟨q0, q1, q2⟩ := cells3 K1.out.2.2
    by_cases hlt : k < ns
    · rcases HS1.out with h0 | ⟨b, off, hsa, hcs⟩
      · omega
      rcases HS2.out with h0 | ⟨b2, off2, hsb, hcs2⟩
      · omega
      subst hsa hsb
      have d0 := cell_on (hcs k hlt).1 K1.out.1
      have d1 := cell_on (hcs k hlt).2 K1.out.1
      have e0 := cell_on (hcs2 k hlt).1 K1.out.1
      have e1 := cell_on (hcs2 k hlt).2 K1.out.1
      have D0 := hideH (hcs k hlt)
      have E0 := hideH (hcs2 k hlt)
      have hk0 : decide ((k : Int) < 0) = false := by simp
      have hkn : decide (ns ≤ k) = false := by simp; omega
      have hki : (k : Int) < (ns : Int) := by omega
      clear hcs hcs2
      have nn := M1.out k hlt
      unfold maxLen at nn
      have HX1 := hideH (HR1.out k hlt)
      have HX2 := hideH (HR2.out k hlt)
      obtain ⟨xa, hxa⟩ : ∃ x, x = ra k := ⟨_, rfl⟩
      obtain ⟨xb, hxb⟩ : ∃ x, x = rb k := ⟨_, rfl⟩
      obtain ⟨xn, hxn⟩ : ∃ x, x = sn k := ⟨_, rfl⟩
      simp only [← hxa, ← hxb, ← hxn] at d1 e1 D0 E0 nn HX1 HX2
      clear hxa hxb hxn
      go_wp2_with fail
      go_quiet (fail)
      go_wp2_with fail
      clear d0 d1 e0 e1 p0 p1 p2 q0 q1 q2
      go_loopw [6] (fun x v => ∃ i : Nat, i ≤ xn ∧ x = .int .i64 i ∧ Hid (sdW w v #[.slice (some ⟨b, off, none⟩) ns sc, .slice za nz zc, .slice la nl lc] #[.slice (some ⟨b2, off2, none⟩) ns sd, .slice zb nz zd, .slice lb nl ld])) (fun x _ => xn - (intOf x).toNat)
      case atStart => exact ⟨0, Nat.zero_le _, rfl, K1.out.drew _⟩
      case round =>
        obtain ⟨i, hi, rfl, K3⟩ := hrel
        clear K1
        obtain ⟨p0, p1, p2⟩ := cells3 K3.out.2.1
        obtain ⟨q0, q1, q2⟩ := cells3 K3.out.2.2
        have d0 := cell_on D0.out.1 K3.out.1
        have d1 := cell_on D0.out.2 K3.out.1
        have e0 := cell_on E0.out.1 K3.out.1
        have e1 := cell_on E0.out.2 K3.out.1
        by_cases hil : i < xn
        · rcases HX1.out with h0 | ⟨c, o, hra, hrow⟩
          · omega
          rcases HX2.out with h0 | ⟨c2, o2, hrb, hrow2⟩
          · omega
          subst hra hrb
          obtain ⟨f0, f1, f2, f3, f4, f5, f6, f7, f8⟩ := RAt.on (hrow i hil) K3.out.1
          obtain ⟨g0, g1, g2, g3, g4, g5, g6, g7, g8⟩ := RAt.on (hrow2 i hil) K3.out.1
          have hi0 : decide ((i : Int) < 0) = false := by simp
          have hin : decide (xn ≤ i) = false := by simp; omega
          have hii : (i : Int) < (xn : Int) := by omega
          clear hrow hrow2
          go_wp2_with fail
          go_quiet (fail)
          go_wp2_with fail
          go_roundw
          case rel => exact ⟨i + 1, by omega, by go_num, K3.out.drew _⟩
          case measure => simp [intOf]; omega
        · obtain rfl : i = xn := by omega
          have hin : ¬ ((i : Int) < (i : Int)) := by omega
          go_wp2_with fail
          go_roundw
          case rel => exact ⟨k + 1, by omega, by go_num, K3⟩
          case measure => simp [intOf]; omega
    · obtain rfl : ns = k := by omega
      have hkn : ¬ ((ns : Int) < (ns : Int)) := by omega
      go_wp2_with fail
      clear p0 p1 p2 q0 q1 q2
      have K0 := K1
      clear K1
      go_loopw [7] (fun x v => ∃ k : Nat, k ≤ nz ∧ x = .int .i64 k ∧ Hid (sdW w v #[.slice sa ns sc, .slice za nz zc, .slice la nl lc] #[.slice sb ns sd, .slice zb nz zd, .slice lb nl ld])) (fun x _ => nz - (intOf x).toNat)
      case atStart => exact ⟨0, Nat.zero_le _, rfl, K0⟩
      case round =>
        obtain ⟨k, hk, rfl, K1⟩ := hrel
        obtain ⟨p0, p1, p2⟩ := cells3 K1.out.2.1
        obtain ⟨q0, q1, q2⟩ := cells3 K1.out.2.2
        by_cases hlt : k < nz
        · rcases HZ1.out with h0 | ⟨b, off, hsa, hcs⟩
          · omega
          rcases HZ2.out with h0 | ⟨b2, off2, hsb, hcs2⟩
          · omega
          subst hsa hsb
          have d0 := cell_on (hcs k hlt).1 K1.out.1
          have d1 := cell_on (hcs k hlt).2 K1.out.1
          have e0 := cell_on (hcs2 k hlt).1 K1.out.1
          have e1 := cell_on (hcs2 k hlt).2 K1.out.1
          have D0 := hideH (hcs k hlt)
          have E0 := hideH (hcs2 k hlt)
          have hk0 : decide ((k : Int) < 0) = false := by simp
          have hkn : decide (nz ≤ k) = false := by simp; omega
          have hki : (k : Int) < (nz : Int) := by omega
          clear hcs hcs2
          have nn := M2.out k hlt
          unfold maxLen at nn
          have HX1 := hideH (HE1.out k hlt)
          have HX2 := hideH (HE2.out k hlt)
          obtain ⟨xa, hxa⟩ : ∃ x, x = ea k := ⟨_, rfl⟩
          obtain ⟨xb, hxb⟩ : ∃ x, x = eb k := ⟨_, rfl⟩
          obtain ⟨xn, hxn⟩ : ∃ x, x = zn k := ⟨_, rfl⟩
          simp only [← hxa, ← hxb, ← hxn] at d1 e1 D0 E0 nn HX1 HX2
          clear hxa hxb hxn
          go_wp2_with fail
          go_quiet (fail)
          go_wp2_with fail
          clear d0 d1 e0 e1 p0 p1 p2 q0 q1 q2
          go_loopw [8] (fun x v => ∃ i : Nat, i ≤ xn ∧ x = .int .i64 i ∧ Hid (sdW w v #[.slice sa ns sc, .slice (some ⟨b, off, none⟩) nz zc, .slice la nl lc] #[.slice sb ns sd, .slice (some ⟨b2, off2, none⟩) nz zd, .slice lb nl ld])) (fun x _ => xn - (intOf x).toNat)
          case atStart => exact ⟨0, Nat.zero_le _, rfl, K1.out.drew _⟩
          case round =>
            obtain ⟨i, hi, rfl, K3⟩ := hrel
            clear K1
            obtain ⟨p0, p1, p2⟩ := cells3 K3.out.2.1
            obtain ⟨q0, q1, q2⟩ := cells3 K3.out.2.2
            have d0 := cell_on D0.out.1 K3.out.1
            have d1 := cell_on D0.out.2 K3.out.1
            have e0 := cell_on E0.out.1 K3.out.1
            have e1 := cell_on E0.out.2 K3.out.1
            by_cases hil : i < xn
            · rcases HX1.out with h0 | ⟨c, o, hra, hrow⟩
              · omega
              rcases HX2.out with h0 | ⟨c2, o2, hrb, hrow2⟩
              · omega
              subst hra hrb
              obtain ⟨f0, f1, f2, f3, f4⟩ := EAt_on (hrow i hil) K3.out.1
              obtain ⟨g0, g1, g2, g3, g4⟩ := EAt_on (hrow2 i hil) K3.out.1
              have hi0 : decide ((i : Int) < 0) = false := by simp
              have hin : decide (xn ≤ i) = false := by simp; omega
              have hii : (i : Int) < (xn : Int) := by omega
              clear hrow hrow2
              go_wp2_with fail
              go_quiet (fail)
              go_wp2_with fail
              go_roundw
              case rel => exact ⟨i + 1, by omega, by go_num, K3.out.drew _⟩
              case measure => simp [intOf]; omega
            · obtain rfl : i = xn := by omega
              have hin : ¬ ((i : Int) < (i : Int)) := by omega
              go_wp2_with fail
              go_roundw
              case rel => exact ⟨k + 1, by omega, by go_num, K3⟩
              case measure => simp [intOf]; omega
        · obtain rfl : nz = k := by omega
          have hkn : ¬ ((nz : Int) < (nz : Int)) := by omega
          go_wp2_with fail
          clear p0 p1 p2 q0 q1 q2
          have K0 := K1
          clear K1
          go_loopw [9] (fun x v => ∃ k : Nat, k ≤ nl ∧ x = .int .i64 k ∧ Hid (sdW w v #[.slice sa ns sc, .slice za nz zc, .slice la nl lc] #[.slice sb ns sd, .slice zb nz zd, .slice lb nl ld])) (fun x _ => nl - (intOf x).toNat)
          case atStart => exact ⟨0, Nat.zero_le _, rfl, K0⟩
          case round =>
            obtain ⟨k, hk, rfl, K1⟩ := hrel
            obtain ⟨p0, p1, p2⟩ := cells3 K1.out.2.1
            obtain ⟨q0, q1, q2⟩ := cells3 K1.out.2.2
            by_cases hlt : k < nl
            · rcases HL1.out with h0 | ⟨b, off, hsa, hcs⟩
              · omega
              rcases HL2.out with h0 | ⟨b2, off2, hsb, hcs2⟩
              · omega
              subst hsa hsb
              have d0 := cell_on (hcs k hlt).1 K1.out.1
              have d1 := cell_on (hcs k hlt).2 K1.out.1
              have e0 := cell_on (hcs2 k hlt).1 K1.out.1
              have e1 := cell_on (hcs2 k hlt).2 K1.out.1
              have D0 := hideH (hcs k hlt)
              have E0 := hideH (hcs2 k hlt)
              have hk0 : decide ((k : Int) < 0) = false := by simp
              have hkn : decide (nl ≤ k) = false := by simp; omega
              have hki : (k : Int) < (nl : Int) := by omega
              clear hcs hcs2
              go_wp2_with fail
              go_quiet (fail)
              go_wp2_with fail
              go_roundw
              case rel => exact ⟨k + 1, by omega, by go_num, K1.out.drew _⟩
              case measure => simp [intOf]; omega
            · obtain rfl : nl = k := by omega
              have hkn : ¬ ((nl : Int) < (nl : Int)) := by omega
              go_wp2_with fail
              go_ret
              exact ⟨rfl, K1.out.1⟩
theorem SameData_c (D E : Dt) (w : World) (hD : DAt w D) (hE : DAt w E) (hF : D.fits) (hS : SameDt D E) :
    Calls Tryz.prog 10 #[D.v, E.v] w fun e w' => e = .returned (.bool true) ∧ Below w.heap.size w w' := by
  have := SameData_x D.sa E.sa D.za E.za D.la E.la D.ns D.nz D.nl D.sc E.sc D.zc E.zc D.lc E.lc (fun j => (D.ss j).nm) (fun j => (D.ss j).n) (fun j => (D.ss j).a) (fun j => (E.ss j).a) (fun j => (D.ss j).c) (fun j => (E.ss j).c) (fun j => (D.ss j).rs) (fun j => (D.zs j).nm) (fun j => (D.zs j).n) (fun j => (D.zs j).a) (fun j => (E.zs j).a) (fun j => (D.zs j).c) (fun j => (E.zs j).c) (fun j => (D.zs j).es) (fun j => (D.ls j).nm) (fun j => (D.ls j).tgt) w
    hD.sets (hE.sets.congr hS.ns fun j hj => ⟨by rw [(hS.sets j hj).1], by simp only [St.sl]; rw [(hS.sets j hj).2.1]⟩)
    hD.rules (fun j hj => (hE.rules j (by rw [hS.ns]; exact hj)).congr (hS.sets j hj).2.1 (hS.sets j hj).2.2)
    hD.zones (hE.zones.congr hS.nz fun j hj => ⟨by rw [(hS.zones j hj).1], by simp only [Zn.sl]; rw [(hS.zones j hj).2.1]⟩)
    hD.eras (fun j hj => (hE.eras j (by rw [hS.nz]; exact hj)).congr (hS.zones j hj).2.1 (hS.zones j hj).2.2)
    hD.links (hE.links.congr hS.nl fun j hj => by rw [hS.links j hj]; exact ⟨rfl, rfl⟩) hF.ns hF.nz hF.nl hF.sn hF.zn
  have hv : E.v = .agg #[.slice E.sa D.ns E.sc, .slice E.za D.nz E.zc, .slice E.la D.nl E.lc] := by unfold Dt.v; rw [hS.ns, hS.nz, hS.nl]
  rw [hv]
  exact this
end Go.Proofs.YtbpdbggojgijiaaGreatDoor
