/- source.Show. -/
import Derived.Test.YtbpdbggojgijiaaGreatDoorSourceE
import Derived.Test.YtbpdbggojgijiaaGreatDoorDataKAll
namespace Go.Proofs.YtbpdbggojgijiaaGreatDoor.Src
open Go Go.RowKit
set_option linter.unusedVariables false

/-- texts, one behind the other -/
def catJ (f : Nat → By) (k : Nat) : By := (List.range k).flatMap f
theorem catJ_succ (f : Nat → By) (k : Nat) : catJ f (k + 1) = catJ f k ++ f k := by
  unfold catJ
  rw [List.range_succ, List.flatMap_append]
  simp
theorem catJ_le (f : Nat → By) {k n : Nat} (h : k ≤ n) : (catJ f k).length ≤ (catJ f n).length := mono_len (J := catJ f) (fun k => ⟨_, catJ_succ f k⟩) h
abbrev setB (D : Dt) (j : Nat) : By := setJ (D.ss j) (D.ss j).n
abbrev zoneB (D : Dt) (j : Nat) : By := zoneJ (D.zs j) (D.zs j).n
def linkB (D : Dt) (j : Nat) : By := joinW [wLink, (D.ls j).nm.data.toList, (D.ls j).to.data.toList] ++ [10]
/-- what is written of data -/
def showD (D : Dt) : By := catJ (setB D) D.ns ++ (catJ (zoneB D) D.nz ++ catJ (linkB D) D.nl)
/-- data whose numbers Go bears, and not too many of all -/
structure ShOk (D : Dt) : Prop where
  ns : D.ns ≤ 100
  nz : D.nz ≤ 100
  nl : D.nl ≤ 100
  sn : ∀ j, j < D.ns → (D.ss j).n ≤ 100
  zn : ∀ j, j < D.nz → (D.zs j).n ≤ 100
  ru : ∀ j, j < D.ns → ∀ i, i < (D.ss j).n → Rl.numOk ((D.ss j).rs i)
  er : ∀ j, j < D.nz → ∀ i, i < (D.zs j).n → Er.numOk ((D.zs j).es i)
  len : (showD D).length ≤ 1000000
theorem wr_new {B : Nat} (w : World) (hB : B ≤ w.heap.size) : WrI B w.heap.size [] (w.alloc (.cells #[.pointer none, .slice none 0 0] 44)) :=
  .inl ⟨hB, _, World.alloc_heap_new _ _, World.ownsRow_nil _ _ _ _, by simp [Value.ownBlock]⟩
set_option maxHeartbeats 16000000 in
set_option maxRecDepth 100000 in
theorem Show_ok (D : Dt) (w : World) (hE : Env w D) (hF : D.fits) (hT : TabW w) (hc : chkE D = 0) (hO : ShOk D) (htab : ∀ v : World, Below w.heap.size w v → TabW v) :
    Calls Tryz.prog 5 #[D.v] w fun e w' => e = .returned (.tuple #[.string ⟨(showD D).toArray⟩, .int .i64 0]) ∧ Below w.heap.size w w' := by
  have hb0 := (Below.refl _ w).alloc (Nat.le_refl _) (.cells #[.slice D.sa D.ns D.sc, .slice D.za D.nz D.zc, .slice D.la D.nl D.lc] 26)
  have HC := hideS (DCheck_c D _ (hE.on hb0) hF)
  rw [hc] at HC
  have HD := hideS hE.dat
  have HT := hideS htab
  have HO := hideS hO
  have hns := hO.ns
  have hnz := hO.nz
  have hnl := hO.nl
  have HB0 := hideS hb0
  clear hb0 hE hF hT hc htab hO
  go_enter Tryz.func5, Tryz.ntmps5
  go_wp2_with (go_at_call 12; refine HC.out.mono ?_; rintro e w1 ⟨rfl, b1⟩; have Q1 := hideS (heap_on (World.alloc_heap_new _ _) b1); have hsz : w.heap.size < w1.heap.size := (Array.getElem?_eq_some_iff.1 Q1.out).1; obtain ⟨q0, q1, q2⟩ := cells3 Q1.out; have B1 := hideS (bthen HB0.out b1); clear b1)
  have hbW := (Below.refl _ w1).alloc (Nat.le_refl _) (.cells #[.pointer none, .slice none 0 0] 44)
  have W0 := hideS (wr_new w1 B1.out.size)
  have BW := hideS (bthen B1.out hbW)
  have Q2 := hideS (heap_on Q1.out hbW)
  obtain ⟨W, hW⟩ : ∃ W, W = w1.alloc (.cells #[.pointer none, .slice none 0 0] 44) := ⟨_, rfl⟩
  obtain ⟨b, hb⟩ : ∃ b, b = w1.heap.size := ⟨_, rfl⟩
  rw [← hW] at W0 BW Q2
  rw [← hb] at W0
  simp only [← hW, ← hb]
  clear hW hb hbW Q1 B1 q0 q1 q2 hsz HB0 HC
  have HQ : Hid (∀ v : World, KW W v → v.cell? ⟨w.heap.size, 0, none⟩ = some (.slice D.sa D.ns D.sc) ∧ v.cell? ⟨w.heap.size, 1, none⟩ = some (.slice D.za D.nz D.zc) ∧ v.cell? ⟨w.heap.size, 2, none⟩ = some (.slice D.la D.nl D.lc)) := fun v hv => cells3 (hv _ _ _ _ Q2.out (by decide) (by decide))
  have HL := HO.out.len
  unfold showD at HL
  rw [List.length_append, List.length_append] at HL
  have HBd : Hid (∀ k, k ≤ D.ns → (catJ (setB D) k).length ≤ (catJ (setB D) D.ns).length) := fun k hk => catJ_le _ hk
  have HBz : Hid (∀ k, k ≤ D.nz → (catJ (zoneB D) k).length ≤ (catJ (zoneB D) D.nz).length) := fun k hk => catJ_le _ hk
  have HBl : Hid (∀ k, k ≤ D.nl → (catJ (linkB D) k).length ≤ (catJ (linkB D) D.nl).length) := fun k hk => catJ_le _ hk
  have H0 : Hid (WrI w.heap.size b (catJ (setB D) 0) W) := W0.out
  have KW0 := hideS (KW.refl W)
  go_loopw [20] (fun x20 wr => ∃ k : Nat, k ≤ D.ns ∧ x20 = .int .i64 k ∧ Hid (WrI w.heap.size b (catJ (setB D) k) wr) ∧ Hid (Below w.heap.size w wr) ∧ Hid (KW W wr)) (fun x20 _ => D.ns - (intOf x20).toNat)
  case atStart => exact ⟨0, Nat.zero_le _, rfl, H0, BW, KW0⟩
  case round =>
    obtain ⟨k, hk, rfl, HI, HB, HK⟩ := hrel
    by_cases hlt : k < D.ns
    · rcases (HD.out.on HB.out).sets with h0 | ⟨sb, off, hsa, hcs⟩
      · omega
      obtain ⟨c0, c1⟩ := hcs k hlt
      clear hcs
      simp only at c0 c1
      have hbx := (Below.refl _ wr).alloc (Nat.le_refl _) (.cells #[.string (D.ss k).nm, .slice (D.ss k).a (D.ss k).n (D.ss k).c] 47)
      have IX := wr_on HI.out hbx
      have BX := bthen HB.out hbx
      have hll : (catJ (setB D) k).length + (setJ (D.ss k) (D.ss k).n).length ≤ 140737488355328 := by
        have h1 := HBd.out (k + 1) hlt
        rw [catJ_succ, List.length_append] at h1
        have h2 : (setB D k).length = (setJ (D.ss k) (D.ss k).n).length := rfl
        omega
      have HS := hideS (set_c w.heap.size b (catJ (setB D) k) (D.ss k) _ IX (fun v hv => (HD.out.on (BX.trans hv)).rules k hlt) (HO.out.ru k hlt) (HO.out.sn k hlt) hll BX.size (fun v hv => HT.out v (BX.trans hv)))
      have BX2 := hideS BX
      have KX := hideS (HK.out.trans (kw_on hbx))
      clear hbx IX BX hll
      go_wp2_with (go_at_call 13; refine HS.out.mono ?_; rintro e w3 ⟨rfl, i3, b3, k3⟩)
      have I3 : Hid (WrI w.heap.size b (catJ (setB D) (k + 1)) w3) := by
        show WrI w.heap.size b (catJ (setB D) (k + 1)) w3
        rw [catJ_succ]
        exact i3
      have B3 := hideS (BX2.out.trans b3)
      have K3 := hideS (KX.out.trans k3)
      clear i3 b3 k3
      try simp only [← hsa]
      go_roundw
      case rel => exact ⟨k + 1, by omega, by go_num, I3, B3, K3⟩
      case measure => simp [intOf]; omega
    · obtain rfl : k = D.ns := by omega
      obtain ⟨q0, q1, q2⟩ := HQ.out wr HK.out
      go_wp2_with fail
      have H1 : Hid (WrI w.heap.size b (catJ (setB D) D.ns ++ catJ (zoneB D) 0) wr) := by
        show WrI w.heap.size b (catJ (setB D) D.ns ++ []) wr
        rw [List.append_nil]
        exact HI.out
      obtain ⟨wz, hwz⟩ : ∃ wz, wz = wr := ⟨_, rfl⟩
      simp only [← hwz] at H1 HB HK ⊢
      clear HI hwz q0 q1 q2
      go_loopw [30] (fun x30 wr => ∃ k : Nat, k ≤ D.nz ∧ x30 = .int .i64 k ∧ Hid (WrI w.heap.size b (catJ (setB D) D.ns ++ catJ (zoneB D) k) wr) ∧ Hid (Below w.heap.size w wr) ∧ Hid (KW W wr)) (fun x30 _ => D.nz - (intOf x30).toNat)
      case atStart => exact ⟨0, Nat.zero_le _, rfl, H1, HB, HK⟩
      case round =>
        obtain ⟨k, hk2, rfl, HI, HB, HK⟩ := hrel
        by_cases hlt2 : k < D.nz
        · rcases (HD.out.on HB.out).zones with h0 | ⟨sb, off, hza, hcs⟩
          · omega
          obtain ⟨c0, c1⟩ := hcs k hlt2
          clear hcs
          simp only at c0 c1
          have hbx := (Below.refl _ wr).alloc (Nat.le_refl _) (.cells #[.string (D.zs k).nm, .slice (D.zs k).a (D.zs k).n (D.zs k).c] 51)
          have IX := wr_on HI.out hbx
          have BX := bthen HB.out hbx
          have hll : (catJ (setB D) D.ns ++ catJ (zoneB D) k).length + (zoneJ (D.zs k) (D.zs k).n).length ≤ 140737488355328 := by
            have h1 := HBz.out (k + 1) hlt2
            rw [catJ_succ, List.length_append] at h1
            have h2 : (zoneB D k).length = (zoneJ (D.zs k) (D.zs k).n).length := rfl
            rw [List.length_append]
            omega
          have HS := hideS (zone_c w.heap.size b _ (D.zs k) _ IX (fun v hv => (HD.out.on (BX.trans hv)).eras k hlt2) (HO.out.er k hlt2) (HO.out.zn k hlt2) hll BX.size (fun v hv => HT.out v (BX.trans hv)))
          have BX2 := hideS BX
          have KX := hideS (HK.out.trans (kw_on hbx))
          clear hbx IX BX hll
          go_wp2_with (go_at_call 14; refine HS.out.mono ?_; rintro e w3 ⟨rfl, i3, b3, k3⟩)
          have I3 : Hid (WrI w.heap.size b (catJ (setB D) D.ns ++ catJ (zoneB D) (k + 1)) w3) := by
            show WrI w.heap.size b (catJ (setB D) D.ns ++ catJ (zoneB D) (k + 1)) w3
            rw [catJ_succ, ← List.append_assoc]
            exact i3
          have B3 := hideS (BX2.out.trans b3)
          have K3 := hideS (KX.out.trans k3)
          clear i3 b3 k3
          try simp only [← hza]
          go_roundw
          case rel => exact ⟨k + 1, by omega, by go_num, I3, B3, K3⟩
          case measure => simp [intOf]; omega
        · obtain rfl : k = D.nz := by omega
          obtain ⟨q0, q1, q2⟩ := HQ.out wr HK.out
          go_wp2_with fail
          have H2 : Hid (WrI w.heap.size b (catJ (setB D) D.ns ++ catJ (zoneB D) D.nz ++ catJ (linkB D) 0) wr) := by
            show WrI w.heap.size b (catJ (setB D) D.ns ++ catJ (zoneB D) D.nz ++ []) wr
            rw [List.append_nil]
            exact HI.out
          obtain ⟨wl, hwl⟩ : ∃ wl, wl = wr := ⟨_, rfl⟩
          simp only [← hwl] at H2 HB HK ⊢
          clear HI hwl q0 q1 q2
          go_loopw [40] (fun x40 wr => ∃ k : Nat, k ≤ D.nl ∧ x40 = .int .i64 k ∧ Hid (WrI w.heap.size b (catJ (setB D) D.ns ++ catJ (zoneB D) D.nz ++ catJ (linkB D) k) wr) ∧ Hid (Below w.heap.size w wr) ∧ Hid (KW W wr)) (fun x40 _ => D.nl - (intOf x40).toNat)
          case atStart => exact ⟨0, Nat.zero_le _, rfl, H2, HB, HK⟩
          case round =>
            obtain ⟨k, hk3, rfl, HI, HB, HK⟩ := hrel
            by_cases hlt3 : k < D.nl
            · rcases (HD.out.on HB.out).links with h0 | ⟨sb, off, hla, hcs⟩
              · omega
              obtain ⟨c0, c1⟩ := hcs k hlt3
              clear hcs
              simp only at c0 c1
              have hbx := (Below.refl _ wr).alloc (Nat.le_refl _) (.cells #[.string (D.ls k).nm, .string (D.ls k).to] 54)
              have IX := wr_on HI.out hbx
              have BX := bthen HB.out hbx
              have hll : (catJ (setB D) D.ns ++ catJ (zoneB D) D.nz ++ catJ (linkB D) k).length + ((joinW ([.t ⟨#[108, 105, 110, 107]⟩, .t (D.ls k).nm, .t (D.ls k).to].map Wo.b)).length + 1) ≤ 140737488355328 := by
                have h1 := HBl.out (k + 1) hlt3
                rw [catJ_succ, List.length_append] at h1
                have h2 : (linkB D k).length = (joinW ([.t ⟨#[108, 105, 110, 107]⟩, .t (D.ls k).nm, .t (D.ls k).to].map Wo.b)).length + 1 := by unfold linkB; rw [List.length_append]; rfl
                rw [List.length_append, List.length_append]
                omega
              have HS : Hid (∀ g : Nat, g = (wr.alloc (.cells #[.string (D.ls k).nm, .string (D.ls k).to] 54)).heap.size → Calls Tryz.prog 15 #[.pointer (some ⟨b, 0, none⟩), .slice (some ⟨g, 0, none⟩) 3 3] ((wr.alloc (.cells #[.string (D.ls k).nm, .string (D.ls k).to] 54)).alloc (.cells #[.iface 9 (.string ⟨#[108, 105, 110, 107]⟩), .iface 9 (.string (D.ls k).nm), .iface 9 (.string (D.ls k).to)] 20)) fun e w' => e = .returned (.tuple #[]) ∧ WrI w.heap.size b ((catJ (setB D) D.ns ++ catJ (zoneB D) D.nz ++ catJ (linkB D) k) ++ linkB D k) w' ∧ Below w.heap.size (wr.alloc (.cells #[.string (D.ls k).nm, .string (D.ls k).to] 54)) w' ∧ KW (wr.alloc (.cells #[.string (D.ls k).nm, .string (D.ls k).to] 54)) w') := fun g hg => by
                rw [hg]
                exact line_f w.heap.size b _ [.t ⟨#[108, 105, 110, 107]⟩, .t (D.ls k).nm, .t (D.ls k).to] _ 3 _ IX rfl rfl (by simp [Wo.ok]) (by simp) hll BX.size (fun v hv => HT.out v (BX.trans hv))
              have BX2 := hideS BX
              have KX := hideS (HK.out.trans (kw_on hbx))
              clear hbx IX BX hll
              go_wp2_with (go_at_call 15; refine (HS.out _ (by simp)).mono ?_; rintro e w3 ⟨rfl, i3, b3, k3⟩)
              have I3 : Hid (WrI w.heap.size b (catJ (setB D) D.ns ++ catJ (zoneB D) D.nz ++ catJ (linkB D) (k + 1)) w3) := by
                show WrI w.heap.size b (catJ (setB D) D.ns ++ catJ (zoneB D) D.nz ++ catJ (linkB D) (k + 1)) w3
                rw [catJ_succ, ← List.append_assoc]
                exact i3
              have B3 := hideS (BX2.out.trans b3)
              have K3 := hideS (KX.out.trans k3)
              clear i3 b3 k3
              try simp only [← hla]
              go_roundw
              case rel => exact ⟨k + 1, by omega, by go_num, I3, B3, K3⟩
              case measure => simp [intOf]; omega
            · obtain rfl : k = D.nl := by omega
              have HX := hideS (wrText_c w.heap.size b _ wr HI.out HB.out.size)
              go_wp2_with (go_at_call 16; refine HX.out.mono ?_; rintro e w3 ⟨rfl, b3⟩)
              go_ret2
              refine ⟨?_, HB.out.trans b3⟩
              unfold showD
              rfl
set_option maxHeartbeats 4000000 in
theorem Show_no (D : Dt) (w : World) (hE : Env w D) (hF : D.fits) (hc : chkE D ≠ 0) :
    Calls Tryz.prog 5 #[D.v] w fun e w' => e = .returned (.tuple #[.string ⟨#[]⟩, .int .i64 (chkE D)]) ∧ Below w.heap.size w w' := by
  have hb0 := (Below.refl _ w).alloc (Nat.le_refl _) (.cells #[.slice D.sa D.ns D.sc, .slice D.za D.nz D.zc, .slice D.la D.nl D.lc] 26)
  have HC := hideS (DCheck_c D _ (hE.on hb0) hF)
  have HB0 := hideS hb0
  generalize chkE D = e0 at *
  clear hb0 hE hF
  go_enter Tryz.func5, Tryz.ntmps5
  go_wp2_with (go_at_call 12; refine HC.out.mono ?_; rintro e w1 ⟨rfl, b1⟩)
  go_ret2
  exact ⟨rfl, bthen HB0.out b1⟩
end Go.Proofs.YtbpdbggojgijiaaGreatDoor.Src
