/- The times along which Compile asks, and that nothing turns between them (plain). -/
import Derived.Test.YtdffopkljomipaaGreatDoorOffBareM
import Derived.Test.YtdffopkljomipaaGreatDoorTableM
namespace Go.Proofs.YtdffopkljomipaaGreatDoor
open Go Go.RowKit Go.Maps
set_option linter.unusedVariables false

/-- where a rule begins in its first n years, between two times -/
def wiN (r : Rl) (fr un std : Int) (n : Nat) : List Int := ((List.range n).map fun (i : Nat) => begR r (r.f + (i : Int)) std).filter fun a => decide (fr < a) && decide (a < un)
def wiL (r : Rl) (fr un std : Int) : List Int := wiN r fr un std (r.t - r.f + 1).toNat
def ruN (D : Dt) (fr : Int) (x : Er) (m : Nat) : List Int := (List.range m).flatMap fun i => wiL ((D.ss x.set.toNat).rs i) fr x.un x.std
/-- an era's times, in the order in which they are found -/
def bgU (D : Dt) (fr : Int) (x : Er) : List Int := fr :: (if 0 ≤ x.set then ruN D fr x (D.ss x.set.toNat).n else [])
def srtI (l : List Int) : List Int := l.mergeSort fun a b => decide (a ≤ b)
def bgL (D : Dt) (fr : Int) (x : Er) : List Int := srtI (bgU D fr x)
/-- the times of a zone's first m eras -/
def tmN (D : Dt) (k m : Nat) : List Int := (List.range m).flatMap fun i => bgL D (frm (D.zs k).es i) ((D.zs k).es i)
def oeq (a b : Of) : Bool := a.tot == b.tot && (a.sv == b.sv && a.ab.data.toList == b.ab.data.toList)
theorem oeq_iff (a b : Of) : oeq a b = true ↔ a = b := by
  unfold oeq
  cases a with
  | mk a1 a2 a3 => cases b with
    | mk b1 b2 b3 =>
      cases a3 with
      | mk x => cases b3 with
        | mk y =>
          simp only [Bool.and_eq_true, beq_iff_eq, Of.mk.injEq, ByteArray.mk.injEq]
          constructor
          · rintro ⟨h1, h2, h3⟩; exact ⟨h1, h2, Array.toList_inj.1 h3⟩
          · rintro ⟨h1, h2, h3⟩; exact ⟨h1, h2, by rw [h3]⟩
/-- what Compile answers of a zone -/
def cmpT (D : Dt) (k : Nat) : List (Int × Of) := Tab.pushL oeq (offR D k) [] (tmN D k (D.zs k).n)
theorem srtI_mem {l : List Int} {a : Int} : a ∈ srtI l ↔ a ∈ l := (List.mergeSort_perm _ _).mem_iff
theorem srtI_up (l : List Int) : (srtI l).Pairwise fun a b => a ≤ b := by
  have h1 : (srtI l).Pairwise fun a b => decide (a ≤ b) = true := List.pairwise_mergeSort (fun a b c h1 h2 => by
    simp only [decide_eq_true_eq] at h1 h2 ⊢
    omega) (fun a b => by
    simp only [Bool.or_eq_true, decide_eq_true_eq]
    omega) l
  exact h1.imp (fun h => by simpa using h)
theorem wiL_in {r : Rl} {fr un std a : Int} (h : a ∈ wiL r fr un std) : fr < a ∧ a < un := by
  unfold wiL wiN at h
  have := (List.mem_filter.1 h).2
  simpa using this
theorem wiL_of {r : Rl} {fr un std y : Int} (h1 : r.f ≤ y) (h2 : y ≤ r.t) (h3 : fr < begR r y std) (h4 : begR r y std < un) : begR r y std ∈ wiL r fr un std := by
  unfold wiL wiN
  refine List.mem_filter.2 ⟨List.mem_map.2 ⟨(y - r.f).toNat, List.mem_range.2 (by omega), ?_⟩, by simp [h3, h4]⟩
  congr 1
  omega
theorem bgU_in {D : Dt} {fr a : Int} {x : Er} (hf : fr < x.un) (h : a ∈ bgU D fr x) : fr ≤ a ∧ a < x.un := by
  unfold bgU at h
  rcases List.mem_cons.1 h with h | h
  · omega
  · split at h
    · unfold ruN at h
      obtain ⟨i, _, hi⟩ := List.mem_flatMap.1 h
      have := wiL_in hi
      omega
    · cases h
theorem bgL_in {D : Dt} {fr a : Int} {x : Er} (hf : fr < x.un) (h : a ∈ bgL D fr x) : fr ≤ a ∧ a < x.un := bgU_in hf (srtI_mem.1 h)
theorem tmN_succ (D : Dt) (k m : Nat) : tmN D k (m + 1) = tmN D k m ++ bgL D (frm (D.zs k).es m) ((D.zs k).es m) := by
  unfold tmN
  rw [List.range_succ, List.flatMap_append]
  simp
theorem tmN_in {D : Dt} {k : Nat} {n : Nat} (h : ∀ i, i < n → frm (D.zs k).es i < ((D.zs k).es i).un) : ∀ m, m ≤ n → ∀ a ∈ tmN D k m, 0 ≤ a ∧ a < frm (D.zs k).es m
  | 0, _, a, ha => by simp [tmN] at ha
  | m + 1, hm, a, ha => by
    rw [tmN_succ] at ha
    have h0 := frm_nn h m (by omega)
    have h1 := h m (by omega)
    show 0 ≤ a ∧ a < ((D.zs k).es m).un
    rcases List.mem_append.1 ha with ha | ha
    · have := tmN_in h m (by omega) a ha
      omega
    · have := bgL_in h1 ha
      omega
theorem tmN_up {D : Dt} {k : Nat} {n : Nat} (h : ∀ i, i < n → frm (D.zs k).es i < ((D.zs k).es i).un) : ∀ m, m ≤ n → (tmN D k m).Pairwise fun a b => a ≤ b
  | 0, _ => by simp [tmN]
  | m + 1, hm => by
    rw [tmN_succ, List.pairwise_append]
    refine ⟨tmN_up h m (by omega), srtI_up _, fun a ha b hb => ?_⟩
    have h1 := tmN_in h m (by omega) a ha
    have h2 := bgL_in (h m (by omega)) hb
    omega
theorem tmN_zero {D : Dt} {k n : Nat} (h : ∀ i, i < n → frm (D.zs k).es i < ((D.zs k).es i).un) (hn : 1 ≤ n) : ∃ L, tmN D k n = 0 :: L := by
  have h0 : (0 : Int) ∈ tmN D k n := by
    unfold tmN
    refine List.mem_flatMap.2 ⟨0, List.mem_range.2 (by omega), srtI_mem.2 ?_⟩
    unfold bgU
    exact List.mem_cons.2 (.inl rfl)
  have hu := tmN_up h n (Nat.le_refl _)
  have hi := tmN_in h n (Nat.le_refl _)
  cases hL : tmN D k n with
  | nil => rw [hL] at h0; cases h0
  | cons a L =>
    rw [hL] at h0 hu hi
    have h1 := (hi a (by simp)).1
    have h2 : a ≤ 0 := by
      rcases List.mem_cons.1 h0 with g | g
      · omega
      · exact (List.pairwise_cons.1 hu).1 0 g
    have : a = 0 := by omega
    exact ⟨L, by rw [this]⟩
/-- the same has begun last, a second ahead of a time at which nothing begins -/
theorem yrs_same {t : Int} {g : Int → Int} {i f : Int} (acc : Int × Int) : ∀ n : Nat, (∀ j : Nat, j < n → g (f + j) ≠ t) → Lat.yrsTo (t - 1) g i f acc n = Lat.yrsTo t g i f acc n
  | 0, _ => rfl
  | n + 1, h => by
    unfold Lat.yrsTo
    rw [yrs_same acc n (fun j hj => h j (by omega))]
    unfold Lat.step
    have := h n (by omega)
    have e : (g (f + n) ≤ t - 1) = (g (f + n) ≤ t) := propext ⟨fun h => by omega, fun h => by omega⟩
    simp only [e]
theorem lat_same {t : Int} {fs ts : Nat → Int} {g : Nat → Int → Int} : ∀ n : Nat, (∀ i, i < n → ∀ y, fs i ≤ y → y ≤ ts i → g i y ≠ t) → Lat.lat (t - 1) fs ts g n = Lat.lat t fs ts g n
  | 0, _ => rfl
  | n + 1, h => by
    unfold Lat.lat
    rw [lat_same n (fun i hi => h i (by omega))]
    exact yrs_same _ _ fun j hj => h n (by omega) _ (by omega) (by omega)
theorem rul_same {rs : Nat → Rl} {n : Nat} {std t : Int} (t0 : 0 < t) (t1 : t < 1893456000) (h : ∀ i, i < n → ∀ y, (rs i).f ≤ y → y ≤ (rs i).t → begR (rs i) y std ≠ t) : rulS rs n std (t - 1) = rulS rs n std t ∧ rulL rs n std (t - 1) = rulL rs n std t := by
  have hl : latR rs std (t - 1) n = latR rs std t n := lat_same n h
  have hE : lastE rs n std (t - 1) = lastE rs n std t := by
    unfold lastE
    rw [hl]
    have h1 : inB (t - 1) 0 1893455999 = true := by unfold inB; simp; omega
    have h2 : inB t 0 1893455999 = true := by unfold inB; simp; omega
    rw [h1, h2]
  have hK : lastK rs n std (t - 1) = lastK rs n std t := by unfold lastK; rw [hE, hl]
  unfold rulS rulL
  rw [hE, hK]
  exact ⟨rfl, rfl⟩
/-- nothing turns between -/
theorem off_same {D : Dt} (hc : chkE D = 0) {k : Nat} (hk : k < D.nz) {t : Int} (t0 : 0 < t) (t1 : t < 1893456000) (hn : t ∉ tmN D k (D.zs k).n) : offR D k (t - 1) = offR D k t := by
  have hz := (chk_all hc).2.2.1 k hk
  have ha := fun i hi => (hz.1 i hi).2
  have hu := un_le ha
  have h1n := ((chk_all hc).1.2.2 k hk).1
  obtain ⟨j, hj, hje⟩ : ∃ j, j < (D.zs k).n ∧ eraI (D.zs k).es (D.zs k).n t = j := ⟨_, eraI_lt t h1n, rfl⟩
  have hju : t < ((D.zs k).es j).un ∧ ∀ i, i < j → ((D.zs k).es i).un ≤ t := by
    unfold eraI at hje
    cases hf : (List.range (D.zs k).n).find? (fun j => decide (t < ((D.zs k).es j).un)) with
    | none =>
      exfalso
      have h2 := List.find?_eq_none.1 hf ((D.zs k).n - 1) (List.mem_range.2 (by omega))
      have h3 : frm (D.zs k).es (D.zs k).n = ((D.zs k).es ((D.zs k).n - 1)).un := by
        obtain ⟨q, hq⟩ : ∃ q, (D.zs k).n = q + 1 := ⟨(D.zs k).n - 1, by omega⟩
        rw [hq]; rfl
      have h4 := hz.2
      rw [h3] at h4
      simp at h2
      omega
    | some q =>
      rw [hf] at hje
      simp at hje
      subst hje
      obtain ⟨g1, g2⟩ := List.find?_range_eq_some.1 hf |>.2
      exact ⟨by simpa using (List.find?_some hf), fun i hi => by
        have := g2 i hi
        simp at this
        exact this⟩
  have hfr : frm (D.zs k).es j ≤ t := by
    cases j with
    | zero => show (0 : Int) ≤ t; omega
    | succ q => exact hju.2 q (by omega)
  have hmem : ∀ a, a ∈ bgU D (frm (D.zs k).es j) ((D.zs k).es j) → a ∈ tmN D k (D.zs k).n := fun a h => List.mem_flatMap.2 ⟨j, List.mem_range.2 hj, srtI_mem.2 h⟩
  have hlt : frm (D.zs k).es j < t := by
    rcases Int.lt_or_eq_of_le hfr with h | h
    · exact h
    · exact absurd (hmem t (by unfold bgU; exact List.mem_cons.2 (.inl h.symm))) hn
  have hI : eraI (D.zs k).es (D.zs k).n (t - 1) = j := eraI_at hj (by omega) (fun i hi => by have := hu j (by omega) i hi; omega)
  have hX : offX D k (t - 1) = offX D k t := by unfold offX; rw [hI, hje]
  have hXe : offX D k t = (D.zs k).es j := by unfold offX; rw [hje]
  have key : 0 ≤ (offX D k t).set → rulS (D.ss (offX D k t).set.toNat).rs (D.ss (offX D k t).set.toNat).n (offX D k t).std (t - 1) = rulS (D.ss (offX D k t).set.toNat).rs (D.ss (offX D k t).set.toNat).n (offX D k t).std t ∧ rulL (D.ss (offX D k t).set.toNat).rs (D.ss (offX D k t).set.toNat).n (offX D k t).std (t - 1) = rulL (D.ss (offX D k t).set.toNat).rs (D.ss (offX D k t).set.toNat).n (offX D k t).std t := fun hs => by
    refine rul_same t0 t1 fun i hi y h1 h2 e => hn (hmem t ?_)
    rw [hXe] at hi h1 h2 e hs
    unfold bgU
    rw [if_pos hs]
    refine List.mem_cons.2 (.inr ?_)
    unfold ruN
    refine List.mem_flatMap.2 ⟨i, List.mem_range.2 hi, ?_⟩
    rw [← e]
    exact wiL_of h1 h2 (by omega) (by omega)
  have hS : offS D k (t - 1) = offS D k t := by
    unfold offS
    rw [hX]
    split
    · rename_i hs; exact (key hs).1
    · rfl
  have hL : offL D k (t - 1) = offL D k t := by
    unfold offL
    rw [hX]
    split
    · rename_i hs; exact (key hs).2
    · rfl
  unfold offR offA
  rw [hX, hS, hL]
/-- what Compile answers is just where something else holds -/
theorem cmp_inv {D : Dt} (hc : chkE D = 0) {k : Nat} (hk : k < D.nz) : Tab.Inv (offR D k) (cmpT D k) 1893455999 := by
  have hz := (chk_all hc).2.2.1 k hk
  have ha := fun i hi => (hz.1 i hi).2
  have h1n := ((chk_all hc).1.2.2 k hk).1
  obtain ⟨L, hL⟩ := tmN_zero ha h1n
  have hi := tmN_in ha _ (Nat.le_refl _)
  have hu := tmN_up ha _ (Nat.le_refl _)
  rw [hz.2] at hi
  have hs := fun t t0 t1 => off_same (t := t) hc hk t0 t1
  unfold cmpT
  rw [hL] at hi hu hs ⊢
  obtain ⟨p1, p2⟩ := List.pairwise_cons.1 hu
  refine Tab.inv_all oeq_iff L _ 0 (Tab.inv_first _) (Int.le_refl _) (fun a h => (hi a (by simp [h])).1) p2 _ (fun a h => by have := (hi a (by simp [h])).2; omega) (by decide) fun t h1 h2 h3 => ?_
  exact hs t h1 (by omega) (fun hm => by
    rcases List.mem_cons.1 hm with g | g
    · omega
    · exact h3 g)
end Go.Proofs.YtdffopkljomipaaGreatDoor
