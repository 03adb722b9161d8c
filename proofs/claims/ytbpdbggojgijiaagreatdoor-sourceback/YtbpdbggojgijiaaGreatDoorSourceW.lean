/- A line is taken into data, whatever it says. -/
import Derived.Test.YtbpdbggojgijiaaGreatDoorSourceV
namespace Go.Proofs.YtbpdbggojgijiaaGreatDoor.Src
open Go Go.RowKit Go.Maps
set_option linter.unusedVariables false

/-- what was taken, in a box -/
def GI (B db : Nat) (d : PD) (w : World) : Prop := ∃ (v1 v2 v3 : Value) (vs zs : List Value), w.heap[db]? = some (.cells #[v1, v2, v3] 26) ∧ LL 47 65 9 ruL B w v1 d.sets vs ∧ LL 51 67 5 erL B w v2 d.zones zs ∧ w.ownsRow B 54 2 v3 d.links.length (liL d.links)
abbrev gTs : List TypeId := [47, 51, 54, 65, 67, 26, 96]
theorem own_at {w : World} {B S n : Nat} {e : TypeId} {v : Value} {xs : List Value} (h : w.ownsRow B e S v n xs) : ∀ b, v.ownBlock = some b → ∃ c, w.heap[b]? = some (.cells c e (0, 0)) := by
  intro b hb
  rcases h.2 with ⟨rfl, _⟩ | ⟨g, cap, cur, rfl, _, hg, _⟩
  · cases hb
  · injection hb with hb
    subst hb
    exact ⟨cur, hg⟩
theorem ko_g {o : Option Nat} {ts : List TypeId} {t : TypeId} {w w' : World} (hk : KO o ts w w') (hs : ∀ x, x ∈ ts → x ∈ gTs) (ho : ∀ b, o = some b → ∃ c, w.heap[b]? = some (.cells c t (0, 0))) (ht : t ∈ gTs) : KT gTs w w' := fun b cs ty fr hb h1 => by
  refine hk b cs ty fr hb (fun e => h1 (hs _ e)) fun e => ?_
  obtain ⟨c, hc⟩ := ho b e.symm
  rw [hb] at hc
  simp at hc
  exact h1 (hc.2.1 ▸ ht)
theorem own_some {w : World} {B S n : Nat} {e : TypeId} {v : Value} {xs : List Value} (h : w.ownsRow B e S v n xs) (hn : 0 < n) : ∃ g c, v = .slice (some ⟨g, 0, none⟩) n c := by
  rcases h.2 with ⟨_, h0⟩ | ⟨g, cap, cur, rfl, _⟩
  · omega
  · exact ⟨g, cap, rfl⟩
theorem wd0 (l : By) : wd (cutB 32 l) 0 = hdW l := (wN_wd 0 l).symm
set_option maxHeartbeats 2000000 in
theorem take_c (B db : Nat) (l : By) (w : World) (d : PD) (h : GI B db d w) {M : Nat} (hk : lim 999999 M d) (hB : B ≤ w.heap.size) (hX : ∀ v : World, Below B w v → EVs v) (hBd : B ≤ db) (hl : l.length < 4294967281) :
    Calls Tryz.prog 46 #[.pointer (some ⟨db, 0, none⟩), .agg #[.string ⟨l.toArray⟩]] w fun e w' => e = .returned (.tuple #[]) ∧ GI B db (takeW numA d (cutB 32 l)) w' ∧ Below B w w' ∧ KT gTs w w' := by
  obtain ⟨v1, v2, v3, vs, zs, hd, hs, hz, hlk⟩ := h
  obtain ⟨s1, c1, rfl⟩ := ownS_sl hs.row
  obtain ⟨s2, c2, rfl⟩ := ownS_sl hz.row
  obtain ⟨s3, c3, rfl⟩ := ownS_sl hlk
  unfold takeW
  rw [wd0]
  by_cases k1 : hdW l = wSet
  · rw [if_pos k1]
    refine (take_set_c B db l w s1 _ c1 _ _ _ hd hB hX hBd hs.row (by have := hk.s; omega) hl k1).mono ?_
    rintro e w' ⟨rfl, a2, d2, q1, q2, q3, q4⟩
    refine ⟨rfl, ⟨_, _, _, _, _, q1, hs.more (wd (cutB 32 l) 1) rfl q4 (by decide) ?_, hz.kt q4 (by decide) (by decide), kt_own q4 hlk (by decide)⟩, q3, kt_more q4 (by decide)⟩
    rw [← wN_wd 1 l]
    exact q2
  rw [if_neg k1]
  by_cases k2 : hdW l = wRule
  · rw [if_pos k2]
    obtain ⟨ss, hss⟩ : ∃ ss, ss = d.sets := ⟨_, rfl⟩
    have hks := hk.s
    have hkr := hk.ss
    rw [← hss] at hs hd hks hkr
    simp only [← hss]
    rcases List.eq_nil_or_concat ss with rfl | ⟨L, ⟨n, r⟩, rfl⟩
    · refine (take_rule0_c B db l w s1 c1 _ _ hd hB hX hl k2).mono ?_
      rintro e w' ⟨rfl, q3, q4⟩
      exact ⟨rfl, ⟨_, _, _, _, _, q4 _ _ _ _ hd (by decide), hs.kt q4 (by decide) (by decide), hz.kt q4 (by decide) (by decide), kt_own q4 hlk (by decide)⟩, q3, kt_more q4 (by decide)⟩
    · rw [List.concat_eq_append] at *
      rw [onLast_app]
      have hvl := hs.len
      rcases List.eq_nil_or_concat vs with rfl | ⟨us, u, rfl⟩
      · simp at hvl
      rw [List.concat_eq_append] at *
      have hul : us.length = L.length := by simpa using hvl
      have hlL : (L ++ [(n, r)]).length = L.length + 1 := by simp
      rw [hlL] at hd hks hs
      have hrow := hs.row
      rw [hlL] at hrow
      obtain ⟨g, cc, he⟩ := own_some hrow (by omega)
      injection he with he1 he2 he3
      subst he1
      have hin := hs.ins L.length (n, r) u (by simp) (by rw [← hul]; simp)
      obtain ⟨ra, rc, rfl⟩ := ownS_sl hin
      have hxs : (seL (L ++ [(n, r)]) (us ++ [.slice ra r.length rc]))[L.length * 2 + 1]? = some (.slice ra r.length rc) := by
        rw [seL_app hul.symm, List.getElem?_append_right (by rw [seL_len hul]; omega), seL_len hul]
        have e : L.length * 2 + 1 - L.length * 2 = 1 := by omega
        rw [e]
        rfl
      refine (take_rule_c B db g L.length l w c1 _ _ _ (ruL r) ra r.length rc hd hB hX hBd hrow hxs hin (by omega) (by have := (hkr (n, r) (by simp)).2.1; simp only at this; omega) hl k2 (ruL [ruleOf numA (cutB 32 l)]) (by simp only [wN_wd]; rfl)).mono ?_
      rintro e w' ⟨rfl, a2, d2, q1, q2, q3, q4, q5, q6⟩
      have hob := own_at hin
      refine ⟨rfl, ⟨_, _, _, _, _, q1, hs.last (ruleOf numA (cutB 32 l)) (by unfold ruL; rw [List.flatMap_append]) hul q5 (by decide) q2 q3 q6, hz.ko q5 hob (by decide) (by decide) (by decide) (by decide), ?_⟩, q4, ko_g q5 (by decide) hob (by decide)⟩
      · refine kt_own (ts := [47, 96, 65]) (fun b cs ty fr hb h1 => q5 b cs ty fr hb (fun e => h1 (List.mem_of_mem_take (i := 2) e)) fun e => ?_) hlk (by decide)
        obtain ⟨c, hc⟩ := hob b e.symm
        rw [hb] at hc
        simp at hc
        exact h1 (by rw [hc.2.1]; decide)
  rw [if_neg k2]
  by_cases k3 : hdW l = wZone
  · rw [if_pos k3]
    refine (take_zone_c B db l w s2 _ c2 _ _ _ hd hB hX hBd hz.row (by have := hk.z; omega) hl k3).mono ?_
    rintro e w' ⟨rfl, a2, d2, q1, q2, q3, q4⟩
    refine ⟨rfl, ⟨_, _, _, _, _, q1, hs.kt q4 (by decide) (by decide), hz.more (wd (cutB 32 l) 1) rfl q4 (by decide) ?_, kt_own q4 hlk (by decide)⟩, q3, kt_more q4 (by decide)⟩
    rw [← wN_wd 1 l]
    exact q2
  rw [if_neg k3]
  by_cases k4 : hdW l = wEra
  · rw [if_pos k4]
    obtain ⟨ss, hss⟩ : ∃ ss, ss = d.zones := ⟨_, rfl⟩
    have hks := hk.z
    have hkr := hk.zs
    rw [← hss] at hz hd hks hkr
    simp only [← hss]
    rcases List.eq_nil_or_concat ss with rfl | ⟨L, ⟨n, r⟩, rfl⟩
    · refine (take_era0_c B db l w s2 c2 _ _ hd hB hX hl k4).mono ?_
      rintro e w' ⟨rfl, q3, q4⟩
      exact ⟨rfl, ⟨_, _, _, _, _, q4 _ _ _ _ hd (by decide), hs.kt q4 (by decide) (by decide), hz.kt q4 (by decide) (by decide), kt_own q4 hlk (by decide)⟩, q3, kt_more q4 (by decide)⟩
    · rw [List.concat_eq_append] at *
      rw [onLast_app]
      have hvl := hz.len
      rcases List.eq_nil_or_concat zs with rfl | ⟨us, u, rfl⟩
      · simp at hvl
      rw [List.concat_eq_append] at *
      have hul : us.length = L.length := by simpa using hvl
      have hlL : (L ++ [(n, r)]).length = L.length + 1 := by simp
      rw [hlL] at hd hks hz
      have hrow := hz.row
      rw [hlL] at hrow
      obtain ⟨g, cc, he⟩ := own_some hrow (by omega)
      injection he with he1 he2 he3
      subst he1
      have hin := hz.ins L.length (n, r) u (by simp) (by rw [← hul]; simp)
      obtain ⟨ra, rc, rfl⟩ := ownS_sl hin
      have hxs : (seL (L ++ [(n, r)]) (us ++ [.slice ra r.length rc]))[L.length * 2 + 1]? = some (.slice ra r.length rc) := by
        rw [seL_app hul.symm, List.getElem?_append_right (by rw [seL_len hul]; omega), seL_len hul]
        have e : L.length * 2 + 1 - L.length * 2 = 1 := by omega
        rw [e]
        rfl
      refine (take_era_c B db g L.length l w c2 _ _ _ (erL r) ra r.length rc hd hB hX hBd hrow hxs hin (by omega) (by have := (hkr (n, r) (by simp)).2.1; simp only at this; omega) hl k4 (erL [eraOf numA (cutB 32 l)]) (by simp only [wN_wd]; rfl)).mono ?_
      rintro e w' ⟨rfl, a2, d2, q1, q2, q3, q4, q5, q6⟩
      have hob := own_at hin
      refine ⟨rfl, ⟨_, _, _, _, _, q1, hs.ko q5 hob (by decide) (by decide) (by decide) (by decide), hz.last (eraOf numA (cutB 32 l)) (by unfold erL; rw [List.flatMap_append]) hul q5 (by decide) q2 q3 q6, ?_⟩, q4, ko_g q5 (by decide) hob (by decide)⟩
      · refine kt_own (ts := [51, 96, 67]) (fun b cs ty fr hb h1 => q5 b cs ty fr hb (fun e => h1 (List.mem_of_mem_take (i := 2) e)) fun e => ?_) hlk (by decide)
        obtain ⟨c, hc⟩ := hob b e.symm
        rw [hb] at hc
        simp at hc
        exact h1 (by rw [hc.2.1]; decide)
  rw [if_neg k4]
  by_cases k5 : hdW l = wLink
  · rw [if_pos k5]
    refine (take_link_c B db l w s3 _ c3 _ _ _ hd hB hX hBd hlk (by have := hk.l; omega) hl k5).mono ?_
    rintro e w' ⟨rfl, a2, d2, q1, q2, q3, q4⟩
    refine ⟨rfl, ⟨_, _, _, _, _, q1, hs.kt q4 (by decide) (by decide), hz.kt q4 (by decide) (by decide), ?_⟩, q3, kt_more q4 (by decide)⟩
    have e : liL (d.links ++ [(wd (cutB 32 l) 1, wd (cutB 32 l) 2)]) = liL d.links ++ [.string ⟨(wN 1 l).toArray⟩, .string ⟨(wN 2 l).toArray⟩] := by
      unfold liL
      rw [List.flatMap_append, wN_wd, wN_wd]
      rfl
    show w'.ownsRow B _ 2 _ (d.links ++ [(wd (cutB 32 l) 1, wd (cutB 32 l) 2)]).length _
    rw [e, List.length_append]
    exact q2
  · rw [if_neg k5]
    refine (take_none_c B db l w hB hX hl k1 k2 k3 k4 k5).mono ?_
    rintro e w' ⟨rfl, q3, q4⟩
    exact ⟨rfl, ⟨_, _, _, _, _, q4 _ _ _ _ hd (by decide), hs.kt q4 (by decide) (by decide), hz.kt q4 (by decide) (by decide), kt_own q4 hlk (by decide)⟩, q3, kt_more q4 (by decide)⟩
/-- the cells of a list, by places -/
theorem flat_row {α : Type} (f : α → List Value) (l : List α) (d0 : α) : l.flatMap f = rowC (fun j => f (l[j]?.getD d0)) l.length := by
  unfold rowC
  rw [List.flatMap_def, list_range l f d0, ← List.flatMap_def]
def slA : Value → Option Addr
  | .slice a _ _ => a
  | _ => none
def slC : Value → Nat
  | .slice _ _ c => c
  | _ => 0
abbrev s00 {α : Type} : By × List α := ([], [])
theorem sl_eq {w : World} {B S n : Nat} {e : TypeId} {v : Value} {xs : List Value} (h : w.ownsRow B e S v n xs) : v = .slice (slA v) n (slC v) := by
  obtain ⟨a, c, rfl⟩ := ownS_sl h
  rfl
theorem seL_row {α : Type} (ss : List (By × List α)) (vs : List Value) (hl : vs.length = ss.length) : seL ss vs = rowC (seC (fun j => ⟨(ss[j]?.getD s00).1.toArray⟩) (fun j => vs[j]?.getD undef)) ss.length := by
  unfold seL
  rw [flat_row _ _ (s00, undef)]
  have e : (ss.zip vs).length = ss.length := by rw [List.length_zip, hl, Nat.min_self]
  rw [e]
  refine rowC_congr fun j hj => ?_
  have h1 : ss[j]? = some ss[j] := List.getElem?_eq_getElem hj
  have h2 : vs[j]? = some (vs[j]'(by omega)) := List.getElem?_eq_getElem _
  have h3 : (ss.zip vs)[j]? = some (ss[j], vs[j]'(by omega)) := by
    rw [List.getElem?_zip_eq_some]
    exact ⟨h1, h2⟩
  rw [h3]
  unfold seC
  simp only [h1, h2, Option.getD_some]
def r00 : Rl := ⟨0, 0, 0, 0, 0, 0, 0, 0, ⟨#[]⟩⟩
def e00 : Er := ⟨0, 0, 0, ⟨#[]⟩, 0⟩
theorem ruL_row (rs : List Rl) : ruL rs = rowC (ruC fun i => rs[i]?.getD r00) rs.length := flat_row _ rs r00
theorem erL_row (es : List Er) : erL es = rowC (erC fun i => es[i]?.getD e00) es.length := flat_row _ es e00
theorem liL_row (ls : List (By × By)) : liL ls = rowC (liC (fun j => ⟨(ls[j]?.getD ([], [])).1.toArray⟩) (fun j => ⟨(ls[j]?.getD ([], [])).2.toArray⟩)) ls.length := flat_row _ ls ([], [])
theorem range_self {α : Type} (l : List α) (d0 : α) : (List.range l.length).map (fun j => l[j]?.getD d0) = l := by
  have := list_range l id d0
  simp only [List.map_id_fun, id] at this
  exact this.symm
theorem se_row2 {w : World} {base n c : Nat} {a : Option Addr} {nm : Nat → ByteArray} {vs : Nat → Value} {e : TypeId} (h : w.ownsRow base e 2 (.slice a n c) n (rowC (seC nm vs) n)) : P2 w a n (fun j => .string (nm j)) vs := by
  obtain ⟨a', c', he, k⟩ := se_row h
  injection he with h1 h2 h3
  subst h1
  exact k
theorem li_row2 {w : World} {base n c : Nat} {a : Option Addr} {l1 l2 : Nat → ByteArray} {e : TypeId} (h : w.ownsRow base e 2 (.slice a n c) n (rowC (liC l1 l2) n)) : P2 w a n (fun j => .string (l1 j)) (fun j => .string (l2 j)) := by
  obtain ⟨a', c', he, k⟩ := li_row h
  injection he with h1 h2 h3
  subst h1
  exact k
theorem ru_row2 {w : World} {base n c : Nat} {a : Option Addr} {rs : Nat → Rl} {e : TypeId} (h : w.ownsRow base e 9 (.slice a n c) n (rowC (ruC rs) n)) : ARow w a n c rs := by
  obtain ⟨a', c', he, k⟩ := ru_row h
  injection he with h1 h2 h3
  subst h1 h3
  exact k
theorem er_row2 {w : World} {base n c : Nat} {a : Option Addr} {es : Nat → Er} {e : TypeId} (h : w.ownsRow base e 5 (.slice a n c) n (rowC (erC es) n)) : ERow w a n es := by
  obtain ⟨a', c', he, k⟩ := er_row h
  injection he with h1 h2 h3
  subst h1
  exact k
theorem at_get {α : Type} {l : List α} {j : Nat} (d0 : α) (hj : j < l.length) : l[j]? = some (l[j]?.getD d0) := by
  rw [List.getElem?_eq_getElem hj]
  rfl
set_option maxHeartbeats 1000000 in
/-- data that were taken, as data in memory -/
theorem gi_dt {B db k M : Nat} {d : PD} {w : World} (h : GI B db d w) (hk : lim k M d) (hk1 : k ≤ maxLen) (hM : M ≤ maxLen) : ∃ D : Dt, w.heap[db]? = some (.cells #[.slice D.sa D.ns D.sc, .slice D.za D.nz D.zc, .slice D.la D.nl D.lc] 26) ∧ (∀ w' : World, KT [26] w w' → DAt w' D) ∧ D.fits ∧ pdOf D = d := by
  obtain ⟨v1, v2, v3, vs, zs, hd, hs, hz, hlk⟩ := h
  obtain ⟨a1, c1, rfl⟩ := ownS_sl hs.row
  obtain ⟨a2, c2, rfl⟩ := ownS_sl hz.row
  obtain ⟨a3, c3, rfl⟩ := ownS_sl hlk
  have hgs : ∀ j, j < d.sets.length → d.sets[j]? = some (d.sets[j]?.getD s00) ∧ vs[j]? = some (vs[j]?.getD undef) := fun j hj => ⟨at_get _ hj, at_get _ (by rw [hs.len]; exact hj)⟩
  have hgz : ∀ j, j < d.zones.length → d.zones[j]? = some (d.zones[j]?.getD s00) ∧ zs[j]? = some (zs[j]?.getD undef) := fun j hj => ⟨at_get _ hj, at_get _ (by rw [hz.len]; exact hj)⟩
  have mem_s : ∀ j, j < d.sets.length → d.sets[j]?.getD s00 ∈ d.sets := fun j hj => List.mem_of_getElem? (hgs j hj).1
  have mem_z : ∀ j, j < d.zones.length → d.zones[j]?.getD s00 ∈ d.zones := fun j hj => List.mem_of_getElem? (hgz j hj).1
  have mem_l : ∀ j, j < d.links.length → d.links[j]?.getD ([], []) ∈ d.links := fun j hj => List.mem_of_getElem? (at_get _ hj)
  have in_s : ∀ j, j < d.sets.length → vs[j]?.getD undef = .slice (slA (vs[j]?.getD undef)) (d.sets[j]?.getD s00).2.length (slC (vs[j]?.getD undef)) := fun j hj => sl_eq (hs.ins j _ _ (hgs j hj).1 (hgs j hj).2)
  have in_z : ∀ j, j < d.zones.length → zs[j]?.getD undef = .slice (slA (zs[j]?.getD undef)) (d.zones[j]?.getD s00).2.length (slC (zs[j]?.getD undef)) := fun j hj => sl_eq (hz.ins j _ _ (hgz j hj).1 (hgz j hj).2)
  refine ⟨{ sa := a1, ns := d.sets.length, sc := c1, ss := fun j => ⟨⟨(d.sets[j]?.getD s00).1.toArray⟩, slA (vs[j]?.getD undef), (d.sets[j]?.getD s00).2.length, slC (vs[j]?.getD undef), fun i => (d.sets[j]?.getD s00).2[i]?.getD r00⟩, za := a2, nz := d.zones.length, zc := c2, zs := fun j => ⟨⟨(d.zones[j]?.getD s00).1.toArray⟩, slA (zs[j]?.getD undef), (d.zones[j]?.getD s00).2.length, slC (zs[j]?.getD undef), fun i => (d.zones[j]?.getD s00).2[i]?.getD e00⟩, la := a3, nl := d.links.length, lc := c3, ls := fun j => ⟨⟨(d.links[j]?.getD ([], [])).1.toArray⟩, ⟨(d.links[j]?.getD ([], [])).2.toArray⟩⟩ }, hd, fun w' hk => ?_, ?_, ?_⟩
  · have hs' := hs.kt hk (by decide) (by decide)
    have hz' := hz.kt hk (by decide) (by decide)
    have hl' := kt_own hk hlk (by decide)
    have r1 := hs'.row
    have r2 := hz'.row
    rw [seL_row _ _ hs.len] at r1
    rw [seL_row _ _ hz.len] at r2
    rw [liL_row] at hl'
    refine ⟨(se_row2 r1).congr rfl fun j hj => ⟨rfl, in_s j hj⟩, fun j hj => ?_, (se_row2 r2).congr rfl fun j hj => ⟨rfl, in_z j hj⟩, fun j hj => ?_, li_row2 hl'⟩
    · have := hs'.ins j _ _ (hgs j hj).1 (hgs j hj).2
      rw [in_s j hj, ruL_row] at this
      exact ru_row2 this
    · have := hz'.ins j _ _ (hgz j hj).1 (hgz j hj).2
      rw [in_z j hj, erL_row] at this
      exact er_row2 this
  · have q : ∀ {l : By}, l.length ≤ M → (⟨l.toArray⟩ : ByteArray).size ≤ maxLen := fun {l} hl => by
      show l.toArray.size ≤ maxLen
      simp
      omega
    refine ⟨Nat.le_trans hk.s hk1, Nat.le_trans hk.z hk1, Nat.le_trans hk.l hk1, fun j hj => q (hk.ss _ (mem_s j hj)).1, fun j hj => Nat.le_trans (hk.ss _ (mem_s j hj)).2.1 hk1, fun j hj i hi => ?_, fun j hj => q (hk.zs _ (mem_z j hj)).1, fun j hj => Nat.le_trans (hk.zs _ (mem_z j hj)).2.1 hk1, fun j hj i hi => ?_, fun j hj => q (hk.ls _ (mem_l j hj)).1, fun j hj => q (hk.ls _ (mem_l j hj)).2⟩
    · exact Nat.le_trans ((hk.ss _ (mem_s j hj)).2.2 _ (List.mem_of_getElem? (at_get _ hi))) hM
    · exact Nat.le_trans ((hk.zs _ (mem_z j hj)).2.2 _ (List.mem_of_getElem? (at_get _ hi))) hM
  · unfold pdOf
    simp only [range_self]
end Go.Proofs.YtbpdbggojgijiaaGreatDoor.Src
