import PyProof.Rows.All
import HandS.TupSets
import HandS.SetKeys
import Wide.All
import OpenK.AllK
import Wide.FinOn
import HandS.Base
import HandS.Call
import HandS.List
import HandS.TupMul
import HandS.Comp
import HandS.Iter
import HandS.Text
import HandS.Ends
import HandS.StrMore
import HandS.More
import HandS.Deep
import HandS.IsInst
import HandS.TupAny
import HandS.TupLe
import KE.SortData
import HandS.Wide
import KE.DataFind
import HandS.Strs
import KE.KTupSum
import HandS.Exc
import HandS.ExcOwn
import HandS.CallSlots
import HandS.Flow
import HandS.Dict
import HandS.WordsDict
import KE.GoesEnum
import KE.GoesEnumKw
import HandS.Zip
import HandS.TryOnly
import HandS.Words
import HandS.WordsExc
import KE.KEqSeq
import PySem.Challenge.RW_cutpapers_k11_states_and_letters
set_option linter.all false
set_option Elab.async false
set_option maxRecDepth 100000
set_option maxHeartbeats 2000000
/-! Sets of tuples whose items are numbers and texts: what a search asks of its tuples. -/
namespace Ms
open PySem PySem.Spec PyProof.Rows L2

section
variable {P : Program} {w : World} {A : Around} {E : Value → Shared → Prop} {s : Shared}
/-- the tuple at b has the keys k -/
abbrev Mx (P : Program) (w : World) (h : Heap) (k : List Key) (b : Addr) : Prop := (tupleKind (mixKind P w)).is h k b
abbrev mh (P : Program) (w : World) (k : List Key) : Int := (tupleKind (mixKind P w)).hash k

theorem flat_class {k : Key} {v : Value} (e : (mixKind P w).is k v = true) (n : Nat) : ofAClassStatement n v = pure false := by
  rcases keyIs_shape e with ⟨_, _, _, rfl⟩ | ⟨_, _, _, rfl⟩ <;> cases n <;> rfl
theorem flat_hash {k : Key} {v : Value} (e : (mixKind P w).is k v = true) (n : Nat) : ∃ c, hashByValue n v = pure c := by
  rcases keyIs_shape e with ⟨_, _, _, rfl⟩ | ⟨_, _, _, rfl⟩ <;> cases n <;> exact ⟨_, rfl⟩
theorem flats {ks : List Key} {vs : List Value} (h : ItemsAre (mixKind P w) ks vs) : ∀ v ∈ vs, ∃ k, (mixKind P w).is k v = true := by
  induction h with
  | nil => exact fun v hv => nomatch hv
  | cons h1 _ ih =>
    intro v hv
    cases hv with
    | head => exact ⟨_, h1⟩
    | tail _ hv => exact ih v hv

theorem mx_class {k : List Key} {b : Addr} {R : Bool → Shared → Prop} (hb : Mx P w s.heap k b) (h : R false s) : wpAny (model P w) A (ofAClassStatement 8 (.ref b)) R E s := by
  have ty := IsTupleKey.typeIs hb
  obtain ⟨ob, vs, n, hob, _, hdt, its⟩ := hb
  unfold ofAClassStatement
  refine wpAny_bind (wpAny_typeOf ty ?_)
  have e : (("tuple" : String) == "tuple") = true := rfl
  simp only [e, if_true, Bool.not_true]
  try refine wpAny_bind (wpAny_pure ?_)
  try simp only [Bool.not_true, Bool.false_eq_true, if_false]
  show wpAny _ _ (seqItems? (.ref b) >>= _) R E s
  refine wpAny_bind (wpAny_seqItems hob hdt ?_)
  refine wpAny_bind ?_
  show wpAny _ _ (forIn vs _ _) _ E s
  rw [← Array.forIn_toList]
  refine wpAny_forIn_list _ (fun l r s' => s' = s ∧ r.1 = none ∧ ∀ v ∈ l, ∃ k, (mixKind P w).is k v = true) _ (fun v l r s' q => ?_) (fun r s' q => ?_) _ _ ⟨rfl, rfl, flats its⟩
  · obtain ⟨rfl, h1, h2⟩ := q
    obtain ⟨c, hc⟩ := h2 v (.head _)
    rw [flat_class hc]
    refine wpAny_bind (wpAny_pure ?_)
    exact wpAny_pure ⟨rfl, rfl, fun u hu => h2 u (.tail _ hu)⟩
  · obtain ⟨rfl, h1, _⟩ := q
    cases r with
    | mk r1 r2 =>
      cases h1
      exact wpAny_pure h
theorem mx_hash {k : List Key} {b : Addr} {R : Bool → Shared → Prop} (hb : Mx P w s.heap k b) (h : ∀ c, R c s) : wpAny (model P w) A (hashByValue 8 (.ref b)) R E s := by
  have ty := IsTupleKey.typeIs hb
  obtain ⟨ob, vs, n, hob, _, hdt, its⟩ := hb
  unfold hashByValue
  refine wpAny_bind (wpAny_specialOf ty F.slot_tuple_hash.lookup ?_)
  show wpAny _ _ (seqItems? (.ref b) >>= _) R E s
  refine wpAny_bind (wpAny_seqItems hob hdt ?_)
  refine wpAny_bind ?_
  show wpAny _ _ (forIn vs _ _) _ E s
  rw [← Array.forIn_toList]
  refine wpAny_forIn_list _ (fun l r s' => s' = s ∧ r.1 = none ∧ ∀ v ∈ l, ∃ k, (mixKind P w).is k v = true) _ (fun v l r s' q => ?_) (fun r s' q => ?_) _ _ ⟨rfl, rfl, flats its⟩
  · obtain ⟨rfl, h1, h2⟩ := q
    obtain ⟨c, hc⟩ := h2 v (.head _)
    obtain ⟨z, ez⟩ := flat_hash hc 7
    rw [ez]
    refine wpAny_bind (wpAny_pure ?_)
    cases z with
    | true => exact wpAny_pure ⟨rfl, rfl, fun u hu => h2 u (.tail _ hu)⟩
    | false => exact wpAny_pure (wpAny_pure (h false))
  · obtain ⟨rfl, h1, _⟩ := q
    cases r with
    | mk r1 r2 =>
      cases h1
      exact wpAny_pure (h true)
theorem mx_seen {k : List Key} {b : Addr} {R : Bool → Shared → Prop} (hb : Mx P w s.heap k b) {ys : List Value} (hy : ∀ y ∈ ys, ∃ k c, y = Value.ref c ∧ Mx P w s.heap k c) (h : R false s) :
    wpAny (model P w) A (searchCouldBeSeen (.ref b) ys) R E s := by
  unfold searchCouldBeSeen
  refine wpAny_bind (wpAny_forIn_list _ (fun l r s' => s' = s ∧ r.1 = none ∧ ∀ y ∈ l, ∃ k c, y = Value.ref c ∧ Mx P w s.heap k c) _ (fun v l r s' q => ?_) (fun r s' q => ?_) _ _ ⟨rfl, rfl, hy⟩)
  · obtain ⟨rfl, h1, h2⟩ := q
    obtain ⟨_, c, rfl, hc⟩ := h2 v (.head _)
    have go : (∀ y ∈ l, ∃ k c, y = Value.ref c ∧ Mx P w s'.heap k c) := fun u hu => h2 u (.tail _ hu)
    dsimp only
    split
    · exact wpAny_pure ⟨rfl, rfl, go⟩
    · refine wpAny_bind (wpAny_eqIsQuiet_tuple hb ?_)
      refine wpAny_bind (wpAny_eqIsQuiet_tuple hc ?_)
      refine wpAny_bind (mx_class hb ?_)
      refine wpAny_bind (mx_class hc ?_)
      exact wpAny_pure ⟨rfl, rfl, go⟩
  · obtain ⟨rfl, h1, _⟩ := q
    cases r with
    | mk r1 r2 =>
      cases h1
      exact wpAny_pure h
end
end Ms

set_option linter.all false
set_option Elab.async false
set_option maxRecDepth 100000
set_option maxHeartbeats 2000000
/-! .. how such a tuple is looked for. -/
namespace Ms
open PySem PySem.Spec PyProof.Rows L2

section
variable (P : Program) (w : World)
def lay (L : List (Addr × List Key)) : List (Int × Value) := L.map fun p => (mh P w p.2, Value.ref p.1)
structure SM (h : Heap) (a : Addr) (L : List (Addr × List Key)) (es : Array (Int × Value)) (ep : Nat) (t : SetTable) : Prop where
  at_ : ∃ o, h.get? a = some o ∧ o.ExactSet ∧ o.data = .set es ep t
  rw_ : es.toList = lay P w L
  tab : TabOk t (L.map fun p => mh P w p.2)
  nd : (L.map Prod.snd).Nodup
  tu : ∀ p ∈ L, Mx P w h p.2 p.1
  rm : L.length * 5 < t.mask * 3
  fw : L.length < 64
end
section
variable {P : Program} {w : World} {A : Around} {E : Value → Shared → Prop} {s : Shared} {a : Addr} {L : List (Addr × List Key)} {es : Array (Int × Value)} {ep : Nat} {t : SetTable}
theorem lay_len {M : List (Addr × List Key)} (h : es.toList = lay P w M) : es.size = M.length := by
  rw [← Array.length_toList, h, lay, List.length_map]
theorem lay_at (h : es.toList = lay P w L) {i : Nat} {p : Addr × List Key} (e : L[i]? = some p) : es[i]? = some (mh P w p.2, Value.ref p.1) := by
  rw [← Array.getElem?_toList, h, lay, List.getElem?_map, e]
  rfl
theorem SM.fits (R : SM P w s.heap a L es ep t) : t.fits es.size = true := by
  have a1 : t.place.size = L.length := R.tab.sz.trans (by rw [List.length_map])
  have a2 := lay_len R.rw_
  have a3 := R.rm
  have a4 : t.dummies.size = 0 := by rw [R.tab.dm]; rfl
  simp only [SetTable.fits, SetTable.fill, a1, a2, a4, beq_self_eq_true, Bool.true_and, decide_eq_true_eq]
  omega
theorem SM.gw (R : SM P w s.heap a L es ep t) : t.gaveWay = false := by
  have o := mask_odd R.tab.mok
  simp [SetTable.gaveWay, o]
/-- the c-th place of the way, with all that belongs to it -/
abbrev pr (m : Nat) (H : Int) (c : Nat) : SetTable.Probe := nth m (runAt m (SetTable.bits H % (m + 1)) (SetTable.bits H)) c
theorem pr_add (m : Nat) (H : Int) (c q : Nat) : nth m (pr m H c) q = pr m H (c + q) := (nth_add m c _ q).symm
theorem pr_clean (m : Nat) (H : Int) (c : Nat) : (pr m H c).dummy = none := by
  have : ∀ (n : Nat) (p : SetTable.Probe), p.dummy = none → (nth m p n).dummy = none := by
    intro n
    induction n with
    | zero => exact fun p e => e
    | succ n ih => exact fun p e => ih _ (by unfold adv; split <;> exact e)
  exact this c _ rfl
theorem look (R : SM P w s.heap a L es ep t) {x : Addr} {k : List Key} (hx : Mx P w s.heap k x) (hu : A.units < cLine) {K : Nat} (hKf : K < 10 * SetTable.turns t.mask) (hK : way t.mask (mh P w k) K ∉ t.place.toList)
    (hKb : ∀ c, c < K → way t.mask (mh P w k) c ∈ t.place.toList) {R' : SetFound → Shared → Prop} (hin : k ∈ L.map Prod.snd → R' (.there none) s) (hout : k ∉ L.map Prod.snd → R' (.free (way t.mask (mh P w k) K) false) s) :
    ∀ (f c : Nat) (st : Option SetTable.Probe), st.getD (t.probeStart (mh P w k)) = pr t.mask (mh P w k) c → c ≤ K → K - c < f →
      (∀ (i : Nat) p, L[i]? = some p → p.2 = k → ∃ d, c ≤ d ∧ d < K ∧ t.place.toList[i]? = some (way t.mask (mh P w k) d)) →
      wpAny (model P w) A (setSearchFrom a (.ref x) (mh P w k) true f st) R' E s := by
  intro f
  induction f with
  | zero => exact fun c st _ _ hf => absurd hf (Nat.not_lt_zero _)
  | succ f ih =>
    intro c st est hc hf hre
    obtain ⟨o, ho, hex, hdt⟩ := R.at_
    rw [L2.setSearchFrom_succ]
    refine wpAny_bind (wpAny_setState_of ho hdt R.fits ?_)
    simp only [R.gw, Bool.false_eq_true, if_false]
    try refine wpAny_bind (wpAny_pure ?_)
    generalize hH : mh P w k = H at hK hKb hout est hre ih ⊢
    let hashAt : Nat → Int := fun i => (es[i]?.map (·.1)).getD 0
    have hAt : ∀ (i : Nat) p, L[i]? = some p → hashAt i = mh P w p.2 := fun i p e => by
      show (es[i]?.map (·.1)).getD 0 = _
      rw [lay_at R.rw_ e]
      rfl
    have wy : ∀ q, (nth t.mask (pr t.mask H c) q).j = way t.mask H (c + q) := fun q => by rw [pr_add]
    have whole := go_spec t R.tab.ris R.tab.dm hashAt H (10 * SetTable.turns t.mask) (K - c) (pr t.mask H c) (pr_clean _ _ _) (by omega) (fun q hq => by rw [wy]; exact hKb _ (by omega)) (by rw [wy, show c + (K - c) = K by omega]; exact hK)
    have ask : t.probe (fun i => (es[i]?.map (·.1)).getD 0) H (st.getD (t.probeStart H)) = SetTable.probe.go t hashAt H (10 * SetTable.turns t.mask) (pr t.mask H c) := by
      rw [est]
      rfl
    rcases whole with ⟨q, i, hq, hi, hh, hno, e⟩ | ⟨hno, e⟩
    · rw [ask, e]
      simp only [wy, pr_add] at hi ⊢
      have il : i < L.length := by
        have z := (List.getElem?_eq_some_iff.mp hi).1
        have z2 : t.place.size = L.length := R.tab.sz.trans (by rw [List.length_map])
        rw [Array.length_toList] at z
        omega
      obtain ⟨p, hp⟩ : ∃ p, L[i]? = some p := ⟨_, List.getElem?_eq_getElem il⟩
      have hm : p ∈ L := List.mem_of_getElem? hp
      have slot_ : t.slot (way t.mask H (c + q)) = .live i := slot_live R.tab.ris hi
      have behind : wpAny (model P w) A (L2.searchRest a (.ref x) H true f es t (way t.mask H (c + q)) i (pr t.mask H (c + (q + 1)))) R' E s := by
        unfold L2.searchRest
        rw [lay_at R.rw_ hp]
        refine wpAny_bind (wpAny_holding (wpAny_eqBool_tuple hu (R.tu p hm) hx ?_))
        refine wpAny_bind (wpAny_setState_of ho hdt R.fits ?_)
        by_cases same : p.2 = k
        · simp only [same, decide_true, Bool.and_self, if_true]
          exact wpAny_pure (hin (List.mem_map.mpr ⟨p, hm, same⟩))
        · simp only [same, decide_false, Bool.and_false, Bool.false_eq_true, if_false]
          try refine wpAny_bind (wpAny_pure ?_)
          rw [sameMem]
          simp only [if_true, slot_, lay_at R.rw_ hp]
          refine wpAny_bind (wpAny_isSame_ref_self (wpAny_bind (wpAny_pure ?_)))
          simp only [if_true]
          subst hH
          refine ih (c + (q + 1)) _ rfl (by omega) (by omega) fun i0 p0 h0 k0 => ?_
          obtain ⟨d, d1, d2, d3⟩ := hre i0 p0 h0 k0
          refine ⟨d, ?_, d2, d3⟩
          by_cases far : c + q < d
          · omega
          · exfalso
            by_cases near : d < c + q
            · exact hno (d - c) i0 (by omega) (by rw [wy, show c + (d - c) = d by omega]; exact d3) ((hAt i0 p0 h0).trans (congrArg _ k0))
            · obtain rfl : d = c + q := by omega
              have z := slot_live R.tab.ris d3
              rw [slot_] at z
              injection z with z
              rw [← z, hp] at h0
              cases h0
              exact same k0
      by_cases led : t.led = true
      · simp only [led, Bool.not_true, Bool.false_eq_true, if_false]
        try refine wpAny_bind (wpAny_pure ?_)
        exact behind
      · simp only [led, Bool.not_false, if_true]
        refine wpAny_bind (mx_seen hx (fun y hy => ?_) ?_)
        · obtain ⟨e0, he0, rfl⟩ := List.mem_map.mp hy
          have : e0 ∈ es.toList := by
            rw [Array.mem_toList_iff]
            exact (Array.mem_filter.mp (Array.mem_toList_iff.mp he0)).1
          rw [R.rw_] at this
          obtain ⟨p1, hp1, rfl⟩ := List.mem_map.mp this
          exact ⟨_, _, rfl, R.tu p1 hp1⟩
        · simp only [Bool.false_eq_true, if_false]
          try refine wpAny_bind (wpAny_pure ?_)
          exact behind
    · rw [ask, e]
      simp only [wy, show c + (K - c) = K by omega]
      refine wpAny_pure (hout fun hmem => ?_)
      obtain ⟨p0, hp0, k0⟩ := List.mem_map.mp hmem
      obtain ⟨i0, h0⟩ := List.getElem?_of_mem hp0
      obtain ⟨d, d1, d2, d3⟩ := hre i0 p0 h0 k0
      exact hno (d - c) i0 (by omega) (by rw [wy, show c + (d - c) = d by omega]; exact d3) ((hAt i0 p0 h0).trans (by rw [k0, hH]))
end
end Ms

set_option linter.all false
set_option Elab.async false
set_option maxRecDepth 100000
set_option maxHeartbeats 2000000
/-! .. how such a tuple is put in. -/
namespace Ms
open PySem PySem.Spec PyProof.Rows L2

section
variable {P : Program} {w : World} {A : Around} {E : Value → Shared → Prop} {s : Shared} {a : Addr} {L : List (Addr × List Key)} {es : Array (Int × Value)} {ep : Nat} {t : SetTable}
theorem find_ (R : SM P w s.heap a L es ep t) {x : Addr} {k : List Key} (hx : Mx P w s.heap k x) (hu : A.units < cLine) {R' : SetFound → Shared → Prop} (hin : k ∈ L.map Prod.snd → R' (.there none) s)
    (hout : ∀ K, k ∉ L.map Prod.snd → way t.mask (mh P w k) K ∉ t.place.toList → (∀ c, c < K → way t.mask (mh P w k) c ∈ t.place.toList) → R' (.free (way t.mask (mh P w k) K) false) s) :
    wpAny (model P w) A (setSearch a (.ref x) (mh P w k) true) R' E s := by
  have rm := R.rm
  obtain ⟨K, k1, k2, k3⟩ := R.tab.first (by rw [List.length_map]; omega) (mh P w k)
  have k4 : K < 100000 := by
    have : t.mask ≤ 127 := by rcases R.tab.mok with e | e | e <;> omega
    unfold SetTable.turns at k1
    omega
  refine look R hx hu k1 k2 k3 hin (fun n => hout K n k2 k3) 100000 0 none rfl (Nat.zero_le _) (by omega) fun i p hp e => ?_
  have g : (L.map fun p => mh P w p.2)[i]? = some (mh P w k) := by rw [List.getElem?_map, hp, ← e]; rfl
  have z : t.place.size = L.length := R.tab.sz.trans (by rw [List.length_map])
  have il : i < t.place.toList.length := by
    rw [Array.length_toList, z]
    exact (List.getElem?_eq_some_iff.mp hp).1
  obtain ⟨d, d1, d2⟩ := R.tab.before k2 g (List.getElem?_eq_getElem il)
  exact ⟨d, Nat.zero_le _, d1, by rw [d2]; exact List.getElem?_eq_getElem il⟩
theorem mx_other {h h' : Heap} {k : List Key} {b : Addr} {o : Obj} (hb : Mx P w h k b) (ho : h.get? a = some o) (hdt : o.data = .set es ep t) (sb : Heap.SameBut a h h') : Mx P w h' k b := by
  obtain ⟨o', vs, n, ho', c', d', i'⟩ := hb
  refine ⟨o', vs, n, (sb.2 b fun e => ?_).trans ho', c', d', i'⟩
  rw [e, ho] at ho'
  cases ho'
  rw [hdt] at d'
  cases d'
theorem mid_perm {α : Type} (M : List α) (n : Nat) (x : α) : (M.take n ++ x :: M.drop n).Perm (x :: M) := by
  have := List.perm_middle (a := x) (l₁ := M.take n) (l₂ := M.drop n)
  rwa [List.take_append_drop] at this
/-- the order of a table laid anew -/
theorem sorted_rows {M : List (Addr × List Key)} {fs : Array (Int × Value)} (hr : fs.toList = lay P w M) {ord : Array Nat} (hp : ord.toList.Perm (List.range M.length)) :
    ∃ N, (ord.filterMap (fs[·]?)).toList = lay P w N ∧ N.Perm M ∧ (N.map fun p => mh P w p.2) = ord.toList.map fun i => (fs.map (·.1)).getD i 0 := by
  have inb : ∀ i ∈ ord.toList, i < M.length := fun i h => List.mem_range.mp (hp.mem_iff.mp h)
  have go : ∀ l : List Nat, (∀ i ∈ l, i < M.length) → l.filterMap (fun i => fs[i]?) = lay P w (l.filterMap fun i => M[i]?) ∧ ((l.filterMap fun i => M[i]?).map fun p => mh P w p.2) = l.map fun i => (fs.map (·.1)).getD i 0 := by
    intro l hl
    induction l with
    | nil => exact ⟨rfl, rfl⟩
    | cons i l ih =>
      obtain ⟨i1, i2⟩ := ih fun j h => hl j (.tail _ h)
      have hi := List.getElem?_eq_getElem (hl i (.head _))
      have fi := lay_at hr hi
      constructor
      · rw [List.filterMap_cons_some (f := fun i => fs[i]?) fi, List.filterMap_cons_some (f := fun i => M[i]?) hi, i1]
        rfl
      · rw [List.filterMap_cons_some (f := fun i => M[i]?) hi, List.map_cons, List.map_cons, i2]
        congr 1
        simp [Array.getD_eq_getD_getElem?, Array.getElem?_map, fi]
  obtain ⟨g1, g2⟩ := go ord.toList inb
  refine ⟨_, by rw [Array.toList_filterMap]; exact g1, ?_, g2⟩
  have all : (List.range M.length).filterMap (fun i => M[i]?) = M := by
    have : ∀ n, n ≤ M.length → (List.range n).filterMap (fun i => M[i]?) = M.take n := by
      intro n
      induction n with
      | zero => exact fun _ => rfl
      | succ n ih =>
        intro h
        rw [List.range_succ, List.filterMap_append, ih (by omega), List.take_succ, List.getElem?_eq_getElem h]
        congr 1
        rw [List.filterMap_cons_some (f := fun i => M[i]?) (List.getElem?_eq_getElem h)]
        rfl
    rw [this _ (Nat.le_refl _), List.take_length]
  have := hp.filterMap fun i => M[i]?
  rwa [all] at this
theorem relay_ {o : Obj} (ho : s.heap.get? a = some o) (hex : o.ExactSet) (hdt : o.data = .set es ep t) (hr : es.toList = lay P w L) (hz : t.place.size = es.size) (hdm : t.dummies = #[]) (hfl : es.size ≤ t.mask) (nd : (L.map Prod.snd).Nodup)
    (tu : ∀ p ∈ L, Mx P w s.heap p.2 p.1) (fw : L.length < 64) {want M : Nat} (hw : SetTable.sizeAbove want - 1 = M) (hM : MaskOk M) (h128 : SetTable.sizeAbove want ≤ 128) (hn : L.length * 5 < M * 3) {R' : Unit → Shared → Prop}
    (hQ : ∀ h' L' es' ep' t', Heap.SameBut a s.heap h' → SM P w h' a L' es' ep' t' → L'.Perm L → R' () { s with heap := h' }) : wpAny (model P w) A (setRelay a want) R' E s := by
  have sz := lay_len hr
  have ft : t.fits es.size = true := by
    have : t.dummies.size = 0 := by rw [hdm]; rfl
    simp only [SetTable.fits, SetTable.fill, hz, this, beq_self_eq_true, Bool.true_and, decide_eq_true_eq]
    omega
  obtain ⟨t', ord, e1, e2, e3, e4, _, _, _⟩ := relaid_ok t (hs := es.map (·.1)) (wanted := want) hw hM (by rw [Array.size_map, sz]; omega)
  rw [Array.size_map, sz] at e2
  obtain ⟨N, n1, n2, n3⟩ := sorted_rows hr e2
  rw [← n3] at e3
  have nz : (ord.filterMap (es[·]?)).size = es.size := by rw [lay_len n1, n2.length_eq, sz]
  rw [L2.setRelay_eq]
  refine wpAny_bind (wpAny_setState_of ho hdt ft ?_)
  have big : ¬ SetTable.sizeAbove want > sizeLine := by rw [sizeLine_eq]; omega
  simp only [big, if_false]
  try refine wpAny_bind (wpAny_pure ?_)
  rw [e1]
  refine wpAny_bind ?_
  have nz' : ((ord.filterMap (es[·]?)).size != es.size) = false := by rw [nz]; simp
  simp only [nz', Bool.false_eq_true, if_false]
  try refine wpAny_bind (wpAny_pure ?_)
  refine wpAny_pure (wpAny_storeSet_of ho hdt ?_ (by rw [nz, sz, sizeLine_eq]; omega))
  have sb : Heap.SameBut a s.heap (s.heap.update a (Obj.putSet (ord.filterMap (es[·]?)) t')) := Heap.SameBut.update ..
  exact hQ _ N _ (ep + 1) t' sb ⟨⟨_, store_at ho hdt, ⟨hex.1, hex.2.1, hex.2.2⟩, rfl⟩, n1, e3, (n2.map _).nodup_iff.mpr nd, fun p hp => mx_other (tu p (n2.mem_iff.mp hp)) ho hdt sb, by rw [n2.length_eq, e4]; exact hn, by rw [n2.length_eq]; exact fw⟩ n2
end
end Ms

set_option linter.all false
set_option Elab.async false
set_option maxRecDepth 100000
set_option maxHeartbeats 2000000
namespace Ms
open PySem PySem.Spec PyProof.Rows L2

section
variable {P : Program} {w : World} {A : Around} {E : Value → Shared → Prop} {s : Shared} {a : Addr} {L : List (Addr × List Key)} {es : Array (Int × Value)} {ep : Nat} {t : SetTable}
theorem wp_bool {α : Type} {M : Model} {m : Sem Bool} {k : Bool → Sem α} {R' : α → Shared → Prop} (h : ∀ F : Bool → Shared → Prop, (∀ c, F c s) → wpAny M A m F E s) (g : ∀ c, wpAny M A (k c) R' E s) : wpAny M A (m >>= k) R' E s := by
  refine wpAny_bind (h _ fun c => g c)
theorem put_in (R : SM P w s.heap a L es ep t) {x : Addr} {k : List Key} (hx : Mx P w s.heap k x) (hu : A.units < cLine) (few : L.length + 1 < 64) {R' : Bool → Shared → Prop}
    (hQ : ∀ c h' L' es' ep' t', Heap.SameBut a s.heap h' → SM P w h' a L' es' ep' t' → (k ∈ L.map Prod.snd → L' = L) → (k ∉ L.map Prod.snd → L'.Perm ((x, k) :: L)) → R' c { s with heap := h' }) :
    wpAny (model P w) A (setAddHashed a (.ref x) (mh P w k)) R' E s := by
  obtain ⟨o, ho, hex, hdt⟩ := R.at_
  have sz := lay_len R.rw_
  have rm := R.rm
  unfold setAddHashed
  refine wpAny_holding ?_
  show wpAny _ _ (setAddHashedIn a (.ref x) (mh P w k) (99999 + 1)) R' E s
  rw [L2.setAddHashedIn_succ]
  refine wpAny_bind (wpAny_setState_of ho hdt R.fits ?_)
  have scan : byScan (.ref x) es = false := rfl
  simp only [scan, Bool.false_eq_true, if_false]
  try refine wpAny_bind (wpAny_pure ?_)
  refine wpAny_bind (find_ R hx hu (fun hm => ?_) fun K hm k2 k3 => ?_)
  · exact wpAny_pure (hQ false s.heap L es ep t (Heap.SameBut.refl a s.heap) R (fun _ => rfl) fun n => absurd hm n)
  · refine wpAny_bind (wpAny_setState_of ho hdt R.fits ?_)
    obtain ⟨q1, q2, q3, q4, _, _, _, _, q9⟩ := R.tab.put k2 k3
    generalize hpt : t.put (way t.mask (mh P w k) K) = pt at q1 q3 q4 q9 ⊢
    obtain ⟨t1, i⟩ := pt
    simp only at q1 q3 q4 q9 ⊢
    subst q1
    generalize hi : SetTable.below t.place (way t.mask (mh P w k) K) = i at q2 q3 ⊢
    have rows1 : (SetTable.insertAt es i (mh P w k, Value.ref x)).toList = lay P w (L.take i ++ (x, k) :: L.drop i) := by
      rw [SetTable.toList_insertAt, R.rw_]
      simp [lay, List.map_take, List.map_drop]
    have pm := mid_perm L i (x, k)
    have hs1 : (L.take i ++ (x, k) :: L.drop i).map (fun p => mh P w p.2) = (L.map fun p => mh P w p.2).take i ++ mh P w k :: (L.map fun p => mh P w p.2).drop i := by
      simp [List.map_take, List.map_drop]
    rw [← hs1] at q3
    generalize L.take i ++ (x, k) :: L.drop i = L1 at pm q3 rows1
    generalize SetTable.insertAt es i (mh P w k, Value.ref x) = es1 at rows1 ⊢
    have l1 : L1.length = L.length + 1 := pm.length_eq
    have z1 : es1.size = L.length + 1 := by rw [lay_len rows1, l1]
    have nd1 : (L1.map Prod.snd).Nodup := (pm.map Prod.snd).nodup_iff.mpr (List.nodup_cons.mpr ⟨hm, R.nd⟩)
    have main : ∀ t2 : SetTable, t2.place = t1.place → t2.dummies = t1.dummies → t2.mask = t1.mask → wpAny (model P w) A (do
        storeSet a es1 t2
        if !false && t2.tooFull then do
          setRelay a (SetTable.grown (es.size + 1))
          pure true
        else pure true) R' E s := by
      intro t2 c1 c2 c3
      have q3' : TabOk t2 (L1.map fun p => mh P w p.2) := ⟨by rw [c1]; exact q3.ris, by rw [c2]; exact q3.dm, by rw [c1]; exact q3.sz, by rw [c3]; exact q3.mok, by rw [c1, c3]; exact q3.bd, by rw [c1, c3]; exact q3.reach⟩
      have fl : t2.fill = L.length + 1 := by
        unfold SetTable.fill at q9 ⊢
        rw [c1, c2, q9, List.length_map]
      refine wpAny_bind (wpAny_storeSet_of ho hdt ?_ (by rw [z1, sizeLine_eq]; omega))
      have sb : Heap.SameBut a s.heap (s.heap.update a (Obj.putSet es1 t2)) := Heap.SameBut.update ..
      have ho1 := store_at (es' := es1) (t' := t2) ho hdt
      generalize s.heap.update a (Obj.putSet es1 t2) = h1 at sb ho1 ⊢
      have tu1 : ∀ p ∈ L1, Mx P w h1 p.2 p.1 := fun p hp => by
        rcases List.mem_cons.mp (pm.mem_iff.mp hp) with rfl | hp
        · exact mx_other hx ho hdt sb
        · exact mx_other (R.tu p hp) ho hdt sb
      by_cases full : t2.tooFull = true
      · simp only [full, Bool.not_false, Bool.and_self, if_true]
        have f1 : (L.length + 1) * 5 ≥ t.mask * 3 := by
          have := full
          unfold SetTable.tooFull at this
          rw [fl, c3, q4, decide_eq_true_eq] at this
          exact this
        have f2 : (t.mask = 7 ∧ L.length = 4) ∨ (t.mask = 31 ∧ L.length = 18) := by
          rcases R.tab.mok with e | e | e <;> rw [e] at f1 rm <;> omega
        have f3 : t2.place.size = es1.size := by rw [z1, q3'.sz, List.length_map, l1]
        rw [sz]
        have go : ∀ M, SetTable.sizeAbove (SetTable.grown (L.length + 1)) - 1 = M → MaskOk M → SetTable.sizeAbove (SetTable.grown (L.length + 1)) ≤ 128 → (L.length + 1) * 5 < M * 3 →
            wpAny (model P w) A (setRelay a (SetTable.grown (L.length + 1))) (fun _ s' => wpAny (model P w) A (pure true) R' E s') E { s with heap := h1 } := fun M g1 g2 g3 g4 =>
          relay_ (s := { s with heap := h1 }) ho1 ⟨hex.1, hex.2.1, hex.2.2⟩ rfl rows1 f3 q3'.dm (by rw [z1, c3, q4]; rcases f2 with ⟨e, e'⟩ | ⟨e, e'⟩ <;> omega) nd1 tu1 (by omega) g1 g2 g3 (by rw [l1]; exact g4) fun h2 L2 es2 ep2 t3 sb2 R2 pm2 =>
            wpAny_pure (hQ true h2 L2 es2 ep2 t3 (sb.trans sb2) R2 (fun z => absurd z hm) fun _ => pm2.trans pm)
        refine wpAny_bind ?_
        rcases f2 with ⟨_, e'⟩ | ⟨_, e'⟩
        · exact go 31 (by rw [e', size_20]) (.inr (.inl rfl)) (by rw [e', size_20]; decide) (by omega)
        · exact go 127 (by rw [e', size_76]) (.inr (.inr rfl)) (by rw [e', size_76]; decide) (by omega)
      · simp only [full, Bool.not_false, Bool.and_false, Bool.false_eq_true, if_false]
        try refine wpAny_bind (wpAny_pure ?_)
        refine wpAny_pure (hQ true h1 L1 es1 (ep + 1) t2 sb ⟨⟨_, ho1, ⟨hex.1, hex.2.1, hex.2.2⟩, rfl⟩, rows1, q3', nd1, tu1, ?_, by omega⟩ (fun z => absurd z hm) fun _ => pm)
        have := full
        unfold SetTable.tooFull at this
        rw [fl, decide_eq_true_eq] at this
        rw [l1]
        omega
    by_cases pl : t1.plain = true
    · simp only [pl, if_true]
      refine wpAny_bind (mx_hash hx fun c => ?_)
      cases c with
      | true => exact main t1 rfl rfl rfl
      | false => exact main { t1 with plain := false } rfl rfl rfl
    · simp only [pl, if_false]
      exact main t1 rfl rfl rfl
end
end Ms

set_option linter.all false
set_option Elab.async false
set_option maxRecDepth 100000
set_option maxHeartbeats 2000000
/-! .. over the layer: set(), add, len. -/
namespace Ms
open PySem PySem.Spec PyProof.Rows L2

/-- the set at a, but for its tuples -/
def SM0 (P : Program) (w : World) (h : Heap) (a : Addr) (L : List (Addr × List Key)) : Prop :=
  ∃ es ep t, (∃ o, h.get? a = some o ∧ o.ExactSet ∧ o.data = .set es ep t) ∧ es.toList = lay P w L ∧ TabOk t (L.map fun p => mh P w p.2) ∧ (L.map Prod.snd).Nodup ∧ L.length * 5 < t.mask * 3 ∧ L.length < 64
def SMO (P : Program) (w : World) (a : Addr) (L : List (Addr × List Key)) : HO := .ext fun h => SM0 P w h a L
section
variable {P : Program} {w : World} {a : Addr} {L : List (Addr × List Key)} {h : Heap}
theorem SM.less {es : Array (Int × Value)} {ep : Nat} {t : SetTable} (R : SM P w h a L es ep t) : SM0 P w h a L := ⟨es, ep, t, R.at_, R.rw_, R.tab, R.nd, R.rm, R.fw⟩
theorem SM0.at_ (R : SM0 P w h a L) : ∃ o, h.get? a = some o := by
  obtain ⟨_, _, _, ⟨o, ho, _⟩, _⟩ := R
  exact ⟨o, ho⟩
theorem smo_ok {H : Hp} (R : SM0 P w h a L) : ObjOk P w H h a (SMO P w a L) :=
  ⟨R, R.at_, fun h1 h2 p k => by
    obtain ⟨es, ep, t, ⟨o, ho, z⟩, r⟩ := p
    exact ⟨es, ep, t, ⟨o, k o ho, z⟩, r⟩⟩
theorem fresh_sm {n : Nat} {b : Bool} (ho : h.get? a = some { cls := .type "set", dict := none, data := .set #[] 0 (.fresh 0 n b) }) : SM0 P w h a [] :=
  ⟨#[], 0, .fresh 0 n b, ⟨_, ho, ⟨rfl, rfl, rfl⟩, rfl⟩, rfl, ⟨List.Pairwise.nil, rfl, rfl, .inl rfl, (fun x hx => nomatch hx), (fun i h j e => nomatch e)⟩, List.nodup_nil, (by show 0 * 5 < 7 * 3; decide), (by decide)⟩
end
section
variable {X : Cx}
theorem sm_get {pins : List (Addr × Obj)} {σ : L2.St} {H : Hp} {s : Shared} {a : Addr} {L : List (Addr × List Key)} (I : Inv X pins σ H s) (ha : H a = some (SMO X.prog X.w a L)) (ht : ∀ p ∈ L, SqT X.K H p.1 (p.2.map kV)) :
    ∃ es ep t, SM X.prog X.w s.heap a L es ep t := by
  obtain ⟨es, ep, t, g1, g2, g3, g4, g5, g6⟩ : SM0 X.prog X.w s.heap a L := (I.hok a _ ha).1
  refine ⟨es, ep, t, g1, g2, g3, g4, fun p hp => ?_, g5, g6⟩
  obtain ⟨its, rv, tp, _⟩ := I.tuple (ht p hp)
  obtain ⟨o, ho, hc, n, hd⟩ := tp
  exact ⟨o, its.toArray, n, ho, hc, hd, items_are rv⟩
/-- set() -/
def rSet0 (P : Program) (w : World) : List V → Hp → VK → Prop := fun xs H Q => xs = [] ∧ ∀ p, H p = none → Q (.ref p) (upd H p (SMO P w p []))
theorem cr_set0 : CallR X (.type "set") (rSet0 X.prog X.w) := by
  intro pins s σ H xs us Q I r h
  obtain ⟨rfl, q⟩ := h
  cases r
  exact setR_new fun _ => ⟨.ref _, upd H s.heap.objs.size (SMO X.prog X.w s.heap.objs.size []), I.laid (t' := s.toks) (fun b u e => Heap.get?_push_of_some _ e) (Nat.le_refl _) (smo_ok (fresh_sm (Heap.get?_push_size _ rfl))), rfl, q _ (I.hok.fresh (Nat.le_refl _))⟩
/-- found.add(k) -/
def rAdd (K : PySem.W.Frag) (P : Program) (w : World) : V → List V → Hp → VK → Prop := fun x xs H Q => ∃ (a b : Addr) (k : List Key) (L : List (Addr × List Key)), x = V.ref a ∧ xs = [.ref b] ∧ H a = some (SMO P w a L) ∧ (∀ p ∈ L, SqT K H p.1 (p.2.map kV)) ∧ SqT K H b (k.map kV) ∧
  L.length + 1 < 64 ∧ ∀ L', (k ∈ L.map Prod.snd → L' = L) → (k ∉ L.map Prod.snd → L'.Perm ((b, k) :: L)) → Q .non (upd H a (SMO P w a L'))
theorem mt_add (hu : X.A.units + 1 < cLine) : MtR X "set.add" (rAdd X.K X.prog X.w) := by
  intro pins s σ H x xs v us Q I rx rxs h
  obtain ⟨a, b, k, L, rfl, rfl, ha, ht, hk, few, q⟩ := h
  cases rx
  rw [Vals.ref1 rxs]
  obtain ⟨es, ep, t, R⟩ := sm_get I ha ht
  obtain ⟨o, ho, hex, hdt⟩ := R.at_
  obtain ⟨its, rv, ⟨o', ho', hc', n', hd'⟩, _⟩ := I.tuple hk
  have hx : Mx X.prog X.w s.heap k b := ⟨o', its.toArray, n', ho', hc', hd', items_are rv⟩
  refine wpAny_call_entry F.slot_set_add ⟨o, ho, hex.1⟩ F.entry_set_add ?_ (F.args_set_add_2 _ _)
  unfold Builtin.«set.add» Builtin.Frozenset.oneOther
  simp only [List.isEmpty_nil, bind_assoc]
  unfold Builtin.Frozenset.addrOf setAdd
  refine wpAny_bind (wpAny_pure ?_)
  try dsimp only
  refine wpAny_bind (wpAny_pure ?_)
  try dsimp only
  refine wpAny_bind ?_
  refine wpAny_holding ?_
  refine wpAny_bind (wpAny_pyHash_tuple (tupleKind_room_in1 (knd := mixKind X.prog X.w) hu) hx ?_)
  refine put_in (s := { s with toks := s.toks + (k.length + 1) }) ⟨R.at_, R.rw_, R.tab, R.nd, R.tu, R.rm, R.fw⟩ hx (tupleKind_room_in1 (knd := mixKind X.prog X.w) hu) few fun c h' L' es' ep' t' sb R' i1 i2 => ?_
  show wpAny _ _ (ret Value.none) _ _ _
  refine wpAny_pure ⟨_, rfl, ?_⟩
  exact ⟨.non, upd H a (SMO X.prog X.w a L'), I.write (e := a) (t' := s.toks + (k.length + 1)) (by rw [ha]; trivial) (.inl rfl) (fun c u hc hu => (sb.2 c hc).trans hu) R'.less.at_ (smo_ok R'.less), rfl, q L' i1 i2⟩
/-- len(found) -/
theorem call_lenM : CallR X (.builtin "len") (fun xs H Q => ∃ a L, xs = [V.ref a] ∧ H a = some (SMO X.prog X.w a L) ∧ Q (.int L.length) H) := by
  intro pins s σ H xs us Q I r h
  obtain ⟨a, L, rfl, ha, q⟩ := h
  rw [Vals.ref1 r]
  obtain ⟨es, ep, t, ⟨o, ho, hex, hdt⟩, g2, g3, g4, g5, g6⟩ : SM0 X.prog X.w s.heap a L := (I.hok a _ ha).1
  have z := lay_len g2
  have ft : t.fits es.size = true := by
    have a1 : t.place.size = L.length := g3.sz.trans (by rw [List.length_map])
    have a4 : t.dummies.size = 0 := by rw [g3.dm]; rfl
    simp only [SetTable.fits, SetTable.fill, a1, z, a4, beq_self_eq_true, Bool.true_and, decide_eq_true_eq]
    omega
  exact call_len_set ho hex hdt ft (by rw [z]; omega) ⟨.int L.length, H, I.tok _, ⟨_, by rw [z]⟩, q⟩
end
end Ms

set_option Elab.async false
set_option linter.all false
set_option maxRecDepth 100000
set_option maxHeartbeats 4000000
/-! tuple * int, by one or by less. -/
namespace Mi
open L2 PySem PySem.Spec PyProof.Rows
theorem tuple_mul1 (l : Addr) (items : Array Value) (n : Nat) (dd : Option Addr) (sl : Array (Option Value)) (u : Tok) :
    Meets (Builtin.«tuple.__mul__» ⟨[.ref l, .int 1 u], []⟩) (fun _ R s => s.heap.get? l = some { cls := .type "tuple", dict := dd, data := .seq items n, slots := sl } ∧ R (.ok (.ret (Value.ref l))) s) :=
  .of_wp fun prog w A R s h => by
    obtain ⟨hp, g, d, tk, os⟩ := s
    obtain ⟨hl, h⟩ := h
    have f1 := AutoSeq1.idx_int
    have c1 : (items.isEmpty || (1 : Int) == 1) = true := by simp
    wp_walk using AutoSeq1.wpAny_loadPart' hl
    repeat (first
      | (refine wpAny_ite_false (decide_eq_false (by decide)) ?_; wp_walk using AutoSeq1.wpAny_loadPart' hl)
      | (refine wpAny_ite_true (decide_eq_true c1) ?_; wp_walk using AutoSeq1.wpAny_loadPart' hl))
    exact ⟨_, rfl, h⟩
theorem tuple_mul0 (l : Addr) (items : Array Value) (n : Nat) (dd : Option Addr) (sl : Array (Option Value)) (x : Int) (u : Tok) (c0 : (decide (x < -(2 ^ 63)) || decide (x ≥ 2 ^ 63)) = false) (c1 : (items.isEmpty || x == 1) = false) (c2 : (decide (x ≤ 0) || items.isEmpty) = true) :
    Meets (Builtin.«tuple.__mul__» ⟨[.ref l, .int x u], []⟩) (fun _ R s => s.heap.get? l = some { cls := .type "tuple", dict := dd, data := .seq items n, slots := sl } ∧
      R (.ok (.ret (Value.ref s.heap.objs.size))) { s with heap := s.heap.push { cls := Value.type "tuple", data := Data.seq #[] }, toks := s.toks }) :=
  .of_wp fun prog w A R s h => by
    obtain ⟨hp, g, d, tk, os⟩ := s
    obtain ⟨hl, h⟩ := h
    have f1 := AutoSeq1.idx_int
    wp_walk using AutoSeq1.wpAny_loadPart' hl
    repeat (first
      | (refine wpAny_ite_false (decide_eq_false (by rw [c0]; exact Bool.false_ne_true)) ?_; wp_walk using AutoSeq1.wpAny_loadPart' hl)
      | (refine wpAny_ite_false (decide_eq_false (by rw [c1]; exact Bool.false_ne_true)) ?_; wp_walk using AutoSeq1.wpAny_loadPart' hl)
      | (refine wpAny_ite_true (decide_eq_true c2) ?_; wp_walk using AutoSeq1.wpAny_loadPart' hl))
    exact ⟨_, rfl, h⟩
def rRepT1 (K : PySem.W.Frag) : R2 := fun x y H Q => ∃ l k xs, x = .ref l ∧ y = .int k ∧ SqT K H l xs ∧ xs ≠ [] ∧ -1000000 ≤ k ∧ k ≤ 1 ∧ (k = 1 → Q (.ref l) H) ∧ (k ≤ 0 → ∀ p, H p = none → Q (.ref p) (upd H p (.tup [])))
section
variable {X : Cx}
theorem op_repT1 : OpR X (binaryOp .Mult) (rRepT1 X.K) := by
  intro pins s σ H x y v u Q I rx ry h
  obtain ⟨l, k, xs, rfl, rfl, hT, hne, h1, h2, q1, q0⟩ := h
  cases rx
  obtain ⟨t, rfl⟩ := ry
  obtain ⟨its, r, ⟨⟨cls, dd, data, sl⟩, ho, hc, n, hd⟩, hs⟩ := I.tuple hT
  simp only at hc hd
  subst hc hd
  have hle : its.length = xs.length := r.length.symm
  have hn : its ≠ [] := fun e => hne (by
    rw [e] at hle
    exact List.eq_nil_of_length_eq_zero hle.symm)
  have hi : its.toArray.isEmpty = false := by
    cases its with
    | nil => exact absurd rfl hn
    | cons a b => rfl
  have go : wpAny (model X.prog X.w) X.A (call (.builtin "tuple.__mul__") [.ref l, .int k t]) (EP X pins σ Q) X.xe s := by
    by_cases hk : k = 1
    · subst hk
      exact call_meets PySem.F.slot_tuple_mul ⟨_, ho, rfl⟩ PySem.F.entry_tuple_mul (PySem.F.args_tuple_mul_2 _ _) (tuple_mul1 l its.toArray n dd sl t) ⟨ho, ⟨.ref l, H, I, rfl, q1 rfl⟩⟩
    · have c0 : (decide (k < -(2 ^ 63)) || decide (k ≥ 2 ^ 63)) = false := by
        rw [decide_eq_false (by omega), decide_eq_false (by omega)] <;> rfl
      have c1 : (its.toArray.isEmpty || k == 1) = false := by
        rw [hi, Bool.false_or]
        exact beq_eq_false_iff_ne.mpr hk
      have c2 : (decide (k ≤ 0) || its.toArray.isEmpty) = true := by
        rw [decide_eq_true (by omega)]
        rfl
      refine call_meets PySem.F.slot_tuple_mul ⟨_, ho, rfl⟩ PySem.F.entry_tuple_mul (PySem.F.args_tuple_mul_2 _ _) (tuple_mul0 l its.toArray n dd sl k t c0 c1 c2) ⟨ho, ?_⟩
      exact ⟨.ref s.heap.objs.size, _, I.laid (t' := s.toks) (o := .tup []) (fun b ob q => Heap.get?_push_of_some _ q) (Nat.le_refl _) ⟨Nat.zero_le _, [], .nil, IsTup.new _ _⟩, rfl, q0 (by omega) _ (I.hok.fresh (Nat.le_refl _))⟩
  exact wpAny_binaryOp_repeat_ref (T := "tuple") (U := "int") (by decide) ⟨_, ho, rfl⟩ (fun s' => typeIs_int s' k t) noFill_tuple_mul F.fills_int_mul F.slot_int_rmul repeat_tuple F.slot_int_index.lookup
    (call_meets F.slot_int_rmul (typeIs_int s k t) F.entry_int_rmul (F.args_int_rmul_2 _ _) (int_rmul_tuple k t l its.toArray n dd sl)
      ⟨ho, rfl, ⟨_, ho, rfl⟩, go⟩)
end
end Mi

set_option linter.all false
set_option maxRecDepth 100000
/-! A small language over plain data, and what it means. -/
namespace Mi
open PySem

inductive D where
  | non | bl (b : Bool) | int (i : Int) | str (x : Str) | tup (xs : List D) | fl (xs : List D) | ref (n : Nat)
  deriving Inhabited

/-- what stands in the store -/
inductive MO where
  | lst (xs : List D)
  | dic (t : Bool) (kvs : List (D × D))
  | sett (xs : List D)
  | ins (C : Str) (fs : List (Str × D))
  deriving Inhabited

abbrev Store := List MO
abbrev Env := List (Option D)

inductive Res where
  | ok (d : D) (st : Store) | exc (c : Str) (st : Store) | bad
inductive ResL where
  | ok (d : List D) (st : Store) | exc (c : Str) (st : Store) | bad
inductive Out where
  | nx (env : Env) (st : Store) | rt (d : D) (st : Store) | bk (env : Env) (st : Store) | ct (env : Env) (st : Store) | exc (c : Str) (env : Env) (st : Store) | bad

def Res.bind : Res → (D → Store → Res) → Res
  | .ok d st, k => k d st
  | .exc c st, _ => .exc c st
  | .bad, _ => .bad
def Res.bindL : Res → (D → Store → ResL) → ResL
  | .ok d st, k => k d st
  | .exc c st, _ => .exc c st
  | .bad, _ => .bad
def ResL.bind : ResL → (List D → Store → Res) → Res
  | .ok d st, k => k d st
  | .exc c st, _ => .exc c st
  | .bad, _ => .bad
def ResL.bindL : ResL → (List D → Store → ResL) → ResL
  | .ok d st, k => k d st
  | .exc c st, _ => .exc c st
  | .bad, _ => .bad
def Res.bindO : Res → Env → (D → Store → Out) → Out
  | .ok d st, _, k => k d st
  | .exc c st, env, _ => .exc c env st
  | .bad, _, _ => .bad
def ResL.bindO : ResL → Env → (List D → Store → Out) → Out
  | .ok d st, _, k => k d st
  | .exc c st, env, _ => .exc c env st
  | .bad, _, _ => .bad
def Out.bind : Out → (Env → Store → Out) → Out
  | .nx env st, k => k env st
  | o, _ => o

abbrev Oracle := Str → List D → Store → Res

/-! ### data as the model's comparison reads it -/
mutual
def D.data : D → Option PyData
  | .non => some .none
  | .bl b => some (.bool b)
  | .int i => some (.int i)
  | .str x => some (.str x)
  | .tup xs => (D.dataL xs).map .tuple
  | .fl xs => (D.dataL xs).map .list
  | .ref _ => none
def D.dataL : List D → Option (List PyData)
  | [] => some []
  | x :: xs => match D.data x, D.dataL xs with
    | some d, some ds => some (d :: ds)
    | _, _ => none
end
/-- .. with one list of the store -/
def dataS (st : Store) (d : D) : Option PyData := match d with
  | .ref n => match st[n]? with
    | some (.lst xs) => (D.dataL xs).map .list
    | _ => none
  | d => D.data d

inductive BOp where | add | sub | mul | fdiv | mod | pow
  deriving DecidableEq
inductive COp where | eq | ne | lt | le | gt | ge | isin | notin | is | isnot
  deriving DecidableEq
inductive UOp where | neg
  deriving DecidableEq
/-- built-in functions and types that are called -/
inductive BI where | len | int | str | tuple | list | sum | all | max | min | abs | sorted | set0
  deriving DecidableEq
/-- methods of built-in values -/
inductive MI where | append | pop | extend | add | get | join | split | partition | startswith | endswith | removeprefix | isascii | isdigit | index | count
  deriving DecidableEq

mutual
inductive E where
  | non | bl (b : Bool) | int (i : Int) | str (x : Str)
  | var (i : Nat)
  | glb (x : Str)
  | un (op : UOp) (a : E)
  | bin (op : BOp) (a b : E)
  | cmp (op : COp) (a b : E)
  | chain (op op' : COp) (a b c : E)
  | and (es : Es) | or (es : Es) | not (a : E)
  | ite (c a b : E)
  | tup (es : Es) | lst (es : Es)
  | dic (t : Bool) (ks vs : Es)
  | idx (a b : E)
  | slc (a : E) (lo hi : Oe)
  | call (f : Str) (es : Es)
  | bi (f : BI) (es : Es)
  | mth (m : MI) (a : E) (es : Es)
  | typeIs (neg : Bool) (a : E) (t : Str)
  | isin (a : E) (t : Str)
  | lc (own : List (Str × Nat)) (tg : Tg) (it : Ie) (cs : Es) (elt : E)
  | fstr (es : Es)
  | attr (a : E) (f : Str)
  | new (C : Str) (es : Es)
  | omth (m : Str) (a : E) (es : Es)
  | set0
  | sadd (a e : E)
  | slen (a : E)
  | dget (a e : E)
  | din (neg : Bool) (e a : E)
  | dgetm (a e x : E)
inductive Es where
  | nil | cons (e : E) (es : Es)
inductive Oe where
  | none | some (e : E)
/-- what is walked -/
inductive Ie where
  | exp (e : E) | rng1 (a : E) | rng2 (a b : E) | enm (a : E) (lo : Int) | zip (a b : E)
/-- what a loop assigns to: slots -/
inductive Tg where
  | name (i : Nat) | tup (is : List Nat)
end

def LINE : Nat := 16777216

/-! ### operators -/
/-! bounds, kept shut: what is asked of them is never reckoned out by unfolding -/
def in64 (i : Int) : Prop := -(2 ^ 64) < i ∧ i < 2 ^ 64
def okRep (n : Nat) (j : Int) : Prop := -(2 ^ 63) ≤ j ∧ j < 2 ^ 63 ∧ n * j.toNat ≤ LINE
def okRepT (n : Nat) (j : Int) : Prop := n ≠ 0 ∧ -1000000 ≤ j ∧ j ≤ 1000 ∧ n ≤ 1000
def okDiv (j : Int) : Prop := 0 < j ∧ j < 2 ^ 60
def okPow (i j : Int) : Prop := 0 ≤ j ∧ j ≤ 1000000 ∧ i.natAbs < 2 ^ 64
noncomputable instance (i : Int) : Decidable (in64 i) := Classical.propDecidable _
noncomputable instance (n : Nat) (i : Int) : Decidable (okRep n i) := Classical.propDecidable _
noncomputable instance (n : Nat) (i : Int) : Decidable (okRepT n i) := Classical.propDecidable _
noncomputable instance (i : Int) : Decidable (okDiv i) := Classical.propDecidable _
noncomputable instance (i j : Int) : Decidable (okPow i j) := Classical.propDecidable _
def strLen (x : Str) : Nat := x.cps.toList.length
noncomputable def binop : BOp → D → D → Store → Res
  | .add, .int i, .int j, st => .ok (.int (i + j)) st
  | .add, .str x, .str y, st => if x.length + y.length ≤ LINE then .ok (.str (x ++ y)) st else .bad
  | .add, .tup xs, .tup ys, st => if xs.length + ys.length ≤ LINE then .ok (.tup (xs ++ ys)) st else .bad
  | .add, .ref n, .ref m, st => match st[n]?, st[m]? with
    | some (.lst xs), some (.lst ys) => if xs.length + ys.length ≤ LINE then .ok (.ref st.length) (st ++ [.lst (xs ++ ys)]) else .bad
    | _, _ => .bad
  | .sub, .int i, .int j, st => .ok (.int (i - j)) st
  | .mul, .int i, .int j, st => if in64 i ∨ in64 j then .ok (.int (i * j)) st else .bad
  | .mul, .ref n, .int j, st => match st[n]? with
    | some (.lst xs) => if okRep xs.length j then .ok (.ref st.length) (st ++ [.lst (List.replicate j.toNat xs).flatten]) else .bad
    | _ => .bad
  | .mul, .tup xs, .int j, st => if okRepT xs.length j then .ok (.tup (List.replicate j.toNat xs).flatten) st else .bad
  | .fdiv, .int i, .int j, st => if okDiv j then .ok (.int (i / j)) st else .bad
  | .mod, .int i, .int j, st => if 0 < j then .ok (.int (i % j)) st else .bad
  | .pow, .int i, .int j, st => if okPow i j then .ok (.int (i ^ j.toNat)) st else .bad
  | _, _, _, _ => .bad

/-- the items of what may be searched by in -/
def seqItems (st : Store) : D → Option (List D)
  | .tup xs => some xs
  | .fl xs => some xs
  | .ref n => match st[n]? with
    | some (.lst xs) => some xs
    | _ => none
  | _ => none
end Mi

set_option linter.all false
set_option maxRecDepth 100000
/-! How the small language's values and store lie in the layer's heap. -/
namespace Mi
open PySem L2

/-- a list that stands still: frozen, or of the written part -/
def FqL (K : PySem.W.Frag) (H : Hp) (a : Addr) (xs : List V) : Prop :=
  (∃ o, H a = some (.frz o (.lst xs))) ∨
    ∃ (o : Obj) (its : Array Value) (n : Nat), K.lookup a = some o ∧ o.cls = .type "list" ∧ o.dict = none ∧ o.data = .seq its n ∧ its.size ≤ sizeLine ∧ Vals xs its.toList
theorem FqL.sq {K : PySem.W.Frag} {H : Hp} {a : Addr} {xs : List V} (h : FqL K H a xs) : SqL K H a xs := by
  rcases h with ⟨o, h⟩ | h
  · exact .inl (.inr ⟨o, h⟩)
  · exact .inr h

section
variable (K : PySem.W.Frag) (ρ : List Addr) (H : Hp)
mutual
def RV : V → D → Prop
  | v, .non => v = .non
  | v, .bl b => v = .bl b
  | v, .int i => v = .int i
  | v, .str x => v = .str x
  | v, .tup ds => ∃ a vs, v = .ref a ∧ SqT K H a vs ∧ RVs vs ds
  | v, .fl ds => ∃ a vs, v = .ref a ∧ FqL K H a vs ∧ RVs vs ds
  | v, .ref n => ∃ a, v = .ref a ∧ ρ[n]? = some a
def RVs : List V → List D → Prop
  | vs, [] => vs = []
  | vs, d :: ds => ∃ v r, vs = v :: r ∧ RV v d ∧ RVs r ds
end
end

/-- what a key is at the layer -/
def keyD : D → Option Key
  | .int i => some (.inl i)
  | .str x => some (.inr x)
  | _ => none
def keysD : List D → Option (List Key)
  | [] => some []
  | d :: ds => match keyD d, keysD ds with
    | some k, some ks => some (k :: ks)
    | _, _ => none
def keyT : D → Option (List Key)
  | .tup xs => keysD xs
  | _ => none
def keysT : List D → Option (List (List Key))
  | [] => some []
  | d :: ds => match keyT d, keysT ds with
    | some k, some ks => some (k :: ks)
    | _, _ => none

/-- the classes' addresses -/
structure Glob where
  P : Program
  w : World
  K : PySem.W.Frag
  mg : Str → Option Value
  base : Heap
  cls : Str → Addr
  consts : Str → Option D

def RFs (K : PySem.W.Frag) (ρ : List Addr) (H : Hp) : List (Str × V) → List (Str × D) → Prop
  | vs, [] => vs = []
  | vs, (f, d) :: ds => ∃ v r, vs = (f, v) :: r ∧ RV K ρ H v d ∧ RFs K ρ H r ds
def RKs (K : PySem.W.Frag) (ρ : List Addr) (H : Hp) : List (Key × V) → List (D × D) → Prop
  | vs, [] => vs = []
  | vs, (k, d) :: ds => ∃ z v r, vs = (z, v) :: r ∧ keyD k = some z ∧ RV K ρ H v d ∧ RKs K ρ H r ds
def RTs (K : PySem.W.Frag) (ρ : List Addr) (H : Hp) : List (List Key × V) → List (D × D) → Prop
  | vs, [] => vs = []
  | vs, (k, d) :: ds => ∃ z v r, vs = (z, v) :: r ∧ keyT k = some z ∧ RV K ρ H v d ∧ RTs K ρ H r ds

def RO (G : Glob) (ρ : List Addr) (H : Hp) (a : Addr) : MO → Prop
  | .lst ds => ∃ vs, H a = some (.lst vs) ∧ RVs G.K ρ H vs ds
  | .dic false kvs => ∃ ks, H a = some (.dK ks) ∧ RKs G.K ρ H ks kvs
  | .dic true kvs => ∃ ks, H a = some (.dT ks) ∧ RTs G.K ρ H ks kvs
  | .ins C fs => Cls G.K (G.cls C) ∧ (∀ p ∈ fs, NoAttr G.K (G.cls C) p.1) ∧ ∃ dx vs, H a = some (.ins (G.cls C) dx vs) ∧ RFs G.K ρ H vs fs
  | .sett ds => ∃ (L : List (Addr × List Key)) (ks : List (List Key)), H a = some (Ms.SMO G.P G.w a L) ∧ (∀ p ∈ L, SqT G.K H p.1 (p.2.map kV)) ∧ keysT ds = some ks ∧ (L.map Prod.snd).Perm ks

structure Rel (G : Glob) (ρ : List Addr) (H : Hp) (st : Store) : Prop where
  len : ρ.length = st.length
  nd : ρ.Nodup
  obj : ∀ (n : Nat) (mo : MO) (a : Addr), st[n]? = some mo → ρ[n]? = some a → RO G ρ H a mo

/-- nothing that stands still is lost -/
structure Nx (ρ : List Addr) (H : Hp) (ρ' : List Addr) (H' : Hp) : Prop where
  pre : ∃ l, ρ' = ρ ++ l
  tup : ∀ a xs, H a = some (.tup xs) → H' a = some (.tup xs)
  frz : ∀ a o u, H a = some (.frz o u) → H' a = some (.frz o u)
theorem Nx.refl {ρ : List Addr} {H : Hp} : Nx ρ H ρ H := ⟨⟨[], by simp⟩, fun _ _ h => h, fun _ _ _ h => h⟩
theorem Nx.trans {ρ ρ1 ρ2 : List Addr} {H H1 H2 : Hp} (a : Nx ρ H ρ1 H1) (b : Nx ρ1 H1 ρ2 H2) : Nx ρ H ρ2 H2 := by
  obtain ⟨⟨l, e⟩, t, f⟩ := a
  obtain ⟨⟨l', e'⟩, t', f'⟩ := b
  exact ⟨⟨l ++ l', by rw [e', e, List.append_assoc]⟩, fun x xs h => t' x xs (t x xs h), fun x o u h => f' x o u (f x o u h)⟩
section
variable {K : PySem.W.Frag} {ρ ρ' : List Addr} {H H' : Hp}
theorem Nx.at_ (n : Nx ρ H ρ' H') {i : Nat} {a : Addr} (h : ρ[i]? = some a) : ρ'[i]? = some a := by
  obtain ⟨l, e⟩ := n.pre
  obtain ⟨hi, e2⟩ := List.getElem?_eq_some_iff.mp h
  rw [e, List.getElem?_append_left hi]; exact h
theorem Nx.sqT (n : Nx ρ H ρ' H') {a : Addr} {xs : List V} (h : SqT K H a xs) : SqT K H' a xs := by
  rcases h with (h | ⟨o, h⟩) | h
  · exact .inl (.inl (n.tup _ _ h))
  · exact .inl (.inr ⟨o, n.frz _ _ _ h⟩)
  · exact .inr h
theorem Nx.fqL (n : Nx ρ H ρ' H') {a : Addr} {xs : List V} (h : FqL K H a xs) : FqL K H' a xs := by
  rcases h with ⟨o, h⟩ | h
  · exact .inl ⟨o, n.frz _ _ _ h⟩
  · exact .inr h
mutual
theorem RV.mono (n : Nx ρ H ρ' H') : ∀ (d : D) {v : V}, RV K ρ H v d → RV K ρ' H' v d
  | .non, _, h => by unfold RV at h ⊢; exact h
  | .bl _, _, h => by unfold RV at h ⊢; exact h
  | .int _, _, h => by unfold RV at h ⊢; exact h
  | .str _, _, h => by unfold RV at h ⊢; exact h
  | .tup ds, _, h => by
    unfold RV at h ⊢
    obtain ⟨a, vs, e, s, r⟩ := h
    exact ⟨a, vs, e, n.sqT s, RVs.mono n ds r⟩
  | .fl ds, _, h => by
    unfold RV at h ⊢
    obtain ⟨a, vs, e, s, r⟩ := h
    exact ⟨a, vs, e, n.fqL s, RVs.mono n ds r⟩
  | .ref m, _, h => by
    unfold RV at h ⊢
    obtain ⟨a, e, s⟩ := h
    exact ⟨a, e, n.at_ s⟩
theorem RVs.mono (n : Nx ρ H ρ' H') : ∀ (ds : List D) {vs : List V}, RVs K ρ H vs ds → RVs K ρ' H' vs ds
  | [], _, h => by unfold RVs at h ⊢; exact h
  | d :: ds, _, h => by
    unfold RVs at h ⊢
    obtain ⟨v, r, e, h1, h2⟩ := h
    exact ⟨v, r, e, RV.mono n d h1, RVs.mono n ds h2⟩
end
theorem RFs.mono (n : Nx ρ H ρ' H') : ∀ (ds : List (Str × D)) {vs : List (Str × V)}, RFs K ρ H vs ds → RFs K ρ' H' vs ds
  | [], _, h => h
  | (f, d) :: ds, _, h => by
    obtain ⟨v, r, e, h1, h2⟩ := h
    exact ⟨v, r, e, RV.mono n d h1, RFs.mono n ds h2⟩
theorem RKs.mono (n : Nx ρ H ρ' H') : ∀ (ds : List (D × D)) {vs : List (Key × V)}, RKs K ρ H vs ds → RKs K ρ' H' vs ds
  | [], _, h => h
  | (f, d) :: ds, _, h => by
    obtain ⟨z, v, r, e, h0, h1, h2⟩ := h
    exact ⟨z, v, r, e, h0, RV.mono n d h1, RKs.mono n ds h2⟩
theorem RTs.mono (n : Nx ρ H ρ' H') : ∀ (ds : List (D × D)) {vs : List (List Key × V)}, RTs K ρ H vs ds → RTs K ρ' H' vs ds
  | [], _, h => h
  | (f, d) :: ds, _, h => by
    obtain ⟨z, v, r, e, h0, h1, h2⟩ := h
    exact ⟨z, v, r, e, h0, RV.mono n d h1, RTs.mono n ds h2⟩
theorem RO.mono {G : Glob} {a : Addr} (n : Nx ρ H ρ' H') (e : H' a = H a) : ∀ {mo : MO}, RO G ρ H a mo → RO G ρ' H' a mo
  | .lst ds, ⟨vs, h, r⟩ => ⟨vs, e.trans h, RVs.mono n ds r⟩
  | .dic false kvs, ⟨vs, h, r⟩ => ⟨vs, e.trans h, RKs.mono n kvs r⟩
  | .dic true kvs, ⟨vs, h, r⟩ => ⟨vs, e.trans h, RTs.mono n kvs r⟩
  | .ins C fs, ⟨c, na, dx, vs, h, r⟩ => ⟨c, na, dx, vs, e.trans h, RFs.mono n fs r⟩
  | .sett ds, ⟨L, ks, h, r, e1, e2⟩ => ⟨L, ks, e.trans h, fun p hp => n.sqT (r p hp), e1, e2⟩
theorem RO.some_ {G : Glob} {a : Addr} : ∀ {mo : MO}, RO G ρ H a mo → ∃ o, H a = some o ∧ (∀ xs, o ≠ .tup xs) ∧ ∀ ob u, o ≠ .frz ob u
  | .lst ds, ⟨vs, h, r⟩ => ⟨_, h, (fun _ z => nomatch z), (fun _ _ z => nomatch z)⟩
  | .dic false kvs, ⟨vs, h, r⟩ => ⟨_, h, (fun _ z => nomatch z), (fun _ _ z => nomatch z)⟩
  | .dic true kvs, ⟨vs, h, r⟩ => ⟨_, h, (fun _ z => nomatch z), (fun _ _ z => nomatch z)⟩
  | .ins C fs, ⟨c, na, dx, vs, h, r⟩ => ⟨_, h, (fun _ z => nomatch z), (fun _ _ z => nomatch z)⟩
  | .sett ds, ⟨L, ks, h, _⟩ => ⟨_, h, (fun _ z => nomatch z), (fun _ _ z => nomatch z)⟩

theorem RVs.length : ∀ {ds : List D} {vs : List V}, RVs K ρ H vs ds → vs.length = ds.length
  | [], _, h => by unfold RVs at h; subst h; rfl
  | d :: ds, _, h => by
    unfold RVs at h
    obtain ⟨v, r, e, _, h2⟩ := h
    subst e
    simp [RVs.length h2]
theorem RVs.get : ∀ {ds : List D} {vs : List V} {i : Nat} {d : D}, RVs K ρ H vs ds → ds[i]? = some d → ∃ v, vs[i]? = some v ∧ RV K ρ H v d
  | [], _, _, _, _, e => by simp at e
  | x :: ds, _, 0, d, h, e => by
    unfold RVs at h
    obtain ⟨v, r, e2, h1, _⟩ := h
    simp at e; subst e; subst e2
    exact ⟨v, rfl, h1⟩
  | x :: ds, _, i + 1, d, h, e => by
    unfold RVs at h
    obtain ⟨v, r, e2, _, h2⟩ := h
    subst e2
    exact RVs.get (i := i) h2 (by simpa using e)
theorem RVs.nil_ : RVs K ρ H [] [] := by unfold RVs; rfl
theorem RVs.cons_ {v : V} {d : D} {vs : List V} {ds : List D} (h : RV K ρ H v d) (t : RVs K ρ H vs ds) : RVs K ρ H (v :: vs) (d :: ds) := by
  unfold RVs; exact ⟨v, vs, rfl, h, t⟩
theorem RVs.append : ∀ {xs ys : List D} {us vs : List V}, RVs K ρ H us xs → RVs K ρ H vs ys → RVs K ρ H (us ++ vs) (xs ++ ys)
  | [], _, _, _, h, t => by unfold RVs at h; subst h; exact t
  | x :: xs, _, _, _, h, t => by
    unfold RVs at h
    obtain ⟨v, r, e2, h1, h2⟩ := h
    subst e2
    exact RVs.cons_ h1 (RVs.append h2 t)
theorem RVs.take : ∀ {xs : List D} {us : List V} (n : Nat), RVs K ρ H us xs → RVs K ρ H (us.take n) (xs.take n)
  | xs, us, 0, h => by simp; exact RVs.nil_
  | [], _, n + 1, h => by unfold RVs at h; subst h; exact RVs.nil_
  | x :: xs, _, n + 1, h => by
    unfold RVs at h
    obtain ⟨v, r, e2, h1, h2⟩ := h
    subst e2
    exact RVs.cons_ h1 (RVs.take n h2)
theorem RVs.drop : ∀ {xs : List D} {us : List V} (n : Nat), RVs K ρ H us xs → RVs K ρ H (us.drop n) (xs.drop n)
  | xs, us, 0, h => h
  | [], _, n + 1, h => by unfold RVs at h; subst h; exact RVs.nil_
  | x :: xs, _, n + 1, h => by
    unfold RVs at h
    obtain ⟨v, r, e2, h1, h2⟩ := h
    subst e2
    exact RVs.drop n h2
theorem RVs.set : ∀ {xs : List D} {us : List V} {v : V} {d : D} (n : Nat), RV K ρ H v d → RVs K ρ H us xs → RVs K ρ H (us.set n v) (xs.set n d)
  | [], _, _, _, _, _, h => by unfold RVs at h; subst h; exact RVs.nil_
  | x :: xs, _, v, d, 0, hv, h => by
    unfold RVs at h
    obtain ⟨v, r, e2, h1, h2⟩ := h
    subst e2
    exact RVs.cons_ hv h2
  | x :: xs, _, v, d, n + 1, hv, h => by
    unfold RVs at h
    obtain ⟨v, r, e2, h1, h2⟩ := h
    subst e2
    exact RVs.cons_ h1 (RVs.set n hv h2)
theorem RVs.erase : ∀ {xs : List D} {us : List V} (n : Nat), RVs K ρ H us xs → RVs K ρ H (us.eraseIdx n) (xs.eraseIdx n)
  | [], _, _, h => by unfold RVs at h; subst h; exact RVs.nil_
  | x :: xs, _, 0, h => by
    unfold RVs at h
    obtain ⟨v, r, e2, h1, h2⟩ := h
    subst e2
    exact h2
  | x :: xs, _, n + 1, h => by
    unfold RVs at h
    obtain ⟨v, r, e2, h1, h2⟩ := h
    subst e2
    exact RVs.cons_ h1 (RVs.erase n h2)
theorem RVs.rep {xs : List D} {us : List V} (h : RVs K ρ H us xs) : ∀ k : Nat, RVs K ρ H (List.replicate k us).flatten (List.replicate k xs).flatten
  | 0 => RVs.nil_
  | k + 1 => by
    rw [List.replicate_succ, List.replicate_succ, List.flatten_cons, List.flatten_cons]
    exact RVs.append h (RVs.rep h k)
end

section
variable {G : Glob} {ρ ρ' : List Addr} {H H' : Hp} {st : Store}
theorem nx_laid {p : Addr} {o : HO} (h : H p = none) : Nx ρ H ρ (upd H p o) := by
  refine ⟨⟨[], by simp⟩, fun a xs e => ?_, fun a ob u e => ?_⟩
  · rw [upd_ne (ne_of_none e h)]; exact e
  · rw [upd_ne (ne_of_none e h)]; exact e
theorem nx_new {p : Addr} {o : HO} (h : H p = none) : Nx ρ H (ρ ++ [p]) (upd H p o) := ⟨⟨[p], rfl⟩, (nx_laid (ρ := ρ) h).tup, (nx_laid (ρ := ρ) h).frz⟩
theorem Rel.at_ (R : Rel G ρ H st) {n : Nat} {a : Addr} (h : ρ[n]? = some a) : ∃ mo, st[n]? = some mo ∧ RO G ρ H a mo := by
  obtain ⟨hi, e⟩ := List.getElem?_eq_some_iff.mp h
  have hi' : n < st.length := by rw [← R.len]; exact hi
  exact ⟨st[n], by simp [hi'], R.obj n _ a (by simp [hi']) h⟩
theorem Rel.addr (R : Rel G ρ H st) {n : Nat} {mo : MO} (h : st[n]? = some mo) : ∃ a, ρ[n]? = some a ∧ RO G ρ H a mo := by
  obtain ⟨hi, e⟩ := List.getElem?_eq_some_iff.mp h
  have hi' : n < ρ.length := by rw [R.len]; exact hi
  exact ⟨ρ[n], by simp [hi'], R.obj n mo _ h (by simp [hi'])⟩
theorem Rel.ne_new (R : Rel G ρ H st) {n : Nat} {a p : Addr} (h : ρ[n]? = some a) (hp : H p = none) : a ≠ p := by
  obtain ⟨mo, _, r⟩ := R.at_ h
  obtain ⟨o, e, _⟩ := r.some_
  exact ne_of_none e hp
theorem Rel.ne_at (R : Rel G ρ H st) {n m : Nat} {a b : Addr} (h : ρ[n]? = some a) (h' : ρ[m]? = some b) (e : n ≠ m) : a ≠ b := by
  rintro rfl
  obtain ⟨hn, e1⟩ := List.getElem?_eq_some_iff.mp h
  obtain ⟨hm, e2⟩ := List.getElem?_eq_some_iff.mp h'
  exact e ((List.getElem_inj R.nd).mp (e1.trans e2.symm))
/-- a thing that stands still is laid -/
theorem Rel.laid {p : Addr} {o : HO} (R : Rel G ρ H st) (h : H p = none) : Rel G ρ (upd H p o) st :=
  ⟨R.len, R.nd, fun n mo a e1 e2 => (R.obj n mo a e1 e2).mono (nx_laid h) (upd_ne (R.ne_new e2 h))⟩
/-- a new object of the store -/
theorem Rel.new {p : Addr} {o : HO} {mo : MO} (R : Rel G ρ H st) (h : H p = none) (r : RO G (ρ ++ [p]) (upd H p o) p mo) : Rel G (ρ ++ [p]) (upd H p o) (st ++ [mo]) := by
  refine ⟨by simp [R.len], ?_, fun n m a e1 e2 => ?_⟩
  · rw [List.nodup_append]
    refine ⟨R.nd, by simp, fun a ha b hb => ?_⟩
    simp at hb; subst hb
    obtain ⟨n, hn⟩ := List.getElem?_of_mem ha
    exact R.ne_new hn h
  · by_cases hn : n < ρ.length
    · have hn' : n < st.length := by rw [← R.len]; exact hn
      rw [List.getElem?_append_left hn'] at e1
      rw [List.getElem?_append_left hn] at e2
      exact (R.obj n m a e1 e2).mono (nx_new h) (upd_ne (R.ne_new e2 h))
    · have hn' : ¬ n < st.length := by rw [← R.len]; exact hn
      rw [List.getElem?_append_right (by omega)] at e1 e2
      have hk : n - st.length = 0 := by
        obtain ⟨z, _⟩ := List.getElem?_eq_some_iff.mp e1
        simp at z; exact z
      have hk2 : n - ρ.length = 0 := by rw [R.len]; exact hk
      rw [hk] at e1; rw [hk2] at e2
      simp at e1 e2
      subst e1; subst e2
      exact r
theorem nx_put {n : Nat} {a : Addr} {o : HO} (R : Rel G ρ H st) (h : ρ[n]? = some a) : Nx ρ H ρ (upd H a o) := by
  obtain ⟨mo, _, r⟩ := R.at_ h
  obtain ⟨u, e, ht, hf⟩ := r.some_
  refine ⟨⟨[], by simp⟩, fun b xs q => ?_, fun b ob v q => ?_⟩
  · rw [upd_ne]; exact q
    rintro rfl; rw [e] at q; cases q; exact ht _ rfl
  · rw [upd_ne]; exact q
    rintro rfl; rw [e] at q; cases q; exact hf _ _ rfl
/-- an object of the store is changed -/
theorem Rel.put {n : Nat} {a : Addr} {o : HO} {mo : MO} (R : Rel G ρ H st) (h : ρ[n]? = some a) (r : RO G ρ (upd H a o) a mo) : Rel G ρ (upd H a o) (st.set n mo) := by
  refine ⟨by simp [R.len], R.nd, fun m mo' b e1 e2 => ?_⟩
  by_cases hm : m = n
  · subst hm
    rw [h] at e2; cases e2
    obtain ⟨mo0, h0, _⟩ := R.at_ h
    obtain ⟨hi, _⟩ := List.getElem?_eq_some_iff.mp h0
    rw [List.getElem?_set_self hi] at e1; cases e1
    exact r
  · rw [List.getElem?_set_ne (Ne.symm hm)] at e1
    exact (R.obj m mo' b e1 e2).mono (nx_put R h) (upd_ne (R.ne_at e2 h hm))
end
end Mi

set_option linter.all false
set_option maxRecDepth 100000
/-! What the small language means. -/
namespace Mi
open PySem L2
open Classical

theorem Res.bind_ok {d : D} {st : Store} {k : D → Store → Res} : (Res.ok d st).bind k = k d st := rfl
theorem Res.bind_exc {c : Str} {st : Store} {k : D → Store → Res} : (Res.exc c st).bind k = .exc c st := rfl
theorem Res.bind_bad {k : D → Store → Res} : Res.bad.bind k = .bad := rfl
theorem Res.bindL_ok {d : D} {st : Store} {k : D → Store → ResL} : (Res.ok d st).bindL k = k d st := rfl
theorem Res.bindL_exc {c : Str} {st : Store} {k : D → Store → ResL} : (Res.exc c st).bindL k = .exc c st := rfl
theorem Res.bindL_bad {k : D → Store → ResL} : Res.bad.bindL k = .bad := rfl
theorem ResL.bind_ok {d : List D} {st : Store} {k : List D → Store → Res} : (ResL.ok d st).bind k = k d st := rfl
theorem ResL.bind_exc {c : Str} {st : Store} {k : List D → Store → Res} : (ResL.exc c st).bind k = .exc c st := rfl
theorem ResL.bind_bad {k : List D → Store → Res} : ResL.bad.bind k = .bad := rfl
/-- .. where nothing may be raised -/
def ResL.bindN : ResL → (List D → Store → Res) → Res
  | .ok d st, k => k d st
  | _, _ => .bad
theorem ResL.bindN_ok {d : List D} {st : Store} {k : List D → Store → Res} : (ResL.ok d st).bindN k = k d st := rfl
theorem ResL.bindN_exc {c : Str} {st : Store} {k : List D → Store → Res} : (ResL.exc c st).bindN k = .bad := rfl
theorem ResL.bindN_bad {k : List D → Store → Res} : ResL.bad.bindN k = .bad := rfl
theorem ResL.bindL_ok {d : List D} {st : Store} {k : List D → Store → ResL} : (ResL.ok d st).bindL k = k d st := rfl
theorem ResL.bindL_exc {c : Str} {st : Store} {k : List D → Store → ResL} : (ResL.exc c st).bindL k = .exc c st := rfl
theorem ResL.bindL_bad {k : List D → Store → ResL} : ResL.bad.bindL k = .bad := rfl
theorem Res.bindO_ok {d : D} {st : Store} {env : Env} {k : D → Store → Out} : (Res.ok d st).bindO env k = k d st := rfl
theorem Res.bindO_exc {c : Str} {st : Store} {env : Env} {k : D → Store → Out} : (Res.exc c st).bindO env k = .exc c env st := rfl
theorem Res.bindO_bad {env : Env} {k : D → Store → Out} : Res.bad.bindO env k = .bad := rfl

def tyName : D → Option String
  | .non => some "NoneType"
  | .bl _ => some "bool"
  | .int _ => some "int"
  | .str _ => some "str"
  | .tup _ => some "tuple"
  | _ => none
def tyNameS (st : Store) : D → Option String
  | .ref n => match st[n]? with
    | some (.lst _) => some "list"
    | _ => none
  | d => tyName d
/-- isinstance(x, T) of a value of type a: T is a, or a is bool and T is int -/
def instOf (a b : String) : Bool := a == b || (a == "bool" && b == "int")

def eqD (st : Store) (x y : D) : Option Bool := match dataS st x, dataS st y with
  | some a, some b => if SeqAt.shaped a && SeqAt.shaped b then some (PyData.eqv a b) else none
  | _, _ => none
def flatD : D → Bool
  | .non => true | .bl _ => true | .int _ => true | .str _ => true
  | _ => false
def inD (st : Store) (x y : D) : Option Bool := match y with
  | .str t => match x with
    | .str s => some (!(Builtin.Str.occurrences t s 0 t.length 1).isEmpty)
    | _ => none
  | .tup ys => if flatD x && ys.all flatD then match D.data x, D.dataL ys with
      | some d, some ds => some (ds.any fun z => PyData.eqv z d)
      | _, _ => none
    else none
  | .ref n => match st[n]? with
    | some (.lst ys) => match dataS st x, D.dataL ys with
      | some d, some ds => if SeqAt.shaped d && SeqAt.shaped (.list ds) then some (ds.any fun z => PyData.eqv z d) else none
      | _, _ => none
    | _ => none
  | _ => none
def resB (st : Store) : Option Bool → Res
  | some b => .ok (.bl b) st
  | none => .bad
def isNon : D → Bool
  | .non => true
  | _ => false
def cmpop : COp → D → D → Store → Res
  | .eq, x, y, st => resB st (eqD st x y)
  | .ne, x, y, st => resB st ((eqD st x y).map (!·))
  | .lt, .int i, .int j, st => .ok (.bl (decide (i < j))) st
  | .le, .int i, .int j, st => .ok (.bl (decide (i ≤ j))) st
  | .gt, .int i, .int j, st => .ok (.bl (decide (j < i))) st
  | .ge, .int i, .int j, st => .ok (.bl (decide (j ≤ i))) st
  | .lt, .str i, .str j, st => .ok (.bl (decide (i.cps.toList < j.cps.toList))) st
  | .le, .str i, .str j, st => .ok (.bl (!decide (j.cps.toList < i.cps.toList))) st
  | .isin, x, y, st => resB st (inD st x y)
  | .notin, x, y, st => resB st ((inD st x y).map (!·))
  | .is, x, .non, st => .ok (.bl (isNon x)) st
  | .isnot, x, .non, st => .ok (.bl (!isNon x)) st
  | .is, .bl a, .bl b, st => .ok (.bl (decide (a = b))) st
  | .isnot, .bl a, .bl b, st => .ok (.bl (!decide (a = b))) st
  | _, _, _, _ => .bad
def unop : UOp → D → Store → Res
  | .neg, .int i, st => .ok (.int (-i)) st
  | _, _, _ => .bad

def in63 (i : Int) : Prop := -(2 ^ 63) ≤ i ∧ i < 2 ^ 63
noncomputable instance (i : Int) : Decidable (in63 i) := Classical.propDecidable _
def cutG {α : Type} (xs : List α) (lo hi : Option Int) : List α := (xs.drop (HT.sIx xs.length 0 lo)).take (HT.sIx xs.length xs.length hi - HT.sIx xs.length 0 lo)
def idxop : D → D → Store → Res
  | .tup xs, .int i, st => match atI xs i with
    | some d => .ok d st
    | none => .bad
  | .fl xs, .int i, st => match atI xs i with
    | some d => .ok d st
    | none => .bad
  | .ref n, .int i, st => match st[n]? with
    | some (.lst xs) => match atI xs i with
      | some d => .ok d st
      | none => .bad
    | _ => .bad
  | .str z, .int i, st => match atI z.cps.toList i with
    | some c => if z.length ≤ LINE then .ok (.str ⟨#[c]⟩) st else .bad
    | none => .bad
  | _, _, _ => .bad
/-- a part of a slice -/
def partD : D → Option (Option Int)
  | .int i => some (some i)
  | _ => none
def slcop : D → Option Int → Option Int → Store → Res
  | .tup xs, lo, hi, st => .ok (.tup (cutG xs lo hi)) st
  | .str z, lo, hi, st => if z.length ≤ LINE then .ok (.str (cutS z lo hi)) st else .bad
  | .fl xs, lo, hi, st => .ok (.ref st.length) (st ++ [.lst (cutG xs lo hi)])
  | .ref n, lo, hi, st => match st[n]? with
    | some (.lst xs) => .ok (.ref st.length) (st ++ [.lst (cutG xs lo hi)])
    | _ => .bad
  | _, _, _, _ => .bad

def intsD : List D → Option (List Int)
  | [] => some []
  | .int i :: r => (intsD r).map (i :: ·)
  | _ :: _ => none
def blsD : List D → Option (List Bool)
  | [] => some []
  | .bl i :: r => (blsD r).map (i :: ·)
  | _ :: _ => none
def strsD : List D → Option (List Str)
  | [] => some []
  | .str i :: r => (strsD r).map (i :: ·)
  | _ :: _ => none
def lstOf (st : Store) : D → Option (List D)
  | .fl xs => some xs
  | .ref n => match st[n]? with
    | some (.lst xs) => some xs
    | _ => none
  | _ => none
/-- what can be sorted: data of one shape -/
def sortItems (st : Store) : D → Option (List D)
  | .ref n => match st[n]? with
    | some (.lst xs) => some xs
    | _ => none
  | _ => none
def encD' (d : D) : PyData := (D.data d).getD .none
def okSort (xs : List D) : Prop := (∃ ps, D.dataL xs = some ps) ∧ PySem.W.AllAlike (xs.map encD') ∧ PySem.W.Sortable (xs.map encD') ∧ (∀ x ∈ xs, (encD' x).canLay0 = true ∧ (encD' x).depth ≤ 8) ∧ xs.length ≤ LINE
noncomputable instance (xs : List D) : Decidable (okSort xs) := Classical.propDecidable _
def sortD (xs : List D) : List D := xs.mergeSort (PySem.W.dataLe false encD')
noncomputable def biop : BI → List D → Store → Res
  | .len, [.tup xs], st => .ok (.int xs.length) st
  | .len, [.str z], st => if z.length ≤ LINE then .ok (.int z.length) st else .bad
  | .len, [x], st => match lstOf st x with
    | some xs => .ok (.int xs.length) st
    | none => .bad
  | .int, [.int i], st => .ok (.int i) st
  | .int, [.bl k], st => .ok (.int (if k then 1 else 0)) st
  | .int, [.str z], st => match PySem.intText? z with
    | some n => if z.length ≤ 640 then .ok (.int n) st else .bad
    | none => .bad
  | .str, [.int i], st => if i.natAbs.log2 < 1920 then .ok (.str (toString i)) st else .bad
  | .tuple, [.tup xs], st => .ok (.tup xs) st
  | .tuple, [x], st => match lstOf st x with
    | some xs => .ok (.tup xs) st
    | none => .bad
  | .list, [.tup xs], st => .ok (.ref st.length) (st ++ [.lst xs])
  | .list, [x], st => match lstOf st x with
    | some xs => .ok (.ref st.length) (st ++ [.lst xs])
    | none => .bad
  | .sum, [.tup xs], st => match intsD xs with
    | some ns => .ok (.int ns.sum) st
    | none => .bad
  | .sum, [x], st => match (lstOf st x).bind intsD with
    | some ns => .ok (.int ns.sum) st
    | none => .bad
  | .all, [x], st => match (lstOf st x).bind blsD with
    | some bs => .ok (.bl (bs.all id)) st
    | none => .bad
  | .max, [.int i, .int j], st => .ok (.int (if j > i then j else i)) st
  | .min, [.int i, .int j], st => .ok (.int (if j < i then j else i)) st
  | .abs, [.int i], st => .ok (.int (if i < 0 then -i else i)) st
  | .sorted, [x], st => match sortItems st x with
    | some xs => if okSort xs then .ok (.ref st.length) (st ++ [.lst (sortD xs)]) else .bad
    | none => .bad
  | _, _, _ => .bad
noncomputable def mthop : MI → D → List D → Store → Res
  | .append, .ref n, [y], st => match st[n]? with
    | some (.lst xs) => if xs.length < LINE then .ok .non (st.set n (.lst (xs ++ [y]))) else .bad
    | _ => .bad
  | .pop, .ref n, [.int i], st => match st[n]? with
    | some (.lst xs) => match seqIndex? i xs.length with
      | some k => match xs[k]? with
        | some y => if in63 i then .ok y (st.set n (.lst (xs.eraseIdx k))) else .bad
        | none => .bad
      | none => .bad
    | _ => .bad
  | .extend, .ref n, [.ref m], st => match st[n]?, st[m]? with
    | some (.lst xs), some (.lst ys) => if xs.length + ys.length ≤ LINE then .ok .non (st.set n (.lst (xs ++ ys))) else .bad
    | _, _ => .bad
  | .startswith, .str a, [.str b], st => .ok (.bl (Txt.startswith a b)) st
  | .endswith, .str a, [.str b], st => .ok (.bl (Txt.endswith a b)) st
  | .removeprefix, .str a, [.str b], st => if a.length ≤ LINE then .ok (.str (Txt.removeprefix a b)) st else .bad
  | .isascii, .str a, [], st => .ok (.bl (Txt.isascii a)) st
  | .isdigit, .str a, [], st => .ok (.bl (Txt.isdigit a)) st
  | .split, .str a, [.str b], st => if (b.length == 0) = false ∧ a.length + 2 ≤ LINE then .ok (.ref st.length) (st ++ [.lst ((Txt.split a b).map .str)]) else .bad
  | .partition, .str a, [.str b], st => if (b.length == 0) = false ∧ a.length ≤ LINE then
      .ok (.tup [.str (Txt.partition a b).1, .str (Txt.partition a b).2.1, .str (Txt.partition a b).2.2]) st else .bad
  | .join, .str a, [x], st => match (match x with | .tup xs => some xs | x => lstOf st x) with
    | some xs => match strsD xs with
      | some ys => if (ys.map (·.length)).sum + ys.length * a.length ≤ LINE then .ok (.str (Txt.join a ys)) st else .bad
      | none => .bad
    | none => .bad
  | .count, .ref n, [y], st => match st[n]? with
    | some (.lst xs) => match dataS st y, D.dataL xs with
      | some d, some ds => if (SeqAt.shaped d && SeqAt.shaped (.list ds)) = true then .ok (.int ((ds.countP fun z => PyData.eqv z d : Nat) : Int)) st else .bad
      | _, _ => .bad
    | _ => .bad
  | .index, .tup xs, [.str z], st => match strsD xs with
    | some ys => match ys.findIdx? (fun y => decide (y = z)) with
      | some j => .ok (.int (j : Int)) st
      | none => .bad
    | none => .bad
  | _, _, _, _ => .bad

/-- what a method is looked up on -/
def recvOk (m : MI) (x : D) (st : Store) : Bool := match m with
  | .index => (match x with
    | .tup _ => true
    | _ => false)
  | .append | .pop | .extend | .count => (match x with
    | .ref n => (match st[n]? with
      | some (.lst _) => true
      | _ => false)
    | _ => false)
  | .join | .split | .partition | .startswith | .endswith | .removeprefix | .isascii | .isdigit => (match x with
    | .str _ => true
    | _ => false)
  | _ => false
/-- what a loop goes over: the items, and the list that must stand meanwhile -/
inductive ItR where
  | ok (items : List D) (gd : Option (Nat × List D)) (st : Store) | exc (c : Str) (st : Store) | bad
def gdOk (gd : Option (Nat × List D)) (st : Store) : Prop := match gd with
  | none => True
  | some (n, xs) => st[n]? = some (.lst xs)
def itemsOf (st : Store) : D → Option (List D × Option (Nat × List D))
  | .tup xs => some (xs, none)
  | .fl xs => some (xs, none)
  | .str z => some (z.cps.toList.map fun c => .str ⟨#[c]⟩, none)
  | .ref n => match st[n]? with
    | some (.lst xs) => some (xs, some (n, xs))
    | _ => none
  | _ => none
def rangeD (lo hi : Int) : List D := (List.range (hi - lo).toNat).map fun (k : Nat) => .int (lo + (k : Int))
def enumD : Int → List D → List D
  | _, [] => []
  | i, x :: xs => .tup [.int i, x] :: enumD (i + 1) xs
def zipD (xs ys : List D) : List D := (xs.zip ys).map fun p => .tup [p.1, p.2]
def small62 (i : Int) : Prop := -(2 ^ 62) ≤ i ∧ i < 2 ^ 62
noncomputable instance (i : Int) : Decidable (small62 i) := Classical.propDecidable _

noncomputable def forL (step : D → Env → Store → Out) (gd : Option (Nat × List D)) : List D → Env → Store → Out
  | [], env, st => if gdOk gd st then .nx env st else .bad
  | x :: xs, env, st => if gdOk gd st then (match step x env st with
    | .nx e s => forL step gd xs e s
    | .ct e s => forL step gd xs e s
    | .bk e s => .nx e s
    | o => o) else .bad
/-- a comprehension's turn: the item is kept (some) or left out (none) -/
inductive CRes where
  | ok (d : Option D) (st : Store) | bad
noncomputable def compL (step : D → Store → CRes) (gd : Option (Nat × List D)) (n : Nat) : List D → Store → Res
  | [], st => if gdOk gd st then .ok (.ref n) st else .bad
  | x :: xs, st => if gdOk gd st then (match step x st with
    | .ok none s => compL step gd n xs s
    | .ok (some d) s => match s[n]? with
      | some (.lst acc) => if acc.length < LINE then compL step gd n xs (s.set n (.lst (acc ++ [d]))) else .bad
      | _ => .bad
    | .bad => .bad) else .bad
def whlL (c : Env → Store → Res) (b : Env → Store → Out) : Nat → Env → Store → Out
  | 0, _, _ => .bad
  | k + 1, env, st => match c env st with
    | .ok (.bl true) s => (match b env s with
      | .nx e s => whlL c b k e s
      | .ct e s => whlL c b k e s
      | .bk e s => .nx e s
      | o => o)
    | .ok (.bl false) s => .nx env s
    | .exc x s => .exc x env s
    | _ => .bad

/-- slots are filled by a loop's item -/
def setMany : List Nat → List D → Env → Option Env
  | [], [], env => some env
  | i :: is, d :: ds, env => setMany is ds (env.set i (some d))
  | _, _, _ => none
def tgSet : Tg → D → Env → Option Env
  | .name i, d, env => some (env.set i (some d))
  | .tup is, .tup ds, env => setMany is ds env
  | _, _, _ => none
def wipeE (env : Env) : List Nat → Env
  | [] => env
  | i :: is => (wipeE env is).set i none

/-- truth where it is plain -/
def truth (st : Store) : D → Option Bool
  | .bl b => some b
  | .ref n => match st[n]? with
    | some (.lst xs) => some (!xs.isEmpty)
    | _ => none
  | _ => none

/-! dicts, sets -/
def keyOf (t : Bool) (d : D) : Option (List Key) := if t = true then keyT d else (keyD d).map fun k => [k]
def dVal (t : Bool) (kvs : List (D × D)) (z : List Key) : Option D := (kvs.find? fun p => decide (keyOf t p.1 = some z)).map (·.2)
def dPut (t : Bool) (kvs : List (D × D)) (k : D) (z : List Key) (v : D) : List (D × D) :=
  if (kvs.any fun p => decide (keyOf t p.1 = some z)) = true then kvs.map (fun p => if keyOf t p.1 = some z then (p.1, v) else p) else kvs ++ [(k, v)]
/-- what a dict has at a key: (there is such a dict, this is a key) -/
def dAsk (st : Store) (x k : D) : Option (Option D) := match x with
  | .ref n => match st[n]? with
    | some (.dic t kvs) => (keyOf t k).map fun z => dVal t kvs z
    | _ => none
  | _ => none
def dgetop (x k : D) (st : Store) : Res := match dAsk st x k with
  | some (some v) => .ok v st
  | _ => .bad
def dinop (neg : Bool) (x k : D) (st : Store) : Res := match dAsk st x k with
  | some o => .ok (.bl (if neg then !o.isSome else o.isSome)) st
  | none => .bad
def dgetmop (x k y : D) (st : Store) : Res := match dAsk st x k with
  | some o => .ok (o.getD y) st
  | none => .bad
def saddop (x k : D) (st : Store) : Res := match x with
  | .ref n => match st[n]? with
    | some (.sett ds) => match keyT k with
      | some z => if ds.length + 1 < 64 then (if (ds.any fun d => decide (keyT d = some z)) = true then .ok .non st else .ok .non (st.set n (.sett (ds ++ [k])))) else .bad
      | none => .bad
    | _ => .bad
  | _ => .bad
def slenop (x : D) (st : Store) : Res := match x with
  | .ref n => match st[n]? with
    | some (.sett ds) => .ok (.int ds.length) st
    | some (.dic false kvs) => .ok (.int kvs.length) st
    | _ => .bad
  | _ => .bad
def dputop (t : Bool) (x k v : D) (st : Store) : Option Store := match x with
  | .ref n => match st[n]? with
    | some (.dic t' kvs) => if t' = t then match keyOf t k with
      | some z => if kvs.length < LINE then some (st.set n (.dic t (dPut t kvs k z v))) else none
      | none => none
      else none
    | _ => none
  | _ => none
/-- the class of an object -/
def insOf (x : D) (st : Store) : Option Str := match x with
  | .ref n => match st[n]? with
    | some (.ins c _) => some c
    | _ => none
  | _ => none
def isSet (x : D) (st : Store) : Bool := match x with
  | .ref n => match st[n]? with
    | some (.sett _) => true
    | _ => false
  | _ => false
def isDic (x : D) (st : Store) : Bool := match x with
  | .ref n => match st[n]? with
    | some (.dic _ _) => true
    | _ => false
  | _ => false
/-- a dict display of texts and ints -/
def litP : Es → Es → Option (List (Str × Int))
  | .nil, .nil => some []
  | .cons (.str x) ks, .cons (.int i) vs => (litP ks vs).map ((x, i) :: ·)
  | _, _ => none
def dicLit (t : Bool) (ks vs : Es) (st : Store) : Res := match litP ks vs with
  | some kvs => if t = false ∧ (kvs.map (·.1)).Nodup ∧ kvs ≠ [] ∧ kvs.length ≤ 15 then .ok (.ref st.length) (st ++ [.dic false (kvs.map fun p => (.str p.1, .int p.2))]) else .bad
  | none => .bad
section
variable (C : Oracle) (cs : Str → Option D)
mutual
noncomputable def evE : E → Env → Store → Res
  | .non, _, st => .ok .non st
  | .bl b, _, st => .ok (.bl b) st
  | .int i, _, st => .ok (.int i) st
  | .str x, _, st => .ok (.str x) st
  | .var i, env, st => match env[i]? with
    | some (some d) => .ok d st
    | _ => .bad
  | .glb x, _, st => match cs x with
    | some d => .ok d st
    | none => .bad
  | .un op a, env, st => (evE a env st).bind fun x st => unop op x st
  | .bin op a b, env, st => (evE a env st).bind fun x st => (evE b env st).bind fun y st => binop op x y st
  | .cmp op a b, env, st => (evE a env st).bind fun x st => (evE b env st).bind fun y st => cmpop op x y st
  | .chain o o' a b c, env, st => (evE a env st).bind fun x st => (evE b env st).bind fun y st => (cmpop o x y st).bind fun r st => match r with
    | .bl true => (evE c env st).bind fun z st => cmpop o' y z st
    | .bl false => .ok (.bl false) st
    | _ => .bad
  | .and es, env, st => evAnd es env st
  | .or es, env, st => evOr es env st
  | .not a, env, st => (evE a env st).bind fun x st => match x with
    | .bl b => .ok (.bl (!b)) st
    | _ => .bad
  | .ite c a b, env, st => (evE c env st).bind fun x st => match x with
    | .bl true => evE a env st
    | .bl false => evE b env st
    | _ => .bad
  | .tup es, env, st => (evEs es env st).bind fun ds st => if ds.length ≤ LINE then .ok (.tup ds) st else .bad
  | .lst es, env, st => (evEs es env st).bind fun ds st => if ds.length ≤ LINE then .ok (.ref st.length) (st ++ [.lst ds]) else .bad
  | .dic t .nil .nil, env, st => .ok (.ref st.length) (st ++ [.dic t []])
  | .dic t ks vs, env, st => dicLit t ks vs st
  | .idx a b, env, st => (evE a env st).bind fun x st => (evE b env st).bind fun y st => idxop x y st
  | .slc a lo hi, env, st => (evE a env st).bind fun x st => match evO lo env st with
    | (some l, st) => (match evO hi env st with
      | (some h, st) => slcop x l h st
      | _ => .bad)
    | _ => .bad
  | .call f es, env, st => (evEs es env st).bind fun ds st => C f ds st
  | .bi f es, env, st => (evEs es env st).bind fun ds st => biop f ds st
  | .mth m a es, env, st => (evE a env st).bind fun x st => if recvOk m x st = true then (evEs es env st).bind fun ds st => mthop m x ds st else .bad
  | .typeIs n a t, env, st => (evE a env st).bind fun x st => match tyNameS st x with
    | some u => .ok (.bl (if n then !decide ((t : Str) = u) else decide ((t : Str) = u))) st
    | none => .bad
  | .isin a t, env, st => (evE a env st).bind fun x st => match tyNameS st x with
    | some u => .ok (.bl (decide ((t : Str) = u) || (u == "bool" && decide ((t : Str) = ("int" : String))))) st
    | none => .bad
  | .lc own tg it cs elt, env, st => match evI it env st with
    | .ok xs gd st => compL (fun x s => match tgSet tg x (wipeE env (own.map (·.2))) with
        | some env' => (match evAll cs env' s with
          | .ok (.bl true) s => (match evE elt env' s with
            | .ok d s => .ok (some d) s
            | _ => .bad)
          | .ok (.bl false) s => .ok none s
          | _ => .bad)
        | none => .bad) gd st.length xs (st ++ [.lst []])
    | .exc c st => .exc c st
    | .bad => .bad
  | .fstr es, env, st => .bad
  | .attr a f, env, st => (evE a env st).bind fun x st => match x with
    | .ref n => (match st[n]? with
      | some (.ins _ fs) => (match fs.lookup f with
        | some d => .ok d st
        | none => .bad)
      | _ => .bad)
    | _ => .bad
  | .new c es, env, st => (evEs es env st).bindN fun ds st => (C "." (.str c :: .str "__init__" :: .ref st.length :: ds) (st ++ [.ins c []])).bind fun d st' => match d with
    | .non => .ok (.ref st.length) st'
    | _ => .bad
  | .omth m a es, env, st => (evE a env st).bind fun x st => match insOf x st with
    | some c => (evEs es env st).bindN fun ds st => C "." (.str c :: .str m :: x :: ds) st
    | none => .bad
  | .set0, _, st => .ok (.ref st.length) (st ++ [.sett []])
  | .sadd a e, env, st => (evE a env st).bind fun x st => if isSet x st = true then (evE e env st).bind fun y st => saddop x y st else .bad
  | .slen a, env, st => (evE a env st).bind fun x st => slenop x st
  | .dget a e, env, st => (evE a env st).bind fun x st => (evE e env st).bind fun y st => dgetop x y st
  | .din n e a, env, st => (evE e env st).bind fun y st => (evE a env st).bind fun x st => dinop n x y st
  | .dgetm a e z, env, st => (evE a env st).bind fun x st => if isDic x st = true then (evE e env st).bind fun y st => (evE z env st).bind fun w st => dgetmop x y w st else .bad
noncomputable def evEs : Es → Env → Store → ResL
  | .nil, _, st => .ok [] st
  | .cons e es, env, st => (evE e env st).bindL fun d st => (evEs es env st).bindL fun ds st => .ok (d :: ds) st
/-- and, or: values; all but the last are True or False -/
noncomputable def evAnd : Es → Env → Store → Res
  | .nil, _, _ => .bad
  | .cons e .nil, env, st => evE e env st
  | .cons e es, env, st => (evE e env st).bind fun x st => match x with
    | .bl true => evAnd es env st
    | .bl false => .ok (.bl false) st
    | _ => .bad
noncomputable def evOr : Es → Env → Store → Res
  | .nil, _, _ => .bad
  | .cons e .nil, env, st => evE e env st
  | .cons e es, env, st => (evE e env st).bind fun x st => match x with
    | .bl true => .ok (.bl true) st
    | .bl false => evOr es env st
    | _ => .bad
/-- a comprehension's ifs -/
noncomputable def evAll : Es → Env → Store → Res
  | .nil, _, st => .ok (.bl true) st
  | .cons e es, env, st => (evE e env st).bind fun x st => match x with
    | .bl true => evAll es env st
    | .bl false => .ok (.bl false) st
    | _ => .bad
noncomputable def evO : Oe → Env → Store → Option (Option Int) × Store
  | .none, _, st => (some none, st)
  | .some e, env, st => match evE e env st with
    | .ok (.int i) st => (some (some i), st)
    | _ => (none, st)
noncomputable def evI : Ie → Env → Store → ItR
  | .rng1 a, env, st => match evE a env st with
    | .ok (.int j) st => if small62 j then .ok (rangeD 0 j) none st else .bad
    | .exc c st => .exc c st
    | _ => .bad
  | .rng2 a b, env, st => match evE a env st with
    | .ok (.int i) st => (match evE b env st with
      | .ok (.int j) st => if small62 i ∧ small62 j then .ok (rangeD i j) none st else .bad
      | .exc c st => .exc c st
      | _ => .bad)
    | .exc c st => .exc c st
    | _ => .bad
  | .enm a lo, env, st => match evE a env st with
    | .ok (.tup xs) st => .ok (enumD lo xs) none st
    | .exc c st => .exc c st
    | _ => .bad
  | .zip a b, env, st => match evE a env st with
    | .ok x st => (match evE b env st with
      | .ok y st => (match x, y with
        | .tup xs, .tup ys => .ok (zipD xs ys) none st
        | _, _ => .bad)
      | .exc c st => .exc c st
      | .bad => .bad)
    | .exc c st => .exc c st
    | .bad => .bad
  | .exp e, env, st => match evE e env st with
    | .ok d st => (match itemsOf st d with
      | some (xs, gd) => .ok xs gd st
      | none => .bad)
    | .exc c st => .exc c st
    | .bad => .bad
end
end

/-- what a handler returns; a handler of one statement -/
inductive HC where
  | non | bl (b : Bool) | int (i : Int) | neg (i : Int) | nil
inductive Hd where
  | ret (c : HC) | incr (i : Nat) (n : Int)
mutual
inductive S where
  | expr (e : E)
  | set (i : Nat) (e : E)
  | unp (is : List Nat) (e : E)
  | setIx (o i e : E)
  | dput (o i e : E)
  | dputT (o : E) (es : Es) (e : E)
  | setAt (o : E) (f : Str) (e : E)
  | aug (i : Nat) (op : BOp) (e : E)
  | augIx (o i : E) (op : BOp) (e : E)
  | ret (e : E) | ret0
  | iff (c : E) (a b : Ss)
  | for (tg : Tg) (it : Ie) (b : Ss)
  | whl (c : E) (b : Ss)
  | raise (c : Str)
  | tryE (b : Ss) (x : Str) (h : Hd)
  | pass | brk | cnt
inductive Ss where
  | nil | cons (s : S) (ss : Ss)
end
def setIxop (o i d : D) (st : Store) : Option Store := match o, i with
  | .ref n, .int k => match st[n]? with
    | some (.lst xs) => match ixN xs.length k with
      | some j => some (st.set n (.lst (xs.set j d)))
      | none => none
    | _ => none
  | _, _ => none
/-- what a text has besides its defs: which exception is caught by which name; which fields objects may have -/
structure Tab where
  sub : Str → Str → Bool
  fld : Str → Str → Bool
def putD (f : Str) (d : D) : List (Str × D) → List (Str × D)
  | [] => [(f, d)]
  | (g, x) :: r => if g = f then (g, d) :: r else (g, x) :: putD f d r
def setAtop (sub : Tab) (x : D) (f : Str) (d : D) (st : Store) : Option Store := match x with
  | .ref n => match st[n]? with
    | some (.ins c fs) => if sub.fld c f = true ∧ fs.length < 1000 then some (st.set n (.ins c (putD f d fs))) else none
    | _ => none
  | _ => none
def hcR : HC → Store → Out
  | .non, st => .rt .non st
  | .bl b, st => .rt (.bl b) st
  | .int i, st => .rt (.int i) st
  | .neg i, st => .rt (.int (-i)) st
  | .nil, st => .rt (.ref st.length) (st ++ [.lst []])
def hdR : Hd → Env → Store → Out
  | .ret c, _, st => hcR c st
  | .incr i n, env, st => match env[i]? with
    | some (some (.int v)) => .nx (env.set i (some (.int (v + n)))) st
    | _ => .bad
/-- an int in a list, at an index that is not negative -/
def ixInt (x y : D) (st : Store) : Option Int := match x, y with
  | .ref n, .int k => if 0 ≤ k then (match st[n]? with
    | some (.lst xs) => (match xs[k.toNat]? with
      | some (.int v) => some v
      | _ => none)
    | _ => none) else none
  | _, _ => none
def augInt (op : BOp) (v : Int) (z : D) : Option D := match op, z with
  | .add, .int w => some (.int (v + w))
  | .sub, .int w => some (.int (v - w))
  | _, _ => none
section
variable (C : Oracle) (cs : Str → Option D) (sub : Tab) (wf : Nat)
mutual
noncomputable def evS : S → Env → Store → Out
  | .expr e, env, st => (evE C cs e env st).bindO env fun _ st => .nx env st
  | .set i e, env, st => (evE C cs e env st).bindO env fun d st => .nx (env.set i (some d)) st
  | .unp is e, env, st => (evE C cs e env st).bindO env fun d st => match d with
    | .tup ds => (match setMany is ds env with
      | some env => .nx env st
      | none => .bad)
    | _ => .bad
  | .setIx o i e, env, st => (evE C cs e env st).bindO env fun d st => (evE C cs o env st).bindO env fun x st => (evE C cs i env st).bindO env fun y st => match setIxop x y d st with
    | some st => .nx env st
    | none => .bad
  | .dput o i e, env, st => (evE C cs e env st).bindO env fun d st => (evE C cs o env st).bindO env fun x st => (evE C cs i env st).bindO env fun y st => match dputop false x y d st with
    | some st => .nx env st
    | none => .bad
  | .dputT o es e, env, st => (evE C cs e env st).bindO env fun d st => (evE C cs o env st).bindO env fun x st => (evEs C cs es env st).bindO env fun ys st => match (if ys.length ≤ LINE then dputop true x (.tup ys) d st else none) with
    | some st => .nx env st
    | none => .bad
  | .setAt o f e, env, st => (evE C cs e env st).bindO env fun d st => (evE C cs o env st).bindO env fun x st => match setAtop sub x f d st with
    | some st => .nx env st
    | none => .bad
  | .aug i op e, env, st => match env[i]? with
    | some (some x) => (evE C cs e env st).bindO env fun y st => match op with
      | .add => (match binop .add x y st with
        | .ok (.int z) st => .nx (env.set i (some (.int z))) st
        | _ => .bad)
      | .sub => (match binop .sub x y st with
        | .ok (.int z) st => .nx (env.set i (some (.int z))) st
        | _ => .bad)
      | _ => .bad
    | _ => .bad
  | .augIx o i op e, env, st => (evE C cs o env st).bindO env fun x st => (evE C cs i env st).bindO env fun y st => match ixInt x y st with
    | some v => (evE C cs e env st).bindO env fun z st => (match augInt op v z with
      | some d => (match setIxop x y d st with
        | some st => .nx env st
        | none => .bad)
      | none => .bad)
    | none => .bad
  | .ret e, env, st => (evE C cs e env st).bindO env fun d st => .rt d st
  | .ret0, env, st => .rt .non st
  | .iff c a b, env, st => (evE C cs c env st).bindO env fun x st => match truth st x with
    | some true => evSs a env st
    | some false => evSs b env st
    | none => .bad
  | .for tg it b, env, st => match evI C cs it env st with
    | .ok xs gd st => forL (fun x env st => match tgSet tg x env with
      | some env => evSs b env st
      | none => .bad) gd xs env st
    | .exc c st => .exc c env st
    | .bad => .bad
  | .whl c b, env, st => whlL (fun env st => match evE C cs c env st with
    | .ok d st => (match truth st d with
      | some t => .ok (.bl t) st
      | none => .bad)
    | r => r) (fun env st => evSs b env st) wf env st
  | .raise c, env, st => if sub.sub c c = true then .exc c env st else .bad
  | .tryE b x h, env, st => match evSs b env st with
    | .exc c env st => if sub.sub c x = true then hdR h env st else .bad
    | o => o
  | .pass, env, st => .nx env st
  | .brk, env, st => .bk env st
  | .cnt, env, st => .ct env st
noncomputable def evSs : Ss → Env → Store → Out
  | .nil, env, st => .nx env st
  | .cons s ss, env, st => match evS s env st with
    | .nx env st => evSs ss env st
    | o => o
end
end

/-! ### what is left behind a call: new things that nothing holds are let go -/
mutual
def closedD (n : Nat) : D → Bool
  | .tup xs => closedDs n xs
  | .fl xs => closedDs n xs
  | .ref m => decide (m < n)
  | _ => true
def closedDs (n : Nat) : List D → Bool
  | [] => true
  | x :: xs => closedD n x && closedDs n xs
end
def closedMO (n : Nat) : MO → Bool
  | .lst xs => closedDs n xs
  | .dic _ kvs => kvs.all fun p => closedD n p.2
  | .sett xs => closedDs n xs
  | .ins _ fs => fs.all fun p => closedD n p.2
def gcOk (st st' : Store) : Prop := st.length ≤ st'.length ∧ ∀ i, i < st.length → st'[i]? = st[i]? ∨ ∃ mo, st'[i]? = some mo ∧ closedMO st.length mo = true
/-- a new thing that is handed back and holds nothing new -/
def flatO (k : Nat) (st' : Store) : D → Option MO
  | .ref n => match st'[n]? with
    | some mo => if closedMO k mo = true then some mo else none
    | none => none
  | _ => none
noncomputable def gc (st : Store) : Res → Res
  | .ok d st' => if gcOk st st' ∧ closedD st.length d = true then .ok d (st'.take st.length) else (match flatO st.length st' d with
    | some mo => if gcOk st st' then .ok (.ref st.length) (st'.take st.length ++ [mo]) else .ok d st'
    | none => .ok d st')
  | .exc c st' => if gcOk st st' then .exc c (st'.take st.length) else .exc c st'
  | .bad => .bad

def Out.fin : Out → Res
  | .nx _ st => .ok .non st
  | .rt d st => .ok d st
  | .exc c _ st => .exc c st
  | _ => .bad
structure Fd where
  n : Nat      -- parameters
  slots : Nat
  body : Ss
def startE (fd : Fd) (ds : List D) : Env := ds.map some ++ List.replicate (fd.slots - ds.length) none
structure Lang where
  fns : Str → Option Fd
  cs : Str → Option D
  sub : Tab
  wf : Nat
  mth : Str → Str → Option Fd
noncomputable def runF (L : Lang) (C : Oracle) (fd : Fd) (ds : List D) (st : Store) : Res :=
  if ds.length = fd.n then (evSs C L.cs L.sub L.wf fd.body (startE fd ds) st).fin else .bad
/-- a method of a class is asked for by its class and its name -/
def Lang.look (L : Lang) (f : Str) (ds : List D) : Option (Fd × List D) := match L.fns f with
  | some fd => some (fd, ds)
  | none => if f = "." then (match ds with
    | .str c :: .str m :: r => (L.mth c m).map fun fd => (fd, r)
    | _ => none) else none
noncomputable def callK (L : Lang) : Nat → Oracle
  | 0, _, _, _ => .bad
  | k + 1, f, ds, st => match L.look f ds with
    | some (fd, ds) => gc st (runF L (callK L k) fd ds st)
    | none => .bad
end Mi

set_option linter.all false
set_option maxRecDepth 100000
/-! Operators: what the layer's rules say of the small language's values. -/
namespace Mi
open PySem L2 PyProof.Rows

theorem line_eq : LINE = sizeLine := by rw [sizeLine_eq]; rfl

/-- an answer without an exception -/
def PR (G : Glob) (ρ : List Addr) (H : Hp) (Q : VK) (r : Res) : Prop :=
  ∃ d st', r = .ok d st' ∧ ∀ v ρ' H', Nx ρ H ρ' H' → Rel G ρ' H' st' → RV G.K ρ' H' v d → Q v H'
def rD2 (G : Glob) (f : D → D → Store → Res) : R2 := fun x y H Q =>
  ∃ ρ st dx dy, Rel G ρ H st ∧ RV G.K ρ H x dx ∧ RV G.K ρ H y dy ∧ PR G ρ H Q (f dx dy st)
def rD1 (G : Glob) (f : D → Store → Res) : V → Hp → VK → Prop := fun x H Q =>
  ∃ ρ st dx, Rel G ρ H st ∧ RV G.K ρ H x dx ∧ PR G ρ H Q (f dx st)
def rDs (G : Glob) (f : List D → Store → Res) : List V → Hp → VK → Prop := fun xs H Q =>
  ∃ ρ st ds, Rel G ρ H st ∧ RVs G.K ρ H xs ds ∧ PR G ρ H Q (f ds st)
def rDm (G : Glob) (f : D → List D → Store → Res) : V → List V → Hp → VK → Prop := fun x xs H Q =>
  ∃ ρ st dx ds, Rel G ρ H st ∧ RV G.K ρ H x dx ∧ RVs G.K ρ H xs ds ∧ PR G ρ H Q (f dx ds st)

section
variable {G : Glob} {ρ : List Addr} {H : Hp} {st : Store} {Q : VK}
theorem rv_non {v : V} : RV G.K ρ H v .non ↔ v = .non := by unfold RV; exact Iff.rfl
theorem rv_bl {v : V} {b : Bool} : RV G.K ρ H v (.bl b) ↔ v = .bl b := by unfold RV; exact Iff.rfl
theorem rv_int {v : V} {b : Int} : RV G.K ρ H v (.int b) ↔ v = .int b := by unfold RV; exact Iff.rfl
theorem rv_str {v : V} {b : Str} : RV G.K ρ H v (.str b) ↔ v = .str b := by unfold RV; exact Iff.rfl
theorem rv_tup {v : V} {ds : List D} : RV G.K ρ H v (.tup ds) ↔ ∃ a vs, v = .ref a ∧ SqT G.K H a vs ∧ RVs G.K ρ H vs ds := by conv => lhs; unfold RV
theorem rv_fl {v : V} {ds : List D} : RV G.K ρ H v (.fl ds) ↔ ∃ a vs, v = .ref a ∧ FqL G.K H a vs ∧ RVs G.K ρ H vs ds := by conv => lhs; unfold RV
theorem rv_ref {v : V} {n : Nat} : RV G.K ρ H v (.ref n) ↔ ∃ a, v = .ref a ∧ ρ[n]? = some a := by conv => lhs; unfold RV
theorem rvs_nil {vs : List V} : RVs G.K ρ H vs [] ↔ vs = [] := by unfold RVs; exact Iff.rfl
theorem rvs_cons {vs : List V} {d : D} {ds : List D} : RVs G.K ρ H vs (d :: ds) ↔ ∃ v r, vs = v :: r ∧ RV G.K ρ H v d ∧ RVs G.K ρ H r ds := by conv => lhs; unfold RVs
theorem rvs_1 {vs : List V} {d : D} : RVs G.K ρ H vs [d] ↔ ∃ v, vs = [v] ∧ RV G.K ρ H v d := by
  rw [rvs_cons]
  constructor
  · rintro ⟨v, r, rfl, h, t⟩
    rw [rvs_nil] at t; subst t
    exact ⟨v, rfl, h⟩
  · rintro ⟨v, rfl, h⟩
    exact ⟨v, [], rfl, h, rvs_nil.mpr rfl⟩
theorem rvs_2 {vs : List V} {d e : D} : RVs G.K ρ H vs [d, e] ↔ ∃ v w, vs = [v, w] ∧ RV G.K ρ H v d ∧ RV G.K ρ H w e := by
  rw [rvs_cons]
  constructor
  · rintro ⟨v, r, rfl, h, t⟩
    obtain ⟨w, rfl, h2⟩ := rvs_1.mp t
    exact ⟨v, w, rfl, h, h2⟩
  · rintro ⟨v, w, rfl, h, h2⟩
    exact ⟨v, [w], rfl, h, rvs_1.mpr ⟨w, rfl, h2⟩⟩

/-- a plain answer, nothing new -/
theorem PR.plain {d : D} {v : V} (R : Rel G ρ H st) (h : PR G ρ H Q (.ok d st)) (r : RV G.K ρ H v d) : Q v H := by
  obtain ⟨d', st', e, q⟩ := h
  cases e
  exact q v ρ H .refl R r
/-- a new tuple -/
theorem PR.tup {ds : List D} {vs : List V} {p : Addr} (R : Rel G ρ H st) (h : PR G ρ H Q (.ok (.tup ds) st)) (r : RVs G.K ρ H vs ds) (hp : H p = none) : Q (.ref p) (upd H p (.tup vs)) := by
  obtain ⟨d', st', e, q⟩ := h
  cases e
  exact q _ ρ _ (nx_laid hp) (R.laid hp) (rv_tup.mpr ⟨p, vs, rfl, SqT.of upd_same, RVs.mono (nx_laid hp) ds r⟩)
/-- a new list -/
theorem PR.lst {ds : List D} {vs : List V} {p : Addr} (R : Rel G ρ H st) (h : PR G ρ H Q (.ok (.ref st.length) (st ++ [.lst ds]))) (r : RVs G.K ρ H vs ds) (hp : H p = none) : Q (.ref p) (upd H p (.lst vs)) := by
  obtain ⟨d', st', e, q⟩ := h
  cases e
  refine q _ (ρ ++ [p]) _ (nx_new hp) (R.new hp ⟨vs, upd_same, RVs.mono (nx_new hp) ds r⟩) (rv_ref.mpr ⟨p, rfl, ?_⟩)
  rw [← R.len]; simp
/-- a list of the store is changed -/
theorem PR.put {n : Nat} {a : Addr} {ds : List D} {vs : List V} {d : D} {v : V} (R : Rel G ρ H st) (ha : ρ[n]? = some a) (h : PR G ρ H Q (.ok d (st.set n (.lst ds)))) (r : RVs G.K ρ H vs ds) (rv : RV G.K ρ H v d) : Q v (upd H a (.lst vs)) := by
  obtain ⟨d', st', e, q⟩ := h
  cases e
  exact q v ρ _ (nx_put R ha) (R.put ha ⟨vs, upd_same, RVs.mono (nx_put R ha) ds r⟩) (RV.mono (nx_put R ha) d rv)
theorem PR.bad {P : Prop} (h : PR G ρ H Q .bad) : P := by
  obtain ⟨_, _, e, _⟩ := h; cases e
theorem Rel.lst_ {n : Nat} {ds : List D} (R : Rel G ρ H st) (h : st[n]? = some (.lst ds)) : ∃ a vs, ρ[n]? = some a ∧ H a = some (.lst vs) ∧ RVs G.K ρ H vs ds := by
  obtain ⟨a, h1, vs, h2, h3⟩ := R.addr h
  exact ⟨a, vs, h1, h2, h3⟩
theorem Rel.lstAt {n : Nat} {a : Addr} {ds : List D} (R : Rel G ρ H st) (ha : ρ[n]? = some a) (h : st[n]? = some (.lst ds)) : ∃ vs, H a = some (.lst vs) ∧ RVs G.K ρ H vs ds := by
  obtain ⟨b, vs, h1, h2, h3⟩ := R.lst_ h
  rw [ha] at h1; cases h1
  exact ⟨vs, h2, h3⟩

theorem RVs.nil_iff {vs : List V} {ds : List D} (h : RVs G.K ρ H vs ds) : vs = [] ↔ ds = [] := by
  have := h.length
  constructor
  · rintro rfl; cases ds with
    | nil => rfl
    | cons _ _ => simp at this
  · rintro rfl; cases vs with
    | nil => rfl
    | cons _ _ => simp at this
theorem RVs.cut {vs : List V} {ds : List D} (h : RVs G.K ρ H vs ds) (lo hi : Option Int) : RVs G.K ρ H (cutV vs lo hi) (cutG ds lo hi) := by
  unfold cutV cutG
  rw [h.length]
  exact (RVs.drop _ h).take _
theorem RVs.atI {vs : List V} {ds : List D} {i : Int} {d : D} (h : RVs G.K ρ H vs ds) (e : atI ds i = some d) : ∃ v, L2.atI vs i = some v ∧ RV G.K ρ H v d := by
  unfold L2.atI at e ⊢
  rw [h.length]
  cases q : ixN ds.length i with
  | none => rw [q] at e; cases e
  | some j =>
    rw [q] at e
    exact h.get (i := j) e

/-! data -/
mutual
theorem dp_of : ∀ (d : D) {v : V} {p : PyData}, RV G.K ρ H v d → D.data d = some p → Dp G.K H v p
  | .non, _, _, h, e => by rw [rv_non] at h; subst h; cases e; exact .non
  | .bl b, _, _, h, e => by rw [rv_bl] at h; subst h; cases e; exact .bl b
  | .int b, _, _, h, e => by rw [rv_int] at h; subst h; cases e; exact .int b
  | .str b, _, _, h, e => by rw [rv_str] at h; subst h; cases e; exact .str b
  | .tup ds, _, _, h, e => by
    obtain ⟨a, vs, rfl, s, r⟩ := rv_tup.mp h
    unfold D.data at e
    cases q : D.dataL ds with
    | none => rw [q] at e; cases e
    | some ps => rw [q] at e; cases e; exact .tup s (dps_of ds r q)
  | .fl ds, _, _, h, e => by
    obtain ⟨a, vs, rfl, s, r⟩ := rv_fl.mp h
    unfold D.data at e
    cases q : D.dataL ds with
    | none => rw [q] at e; cases e
    | some ps => rw [q] at e; cases e; exact .lst s.sq (dps_of ds r q)
  | .ref n, _, _, h, e => by unfold D.data at e; cases e
theorem dps_of : ∀ (ds : List D) {vs : List V} {ps : List PyData}, RVs G.K ρ H vs ds → D.dataL ds = some ps → DpAll G.K H vs ps
  | [], _, _, h, e => by rw [rvs_nil] at h; subst h; unfold D.dataL at e; cases e; exact .nil
  | d :: ds, _, _, h, e => by
    obtain ⟨v, r, rfl, h1, h2⟩ := rvs_cons.mp h
    unfold D.dataL at e
    cases q : D.data d with
    | none => rw [q] at e; cases e
    | some p =>
      cases q2 : D.dataL ds with
      | none => rw [q, q2] at e; cases e
      | some ps => rw [q, q2] at e; cases e; exact .cons (dp_of d h1 q) (dps_of ds h2 q2)
end
theorem dpS_of {d : D} {v : V} {p : PyData} (R : Rel G ρ H st) (h : RV G.K ρ H v d) (e : dataS st d = some p) : Dp G.K H v p := by
  cases d with
  | ref n =>
    obtain ⟨a, rfl, ha⟩ := rv_ref.mp h
    unfold dataS at e
    simp only at e
    split at e
    · rename_i xs hx
      obtain ⟨vs, h1, h2⟩ := R.lstAt ha hx
      cases q : D.dataL xs with
      | none => rw [q] at e; cases e
      | some ps => rw [q] at e; cases e; exact .lst (SqL.of h1) (dps_of xs h2 q)
    · cases e
  | _ => exact dp_of _ h e
end

section
variable {X : Cx} {G : Glob}

theorem op_addD (hK : X.K = G.K) : OpR X (binaryOp .Add) (rD2 G (binop .add)) := by
  intro pins s σ H x y v u Q I rx ry h
  obtain ⟨ρ, st, dx, dy, R, hx, hy, h⟩ := h
  cases dx <;> cases dy <;> simp only [binop] at h <;> try exact h.bad
  · rw [rv_int] at hx hy; subst hx; subst hy
    exact op_add pins s σ H _ _ v u Q I rx ry ⟨_, _, rfl, rfl, h.plain R (rv_int.mpr rfl)⟩
  · rw [rv_str] at hx hy; subst hx; subst hy
    split at h
    · rename_i hl
      exact op_add_str pins s σ H _ _ v u Q I rx ry ⟨_, _, rfl, rfl, by rw [← line_eq]; exact hl, h.plain R (rv_str.mpr rfl)⟩
    · exact h.bad
  · obtain ⟨a, vs, rfl, t1, r1⟩ := rv_tup.mp hx
    obtain ⟨b, ws, rfl, t2, r2⟩ := rv_tup.mp hy
    split at h
    · rename_i hl
      refine op_catA pins s σ H _ _ v u Q I rx ry ⟨a, b, vs, ws, rfl, rfl, by rw [hK]; exact t1, by rw [hK]; exact t2, by rw [← line_eq, r1.length, r2.length]; exact hl, fun z => ?_, fun z z2 => ?_, fun z z2 p hp => ?_⟩
      · have e := r1.nil_iff.mp z; subst e
        exact h.plain R hy
      · have e := r2.nil_iff.mp z2; subst e
        rw [List.append_nil] at h
        exact h.plain R hx
      · exact h.tup R (r1.append r2) hp
    · exact h.bad
  · obtain ⟨a, rfl, ha⟩ := rv_ref.mp hx
    obtain ⟨b, rfl, hb⟩ := rv_ref.mp hy
    split at h
    · rename_i xs ys e1 e2
      split at h
      · rename_i hl
        obtain ⟨vs, h1, r1⟩ := R.lstAt ha e1
        obtain ⟨ws, h2, r2⟩ := R.lstAt hb e2
        exact op_cat pins s σ H _ _ v u Q I rx ry ⟨a, b, vs, ws, rfl, rfl, h1, h2, by rw [← line_eq, r1.length, r2.length]; exact hl, fun p hp => h.lst R (r1.append r2) hp⟩
      · exact h.bad
    · exact h.bad
theorem op_subD : OpR X (binaryOp .Sub) (rD2 G (binop .sub)) := by
  intro pins s σ H x y v u Q I rx ry h
  obtain ⟨ρ, st, dx, dy, R, hx, hy, h⟩ := h
  cases dx <;> cases dy <;> simp only [binop] at h <;> try exact h.bad
  rw [rv_int] at hx hy; subst hx; subst hy
  exact op_sub pins s σ H _ _ v u Q I rx ry ⟨_, _, rfl, rfl, h.plain R (rv_int.mpr rfl)⟩
theorem op_mulD (hK : X.K = G.K) : OpR X (binaryOp .Mult) (rD2 G (binop .mul)) := by
  intro pins s σ H x y v u Q I rx ry h
  obtain ⟨ρ, st, dx, dy, R, hx, hy, h⟩ := h
  cases dx <;> cases dy <;> simp only [binop] at h <;> try exact h.bad
  · rw [rv_int] at hx hy; subst hx; subst hy
    split at h
    · rename_i hl
      exact op_mul pins s σ H _ _ v u Q I rx ry ⟨_, _, rfl, rfl, hl, h.plain R (rv_int.mpr rfl)⟩
    · exact h.bad
  · obtain ⟨a, vs, rfl, hT, r1⟩ := rv_tup.mp hx
    rw [rv_int] at hy; subst hy
    split at h
    · rename_i hl
      obtain ⟨h1, h2, h3, h4⟩ := hl
      have rl := r1.length
      have hne : vs ≠ [] := fun e => by subst e; simp at rl; omega
      rename_i xs j
      by_cases hk : 2 ≤ j
      · exact op_repT pins s σ H _ _ v u Q I rx ry ⟨a, _, vs, rfl, rfl, by rw [hK]; exact hT, hne, hk, h3, by omega, fun p hp => h.tup R (r1.rep _) hp⟩
      · refine op_repT1 pins s σ H _ _ v u Q I rx ry ⟨a, _, vs, rfl, rfl, by rw [hK]; exact hT, hne, h2, by omega, fun e => ?_, fun e p hp => ?_⟩
        · subst e
          have e1 : (List.replicate (1 : Int).toNat xs).flatten = xs := by simp
          rw [e1] at h
          exact h.plain R (rv_tup.mpr ⟨a, vs, rfl, hT, r1⟩)
        · have e1 : (List.replicate j.toNat xs).flatten = [] := by
            rw [show j.toNat = 0 by omega]
            rfl
          rw [e1] at h
          exact h.tup R RVs.nil_ hp
    · exact h.bad
  · obtain ⟨a, rfl, ha⟩ := rv_ref.mp hx
    rw [rv_int] at hy; subst hy
    split at h
    · rename_i xs e1
      split at h
      · rename_i hl
        obtain ⟨vs, h1, r1⟩ := R.lstAt ha e1
        exact op_rep pins s σ H _ _ v u Q I rx ry ⟨a, _, vs, rfl, rfl, h1, hl.1, hl.2.1, by rw [← line_eq, r1.length]; exact hl.2.2, fun p hp => h.lst R (r1.rep _) hp⟩
      · exact h.bad
    · exact h.bad
theorem op_fdivD : OpR X (binaryOp .FloorDiv) (rD2 G (binop .fdiv)) := by
  intro pins s σ H x y v u Q I rx ry h
  obtain ⟨ρ, st, dx, dy, R, hx, hy, h⟩ := h
  cases dx <;> cases dy <;> simp only [binop] at h <;> try exact h.bad
  rw [rv_int] at hx hy; subst hx; subst hy
  split at h
  · rename_i hl
    exact op_fdivW pins s σ H _ _ v u Q I rx ry ⟨_, _, rfl, rfl, wide_div (b := 60) hl.1 (by have h1 := hl.1; have h2 := hl.2; omega) (by decide) (by decide), h.plain R (rv_int.mpr rfl)⟩
  · exact h.bad
theorem op_modD : OpR X (binaryOp .Mod) (rD2 G (binop .mod)) := by
  intro pins s σ H x y v u Q I rx ry h
  obtain ⟨ρ, st, dx, dy, R, hx, hy, h⟩ := h
  cases dx <;> cases dy <;> simp only [binop] at h <;> try exact h.bad
  rw [rv_int] at hx hy; subst hx; subst hy
  split at h
  · rename_i hl
    exact op_mod pins s σ H _ _ v u Q I rx ry ⟨_, _, rfl, rfl, hl, h.plain R (rv_int.mpr rfl)⟩
  · exact h.bad
theorem op_powD : OpR X (binaryOp .Pow) (rD2 G (binop .pow)) := by
  intro pins s σ H x y v u Q I rx ry h
  obtain ⟨ρ, st, dx, dy, R, hx, hy, h⟩ := h
  cases dx <;> cases dy <;> simp only [binop] at h <;> try exact h.bad
  rw [rv_int] at hx hy; subst hx; subst hy
  split at h
  · rename_i hl
    exact op_pow pins s σ H _ _ v u Q I rx ry ⟨_, _, rfl, rfl, hl, h.plain R (rv_int.mpr rfl)⟩
  · exact h.bad
theorem un_negD : UnR X (unaryOp .USub) (rD1 G (unop .neg)) := by
  intro pins s σ H x v Q I rx h
  obtain ⟨ρ, st, dx, R, hx, h⟩ := h
  cases dx <;> simp only [unop] at h <;> try exact h.bad
  rw [rv_int] at hx; subst hx
  exact un_neg pins s σ H _ v Q I rx ⟨_, rfl, h.plain R (rv_int.mpr rfl)⟩

theorem resB_ok {ρ : List Addr} {H : Hp} {st : Store} {Q : VK} {o : Option Bool} (R : Rel G ρ H st) (h : PR G ρ H Q (resB st o)) : ∃ b, o = some b ∧ Q (.bl b) H := by
  cases o with
  | none => exact h.bad
  | some b => exact ⟨b, rfl, h.plain R (rv_bl.mpr rfl)⟩
theorem op_eqD' (hK : X.K = G.K) (hu : X.A.units + 64 < cLine) : OpR X (compareOp .Eq) (rD2 G (cmpop .eq)) := by
  intro pins s σ H x y v u Q I rx ry h
  obtain ⟨ρ, st, dx, dy, R, hx, hy, h⟩ := h
  simp only [cmpop] at h
  obtain ⟨b, e, q⟩ := resB_ok R h
  unfold eqD at e
  split at e
  · rename_i a c ea ec
    split at e
    · rename_i hs
      cases e
      simp only [Bool.and_eq_true] at hs
      exact op_eqD hu pins s σ H _ _ v u Q I rx ry ⟨a, c, by rw [hK]; exact dpS_of R hx ea, by rw [hK]; exact dpS_of R hy ec, hs.1, hs.2, q⟩
    · cases e
  · cases e
theorem op_neD' (hK : X.K = G.K) (hu : X.A.units + 64 < cLine) : OpR X (compareOp .NotEq) (rD2 G (cmpop .ne)) := by
  intro pins s σ H x y v u Q I rx ry h
  obtain ⟨ρ, st, dx, dy, R, hx, hy, h⟩ := h
  simp only [cmpop] at h
  obtain ⟨b, e, q⟩ := resB_ok R h
  unfold eqD at e
  split at e
  · rename_i a c ea ec
    split at e
    · rename_i hs
      cases e
      simp only [Bool.and_eq_true] at hs
      exact op_neD hu pins s σ H _ _ v u Q I rx ry ⟨a, c, by rw [hK]; exact dpS_of R hx ea, by rw [hK]; exact dpS_of R hy ec, hs.1, hs.2, q⟩
    · cases e
  · cases e
theorem op_ltD : OpR X (compareOp .Lt) (rD2 G (cmpop .lt)) := by
  intro pins s σ H x y v u Q I rx ry h
  obtain ⟨ρ, st, dx, dy, R, hx, hy, h⟩ := h
  cases dx <;> cases dy <;> simp only [cmpop] at h <;> try exact h.bad
  · rw [rv_int] at hx hy; subst hx; subst hy
    exact op_lt pins s σ H _ _ v u Q I rx ry ⟨_, _, rfl, rfl, h.plain R (rv_bl.mpr rfl)⟩
  · rw [rv_str] at hx hy; subst hx; subst hy
    exact op_lt_str pins s σ H _ _ v u Q I rx ry ⟨_, _, rfl, rfl, h.plain R (rv_bl.mpr rfl)⟩
theorem op_leD : OpR X (compareOp .LtE) (rD2 G (cmpop .le)) := by
  intro pins s σ H x y v u Q I rx ry h
  obtain ⟨ρ, st, dx, dy, R, hx, hy, h⟩ := h
  cases dx <;> cases dy <;> simp only [cmpop] at h <;> try exact h.bad
  · rw [rv_int] at hx hy; subst hx; subst hy
    exact op_le pins s σ H _ _ v u Q I rx ry ⟨_, _, rfl, rfl, h.plain R (rv_bl.mpr rfl)⟩
  · rw [rv_str] at hx hy; subst hx; subst hy
    exact op_le_str pins s σ H _ _ v u Q I rx ry ⟨_, _, rfl, rfl, h.plain R (rv_bl.mpr rfl)⟩
theorem op_gtD : OpR X (compareOp .Gt) (rD2 G (cmpop .gt)) := by
  intro pins s σ H x y v u Q I rx ry h
  obtain ⟨ρ, st, dx, dy, R, hx, hy, h⟩ := h
  cases dx <;> cases dy <;> simp only [cmpop] at h <;> try exact h.bad
  rw [rv_int] at hx hy; subst hx; subst hy
  exact op_gt pins s σ H _ _ v u Q I rx ry ⟨_, _, rfl, rfl, h.plain R (rv_bl.mpr rfl)⟩
theorem op_geD : OpR X (compareOp .GtE) (rD2 G (cmpop .ge)) := by
  intro pins s σ H x y v u Q I rx ry h
  obtain ⟨ρ, st, dx, dy, R, hx, hy, h⟩ := h
  cases dx <;> cases dy <;> simp only [cmpop] at h <;> try exact h.bad
  rw [rv_int] at hx hy; subst hx; subst hy
  exact op_ge pins s σ H _ _ v u Q I rx ry ⟨_, _, rfl, rfl, h.plain R (rv_bl.mpr rfl)⟩
theorem isNon_of {ρ : List Addr} {H : Hp} {x : V} {d : D} (h : RV G.K ρ H x d) : decide (x = .non) = isNon d := by
  cases d with
  | non => rw [rv_non] at h; subst h; rfl
  | bl b => rw [rv_bl] at h; subst h; rfl
  | int b => rw [rv_int] at h; subst h; rfl
  | str b => rw [rv_str] at h; subst h; rfl
  | tup ds => obtain ⟨a, vs, rfl, _⟩ := rv_tup.mp h; rfl
  | fl ds => obtain ⟨a, vs, rfl, _⟩ := rv_fl.mp h; rfl
  | ref n => obtain ⟨a, rfl, _⟩ := rv_ref.mp h; rfl
theorem op_isD : OpR X (compareOp .Is) (rD2 G (cmpop .is)) := by
  intro pins s σ H x y v u Q I rx ry h
  obtain ⟨ρ, st, dx, dy, R, hx, hy, h⟩ := h
  cases dy with
  | non =>
    simp only [cmpop] at h
    rw [rv_non] at hy; subst hy
    exact op_isN pins s σ H _ _ v u Q I rx ry ⟨rfl, by rw [isNon_of hx]; exact h.plain R (rv_bl.mpr rfl)⟩
  | bl b =>
    cases dx <;> simp only [cmpop] at h <;> try exact h.bad
    rw [rv_bl] at hx hy; subst hx; subst hy
    exact op_is_bl pins s σ H _ _ v u Q I rx ry ⟨_, _, rfl, rfl, h.plain R (rv_bl.mpr rfl)⟩
  | _ => cases dx <;> simp only [cmpop] at h <;> exact h.bad
theorem op_isnotD : OpR X (compareOp .IsNot) (rD2 G (cmpop .isnot)) := by
  intro pins s σ H x y v u Q I rx ry h
  obtain ⟨ρ, st, dx, dy, R, hx, hy, h⟩ := h
  cases dy with
  | non =>
    simp only [cmpop] at h
    rw [rv_non] at hy; subst hy
    exact op_notN pins s σ H _ _ v u Q I rx ry ⟨rfl, by rw [isNon_of hx]; exact h.plain R (rv_bl.mpr rfl)⟩
  | bl b =>
    cases dx <;> simp only [cmpop] at h <;> try exact h.bad
    rw [rv_bl] at hx hy; subst hx; subst hy
    exact op_isnot_bl pins s σ H _ _ v u Q I rx ry ⟨_, _, rfl, rfl, h.plain R (rv_bl.mpr rfl)⟩
  | _ => cases dx <;> simp only [cmpop] at h <;> exact h.bad
end
end Mi

set_option linter.all false
set_option maxRecDepth 100000
/-! More operators: in, items, slices, built-in calls. -/
namespace Mi
open PySem L2 PyProof.Rows
section
variable {G : Glob} {ρ : List Addr} {H : Hp} {st : Store} {Q : VK}
theorem flat_of {d : D} {v : V} (h : RV G.K ρ H v d) (f : flatD d = true) : flatV v = true := by
  cases d with
  | non => rw [rv_non] at h; subst h; rfl
  | bl b => rw [rv_bl] at h; subst h; rfl
  | int b => rw [rv_int] at h; subst h; rfl
  | str b => rw [rv_str] at h; subst h; rfl
  | _ => cases f
theorem flats_of : ∀ {ds : List D} {vs : List V}, RVs G.K ρ H vs ds → ds.all flatD = true → vs.all flatV = true
  | [], _, h, _ => by rw [rvs_nil] at h; subst h; rfl
  | d :: ds, _, h, f => by
    obtain ⟨v, r, rfl, h1, h2⟩ := rvs_cons.mp h
    rw [List.all_cons, Bool.and_eq_true] at f
    rw [List.all_cons, flat_of h1 f.1, flats_of h2 f.2]; rfl
theorem eqV_eqv {d e : D} {v w : V} {p q : PyData} (h : RV G.K ρ H v d) (h' : RV G.K ρ H w e) (f : flatD d = true) (f' : flatD e = true) (ed : D.data d = some p) (ee : D.data e = some q) : eqV v w = PyData.eqv p q := by
  cases d <;> try (cases f)
  all_goals (cases e <;> try (cases f'))
  all_goals (simp only [rv_non, rv_bl, rv_int, rv_str] at h h'; subst h; subst h'; cases ed; cases ee; simp [eqV, PyData.eqv])
theorem any_eqv {d : D} {v : V} {p : PyData} (h : RV G.K ρ H v d) (f : flatD d = true) (ed : D.data d = some p) : ∀ {ds : List D} {vs : List V} {ps : List PyData}, RVs G.K ρ H vs ds → ds.all flatD = true → D.dataL ds = some ps →
    inV v vs = ps.any fun z => PyData.eqv z p
  | [], _, _, h, _, e => by rw [rvs_nil] at h; subst h; unfold D.dataL at e; cases e; rfl
  | c :: ds, _, _, hs, fs, e => by
    obtain ⟨w, r, rfl, h1, h2⟩ := rvs_cons.mp hs
    rw [List.all_cons, Bool.and_eq_true] at fs
    unfold D.dataL at e
    cases q : D.data c with
    | none => rw [q] at e; cases e
    | some a =>
      cases q2 : D.dataL ds with
      | none => rw [q, q2] at e; cases e
      | some as =>
        rw [q, q2] at e; cases e
        have ih := any_eqv h f ed h2 fs.2 q2
        unfold inV at ih ⊢
        rw [List.any_cons, List.any_cons, ih, eqV_eqv h1 h fs.1 f q ed]
end
section
variable {X : Cx} {G : Glob}
theorem inD_run {neg : Bool} (hK : X.K = G.K) (hu : X.A.units + 65 < cLine) {pins : List (Addr × Obj)} {s : Shared} {σ : L2.St} {H : Hp} {x y : V} {v u : Value} {Q : VK} {ρ : List Addr} {st : Store} {dx dy : D} {b : Bool}
    (I : Inv X pins σ H s) (rx : RelV x v) (ry : RelV y u) (R : Rel G ρ H st) (hx : RV G.K ρ H x dx) (hy : RV G.K ρ H y dy) (e : inD st dx dy = some b) (q : Q (.bl (if neg then !b else b)) H) :
    wpAny (model X.prog X.w) X.A (compareOp (if neg then .NotIn else .In) v u) (EP X pins σ Q) X.xe s := by
  unfold inD at e
  split at e
  · rename_i t
    split at e
    · rename_i z
      rw [rv_str] at hx hy; subst hx; subst hy
      cases e
      cases neg
      · exact op_in_str pins s σ H _ _ v u Q I rx ry ⟨_, _, rfl, rfl, q⟩
      · exact op_notin_str pins s σ H _ _ v u Q I rx ry ⟨_, _, rfl, rfl, q⟩
    · cases e
  · rename_i ys
    split at e
    · rename_i f
      rw [Bool.and_eq_true] at f
      split at e
      · rename_i p ps e1 e2
        cases e
        obtain ⟨a, vs, rfl, t, r⟩ := rv_tup.mp hy
        rw [← any_eqv hx f.1 e1 r f.2 e2] at q
        cases neg
        · exact op_in_seq pins s σ H _ _ v u Q I rx ry ⟨a, vs, rfl, .inr (by rw [hK]; exact t), flat_of hx f.1, flats_of r f.2, q⟩
        · exact op_notIn_seq pins s σ H _ _ v u Q I rx ry ⟨a, vs, rfl, .inr (by rw [hK]; exact t), flat_of hx f.1, flats_of r f.2, q⟩
      · cases e
    · cases e
  · rename_i n
    split at e
    · rename_i ys hys
      split at e
      · rename_i p ps e1 e2
        split at e
        · rename_i hs
          rw [Bool.and_eq_true] at hs
          cases e
          obtain ⟨a, rfl, ha⟩ := rv_ref.mp hy
          obtain ⟨vs, h1, r⟩ := R.lstAt ha hys
          have dl : Dp X.K H (.ref a) (.list ps) := by rw [hK]; exact .lst (SqL.of h1) (dps_of ys r e2)
          have dd : Dp X.K H x p := by rw [hK]; exact dpS_of R hx e1
          cases neg
          · exact op_inD hu pins s σ H _ _ v u Q I rx ry ⟨p, ps, dd, dl, hs.1, hs.2, q⟩
          · exact op_notInD hu pins s σ H _ _ v u Q I rx ry ⟨p, ps, dd, dl, hs.1, hs.2, q⟩
        · cases e
      · cases e
    · cases e
  · cases e
theorem op_inD' (hK : X.K = G.K) (hu : X.A.units + 65 < cLine) : OpR X (compareOp .In) (rD2 G (cmpop .isin)) := by
  intro pins s σ H x y v u Q I rx ry h
  obtain ⟨ρ, st, dx, dy, R, hx, hy, h⟩ := h
  simp only [cmpop] at h
  obtain ⟨b, e, q⟩ := resB_ok R h
  exact inD_run (neg := false) hK hu I rx ry R hx hy e q
theorem op_notinD' (hK : X.K = G.K) (hu : X.A.units + 65 < cLine) : OpR X (compareOp .NotIn) (rD2 G (cmpop .notin)) := by
  intro pins s σ H x y v u Q I rx ry h
  obtain ⟨ρ, st, dx, dy, R, hx, hy, h⟩ := h
  simp only [cmpop] at h
  obtain ⟨b, e, q⟩ := resB_ok R h
  cases e2 : inD st dx dy with
  | none => rw [e2] at e; cases e
  | some c =>
    rw [e2] at e; cases e
    exact inD_run (neg := true) hK hu I rx ry R hx hy e2 q

theorem ix_D (hK : X.K = G.K) : IxR X (rD2 G idxop) := by
  intro value slice pins s σ H x y v u Q I rx ry h hs
  obtain ⟨ρ, st, dx, dy, R, hx, hy, h⟩ := h
  cases dx <;> cases dy <;> simp only [idxop] at h <;> try exact h.bad
  · rw [rv_str, rv_int] at *; subst hx; subst hy
    split at h
    · rename_i c e
      split at h
      · rename_i hl
        exact ix_str value slice pins s σ H _ _ v u Q I rx ry ⟨_, _, c, rfl, rfl, by rw [← line_eq]; exact hl, e, h.plain R (rv_str.mpr rfl)⟩ hs
      · exact h.bad
    · exact h.bad
  · rw [rv_int] at hy; subst hy
    obtain ⟨a, vs, rfl, t, r⟩ := rv_tup.mp hx
    split at h
    · rename_i d e
      obtain ⟨w, e2, rw_⟩ := r.atI e
      exact ix_tup value slice pins s σ H _ _ v u Q I rx ry ⟨a, vs, _, w, rfl, rfl, by rw [hK]; exact t, e2, h.plain R rw_⟩ hs
    · exact h.bad
  · rw [rv_int] at hy; subst hy
    obtain ⟨a, vs, rfl, t, r⟩ := rv_fl.mp hx
    split at h
    · rename_i d e
      obtain ⟨w, e2, rw_⟩ := r.atI e
      exact ix_list value slice pins s σ H _ _ v u Q I rx ry ⟨a, vs, _, w, rfl, rfl, by rw [hK]; exact t.sq, e2, h.plain R rw_⟩ hs
    · exact h.bad
  · rw [rv_int] at hy; subst hy
    obtain ⟨a, rfl, ha⟩ := rv_ref.mp hx
    split at h
    · rename_i xs hxs
      split at h
      · rename_i d e
        obtain ⟨vs, h1, r⟩ := R.lstAt ha hxs
        obtain ⟨w, e2, rw_⟩ := r.atI e
        exact ix_list value slice pins s σ H _ _ v u Q I rx ry ⟨a, vs, _, w, rfl, rfl, SqL.of h1, e2, h.plain R rw_⟩ hs
      · exact h.bad
    · exact h.bad

def rSlD (G : Glob) : V → Option Int → Option Int → Hp → VK → Prop := fun x lo hi H Q =>
  ∃ ρ st dx, Rel G ρ H st ∧ RV G.K ρ H x dx ∧ PR G ρ H Q (slcop dx lo hi st)
theorem cut_whole {α : Type} {xs : List α} {lo hi : Option Int} (h : HT.sIx xs.length 0 lo = 0 ∧ HT.sIx xs.length xs.length hi = xs.length) : cutG xs lo hi = xs := by
  unfold cutG
  rw [h.1, h.2]
  simp
theorem sl_D (hK : X.K = G.K) : SlR X (rSlD G) := by
  intro pins s σ H x v vl vu lo hi sl Q I rx hs pl pu h
  obtain ⟨ρ, st, dx, R, hx, h⟩ := h
  cases dx <;> simp only [slcop] at h <;> try exact h.bad
  · rw [rv_str] at hx; subst hx
    split at h
    · rename_i hl
      exact sl_str pins s σ H _ v vl vu lo hi sl Q I rx hs pl pu ⟨_, rfl, by rw [← line_eq]; exact hl, h.plain R (rv_str.mpr rfl)⟩
    · exact h.bad
  · obtain ⟨a, vs, rfl, t, r⟩ := rv_tup.mp hx
    refine sl_tupA pins s σ H _ v vl vu lo hi sl Q I rx hs pl pu ⟨a, vs, rfl, by rw [hK]; exact t, fun w => ?_, fun w p hp => ?_⟩
    · rw [r.length] at w
      rw [cut_whole w] at h
      exact h.plain R hx
    · exact h.tup R (r.cut lo hi) hp
  · obtain ⟨a, vs, rfl, t, r⟩ := rv_fl.mp hx
    exact sl_list pins s σ H _ v vl vu lo hi sl Q I rx hs pl pu ⟨a, vs, rfl, by rw [hK]; exact t.sq, fun p hp => h.lst R (r.cut lo hi) hp⟩
  · obtain ⟨a, rfl, ha⟩ := rv_ref.mp hx
    split at h
    · rename_i xs hxs
      obtain ⟨vs, h1, r⟩ := R.lstAt ha hxs
      exact sl_list pins s σ H _ v vl vu lo hi sl Q I rx hs pl pu ⟨a, vs, rfl, SqL.of h1, fun p hp => h.lst R (r.cut lo hi) hp⟩
    · exact h.bad

/-! ### built-in calls -/
theorem lstOf_sq {ρ : List Addr} {H : Hp} {st : Store} {x : V} {d : D} {xs : List D} (R : Rel G ρ H st) (h : RV G.K ρ H x d) (e : lstOf st d = some xs) : ∃ a vs, x = .ref a ∧ SqL G.K H a vs ∧ RVs G.K ρ H vs xs := by
  cases d <;> simp only [lstOf] at e <;> try (cases e)
  · obtain ⟨a, vs, rfl, t, r⟩ := rv_fl.mp h
    exact ⟨a, vs, rfl, t.sq, r⟩
  · obtain ⟨a, rfl, ha⟩ := rv_ref.mp h
    split at e
    · rename_i ys hys
      cases e
      obtain ⟨vs, h1, r⟩ := R.lstAt ha hys
      exact ⟨a, vs, rfl, SqL.of h1, r⟩
    · cases e
theorem ints_of {K : PySem.W.Frag} {ρ : List Addr} {H : Hp} : ∀ {ds : List D} {vs : List V} {ns : List Int}, RVs K ρ H vs ds → intsD ds = some ns → vs = ns.map V.int
  | [], _, _, h, e => by unfold RVs at h; subst h; cases e; rfl
  | .int i :: ds, _, _, h, e => by
    unfold RVs at h
    obtain ⟨v, r, rfl, h1, h2⟩ := h
    unfold RV at h1; subst h1
    simp only [intsD] at e
    cases q : intsD ds with
    | none => rw [q] at e; cases e
    | some ms => rw [q] at e; cases e; rw [ints_of h2 q]; rfl
  | .non :: _, _, _, _, e => by cases e
  | .bl _ :: _, _, _, _, e => by cases e
  | .str _ :: _, _, _, _, e => by cases e
  | .tup _ :: _, _, _, _, e => by cases e
  | .fl _ :: _, _, _, _, e => by cases e
  | .ref _ :: _, _, _, _, e => by cases e
theorem bls_of {K : PySem.W.Frag} {ρ : List Addr} {H : Hp} : ∀ {ds : List D} {vs : List V} {ns : List Bool}, RVs K ρ H vs ds → blsD ds = some ns → vs = ns.map V.bl
  | [], _, _, h, e => by unfold RVs at h; subst h; cases e; rfl
  | .bl i :: ds, _, _, h, e => by
    unfold RVs at h
    obtain ⟨v, r, rfl, h1, h2⟩ := h
    unfold RV at h1; subst h1
    simp only [blsD] at e
    cases q : blsD ds with
    | none => rw [q] at e; cases e
    | some ms => rw [q] at e; cases e; rw [bls_of h2 q]; rfl
  | .non :: _, _, _, _, e => by cases e
  | .int _ :: _, _, _, _, e => by cases e
  | .str _ :: _, _, _, _, e => by cases e
  | .tup _ :: _, _, _, _, e => by cases e
  | .fl _ :: _, _, _, _, e => by cases e
  | .ref _ :: _, _, _, _, e => by cases e
theorem strs_of {K : PySem.W.Frag} {ρ : List Addr} {H : Hp} : ∀ {ds : List D} {vs : List V} {ns : List Str}, RVs K ρ H vs ds → strsD ds = some ns → vs = ns.map V.str
  | [], _, _, h, e => by unfold RVs at h; subst h; cases e; rfl
  | .str i :: ds, _, _, h, e => by
    unfold RVs at h
    obtain ⟨v, r, rfl, h1, h2⟩ := h
    unfold RV at h1; subst h1
    simp only [strsD] at e
    cases q : strsD ds with
    | none => rw [q] at e; cases e
    | some ms => rw [q] at e; cases e; rw [strs_of h2 q]; rfl
  | .non :: _, _, _, _, e => by cases e
  | .int _ :: _, _, _, _, e => by cases e
  | .bl _ :: _, _, _, _, e => by cases e
  | .tup _ :: _, _, _, _, e => by cases e
  | .fl _ :: _, _, _, _, e => by cases e
  | .ref _ :: _, _, _, _, e => by cases e

theorem call_lenD (hK : X.K = G.K) : CallR X (.builtin "len") (rDs G (biop .len)) := by
  intro pins s σ H xs us Q I r h
  obtain ⟨ρ, st, ds, R, hs, h⟩ := h
  unfold biop at h
  split at h <;> try exact h.bad
  all_goals (rename_i heq; try (cases heq))
  · obtain ⟨v, rfl, hv⟩ := rvs_1.mp hs
    obtain ⟨a, vs, rfl, t, r1⟩ := rv_tup.mp hv
    exact call_len_seq pins s σ H _ us Q I r ⟨a, vs, rfl, .inr (by rw [hK]; exact t), by rw [r1.length]; exact h.plain R (rv_int.mpr rfl)⟩
  · obtain ⟨v, rfl, hv⟩ := rvs_1.mp hs
    rw [rv_str] at hv; subst hv
    split at h
    · rename_i hl
      exact call_len_str pins s σ H _ us Q I r ⟨_, rfl, by rw [← line_eq]; exact hl, h.plain R (rv_int.mpr rfl)⟩
    · exact h.bad
  · obtain ⟨v, rfl, hv⟩ := rvs_1.mp hs
    split at h
    · rename_i xs e
      obtain ⟨a, vs, rfl, t, r1⟩ := lstOf_sq R hv e
      exact call_len_seq pins s σ H _ us Q I r ⟨a, vs, rfl, .inl (by rw [hK]; exact t), by rw [r1.length]; exact h.plain R (rv_int.mpr rfl)⟩
    · exact h.bad

theorem call_intD : CallR X (.type "int") (rDs G (biop .int)) := by
  intro pins s σ H xs us Q I r h
  obtain ⟨ρ, st, ds, R, hs, h⟩ := h
  unfold biop at h
  split at h <;> try exact h.bad
  all_goals (rename_i heq; try (cases heq))
  · obtain ⟨v, rfl, hv⟩ := rvs_1.mp hs
    rw [rv_int] at hv; subst hv
    exact call_int1 pins s σ H _ us Q I r (.inl ⟨_, rfl, h.plain R (rv_int.mpr rfl)⟩)
  · obtain ⟨v, rfl, hv⟩ := rvs_1.mp hs
    rw [rv_bl] at hv; subst hv
    exact call_int1 pins s σ H _ us Q I r (.inr ⟨_, rfl, h.plain R (rv_int.mpr rfl)⟩)
  · obtain ⟨v, rfl, hv⟩ := rvs_1.mp hs
    rw [rv_str] at hv; subst hv
    split at h
    · rename_i n e
      split at h
      · rename_i hl
        exact call_int_str pins s σ H _ us Q I r ⟨_, n, rfl, e, hl, h.plain R (rv_int.mpr rfl)⟩
      · exact h.bad
    · exact h.bad
theorem call_strD : CallR X (.type "str") (rDs G (biop .str)) := by
  intro pins s σ H xs us Q I r h
  obtain ⟨ρ, st, ds, R, hs, h⟩ := h
  unfold biop at h
  split at h <;> try exact h.bad
  all_goals (rename_i heq; try (cases heq))
  obtain ⟨v, rfl, hv⟩ := rvs_1.mp hs
  rw [rv_int] at hv; subst hv
  split at h
  · rename_i hl
    exact call_str_int pins s σ H _ us Q I r ⟨_, rfl, hl, h.plain R (rv_str.mpr rfl)⟩
  · exact h.bad
theorem call_tupleD (hK : X.K = G.K) : CallR X (.type "tuple") (rDs G (biop .tuple)) := by
  intro pins s σ H xs us Q I r h
  obtain ⟨ρ, st, ds, R, hs, h⟩ := h
  unfold biop at h
  split at h <;> try exact h.bad
  all_goals (rename_i heq; try (cases heq))
  · obtain ⟨v, rfl, hv⟩ := rvs_1.mp hs
    obtain ⟨a, vs, rfl, t, r1⟩ := rv_tup.mp hv
    exact call_tuple_of pins s σ H _ us Q I r ⟨a, vs, rfl, .inr ⟨by rw [hK]; exact t, h.plain R hv⟩⟩
  · obtain ⟨v, rfl, hv⟩ := rvs_1.mp hs
    split at h
    · rename_i xs e
      obtain ⟨a, vs, rfl, t, r1⟩ := lstOf_sq R hv e
      exact call_tuple_of pins s σ H _ us Q I r ⟨a, vs, rfl, .inl ⟨by rw [hK]; exact t, fun p hp => h.tup R r1 hp⟩⟩
    · exact h.bad
theorem call_listD (hK : X.K = G.K) : CallR X (.type "list") (rDs G (biop .list)) := by
  intro pins s σ H xs us Q I r h
  obtain ⟨ρ, st, ds, R, hs, h⟩ := h
  unfold biop at h
  split at h <;> try exact h.bad
  all_goals (rename_i heq; try (cases heq))
  · obtain ⟨v, rfl, hv⟩ := rvs_1.mp hs
    obtain ⟨a, vs, rfl, t, r1⟩ := rv_tup.mp hv
    exact call_list_of pins s σ H _ us Q I r ⟨a, vs, rfl, .inr (by rw [hK]; exact t), fun p hp => h.lst R r1 hp⟩
  · obtain ⟨v, rfl, hv⟩ := rvs_1.mp hs
    split at h
    · rename_i xs e
      obtain ⟨a, vs, rfl, t, r1⟩ := lstOf_sq R hv e
      exact call_list_of pins s σ H _ us Q I r ⟨a, vs, rfl, .inl (by rw [hK]; exact t), fun p hp => h.lst R r1 hp⟩
    · exact h.bad
theorem call_sumD (hK : X.K = G.K) (hc : X.calm = true) : CallR X (.builtin "sum") (rDs G (biop .sum)) := by
  intro pins s σ H xs us Q I r h
  obtain ⟨ρ, st, ds, R, hs, h⟩ := h
  unfold biop at h
  split at h <;> try exact h.bad
  all_goals (rename_i heq; try (cases heq))
  · obtain ⟨v, rfl, hv⟩ := rvs_1.mp hs
    obtain ⟨a, vs, rfl, t, r1⟩ := rv_tup.mp hv
    split at h
    · rename_i ns e
      rw [ints_of r1 e] at t
      obtain ⟨its, rv, ⟨o, e3, c, n, dd⟩, _⟩ := I.tuple (by rw [hK]; exact t)
      rw [Vals.ref1 r]
      have hi := rv.ints
      obtain ⟨ys, hx⟩ := hi.allInts.items
      have hn : numsOf (intItems ys).toList = ns := by rw [← hx]; exact hi.numsOf
      rw [nums_intItems] at hn
      have ht : s.heap.IsTuple a its.toArray := ⟨o, e3, c, n, dd⟩
      rw [hx] at ht
      refine PySem.W.ktm_sumG (I.ok.hd hc) ht fun h' tk t' hk => ?_
      rw [preSum_eq, List.take_of_length_le (by simp), hn]
      exact ⟨.int _, H, I.kept hk, ⟨_, rfl⟩, h.plain R (rv_int.mpr rfl)⟩
    · exact h.bad
  · obtain ⟨v, rfl, hv⟩ := rvs_1.mp hs
    split at h
    · rename_i ns e
      obtain ⟨xs, e1, e2⟩ := Option.bind_eq_some_iff.mp e
      obtain ⟨a, vs, rfl, t, r1⟩ := lstOf_sq R hv e1
      rw [ints_of r1 e2] at t
      exact cr_sum hc pins s σ H _ us Q I r ⟨a, ns, rfl, by rw [hK]; exact t, h.plain R (rv_int.mpr rfl)⟩
    · exact h.bad
theorem call_allD (hK : X.K = G.K) (hc : X.calm = true) : CallR X (.builtin "all") (rDs G (biop .all)) := by
  intro pins s σ H xs us Q I r h
  obtain ⟨ρ, st, ds, R, hs, h⟩ := h
  unfold biop at h
  split at h <;> try exact h.bad
  all_goals (rename_i heq; try (cases heq))
  obtain ⟨v, rfl, hv⟩ := rvs_1.mp hs
  split at h
  · rename_i ns e
    obtain ⟨xs, e1, e2⟩ := Option.bind_eq_some_iff.mp e
    obtain ⟨a, vs, rfl, t, r1⟩ := lstOf_sq R hv e1
    rw [bls_of r1 e2] at t
    exact cr_all hc pins s σ H _ us Q I r ⟨a, ns, rfl, by rw [hK]; exact t, h.plain R (rv_bl.mpr rfl)⟩
  · exact h.bad
theorem call_maxD (hc : X.calm = true) : CallR X (.builtin "max") (rDs G (biop .max)) := by
  intro pins s σ H xs us Q I r h
  obtain ⟨ρ, st, ds, R, hs, h⟩ := h
  unfold biop at h
  split at h <;> try exact h.bad
  all_goals (rename_i heq; try (cases heq))
  obtain ⟨v, w, rfl, hv, hw⟩ := rvs_2.mp hs
  rw [rv_int] at hv hw; subst hv; subst hw
  exact call_max2 hc pins s σ H _ us Q I r ⟨_, _, rfl, h.plain R (rv_int.mpr rfl)⟩
theorem call_minD (hc : X.calm = true) : CallR X (.builtin "min") (rDs G (biop .min)) := by
  intro pins s σ H xs us Q I r h
  obtain ⟨ρ, st, ds, R, hs, h⟩ := h
  unfold biop at h
  split at h <;> try exact h.bad
  all_goals (rename_i heq; try (cases heq))
  obtain ⟨v, w, rfl, hv, hw⟩ := rvs_2.mp hs
  rw [rv_int] at hv hw; subst hv; subst hw
  exact call_min2 hc pins s σ H _ us Q I r ⟨_, _, rfl, h.plain R (rv_int.mpr rfl)⟩
theorem call_absD : CallR X (.builtin "abs") (rDs G (biop .abs)) := by
  intro pins s σ H xs us Q I r h
  obtain ⟨ρ, st, ds, R, hs, h⟩ := h
  unfold biop at h
  split at h <;> try exact h.bad
  all_goals (rename_i heq; try (cases heq))
  obtain ⟨v, rfl, hv⟩ := rvs_1.mp hs
  rw [rv_int] at hv; subst hv
  exact call_abs pins s σ H _ us Q I r ⟨_, rfl, h.plain R (rv_int.mpr rfl)⟩

/-! ### methods of lists and texts -/
theorem mt_appendD : MtM X "list.append" (rDm G (mthop .append)) := by
  intro pins s σ H x xs v us Q I rx rs h
  obtain ⟨ρ, st, dx, ds, R, hx, hs, h⟩ := h
  unfold mthop at h
  split at h <;> try exact h.bad
  all_goals (rename_i heq; try (cases heq))
  obtain ⟨y, rfl, hy⟩ := rvs_1.mp hs
  obtain ⟨a, rfl, ha⟩ := rv_ref.mp hx
  split at h
  · rename_i zs e
    split at h
    · rename_i hl
      obtain ⟨vs, h1, r1⟩ := R.lstAt ha e
      exact mt_append pins s σ H _ _ v us Q I rx rs ⟨a, vs, y, rfl, rfl, h1, by rw [← line_eq, r1.length]; exact hl, h.put R ha (r1.append (rvs_1.mpr ⟨y, rfl, hy⟩)) (rv_non.mpr rfl)⟩
    · exact h.bad
  · exact h.bad
theorem mt_popD : MtM X "list.pop" (rDm G (mthop .pop)) := by
  intro pins s σ H x xs v us Q I rx rs h
  obtain ⟨ρ, st, dx, ds, R, hx, hs, h⟩ := h
  unfold mthop at h
  split at h <;> try exact h.bad
  all_goals (rename_i heq; try (cases heq))
  obtain ⟨y, rfl, hy⟩ := rvs_1.mp hs
  rw [rv_int] at hy; subst hy
  obtain ⟨a, rfl, ha⟩ := rv_ref.mp hx
  split at h
  · rename_i zs e
    split at h
    · rename_i k ek
      split at h
      · rename_i d ed
        split at h
        · rename_i hl
          obtain ⟨vs, h1, r1⟩ := R.lstAt ha e
          obtain ⟨w, hw, rw_⟩ := r1.get ed
          exact mt_popAt pins s σ H _ _ v us Q I rx rs ⟨a, vs, _, k, w, rfl, rfl, h1, hl.1, hl.2, by rw [r1.length]; exact ek, hw, h.put R ha (r1.erase k) rw_⟩
        · exact h.bad
      · exact h.bad
    · exact h.bad
  · exact h.bad
theorem mt_extendD : MtM X "list.extend" (rDm G (mthop .extend)) := by
  intro pins s σ H x xs v us Q I rx rs h
  obtain ⟨ρ, st, dx, ds, R, hx, hs, h⟩ := h
  unfold mthop at h
  split at h <;> try exact h.bad
  all_goals (rename_i heq; try (cases heq))
  obtain ⟨y, rfl, hy⟩ := rvs_1.mp hs
  obtain ⟨a, rfl, ha⟩ := rv_ref.mp hx
  obtain ⟨b, rfl, hb⟩ := rv_ref.mp hy
  split at h
  · rename_i zs ys e e'
    split at h
    · rename_i hl
      obtain ⟨vs, h1, r1⟩ := R.lstAt ha e
      obtain ⟨ws, h2, r2⟩ := R.lstAt hb e'
      exact mt_extend pins s σ H _ _ v us Q I rx rs ⟨a, b, vs, ws, rfl, rfl, h1, h2, by rw [← line_eq, r1.length, r2.length]; exact hl, h.put R ha (r1.append r2) (rv_non.mpr rfl)⟩
    · exact h.bad
  · exact h.bad
theorem mt_countD (hK : X.K = G.K) (hu : X.A.units + 65 < cLine) : MtR X "list.count" (rDm G (mthop .count)) := by
  intro pins s σ H x xs v us Q I rx rs h
  obtain ⟨ρ, st, dx, ds, R, hx, hs, h⟩ := h
  unfold mthop at h
  split at h <;> try exact h.bad
  all_goals (rename_i heq; try (cases heq))
  obtain ⟨y, rfl, hy⟩ := rvs_1.mp hs
  obtain ⟨a, rfl, ha⟩ := rv_ref.mp hx
  split at h
  · rename_i zs e
    split at h
    · rename_i p ps e1 e2
      split at h
      · rename_i hsh
        rw [Bool.and_eq_true] at hsh
        obtain ⟨vs, h1, r⟩ := R.lstAt ha e
        have dl : Dp X.K H (.ref a) (.list ps) := by rw [hK]; exact .lst (SqL.of h1) (dps_of zs r e2)
        have dd : Dp X.K H y p := by rw [hK]; exact dpS_of R hy e1
        have hq := h.plain R (rv_int.mpr rfl)
        cases rx
        cases rs with
        | cons ry rt =>
          rename_i uy ut
          cases rt
          obtain ⟨bs, r1⟩ := Dp.reads I p y uy dd ry
          have hxs := SeqAt.canLay_of_shaped hsh.2
          have hroom := room_in_shaped (xs := ps) hsh.1 hu
          cases dl with
          | lst hs' ha' =>
            obtain ⟨its, rv, ⟨⟨cls, dd', data, sls⟩, n, ho, hc, hdn, hdt⟩, hlen⟩ := I.list hs'
            simp only at hc hdt
            subst hc hdt
            obtain ⟨as, h4⟩ := Dp.readsAll I ps _ its ha' rv
            have hmap : its.map (SeqAt.readOf s.heap) = ps := SeqAt.readsAll_map ps its as hxs h4
            have hcount : its.toArray.toList.countP (fun u => PyData.eqv (SeqAt.readOf s.heap u) p) = ps.countP fun z => PyData.eqv z p := by
              rw [← hmap, List.countP_map]
              rfl
            refine call_meets PySem.F.slot_list_count ⟨_, ho, rfl⟩ PySem.F.entry_list_count (PySem.F.args_list_count_2 _ _) (SeqAt.list_countAt a its.toArray n dd' sls uy (fun u => PyData.eqv (SeqAt.readOf s.heap u) p)) ⟨ho, SeqAt.items_eqAt (vs := its.toArray) (show ReadsAll s.heap its.toArray.toList ps as from h4) r1 hxs (SeqAt.canLay_of_shaped hsh.1) hroom, ?_⟩
            rw [hcount]
            exact ⟨.int _, H, I.tok _, ⟨_, rfl⟩, hq⟩
      · exact h.bad
    · exact h.bad
  · exact h.bad
theorem mt_indexTD (hK : X.K = G.K) : MtR X "tuple.index" (rDm G (mthop .index)) := by
  intro pins s σ H x xs v us Q I rx rs h
  obtain ⟨ρ, st, dx, ds, R, hx, hs, h⟩ := h
  unfold mthop at h
  split at h <;> try exact h.bad
  all_goals (rename_i heq; try (cases heq))
  obtain ⟨y, rfl, hy⟩ := rvs_1.mp hs
  rw [rv_str] at hy
  subst hy
  obtain ⟨a, vs, rfl, t, r⟩ := rv_tup.mp hx
  split at h
  · rename_i ys ey
    split at h
    · rename_i j ej
      rw [strs_of r ey] at t
      obtain ⟨h1, h2, h3⟩ := List.findIdx?_eq_some_iff_getElem.mp ej
      exact mt_tup_index pins s σ H _ _ v us Q I rx rs ⟨a, ys, _, j, rfl, rfl, by rw [hK]; exact t, by rw [List.getElem?_eq_getElem h1]; exact congrArg some (of_decide_eq_true h2), fun m hm e => by
        have hml : m < ys.length := by omega
        have := h3 m hm
        rw [List.getElem?_eq_getElem hml] at e
        exact absurd (Option.some.inj e) (by simpa using this), h.plain R (rv_int.mpr rfl)⟩
    · exact h.bad
  · exact h.bad
theorem mt_startswithD : MtR X "str.startswith" (rDm G (mthop .startswith)) := by
  intro pins s σ H x xs v us Q I rx rs h
  obtain ⟨ρ, st, dx, ds, R, hx, hs, h⟩ := h
  unfold mthop at h
  split at h <;> try exact h.bad
  all_goals (rename_i heq; try (cases heq))
  obtain ⟨y, rfl, hy⟩ := rvs_1.mp hs
  rw [rv_str] at hx hy; subst hx; subst hy
  exact mt_startswith pins s σ H _ _ v us Q I rx rs ⟨_, _, rfl, rfl, h.plain R (rv_bl.mpr rfl)⟩
theorem mt_endswithD : MtR X "str.endswith" (rDm G (mthop .endswith)) := by
  intro pins s σ H x xs v us Q I rx rs h
  obtain ⟨ρ, st, dx, ds, R, hx, hs, h⟩ := h
  unfold mthop at h
  split at h <;> try exact h.bad
  all_goals (rename_i heq; try (cases heq))
  obtain ⟨y, rfl, hy⟩ := rvs_1.mp hs
  rw [rv_str] at hx hy; subst hx; subst hy
  exact mt_endswith pins s σ H _ _ v us Q I rx rs ⟨_, _, rfl, rfl, h.plain R (rv_bl.mpr rfl)⟩
theorem mt_removeprefixD : MtR X "str.removeprefix" (rDm G (mthop .removeprefix)) := by
  intro pins s σ H x xs v us Q I rx rs h
  obtain ⟨ρ, st, dx, ds, R, hx, hs, h⟩ := h
  unfold mthop at h
  split at h <;> try exact h.bad
  all_goals (rename_i heq; try (cases heq))
  obtain ⟨y, rfl, hy⟩ := rvs_1.mp hs
  rw [rv_str] at hx hy; subst hx; subst hy
  split at h
  · rename_i hl
    exact mt_removeprefix pins s σ H _ _ v us Q I rx rs ⟨_, _, rfl, rfl, by rw [← line_eq]; exact hl, h.plain R (rv_str.mpr rfl)⟩
  · exact h.bad
theorem mt_isasciiD : MtR X "str.isascii" (rDm G (mthop .isascii)) := by
  intro pins s σ H x xs v us Q I rx rs h
  obtain ⟨ρ, st, dx, ds, R, hx, hs, h⟩ := h
  unfold mthop at h
  split at h <;> try exact h.bad
  all_goals (rename_i heq; try (cases heq))
  rw [rvs_nil] at hs; subst hs
  rw [rv_str] at hx; subst hx
  exact mt_isascii pins s σ H _ _ v us Q I rx rs ⟨_, rfl, rfl, trivial, h.plain R (rv_bl.mpr rfl)⟩
theorem mt_isdigitD : MtR X "str.isdigit" (rDm G (mthop .isdigit)) := by
  intro pins s σ H x xs v us Q I rx rs h
  obtain ⟨ρ, st, dx, ds, R, hx, hs, h⟩ := h
  unfold mthop at h
  split at h <;> try exact h.bad
  all_goals (rename_i heq; try (cases heq))
  rw [rvs_nil] at hs; subst hs
  rw [rv_str] at hx; subst hx
  exact mt_isdigit pins s σ H _ _ v us Q I rx rs ⟨_, rfl, rfl, trivial, h.plain R (rv_bl.mpr rfl)⟩
theorem rvs_strs {K : PySem.W.Frag} {ρ : List Addr} {H : Hp} : ∀ (xs : List Str), RVs K ρ H (xs.map V.str) (xs.map D.str)
  | [] => RVs.nil_
  | x :: xs => RVs.cons_ (by unfold RV; rfl) (rvs_strs xs)
theorem mt_splitD : MtR X "str.split" (rDm G (mthop .split)) := by
  intro pins s σ H x xs v us Q I rx rs h
  obtain ⟨ρ, st, dx, ds, R, hx, hs, h⟩ := h
  unfold mthop at h
  split at h <;> try exact h.bad
  all_goals (rename_i heq; try (cases heq))
  obtain ⟨y, rfl, hy⟩ := rvs_1.mp hs
  rw [rv_str] at hx hy; subst hx; subst hy
  split at h
  · rename_i hl
    exact mt_split pins s σ H _ _ v us Q I rx rs ⟨_, _, rfl, rfl, hl.1, by rw [← line_eq]; exact hl.2, fun p hp => h.lst R (rvs_strs _) hp⟩
  · exact h.bad
theorem mt_partitionD : MtR X "str.partition" (rDm G (mthop .partition)) := by
  intro pins s σ H x xs v us Q I rx rs h
  obtain ⟨ρ, st, dx, ds, R, hx, hs, h⟩ := h
  unfold mthop at h
  split at h <;> try exact h.bad
  all_goals (rename_i heq; try (cases heq))
  obtain ⟨y, rfl, hy⟩ := rvs_1.mp hs
  rw [rv_str] at hx hy; subst hx; subst hy
  split at h
  · rename_i hl
    exact mt_partition pins s σ H _ _ v us Q I rx rs ⟨_, _, rfl, rfl, hl.1, by rw [← line_eq]; exact hl.2, fun p hp => h.tup R (rvs_strs [_, _, _]) hp⟩
  · exact h.bad
theorem mt_joinD (hK : X.K = G.K) : MtR X "str.join" (rDm G (mthop .join)) := by
  intro pins s σ H x xs v us Q I rx rs h
  obtain ⟨ρ, st, dx, ds, R, hx, hs, h⟩ := h
  unfold mthop at h
  split at h <;> try exact h.bad
  all_goals (rename_i heq; try (cases heq))
  obtain ⟨y, rfl, hy⟩ := rvs_1.mp hs
  rw [rv_str] at hx; subst hx
  split at h
  · rename_i zs e
    split at h
    · rename_i ys ey
      split at h
      · rename_i hl
        have fin : ∃ a vs, y = .ref a ∧ (SqL G.K H a vs ∨ SqT G.K H a vs) ∧ RVs G.K ρ H vs zs := by
          split at e
          · cases e
            obtain ⟨a, vs, rfl, t, r1⟩ := rv_tup.mp hy
            exact ⟨a, vs, rfl, .inr t, r1⟩
          · obtain ⟨a, vs, rfl, t, r1⟩ := lstOf_sq R hy e
            exact ⟨a, vs, rfl, .inl t, r1⟩
        obtain ⟨a, vs, rfl, t, r1⟩ := fin
        rw [strs_of r1 ey] at t
        exact mt_join pins s σ H _ _ v us Q I rx rs ⟨_, a, ys, rfl, rfl, by rw [hK]; exact t, hl, h.plain R (rv_str.mpr rfl)⟩
      · exact h.bad
    · exact h.bad
  · exact h.bad
end
end Mi

set_option linter.all false
set_option maxRecDepth 100000
/-! A text is the small language's: how it is looked at. -/
namespace Mi
open PySem L2

def asConst : Expr → Option Const
  | .Constant c _ _ => some c
  | _ => none
def asName : Expr → Option Str
  | .Name x _ => some x
  | _ => none
def asUn : Expr → Option (UnaryOp × Expr)
  | .UnaryOp o a _ => some (o, a)
  | _ => none
def asBin : Expr → Option (Expr × Operator × Expr)
  | .BinOp a o b _ => some (a, o, b)
  | _ => none
def asCmp : Expr → Option (Expr × CmpOp × Expr)
  | .Compare a [o] [b] _ => some (a, o, b)
  | _ => none
def asChain : Expr → Option (Expr × CmpOp × Expr × CmpOp × Expr)
  | .Compare a [o, o'] [b, c] _ => some (a, o, b, o', c)
  | _ => none
def asBool : Expr → Option (BoolOp × List Expr)
  | .BoolOp o es _ => some (o, es)
  | _ => none
def asIf : Expr → Option (Expr × Expr × Expr)
  | .IfExp c a b _ => some (c, a, b)
  | _ => none
def asTup : Expr → Option (List Expr)
  | .Tuple es _ _ => some es
  | _ => none
def asLst : Expr → Option (List Expr)
  | .List es _ => some es
  | _ => none
def asSub : Expr → Option (Expr × Expr)
  | .Subscript a b _ => some (a, b)
  | _ => none
def asSlc : Expr → Option (Expr × Option Expr × Option Expr)
  | .Subscript a (.Slice lo hi none _) _ => some (a, lo, hi)
  | _ => none
def asCall : Expr → Option (Str × List Expr)
  | .Call (.Name f _) es [] _ => some (f, es)
  | _ => none
def asMth : Expr → Option (Expr × Str × List Expr)
  | .Call (.Attribute o m ap) es [] p => if ap.endLine == p.line then some (o, m, es) else none
  | _ => none
def asLC : Expr → Option (Expr × Expr × Expr × List Expr × Scope)
  | .ListComp el [⟨tg, it, ifs, 0⟩] sc _ => some (el, tg, it, ifs, sc)
  | _ => none
def asAttr : Expr → Option (Expr × Str)
  | .Attribute a f _ => some (a, f)
  | _ => none
/-- enumerate with a start -/
def asEnmK : Expr → Option (Expr × Int)
  | .Call (.Name f _) [e] [⟨some k, .Constant (.int i) _ _, _⟩] _ => if decide (f = ("enumerate" : Str)) && decide (k = ("start" : Str)) then some (e, i) else none
  | _ => none
/-- its items are pairs that the target must take apart at once -/
def ieTup : Ie → Bool
  | .enm _ _ => true
  | .zip _ _ => true
  | _ => false
def asDict0 : Expr → Bool
  | .Dict [] [] _ => true
  | _ => false

theorem asConst_eq {e : Expr} {c : Const} (h : asConst e = some c) : ∃ k p, e = .Constant c k p := by
  cases e <;> simp [asConst] at h; subst h; exact ⟨_, _, rfl⟩
theorem asName_eq {e : Expr} {c : Str} (h : asName e = some c) : ∃ p, e = .Name c p := by
  cases e <;> simp [asName] at h; subst h; exact ⟨_, rfl⟩
theorem asUn_eq {e a : Expr} {o : UnaryOp} (h : asUn e = some (o, a)) : ∃ p, e = .UnaryOp o a p := by
  cases e <;> simp [asUn] at h; obtain ⟨rfl, rfl⟩ := h; exact ⟨_, rfl⟩
theorem asBin_eq {e a b : Expr} {o : Operator} (h : asBin e = some (a, o, b)) : ∃ p, e = .BinOp a o b p := by
  cases e <;> simp [asBin] at h; obtain ⟨rfl, rfl, rfl⟩ := h; exact ⟨_, rfl⟩
theorem asCmp_eq {e a b : Expr} {o : CmpOp} (h : asCmp e = some (a, o, b)) : ∃ p, e = .Compare a [o] [b] p := by
  unfold asCmp at h
  split at h
  · cases h; exact ⟨_, rfl⟩
  · cases h
theorem asChain_eq {e a b c : Expr} {o o' : CmpOp} (h : asChain e = some (a, o, b, o', c)) : ∃ p, e = .Compare a [o, o'] [b, c] p := by
  unfold asChain at h
  split at h
  · cases h; exact ⟨_, rfl⟩
  · cases h
theorem asBool_eq {e : Expr} {o : BoolOp} {es : List Expr} (h : asBool e = some (o, es)) : ∃ p, e = .BoolOp o es p := by
  cases e <;> simp [asBool] at h; obtain ⟨rfl, rfl⟩ := h; exact ⟨_, rfl⟩
theorem asIf_eq {e a b c : Expr} (h : asIf e = some (c, a, b)) : ∃ p, e = .IfExp c a b p := by
  cases e <;> simp [asIf] at h; obtain ⟨rfl, rfl, rfl⟩ := h; exact ⟨_, rfl⟩
theorem asTup_eq {e : Expr} {es : List Expr} (h : asTup e = some es) : ∃ k p, e = .Tuple es k p := by
  cases e <;> simp [asTup] at h; subst h; exact ⟨_, _, rfl⟩
theorem asLst_eq {e : Expr} {es : List Expr} (h : asLst e = some es) : ∃ p, e = .List es p := by
  cases e <;> simp [asLst] at h; subst h; exact ⟨_, rfl⟩
theorem asSub_eq {e a b : Expr} (h : asSub e = some (a, b)) : ∃ p, e = .Subscript a b p := by
  cases e <;> simp [asSub] at h; obtain ⟨rfl, rfl⟩ := h; exact ⟨_, rfl⟩
theorem asSlc_eq {e a : Expr} {lo hi : Option Expr} (h : asSlc e = some (a, lo, hi)) : ∃ p q, e = .Subscript a (.Slice lo hi none p) q := by
  unfold asSlc at h
  split at h
  · cases h; exact ⟨_, _, rfl⟩
  · cases h
theorem asCall_eq {e : Expr} {f : Str} {es : List Expr} (h : asCall e = some (f, es)) : ∃ p q, e = .Call (.Name f p) es [] q := by
  unfold asCall at h
  split at h
  · cases h; exact ⟨_, _, rfl⟩
  · cases h
theorem asMth_eq {e o : Expr} {m : Str} {es : List Expr} (h : asMth e = some (o, m, es)) : ∃ ap p, e = .Call (.Attribute o m ap) es [] p ∧ (ap.endLine == p.line) = true := by
  unfold asMth at h
  split at h
  · split at h
    · cases h; exact ⟨_, _, rfl, by assumption⟩
    · cases h
  · cases h
theorem asLC_eq {e el tg it : Expr} {ifs : List Expr} {sc : Scope} (h : asLC e = some (el, tg, it, ifs, sc)) : ∃ p, e = .ListComp el [⟨tg, it, ifs, 0⟩] sc p := by
  unfold asLC at h
  split at h
  · cases h; exact ⟨_, rfl⟩
  · cases h
theorem asAttr_eq {e a : Expr} {f : Str} (h : asAttr e = some (a, f)) : ∃ p, e = .Attribute a f p := by
  cases e <;> simp [asAttr] at h; obtain ⟨rfl, rfl⟩ := h; exact ⟨_, rfl⟩
theorem asEnmK_eq {e e' : Expr} {i : Int} (h : asEnmK e = some (e', i)) : ∃ p j cp kp q, e = .Call (.Name "enumerate" p) [e'] [⟨some "start", .Constant (.int i) j cp, kp⟩] q := by
  unfold asEnmK at h
  split at h
  · split at h
    · rename_i hc
      simp only [Bool.and_eq_true, decide_eq_true_eq] at hc
      obtain ⟨rfl, rfl⟩ := hc
      cases h
      exact ⟨_, _, _, _, _, rfl⟩
    · cases h
  · cases h
theorem asDict0_eq {e : Expr} (h : asDict0 e = true) : ∃ p, e = .Dict [] [] p := by
  unfold asDict0 at h
  split at h
  · exact ⟨_, rfl⟩
  · cases h

def asDict : Expr → Option (List (Option Expr) × List Expr)
  | .Dict ks vs _ => some (ks, vs)
  | _ => none
theorem asDict_eq {e : Expr} {ks : List (Option Expr)} {vs : List Expr} (h : asDict e = some (ks, vs)) : ∃ p, e = .Dict ks vs p := by
  cases e <;> simp [asDict] at h; obtain ⟨rfl, rfl⟩ := h; exact ⟨_, rfl⟩
def isStrC (x : Str) (e : Expr) : Bool := match asConst e with | some (.str y) => decide (x = y) | _ => false
def isIntC (i : Int) (e : Expr) : Bool := match asConst e with | some (.int j) => decide (i = j) | _ => false
def matchD : List (Str × Int) → List (Option Expr) → List Expr → Bool
  | [], [], [] => true
  | p :: r, some k :: ks, v :: vs => isStrC p.1 k && isIntC p.2 v && matchD r ks vs
  | _, _, _ => false
/-- a part that may stand as an index, an argument, behind in -/
def okE : Expr → Bool
  | .Slice .. => false
  | .Starred .. => false
  | .Set .. => false
  | _ => true
theorem okE_ix {b : Expr} (h : okE b = true) : PlainIx b := by
  intro o i
  cases b <;> first | rfl | cases h
theorem okE_star {e : Expr} {es : List Expr} {env : PySem.Env} (h : okE e = true) : starEach (e :: es) env = (false, eval e env) :: starEach es env := by
  cases e <;> first | rfl | cases h
theorem okE_mark {op : CmpOp} {e : Expr} (h : okE e = true) : behindInMarks op e = false := by
  cases e <;> first | rfl | cases h
theorem okE_fold {e : Expr} {env : PySem.Env} {x : Value} (h : okE e = true) : foldedSetIterable e env x = pure x := by
  cases e <;> first | rfl | cases h
/-- not a call without arguments: no super() -/
def baseE : Expr → Bool
  | .Call _ [] [] _ => false
  | _ => true
theorem baseE_eq {e : Expr} {f : Str} {env : PySem.Env} {t : Sem Value} (h : baseE e = true) : attributeBase e f env t = t := by
  unfold attributeBase
  split
  · cases h
  · rfl
/-- its truth is its value's -/
def plainT : Expr → Bool
  | .UnaryOp .Not _ _ => false
  | .BoolOp .. => false
  | .IfExp .. => false
  | .Compare .. => false
  | _ => true
theorem plainT_eq {e : Expr} {env : PySem.Env} (h : plainT e = true) : ∀ whole, isTrue e env whole = (do let v ← whole; standAt e.pos; holding [v] (truthy v)) := by
  intro whole
  cases e with
  | UnaryOp o a p => cases o <;> first | rfl | cases h
  | BoolOp => cases h
  | IfExp => cases h
  | Compare => cases h
  | _ => rfl
def notComp : Expr → Bool
  | .ListComp .. => false
  | .SetComp .. => false
  | .DictComp .. => false
  | _ => true
theorem notComp_eq {e : Expr} {t : Option Expr} {l : Nat} {env : PySem.Env} (h : notComp e = true) : swapsWith e t l env = pure false := by
  cases e <;> first | rfl | cases h

def visS (sc : Scope) (x : Str) : Bool := match sc.names.lookup x with
  | some .local => true
  | some .cell => true
  | some .free => true
  | _ => false
def locS (sc : Scope) (x : Str) : Bool := match sc.names.lookup x with
  | some .local => true
  | some .cell => true
  | _ => false
def gloS (sc : Scope) (x : Str) : Bool := match sc.names.lookup x with
  | some .globalImplicit => true
  | _ => false
def noDbg (x : Str) : Bool := !(x == ("__debug__" : Str)) && !(x == ("__classdict__" : Str)) && !(x == ("__name__" : Str))

def opIs : BOp → Operator → Bool
  | .add, .Add => true | .sub, .Sub => true | .mul, .Mult => true | .fdiv, .FloorDiv => true | .mod, .Mod => true | .pow, .Pow => true
  | _, _ => false
def cmpIs : COp → CmpOp → Bool
  | .eq, .Eq => true | .ne, .NotEq => true | .lt, .Lt => true | .le, .LtE => true | .gt, .Gt => true | .ge, .GtE => true
  | .isin, .In => true | .notin, .NotIn => true | .is, .Is => true | .isnot, .IsNot => true
  | _, _ => false
def biName : BI → Str
  | .len => "len" | .int => "int" | .str => "str" | .tuple => "tuple" | .list => "list" | .sum => "sum" | .all => "all" | .max => "max" | .min => "min"
  | .abs => "abs" | .sorted => "sorted" | .set0 => "set"
def miName : MI → Str
  | .append => "append" | .pop => "pop" | .extend => "extend" | .add => "add" | .get => "get" | .join => "join" | .split => "split" | .partition => "partition"
  | .startswith => "startswith" | .endswith => "endswith" | .removeprefix => "removeprefix" | .isascii => "isascii" | .isdigit => "isdigit" | .index => "index" | .count => "count"
def shapeOk : MI → Nat → Bool
  | .append, 1 | .pop, 1 | .extend, 1 | .count, 1 | .index, 1 => true
  | .join, 1 | .split, 1 | .partition, 1 | .startswith, 1 | .endswith, 1 | .removeprefix, 1 => true
  | .isascii, 0 | .isdigit, 0 => true
  | _, _ => false
/-- a tuple's index is asked of the text's own tuples only -/
def idxOk : MI → E → Bool
  | .index, .glb _ => true
  | .index, _ => false
  | _, _ => true
def tyOk (t : Str) : Bool := decide (t = ("int" : Str)) || decide (t = ("bool" : Str)) || decide (t = ("str" : Str)) || decide (t = ("tuple" : Str)) || decide (t = ("list" : Str))

/-- what a comprehension's target, a loop's target looks like -/
def nameAt (N : List Str) (sc : Scope) (i : Nat) (e : Expr) : Bool := match asName e with
  | some x => decide (N[i]? = some x) && locS sc x
  | none => false
def namesAt (N : List Str) (sc : Scope) : List Nat → List Expr → Bool
  | [], [] => true
  | i :: is, e :: es => nameAt N sc i e && namesAt N sc is es
  | _, _ => false
def mtT (N : List Str) (sc : Scope) : Tg → Expr → Bool
  | .name i, e => nameAt N sc i e
  | .tup is, e => match asTup e with
    | some es => namesAt N sc is es && decide (2 ≤ es.length)
    | none => false

section
variable (fs : List Str) (N : List Str)
mutual
def mtE : Scope → E → Expr → Bool
  | _, .non, e => match asConst e with | some .none => true | _ => false
  | _, .bl b, e => match asConst e with | some (.bool c) => decide (b = c) | _ => false
  | _, .int i, e => match asConst e with | some (.int j) => decide (i = j) | _ => false
  | _, .str x, e => match asConst e with | some (.str y) => decide (x = y) | _ => false
  | sc, .var i, e => match asName e with | some x => decide (N[i]? = some x) && visS sc x && noDbg x | none => false
  | sc, .glb y, e => match asName e with | some x => decide (x = y) && gloS sc x && noDbg x | none => false
  | sc, .un .neg a, e => match asUn e with | some (.USub, a') => mtE sc a a' | _ => false
  | sc, .bin op a b, e => match asBin e with | some (a', o, b') => opIs op o && (mtE sc a a' && mtE sc b b') | none => false
  | sc, .cmp op a b, e => match asCmp e with | some (a', o, b') => cmpIs op o && okE b' && (mtE sc a a' && mtE sc b b') | none => false
  | sc, .chain op op' a b c, e => match asChain e with | some (a', o, b', o', c') => cmpIs op o && cmpIs op' o' && okE b' && okE c' && (mtE sc a a' && (mtE sc b b' && mtE sc c c')) | none => false
  | sc, .and es, e => match asBool e with | some (.And, es') => mtEs sc es es' | _ => false
  | sc, .or es, e => match asBool e with | some (.Or, es') => mtEs sc es es' | _ => false
  | sc, .not a, e => match asUn e with | some (.Not, a') => mtE sc a a' | _ => false
  | sc, .ite c a b, e => match asIf e with | some (c', a', b') => mtE sc c c' && (mtE sc a a' && mtE sc b b') | none => false
  | sc, .tup es, e => match asTup e with | some es' => mtEs sc es es' | none => false
  | sc, .lst es, e => match asLst e with | some es' => mtEs sc es es' | none => false
  | _, .dic _ .nil .nil, e => asDict0 e
  | _, .dic _ (.cons k ks) vs, e => match litP (.cons k ks) vs, asDict e with
    | some kvs, some (ks', vs') => matchD kvs ks' vs'
    | _, _ => false
  | _, .dic _ .nil (.cons _ _), _ => false
  | sc, .attr a f, e => match asAttr e with | some (a', g) => decide (f = g) && baseE a' && mtE sc a a' | none => false
  | sc, .new c es, e => match asCall e with | some (g, es') => decide (c = g) && gloS sc g && noDbg g && !es'.isEmpty && mtEs sc es es' | none => false
  | sc, .omth m a es, e => match asMth e with | some (a', g, es') => decide (m = g) && baseE a' && decide (es'.length < 5) && (mtE sc a a' && mtEs sc es es') | none => false
  | sc, .set0, e => match asCall e with | some (g, []) => decide (g = ("set" : Str)) && gloS sc g | _ => false
  | sc, .sadd a m, e => match asMth e with | some (a', g, [e']) => decide (g = ("add" : Str)) && baseE a' && okE e' && (mtE sc a a' && mtE sc m e') | _ => false
  | sc, .slen a, e => match asCall e with | some (g, [a']) => decide (g = ("len" : Str)) && gloS sc g && okE a' && mtE sc a a' | _ => false
  | sc, .dget a b, e => match asSub e with | some (a', b') => okE b' && (mtE sc a a' && mtE sc b b') | none => false
  | sc, .din n b a, e => match asCmp e with | some (b', o, a') => decide (o = if n then .NotIn else .In) && okE a' && (mtE sc b b' && mtE sc a a') | none => false
  | sc, .dgetm a b c, e => match asMth e with | some (a', g, [b', c']) => decide (g = ("get" : Str)) && baseE a' && okE b' && okE c' && (mtE sc a a' && (mtE sc b b' && mtE sc c c')) | _ => false
  | sc, .idx a b, e => match asSub e with | some (a', b') => okE b' && (mtE sc a a' && mtE sc b b') | none => false
  | sc, .slc a lo hi, e => match asSlc e with | some (a', lo', hi') => mtE sc a a' && (mtO sc lo lo' && mtO sc hi hi') | none => false
  | sc, .call f es, e => match asCall e with | some (g, es') => decide (f = g) && decide (f ∈ fs) && gloS sc g && noDbg g && !es'.isEmpty && mtEs sc es es' | none => false
  | sc, .bi f es, e => match asCall e with | some (g, es') => decide (biName f = g) && gloS sc g && noDbg g && !es'.isEmpty && mtEs sc es es' | none => false
  | sc, .mth m a es, e => match asMth e with | some (a', g, es') => decide (miName m = g) && baseE a' && shapeOk m es'.length && idxOk m a && (mtE sc a a' && mtEs sc es es') | none => false
  | sc, .typeIs n a t, e => match asCmp e with
    | some (l, o, r) => (match asCall l, asName r with
      | some (g, [a']), some t' => decide (g = ("type" : Str)) && decide (t = t') && gloS sc g && gloS sc t' && noDbg t' && tyOk t' && okE a' && decide (o = if n then .IsNot else .Is) && mtE sc a a'
      | _, _ => false)
    | none => false
  | sc, .isin a t, e => match asCall e with
    | some (g, [a', r]) => (match asName r with
      | some t' => decide (g = ("isinstance" : Str)) && decide (t = t') && gloS sc g && gloS sc t' && noDbg t' && tyOk t' && okE a' && mtE sc a a'
      | none => false)
    | _ => false
  | sc, .lc own tg it cs elt, e => match asLC e with
    | some (el, tg', it', ifs, sc') => blkC N sc sc' own && mtT N sc' tg tg' && decide (ifs.length ≤ 1) && (okE it' && (!ieTup it || (asTup tg').isSome)) && (mtI sc it it' && (mtEs sc' cs ifs && mtE sc' elt el))
    | none => false
  | _, _, _ => false
def mtEs : Scope → Es → List Expr → Bool
  | _, .nil, [] => true
  | sc, .cons m ms, e :: es => okE e && (mtE sc m e && mtEs sc ms es)
  | _, _, _ => false
def mtI : Scope → Ie → Expr → Bool
  | sc, .exp m, e => mtE sc m e
  | sc, .rng1 a, e => match asCall e with
    | some (g, [a']) => decide (g = ("range" : Str)) && gloS sc g && okE a' && mtE sc a a'
    | _ => false
  | sc, .rng2 a b, e => match asCall e with
    | some (g, [a', b']) => decide (g = ("range" : Str)) && gloS sc g && okE a' && okE b' && (mtE sc a a' && mtE sc b b')
    | _ => false
  | sc, .enm a lo, e => match asCall e with
    | some (g, [a']) => decide (g = ("enumerate" : Str)) && decide (lo = 0) && gloS sc g && okE a' && mtE sc a a'
    | _ => (match asEnmK e with
      | some (a', i) => decide (i = lo) && decide (0 ≤ lo) && decide (lo < 1000) && gloS sc "enumerate" && okE a' && mtE sc a a'
      | none => false)
  | sc, .zip a b, e => match asCall e with
    | some (g, [a', b']) => decide (g = ("zip" : Str)) && gloS sc g && okE a' && okE b' && (mtE sc a a' && mtE sc b b')
    | _ => false
def mtO : Scope → Oe → Option Expr → Bool
  | _, .none, none => true
  | sc, .some m, some e => mtE sc m e
  | _, _, _ => false
end
end
end Mi

set_option linter.all false
set_option maxRecDepth 100000
/-! What an expression of the text means: the small language's answer. -/
namespace Mi
open PySem L2 PyProof.Rows

structure GoodX (G : Glob) (X : Cx) (N : List Str) (sc : Scope) (W : WX) (k : Nat) : Prop where
  prog : X.prog = G.P
  w : X.w = G.w
  K : X.K = G.K
  mg : X.mg = G.mg
  base : X.base = G.base
  ns : X.N = N
  nd : N.Nodup
  vis : ∀ x, visS sc x = true → Vis X.env.scope x
  loc : ∀ x, locS sc x = true → Loc X.env.scope x ∧ (X.fn x = true ∨ X.env.scope.names.lookup x = some .local)
  glo : ∀ x, gloS sc x = true → Gl X x
  fr : ∀ x, (sc.names.lookup x = some .cell ∨ sc.names.lookup x = some .free) → (X.env.scope.names.lookup x = some .cell ∨ X.env.scope.names.lookup x = some .free)
  calm : X.calm = true
  room1 : Room (k + 1) X.A
  tk : Takes X W

theorem GoodX.room {G : Glob} {X : Cx} {N : List Str} {sc : Scope} {W : WX} {k : Nat} (g : GoodX G X N sc W k) : Room k X.A := g.room1.mono (Nat.le_succ k)

def REnv (K : PySem.W.Frag) (ρ : List Addr) (H : Hp) (σ : L2.St) (env : Env) : Prop := σ.length = env.length ∧ ∀ (i : Nat) (d : D), env[i]? = some (some d) → ∃ v, σ[i]? = some (some v) ∧ RV K ρ H v d
theorem REnv.mono {K : PySem.W.Frag} {ρ ρ' : List Addr} {H H' : Hp} {σ : L2.St} {env : Env} (E : REnv K ρ H σ env) (n : Nx ρ H ρ' H') : REnv K ρ' H' σ env :=
  ⟨E.1, fun i d e => let ⟨v, h1, h2⟩ := E.2 i d e; ⟨v, h1, RV.mono n d h2⟩⟩
theorem REnv.set {K : PySem.W.Frag} {ρ : List Addr} {H : Hp} {σ : L2.St} {env : Env} {v : V} {d : D} (E : REnv K ρ H σ env) (i : Nat) (h : RV K ρ H v d) : REnv K ρ H (σ.set i (some v)) (env.set i (some d)) := by
  refine ⟨by simp [E.1], fun j c e => ?_⟩
  by_cases hj : j = i
  · subst hj
    by_cases hl : j < env.length
    · rw [List.getElem?_set_self hl] at e; cases e
      rw [List.getElem?_set_self (by rw [E.1]; exact hl)]
      exact ⟨v, rfl, h⟩
    · rw [List.getElem?_eq_none (by simp; omega)] at e; cases e
  · rw [List.getElem?_set_ne (Ne.symm hj)] at e
    rw [List.getElem?_set_ne (Ne.symm hj)]
    exact E.2 j c e
theorem REnv.unset {K : PySem.W.Frag} {ρ : List Addr} {H : Hp} {σ : L2.St} {env : Env} (E : REnv K ρ H σ env) (i : Nat) : REnv K ρ H (σ.set i none) (env.set i none) := by
  refine ⟨by simp [E.1], fun j c e => ?_⟩
  by_cases hj : j = i
  · subst hj
    by_cases hl : j < env.length
    · rw [List.getElem?_set_self hl] at e; cases e
    · rw [List.getElem?_eq_none (by simp; omega)] at e; cases e
  · rw [List.getElem?_set_ne (Ne.symm hj)] at e
    rw [List.getElem?_set_ne (Ne.symm hj)]
    exact E.2 j c e
theorem REnv.wipe {K : PySem.W.Frag} {ρ : List Addr} {H : Hp} {σ : L2.St} {env : Env} (E : REnv K ρ H σ env) : ∀ is : List Nat, REnv K ρ H (L2.wipe σ is) (wipeE env is)
  | [] => E
  | i :: is => by
    unfold L2.wipe wipeE
    exact (REnv.wipe E is).unset i

section
variable (G : Glob) (W : WX) (σ : L2.St)
def PQ (ρ : List Addr) (H : Hp) (Q : VK) : Res → Prop
  | .ok d st => ∀ v ρ' H', Nx ρ H ρ' H' → Rel G ρ' H' st → RV G.K ρ' H' v d → Q v H'
  | .exc c st => ∀ ρ' H', Nx ρ H ρ' H' → Rel G ρ' H' st → W (.ref (G.cls c)) none σ H'
  | .bad => False
def PTQ (ρ : List Addr) (H : Hp) (Q : Bool → Hp → Prop) : Res → Prop
  | .ok d st => ∃ b, truth st d = some b ∧ ∀ ρ' H', Nx ρ H ρ' H' → Rel G ρ' H' st → Q b H'
  | .exc c st => ∀ ρ' H', Nx ρ H ρ' H' → Rel G ρ' H' st → W (.ref (G.cls c)) none σ H'
  | .bad => False
def PLQ (ρ : List Addr) (H : Hp) (Q : List V → Hp → Prop) : ResL → Prop
  | .ok ds st => ∀ vs ρ' H', Nx ρ H ρ' H' → Rel G ρ' H' st → RVs G.K ρ' H' vs ds → Q vs H'
  | .exc c st => ∀ ρ' H', Nx ρ H ρ' H' → Rel G ρ' H' st → W (.ref (G.cls c)) none σ H'
  | .bad => False
end
def tE (G : Glob) (W : WX) (f : Env → Store → Res) : TE := fun σ H Q => ∃ ρ env st, Rel G ρ H st ∧ REnv G.K ρ H σ env ∧ PQ G W σ ρ H Q (f env st)
def tT (G : Glob) (W : WX) (f : Env → Store → Res) : TT := fun σ H Q => ∃ ρ env st, Rel G ρ H st ∧ REnv G.K ρ H σ env ∧ PTQ G W σ ρ H Q (f env st)
def tA (G : Glob) (W : WX) (f : Env → Store → ResL) : TA := fun σ H Q => ∃ ρ env st, Rel G ρ H st ∧ REnv G.K ρ H σ env ∧ PLQ G W σ ρ H Q (f env st)

section
variable {G : Glob} {W : WX} {σ : L2.St} {ρ : List Addr} {H : Hp} {Q : VK}
theorem PQ.imp {Q' : VK} : ∀ {r : Res}, PQ G W σ ρ H Q r → (∀ v H', Q v H' → Q' v H') → PQ G W σ ρ H Q' r
  | .ok d st, h, f => fun v ρ' H' n R r => f _ _ (h v ρ' H' n R r)
  | .exc c st, h, f => h
  | .bad, h, f => h
theorem PLQ.imp {Q Q' : List V → Hp → Prop} : ∀ {r : ResL}, PLQ G W σ ρ H Q r → (∀ v H', Q v H' → Q' v H') → PLQ G W σ ρ H Q' r
  | .ok d st, h, f => fun v ρ' H' n R r => f _ _ (h v ρ' H' n R r)
  | .exc c st, h, f => h
  | .bad, h, f => h
theorem PTQ.imp {Q Q' : Bool → Hp → Prop} : ∀ {r : Res}, PTQ G W σ ρ H Q r → (∀ v H', Q v H' → Q' v H') → PTQ G W σ ρ H Q' r
  | .ok d st, ⟨b, e, h⟩, f => ⟨b, e, fun ρ' H' n R => f _ _ (h ρ' H' n R)⟩
  | .exc c st, h, f => h
  | .bad, h, f => h
theorem PQ.at_ {ρ1 : List Addr} {H1 : Hp} (n : Nx ρ H ρ1 H1) : ∀ {r : Res}, PQ G W σ ρ H Q r → PQ G W σ ρ1 H1 Q r
  | .ok d st, h => fun v ρ' H' n' R r => h v ρ' H' (n.trans n') R r
  | .exc c st, h => fun ρ' H' n' R => h ρ' H' (n.trans n') R
  | .bad, h => h
theorem PLQ.at_ {Q : List V → Hp → Prop} {ρ1 : List Addr} {H1 : Hp} (n : Nx ρ H ρ1 H1) : ∀ {r : ResL}, PLQ G W σ ρ H Q r → PLQ G W σ ρ1 H1 Q r
  | .ok d st, h => fun v ρ' H' n' R r => h v ρ' H' (n.trans n') R r
  | .exc c st, h => fun ρ' H' n' R => h ρ' H' (n.trans n') R
  | .bad, h => h
theorem PTQ.at_ {Q : Bool → Hp → Prop} {ρ1 : List Addr} {H1 : Hp} (n : Nx ρ H ρ1 H1) : ∀ {r : Res}, PTQ G W σ ρ H Q r → PTQ G W σ ρ1 H1 Q r
  | .ok d st, ⟨b, e, h⟩ => ⟨b, e, fun ρ' H' n' R => h ρ' H' (n.trans n') R⟩
  | .exc c st, h => fun ρ' H' n' R => h ρ' H' (n.trans n') R
  | .bad, h => h
/-- one after the other: what stands between -/
structure Mid (G : Glob) (ρ : List Addr) (H : Hp) (v : V) (H1 : Hp) (d : D) (st1 : Store) (ρ1 : List Addr) : Prop where
  nx : Nx ρ H ρ1 H1
  rel : Rel G ρ1 H1 st1
  rv : RV G.K ρ1 H1 v d
theorem PQ.bind {k : D → Store → Res} : ∀ {f : Res}, PQ G W σ ρ H Q (f.bind k) → PQ G W σ ρ H (fun v H1 => ∃ d st1 ρ1, Mid G ρ H v H1 d st1 ρ1 ∧ PQ G W σ ρ1 H1 Q (k d st1)) f
  | .ok d st, h => fun v ρ' H' n R r => ⟨d, st, ρ', ⟨n, R, r⟩, PQ.at_ n h⟩
  | .exc c st, h => h
  | .bad, h => h
theorem PQ.bindT {k : D → Store → Res} {Q : Bool → Hp → Prop} : ∀ {f : Res}, PTQ G W σ ρ H Q (f.bind k) → PQ G W σ ρ H (fun v H1 => ∃ d st1 ρ1, Mid G ρ H v H1 d st1 ρ1 ∧ PTQ G W σ ρ1 H1 Q (k d st1)) f
  | .ok d st, h => fun v ρ' H' n R r => ⟨d, st, ρ', ⟨n, R, r⟩, PTQ.at_ n h⟩
  | .exc c st, h => h
  | .bad, h => h
theorem PLQ.bind {k : List D → Store → Res} : ∀ {f : ResL}, PQ G W σ ρ H Q (f.bind k) → PLQ G W σ ρ H (fun vs H1 => ∃ ds st1 ρ1, Nx ρ H ρ1 H1 ∧ Rel G ρ1 H1 st1 ∧ RVs G.K ρ1 H1 vs ds ∧ PQ G W σ ρ1 H1 Q (k ds st1)) f
  | .ok d st, h => fun v ρ' H' n R r => ⟨d, st, ρ', n, R, r, PQ.at_ n h⟩
  | .exc c st, h => h
  | .bad, h => h
theorem PQ.bindL {k : D → Store → ResL} {Q : List V → Hp → Prop} : ∀ {f : Res}, PLQ G W σ ρ H Q (f.bindL k) → PQ G W σ ρ H (fun v H1 => ∃ d st1 ρ1, Mid G ρ H v H1 d st1 ρ1 ∧ PLQ G W σ ρ1 H1 Q (k d st1)) f
  | .ok d st, h => fun v ρ' H' n R r => ⟨d, st, ρ', ⟨n, R, r⟩, PLQ.at_ n h⟩
  | .exc c st, h => h
  | .bad, h => h
theorem PLQ.bindL {k : List D → Store → ResL} {Q : List V → Hp → Prop} : ∀ {f : ResL}, PLQ G W σ ρ H Q (f.bindL k) → PLQ G W σ ρ H (fun vs H1 => ∃ ds st1 ρ1, Nx ρ H ρ1 H1 ∧ Rel G ρ1 H1 st1 ∧ RVs G.K ρ1 H1 vs ds ∧ PLQ G W σ ρ1 H1 Q (k ds st1)) f
  | .ok d st, h => fun v ρ' H' n R r => ⟨d, st, ρ', n, R, r, PLQ.at_ n h⟩
  | .exc c st, h => h
  | .bad, h => h
/-- an operator's answer: no exception -/
def NoE (r : Res) : Prop := ∀ c st, r ≠ .exc c st
theorem PQ.pr {r : Res} (n : NoE r) (h : PQ G W σ ρ H Q r) : PR G ρ H Q r := by
  cases r with
  | ok d st => exact ⟨d, st, rfl, h⟩
  | exc c st => exact absurd rfl (n c st)
  | bad => exact h.elim
theorem PQ.false_ {P : Prop} (h : PQ G W σ ρ H Q .bad) : P := h.elim
end

theorem noe_ok {d : D} {st : Store} : NoE (.ok d st) := fun _ _ h => by cases h
theorem noe_bad : NoE .bad := fun _ _ h => by cases h
theorem noe_resB {st : Store} {o : Option Bool} : NoE (resB st o) := by
  cases o <;> intro _ _ h <;> cases h
theorem noe_binop (op : BOp) (x y : D) (st : Store) : NoE (binop op x y st) := by
  cases op <;> cases x <;> cases y <;> simp only [binop] <;> (repeat' split) <;> first | exact noe_ok | exact noe_bad
theorem noe_cmpop (op : COp) (x y : D) (st : Store) : NoE (cmpop op x y st) := by
  cases op <;> cases x <;> cases y <;> simp only [cmpop] <;> first | exact noe_ok | exact noe_bad | exact noe_resB
theorem noe_unop (op : UOp) (x : D) (st : Store) : NoE (unop op x st) := by
  cases op <;> cases x <;> simp only [unop] <;> first | exact noe_ok | exact noe_bad
theorem noe_idxop (x y : D) (st : Store) : NoE (idxop x y st) := by
  cases x <;> cases y <;> simp only [idxop] <;> (repeat' split) <;> first | exact noe_ok | exact noe_bad
theorem noe_slcop (x : D) (lo hi : Option Int) (st : Store) : NoE (slcop x lo hi st) := by
  cases x <;> simp only [slcop] <;> (repeat' split) <;> first | exact noe_ok | exact noe_bad
theorem noe_biop (f : BI) (ds : List D) (st : Store) : NoE (biop f ds st) := by
  unfold biop
  (repeat' split) <;> first | exact noe_ok | exact noe_bad
theorem noe_mthop (m : MI) (x : D) (ds : List D) (st : Store) : NoE (mthop m x ds st) := by
  unfold mthop
  (repeat' split) <;> first | exact noe_ok | exact noe_bad
theorem cmpop_bl {op : COp} {x y d : D} {st st' : Store} (h : cmpop op x y st = .ok d st') : ∃ b, d = .bl b ∧ st' = st := by
  have rb : ∀ o, resB st o = .ok d st' → ∃ b, d = .bl b ∧ st' = st := fun o h => by
    cases o with
    | none => cases h
    | some b => cases h; exact ⟨b, rfl, rfl⟩
  cases op <;> cases x <;> cases y <;> simp only [cmpop] at h <;> first | exact rb _ h | (cases h; done) | (cases h; exact ⟨_, rfl, rfl⟩)

theorem _root_.L2.PE.weak {X : Cx} {e : Expr} {t t' : TE} (h : PE X e t) (w : ∀ σ H Q, t' σ H Q → t σ H Q) : PE X e t' := ⟨fun pins s σ H Q I q => h.run pins s σ H Q I (w σ H Q q)⟩
theorem _root_.L2.PT.weak {X : Cx} {e : Expr} {t t' : TT} (h : PT X e t) (w : ∀ σ H Q, t' σ H Q → t σ H Q) : PT X e t' := ⟨fun pins s σ H Q I q => h.run pins s σ H Q I (w σ H Q q)⟩
theorem _root_.L2.PW.weak {X : Cx} {e : Expr} {t t' : TT} (h : PW X e t) (w : ∀ σ H Q, t' σ H Q → t σ H Q) : PW X e t' := ⟨fun wh pins s σ H Q I q => h.run wh pins s σ H Q I (w σ H Q q)⟩
theorem _root_.L2.PA.weak {X : Cx} {e : List Expr} {t t' : TA} (h : PA X e t) (w : ∀ σ H Q, t' σ H Q → t σ H Q) : PA X e t' := ⟨fun p pins s σ H Q I q => h.run p pins s σ H Q I (w σ H Q q)⟩
theorem _root_.L2.PE.none {X : Cx} {e : Expr} {t : TE} (w : ∀ σ H Q, ¬ t σ H Q) : PE X e t := ⟨fun pins s σ H Q I q => absurd q (w σ H Q)⟩

section
variable {G : Glob} {X : Cx} {N : List Str} {sc : Scope} {W : WX} {k : Nat} {cs : Str → Option D}
theorem truV_of {ρ : List Addr} {H : Hp} {st : Store} {v : V} {d : D} {b : Bool} (R : Rel G ρ H st) (h : RV G.K ρ H v d) (e : truth st d = some b) : TruV G.K v H b := by
  cases d <;> simp only [truth] at e <;> try (cases e)
  · rw [rv_bl] at h; subst h; rfl
  · obtain ⟨a, rfl, ha⟩ := rv_ref.mp h
    split at e
    · rename_i xs hx
      cases e
      obtain ⟨vs, h1, r⟩ := R.lstAt ha hx
      refine .inl ⟨vs, SqL.of h1, ?_⟩
      have := r.length
      cases vs <;> cases xs <;> simp at this <;> rfl
    · cases e
/-- a test by its value -/
theorem pt_of (g : GoodX G X N sc W k) {e : Expr} {f : Env → Store → Res} (h : PE X e (tE G W f)) (hp : plainT e = true) : PT X e (tT G W f) := by
  refine (pt_truth h (plainT_eq hp)).weak fun σ H Q ⟨ρ, env, st, R, E, q⟩ => ⟨ρ, env, st, R, E, ?_⟩
  cases hf : f env st with
  | ok d st' =>
    rw [hf] at q
    obtain ⟨b, e, q⟩ := q
    intro v ρ' H' n R' r
    exact ⟨b, by rw [g.K]; exact truV_of R' r e, q ρ' H' n R'⟩
  | exc c st' => rw [hf] at q; exact q
  | bad => rw [hf] at q; exact q
/-- .. of a comparison: its value is True or False -/
theorem ptq_bl {σ : L2.St} {ρ : List Addr} {H : Hp} {Q : Bool → Hp → Prop} {op : COp} {x y : D} {st : Store} (h : PTQ G W σ ρ H Q (cmpop op x y st)) : PR G ρ H (fun z H3 => ∃ k, z = .bl k ∧ Q k H3) (cmpop op x y st) := by
  cases hf : cmpop op x y st with
  | ok d st' =>
    rw [hf] at h
    obtain ⟨c, rfl, rfl⟩ := cmpop_bl hf
    obtain ⟨b, e, q⟩ := h
    cases e
    refine ⟨_, _, rfl, fun v ρ' H' n R r => ⟨c, rv_bl.mp r, q ρ' H' n R⟩⟩
  | exc c st' => exact absurd hf (noe_cmpop _ _ _ _ c st')
  | bad => rw [hf] at h; exact h.elim

theorem cmp_rule (g : GoodX G X N sc W k) : ∀ (op : COp) {o : CmpOp}, cmpIs op o = true → OpR X (compareOp o) (rD2 G (cmpop op))
  | .eq, o, h => by cases o <;> first | exact absurd h (by decide) | exact op_eqD' g.K g.room.units
  | .ne, o, h => by cases o <;> first | exact absurd h (by decide) | exact op_neD' g.K g.room.units
  | .lt, o, h => by cases o <;> first | exact absurd h (by decide) | exact op_ltD
  | .le, o, h => by cases o <;> first | exact absurd h (by decide) | exact op_leD
  | .gt, o, h => by cases o <;> first | exact absurd h (by decide) | exact op_gtD
  | .ge, o, h => by cases o <;> first | exact absurd h (by decide) | exact op_geD
  | .isin, o, h => by cases o <;> first | exact absurd h (by decide) | exact op_inD' g.K (by have := g.room.un; omega)
  | .notin, o, h => by cases o <;> first | exact absurd h (by decide) | exact op_notinD' g.K (by have := g.room.un; omega)
  | .is, o, h => by cases o <;> first | exact absurd h (by decide) | exact op_isD
  | .isnot, o, h => by cases o <;> first | exact absurd h (by decide) | exact op_isnotD
theorem bin_rule (g : GoodX G X N sc W k) : ∀ (op : BOp) {o : Operator}, opIs op o = true → OpR X (binaryOp o) (rD2 G (binop op))
  | .add, o, h => by cases o <;> first | exact absurd h (by decide) | exact op_addD g.K
  | .sub, o, h => by cases o <;> first | exact absurd h (by decide) | exact op_subD
  | .mul, o, h => by cases o <;> first | exact absurd h (by decide) | exact op_mulD g.K
  | .fdiv, o, h => by cases o <;> first | exact absurd h (by decide) | exact op_fdivD
  | .mod, o, h => by cases o <;> first | exact absurd h (by decide) | exact op_modD
  | .pow, o, h => by cases o <;> first | exact absurd h (by decide) | exact op_powD

/-! one lemma a form -/
variable {C : Oracle}
theorem s_const (g : GoodX G X N sc W k) {e : Expr} {v : V} {d : D} (h : PE X e (tC v)) (r : ∀ ρ H, RV G.K ρ H v d) : PE X e (tE G W fun _ st => .ok d st) :=
  h.weak fun σ H Q ⟨ρ, env, st, R, E, q⟩ => q v ρ H .refl R (r ρ H)
theorem s_un (g : GoodX G X N sc W k) {a : Expr} {f : Env → Store → Res} {p : Pos} (ha : PE X a (tE G W f)) : PE X (.UnaryOp .USub a p) (tE G W fun env st => (f env st).bind fun x st => unop .neg x st) :=
  (pe_un (un_negD (G := G)) ha).weak fun σ H Q ⟨ρ, env, st, R, E, q⟩ => ⟨ρ, env, st, R, E, (PQ.bind q).imp fun x H1 ⟨d, st1, ρ1, m, q1⟩ => ⟨ρ1, st1, d, m.rel, m.rv, q1.pr (noe_unop _ _ _)⟩⟩
theorem s_two {r : R2} {op : D → D → Store → Res} {a b : Expr} {f h : Env → Store → Res} (hn : ∀ x y st, NoE (op x y st)) {σ : L2.St} {H : Hp} {Q : VK}
    (q : tE G W (fun env st => (f env st).bind fun x st => (h env st).bind fun y st => op x y st) σ H Q) : tOp (rD2 G op) (tE G W f) (tE G W h) σ H Q := by
  obtain ⟨ρ, env, st, R, E, q⟩ := q
  exact ⟨ρ, env, st, R, E, (PQ.bind q).imp fun x H1 ⟨d, st1, ρ1, m, q1⟩ => ⟨ρ1, env, st1, m.rel, E.mono m.nx, (PQ.bind q1).imp fun y H2 ⟨d2, st2, ρ2, m2, q2⟩ =>
    ⟨ρ2, st2, d, d2, m2.rel, RV.mono m2.nx _ m.rv, m2.rv, q2.pr (hn _ _ _)⟩⟩⟩
theorem s_bin (g : GoodX G X N sc W k) {op : BOp} {o : Operator} {a b : Expr} {f h : Env → Store → Res} {p : Pos} (ho : opIs op o = true) (ha : PE X a (tE G W f)) (hb : PE X b (tE G W h)) :
    PE X (.BinOp a o b p) (tE G W fun env st => (f env st).bind fun x st => (h env st).bind fun y st => binop op x y st) :=
  (pe_op (bin_rule g op ho) ha hb).weak fun σ H Q q => s_two (r := fun _ _ _ _ => True) (a := a) (b := b) (noe_binop op) q
theorem s_cmp (g : GoodX G X N sc W k) {op : COp} {o : CmpOp} {a b : Expr} {f h : Env → Store → Res} {p : Pos} (ho : cmpIs op o = true) (ok : okE b = true) (ha : PE X a (tE G W f)) (hb : PE X b (tE G W h)) :
    PE X (.Compare a [o] [b] p) (tE G W fun env st => (f env st).bind fun x st => (h env st).bind fun y st => cmpop op x y st) :=
  (pe_cmpR (cmp_rule g op ho) ha hb (okE_mark ok)).weak fun σ H Q q => s_two (r := fun _ _ _ _ => True) (a := a) (b := b) (noe_cmpop op) q
theorem s_cmpT (g : GoodX G X N sc W k) {op : COp} {o : CmpOp} {a b : Expr} {f h : Env → Store → Res} {p : Pos} (ho : cmpIs op o = true) (ok : okE b = true) (ha : PE X a (tE G W f)) (hb : PE X b (tE G W h)) :
    PT X (.Compare a [o] [b] p) (tT G W fun env st => (f env st).bind fun x st => (h env st).bind fun y st => cmpop op x y st) :=
  (pt_cmpR (cmp_rule g op ho) ha hb (okE_mark ok)).weak fun σ H Q ⟨ρ, env, st, R, E, q⟩ =>
    ⟨ρ, env, st, R, E, (PQ.bindT q).imp fun x H1 ⟨d, st1, ρ1, m, q1⟩ => ⟨ρ1, env, st1, m.rel, E.mono m.nx, (PQ.bindT q1).imp fun y H2 ⟨d2, st2, ρ2, m2, q2⟩ =>
      ⟨ρ2, st2, d, d2, m2.rel, RV.mono m2.nx _ m.rv, m2.rv, ptq_bl q2⟩⟩⟩
theorem s_idx (g : GoodX G X N sc W k) {a b : Expr} {f h : Env → Store → Res} {p : Pos} (ok : okE b = true) (ha : PE X a (tE G W f)) (hb : PE X b (tE G W h)) :
    PE X (.Subscript a b p) (tE G W fun env st => (f env st).bind fun x st => (h env st).bind fun y st => idxop x y st) :=
  (pe_ix (ix_D g.K) ha hb (okE_ix ok)).weak fun σ H Q q => s_two (r := fun _ _ _ _ => True) (a := a) (b := b) noe_idxop q
end
end Mi

set_option linter.all false
set_option maxRecDepth 100000
/-! More forms of expressions; what is walked; comprehensions. -/
namespace Mi
open PySem L2 PyProof.Rows

section
variable {G : Glob} {X : Cx} {N : List Str} {sc : Scope} {W : WX} {k : Nat} {cs : Str → Option D}

/-! ### chains, and, or, not, if -/
def chainF (o o' : COp) (f h j : Env → Store → Res) : Env → Store → Res := fun env st =>
  (f env st).bind fun x st => (h env st).bind fun y st => (cmpop o x y st).bind fun r st => match r with
    | .bl true => (j env st).bind fun z st => cmpop o' y z st
    | .bl false => .ok (.bl false) st
    | _ => .bad
theorem chain_run {o o' : COp} {f h j : Env → Store → Res} {σ : L2.St} {H : Hp} {Q : VK} {ρ : List Addr} {env : Env} {st : Store} (R : Rel G ρ H st) (E : REnv G.K ρ H σ env) (q : PQ G W σ ρ H Q (chainF o o' f h j env st)) :
    tChain (rD2 G (cmpop o)) (rD2 G (cmpop o')) (tE G W f) (tE G W h) (tE G W j) σ H Q := by
  refine ⟨ρ, env, st, R, E, (PQ.bind q).imp fun x H1 ⟨d, st1, ρ1, m, q1⟩ => ⟨ρ1, env, st1, m.rel, E.mono m.nx, (PQ.bind q1).imp fun y H2 ⟨d2, st2, ρ2, m2, q2⟩ => ?_⟩⟩
  refine ⟨ρ2, st2, d, d2, m2.rel, RV.mono m2.nx _ m.rv, m2.rv, ?_⟩
  cases hc : cmpop o d d2 st2 with
  | ok c st3 =>
    obtain ⟨b, rfl, rfl⟩ := cmpop_bl hc
    rw [hc] at q2
    refine ⟨_, _, rfl, fun v ρ3 H3 n3 R3 r3 => ⟨b, rv_bl.mp r3, ?_⟩⟩
    cases b with
    | true =>
      have q3 := PQ.at_ n3 (show PQ G W σ ρ2 H2 Q ((j env st3).bind fun z st => cmpop o' d2 z st) from q2)
      exact ⟨ρ3, env, st3, R3, E.mono (m.nx.trans (m2.nx.trans n3)), (PQ.bind q3).imp fun z H4 ⟨d4, st4, ρ4, m4, q4⟩ => ⟨ρ4, st4, d2, d4, m4.rel, RV.mono (n3.trans m4.nx) _ m2.rv, m4.rv, q4.pr (noe_cmpop _ _ _ _)⟩⟩
    | false => exact (show PQ G W σ ρ2 H2 Q (.ok (.bl false) st3) from q2) _ ρ3 H3 n3 R3 (rv_bl.mpr rfl)
  | exc c st3 => exact absurd hc (noe_cmpop _ _ _ _ c st3)
  | bad => rw [hc] at q2; exact q2.elim
theorem okE_last {o o' : CmpOp} {b c : Expr} (h : okE c = true) : lastMarks [o, o'] [b, c] = false := by
  show behindInMarks o' c = false
  exact okE_mark h
theorem s_chain (g : GoodX G X N sc W k) {o o' : COp} {p p' : CmpOp} {a b c : Expr} {f h j : Env → Store → Res} {pos : Pos} (ho : cmpIs o p = true) (ho' : cmpIs o' p' = true) (okc : okE c = true)
    (ha : PE X a (tE G W f)) (hb : PE X b (tE G W h)) (hc : PE X c (tE G W j)) : PE X (.Compare a [p, p'] [b, c] pos) (tE G W (chainF o o' f h j)) :=
  (pe_chain (cmp_rule g o ho) (cmp_rule g o' ho') ha hb hc (okE_last okc)).weak fun σ H Q ⟨ρ, env, st, R, E, q⟩ => chain_run R E q
theorem bl_only {P : Prop} {σ : L2.St} {ρ : List Addr} {H : Hp} {Q : Bool → Hp → Prop} {r : Res} (hb : ∀ d st, r = .ok d st → ∃ b, d = .bl b) (h : PTQ G W σ ρ H Q r) : PQ G W σ ρ H (fun z H3 => ∃ k, z = .bl k ∧ Q k H3) r := by
  cases r with
  | ok d st =>
    obtain ⟨c, rfl⟩ := hb _ _ rfl
    obtain ⟨b, e, q⟩ := h
    cases e
    exact fun v ρ' H' n R r => ⟨c, rv_bl.mp r, q ρ' H' n R⟩
  | exc c st => exact h
  | bad => exact h
theorem chain_bl {o o' : COp} {f h j : Env → Store → Res} {env : Env} {st : Store} : ∀ d st', chainF o o' f h j env st = .ok d st' → ∃ b, d = .bl b := by
  intro d st' e
  unfold chainF at e
  cases h1 : f env st with
  | ok x s1 =>
    rw [h1] at e
    cases h2 : h env s1 with
    | ok y s2 =>
      simp only [Res.bind, h2] at e
      cases h3 : cmpop o x y s2 with
      | ok z s3 =>
        rw [h3] at e
        obtain ⟨b, rfl, rfl⟩ := cmpop_bl h3
        cases b with
        | true =>
          simp only at e
          cases h4 : j env s3 with
          | ok z' s4 => rw [h4] at e; obtain ⟨b, rfl, _⟩ := cmpop_bl e; exact ⟨b, rfl⟩
          | exc c s4 => rw [h4] at e; cases e
          | bad => rw [h4] at e; cases e
        | false => cases e; exact ⟨_, rfl⟩
      | exc c s3 => rw [h3] at e; cases e
      | bad => rw [h3] at e; cases e
    | exc c s2 => simp only [Res.bind, h2] at e; cases e
    | bad => simp only [Res.bind, h2] at e; cases e
  | exc c s1 => rw [h1] at e; cases e
  | bad => rw [h1] at e; cases e
theorem s_chainT (g : GoodX G X N sc W k) {o o' : COp} {p p' : CmpOp} {a b c : Expr} {f h j : Env → Store → Res} {pos : Pos} (ho : cmpIs o p = true) (ho' : cmpIs o' p' = true) (okc : okE c = true)
    (ha : PE X a (tE G W f)) (hb : PE X b (tE G W h)) (hc : PE X c (tE G W j)) : PT X (.Compare a [p, p'] [b, c] pos) (tT G W (chainF o o' f h j)) :=
  (pt_chain (cmp_rule g o ho) (cmp_rule g o' ho') ha hb hc (okE_last okc)).weak fun σ H Q ⟨ρ, env, st, R, E, q⟩ => chain_run R E (bl_only (P := True) chain_bl q)

def andF (f h : Env → Store → Res) : Env → Store → Res := fun env st => (f env st).bind fun x st => match x with
  | .bl true => h env st
  | .bl false => .ok (.bl false) st
  | _ => .bad
def orF (f h : Env → Store → Res) : Env → Store → Res := fun env st => (f env st).bind fun x st => match x with
  | .bl true => .ok (.bl true) st
  | .bl false => h env st
  | _ => .bad
def notF (f : Env → Store → Res) : Env → Store → Res := fun env st => (f env st).bind fun x st => match x with
  | .bl b => .ok (.bl (!b)) st
  | _ => .bad
def iteF_ (c f h : Env → Store → Res) : Env → Store → Res := fun env st => (c env st).bind fun x st => match x with
  | .bl true => f env st
  | .bl false => h env st
  | _ => .bad
theorem s_and (g : GoodX G X N sc W k) {a b : Expr} {r : List Expr} {f h : Env → Store → Res} {p : Pos} (ha : PE X a (tE G W f)) (hb : PE X (.BoolOp .And (b :: r) p) (tE G W h)) : PE X (.BoolOp .And (a :: b :: r) p) (tE G W (andF f h)) :=
  (pe_and ha hb).weak fun σ H Q ⟨ρ, env, st, R, E, q⟩ => ⟨ρ, env, st, R, E, (PQ.bind q).imp fun x H1 ⟨d, st1, ρ1, m, q1⟩ => by
    cases d with
    | bl c =>
      refine ⟨c, rv_bl.mp m.rv, ?_⟩
      cases c with
      | true => exact ⟨ρ1, env, st1, m.rel, E.mono m.nx, q1⟩
      | false => exact q1 _ ρ1 H1 .refl m.rel (rv_bl.mpr rfl)
    | _ => exact q1.elim⟩
theorem s_or (g : GoodX G X N sc W k) {a b : Expr} {r : List Expr} {f h : Env → Store → Res} {p : Pos} (ha : PE X a (tE G W f)) (hb : PE X (.BoolOp .Or (b :: r) p) (tE G W h)) : PE X (.BoolOp .Or (a :: b :: r) p) (tE G W (orF f h)) :=
  (pe_or ha hb).weak fun σ H Q ⟨ρ, env, st, R, E, q⟩ => ⟨ρ, env, st, R, E, (PQ.bind q).imp fun x H1 ⟨d, st1, ρ1, m, q1⟩ => by
    cases d with
    | bl c =>
      refine ⟨c, rv_bl.mp m.rv, ?_⟩
      cases c with
      | false => exact ⟨ρ1, env, st1, m.rel, E.mono m.nx, q1⟩
      | true => exact q1 _ ρ1 H1 .refl m.rel (rv_bl.mpr rfl)
    | _ => exact q1.elim⟩
theorem s_not (g : GoodX G X N sc W k) {a : Expr} {f : Env → Store → Res} {p : Pos} (ha : PE X a (tE G W f)) : PE X (.UnaryOp .Not a p) (tE G W (notF f)) :=
  (pe_not ha).weak fun σ H Q ⟨ρ, env, st, R, E, q⟩ => ⟨ρ, env, st, R, E, (PQ.bind q).imp fun x H1 ⟨d, st1, ρ1, m, q1⟩ => by
    cases d with
    | bl c => exact ⟨c, rv_bl.mp m.rv, q1 _ ρ1 H1 .refl m.rel (rv_bl.mpr rfl)⟩
    | _ => exact q1.elim⟩
/-- a test's two ways, from a PTQ of a bind -/
theorem PTQ.bind {σ : L2.St} {ρ : List Addr} {H : Hp} {Q Q' : Bool → Hp → Prop} {c : D → Store → Res} : ∀ {f : Res}, PTQ G W σ ρ H Q (f.bind c) →
    (∀ b st1 ρ1 H1, Nx ρ H ρ1 H1 → Rel G ρ1 H1 st1 → PTQ G W σ ρ1 H1 Q (c (.bl b) st1) → Q' b H1) → (∀ d st1, (∀ b, d ≠ .bl b) → c d st1 = .bad) → PTQ G W σ ρ H Q' f
  | .ok d st, h, k1, k2 => by
    by_cases hb : ∃ b, d = .bl b
    · obtain ⟨b, rfl⟩ := hb
      exact ⟨b, rfl, fun ρ' H' n R => k1 b st ρ' H' n R (PTQ.at_ n h)⟩
    · have e := k2 d st (fun b z => hb ⟨b, z⟩)
      have h' : PTQ G W σ ρ H Q (c d st) := h
      rw [e] at h'
      exact h'.elim
  | .exc x st, h, _, _ => h
  | .bad, h, _, _ => h
theorem s_andT (g : GoodX G X N sc W k) {a b : Expr} {r : List Expr} {f h : Env → Store → Res} {p : Pos} (ha : PT X a (tT G W f)) (hb : PW X (.BoolOp .And (b :: r) p) (tT G W h)) : PW X (.BoolOp .And (a :: b :: r) p) (tT G W (andF f h)) :=
  (pw_and ha hb).weak fun σ H Q ⟨ρ, env, st, R, E, q⟩ => ⟨ρ, env, st, R, E, PTQ.bind q (fun c st1 ρ1 H1 n R1 q1 => by
    cases c with
    | true => exact ⟨ρ1, env, st1, R1, E.mono n, q1⟩
    | false =>
      obtain ⟨z, e, q1⟩ := q1
      cases e
      exact q1 ρ1 H1 .refl R1) (fun d st1 hd => by cases d <;> first | rfl | exact absurd rfl (hd _))⟩
theorem s_orT (g : GoodX G X N sc W k) {a b : Expr} {r : List Expr} {f h : Env → Store → Res} {p : Pos} (ha : PT X a (tT G W f)) (hb : PW X (.BoolOp .Or (b :: r) p) (tT G W h)) : PW X (.BoolOp .Or (a :: b :: r) p) (tT G W (orF f h)) :=
  (pw_or ha hb).weak fun σ H Q ⟨ρ, env, st, R, E, q⟩ => ⟨ρ, env, st, R, E, PTQ.bind q (fun c st1 ρ1 H1 n R1 q1 => by
    cases c with
    | false => exact ⟨ρ1, env, st1, R1, E.mono n, q1⟩
    | true =>
      obtain ⟨z, e, q1⟩ := q1
      cases e
      exact q1 ρ1 H1 .refl R1) (fun d st1 hd => by cases d <;> first | rfl | exact absurd rfl (hd _))⟩
theorem s_notT (g : GoodX G X N sc W k) {a : Expr} {f : Env → Store → Res} {p : Pos} (ha : PT X a (tT G W f)) : PT X (.UnaryOp .Not a p) (tT G W (notF f)) :=
  (pt_not ha).weak fun σ H Q ⟨ρ, env, st, R, E, q⟩ => ⟨ρ, env, st, R, E, PTQ.bind q (fun c st1 ρ1 H1 n R1 q1 => by
    obtain ⟨z, e, q1⟩ := q1
    cases e
    exact q1 ρ1 H1 .refl R1) (fun d st1 hd => by cases d <;> first | rfl | exact absurd rfl (hd _))⟩
/-- the value of a condition, by its test -/
theorem PQ.bindC {σ : L2.St} {ρ : List Addr} {H : Hp} {Q : VK} {Q' : Bool → Hp → Prop} {c : D → Store → Res} : ∀ {f : Res}, PQ G W σ ρ H Q (f.bind c) →
    (∀ b st1 ρ1 H1, Nx ρ H ρ1 H1 → Rel G ρ1 H1 st1 → PQ G W σ ρ1 H1 Q (c (.bl b) st1) → Q' b H1) → (∀ d st1, (∀ b, d ≠ .bl b) → c d st1 = .bad) → PTQ G W σ ρ H Q' f
  | .ok d st, h, k1, k2 => by
    by_cases hb : ∃ b, d = .bl b
    · obtain ⟨b, rfl⟩ := hb
      exact ⟨b, rfl, fun ρ' H' n R => k1 b st ρ' H' n R (PQ.at_ n h)⟩
    · have e := k2 d st (fun b z => hb ⟨b, z⟩)
      have h' : PQ G W σ ρ H Q (c d st) := h
      rw [e] at h'
      exact h'.elim
  | .exc x st, h, _, _ => h
  | .bad, h, _, _ => h
theorem s_ite (g : GoodX G X N sc W k) {c a b : Expr} {fc f h : Env → Store → Res} {p : Pos} (hc : PT X c (tT G W fc)) (ha : PE X a (tE G W f)) (hb : PE X b (tE G W h)) : PE X (.IfExp c a b p) (tE G W (iteF_ fc f h)) :=
  (pe_ifExp hc ha hb).weak fun σ H Q ⟨ρ, env, st, R, E, q⟩ => ⟨ρ, env, st, R, E, PQ.bindC q (fun c st1 ρ1 H1 n R1 q1 => by
    cases c with
    | true => exact ⟨ρ1, env, st1, R1, E.mono n, q1⟩
    | false => exact ⟨ρ1, env, st1, R1, E.mono n, q1⟩) (fun d st1 hd => by cases d <;> first | rfl | exact absurd rfl (hd _))⟩

/-! ### arguments, displays -/
theorem s_nil : PA X [] (tA G W fun _ st => .ok [] st) := pa_nil.weak fun σ H Q ⟨ρ, env, st, R, E, q⟩ => q [] ρ H .refl R RVs.nil_
theorem s_cons {e : Expr} {es : List Expr} {f : Env → Store → Res} {h : Env → Store → ResL} (ok : okE e = true) (he : PE X e (tE G W f)) (hs : PA X es (tA G W h)) :
    PA X (e :: es) (tA G W fun env st => (f env st).bindL fun d st => (h env st).bindL fun ds st => .ok (d :: ds) st) :=
  (pa_cons he hs (okE_star ok)).weak fun σ H Q ⟨ρ, env, st, R, E, q⟩ => ⟨ρ, env, st, R, E, (PQ.bindL q).imp fun x H1 ⟨d, st1, ρ1, m, q1⟩ => ⟨ρ1, env, st1, m.rel, E.mono m.nx, (PLQ.bindL q1).imp fun xs H2 ⟨ds, st2, ρ2, n2, R2, r2, q2⟩ =>
    q2 _ ρ2 H2 .refl R2 (RVs.cons_ (RV.mono n2 _ m.rv) r2)⟩⟩
theorem s_tup {es : List Expr} {h : Env → Store → ResL} {i : Nat} {p : Pos} (hs : PA X es (tA G W h)) : PE X (.Tuple es i p) (tE G W fun env st => (h env st).bind fun ds st => if ds.length ≤ LINE then .ok (.tup ds) st else .bad) :=
  (pe_tup hs).weak fun σ H Q ⟨ρ, env, st, R, E, q⟩ => ⟨ρ, env, st, R, E, (PLQ.bind q).imp fun xs H1 ⟨ds, st1, ρ1, n1, R1, r1, q1⟩ => by
    split at q1
    · rename_i hl
      refine ⟨by rw [← line_eq, r1.length]; exact hl, fun p hp => ?_⟩
      exact (q1.pr noe_ok).tup R1 r1 hp
    · exact q1.elim⟩
theorem s_lst {es : List Expr} {h : Env → Store → ResL} {p : Pos} (hs : PA X es (tA G W h)) : PE X (.List es p) (tE G W fun env st => (h env st).bind fun ds st => if ds.length ≤ LINE then .ok (.ref st.length) (st ++ [.lst ds]) else .bad) :=
  (pe_lst hs).weak fun σ H Q ⟨ρ, env, st, R, E, q⟩ => ⟨ρ, env, st, R, E, (PLQ.bind q).imp fun xs H1 ⟨ds, st1, ρ1, n1, R1, r1, q1⟩ => by
    split at q1
    · rename_i hl
      refine ⟨by rw [← line_eq, r1.length]; exact hl, fun p hp => ?_⟩
      exact (q1.pr noe_ok).lst R1 r1 hp
    · exact q1.elim⟩

/-! ### slices -/
def poF : Option (Env → Store → Res) → Env → Store → Option (Option Int) × Store
  | none, _, st => (some none, st)
  | some f, env, st => match f env st with
    | .ok (.int i) st => (some (some i), st)
    | _ => (none, st)
def tO (G : Glob) (f : Env → Store → Option (Option Int) × Store) : TO := fun σ H Q => ∃ ρ env st, Rel G ρ H st ∧ REnv G.K ρ H σ env ∧ ∃ o st', f env st = (some o, st') ∧ ∀ ρ' H', Nx ρ H ρ' H' → Rel G ρ' H' st' → Q o H'
theorem s_pnone : PO X none (tO G fun _ st => (some none, st)) := ⟨fun pins s σ H Q I ⟨ρ, env, st, R, E, o, st', e, q⟩ => by
  cases e
  exact po_none.run pins s σ H Q I (q ρ H .refl R)⟩
def oF (f : Env → Store → Res) : Env → Store → Option (Option Int) × Store := fun env st => match f env st with
  | .ok (.int i) st => (some (some i), st)
  | _ => (none, st)
theorem s_psome {e : Expr} {f : Env → Store → Res} (he : PE X e (tE G W f)) : PO X (some e) (tO G (oF f)) := ⟨fun pins s σ H Q I ⟨ρ, env, st, R, E, o, st', e, q⟩ => by
  refine (po_some he).run pins s σ H Q I ⟨ρ, env, st, R, E, ?_⟩
  unfold oF at e
  cases hf : f env st with
  | ok d st1 =>
    rw [hf] at e
    cases d <;> simp only at e <;> cases e
    intro v ρ' H' n R' r
    exact ⟨_, rv_int.mp r, q ρ' H' n R'⟩
  | exc c st1 => rw [hf] at e; cases e
  | bad => rw [hf] at e; cases e⟩
def slcF (f : Env → Store → Res) (lo hi : Env → Store → Option (Option Int) × Store) : Env → Store → Res := fun env st => (f env st).bind fun x st => match lo env st with
  | (some l, st) => (match hi env st with
    | (some h, st) => slcop x l h st
    | _ => .bad)
  | _ => .bad
theorem s_slc (g : GoodX G X N sc W k) {a : Expr} {lo hi : Option Expr} {f : Env → Store → Res} {fl fh : Env → Store → Option (Option Int) × Store} {p q : Pos} (ha : PE X a (tE G W f)) (hl : PO X lo (tO G fl)) (hh : PO X hi (tO G fh)) :
    PE X (.Subscript a (.Slice lo hi none p) q) (tE G W (slcF f fl fh)) :=
  (pe_slice (sl_D g.K) ha hl hh).weak fun σ H Q ⟨ρ, env, st, R, E, q⟩ => ⟨ρ, env, st, R, E, (PQ.bind q).imp fun x H1 ⟨d, st1, ρ1, m, q1⟩ => by
    cases h1 : fl env st1 with
    | mk o st2 =>
      simp only [h1] at q1
      cases o with
      | none => exact q1.elim
      | some l =>
        simp only at q1
        refine ⟨ρ1, env, st1, m.rel, E.mono m.nx, l, st2, h1, fun ρ2 H2 n2 R2 => ?_⟩
        cases h2 : fh env st2 with
        | mk o2 st3 =>
          simp only [h2] at q1
          cases o2 with
          | none => exact q1.elim
          | some u =>
            simp only at q1
            exact ⟨ρ2, env, st2, R2, E.mono (m.nx.trans n2), u, st3, h2, fun ρ3 H3 n3 R3 => ⟨ρ3, st3, d, R3, RV.mono (n2.trans n3) _ m.rv, (PQ.at_ (n2.trans n3) q1).pr (noe_slcop _ _ _ _)⟩⟩⟩
end

/-! ### calls -/
/-- a def's promise -/
def spD (G : Glob) (n : Nat) (f : List D → Store → Res) : Sp := fun vs H Q E => vs.length = n ∧ ∃ ρ st ds, Rel G ρ H st ∧ RVs G.K ρ H vs ds ∧ (match f ds st with
  | .ok d st' => ∀ v ρ' H', Nx ρ H ρ' H' → Rel G ρ' H' st' → RV G.K ρ' H' v d → Q v H'
  | .exc c st' => ∀ ρ' H', Nx ρ H ρ' H' → Rel G ρ' H' st' → E (.ref (G.cls c)) none H'
  | .bad => False)
structure FOk (G : Glob) (C : Oracle) (k : Nat) (f : Str) where
  a : Addr
  fd : FuncData
  ps : List Str
  mg : G.mg f = some (.ref a)
  kp : PySem.W.keepIn G.K (.ref a) = true
  b : Binds G.K fd ps []
  ar : ∀ ds st, ds.length ≠ ps.length → C f ds st = .bad
  ok : FnOk G.P G.w G.K G.mg G.base (L2.CX G.P G.w) k a fd ps (spD G ps.length (C f))
/-- a method of a class -/
structure MOk (G : Glob) (C : Oracle) (k : Nat) (c m : Str) where
  a : Addr
  fd : FuncData
  ps : List Str
  cl : Cls G.K (G.cls c)
  me : Meth G.K (G.cls c) m a
  b : Binds G.K fd ps []
  ar : ∀ ds st, ds.length ≠ ps.length → C "." (.str c :: .str m :: ds) st = .bad
  ok : FnOk G.P G.w G.K G.mg G.base (L2.CX G.P G.w) k a fd ps (spD G ps.length (fun ds => C "." (.str c :: .str m :: ds)))
  make_ : m = "__init__" → Mk G.K (G.cls c) a ∧ G.mg c = some (.ref (G.cls c))
structure CallsOk (G : Glob) (fs : List Str) (C : Oracle) (k : Nat) : Prop where
  fn : ∀ f ∈ fs, Nonempty (FOk G C k f)
  mt : ∀ c m, Nonempty (MOk G C k c m) ∨ ∀ ds st, C "." (.str c :: .str m :: ds) st = .bad
/-- built-in names stand for the built-in things -/
structure Plain (G : Glob) : Prop where
  bi : ∀ f : BI, G.mg (biName f) = none
  range : G.mg "range" = none
  type : G.mg "type" = none
  isinst : G.mg "isinstance" = none
  enum : G.mg "enumerate" = none
  zip_ : G.mg "zip" = none
  ty : ∀ t : Str, tyOk t = true → G.mg t = none
end Mi

set_option linter.all false
set_option maxRecDepth 100000
set_option maxHeartbeats 1000000
/-! sorted of lists of data. -/
namespace Mi
open PySem L2 PyProof.Rows PySem.W
section
variable {X : Cx} {G : Glob}
/-- a raw value is this datum -/
def RawIs (G : Glob) (ρ : List Addr) (H : Hp) (u : Value) (d : D) : Prop := ∃ v, RelV v u ∧ RV G.K ρ H v d
theorem raw_each {ρ : List Addr} {H : Hp} : ∀ {ds : List D} {vs : List V} {us : List Value}, RVs G.K ρ H vs ds → Vals vs us → EachIs (RawIs G ρ H) us ds
  | [], _, _, r, t => by
    rw [rvs_nil] at r
    subst r
    cases t
    exact .nil
  | d :: ds, _, _, r, t => by
    obtain ⟨v, vs, rfl, h1, h2⟩ := rvs_cons.mp r
    cases t with
    | cons a b => exact .cons ⟨v, a, h1⟩ (raw_each h2 b)
theorem each_raw {ρ : List Addr} {H : Hp} : ∀ {us : List Value} {ds : List D}, EachIs (RawIs G ρ H) us ds → ∃ vs, RVs G.K ρ H vs ds ∧ Vals vs us
  | _, _, .nil => ⟨[], RVs.nil_, .nil⟩
  | _, _, .cons ⟨v, a, h1⟩ t => by
    obtain ⟨vs, h2, b⟩ := each_raw t
    exact ⟨v :: vs, RVs.cons_ h1 h2, .cons a b⟩
theorem raw_reads {ρ : List Addr} {pins : List (Addr × Obj)} {σ : L2.St} {H : Hp} {s : Shared} (hK : X.K = G.K) (I : Inv X pins σ H s) : ∀ {us : List Value} {ds : List D} {ps : List PyData}, EachIs (RawIs G ρ H) us ds → D.dataL ds = some ps → EachIs (fun u d => ∃ as, Reads s.heap u (encD' d) as) us ds
  | _, _, _, .nil, _ => .nil
  | _, d :: ds, ps, .cons ⟨v, a, h1⟩ t, e => by
    unfold D.dataL at e
    cases q : D.data d with
    | none => rw [q] at e; cases e
    | some p =>
      cases q2 : D.dataL ds with
      | none => rw [q, q2] at e; cases e
      | some ps' =>
        refine .cons ?_ (raw_reads hK I t q2)
        have dp : Dp X.K H v p := by rw [hK]; exact dp_of d h1 q
        have := Dp.reads I p v _ dp a
        have en : encD' d = p := by unfold encD'; rw [q]; rfl
        rw [en]
        exact this
theorem call_sortedD (hK : X.K = G.K) (hu : X.A.units + 65 < cLine) : CallR X (.builtin "sorted") (rDs G (biop .sorted)) := by
  intro pins s σ H xs us Q I r h
  obtain ⟨ρ, st, ds, R, hs, h⟩ := h
  unfold biop at h
  split at h <;> try exact h.bad
  all_goals (rename_i heq; try (cases heq))
  rename_i st b1 l1 s1 d
  obtain ⟨v, rfl, hv⟩ := rvs_1.mp hs
  split at h
  · rename_i zs ei
    split at h
    · rename_i ok
      obtain ⟨⟨ps, hps⟩, hal, hk, hdp, hL⟩ := ok
      have hd : ∃ n, d = .ref n ∧ st[n]? = some (.lst zs) := by
        cases d with
        | ref n =>
          simp only [sortItems] at ei
          split at ei
          · rename_i e
            cases ei
            exact ⟨_, rfl, e⟩
          · cases ei
        | _ => simp [sortItems] at ei
      obtain ⟨n, rfl, en⟩ := hd
      obtain ⟨a, rfl, ha⟩ := rv_ref.mp hv
      obtain ⟨vs, h1, r1⟩ := R.lstAt ha en
      obtain ⟨its, rv, hl, hz⟩ := I.list (SqL.of h1)
      rw [Vals.ref1 r]
      have er := raw_each r1 rv
      refine sorted_data hl.isList er (raw_reads hK I er hps) hal hk (by rw [← line_eq]; exact hL) (fun b hb => by
        have := (hdp b hb).2
        omega) fun out ho eo => ?_
      obtain ⟨ws, w1, w2⟩ := each_raw eo
      obtain ⟨ep, he'⟩ := PyProof.Rows.sortedAll_at s.heap its (List.toArray out)
      have hlen : ws.length ≤ sizeLine := by rw [w2.length, ho, ← line_eq]; exact hL
      have hp : H (s.heap.objs.size + 1) = none := I.hok.fresh (Nat.le_succ _)
      refine ⟨.ref _, upd H (s.heap.objs.size + 1) (.lst ws), I.laid (t' := s.toks) (fun _ _ => PyProof.Rows.sortedAll_old) (Nat.le_succ _) ⟨hlen, out, ep, w2, by simpa using he'⟩, rfl, ?_⟩
      exact h.lst R w1 hp
    · exact h.bad
  · exact h.bad
end
/-! ### dict displays of texts and ints -/
theorem putK_new {kvs : List (Key × V)} {k : Key} {v : V} (h : ∀ p ∈ kvs, p.1 ≠ k) : putK kvs k v = kvs ++ [(k, v)] := by
  unfold putK
  have : (kvs.any fun kv => decide (kv.1 = k)) = false := by
    rw [List.any_eq_false]
    intro p hp
    simpa using h p hp
  rw [this]; rfl
theorem merge_new : ∀ {kvs acc : List (Key × V)}, ((acc ++ kvs).map (·.1)).Nodup → mergeK acc kvs = acc ++ kvs
  | [], acc, _ => by simp [mergeK]
  | (k, v) :: kvs, acc, h => by
    have hk : ∀ p ∈ acc, p.1 ≠ k := by
      rw [List.map_append, List.nodup_append] at h
      intro p hp e
      exact h.2.2 p.1 (List.mem_map.mpr ⟨p, hp, rfl⟩) k (by simp) e
    have ih := merge_new (kvs := kvs) (acc := acc ++ [(k, v)]) (by rw [List.append_assoc]; exact h)
    unfold mergeK at ih ⊢
    rw [List.foldl_cons, putK_new hk, ih, List.append_assoc]
    rfl
end Mi

set_option linter.all false
set_option maxRecDepth 100000
/-! Calls, methods, types; walks, targets, comprehensions. -/
namespace Mi
open PySem L2 PyProof.Rows

section
variable {G : Glob} {X : Cx} {N : List Str} {sc : Scope} {W : WX} {k : Nat}

theorem noDbg_1 {x : Str} (h : noDbg x = true) : (x == ("__debug__" : Str)) = false := by
  unfold noDbg at h; simp only [Bool.and_eq_true, Bool.not_eq_true'] at h; exact h.1.1
theorem noDbg_2 {x : Str} (h : noDbg x = true) : (x == ("__classdict__" : Str)) = false := by
  unfold noDbg at h; simp only [Bool.and_eq_true, Bool.not_eq_true'] at h; exact h.1.2
theorem noDbg_3 {x : Str} (h : noDbg x = true) : x ≠ "__name__" := by
  unfold noDbg at h; simp only [Bool.and_eq_true, Bool.not_eq_true'] at h
  intro e; subst e; simp at h

def varF (i : Nat) : Env → Store → Res := fun env st => match env[i]? with
  | some (some d) => .ok d st
  | _ => .bad
theorem s_var (g : GoodX G X N sc W k) {i : Nat} {x : Str} {p : Pos} (h1 : N[i]? = some x) (h2 : visS sc x = true) (h3 : noDbg x = true) :
    PE X (.Name x p) (tE G W (varF i)) :=
  (pe_var (i := i) (by rw [g.ns]; exact h1) (g.vis x h2) (noDbg_1 h3) (noDbg_2 h3)).weak fun σ H Q ⟨ρ, env, st, R, E, q⟩ => by
    unfold varF at q
    split at q
    · rename_i d e
      obtain ⟨v, h1, r⟩ := E.2 i d e
      exact ⟨v, h1, q v ρ H .refl R r⟩
    · exact q.elim
/-- the module's constants -/
def ConstsOk (G : Glob) (cs : Str → Option D) : Prop := ∀ x d, cs x = some d → ∃ u v, G.mg x = some u ∧ RelV v u ∧ (∀ ρ H, RV G.K ρ H v d) ∧ ∀ ds, d = .tup ds → ∃ a o, v = .ref a ∧ G.K.lookup a = some o ∧ o.cls = .type "tuple" ∧ o.dict = none
def glbF (cs : Str → Option D) (x : Str) : Env → Store → Res := fun _ st => match cs x with
  | some d => .ok d st
  | none => .bad
theorem s_glb (g : GoodX G X N sc W k) {cs : Str → Option D} (hc : ConstsOk G cs) {x : Str} {p : Pos} (h2 : gloS sc x = true) (h3 : noDbg x = true) : PE X (.Name x p) (tE G W (glbF cs x)) := by
  cases e : cs x with
  | none => exact PE.none fun σ H Q ⟨ρ, env, st, R, E, q⟩ => by unfold glbF at q; rw [e] at q; exact q.elim
  | some d =>
    obtain ⟨u, v, h4, h5, h6, _⟩ := hc x d e
    exact (pe_glob (g.glo x h2) (by rw [g.mg]; exact h4) h5 (noDbg_1 h3)).weak fun σ H Q ⟨ρ, env, st, R, E, q⟩ => by
      unfold glbF at q; rw [e] at q; exact q v ρ H .refl R (h6 ρ H)

theorem stars_no {p : Pos} {env : PySem.Env} : ∀ {es : List Expr}, es.all okE = true → (backTo p (starEach es env)).any (·.1) = false
  | [], _ => rfl
  | e :: es, h => by
    rw [List.all_cons, Bool.and_eq_true] at h
    rw [okE_star h.1]
    show (false || (backTo p (starEach es env)).any (·.1)) = false
    rw [stars_no h.2]; rfl
theorem stars_all {p : Pos} {env : PySem.Env} : ∀ {es : List Expr}, es.all okE = true → (backTo p (starEach es env)).all (fun x => !x.1) = true
  | [], _ => rfl
  | e :: es, h => by
    rw [List.all_cons, Bool.and_eq_true] at h
    rw [okE_star h.1]
    show (!false && (backTo p (starEach es env)).all (fun x => !x.1)) = true
    rw [stars_all h.2]; rfl

def callF (f : List D → Store → Res) (h : Env → Store → ResL) : Env → Store → Res := fun env st => (h env st).bind fun ds st => f ds st
theorem s_call (g : GoodX G X N sc W k) {fs : List Str} {C : Oracle} (hC : CallsOk G fs C k) {f : Str} (hf : f ∈ fs) {e : Expr} {es : List Expr} {h : Env → Store → ResL} {p q : Pos} (h1 : gloS sc f = true) (h2 : noDbg f = true) (ok : (e :: es).all okE = true) (hs : PA X (e :: es) (tA G W h)) :
    PE X (.Call (.Name f p) (e :: es) [] q) (tE G W (callF (C f) h)) := by
  have ok2 := ok
  rw [List.all_cons, Bool.and_eq_true] at ok2
  obtain ⟨F⟩ := hC.fn f hf
  have Fo : FnOk X.prog X.w X.K X.mg X.base (L2.CX X.prog X.w) k F.a F.fd F.ps (spD G F.ps.length (C f)) := by
    rw [g.prog, g.w, g.K, g.mg, g.base]; exact F.ok
  refine (pe_callSD (dvs := []) (ds := []) (E := WE W) Fo g.room (g.glo f h1) (by rw [g.mg]; exact F.mg) (by rw [g.K]; exact F.kp) (by rw [g.K]; exact F.b) .nil (fun σ => passAt g.tk σ) hs (noDbg_1 h2) (okE_star ok2.1) (stars_no ok2.2)).weak
    fun σ H Q ⟨ρ, env, st, R, E, q⟩ => ⟨ρ, env, st, R, E, (PLQ.bind q).imp fun vs H1 ⟨ds, st1, ρ1, n1, R1, r1, q1⟩ => ?_⟩
  show spD G F.ps.length (C f) (vs ++ []) H1 Q (WE W σ)
  rw [List.append_nil]
  have hl : ds.length = F.ps.length := by
    refine Decidable.byContradiction fun z => ?_
    rw [F.ar ds st1 z] at q1
    exact q1.elim
  refine ⟨by rw [r1.length]; exact hl, ρ1, st1, ds, R1, r1, ?_⟩
  cases hr : C f ds st1 with
  | ok d st2 => rw [hr] at q1; exact q1
  | exc c st2 => rw [hr] at q1; exact q1
  | bad => rw [hr] at q1; exact q1.elim

/-! ### built-in calls -/
theorem bi_rest {f : BI} {h : Env → Store → ResL} {σ : L2.St} {H : Hp} {Q : VK} (q : tE G W (callF (biop f) h) σ H Q) : tCB (rDs G (biop f)) (tA G W h) σ H Q := by
  obtain ⟨ρ, env, st, R, E, q⟩ := q
  exact ⟨ρ, env, st, R, E, (PLQ.bind q).imp fun vs H1 ⟨ds, st1, ρ1, n1, R1, r1, q1⟩ => ⟨ρ1, st1, ds, R1, r1, q1.pr (noe_biop _ _ _)⟩⟩
theorem s_bi (g : GoodX G X N sc W k) (hp : Plain G) {f : BI} {e : Expr} {es : List Expr} {h : Env → Store → ResL} {p q : Pos} (h1 : gloS sc (biName f) = true) (ok : (e :: es).all okE = true) (hs : PA X (e :: es) (tA G W h)) :
    PE X (.Call (.Name (biName f) p) (e :: es) [] q) (tE G W (callF (biop f) h)) := by
  rw [List.all_cons, Bool.and_eq_true] at ok
  have hm : X.mg (biName f) = none := by rw [g.mg]; exact hp.bi f
  have hg := g.glo _ h1
  have fin : ∀ {id : String}, CallR X (.builtin id) (rDs G (biop f)) → bootBuiltins (biName f) = some (.builtin id) → biName f ≠ "__name__" → (biName f == ("__debug__" : Str)) = false → PE X (.Call (.Name (biName f) p) (e :: es) [] q) (tE G W (callF (biop f) h)) :=
    fun r hv n1 n2 => (pe_callB r hg hm hv hs n1 n2 (okE_star ok.1) (stars_no ok.2)).weak fun σ H Q q => bi_rest q
  have finT : ∀ {id : String}, CallR X (.type id) (rDs G (biop f)) → bootBuiltins (biName f) = some (.type id) → biName f ≠ "__name__" → (biName f == ("__debug__" : Str)) = false → PE X (.Call (.Name (biName f) p) (e :: es) [] q) (tE G W (callF (biop f) h)) :=
    fun r hv n1 n2 => (pe_callTy r hg hm hv hs n1 n2 (okE_star ok.1) (stars_no ok.2)).weak fun σ H Q q => bi_rest q
  have badB : (∀ ds st, biop f ds st = .bad) → ∀ (t : TE), PE X (.Call (.Name (biName f) p) (e :: es) [] q) t → PE X (.Call (.Name (biName f) p) (e :: es) [] q) t := fun _ _ h => h
  cases f with
  | len => exact fin (call_lenD g.K) PySem.boot_len (by decide) (by decide)
  | int => exact finT call_intD (by decide +kernel) (by decide) (by decide)
  | str => exact finT call_strD (by decide +kernel) (by decide) (by decide)
  | tuple => exact finT (call_tupleD g.K) (by decide +kernel) (by decide) (by decide)
  | list => exact finT (call_listD g.K) (by decide +kernel) (by decide) (by decide)
  | sum => exact fin (call_sumD g.K g.calm) (by decide +kernel) (by decide) (by decide)
  | all => exact fin (call_allD g.K g.calm) (by decide +kernel) (by decide) (by decide)
  | max => exact fin (call_maxD g.calm) (by decide +kernel) (by decide) (by decide)
  | min => exact fin (call_minD g.calm) (by decide +kernel) (by decide) (by decide)
  | abs => exact fin call_absD (by decide +kernel) (by decide) (by decide)
  | sorted => exact fin (id := "sorted") (call_sortedD g.K (by have := g.room.un; omega)) (by decide +kernel) (by decide) (by decide)
  | set0 => exact finT (id := "set") (fun pins s σ H xs us Q I r h => by obtain ⟨ρ, st, ds, R, hs, h⟩ := h; simp only [biop] at h; exact h.bad) (by decide +kernel) (by decide) (by decide)

/-! ### methods of built-in values -/
noncomputable def mthF (m : MI) (f : Env → Store → Res) (h : Env → Store → ResL) : Env → Store → Res := fun env st => (f env st).bind fun x st => if recvOk m x st = true then (h env st).bind fun ds st => mthop m x ds st else .bad
theorem recv_lst {ρ : List Addr} {H : Hp} {st : Store} {v : V} {d : D} {m : MI} (hm : m = .append ∨ m = .pop ∨ m = .extend ∨ m = .count) (R : Rel G ρ H st) (h : RV G.K ρ H v d) (ok : recvOk m d st = true) : tyV G.K "list" v H := by
  have : ∃ n xs, d = .ref n ∧ st[n]? = some (.lst xs) := by
    rcases hm with rfl | rfl | rfl | rfl <;> (cases d <;> simp only [recvOk] at ok <;> first | (cases ok; done) | (split at ok <;> first | exact ⟨_, _, rfl, by assumption⟩ | cases ok))
  obtain ⟨n, xs, rfl, hx⟩ := this
  obtain ⟨a, rfl, ha⟩ := rv_ref.mp h
  obtain ⟨vs, h1, r⟩ := R.lstAt ha hx
  exact .inl ⟨rfl, vs, SqL.of h1⟩
theorem recv_str {ρ : List Addr} {H : Hp} {st : Store} {v : V} {d : D} {m : MI} (hm : m = .join ∨ m = .split ∨ m = .partition ∨ m = .startswith ∨ m = .endswith ∨ m = .removeprefix ∨ m = .isascii ∨ m = .isdigit) (h : RV G.K ρ H v d) (ok : recvOk m d st = true) : ∃ a, v = .str a := by
  have : ∃ z, d = .str z := by
    rcases hm with rfl | rfl | rfl | rfl | rfl | rfl | rfl | rfl <;> (cases d <;> simp only [recvOk] at ok <;> first | (cases ok; done) | exact ⟨_, rfl⟩)
  obtain ⟨z, rfl⟩ := this
  exact ⟨z, rv_str.mp h⟩
theorem s_mthL (g : GoodX G X N sc W k) {m : MI} (hm : m = .append ∨ m = .pop ∨ m = .extend ∨ m = .count) {id : String} {name : Str} (slot : Slot "list" name id) (ty : typeOf (.builtin id) = pure (.type "method_descriptor")) (rule : MtR X id (rDm G (mthop m)))
    {o e : Expr} {es : List Expr} {f : Env → Store → Res} {h : Env → Store → ResL} {ap p : Pos} (hb : baseE o = true) (hl : (ap.endLine == p.line) = true) (few : (e :: es).length < 5) (ok : (e :: es).all okE = true) (ho : PE X o (tE G W f)) (hs : PA X (e :: es) (tA G W h)) :
    PE X (.Call (.Attribute o name ap) (e :: es) [] p) (tE G W (mthF m f h)) := by
  have ok2 := ok
  rw [List.all_cons, Bool.and_eq_true] at ok2
  refine (pe_bm PySem.F.plainAttrs_list slot ty rule ho hs (baseE_eq hb) ?_ hl (okE_star ok2.1) (stars_no ok2.2)).weak fun σ H Q ⟨ρ, env, st, R, E, q⟩ => ⟨ρ, env, st, R, E, (PQ.bind q).imp fun x H1 ⟨d, st1, ρ1, m1, q1⟩ => ?_⟩
  · rw [stars_all ok]
    have : decide ((e :: es).length + ([] : List Keyword).length + (if ([] : List Keyword).isEmpty = true then 0 else 1) < 30) = true := by
      apply decide_eq_true
      simp at few ⊢
      omega
    rw [this]; rfl
  · split at q1
    · rename_i hr
      refine ⟨by rw [g.K]; exact recv_lst hm m1.rel m1.rv hr, ρ1, env, st1, m1.rel, E.mono m1.nx, (PLQ.bind q1).imp fun vs H2 ⟨ds, st2, ρ2, n2, R2, r2, q2⟩ => ⟨ρ2, st2, d, ds, R2, RV.mono n2 _ m1.rv, r2, q2.pr (noe_mthop _ _ _ _)⟩⟩
    · exact q1.elim
theorem s_mthI (g : GoodX G X N sc W k) {cs : Str → Option D} (hc : ConstsOk G cs) {x : Str} {e : Expr} {h : Env → Store → ResL} {ap p p' : Pos} (h2 : gloS sc x = true) (h3 : noDbg x = true) (hl : (ap.endLine == p.line) = true) (ok : okE e = true) (hs : PA X [e] (tA G W h)) :
    PE X (.Call (.Attribute (.Name x p') "index" ap) [e] [] p) (tE G W (mthF .index (glbF cs x) h)) := by
  cases hd : cs x with
  | none =>
    refine PE.none fun σ H Q ⟨ρ, env, st, R, E, q⟩ => ?_
    have e : mthF .index (glbF cs x) h env st = .bad := by
      unfold mthF glbF
      rw [hd]
      rfl
    rw [e] at q
    exact q.elim
  | some d =>
    obtain ⟨u, v, h4, h5, h6, h7⟩ := hc x d hd
    have ho : PE X (.Name x p') (tC v) := pe_glob (g.glo x h2) (by rw [g.mg]; exact h4) h5 (noDbg_1 h3)
    have okl : [e].all okE = true := by rw [List.all_cons, ok]; rfl
    refine (pe_bm PySem.F.plainAttrs_tuple PySem.F.slot_tuple_index PySem.F.type_tuple_index (mt_indexTD (G := G) g.K) ho hs (baseE_eq rfl) ?_ hl (okE_star ok) rfl).weak fun σ H Q ⟨ρ, env, st, R, E, q⟩ => ?_
    · rw [stars_all okl]
      rfl
    · have e1 : mthF .index (glbF cs x) h env st = if recvOk .index d st = true then (h env st).bind fun ds st => mthop .index d ds st else .bad := by
        unfold mthF glbF
        rw [hd]
        rfl
      rw [e1] at q
      split at q
      · rename_i hr
        have ty : tyV X.K "tuple" v H := by
          cases d <;> first | (cases hr; done) | skip
          rename_i ys
          obtain ⟨a, o, rfl, k1, k2, k3⟩ := h7 ys rfl
          exact .inr (.inl ⟨rfl, o, by rw [g.K]; exact k1, k2, k3⟩)
        exact ⟨ty, ρ, env, st, R, E, (PLQ.bind q).imp fun vs H2 ⟨ds, st2, ρ2, n2, R2, r2, q2⟩ => ⟨ρ2, st2, d, ds, R2, h6 ρ2 H2, r2, q2.pr (noe_mthop _ _ _ _)⟩⟩
      · exact q.elim
theorem s_mthS0 (g : GoodX G X N sc W k) {m : MI} (hm : m = .join ∨ m = .split ∨ m = .partition ∨ m = .startswith ∨ m = .endswith ∨ m = .removeprefix ∨ m = .isascii ∨ m = .isdigit) {id : String} {name : Str} (slot : Slot "str" name id) (ty : typeOf (.builtin id) = pure (.type "method_descriptor")) (rule : MtR X id (rDm G (mthop m)))
    {o : Expr} {f : Env → Store → Res} {ap p : Pos} (hb : baseE o = true) (hl : (ap.endLine == p.line) = true) (ho : PE X o (tE G W f)) :
    PE X (.Call (.Attribute o name ap) [] [] p) (tE G W (mthF m f fun _ st => .ok [] st)) := by
  refine (pe_m0 slot ty rule ho (baseE_eq hb) hl).weak fun σ H Q ⟨ρ, env, st, R, E, q⟩ => ⟨ρ, env, st, R, E, (PQ.bind q).imp fun x H1 ⟨d, st1, ρ1, m1, q1⟩ => ?_⟩
  split at q1
  · rename_i hr
    exact ⟨recv_str hm m1.rv hr, ρ1, st1, d, [], m1.rel, m1.rv, RVs.nil_, (show PQ G W σ ρ1 H1 Q (mthop m d [] st1) from q1).pr (noe_mthop _ _ _ _)⟩
  · exact q1.elim
theorem s_mthS1 (g : GoodX G X N sc W k) {m : MI} (hm : m = .join ∨ m = .split ∨ m = .partition ∨ m = .startswith ∨ m = .endswith ∨ m = .removeprefix ∨ m = .isascii ∨ m = .isdigit) {id : String} {name : Str} (slot : Slot "str" name id) (ty : typeOf (.builtin id) = pure (.type "method_descriptor")) (rule : MtR X id (rDm G (mthop m)))
    {o e : Expr} {f h : Env → Store → Res} {ap p : Pos} (hb : baseE o = true) (hl : (ap.endLine == p.line) = true) (ok : okE e = true) (ho : PE X o (tE G W f)) (he : PE X e (tE G W h)) :
    PE X (.Call (.Attribute o name ap) [e] [] p) (tE G W (mthF m f fun env st => (h env st).bindL fun d st => .ok [d] st)) := by
  refine (pe_m1 slot ty rule ho he (okE_star ok) (baseE_eq hb) hl).weak fun σ H Q ⟨ρ, env, st, R, E, q⟩ => ⟨ρ, env, st, R, E, (PQ.bind q).imp fun x H1 ⟨d, st1, ρ1, m1, q1⟩ => ?_⟩
  split at q1
  · rename_i hr
    refine ⟨recv_str hm m1.rv hr, ρ1, env, st1, m1.rel, E.mono m1.nx, ?_⟩
    cases hh : h env st1 with
    | ok c st2 =>
      simp only [hh] at q1
      intro y ρ2 H2 n2 R2 r2
      exact ⟨ρ2, st2, d, [c], R2, RV.mono n2 _ m1.rv, rvs_1.mpr ⟨y, rfl, r2⟩, (PQ.at_ n2 (show PQ G W σ ρ1 H1 Q (mthop m d [c] st2) from q1)).pr (noe_mthop _ _ _ _)⟩
    | exc c st2 => simp only [hh] at q1; exact q1
    | bad => simp only [hh] at q1; exact q1
  · exact q1.elim

/-! ### types -/
def tyIsF (n : Bool) (f : Env → Store → Res) (t : Str) : Env → Store → Res := fun env st => (f env st).bind fun x st => match tyNameS st x with
  | some u => .ok (.bl (if n then !decide ((t : Str) = u) else decide ((t : Str) = u))) st
  | none => .bad
def isinF (f : Env → Store → Res) (t : Str) : Env → Store → Res := fun env st => (f env st).bind fun x st => match tyNameS st x with
  | some u => .ok (.bl (decide ((t : Str) = u) || (u == "bool" && decide ((t : Str) = ("int" : String))))) st
  | none => .bad

theorem tyOk_cases {t : Str} (h : tyOk t = true) : t = ("int" : Str) ∨ t = ("bool" : Str) ∨ t = ("str" : Str) ∨ t = ("tuple" : Str) ∨ t = ("list" : Str) := by
  unfold tyOk at h
  simp only [Bool.or_eq_true, decide_eq_true_eq] at h
  rcases h with (((h | h) | h) | h) | h
  · exact .inl h
  · exact .inr (.inl h)
  · exact .inr (.inr (.inl h))
  · exact .inr (.inr (.inr (.inl h)))
  · exact .inr (.inr (.inr (.inr h)))
/-- the type's name as a value -/
theorem pe_ty (g : GoodX G X N sc W k) (hp : Plain G) {t : Str} {p : Pos} (ht : tyOk t = true) (h1 : gloS sc t = true) : ∃ T : String, (t : Str) = T ∧ (T = "int" ∨ T = "bool" ∨ T = "str" ∨ T = "tuple" ∨ T = "list") ∧ PE X (.Name t p) (tC (.ty T)) := by
  have hm : X.mg t = none := by rw [g.mg]; exact hp.ty t ht
  have hg := g.glo t h1
  rcases tyOk_cases ht with rfl | rfl | rfl | rfl | rfl
  · exact ⟨"int", rfl, .inl rfl, pe_bltn hg hm (by decide +kernel) rfl⟩
  · exact ⟨"bool", rfl, .inr (.inl rfl), pe_bltn hg hm (by decide +kernel) rfl⟩
  · exact ⟨"str", rfl, .inr (.inr (.inl rfl)), pe_bltn hg hm (by decide +kernel) rfl⟩
  · exact ⟨"tuple", rfl, .inr (.inr (.inr (.inl rfl))), pe_bltn hg hm (by decide +kernel) rfl⟩
  · exact ⟨"list", rfl, .inr (.inr (.inr (.inr rfl))), pe_bltn hg hm (by decide +kernel) rfl⟩
end
end Mi

set_option linter.all false
set_option maxRecDepth 100000
set_option maxHeartbeats 1000000
/-! Dicts and sets of the small language. -/
namespace Mi
open PySem L2 PyProof.Rows PySem.Spec

/-! ### a dict asked by a key that stands anywhere -/
def DAsk (K : PySem.W.Frag) (H : Hp) (a : Addr) (y : V) (r : Option V) : Prop :=
  (∃ kvs k, H a = some (.dK kvs) ∧ y = kV k ∧ r = valV kvs k) ∨ ∃ kvs k b, H a = some (.dT kvs) ∧ y = .ref b ∧ SqT K H b (k.map kV) ∧ r = valV kvs k
section
variable {X : Cx} {pins : List (Addr × Obj)} {σ : L2.St} {H : Hp} {s : Shared} {a : Addr} {y v d : V} {o : Option V} {u r : Value} {A : Around} {E : Value → Shared → Prop}
theorem keyS {k : List Key} {b : Addr} (I : Inv X pins σ H s) (h : SqT X.K H b (k.map kV)) : (tupleKind (mixKind X.prog X.w)).is s.heap k b := by
  obtain ⟨its, rv, ⟨o, ho, hc, n, hd⟩, _⟩ := I.tuple h
  exact ⟨o, its.toArray, n, ho, hc, hd, items_are rv⟩
theorem DAsk.ty (I : Inv X pins σ H s) (g : DAsk X.K H a y o) : s.TypeIs (.ref a) "dict" := by
  rcases g with ⟨kvs, k, e, _⟩ | ⟨kvs, k, b, e, _⟩
  · exact (isD_at I (.inl ⟨kvs, .inl e⟩)).1
  · exact (isD_at I (.inr ⟨kvs, .inl e⟩)).1
theorem ask_get {Q : Value → Shared → Prop} (hu : A.units + 1 < cLine) (I : Inv X pins σ H s) (g : DAsk X.K H a y (some v)) (ry : RelV y u) (h : ∀ w' s', Inv X pins σ H s' → RelV v w' → Q w' s') : wpAny (model X.prog X.w) A (getItem (.ref a) u) Q E s := by
  rcases g with ⟨kvs, k, e, ey, l⟩ | ⟨kvs, k, b, e, ey, eb, l⟩
  · exact d_getItem hu I (.inl ⟨kvs, k, .inl e, ey, l⟩) ry h
  · subst ey
    cases (show u = Value.ref b from ry)
    obtain ⟨_, hd, xs, rel, dd⟩ := dt_rd I.hok (.inl e)
    obtain ⟨w', hw, rw'⟩ := RelO.some_of (v := v) (o := (atKey xs k).map (·.2)) (by rw [l]; exact rel.val k)
    obtain ⟨p, hp, hp2⟩ := Option.map_eq_some_iff.mp hw
    refine wpAny_getItem_heap (tupleKind_room_in1 hu) (keyS I eb) dd hp ?_
    rw [hp2]
    exact h w' _ (I.tok _) rw'
theorem ask_in {Q : Value → Shared → Prop} (hu : A.units + 1 < cLine) (I : Inv X pins σ H s) (g : DAsk X.K H a y o) (ry : RelV y u) (h : ∀ s', Inv X pins σ H s' → Q (.bool o.isSome) s') : wpAny (model X.prog X.w) A (compareOp .In u (.ref a)) Q E s := by
  rcases g with ⟨kvs, k, e, ey, l⟩ | ⟨kvs, k, b, e, ey, eb, l⟩
  · exact d_in hu I (.inl ⟨kvs, k, .inl e, ey, l⟩) ry h
  · subst ey
    cases (show u = Value.ref b from ry)
    obtain ⟨_, hd, xs, rel, dd⟩ := dt_rd I.hok (.inl e)
    refine wpAny_in_heap (tupleKind_room_in1 hu) (keyS I eb) hd dd ?_
    have q := (rel.val k).isSome_eq
    rw [Option.isSome_map] at q
    rw [← q, ← l]
    exact h _ (I.tok _)
theorem ask_notIn {Q : Value → Shared → Prop} (hu : A.units + 1 < cLine) (I : Inv X pins σ H s) (g : DAsk X.K H a y o) (ry : RelV y u) (h : ∀ s', Inv X pins σ H s' → Q (.bool (!o.isSome)) s') : wpAny (model X.prog X.w) A (compareOp .NotIn u (.ref a)) Q E s := by
  rcases g with ⟨kvs, k, e, ey, l⟩ | ⟨kvs, k, b, e, ey, eb, l⟩
  · exact d_notIn hu I (.inl ⟨kvs, k, .inl e, ey, l⟩) ry h
  · subst ey
    cases (show u = Value.ref b from ry)
    obtain ⟨_, hd, xs, rel, dd⟩ := dt_rd I.hok (.inl e)
    refine wpAny_notIn_heap (tupleKind_room_in1 hu) (keyS I eb) hd dd ?_
    have q := (rel.val k).isSome_eq
    rw [Option.isSome_map] at q
    rw [← q, ← l]
    exact h _ (I.tok _)
theorem ask_get2 {Q : Value → Shared → Prop} (hu : A.units + 1 < cLine) (I : Inv X pins σ H s) (g : DAsk X.K H a y o) (ry : RelV y u) (rd : RelV d r) (h : ∀ w' s', Inv X pins σ H s' → RelV (o.getD d) w' → Q w' s') :
    wpAny (model X.prog X.w) A (call (.builtin "dict.get") [.ref a, u, r]) Q E s := by
  rcases g with ⟨kvs, k, e, ey, l⟩ | ⟨kvs, k, b, e, ey, eb, l⟩
  · exact d_get2 hu I (.inl ⟨kvs, k, .inl e, ey, l⟩) ry rd h
  · subst ey
    cases (show u = Value.ref b from ry)
    obtain ⟨_, hd, xs, rel, dd⟩ := dt_rd I.hok (.inl e)
    refine call_meetsIn PySem.F.slot_dict_get dd.typeIs PySem.F.entry_dict_get (PySem.F.args_dict_get_3 _ _ _) (meetsH_dict_get_default (tupleKind (mixKind X.prog X.w)) a b hd r) ⟨tupleKind_room_in1 hu, k, xs, keyS I eb, dd, h _ _ (I.tok _) ?_⟩
    rw [l]
    exact (rel.val k).getD rd
end
section
variable {X : Cx} {o e f i : Expr} {td ty tx : TE} {pos apos cpos : Pos}
theorem pe_askGet (hu : X.A.units + 1 < cLine) (ho : PE X o td) (hi : PE X i ty) (hs : NoSl i) : PE X (.Subscript o i pos) (fun σ H Q => td σ H fun x H1 => ty σ H1 fun y H2 => ∃ a v, x = .ref a ∧ DAsk X.K H2 a y (some v) ∧ Q v H2) :=
  ⟨fun pins s σ H Q I h => subD_of PySem.F.slot_dict_getitem.lookup hs (thn (ho.run pins s σ H _ I h) fun u s1 ⟨x, H1, I1, rx, q1⟩ => thn (hi.run pins s1 σ H1 _ I1 q1) fun iv s2 ⟨y, H2, I2, ry, a, v, ex, g, q2⟩ => by
    subst ex
    obtain rfl : u = Value.ref a := rx
    exact ⟨g.ty I2, ask_get hu I2 g ry fun w' s3 I3 rw' => ⟨v, H2, I3, rw', q2⟩⟩)⟩
theorem pc_askIn (hu : X.A.units + 1 < cLine) (hi : PE X i ty) (ho : PE X o td) : PC X .In i o (fun σ H Q => ty σ H fun y H1 => td σ H1 fun x H2 => ∃ a ov, x = .ref a ∧ DAsk X.K H2 a y ov ∧ Q (.bl ov.isSome) H2) :=
  ⟨fun pins s σ H Q I h => thn (hi.run pins s σ H _ I h) fun iv s1 ⟨y, H1, I1, ry, q1⟩ => thn (ho.run pins s1 σ H1 _ I1 q1) fun u s2 ⟨x, H2, I2, rx, a, ov, ex, g, q2⟩ => by
    subst ex
    obtain rfl : u = Value.ref a := rx
    exact ask_in hu I2 g ry fun s3 I3 => ⟨.bl ov.isSome, H2, I3, rfl, q2⟩⟩
theorem pc_askNotIn (hu : X.A.units + 1 < cLine) (hi : PE X i ty) (ho : PE X o td) : PC X .NotIn i o (fun σ H Q => ty σ H fun y H1 => td σ H1 fun x H2 => ∃ a ov, x = .ref a ∧ DAsk X.K H2 a y ov ∧ Q (.bl (!ov.isSome)) H2) :=
  ⟨fun pins s σ H Q I h => thn (hi.run pins s σ H _ I h) fun iv s1 ⟨y, H1, I1, ry, q1⟩ => thn (ho.run pins s1 σ H1 _ I1 q1) fun u s2 ⟨x, H2, I2, rx, a, ov, ex, g, q2⟩ => by
    subst ex
    obtain rfl : u = Value.ref a := rx
    exact ask_notIn hu I2 g ry fun s3 I3 => ⟨.bl (!ov.isSome), H2, I3, rfl, q2⟩⟩
theorem pe_askGet2 (hu : X.A.units + 1 < cLine) (ho : PE X o td) (he : PE X e ty) (hf : PE X f tx) (m : M2 X o "get" apos e f cpos) :
    PE X (.Call (.Attribute o "get" apos) [e, f] [] cpos) (fun σ H Q => td σ H fun x H1 => ∃ a, x = .ref a ∧ IsD H1 a ∧ ty σ H1 fun y H2 => tx σ H2 fun z H3 => ∃ ov, DAsk X.K H3 a y ov ∧ Q (ov.getD z) H3) := by
  refine ⟨fun pins s σ H Q I h => ?_⟩
  refine wpAny_Call_method m.base m.few m.line PySem.F.plainAttrs_dict PySem.F.slot_dict_get PySem.F.type_dict_get (thn (ho.run pins s σ H _ I h) fun u s1 ⟨x, H1, I1, rx, a, ex, dd, q1⟩ => ?_)
  subst ex
  obtain rfl : u = Value.ref a := rx
  obtain ⟨t1, t2, _⟩ := isD_at I1 dd
  refine ⟨t1, t2, ?_⟩
  rw [m.trees]
  refine Calls.callWith_builtin rfl (Calls.evalArgs_plain (Calls.spliced_cons (thn (he.run pins s1 σ H1 _ I1 q1) fun iv s2 ⟨y, H2, I2, ry, q2⟩ =>
    Calls.spliced_cons (thn (hf.run pins s2 σ H2 _ I2 q2) fun fv s3 ⟨z, H3, I3, rz, ov, g, q3⟩ => Calls.spliced_nil ?_))))
  exact ask_get2 hu I3 g ry rz fun w' s4 I4 rw' => ⟨ov.getD z, H3, I4, rw', q3⟩
end

/-! ### the small language's dicts -/
section
variable {G : Glob} {ρ : List Addr} {H : Hp} {st : Store}
theorem key_rv {v : V} {d : D} {k : Key} (h : RV G.K ρ H v d) (e : keyD d = some k) : v = kV k := by
  cases d <;> first | (cases e; done) | skip
  · cases e; exact rv_int.mp h
  · cases e; exact rv_str.mp h
theorem keys_rv : ∀ {ds : List D} {vs : List V} {ks : List Key}, RVs G.K ρ H vs ds → keysD ds = some ks → vs = ks.map kV
  | [], _, _, h, e => by cases e; exact rvs_nil.mp h
  | d :: ds, _, _, h, e => by
    obtain ⟨v, r, rfl, h1, h2⟩ := rvs_cons.mp h
    unfold keysD at e
    cases q : keyD d with
    | none => rw [q] at e; cases e
    | some k =>
      cases q2 : keysD ds with
      | none => rw [q, q2] at e; cases e
      | some ks => rw [q, q2] at e; cases e; rw [key_rv h1 q, keys_rv h2 q2]; rfl
theorem keyT_rv {v : V} {d : D} {k : List Key} (h : RV G.K ρ H v d) (e : keyT d = some k) : ∃ b, v = .ref b ∧ SqT G.K H b (k.map kV) := by
  cases d <;> first | (cases e; done) | skip
  obtain ⟨a, vs, rfl, s, r⟩ := rv_tup.mp h
  exact ⟨a, rfl, by rw [← keys_rv r e]; exact s⟩
theorem rks_val {z : Key} : ∀ {vs : List (Key × V)} {kvs : List (D × D)}, RKs G.K ρ H vs kvs → match dVal false kvs [z] with
    | some d => ∃ v, valV vs z = some v ∧ RV G.K ρ H v d
    | none => valV vs z = none
  | _, [], h => by cases h; rfl
  | _, (k, d) :: kvs, h => by
    obtain ⟨y, v, r, rfl, h0, h1, h2⟩ := h
    have ih := rks_val (z := z) h2
    by_cases e : y = z
    · subst e
      simp only [dVal, List.find?_cons, keyOf, h0, Bool.false_eq_true, if_false, Option.map_some, decide_true, valV]
      exact ⟨v, rfl, h1⟩
    · have e' : ¬ (some [y] = some [z]) := by simpa using e
      simp only [dVal, List.find?_cons, keyOf, h0, Bool.false_eq_true, if_false, Option.map_some, e', e, decide_false, valV] at ih ⊢
      exact ih
theorem rts_val {z : List Key} : ∀ {vs : List (List Key × V)} {kvs : List (D × D)}, RTs G.K ρ H vs kvs → match dVal true kvs z with
    | some d => ∃ v, valV vs z = some v ∧ RV G.K ρ H v d
    | none => valV vs z = none
  | _, [], h => by cases h; rfl
  | _, (k, d) :: kvs, h => by
    obtain ⟨y, v, r, rfl, h0, h1, h2⟩ := h
    have ih := rts_val (z := z) h2
    by_cases e : y = z
    · subst e
      simp only [dVal, List.find?_cons, keyOf, h0, if_true, decide_true, valV]
      exact ⟨v, rfl, h1⟩
    · have e' : ¬ (some y = some z) := by simpa using e
      simp only [dVal, List.find?_cons, keyOf, h0, if_true, e', e, decide_false, valV] at ih ⊢
      exact ih
/-- what is asked, over the layer -/
theorem ask_rel {x y : V} {dx dy : D} {o : Option D} (R : Rel G ρ H st) (hx : RV G.K ρ H x dx) (hy : RV G.K ρ H y dy) (e : dAsk st dx dy = some o) :
    ∃ a ov, x = .ref a ∧ DAsk G.K H a y ov ∧ ((∃ d v, o = some d ∧ ov = some v ∧ RV G.K ρ H v d) ∨ (o = none ∧ ov = none)) := by
  cases dx <;> first | (cases e; done) | skip
  rename_i n
  obtain ⟨a, rfl, ha⟩ := rv_ref.mp hx
  simp only [dAsk] at e
  split at e
  · rename_i t kvs hk
    obtain ⟨b, hb, ro⟩ := R.addr hk
    rw [ha] at hb
    cases hb
    cases t with
    | false =>
      obtain ⟨ks, h1, h2⟩ := ro
      simp only [keyOf, Bool.false_eq_true, if_false] at e
      cases q : keyD dy with
      | none => rw [q] at e; cases e
      | some z =>
        rw [q] at e
        cases e
        have := rks_val (z := z) h2
        refine ⟨a, valV ks z, rfl, .inl ⟨ks, z, h1, key_rv hy q, rfl⟩, ?_⟩
        cases w : dVal false kvs [z] with
        | none => rw [w] at this; exact .inr ⟨w, this⟩
        | some d => rw [w] at this; obtain ⟨v, e1, e2⟩ := this; exact .inl ⟨d, v, w, e1, e2⟩
    | true =>
      obtain ⟨ks, h1, h2⟩ := ro
      simp only [keyOf, if_true] at e
      cases q : keyT dy with
      | none => rw [q] at e; cases e
      | some z =>
        rw [q] at e
        cases e
        have := rts_val (z := z) h2
        obtain ⟨c, rfl, hc⟩ := keyT_rv hy q
        refine ⟨a, valV ks z, rfl, .inr ⟨ks, z, c, h1, rfl, hc, rfl⟩, ?_⟩
        cases w : dVal true kvs z with
        | none => rw [w] at this; exact .inr ⟨w, this⟩
        | some d => rw [w] at this; obtain ⟨v, e1, e2⟩ := this; exact .inl ⟨d, v, w, e1, e2⟩
  · cases e
theorem isDic_rel {x : V} {dx : D} (R : Rel G ρ H st) (hx : RV G.K ρ H x dx) (e : isDic dx st = true) : ∃ a, x = .ref a ∧ IsD H a := by
  cases dx <;> first | (cases e; done) | skip
  obtain ⟨a, rfl, ha⟩ := rv_ref.mp hx
  simp only [isDic] at e
  split at e
  · rename_i t kvs hk
    obtain ⟨b, hb, ro⟩ := R.addr hk
    rw [ha] at hb
    cases hb
    cases t with
    | false => obtain ⟨ks, h1, h2⟩ := ro; exact ⟨a, rfl, .inl ⟨ks, .inl h1⟩⟩
    | true => obtain ⟨ks, h1, h2⟩ := ro; exact ⟨a, rfl, .inr ⟨ks, .inl h1⟩⟩
  · cases e
end
section
variable {G : Glob} {X : Cx} {N : List Str} {sc : Scope} {W : WX} {k : Nat}
def dgetF (f h : Env → Store → Res) : Env → Store → Res := fun env st => (f env st).bind fun x st => (h env st).bind fun y st => dgetop x y st
def dinF (n : Bool) (h f : Env → Store → Res) : Env → Store → Res := fun env st => (h env st).bind fun y st => (f env st).bind fun x st => dinop n x y st
def dgetmF (f h j : Env → Store → Res) : Env → Store → Res := fun env st => (f env st).bind fun x st => if isDic x st = true then (h env st).bind fun y st => (j env st).bind fun w st => dgetmop x y w st else .bad
theorem s_dget (g : GoodX G X N sc W k) {a b : Expr} {f h : Env → Store → Res} {p : Pos} (okb : okE b = true) (ha : PE X a (tE G W f)) (hb : PE X b (tE G W h)) : PE X (.Subscript a b p) (tE G W (dgetF f h)) :=
  (pe_askGet (by have := g.room.un; omega) ha hb (okE_ix okb)).weak fun σ H Q ⟨ρ, env, st, R, E, q⟩ => ⟨ρ, env, st, R, E, (PQ.bind q).imp fun x H1 ⟨d, st1, ρ1, m, q1⟩ => ⟨ρ1, env, st1, m.rel, E.mono m.nx, (PQ.bind q1).imp fun y H2 ⟨d2, st2, ρ2, m2, q2⟩ => by
    unfold dgetop at q2
    split at q2
    · rename_i v hv
      obtain ⟨a, ov, rfl, hd, h3⟩ := ask_rel m2.rel (RV.mono m2.nx _ m.rv) m2.rv hv
      rcases h3 with ⟨d', w, e1, rfl, rw'⟩ | ⟨e1, _⟩
      · cases e1
        exact ⟨a, w, rfl, by rw [g.K]; exact hd, q2 w ρ2 H2 .refl m2.rel rw'⟩
      · cases e1
    · exact q2.elim⟩⟩
theorem din_bl {n : Bool} {h f : Env → Store → Res} {env : Env} {st : Store} : ∀ d st', dinF n h f env st = .ok d st' → ∃ b, d = .bl b := by
  intro d st' e
  unfold dinF at e
  cases h1 : h env st with
  | ok x s1 =>
    rw [h1] at e
    cases h2 : f env s1 with
    | ok y s2 =>
      simp only [Res.bind, h2, dinop] at e
      split at e
      · cases e; exact ⟨_, rfl⟩
      · cases e
    | exc c s2 => simp only [Res.bind, h2] at e; cases e
    | bad => simp only [Res.bind, h2] at e; cases e
  | exc c s1 => rw [h1] at e; cases e
  | bad => rw [h1] at e; cases e
theorem s_din (g : GoodX G X N sc W k) {n : Bool} {a b : Expr} {f h : Env → Store → Res} {p : Pos} (oka : okE a = true) (hb : PE X b (tE G W h)) (ha : PE X a (tE G W f)) : PE X (.Compare b [if n then .NotIn else .In] [a] p) (tE G W (dinF n h f)) := by
  have key : ∀ σ H Q, tE G W (dinF n h f) σ H Q → tE G W h σ H fun y H1 => tE G W f σ H1 fun x H2 => ∃ a ov, x = .ref a ∧ DAsk X.K H2 a y ov ∧ Q (.bl (if n then !ov.isSome else ov.isSome)) H2 := fun σ H Q ⟨ρ, env, st, R, E, q⟩ =>
    ⟨ρ, env, st, R, E, (PQ.bind q).imp fun y H1 ⟨d, st1, ρ1, m, q1⟩ => ⟨ρ1, env, st1, m.rel, E.mono m.nx, (PQ.bind q1).imp fun x H2 ⟨d2, st2, ρ2, m2, q2⟩ => by
      unfold dinop at q2
      split at q2
      · rename_i o ho
        obtain ⟨a, ov, rfl, hd, h3⟩ := ask_rel m2.rel m2.rv (RV.mono m2.nx _ m.rv) ho
        refine ⟨a, ov, rfl, by rw [g.K]; exact hd, ?_⟩
        have : ov.isSome = o.isSome := by
          rcases h3 with ⟨_, _, rfl, rfl, _⟩ | ⟨rfl, rfl⟩ <;> rfl
        rw [this]
        exact q2 _ ρ2 H2 .refl m2.rel (rv_bl.mpr rfl)
      · exact q2.elim⟩⟩
  have hu : X.A.units + 1 < cLine := by have := g.room.un; omega
  cases n with
  | false => exact (pe_cmp (pc_askIn hu hb ha) (okE_mark oka)).weak key
  | true => exact (pe_cmp (pc_askNotIn hu hb ha) (okE_mark oka)).weak key
theorem s_dgetm (g : GoodX G X N sc W k) {o e z : Expr} {f h j : Env → Store → Res} {ap p : Pos} (hb : baseE o = true) (hl : (ap.endLine == p.line) = true) (oke : okE e = true) (okz : okE z = true) (ho : PE X o (tE G W f)) (he : PE X e (tE G W h)) (hz : PE X z (tE G W j)) :
    PE X (.Call (.Attribute o "get" ap) [e, z] [] p) (tE G W (dgetmF f h j)) := by
  have st2 : starEach [e, z] X.env = [(false, eval e X.env), (false, eval z X.env)] := by rw [okE_star oke, okE_star okz]; rfl
  refine (pe_askGet2 (by have := g.room.un; omega) ho he hz ⟨baseE_eq hb, by rw [st2]; rfl, hl, by rw [st2]; rfl⟩).weak fun σ H Q ⟨ρ, env, st, R, E, q⟩ => ⟨ρ, env, st, R, E, (PQ.bind q).imp fun x H1 ⟨d, st1, ρ1, m, q1⟩ => ?_⟩
  split at q1
  · rename_i hd
    obtain ⟨a, rfl, da⟩ := isDic_rel m.rel m.rv hd
    refine ⟨a, rfl, da, ρ1, env, st1, m.rel, E.mono m.nx, (PQ.bind q1).imp fun y H2 ⟨d2, st2, ρ2, m2, q2⟩ => ⟨ρ2, env, st2, m2.rel, E.mono (m.nx.trans m2.nx), (PQ.bind q2).imp fun w H3 ⟨d3, st3, ρ3, m3, q3⟩ => ?_⟩⟩
    unfold dgetmop at q3
    split at q3
    · rename_i ov hv
      obtain ⟨a', ov', e1, hd', h3⟩ := ask_rel m3.rel (RV.mono (m2.nx.trans m3.nx) _ m.rv) (RV.mono m3.nx _ m2.rv) hv
      cases e1
      refine ⟨ov', by rw [g.K]; exact hd', ?_⟩
      rcases h3 with ⟨d', w', rfl, rfl, r'⟩ | ⟨rfl, rfl⟩
      · exact q3 w' ρ3 H3 .refl m3.rel r'
      · exact q3 w ρ3 H3 .refl m3.rel m3.rv
    · exact q3.elim
  · exact q1.elim
theorem isStrC_eq {x : Str} {e : Expr} (h : isStrC x e = true) : ∃ j p, e = .Constant (.str x) j p := by
  unfold isStrC at h
  split at h
  · rename_i y q
    obtain rfl := of_decide_eq_true h
    exact asConst_eq q
  · cases h
theorem isIntC_eq {x : Int} {e : Expr} (h : isIntC x e = true) : ∃ j p, e = .Constant (.int x) j p := by
  unfold isIntC at h
  split at h
  · rename_i y q
    obtain rfl := of_decide_eq_true h
    exact asConst_eq q
  · cases h
def litT (kvs : List (Str × Int)) : List (TE × TE) := kvs.map fun p => (tC (.str p.1), tC (.int p.2))
theorem lit_pps {pos : Pos} : ∀ {kvs : List (Str × Int)} {ks : List (Option Expr)} {vs : List Expr}, matchD kvs ks vs = true → PPs X pos ks vs (litT kvs) ∧ ks.all (·.isSome) = true ∧ ks.length = vs.length ∧ ks.length = kvs.length
  | [], [], [], _ => ⟨pps_nil, rfl, rfl, rfl⟩
  | p :: r, some k :: ks, v :: vs, h => by
    simp only [matchD, Bool.and_eq_true] at h
    obtain ⟨_, _, rfl⟩ := isStrC_eq h.1.1
    obtain ⟨_, _, rfl⟩ := isIntC_eq h.1.2
    obtain ⟨h1, h2, h3, h4⟩ := lit_pps (kvs := r) h.2
    exact ⟨pps_cons pe_str pe_int h1, by simpa using h2, by simp [h3], by simp [h4]⟩
  | [], _ :: _, _, h => by simp [matchD] at h
  | [], [], _ :: _, h => by simp [matchD] at h
  | _ :: _, [], _, h => by simp [matchD] at h
  | _ :: _, none :: _, _, h => by simp [matchD] at h
  | _ :: _, some _ :: _, [], h => by simp [matchD] at h
theorem lit_pairs {σ : L2.St} : ∀ {kvs : List (Str × Int)} {H : Hp} {Q : List (V × V) → Hp → Prop}, Q (kvs.map fun p => (V.str p.1, V.int p.2)) H → tPairs (litT kvs) σ H Q
  | [], H, Q, h => h
  | p :: r, H, Q, h => lit_pairs (kvs := r) (Q := fun ps H3 => Q ((V.str p.1, V.int p.2) :: ps) H3) h
theorem rks_lit {K : PySem.W.Frag} {ρ : List Addr} {H : Hp} : ∀ (kvs : List (Str × Int)), RKs K ρ H (kvs.map fun p => ((Sum.inr p.1 : Key), V.int p.2)) (kvs.map fun p => (D.str p.1, D.int p.2))
  | [] => rfl
  | p :: r => ⟨.inr p.1, .int p.2, _, rfl, rfl, by unfold RV; rfl, rks_lit r⟩
theorem s_dicL (g : GoodX G X N sc W k) {t : Bool} {ks vs : Es} {kvs : List (Str × Int)} {ks' : List (Option Expr)} {vs' : List Expr} {p : Pos} (hl : litP ks vs = some kvs) (h : matchD kvs ks' vs' = true) : PE X (.Dict ks' vs' p) (tE G W fun _ st => dicLit t ks vs st) := by
  obtain ⟨h1, h2, h3, h4⟩ := lit_pps (X := X) (pos := p) h
  by_cases c : t = false ∧ (kvs.map (·.1)).Nodup ∧ kvs ≠ [] ∧ kvs.length ≤ 15
  · obtain ⟨rfl, nd, ne, l15⟩ := id c
    have hne : ks' ≠ [] := by
      rintro rfl
      exact ne (List.length_eq_zero_iff.mp h4.symm)
    refine (pe_disp h1 h2 h3 hne (by rw [h4]; exact l15)).weak fun σ H Q ⟨ρ, env, st, R, E, q⟩ a ha => ?_
    have ev : dicLit false ks vs st = .ok (.ref st.length) (st ++ [.dic false (kvs.map fun p => (.str p.1, .int p.2))]) := by
      unfold dicLit
      rw [hl]
      exact if_pos c
    change PQ G W σ ρ H Q (dicLit false ks vs st) at q
    rw [ev] at q
    refine lit_pairs ⟨upd_same, kvs.map fun p => (.inr p.1, .int p.2), by rw [List.map_map]; rfl, by simpa using l15, ?_⟩
    have nd2 : ((([] : List (Key × V)) ++ kvs.map fun p : Str × Int => ((Sum.inr p.1 : Key), V.int p.2)).map fun x : Key × V => x.1).Nodup := by
      rw [List.nil_append, List.map_map]
      have : ((fun x : Key × V => x.1) ∘ fun p : Str × Int => ((Sum.inr p.1 : Key), V.int p.2)) = (fun x : Str => (Sum.inr x : Key)) ∘ fun p : Str × Int => p.1 := rfl
      rw [this, ← List.map_map]
      exact List.Pairwise.map _ (fun a b hab e => hab (Sum.inr.inj e)) nd
    rw [merge_new nd2, List.nil_append, upd_upd]
    exact q _ (ρ ++ [a]) _ (nx_new ha) (R.new ha ⟨_, upd_same, rks_lit kvs⟩) (rv_ref.mpr ⟨a, rfl, by rw [← R.len]; simp⟩)
  · refine PE.none fun σ H Q ⟨ρ, env, st, R, E, q⟩ => ?_
    have ev : dicLit t ks vs st = .bad := by
      unfold dicLit
      rw [hl]
      exact if_neg c
    change PQ G W σ ρ H Q (dicLit t ks vs st) at q
    rw [ev] at q
    exact q.elim
theorem s_dic (g : GoodX G X N sc W k) {t : Bool} {p : Pos} : PE X (.Dict [] [] p) (tE G W fun _ st => .ok (.ref st.length) (st ++ [.dic t []])) := by
  have fin : ∀ σ H Q, tE G W (fun _ st => .ok (.ref st.length) (st ++ [.dic t []])) σ H Q → ∀ q (o : HO), H q = none → (∀ ρ : List Addr, RO G (ρ ++ [q]) (upd H q o) q (.dic t [])) → Q (.ref q) (upd H q o) := fun σ H Q ⟨ρ, env, st, R, E, h⟩ q o hq ro =>
    h _ (ρ ++ [q]) _ (nx_new hq) (R.new hq (ro ρ)) (rv_ref.mpr ⟨q, rfl, by rw [← R.len]; simp⟩)
  cases t with
  | false => exact pe_dnewK.weak fun σ H Q h q hq => fin σ H Q h q _ hq fun ρ => ⟨[], upd_same, rfl⟩
  | true => exact pe_dnewT.weak fun σ H Q h q hq => fin σ H Q h q _ hq fun ρ => ⟨[], upd_same, rfl⟩
end
end Mi

set_option linter.all false
set_option maxRecDepth 100000
set_option maxHeartbeats 1000000
/-! Dicts as tests; sets. -/
namespace Mi
open PySem L2 PyProof.Rows PySem.Spec
section
variable {G : Glob} {X : Cx} {N : List Str} {sc : Scope} {W : WX} {k : Nat}
theorem s_dinT (g : GoodX G X N sc W k) {n : Bool} {a b : Expr} {f h : Env → Store → Res} {p : Pos} (oka : okE a = true) (hb : PE X b (tE G W h)) (ha : PE X a (tE G W f)) : PT X (.Compare b [if n then .NotIn else .In] [a] p) (tT G W (dinF n h f)) := by
  have key : ∀ σ H (Q : Bool → Hp → Prop), tT G W (dinF n h f) σ H Q → tE G W h σ H fun y H1 => tE G W f σ H1 fun x H2 => ∃ a ov, x = .ref a ∧ DAsk X.K H2 a y ov ∧ ∃ c, V.bl (if n then !ov.isSome else ov.isSome) = .bl c ∧ Q c H2 := fun σ H Q ⟨ρ, env, st, R, E, q⟩ =>
    ⟨ρ, env, st, R, E, (PQ.bind (bl_only (P := True) (fun d st' e => din_bl d st' e) q)).imp fun y H1 ⟨d, st1, ρ1, m, q1⟩ => ⟨ρ1, env, st1, m.rel, E.mono m.nx, (PQ.bind q1).imp fun x H2 ⟨d2, st2, ρ2, m2, q2⟩ => by
      unfold dinop at q2
      split at q2
      · rename_i o ho
        obtain ⟨a, ov, rfl, hd, h3⟩ := ask_rel m2.rel m2.rv (RV.mono m2.nx _ m.rv) ho
        refine ⟨a, ov, rfl, by rw [g.K]; exact hd, ?_⟩
        have : ov.isSome = o.isSome := by
          rcases h3 with ⟨_, _, rfl, rfl, _⟩ | ⟨rfl, rfl⟩ <;> rfl
        rw [this]
        exact q2 _ ρ2 H2 .refl m2.rel (rv_bl.mpr rfl)
      · exact q2.elim⟩⟩
  have hu : X.A.units + 1 < cLine := by have := g.room.un; omega
  cases n with
  | false => exact (pt_cmp (pc_askIn hu hb ha) (okE_mark oka)).weak key
  | true => exact (pt_cmp (pc_askNotIn hu hb ha) (okE_mark oka)).weak key

/-! ### sets of tuples -/
theorem keysT_app : ∀ {ds : List D} {ks : List (List Key)} {d : D} {k : List Key}, keysT ds = some ks → keyT d = some k → keysT (ds ++ [d]) = some (ks ++ [k])
  | [], _, _, _, e, e2 => by cases e; simp [keysT, e2]
  | c :: ds, _, d, k, e, e2 => by
    unfold keysT at e
    cases q : keyT c with
    | none => rw [q] at e; cases e
    | some z =>
      cases q2 : keysT ds with
      | none => rw [q, q2] at e; cases e
      | some zs => rw [q, q2] at e; cases e; simp [keysT, q, keysT_app q2 e2]
theorem keysT_any : ∀ {ds : List D} {ks : List (List Key)} {z : List Key}, keysT ds = some ks → ((ds.any fun d => decide (keyT d = some z)) = true ↔ z ∈ ks)
  | [], _, z, e => by cases e; simp
  | c :: ds, _, z, e => by
    unfold keysT at e
    cases q : keyT c with
    | none => rw [q] at e; cases e
    | some y =>
      cases q2 : keysT ds with
      | none => rw [q, q2] at e; cases e
      | some zs =>
        rw [q, q2] at e
        cases e
        have ih := keysT_any (z := z) q2
        simp only [List.any_cons, Bool.or_eq_true, decide_eq_true_eq, q, ih, List.mem_cons, Option.some.injEq]
        constructor <;> (rintro (h | h) <;> first | exact .inl h.symm | exact .inr h)
theorem keysT_len : ∀ {ds : List D} {ks : List (List Key)}, keysT ds = some ks → ks.length = ds.length
  | [], _, e => by cases e; rfl
  | c :: ds, _, e => by
    unfold keysT at e
    cases q : keyT c with
    | none => rw [q] at e; cases e
    | some y =>
      cases q2 : keysT ds with
      | none => rw [q, q2] at e; cases e
      | some zs => rw [q, q2] at e; cases e; simp [keysT_len q2]
section
variable {ρ : List Addr} {H : Hp} {st : Store}
theorem sett_rel {x : V} {dx : D} (R : Rel G ρ H st) (hx : RV G.K ρ H x dx) (e : isSet dx st = true) : ∃ n ds a L ks, dx = .ref n ∧ st[n]? = some (.sett ds) ∧ x = .ref a ∧ ρ[n]? = some a ∧ H a = some (Ms.SMO G.P G.w a L) ∧ (∀ p ∈ L, SqT G.K H p.1 (p.2.map kV)) ∧ keysT ds = some ks ∧ (L.map Prod.snd).Perm ks := by
  cases dx <;> first | (cases e; done) | skip
  rename_i n
  obtain ⟨a, rfl, ha⟩ := rv_ref.mp hx
  simp only [isSet] at e
  split at e
  · rename_i ds hk
    obtain ⟨b, hb, ro⟩ := R.addr hk
    rw [ha] at hb
    cases hb
    obtain ⟨L, ks, h1, h2, h3, h4⟩ := ro
    exact ⟨n, ds, a, L, ks, rfl, hk, rfl, ha, h1, h2, h3, h4⟩
  · cases e
end
def saddF (f h : Env → Store → Res) : Env → Store → Res := fun env st => (f env st).bind fun x st => if isSet x st = true then (h env st).bind fun y st => saddop x y st else .bad
def slenF (f : Env → Store → Res) : Env → Store → Res := fun env st => (f env st).bind fun x st => slenop x st
theorem s_set0 (g : GoodX G X N sc W k) (hp : Plain G) {p q : Pos} (hg : gloS sc "set" = true) : PE X (.Call (.Name "set" p) [] [] q) (tE G W fun _ st => .ok (.ref st.length) (st ++ [.sett []])) :=
  (pe_callTy0 Ms.cr_set0 (g.glo _ hg) (by rw [g.mg]; exact hp.bi .set0) (by decide +kernel)).weak fun σ H Q ⟨ρ, env, st, R, E, h⟩ => by
    refine ⟨rfl, fun a ha => ?_⟩
    rw [g.prog, g.w]
    exact h _ (ρ ++ [a]) _ (nx_new ha) (R.new ha ⟨[], [], upd_same, (fun p hp => nomatch hp), rfl, List.Perm.nil⟩) (rv_ref.mpr ⟨a, rfl, by rw [← R.len]; simp⟩)
/-- a set's method, asked late -/
theorem pe_set_add {o e : Expr} {to : TE} {t : TA} {apos cpos : Pos} (hu : X.A.units + 1 < cLine) (ho : PE X o to) (ha : PA X [e] t) (hbase : attributeBase o "add" X.env (eval o X.env) = eval o X.env) (oke : okE e = true) (hline : (apos.endLine == cpos.line) = true) :
    PE X (.Call (.Attribute o "add" apos) [e] [] cpos) (fun σ H Q => to σ H fun x H1 => (∃ a L, x = V.ref a ∧ H1 a = some (Ms.SMO X.prog X.w a L)) ∧ t σ H1 fun xs H2 => Ms.rAdd X.K X.prog X.w x xs H2 Q) := by
  refine ⟨fun pins s σ H Q I h => ?_⟩
  have hs : starEach [e] X.env = [(false, eval e X.env)] := by rw [okE_star oke]; rfl
  refine wpAny_Call_method_late hbase (by rw [hs]; rfl) hline rfl (thn (ho.run pins s σ H _ I h) fun v s1 ⟨x, H1, I1, r1, ty, q1⟩ => ?_)
  obtain ⟨a, L, rfl, hka⟩ := ty
  obtain ⟨es, ep, tt, ⟨ob, hob, hex, hd⟩, _⟩ : Ms.SM0 X.prog X.w s1.heap a L := (I1.hok a _ hka).1
  cases r1
  refine ⟨"set", "set.add", PySem.F.plainAttrs_set, PySem.F.slot_set_add, PySem.F.type_set_add, ⟨ob, hob, hex.1⟩, fun b eb => by cases eb; exact ⟨ob, hob, hex.2.1⟩, ?_⟩
  have hA := ha.run cpos pins s1 σ H1 _ I1 q1
  rw [hs] at hA ⊢
  refine Calls.callWith_builtin rfl (Calls.evalArgs_plain ?_)
  exact thn hA fun us s2 ⟨vs, H2, I2, r2, q2⟩ => Ms.mt_add hu pins s2 σ H2 (.ref a) vs (.ref a) us Q I2 rfl r2 q2
theorem s_sadd (g : GoodX G X N sc W k) {o e : Expr} {f h : Env → Store → Res} {ap p : Pos} (hb : baseE o = true) (hl : (ap.endLine == p.line) = true) (oke : okE e = true) (ho : PE X o (tE G W f)) (he : PE X e (tE G W h)) :
    PE X (.Call (.Attribute o "add" ap) [e] [] p) (tE G W (saddF f h)) := by
  refine (pe_set_add (by have := g.room.un; omega) ho (s_cons oke he s_nil) (baseE_eq hb) oke hl).weak fun σ H Q ⟨ρ, env, st, R, E, q⟩ => ⟨ρ, env, st, R, E, (PQ.bind q).imp fun x H1 ⟨d, st1, ρ1, m, q1⟩ => ?_⟩
  split at q1
  · rename_i hs
    obtain ⟨n, _, a, L, _, rfl, _, rfl, _, hL, _⟩ := sett_rel m.rel m.rv hs
    refine ⟨⟨a, L, rfl, by rw [g.prog, g.w]; exact hL⟩, ρ1, env, st1, m.rel, E.mono m.nx, ?_⟩
    have q2 := (PQ.bind q1)
    show PLQ G W σ ρ1 H1 _ ((h env st1).bindL fun d st => (ResL.ok [] st).bindL fun ds st => .ok (d :: ds) st)
    cases hh : h env st1 with
    | exc c st2 => rw [hh] at q2; exact q2
    | bad => rw [hh] at q2; exact q2.elim
    | ok y st2 =>
      rw [hh] at q2
      intro vs ρ2 H2 n2 R2 r2
      obtain ⟨v, rfl, rv⟩ := rvs_1.mp r2
      obtain ⟨dy, st3, ρ3, m3, q3⟩ := q2 v ρ2 H2 n2 R2 rv
      unfold saddop at q3
      simp only at q3
      split at q3
      · rename_i ds hds
        split at q3
        · rename_i z hz
          split at q3
          · rename_i few
            obtain ⟨n', ds', a', L', ks, en, hds', ea, ha', h1, h2, h3, h4⟩ := sett_rel m3.rel (RV.mono m3.nx _ m.rv) (by simp only [isSet, hds])
            cases en
            cases ea
            rw [hds] at hds'
            cases hds'
            obtain ⟨b, rfl, hbk⟩ := keyT_rv m3.rv hz
            have ln : L'.length = ds.length := by
              have := h4.length_eq
              rw [List.length_map, keysT_len h3] at this
              exact this
            rw [g.prog, g.w, g.K]
            have mem : z ∈ L'.map Prod.snd ↔ (ds.any fun d => decide (keyT d = some z)) = true := by rw [keysT_any h3, h4.mem_iff]
            have same : ∀ (L2 : List (Addr × List Key)) (H3 : Hp), H3 = upd H2 a (Ms.SMO G.P G.w a L2) → (∀ p ∈ L2, SqT G.K H2 p.1 (p.2.map kV)) → ∀ (ds2 : List D) (ks2 : List (List Key)), keysT ds2 = some ks2 → (L2.map Prod.snd).Perm ks2 → Rel G ρ3 H3 (st3.set n (.sett ds2)) ∧ Nx ρ3 H2 ρ3 H3 := by
              rintro L2 _ rfl hL2 ds2 ks2 e1 e2
              have nx := nx_put (o := Ms.SMO G.P G.w a L2) m3.rel ha'
              exact ⟨m3.rel.put ha' ⟨L2, ks2, upd_same, fun p hp => nx.sqT (hL2 p hp), e1, e2⟩, nx⟩
            refine ⟨a, b, z, L', rfl, rfl, h1, h2, hbk, by omega, fun L2 i1 i2 => ?_⟩
            split at q3
            · rename_i hit
              obtain rfl := i1 (mem.mpr hit)
              obtain ⟨RR, nx⟩ := same L2 _ rfl h2 ds ks h3 h4
              have : st3.set n (.sett ds) = st3 := by
                obtain ⟨hlt, he⟩ := List.getElem?_eq_some_iff.mp hds
                rw [← he]; exact List.set_getElem_self hlt
              rw [this] at RR
              exact q3 .non ρ3 _ nx RR (rv_non.mpr rfl)
            · rename_i hit
              have pm := i2 (fun z => hit (mem.mp z))
              obtain ⟨RR, nx⟩ := same L2 _ rfl (fun p hp => by
                rcases List.mem_cons.mp (pm.mem_iff.mp hp) with rfl | hp
                · exact hbk
                · exact h2 p hp) (ds ++ [dy]) (ks ++ [z]) (keysT_app h3 hz) ((pm.map Prod.snd).trans (by
                  rw [List.map_cons]
                  exact ((h4.cons z).trans (List.perm_append_singleton z ks).symm)))
              exact q3 .non ρ3 _ nx RR (rv_non.mpr rfl)
          · exact q3.elim
        · exact q3.elim
      · exact q3.elim
  · exact q1.elim
theorem callR_or {X : Cx} {f : Value} {r1 r2 : List V → Hp → VK → Prop} (h1 : CallR X f r1) (h2 : CallR X f r2) : CallR X f (fun xs H Q => r1 xs H Q ∨ r2 xs H Q) := by
  intro pins s σ H xs us Q I r h
  rcases h with h | h
  · exact h1 pins s σ H xs us Q I r h
  · exact h2 pins s σ H xs us Q I r h
theorem rks_lenD {K : PySem.W.Frag} {ρ : List Addr} {H : Hp} : ∀ {kvs : List (D × D)} {ks : List (Key × V)}, RKs K ρ H ks kvs → ks.length = kvs.length
  | [], _, h => by
    have h : _ = [] := h
    rw [h]; rfl
  | (_, _) :: kvs, _, h => by
    obtain ⟨z, v, r, rfl, _, _, t⟩ := h
    simp [rks_lenD t]
theorem s_slen (g : GoodX G X N sc W k) (hp : Plain G) {o : Expr} {f : Env → Store → Res} {p q : Pos} (hg : gloS sc "len" = true) (oko : okE o = true) (ho : PE X o (tE G W f)) : PE X (.Call (.Name "len" p) [o] [] q) (tE G W (slenF f)) := by
  refine (pe_callB (callR_or Ms.call_lenM L2.call_lenD) (g.glo _ hg) (by rw [g.mg]; exact hp.bi .len) PySem.boot_len (s_cons oko ho s_nil) (by decide) (by decide) (okE_star oko) rfl).weak fun σ H Q ⟨ρ, env, st, R, E, q⟩ => ⟨ρ, env, st, R, E, ?_⟩
  have q2 := PQ.bind q
  show PLQ G W σ ρ H _ ((f env st).bindL fun d st => (ResL.ok [] st).bindL fun ds st => .ok (d :: ds) st)
  cases hh : f env st with
  | exc c st2 => rw [hh] at q2; exact q2
  | bad => rw [hh] at q2; exact q2.elim
  | ok x st2 =>
    rw [hh] at q2
    intro vs ρ2 H2 n2 R2 r2
    obtain ⟨v, rfl, rv⟩ := rvs_1.mp r2
    obtain ⟨dx, st3, ρ3, m3, q3⟩ := q2 v ρ2 H2 n2 R2 rv
    unfold slenop at q3
    cases dx <;> first | exact q3.elim | skip
    rename_i n
    simp only at q3
    split at q3
    · rename_i ds hds
      obtain ⟨n', ds', a, L, ks, en, hds', rfl, ha', h1, h2, h3, h4⟩ := sett_rel m3.rel m3.rv (by simp only [isSet, hds])
      cases en
      rw [hds] at hds'
      cases hds'
      have ln : L.length = ds.length := by
        have := h4.length_eq
        rw [List.length_map, keysT_len h3] at this
        exact this
      refine .inl ⟨a, L, rfl, by rw [g.prog, g.w]; exact h1, ?_⟩
      rw [ln]
      exact q3 _ ρ3 H2 .refl m3.rel (rv_int.mpr rfl)
    · rename_i kvs hd
      obtain ⟨a, rfl, ha⟩ := rv_ref.mp m3.rv
      obtain ⟨ks, h1, h2⟩ := m3.rel.obj _ _ a hd ha
      refine .inr ⟨a, ks, rfl, h1, ?_⟩
      rw [rks_lenD h2]
      exact q3 (.int kvs.length) ρ3 H2 .refl m3.rel (rv_int.mpr rfl)
    · exact q3.elim
end
end Mi

set_option linter.all false
set_option maxRecDepth 100000
/-! Types of values; what is walked; targets. -/
namespace Mi
open PySem L2 PyProof.Rows

section
variable {G : Glob} {X : Cx} {N : List Str} {sc : Scope} {W : WX} {k : Nat}

def rTyD (G : Glob) : List V → Hp → VK → Prop := fun xs H Q => ∃ x ρ st d u, xs = [x] ∧ Rel G ρ H st ∧ RV G.K ρ H x d ∧ tyNameS st d = some u ∧ Q (.ty u) H
theorem call_typeD (hK : X.K = G.K) : CallR X (.type "type") (rTyD G) := by
  intro pins s σ H xs us Q I r h
  obtain ⟨x, ρ, st, d, u, rfl, R, hx, e, q⟩ := h
  obtain ⟨v, rfl, rx⟩ := vals1 r
  have fin : ∀ T, u = T → EP X pins σ Q (.type T) s := fun T z => ⟨.ty T, H, I, rfl, by rw [← z]; exact q⟩
  cases d with
  | non => rw [rv_non] at hx; subst hx; cases e; cases (show v = Value.none from rx); exact call_type_of (Tx := "NoneType") rfl (by decide +kernel) (fin _ rfl)
  | bl b => rw [rv_bl] at hx; subst hx; cases e; cases (show v = Value.bool b from rx); exact call_type_of (Tx := "bool") rfl (by decide +kernel) (fin _ rfl)
  | int i => rw [rv_int] at hx; subst hx; cases e; obtain ⟨t, rfl⟩ := (show ∃ t, v = Value.int i t from rx); exact call_type_of (Tx := "int") rfl (by decide +kernel) (fin _ rfl)
  | str z => rw [rv_str] at hx; subst hx; cases e; obtain ⟨t, rfl⟩ := (show ∃ t, v = Value.str z t from rx); exact call_type_of (Tx := "str") rfl (by decide +kernel) (fin _ rfl)
  | tup ds =>
    obtain ⟨a, vs, rfl, t, r1⟩ := rv_tup.mp hx
    cases e
    cases (show v = Value.ref a from rx)
    rw [← hK] at t
    obtain ⟨its, _, ⟨ob, h1, h2, _⟩, _⟩ := I.tuple t
    exact call_type_of (Tx := "tuple") ⟨ob, h1, h2⟩ (by decide +kernel) (fin _ rfl)
  | fl ds => cases e
  | ref n =>
    obtain ⟨a, rfl, ha⟩ := rv_ref.mp hx
    cases (show v = Value.ref a from rx)
    simp only [tyNameS] at e
    split at e
    · rename_i ds hd
      cases e
      obtain ⟨vs, h1, r1⟩ := R.lstAt ha hd
      obtain ⟨its, _, p, _⟩ := I.list (SqL.of h1)
      obtain ⟨ob, h1, h2, _⟩ := p.isList
      exact call_type_of (Tx := "list") ⟨ob, h1, h2⟩ (by decide +kernel) (fin _ rfl)
    · cases e
theorem str_inj {a b : String} (ha : a = "NoneType" ∨ a = "bool" ∨ a = "int" ∨ a = "str" ∨ a = "tuple" ∨ a = "list") (hb : b = "int" ∨ b = "bool" ∨ b = "str" ∨ b = "tuple" ∨ b = "list") : decide ((b : Str) = (a : Str)) = decide (a = b) := by
  rcases ha with rfl | rfl | rfl | rfl | rfl | rfl <;> rcases hb with rfl | rfl | rfl | rfl | rfl <;> decide
theorem tyName_cases {st : Store} {d : D} {u : String} (e : tyNameS st d = some u) : u = "NoneType" ∨ u = "bool" ∨ u = "int" ∨ u = "str" ∨ u = "tuple" ∨ u = "list" := by
  cases d with
  | non => cases e; simp
  | bl b => cases e; simp
  | int b => cases e; simp
  | str b => cases e; simp
  | tup b => cases e; simp
  | fl b => cases e
  | ref n =>
    simp only [tyNameS] at e
    split at e
    · cases e; simp
    · cases e
theorem ty_run {n : Bool} {f : Env → Store → Res} {T : String} (hT : T = "int" ∨ T = "bool" ∨ T = "str" ∨ T = "tuple" ∨ T = "list") {σ : L2.St} {H : Hp} {Q : VK} (q : tE G W (tyIsF n f T) σ H Q) :
    tCB (rTyD G) (tA G W fun env st => (f env st).bindL fun d st => (ResL.ok [] st).bindL fun ds st => .ok (d :: ds) st) σ H (fun x H1 => ∃ u : String, x = .ty u ∧ Q (.bl (if n then !decide (u = T) else decide (u = T))) H1) := by
  obtain ⟨ρ, env, st, R, E, q⟩ := q
  refine ⟨ρ, env, st, R, E, ?_⟩
  unfold tyIsF at q
  cases hf : f env st with
  | ok d st1 =>
    simp only [hf, Res.bind_ok, Res.bindL_ok, ResL.bindL_ok] at q ⊢
    intro vs ρ1 H1 n1 R1 r1
    obtain ⟨x, rfl, hx⟩ := rvs_1.mp r1
    have q := PQ.at_ n1 q
    cases hu : tyNameS st1 d with
    | none => rw [hu] at q; exact q.elim
    | some u =>
      rw [hu] at q
      refine ⟨x, ρ1, st1, d, u, rfl, R1, hx, hu, u, rfl, ?_⟩
      have := q _ ρ1 H1 .refl R1 (rv_bl.mpr rfl)
      rw [str_inj (tyName_cases hu) hT] at this
      exact this
  | exc c st1 => simp only [hf, Res.bind_exc, Res.bindL_exc] at q ⊢; exact q
  | bad => simp only [hf, Res.bind_bad] at q; exact q.elim
theorem ty_bl {n : Bool} {f : Env → Store → Res} {t : Str} {env : Env} {st : Store} : ∀ d st', tyIsF n f t env st = .ok d st' → ∃ b, d = .bl b := by
  intro d st' e
  unfold tyIsF at e
  cases hf : f env st with
  | ok x s1 =>
    simp only [hf, Res.bind_ok] at e
    cases hu : tyNameS s1 x with
    | none => rw [hu] at e; cases e
    | some u => rw [hu] at e; cases e; exact ⟨_, rfl⟩
  | exc c s1 => rw [hf] at e; cases e
  | bad => rw [hf] at e; cases e
theorem pe_tyCall (g : GoodX G X N sc W k) (hp : Plain G) {a : Expr} {f : Env → Store → Res} {p q : Pos} (hg : gloS sc ("type" : Str) = true) (ok : okE a = true) (ha : PE X a (tE G W f)) :
    PE X (.Call (.Name "type" p) [a] [] q) (tCB (rTyD G) (tA G W fun env st => (f env st).bindL fun d st => (ResL.ok [] st).bindL fun ds st => .ok (d :: ds) st)) :=
  pe_callTy (call_typeD g.K) (g.glo _ hg) (by rw [g.mg]; exact hp.type) (by decide +kernel) (s_cons ok ha s_nil) (by decide) (by decide) (okE_star ok) rfl
theorem s_typeIs (g : GoodX G X N sc W k) (hp : Plain G) {n : Bool} {a : Expr} {f : Env → Store → Res} {t : Str} {o : CmpOp} {p q p' pos : Pos} (ho : o = if n then .IsNot else .Is) (hg : gloS sc ("type" : Str) = true) (ht : tyOk t = true) (h1 : gloS sc t = true) (ok : okE a = true) (ha : PE X a (tE G W f)) :
    PE X (.Compare (.Call (.Name "type" p) [a] [] q) [o] [.Name t p'] pos) (tE G W (tyIsF n f t)) := by
  obtain ⟨T, rfl, hT, hty⟩ := pe_ty (p := p') g hp ht h1
  have h1 := pe_tyCall (p := p) (q := q) g hp hg ok ha
  cases n with
  | false =>
    subst ho
    refine (pe_cmpR op_isTy h1 hty (nomark _)).weak fun σ H Q q => ?_
    obtain ⟨ρ, env, st, R, E, q⟩ := ty_run hT q
    exact ⟨ρ, env, st, R, E, q.imp fun vs H1 ⟨x, ρ1, st1, d, u, e1, e2, e3, e4, u', e5, q'⟩ => ⟨x, ρ1, st1, d, u, e1, e2, e3, e4, u', T, e5, rfl, q'⟩⟩
  | true =>
    subst ho
    refine (pe_cmpR op_isNotTy h1 hty (nomark _)).weak fun σ H Q q => ?_
    obtain ⟨ρ, env, st, R, E, q⟩ := ty_run hT q
    exact ⟨ρ, env, st, R, E, q.imp fun vs H1 ⟨x, ρ1, st1, d, u, e1, e2, e3, e4, u', e5, q'⟩ => ⟨x, ρ1, st1, d, u, e1, e2, e3, e4, u', T, e5, rfl, q'⟩⟩
theorem s_typeIsT (g : GoodX G X N sc W k) (hp : Plain G) {n : Bool} {a : Expr} {f : Env → Store → Res} {t : Str} {o : CmpOp} {p q p' pos : Pos} (ho : o = if n then .IsNot else .Is) (hg : gloS sc ("type" : Str) = true) (ht : tyOk t = true) (h1 : gloS sc t = true) (ok : okE a = true) (ha : PE X a (tE G W f)) :
    PT X (.Compare (.Call (.Name "type" p) [a] [] q) [o] [.Name t p'] pos) (tT G W (tyIsF n f t)) := by
  obtain ⟨T, rfl, hT, hty⟩ := pe_ty (p := p') g hp ht h1
  have h1 := pe_tyCall (p := p) (q := q) g hp hg ok ha
  have mk : ∀ {σ H} {Q : Bool → Hp → Prop}, tT G W (tyIsF n f T) σ H Q → tE G W (tyIsF n f T) σ H (fun z H3 => ∃ k, z = .bl k ∧ Q k H3) := fun ⟨ρ, env, st, R, E, q⟩ => ⟨ρ, env, st, R, E, bl_only (P := True) ty_bl q⟩
  cases n with
  | false =>
    subst ho
    refine (pt_cmpR op_isTy h1 hty (nomark _)).weak fun σ H Q q => ?_
    obtain ⟨ρ, env, st, R, E, q⟩ := ty_run hT (mk q)
    exact ⟨ρ, env, st, R, E, q.imp fun vs H1 ⟨x, ρ1, st1, d, u, e1, e2, e3, e4, u', e5, q'⟩ => ⟨x, ρ1, st1, d, u, e1, e2, e3, e4, u', T, e5, rfl, q'⟩⟩
  | true =>
    subst ho
    refine (pt_cmpR op_isNotTy h1 hty (nomark _)).weak fun σ H Q q => ?_
    obtain ⟨ρ, env, st, R, E, q⟩ := ty_run hT (mk q)
    exact ⟨ρ, env, st, R, E, q.imp fun vs H1 ⟨x, ρ1, st1, d, u, e1, e2, e3, e4, u', e5, q'⟩ => ⟨x, ρ1, st1, d, u, e1, e2, e3, e4, u', T, e5, rfl, q'⟩⟩

/-! isinstance -/
theorem tyX_of {ρ : List Addr} {H : Hp} {st : Store} {v : V} {d : D} {u : String} (R : Rel G ρ H st) (h : RV G.K ρ H v d) (e : tyNameS st d = some u) : TyX G.K H v (.type u) := by
  cases d with
  | non => rw [rv_non] at h; subst h; cases e; exact .base .non
  | bl b => rw [rv_bl] at h; subst h; cases e; exact .base (.bl b)
  | int b => rw [rv_int] at h; subst h; cases e; exact .base (.int b)
  | str b => rw [rv_str] at h; subst h; cases e; exact .base (.str b)
  | tup ds =>
    obtain ⟨a, vs, rfl, t, r⟩ := rv_tup.mp h
    cases e
    rcases t with (t | ⟨o, t⟩) | ⟨o, its, n, h1, h2, _⟩
    · exact .base (.tup t)
    · exact .fTuple t
    · exact .kTuple h1 h2
  | fl ds => cases e
  | ref n =>
    obtain ⟨a, rfl, ha⟩ := rv_ref.mp h
    simp only [tyNameS] at e
    split at e
    · rename_i ds hd
      cases e
      obtain ⟨vs, h1, r1⟩ := R.lstAt ha hd
      exact .base (.lst h1)
    · cases e
theorem kit_all {K : PySem.W.Frag} {u T : String} (hu : u = "NoneType" ∨ u = "bool" ∨ u = "int" ∨ u = "str" ∨ u = "tuple" ∨ u = "list") (hT : T = "int" ∨ T = "bool" ∨ T = "str" ∨ T = "tuple" ∨ T = "list") :
    PySem.W.kitOne K (.type u) (.type T) = some (decide ((T : Str) = u) || (u == "bool" && decide ((T : Str) = ("int" : String)))) := by
  rcases hu with rfl | rfl | rfl | rfl | rfl | rfl <;> rcases hT with rfl | rfl | rfl | rfl | rfl <;> exact kit_ty (by decide +kernel)
theorem s_isin (g : GoodX G X N sc W k) (hp : Plain G) {a : Expr} {f : Env → Store → Res} {t : Str} {p q p' : Pos} (hg : gloS sc ("isinstance" : Str) = true) (ht : tyOk t = true) (h1 : gloS sc t = true) (ok : okE a = true) (ha : PE X a (tE G W f)) :
    PE X (.Call (.Name "isinstance" p) [a, .Name t p'] [] q) (tE G W (isinF f t)) := by
  obtain ⟨T, rfl, hT, hty⟩ := pe_ty (p := p') g hp ht h1
  have hm : X.mg "isinstance" = none := by rw [g.mg]; exact hp.isinst
  refine (pe_callB call_isi (g.glo _ hg) hm (by decide +kernel) (pa_cons ha (pa_cons hty pa_nil rfl) (okE_star ok)) (by decide) (by decide) (okE_star ok) rfl).weak fun σ H Q ⟨ρ, env, st, R, E, q⟩ => ⟨ρ, env, st, R, E, ?_⟩
  refine (PQ.bind q).imp fun x H1 ⟨d, st1, ρ1, m, q1⟩ => ?_
  cases hu : tyNameS st1 d with
  | none => rw [hu] at q1; exact q1.elim
  | some u =>
    rw [hu] at q1
    exact ⟨x, .ty T, .type u, .type T, _, rfl, .ty T, by rw [g.K]; exact tyX_of m.rel m.rv hu, kit_all (tyName_cases hu) hT, q1 _ ρ1 H1 .refl m.rel (rv_bl.mpr rfl)⟩
end
end Mi

set_option linter.all false
set_option maxRecDepth 100000
/-! What is walked; what a loop assigns to; comprehensions. -/
namespace Mi
open PySem L2 PyProof.Rows

/-- an iterator over these items, while the guard holds -/
structure Trip (G : Glob) (ρ₀ : List Addr) (H₀ : Hp) (items : List D) (gd : Option (Nat × List D)) (J : It) : Prop where
  go : ∀ (i : Nat) (ρ : List Addr) (H : Hp) (st : Store), Nx ρ₀ H₀ ρ H → Rel G ρ H st → gdOk gd st → i < items.length → J.go i H
  stop : ∀ (i : Nat) (ρ : List Addr) (H : Hp) (st : Store), Nx ρ₀ H₀ ρ H → Rel G ρ H st → gdOk gd st → items.length ≤ i → J.stop i H
  yld : ∀ (i : Nat) (ρ : List Addr) (H : Hp) (st : Store) (x : V) (H' : Hp) (d : D), Nx ρ₀ H₀ ρ H → Rel G ρ H st → gdOk gd st → items[i]? = some d → J.yld i H x H' → ∃ ρ', Nx ρ H ρ' H' ∧ Rel G ρ' H' st ∧ RV G.K ρ' H' x d

def PIQ (G : Glob) (W : WX) (σ : L2.St) (ρ : List Addr) (H : Hp) (R : It → Hp → Prop) : ItR → Prop
  | .ok items gd st => ∀ ρ' H' J, Nx ρ H ρ' H' → Rel G ρ' H' st → Trip G ρ' H' items gd J → R J H'
  | .exc c st => ∀ ρ' H', Nx ρ H ρ' H' → Rel G ρ' H' st → W (.ref (G.cls c)) none σ H'
  | .bad => False
def tI (G : Glob) (W : WX) (f : Env → Store → ItR) : TI := fun σ H R => ∃ ρ env st, Rel G ρ H st ∧ REnv G.K ρ H σ env ∧ PIQ G W σ ρ H R (f env st)
theorem _root_.L2.PI.weak {X : Cx} {tg e : Expr} {t t' : TI} (h : PI X tg e t) (w : ∀ σ H R, t' σ H R → t σ H R) : PI X tg e t' := ⟨fun pins s σ H R I q => h.run pins s σ H R I (w σ H R q)⟩
theorem _root_.L2.PI.none {X : Cx} {tg e : Expr} {t : TI} (w : ∀ σ H R, ¬ t σ H R) : PI X tg e t := ⟨fun pins s σ H R I q => absurd q (w σ H R)⟩

section
variable {G : Glob} {X : Cx} {N : List Str} {sc : Scope} {W : WX} {k : Nat}

theorem trip_tup {ρ₀ : List Addr} {H₀ : Hp} {a : Addr} {vs : List V} {ds : List D} (t : SqT G.K H₀ a vs) (r : RVs G.K ρ₀ H₀ vs ds) : Trip G ρ₀ H₀ ds none (Itt G.K a) := by
  have get : ∀ {i : Nat} {d : D} {ρ H}, Nx ρ₀ H₀ ρ H → ds[i]? = some d → ∃ v, vs[i]? = some v ∧ RV G.K ρ H v d := fun n e =>
    let ⟨v, h1, h2⟩ := r.get e
    ⟨v, h1, RV.mono n _ h2⟩
  refine ⟨fun i ρ H st n R g hi => ?_, fun i ρ H st n R g hi => ⟨vs, n.sqT t, by rw [r.length]; exact hi⟩, fun i ρ H st x H' d n R g e y => ?_⟩
  · obtain ⟨v, h1, _⟩ := get n (show ds[i]? = some ds[i] by simp [hi])
    exact ⟨vs, v, n.sqT t, h1⟩
  · obtain ⟨rfl, y⟩ := y
    obtain ⟨v, h1, h2⟩ := get n e
    have := y vs (n.sqT t)
    rw [h1] at this; cases this
    exact ⟨ρ, .refl, R, h2⟩
theorem trip_fl {ρ₀ : List Addr} {H₀ : Hp} {a : Addr} {vs : List V} {ds : List D} (t : FqL G.K H₀ a vs) (r : RVs G.K ρ₀ H₀ vs ds) : Trip G ρ₀ H₀ ds none (Itl G.K a) := by
  have get : ∀ {i : Nat} {d : D} {ρ H}, Nx ρ₀ H₀ ρ H → ds[i]? = some d → ∃ v, vs[i]? = some v ∧ RV G.K ρ H v d := fun n e =>
    let ⟨v, h1, h2⟩ := r.get e
    ⟨v, h1, RV.mono n _ h2⟩
  refine ⟨fun i ρ H st n R g hi => ?_, fun i ρ H st n R g hi => ⟨vs, (n.fqL t).sq, by rw [r.length]; exact hi⟩, fun i ρ H st x H' d n R g e y => ?_⟩
  · obtain ⟨v, h1, _⟩ := get n (show ds[i]? = some ds[i] by simp [hi])
    exact ⟨vs, v, (n.fqL t).sq, h1⟩
  · obtain ⟨rfl, y⟩ := y
    obtain ⟨v, h1, h2⟩ := get n e
    have := y vs (n.fqL t).sq
    rw [h1] at this; cases this
    exact ⟨ρ, .refl, R, h2⟩
theorem trip_ref {ρ₀ : List Addr} {H₀ : Hp} {a : Addr} {n : Nat} {ds : List D} (ha : ρ₀[n]? = some a) : Trip G ρ₀ H₀ ds (some (n, ds)) (Itl G.K a) := by
  refine ⟨fun i ρ H st nx R g hi => ?_, fun i ρ H st nx R g hi => ?_, fun i ρ H st x H' d nx R g e y => ?_⟩
  · obtain ⟨vs, h1, r⟩ := R.lstAt (nx.at_ ha) g
    obtain ⟨v, h2, _⟩ := r.get (show ds[i]? = some ds[i] by simp [hi])
    exact ⟨vs, v, SqL.of h1, h2⟩
  · obtain ⟨vs, h1, r⟩ := R.lstAt (nx.at_ ha) g
    exact ⟨vs, SqL.of h1, by rw [r.length]; exact hi⟩
  · obtain ⟨rfl, y⟩ := y
    obtain ⟨vs, h1, r⟩ := R.lstAt (nx.at_ ha) g
    obtain ⟨v, h2, h3⟩ := r.get e
    have := y vs (SqL.of h1)
    rw [h2] at this; cases this
    exact ⟨ρ, .refl, R, h3⟩
theorem trip_str {ρ₀ : List Addr} {H₀ : Hp} (z : Str) : Trip G ρ₀ H₀ (z.cps.toList.map fun c => .str ⟨#[c]⟩) none (Its z) := by
  have hl : (z.cps.toList.map fun c => D.str ⟨#[c]⟩).length = z.cps.size := by simp
  refine ⟨fun i ρ H st nx R g hi => by rw [hl] at hi; exact hi, fun i ρ H st nx R g hi => by rw [hl] at hi; exact hi, fun i ρ H st x H' d nx R g e y => ?_⟩
  obtain ⟨rfl, c, hc, rfl⟩ := y
  rw [List.getElem?_map, Array.getElem?_toList, hc] at e
  cases e
  exact ⟨ρ, .refl, R, rv_str.mpr rfl⟩
theorem trip_rng {ρ₀ : List Addr} {H₀ : Hp} (lo hi : Int) : Trip G ρ₀ H₀ (rangeD lo hi) none (Itr lo (hi - lo).toNat) := by
  have hl : (rangeD lo hi).length = (hi - lo).toNat := by simp [rangeD]
  refine ⟨fun i ρ H st nx R g hi => by rw [hl] at hi; exact hi, fun i ρ H st nx R g hi => by rw [hl] at hi; exact hi, fun i ρ H st x H' d nx R g e y => ?_⟩
  obtain ⟨rfl, rfl⟩ := y
  unfold rangeD at e
  rw [List.getElem?_map] at e
  cases h : (List.range (hi - lo).toNat)[i]? with
  | none => rw [h] at e; cases e
  | some j =>
    rw [h] at e; cases e
    obtain ⟨h1, h2⟩ := List.getElem?_eq_some_iff.mp h
    simp at h2; subst h2
    exact ⟨ρ, .refl, R, rv_int.mpr rfl⟩

/-- the iterator of any value that the small language walks -/
def anyF (f : Env → Store → Res) : Env → Store → ItR := fun env st => match f env st with
  | .ok d st => (match itemsOf st d with
    | some (xs, gd) => .ok xs gd st
    | none => .bad)
  | .exc c st => .exc c st
  | .bad => .bad
theorem s_any (g : GoodX G X N sc W k) {tg e : Expr} {f : Env → Store → Res} (he : PE X e (tE G W f)) : PI X tg e (tI G W (anyF f)) := by
  refine ⟨fun pins s σ H R I ⟨ρ, env, st, Rl, E, q⟩ => ?_⟩
  have key : PQ G W σ ρ H (fun v H1 => ∃ d st1 ρ1 items gd, Mid G ρ H v H1 d st1 ρ1 ∧ itemsOf st1 d = some (items, gd) ∧ ∀ ρ' H' J, Nx ρ1 H1 ρ' H' → Rel G ρ' H' st1 → Trip G ρ' H' items gd J → R J H') (f env st) := by
    unfold anyF at q
    cases hf : f env st with
    | ok d st1 =>
      simp only [hf] at q
      intro v ρ1 H1 n1 R1 r1
      cases hi : itemsOf st1 d with
      | none => rw [hi] at q; exact q.elim
      | some p =>
        obtain ⟨items, gd⟩ := p
        rw [hi] at q
        exact ⟨d, st1, ρ1, items, gd, ⟨n1, R1, r1⟩, hi, fun ρ' H' J n' => q ρ' H' J (n1.trans n')⟩
    | exc c st1 => simp only [hf] at q; exact q
    | bad => simp only [hf] at q; exact q
  refine thn (he.run pins s σ H _ I ⟨ρ, env, st, Rl, E, key⟩) fun u s1 ⟨x, H1, I1, r1, d, st1, ρ1, items, gd, m, hi, q1⟩ => ?_
  have walkL : ∀ {a : Addr} {vs : List V}, u = .ref a → SqL X.K H1 a vs → Trip G ρ1 H1 items gd (Itl G.K a) → wpAny (model X.prog X.w) X.A (pyIter u) (PIE X pins σ tg R) X.xe s1 := by
    rintro a vs rfl hq t
    obtain ⟨its, rv, p, hz⟩ := I1.list hq
    refine wpAny_pyIter_list p.isList ?_
    refine ⟨s1.heap.objs.size, [s1.heap.objs.size], _, Itl X.K a, H1, rfl, I1.kept (t' := s1.toks) fun b o e => Heap.get?_push_of_some _ e, turn_list a _, ⟨_, Heap.get?_push_size _ rfl, rfl, rfl⟩, fun b hb => ?_, ?_⟩
    · obtain rfl : b = s1.heap.objs.size := by simpa using hb
      exact I1.fpOk (Nat.le_refl _) (I1.hok.fresh (Nat.le_refl _))
    · rw [g.K]; exact q1 ρ1 H1 _ .refl m.rel t
  cases d with
  | tup ds =>
    obtain ⟨a, vs, rfl, t, r⟩ := rv_tup.mp m.rv
    cases hi
    cases (show u = Value.ref a from r1)
    have t' : SqT X.K H1 a vs := by rw [g.K]; exact t
    obtain ⟨its, rv, p, hz⟩ := I1.tuple t'
    refine wpAny_pyIter_tuple (show s1.heap.IsTuple a its.toArray from p) ?_
    refine ⟨s1.heap.objs.size, [s1.heap.objs.size], _, Itt X.K a, H1, rfl, I1.kept (t' := s1.toks) fun b o e => Heap.get?_push_of_some _ e, turn_tuple a _, ⟨_, Heap.get?_push_size _ rfl, rfl, rfl⟩, fun b hb => ?_, ?_⟩
    · obtain rfl : b = s1.heap.objs.size := by simpa using hb
      exact I1.fpOk (Nat.le_refl _) (I1.hok.fresh (Nat.le_refl _))
    · rw [g.K]
      exact q1 ρ1 H1 _ .refl m.rel (trip_tup t r)
  | fl ds =>
    obtain ⟨a, vs, rfl, t, r⟩ := rv_fl.mp m.rv
    cases hi
    exact walkL (show u = Value.ref a from r1) (by rw [g.K]; exact t.sq) (trip_fl t r)
  | str z =>
    have e := rv_str.mp m.rv
    subst e
    cases hi
    obtain ⟨t, rfl⟩ := r1
    cases ha : z.cps.all (· < 128)
    · exact wpAny_pyIter_wide ha (pi_one (tk := s1.toks) I1 _ (turn_str _ z t "str_iterator" (.inr rfl)) ⟨_, Heap.get?_push_size _ rfl, rfl, rfl⟩ (q1 ρ1 H1 _ .refl m.rel (trip_str z)))
    · exact wpAny_pyIter_ascii ha (pi_one (tk := s1.toks) I1 _ (turn_str _ z t "str_ascii_iterator" (.inl rfl)) ⟨_, Heap.get?_push_size _ rfl, rfl, rfl⟩ (q1 ρ1 H1 _ .refl m.rel (trip_str z)))
  | ref n =>
    obtain ⟨a, rfl, ha⟩ := rv_ref.mp m.rv
    simp only [itemsOf] at hi
    split at hi
    · rename_i xs hx
      cases hi
      obtain ⟨vs, h1, r⟩ := m.rel.lstAt ha hx
      exact walkL (show u = Value.ref a from r1) (SqL.of h1) (trip_ref ha)
    · cases hi
  | non => cases hi
  | bl _ => cases hi
  | int _ => cases hi

/-! ranges -/
noncomputable def rng1F (f : Env → Store → Res) : Env → Store → ItR := fun env st => match f env st with
  | .ok (.int j) st => if small62 j then .ok (rangeD 0 j) none st else .bad
  | .exc c st => .exc c st
  | _ => .bad
noncomputable def rng2F (f h : Env → Store → Res) : Env → Store → ItR := fun env st => match f env st with
  | .ok (.int i) st => (match h env st with
    | .ok (.int j) st => if small62 i ∧ small62 j then .ok (rangeD i j) none st else .bad
    | .exc c st => .exc c st
    | _ => .bad)
  | .exc c st => .exc c st
  | _ => .bad
end
end Mi

set_option linter.all false
set_option maxRecDepth 100000
set_option maxHeartbeats 1000000
/-! enumerate of tuples, from any number on. -/
namespace Mi
open PySem L2 PyProof.Rows PySem.Spec

/-- the tuple at a, each item in a new pair, counted from lo -/
def ItE (K : PySem.W.Frag) (a : Addr) (lo : Int) : It :=
  ⟨fun i H => ∃ xs x, SqT K H a xs ∧ xs[i]? = some x, fun i H v H' => ∃ T x, v = .ref T ∧ H T = none ∧ H' = upd H T (.tup [.int (lo + (i : Nat)), x]) ∧ ∀ xs, SqT K H a xs → xs[i]? = some x, fun i H => ∃ xs, SqT K H a xs ∧ xs.length ≤ i⟩
theorem enT_end {P : Program} {w : World} {A : Around} {E : Value → Shared → Prop} {s : Shared} {e it t : Addr} {i : Nat} {c : Int} {items : Array Value} {old : Value} {Q : Option Value → Shared → Prop} (hh : A.handled = none) (he : IsEnum s.heap e it c old)
    (hit : s.heap.IsTupleIter it t i) (ht : s.heap.IsTuple t items) (hx : items[i]? = none) (hQ : ∀ h', Heap.ExtBut it s.heap h' → Q none { s with heap := h' }) : wpAny (model P w) A (pyNext (.ref e)) Q E s := by
  have ty : s.TypeIs (.ref e) "enumerate" := ⟨_, he, rfl⟩
  unfold pyNext
  refine wpAny_bind (wpAny_attempt (wpAny_callSpecial?_slot (name := Str.ofString "__next__") ty F.slot_enumerate_next (wpAny_call_entry F.slot_enumerate_next ty F.entry_enumerate_next ?_ (F.args_enumerate_next_1 _))))
  show wpAny _ _ (field (.ref e) 2 >>= _) _ _ s
  refine wpAny_bind (wpAny_field he rfl (x := .ref it) rfl (wpAny_bind (wpAny_nextOf_tuple_end (A := A.in1) hh hit ht hx fun h' x he' ⟨o, ho, hc⟩ => ?_)))
  exact wpAny_bind (wpAny_isInstance (T := "StopIteration") (b := true) ⟨o, ho, hc⟩ isSubtype_stop (wpAny_pure (hQ _ he')))
theorem turn_enT {P : Program} {w : World} {K : PySem.W.Frag} {elts : List Expr} {kk : Nat} {tpos : Pos} (a e it : Addr) (lo : Int) :
    Turn P w K (.Tuple elts kk tpos) (ItE K a lo) [e, it] e (fun i h => (∃ old, IsEnum h e it (lo + ((i : Nat) : Int)) old) ∧ h.IsTupleIter it a i ∧ e ≠ it) where
  mem := by simp
  obj := fun i h st b hb => by
    obtain ⟨⟨old, he⟩, ⟨o, ho, hc, hd⟩, _⟩ := st
    rcases List.mem_cons.mp hb with rfl | hb
    · exact ⟨_, he, fun v q => nomatch q⟩
    · rw [List.mem_singleton.mp hb]; exact ⟨o, ho, fun v q => by rw [hd] at q; cases q⟩
  keep := fun i h h' ⟨⟨old, he⟩, hi, hne⟩ k => ⟨⟨old, k e (by simp) _ he⟩, hi.at fun o q => k it (by simp) o q, hne⟩
  item := by
    rintro X rfl rfl rfl hc i pins s σ H E I hf ⟨⟨old, he⟩, hit, hne⟩ ⟨xs, x, hq, hx⟩
    obtain ⟨its, rv, p, hz⟩ := I.tuple hq
    obtain ⟨u, hu, ru⟩ := rv.get hx
    have hil : i < its.toArray.size := by rw [List.size_toArray]; exact (List.getElem?_eq_some_iff.mp hu).1
    have ae : a ≠ e := by
      rintro rfl
      obtain ⟨o, ho, hcl, _⟩ := p
      have := ho.symm.trans he
      cases this
      exact absurd (show Value.type "enumerate" = Value.type "tuple" from hcl) (by decide)
    have ai : a ≠ it := by
      rintro rfl
      obtain ⟨o, ho, hcl, _⟩ := p
      obtain ⟨o', ho', hcl', _⟩ := hit
      rw [ho] at ho'
      cases ho'
      rw [hcl] at hcl'
      exact absurd hcl' (by decide)
    have hel : e < s.heap.objs.size := Heap.lt_size he
    have hil2 : it < s.heap.objs.size := by obtain ⟨_, q, _⟩ := hit; exact Heap.lt_size q
    refine wpAny_pyNext_enum_itemC (Draws.tuple (prog := X.prog) (w := X.w) (A := X.A.in1) (I.ok.hd hc) it a ai its.toArray) he ⟨hit, p⟩ hil hne (by simp [hne, Ne.symm ae]) fun z h' tk hz' ho st' hT hsz hk => ?_
    have ez : z = u := by
      have h2 : its.toArray[i]? = some u := by simpa using hu
      have := hz'
      rw [h2] at this
      exact (Option.some.inj this).symm
    subst ez
    refine ⟨_, rfl, wpAny_letOwnedTupleGo_enum (s := { s with heap := h', toks := tk + 1 }) ho fun h'' he' sb => ?_⟩
    have hT2 : h''.get? s.heap.objs.size = some { cls := .type "tuple", data := .seq #[.int (lo + ((i : Nat) : Int)) tk, z] } := (sb.2 _ (Nat.ne_of_gt hel)).trans hT
    have new : ObjOk X.prog X.w (upd H s.heap.objs.size (.tup [.int (lo + (i : Nat)), x])) h'' s.heap.objs.size (.tup [.int (lo + (i : Nat)), x]) :=
      ⟨by show 2 ≤ sizeLine; decide, [.int (lo + ((i : Nat) : Int)) tk, z], .cons ⟨_, rfl⟩ (.cons ru .nil), ⟨_, hT2, rfl, _, rfl⟩⟩
    have I1 : Inv X pins σ (upd H s.heap.objs.size (.tup [.int (lo + (i : Nat)), x])) { s with heap := h'', toks := tk + 1 } :=
      I.turnedNew (ch := [e, it]) (fun b ob hb q => (sb.2 b (fun z => hb (by simp [z]))).trans (hk b ob (fun z => hb (by simp [z])) (fun z => hb (by simp [z])) q)) hf (Nat.le_refl _) new
    refine ⟨.ref s.heap.objs.size, _, I1, rfl, ⟨_, x, rfl, I.hok.fresh (Nat.le_refl _), rfl, fun ys hy => by rw [I.tuple_inj hy hq]; exact hx⟩, ⟨⟨z, ?_⟩, st'.1.at fun o q => (sb.2 it (Ne.symm hne)).trans q, hne⟩, fun b hb => ?_⟩
    · have e1 : lo + ((i + 1 : Nat) : Int) = lo + (i : Int) + 1 := by omega
      rw [e1]; exact he'
    · have hb' : b < s.heap.objs.size := by
        rcases List.mem_cons.mp hb with rfl | hb
        · exact hel
        · rw [List.mem_singleton.mp hb]; exact hil2
      rw [upd_ne (Nat.ne_of_lt hb')]
      exact (hf b hb).1
  done := by
    rintro X rfl rfl rfl hc i pins s σ H E I hf ⟨⟨old, he⟩, hit, hne⟩ ⟨xs, hq, hx⟩
    obtain ⟨its, rv, p, hz⟩ := I.tuple hq
    have hl := rv.length
    obtain ⟨f0, f1, f2, f3, f4, f5⟩ := hf it (by simp)
    exact enT_end (I.ok.hd hc) he hit p (by simp; omega) fun h' eb => ⟨rfl, I.turned (t' := s.toks) (fun b o hb q => eb b o hb q) f0 f1 f3 f4 f5⟩
  self := fun A i s Q E ⟨⟨_, he⟩, _⟩ h => wpAny_pyIter_enum he h
def iEnT (K : PySem.W.Frag) (lo : Int) (ta : TA) : TI := fun σ H R => ta σ H fun vs H1 => ∃ a xs, vs = (if lo = 0 then [.ref a] else [.ref a, .int lo]) ∧ SqT K H1 a xs ∧ R (ItE K a lo) H1
end Mi

set_option linter.all false
set_option maxRecDepth 100000
set_option maxHeartbeats 1000000
/-! enumerate(tuple), enumerate(tuple, start=k): in a loop's or a comprehension's head. -/
namespace Mi
open PySem L2 PyProof.Rows PySem.Spec
section
variable {M : Model} {A : Around} {E : Value → Shared → Prop} {s : Shared}
theorem cw_type_kw {pos : Pos} {T : String} {args : List (Bool × Sem Value)} {kws : List (Option Str × Sem Value)} {Q : Value → Shared → Prop} (hplain : args.any (·.1) = false) (hkw : kws.any (·.1.isNone) = false)
    (h : wpAny M A (evalArgs (.type T) true args kws) (fun a s₁ => wpAny M A (call (.type T) a.pos a.kw) Q E s₁) E s) : wpAny M A (callWith pos (.type T) [] args kws) Q E s := by
  unfold callWith
  refine wpAny_bind (wpAny_holding (wpAny_mono h (fun a s₁ h₁ => wpAny_bind (wpAny_standAt ?_)) fun _ _ x => x))
  simp only [hplain, hkw, Bool.or_false]
  refine wpAny_bind (wpAny_pure ?_)
  exact wpAny_bind (wpAny_mono h₁ (fun x s' hx => wpAny_bind (wpAny_holding (wpAny_point (wpAny_pure hx)))) fun _ _ z => z)
end
set_option maxHeartbeats 1000000 in
theorem new_tup {v : Value} {o : Obj} {H : Heap → Prop} (B : Begins v o H) :
    Meets (Builtin.«enumerate.__new__» ⟨[.type "enumerate", v], []⟩) (fun _ R s => H s.heap ∧ R (.ok (.ret (.ref (s.heap.push o).objs.size))) { s with heap := (s.heap.push o).push { cls := .type "enumerate", data := .fields #[.none, .bool false, .ref s.heap.objs.size, rawInt 0, .none, .none] } }) :=
  .of_wp fun prog w A R s hs => by
    obtain ⟨hp, gn, dr, tk, os⟩ := s
    obtain ⟨h1, h⟩ := hs
    have hsub := sub_enumerate
    have it : ∀ {A' : Around} {E : Value → Shared → Prop} {Q : Value → Shared → Prop}, Q (.ref hp.objs.size) ⟨hp.push o, gn, dr, tk, os⟩ → wpAny (model prog w) A' (pyIter v) Q E ⟨hp, gn, dr, tk, os⟩ := fun q => B.iter prog w _ _ ⟨hp, gn, dr, tk, os⟩ _ h1 q
    wp_walk using it
    refine wpAny_stack_any fun st => wpAny_pure ?_
    split
    · rename_i c _ _ _ _ _
      cases (c == Value.type "enumerate") <;> (wp_walk using it; exact ⟨_, rfl, h⟩)
    · wp_walk using it
      exact ⟨_, rfl, h⟩
def enmF (f : Env → Store → Res) (lo : Int) : Env → Store → ItR := fun env st => match f env st with
  | .ok (.tup xs) st => .ok (enumD lo xs) none st
  | .exc c st => .exc c st
  | _ => .bad
section
variable {G : Glob} {X : Cx} {N : List Str} {sc : Scope} {W : WX} {k : Nat}
theorem enumD_get : ∀ {xs : List D} {lo : Int} {i : Nat}, (enumD lo xs)[i]? = (xs[i]?).map fun x => .tup [.int (lo + (i : Nat)), x]
  | [], lo, i => by simp [enumD]
  | x :: xs, lo, 0 => by simp [enumD]
  | x :: xs, lo, i + 1 => by
    simp only [enumD, List.getElem?_cons_succ, enumD_get]
    have : lo + 1 + (i : Int) = lo + ((i + 1 : Nat) : Int) := by omega
    rw [this]
theorem enumD_len : ∀ {xs : List D} {lo : Int}, (enumD lo xs).length = xs.length
  | [], _ => rfl
  | x :: xs, lo => by simp [enumD, enumD_len]
theorem trip_enm {ρ₀ : List Addr} {H₀ : Hp} {a : Addr} {vs : List V} {ds : List D} {lo : Int} (t : SqT G.K H₀ a vs) (r : RVs G.K ρ₀ H₀ vs ds) : Trip G ρ₀ H₀ (enumD lo ds) none (ItE G.K a lo) := by
  have get : ∀ {i : Nat} {d : D} {ρ H}, Nx ρ₀ H₀ ρ H → ds[i]? = some d → ∃ v, vs[i]? = some v ∧ RV G.K ρ H v d := fun n e =>
    let ⟨v, h1, h2⟩ := r.get e
    ⟨v, h1, RV.mono n _ h2⟩
  refine ⟨fun i ρ H st n R g hi => ?_, fun i ρ H st n R g hi => ⟨vs, n.sqT t, by rw [enumD_len] at hi; rw [r.length]; exact hi⟩, fun i ρ H st x H' d n R g e y => ?_⟩
  · rw [enumD_len] at hi
    obtain ⟨v, h1, _⟩ := get n (show ds[i]? = some ds[i] by simp [hi])
    exact ⟨vs, v, n.sqT t, h1⟩
  · obtain ⟨T, z, rfl, hT, rfl, y⟩ := y
    rw [enumD_get] at e
    cases q : ds[i]? with
    | none => rw [q] at e; cases e
    | some c =>
      rw [q] at e
      cases e
      obtain ⟨v, h1, h2⟩ := get n q
      have := y vs (n.sqT t)
      rw [h1] at this; cases this
      have nx : Nx ρ H ρ (upd H T (.tup [.int (lo + (i : Nat)), z])) := nx_laid hT
      exact ⟨ρ, nx, R.laid hT, rv_tup.mpr ⟨T, _, rfl, SqT.of upd_same, rvs_2.mpr ⟨_, _, rfl, rv_int.mpr rfl, RV.mono nx _ h2⟩⟩⟩
theorem enm_come {elts : List Expr} {kk : Nat} {tpos : Pos} {pins : List (Addr × Obj)} {s : Shared} {σ : L2.St} {H : Hp} {R : It → Hp → Prop} {a : Addr} {lo : Int} (I : Inv X pins σ H s) (q : R (ItE X.K a lo) H) {h' : Heap} {tk : Nat}
    (he : IsEnum h' (s.heap.objs.size + 1) s.heap.objs.size lo .none) (hit : h'.get? s.heap.objs.size = some { cls := .type "tuple_iterator", data := .fields #[.ref a, .int 0 0] }) (hk : ∀ b o, s.heap.get? b = some o → h'.get? b = some o) :
    wpAny (model X.prog X.w) X.A (pyIter (.ref (s.heap.objs.size + 1))) (PIE X pins σ (.Tuple elts kk tpos) R) X.xe { s with heap := h', toks := tk } := by
  refine wpAny_pyIter_enum he ?_
  have I2 : Inv X pins σ H { s with heap := h', toks := tk } := I.kept (t' := tk) hk
  refine ⟨s.heap.objs.size + 1, [s.heap.objs.size + 1, s.heap.objs.size], _, _, H, rfl, I2, turn_enT a (s.heap.objs.size + 1) s.heap.objs.size lo, ⟨⟨.none, by simpa using he⟩, ⟨_, hit, rfl, rfl⟩, Nat.succ_ne_self _⟩, fun b hb => ?_, q⟩
  have hle : s.heap.objs.size ≤ b := by
    rcases List.mem_cons.mp hb with rfl | hb
    · omega
    · rw [List.mem_singleton.mp hb]
      exact Nat.le_refl _
  exact I.fpOk hle (I.hok.fresh hle)
theorem callE {pins : List (Addr × Obj)} {s : Shared} {σ : L2.St} {H : Hp} {a : Addr} {its : List Value} {Q : Value → Shared → Prop} (I : Inv X pins σ H s) (pt : IsTup s.heap a its.toArray)
    (h : ∀ h', IsEnum h' (s.heap.objs.size + 1) s.heap.objs.size 0 .none → h'.get? s.heap.objs.size = some { cls := .type "tuple_iterator", data := .fields #[.ref a, .int 0 0] } → (∀ b o, s.heap.get? b = some o → h'.get? b = some o) → Q (.ref (s.heap.objs.size + 1)) { s with heap := h' }) :
    wpAny (model X.prog X.w) X.A (call (.type "enumerate") [.ref a]) Q X.xe s := by
  have B := begins_tuple a its.toArray
  refine callType_new F.called_enumerate (by decide) (F.typeCall_enumerate_1 _) (F.newCall_enumerate_1 _) (fun obj => F.args_object_init_2 obj _) F.entry_enumerate_new (new_tup B) ⟨pt, ?_⟩
  generalize ho : ({ cls := .type "tuple_iterator", data := .fields #[.ref a, .int 0 0] } : Obj) = o at B h ⊢
  have hz : (s.heap.push o).objs.size = s.heap.objs.size + 1 := Heap.size_push ..
  show _ ∧ _
  rw [hz]
  have he := Heap.get?_push_size (s.heap.push o) (o := { cls := .type "enumerate", data := .fields #[.none, .bool false, .ref s.heap.objs.size, rawInt 0, .none, .none] }) rfl
  rw [hz] at he
  exact ⟨⟨_, he, rfl⟩, h _ he (Heap.get?_push_of_some _ (Heap.get?_push_size _ B.free)) fun b ob x => Heap.get?_push_of_some _ (Heap.get?_push_of_some _ x)⟩
theorem s_enm0 (g : GoodX G X N sc W k) (hm : G.mg "enumerate" = none) {elts : List Expr} {kk : Nat} {tpos : Pos} {e : Expr} {f : Env → Store → Res} {p pos : Pos} (hg : gloS sc "enumerate" = true) (oke : okE e = true) (he : PE X e (tE G W f)) :
    PI X (.Tuple elts kk tpos) (.Call (.Name "enumerate" p) [e] [] pos) (tI G W (enmF f 0)) := by
  refine ⟨fun pins s σ H R I ⟨ρ, env, st, Rl, E, q⟩ => ?_⟩
  have hst : starEach [e] X.env = [(false, eval e X.env)] := by rw [okE_star oke]; rfl
  have key : PLQ G W σ ρ H (fun vs H1 => ∃ a xs, vs = [.ref a] ∧ SqT G.K H1 a xs ∧ R (ItE G.K a 0) H1) ((f env st).bindL fun d st => (ResL.ok [] st).bindL fun ds st => .ok (d :: ds) st) := by
    unfold enmF at q
    cases hf : f env st with
    | ok d st1 =>
      rw [hf] at q
      cases d <;> first | exact q.elim | skip
      rename_i ds
      intro vs ρ1 H1 n1 R1 r1
      obtain ⟨v, rfl, rv⟩ := rvs_1.mp r1
      obtain ⟨a, us, rfl, t, r⟩ := rv_tup.mp rv
      exact ⟨a, us, rfl, t, q ρ1 H1 _ n1 R1 (trip_enm t r)⟩
    | exc c st1 => rw [hf] at q; exact q
    | bad => rw [hf] at q; exact q
  refine Call_ (ld_blt I (g.glo _ hg) (by rw [g.mg]; exact hm) boot_enumerate (PyProof.Rows.callWith_type1 (thn ((s_cons oke he s_nil).run pos pins s σ H _ I ⟨ρ, env, st, Rl, E, key⟩) fun us s1 ⟨vs, H1, I1, r1, a, xs, ex, hq, q1⟩ => ?_) hst rfl))
  subst ex
  rw [Vals.ref1 r1]
  rw [← g.K] at hq q1
  obtain ⟨its, rv, pt, hz⟩ := I1.tuple hq
  exact callE I1 pt fun h' he hit hk => enm_come (tk := s1.toks) I1 q1 he hit hk
/-- .. with a start, a written number -/
theorem s_enmK (g : GoodX G X N sc W k) (hm : G.mg "enumerate" = none) {lo : Int} (h0 : 0 ≤ lo) (h1 : lo < 1000) {elts : List Expr} {kk : Nat} {tpos : Pos} {e c : Expr} {f : Env → Store → Res} {p pos kp : Pos} {j : Nat} {cp : Pos} (ec : c = .Constant (.int lo) j cp) (hg : gloS sc "enumerate" = true) (oke : okE e = true) (he : PE X e (tE G W f)) :
    PI X (.Tuple elts kk tpos) (.Call (.Name "enumerate" p) [e] [⟨some "start", c, kp⟩] pos) (tI G W (enmF f lo)) := by
  refine ⟨fun pins s σ H R I ⟨ρ, env, st, Rl, E, q⟩ => ?_⟩
  have hst : starEach [e] X.env = [(false, eval e X.env)] := by rw [okE_star oke]; rfl
  have key : PLQ G W σ ρ H (fun vs H1 => ∃ a xs, vs = [.ref a] ∧ SqT G.K H1 a xs ∧ R (ItE G.K a lo) H1) ((f env st).bindL fun d st => (ResL.ok [] st).bindL fun ds st => .ok (d :: ds) st) := by
    unfold enmF at q
    cases hf : f env st with
    | ok d st1 =>
      rw [hf] at q
      cases d <;> first | exact q.elim | skip
      rename_i ds
      intro vs ρ1 H1 n1 R1 r1
      obtain ⟨v, rfl, rv⟩ := rvs_1.mp r1
      obtain ⟨a, us, rfl, t, r⟩ := rv_tup.mp rv
      exact ⟨a, us, rfl, t, q ρ1 H1 _ n1 R1 (trip_enm t r)⟩
    | exc c st1 => rw [hf] at q; exact q
    | bad => rw [hf] at q; exact q
  subst ec
  refine wpAny_Call_Name_kw (ld_blt I (g.glo _ hg) (by rw [g.mg]; exact hm) boot_enumerate ?_ (by decide) (by decide))
  refine cw_type_kw (by rw [hst]; rfl) rfl (PyProof.Rows.evalArgs_kw2 rfl (thn ((s_cons oke he s_nil).run pos pins s σ H _ I ⟨ρ, env, st, Rl, E, key⟩) fun us s1 ⟨vs, H1, I1, r1, a, xs, ex, hq, q1⟩ => ?_) hst)
  subst ex
  rw [Vals.ref1 r1]
  rw [← g.K] at hq q1
  obtain ⟨its, rv, pt, hz⟩ := I1.tuple hq
  have hk : PK X [⟨some "start", Expr.Constant (.int lo) j cp, kp⟩] (tCons (tC (.int lo)) tNil) := pk_cons pe_int pk_nil
  refine thn (hk.run pos pins s1 σ H1 (fun zs H2 => zs = [.int lo] ∧ H2 = H1) I1 ⟨rfl, rfl⟩) fun ws s2 ⟨zs, H2, I2, r2, ez, eh⟩ => ?_
  subst ez
  subst eh
  cases r2 with
  | cons r rr =>
    cases rr
    obtain ⟨t, rfl⟩ := r
    obtain ⟨its2, rv2, pt2, hz2⟩ := I2.tuple hq
    exact enum_begins_start (begins_tuple a its2.toArray) pt2 (by omega) (by omega) fun h' he hit hz hk => enm_come (tk := s2.toks) I2 q1 he hit hk
end
end Mi

set_option linter.all false
set_option maxRecDepth 100000
set_option maxHeartbeats 1000000
/-! zip of two tuples. -/
namespace Mi
open PySem L2 PyProof.Rows PySem.Spec
def zipF (f h : Env → Store → Res) : Env → Store → ItR := fun env st => match f env st with
  | .ok x st => (match h env st with
    | .ok y st => (match x, y with
      | .tup xs, .tup ys => .ok (zipD xs ys) none st
      | _, _ => .bad)
    | .exc c st => .exc c st
    | .bad => .bad)
  | .exc c st => .exc c st
  | .bad => .bad
section
variable {G : Glob} {X : Cx} {N : List Str} {sc : Scope} {W : WX} {k : Nat}
theorem zipD_get {xs ys : List D} {i : Nat} {d : D} (e : (zipD xs ys)[i]? = some d) : ∃ x y, xs[i]? = some x ∧ ys[i]? = some y ∧ d = .tup [x, y] := by
  unfold zipD at e
  rw [List.getElem?_map] at e
  cases q : (xs.zip ys)[i]? with
  | none => rw [q] at e; cases e
  | some p =>
    rw [q] at e
    cases e
    obtain ⟨h1, h2⟩ := List.getElem?_zip_eq_some.mp q
    exact ⟨_, _, h1, h2, rfl⟩
theorem zipD_len {xs ys : List D} : (zipD xs ys).length = min xs.length ys.length := by simp [zipD]
theorem trip_zip {ρ₀ : List Addr} {H₀ : Hp} {a b : Addr} {us vs : List V} {ds es : List D} (ta : SqT G.K H₀ a us) (tb : SqT G.K H₀ b vs) (ra : RVs G.K ρ₀ H₀ us ds) (rb : RVs G.K ρ₀ H₀ vs es) : Trip G ρ₀ H₀ (zipD ds es) none (RZ.ItzT G.K a b) := by
  have get : ∀ {i : Nat} {ds : List D} {vs : List V} {d : D} {ρ H}, RVs G.K ρ₀ H₀ vs ds → Nx ρ₀ H₀ ρ H → ds[i]? = some d → ∃ v, vs[i]? = some v ∧ RV G.K ρ H v d := fun r n e =>
    let ⟨v, h1, h2⟩ := r.get e
    ⟨v, h1, RV.mono n _ h2⟩
  have l1 := ra.length
  have l2 := rb.length
  refine ⟨fun i ρ H st n R g hi => ?_, fun i ρ H st n R g hi => ⟨us, vs, n.sqT ta, n.sqT tb, by rw [zipD_len] at hi; omega⟩, fun i ρ H st x H' d n R g e y => ?_⟩
  · obtain ⟨x, y, h1, h2, _⟩ := zipD_get (show (zipD ds es)[i]? = some (zipD ds es)[i] by simp [hi])
    obtain ⟨u, hu, _⟩ := get ra n h1
    obtain ⟨v, hv, _⟩ := get rb n h2
    exact ⟨us, vs, u, v, n.sqT ta, n.sqT tb, hu, hv⟩
  · obtain ⟨T, x', y', rfl, hT, rfl, q1, q2⟩ := y
    obtain ⟨x, y, h1, h2, rfl⟩ := zipD_get e
    obtain ⟨u, hu, ru⟩ := get ra n h1
    obtain ⟨v, hv, rv⟩ := get rb n h2
    have e1 := q1 us (n.sqT ta)
    have e2 := q2 vs (n.sqT tb)
    rw [hu] at e1
    rw [hv] at e2
    cases e1
    cases e2
    have nx : Nx ρ H ρ (upd H T (.tup [x', y'])) := nx_laid hT
    exact ⟨ρ, nx, R.laid hT, rv_tup.mpr ⟨T, _, rfl, SqT.of upd_same, rvs_2.mpr ⟨_, _, rfl, RV.mono nx _ ru, RV.mono nx _ rv⟩⟩⟩
theorem s_zip (g : GoodX G X N sc W k) (hm : G.mg "zip" = none) {elts : List Expr} {kk : Nat} {tpos : Pos} {e e2 : Expr} {f h : Env → Store → Res} {p pos : Pos} (hg : gloS sc "zip" = true) (oke : okE e = true) (oke2 : okE e2 = true) (he : PE X e (tE G W f)) (he2 : PE X e2 (tE G W h)) :
    PI X (.Tuple elts kk tpos) (.Call (.Name "zip" p) [e, e2] [] pos) (tI G W (zipF f h)) := by
  have hst : starEach [e, e2] X.env = (false, eval e X.env) :: starEach [e2] X.env := okE_star oke
  refine (RZ.pi_zipA (g.glo _ hg) (by rw [g.mg]; exact hm) (s_cons oke he (s_cons oke2 he2 s_nil)) hst (by rw [okE_star oke2]; rfl)).weak fun σ H R ⟨ρ, env, st, Rl, E, q⟩ => ⟨ρ, env, st, Rl, E, ?_⟩
  show PLQ G W σ ρ H _ ((f env st).bindL fun d st => ((h env st).bindL fun d st => (ResL.ok [] st).bindL fun ds st => .ok (d :: ds) st).bindL fun ds st => .ok (d :: ds) st)
  unfold zipF at q
  cases hf : f env st with
  | exc c st1 => rw [hf] at q; exact q
  | bad => rw [hf] at q; exact q
  | ok x st1 =>
    rw [hf] at q
    simp only at q
    show PLQ G W σ ρ H _ (((h env st1).bindL fun d st => (ResL.ok [] st).bindL fun ds st => .ok (d :: ds) st).bindL fun ds st => .ok (x :: ds) st)
    cases hh : h env st1 with
    | exc c st2 => rw [hh] at q; exact q
    | bad => rw [hh] at q; exact q
    | ok y st2 =>
      rw [hh] at q
      simp only at q
      split at q
      · rename_i xs ys
        intro vs ρ1 H1 n1 R1 r1
        obtain ⟨v, w, rfl, rv, rw'⟩ := rvs_2.mp r1
        obtain ⟨a, us, rfl, t1, z1⟩ := rv_tup.mp rv
        obtain ⟨b, ws, rfl, t2, z2⟩ := rv_tup.mp rw'
        exact ⟨a, b, us, ws, rfl, .inr ⟨by rw [g.K]; exact t1, by rw [g.K]; exact t2, by rw [g.K]; exact q ρ1 H1 _ n1 R1 (trip_zip t1 t2 z1 z2)⟩⟩
      · exact q.elim
end
end Mi

set_option linter.all false
set_option maxRecDepth 100000
/-! What a loop assigns to; ranges; comprehensions. -/
namespace Mi
open PySem L2 PyProof.Rows

section
variable {G : Glob} {X : Cx} {N : List Str} {sc : Scope} {W : WX} {k : Nat}

/-- what a context must give for names to be stored -/
structure GoodN (X : Cx) (N : List Str) (sc : Scope) : Prop where
  ns : X.N = N
  nd : N.Nodup
  loc : ∀ x, locS sc x = true → Loc X.env.scope x ∧ (X.fn x = true ∨ X.env.scope.names.lookup x = some .local)
  calm : X.calm = true
theorem GoodX.toN (g : GoodX G X N sc W k) : GoodN X N sc := ⟨g.ns, g.nd, g.loc, g.calm⟩

def tgIs : Tg → List Nat
  | .name i => [i]
  | .tup is => is
/-- only these slots may differ -/
def But (is : List Nat) (σ σ' : L2.St) : Prop := σ'.length = σ.length ∧ ∀ j, j ∉ is → σ'[j]? = σ[j]?
def gD (G : Glob) (tg : Tg) : TG := fun v σ H Q => ∃ ρ env d env', RV G.K ρ H v d ∧ REnv G.K ρ H σ env ∧ tgSet tg d env = some env' ∧ ∀ σ', REnv G.K ρ H σ' env' → But (tgIs tg) σ σ' → Q σ' H
def gDs (G : Glob) (is : List Nat) : TGs := fun vs σ H Q => ∃ ρ env ds env', RVs G.K ρ H vs ds ∧ REnv G.K ρ H σ env ∧ setMany is ds env = some env' ∧ ∀ σ', REnv G.K ρ H σ' env' → But is σ σ' → Q σ' H
theorem _root_.L2.PG.weak {X : Cx} {e : Expr} {t t' : TG} (h : PG X e t) (w : ∀ v σ H Q, t' v σ H Q → t v σ H Q) : PG X e t' := ⟨fun pins s σ H v u Q I r q => h.run pins s σ H v u Q I r (w v σ H Q q)⟩
theorem _root_.L2.PGs.weak {X : Cx} {e : List Expr} {t t' : TGs} (h : PGs X e t) (w : ∀ v σ H Q, t' v σ H Q → t v σ H Q) : PGs X e t' := ⟨fun pins s σ H v u Q I r q => h.run pins s σ H v u Q I r (w v σ H Q q)⟩
theorem But.set {i : Nat} {σ : L2.St} {v : Option V} : But [i] σ (σ.set i v) := ⟨by simp, fun j hj => by rw [List.getElem?_set_ne]; intro e; subst e; simp at hj⟩
theorem pg_one (g : GoodN X N sc) {i : Nat} {x : Str} {p : Pos} (h1 : N[i]? = some x) (h2 : locS sc x = true) : PG X (.Name x p) (gName i) :=
  pg_name (by rw [g.ns]; exact g.nd) (by rw [g.ns]; exact h1) (g.loc x h2).1 (g.loc x h2).2
theorem nameAt_inv {i : Nat} {e : Expr} (h : nameAt N sc i e = true) : ∃ x p, e = .Name x p ∧ N[i]? = some x ∧ locS sc x = true := by
  unfold nameAt at h
  cases q : asName e with
  | none => rw [q] at h; cases h
  | some x =>
    rw [q] at h
    simp only [Bool.and_eq_true, decide_eq_true_eq] at h
    obtain ⟨p, rfl⟩ := asName_eq q
    exact ⟨x, p, rfl, h.1, h.2⟩
theorem s_names (g : GoodN X N sc) : ∀ {is : List Nat} {es : List Expr}, namesAt N sc is es = true → PGs X es (gDs G is)
  | [], [], _ => pgs_nil.weak fun vs σ H Q ⟨ρ, env, ds, env', r, E, e, q⟩ => by
    cases ds with
    | nil => cases e; exact ⟨rvs_nil.mp r, q σ E ⟨rfl, fun _ _ => rfl⟩⟩
    | cons _ _ => cases e
  | i :: is, e :: es, h => by
    unfold namesAt at h
    rw [Bool.and_eq_true] at h
    obtain ⟨x, p, rfl, h1, h2⟩ := nameAt_inv h.1
    refine (pgs_cons (pg_one g h1 h2) (s_names g h.2)).weak fun vs σ H Q ⟨ρ, env, ds, env', r, E, e, q⟩ => ?_
    cases ds with
    | nil => cases e
    | cons d ds =>
      obtain ⟨v, vr, rfl, r1, r2⟩ := rvs_cons.mp r
      refine ⟨v, vr, rfl, ρ, env.set i (some d), ds, env', r2, E.set i r1, e, fun σ' E' b => q σ' E' ⟨by rw [b.1]; simp, fun j hj => ?_⟩⟩
      rw [b.2 j (fun z => hj (List.mem_cons_of_mem _ z)), List.getElem?_set_ne]
      intro z; subst z; exact hj List.mem_cons_self
  | [], _ :: _, h => by cases h
  | _ :: _, [], h => by cases h
theorem each_len {env : PySem.Env} : ∀ {es : List Expr}, (assignEach es env).length = es.length
  | [] => rfl
  | e :: es => by cases e <;> (show (assignEach es env).length + 1 = es.length + 1; rw [each_len])
theorem names_find {env : PySem.Env} : ∀ {is : List Nat} {es : List Expr}, namesAt N sc is es = true → (assignEach es env).findIdx? (·.1) = none
  | [], [], _ => rfl
  | i :: is, e :: es, h => by
    unfold namesAt at h
    rw [Bool.and_eq_true] at h
    obtain ⟨x, p, rfl, h1, h2⟩ := nameAt_inv h.1
    have ih := names_find (env := env) h.2
    show ((false, assign (.Name x p) env) :: assignEach es env).findIdx? (·.1) = none
    rw [List.findIdx?_cons]
    simp [ih]
  | [], _ :: _, h => by cases h
  | _ :: _, [], h => by cases h
theorem setMany_len : ∀ {is : List Nat} {ds : List D} {env env' : Env}, setMany is ds env = some env' → ds.length = is.length
  | [], [], _, _, _ => rfl
  | i :: is, d :: ds, env, env', h => by simp [setMany_len (show setMany is ds _ = some env' from h)]
  | [], _ :: _, _, _, h => by cases h
  | _ :: _, [], _, _, h => by cases h
theorem names_len : ∀ {is : List Nat} {es : List Expr}, namesAt N sc is es = true → es.length = is.length
  | [], [], _ => rfl
  | i :: is, e :: es, h => by
    unfold namesAt at h
    rw [Bool.and_eq_true] at h
    simp [names_len h.2]
  | [], _ :: _, h => by cases h
  | _ :: _, [], h => by cases h
theorem s_tg (hK : X.K = G.K) (g : GoodN X N sc) {tg : Tg} {e : Expr} (h : mtT N sc tg e = true) : PG X e (gD G tg) := by
  cases tg with
  | name i =>
    obtain ⟨x, p, rfl, h1, h2⟩ := nameAt_inv (show nameAt N sc i e = true from h)
    exact (pg_one g h1 h2).weak fun v σ H Q ⟨ρ, env, d, env', r, E, e, q⟩ => by
      cases e
      exact q _ (E.set i r) But.set
  | tup is =>
    simp only [mtT] at h
    cases q : asTup e with
    | none => rw [q] at h; cases h
    | some es =>
      rw [q] at h
      simp only [Bool.and_eq_true, decide_eq_true_eq] at h
      obtain ⟨i, p, rfl⟩ := asTup_eq q
      refine (pg_tup g.calm (s_names (G := G) g h.1) each_len (names_find h.1)).weak fun v σ H Q ⟨ρ, env, d, env', r, E, e, q⟩ => ?_
      cases d <;> try (cases e; done)
      rename_i ds
      obtain ⟨a, vs, rfl, t, r1⟩ := rv_tup.mp r
      refine ⟨a, vs, rfl, by rw [hK]; exact t, ?_, ρ, env, ds, env', r1, E, e, q⟩
      rw [r1.length, setMany_len e, names_len h.1]

/-! ### ranges -/
theorem s_rng1 (g : GoodX G X N sc W k) (hp : Plain G) {tg a : Expr} {f : Env → Store → Res} {p q : Pos} (hg : gloS sc ("range" : Str) = true) (ok : okE a = true) (ha : PE X a (tE G W f)) : PI X tg (.Call (.Name "range" p) [a] [] q) (tI G W (rng1F f)) :=
  (pi_range1 (g.glo _ hg) (by rw [g.mg]; exact hp.range) (s_cons ok ha s_nil) (okE_star ok)).weak fun σ H R ⟨ρ, env, st, Rl, E, q⟩ => by
    refine ⟨ρ, env, st, Rl, E, ?_⟩
    unfold rng1F at q
    cases hf : f env st with
    | ok d st1 =>
      simp only [hf] at q
      simp only [hf, Res.bindL_ok, ResL.bindL_ok]
      intro vs ρ1 H1 n1 R1 r1
      obtain ⟨x, rfl, hx⟩ := rvs_1.mp r1
      cases d <;> try (exact q.elim)
      rw [rv_int] at hx; subst hx
      simp only at q
      split at q
      · rename_i hs
        exact ⟨_, rfl, hs.1, hs.2, by have := q ρ1 H1 _ n1 R1 (trip_rng _ _); rw [Int.sub_zero] at this; exact this⟩
      · exact q.elim
    | exc c st1 => simp only [hf] at q; simp only [hf, Res.bindL_exc]; exact q
    | bad => simp only [hf] at q; exact q.elim
theorem s_rng2 (g : GoodX G X N sc W k) (hp : Plain G) {tg a b : Expr} {f h : Env → Store → Res} {p q : Pos} (hg : gloS sc ("range" : Str) = true) (ok : okE a = true) (ok' : okE b = true) (ha : PE X a (tE G W f)) (hb : PE X b (tE G W h)) :
    PI X tg (.Call (.Name "range" p) [a, b] [] q) (tI G W (rng2F f h)) :=
  (pi_range2 (g.glo _ hg) (by rw [g.mg]; exact hp.range) (s_cons ok ha (s_cons ok' hb s_nil)) (by rw [okE_star ok, okE_star ok']; rfl) (by rw [okE_star ok']; rfl)).weak fun σ H R ⟨ρ, env, st, Rl, E, q⟩ => by
    refine ⟨ρ, env, st, Rl, E, ?_⟩
    unfold rng2F at q
    cases hf : f env st with
    | ok d st1 =>
      simp only [hf] at q
      simp only [hf, Res.bindL_ok]
      cases hh : h env st1 with
      | ok d2 st2 =>
        simp only [Res.bindL_ok, ResL.bindL_ok]
        intro vs ρ1 H1 n1 R1 r1
        obtain ⟨x, y, rfl, hx, hy⟩ := rvs_2.mp r1
        cases d <;> try (exact q.elim)
        simp only [hh] at q
        cases d2 <;> try (exact q.elim)
        rw [rv_int] at hx hy; subst hx; subst hy
        simp only at q
        split at q
        · rename_i hs
          exact ⟨_, _, rfl, ⟨hs.1.1, hs.1.2, hs.2.1, hs.2.2⟩, q ρ1 H1 _ n1 R1 (trip_rng _ _)⟩
        · exact q.elim
      | exc c st2 =>
        cases d <;> try (exact q.elim)
        simp only [hh] at q
        simp only [Res.bindL_exc, ResL.bindL_exc]
        exact q
      | bad =>
        cases d <;> try (exact q.elim)
        simp only [hh] at q
        exact q.elim
    | exc c st1 => simp only [hf] at q; simp only [hf, Res.bindL_exc]; exact q
    | bad => simp only [hf] at q; exact q.elim

/-! ### comprehensions -/
theorem wipe_at (σ : L2.St) : ∀ (vs : List Nat) (j : Nat), (L2.wipe σ vs)[j]? = if j ∈ vs ∧ j < σ.length then some none else σ[j]?
  | [], j => by simp [L2.wipe]
  | v :: vs, j => by
    unfold L2.wipe
    by_cases hj : j = v
    · subst hj
      by_cases hl : j < σ.length
      · rw [List.getElem?_set_self (by rw [wipe_length]; exact hl), if_pos ⟨List.mem_cons_self, hl⟩]
      · rw [List.getElem?_eq_none (by simp [wipe_length]; omega), if_neg (fun z => hl z.2), List.getElem?_eq_none (by omega)]
    · rw [List.getElem?_set_ne (Ne.symm hj), wipe_at σ vs j]
      simp [hj]
theorem wipe_but {σ σ' : L2.St} {is vs : List Nat} (b : But is (L2.wipe σ vs) σ') (h : ∀ i ∈ is, i ∈ vs) : L2.wipe σ' vs = L2.wipe σ vs := by
  apply List.ext_getElem?
  intro j
  rw [wipe_at σ' vs j, wipe_at σ vs j]
  have hl : σ'.length = σ.length := by rw [b.1, wipe_length]
  by_cases hj : j ∈ vs
  · by_cases h2 : j < σ.length
    · rw [if_pos ⟨hj, by rw [hl]; exact h2⟩, if_pos ⟨hj, h2⟩]
    · rw [if_neg (fun z => h2 (by rw [← hl]; exact z.2)), if_neg (fun z => h2 z.2), List.getElem?_eq_none (by omega), List.getElem?_eq_none (by omega)]
  · rw [if_neg (fun z => hj z.1), if_neg (fun z => hj z.1), b.2 j (fun z => hj (h j z)), wipe_at σ vs j, if_neg (fun z => hj z.1)]

/-- a block of a comprehension: no exception leaves it -/
abbrev W0 : WX := fun _ _ _ _ => False
theorem lookup_mapK (f : Str → NameKind → NameKind) (x : Str) : ∀ l : List (Str × NameKind), (l.map fun p => (p.1, f p.1 p.2)).lookup x = (l.lookup x).map (f x)
  | [] => rfl
  | (n, y) :: l => by
    rw [List.map_cons, List.lookup_cons, List.lookup_cons]
    by_cases e : x = n
    · subst e
      simp
    · have e' : (x == n) = false := beq_eq_false_iff_ne.mpr e
      simp only [e']
      exact lookup_mapK f x l
theorem lookup_relabel {env : PySem.Env} {sc : Scope} {x : Str} {y : NameKind} (h : sc.names.lookup x = some y) : (relabel sc env).names.lookup x = some (if (y == NameKind.free && env.scope.kind == ScopeKind.function && env.kindOf x == some NameKind.cell) = true then NameKind.cell else y) := by
  have e : (relabel sc env).names = sc.names.map fun p => (p.1, if (p.2 == NameKind.free && env.scope.kind == ScopeKind.function && env.kindOf p.1 == some NameKind.cell) = true then NameKind.cell else p.2) := by
    show (sc.names.map fun (n, k) => if (k == NameKind.free && env.scope.kind == ScopeKind.function && env.kindOf n == some NameKind.cell) = true then (n, NameKind.cell) else (n, k)) = _
    apply List.map_congr_left
    rintro ⟨n, k⟩ _
    show (if (k == NameKind.free && env.scope.kind == ScopeKind.function && env.kindOf n == some NameKind.cell) = true then (n, NameKind.cell) else (n, k)) = (n, if (k == NameKind.free && env.scope.kind == ScopeKind.function && env.kindOf n == some NameKind.cell) = true then NameKind.cell else k)
    split <;> rfl
  rw [e, lookup_mapK (fun n k => if (k == NameKind.free && env.scope.kind == ScopeKind.function && env.kindOf n == some NameKind.cell) = true then NameKind.cell else k), h]
  rfl
theorem takes_none {X : Cx} : Takes X W0 := fun _ _ x => by
  obtain ⟨_, _, _, _, _, _, _, _, _, _, _, _, _, _, _, _, z⟩ := x
  exact z.elim
theorem good_blk (g : GoodX G X N sc W k) {sc' : Scope} {own : List (Str × Nat)} (ok : BlkOk N X.env.scope sc' own) (s : Shared) (H : Hp) (Cc : Addr) (cl : List (Str × Addr)) (fp : List Addr) :
    GoodX G (X.blk s H sc' (compEnvC sc' cl Cc X.env) fp) N sc' W0 k where
  prog := g.prog
  w := g.w
  K := g.K
  mg := g.mg
  base := g.base
  ns := g.ns
  nd := g.nd
  vis := fun x h => by
    unfold visS at h
    show (relabel sc' X.env).names.lookup x = some .local ∨ (relabel sc' X.env).names.lookup x = some .cell ∨ (relabel sc' X.env).names.lookup x = some .free
    cases e : sc'.names.lookup x with
    | none => rw [e] at h; cases h
    | some y =>
      rw [lookup_relabel e]
      rw [e] at h
      split
      · exact .inr (.inl rfl)
      · cases y <;> simp at h ⊢
  loc := fun x h => by
    unfold locS at h
    show ((relabel sc' X.env).names.lookup x = some .local ∨ (relabel sc' X.env).names.lookup x = some .cell) ∧ ((List.lookup x sc'.names == some NameKind.cell) = true ∨ (relabel sc' X.env).names.lookup x = some .local)
    cases e : sc'.names.lookup x with
    | none => rw [e] at h; cases h
    | some y =>
      rw [lookup_relabel e]
      rw [e] at h
      cases y <;> simp at h ⊢
  glo := fun x h => by
    unfold gloS at h
    show (relabel sc' X.env).names.lookup x = some .globalImplicit
    cases e : sc'.names.lookup x with
    | none => rw [e] at h; cases h
    | some y =>
      rw [lookup_relabel e]
      rw [e] at h
      cases y <;> simp at h ⊢
  fr := fun x h => by
    show (relabel sc' X.env).names.lookup x = some .cell ∨ (relabel sc' X.env).names.lookup x = some .free
    rcases h with h | h <;> rw [lookup_relabel h]
    · exact .inl rfl
    · split
      · exact .inl rfl
      · exact .inr rfl
  calm := g.calm
  room1 := g.room1
  tk := takes_none
end
end Mi

set_option linter.all false
set_option maxRecDepth 100000
/-! Comprehensions. -/
namespace Mi
open PySem L2 PyProof.Rows

def stepF (own : List Nat) (tg : Tg) (fc fe : Env → Store → Res) (env : Env) : D → Store → CRes := fun x s => match tgSet tg x (wipeE env own) with
  | some env' => (match fc env' s with
    | .ok (.bl true) s => (match fe env' s with
      | .ok d s => .ok (some d) s
      | _ => .bad)
    | .ok (.bl false) s => .ok none s
    | _ => .bad)
  | none => .bad
noncomputable def lcF (own : List Nat) (tg : Tg) (fi : Env → Store → ItR) (fc fe : Env → Store → Res) : Env → Store → Res := fun env st => match fi env st with
  | .ok xs gd st => compL (stepF own tg fc fe env) gd st.length xs (st ++ [.lst []])
  | .exc c st => .exc c st
  | .bad => .bad

section
variable {G : Glob} {X : Cx} {N : List Str} {sc : Scope} {W : WX} {k : Nat}

theorem PTs.weak {X : Cx} {e : List Expr} {t t' : TT} (h : PTs X e t) (w : ∀ σ H Q, t' σ H Q → t σ H Q) : PTs X e t' := ⟨fun pins s σ H Q I q => h.run pins s σ H Q I (w σ H Q q)⟩
theorem s_ifs0 : PTs X [] (tT G W fun _ st => .ok (.bl true) st) := PTs.weak pts_nil fun σ H Q ⟨ρ, env, st, R, E, b, e, q⟩ => by cases e; exact q ρ H .refl R
/-- one if -/
def if1F (f : Env → Store → Res) : Env → Store → Res := fun env st => (f env st).bind fun x st => match x with
  | .bl true => .ok (.bl true) st
  | .bl false => .ok (.bl false) st
  | _ => .bad
theorem s_ifs1 {c : Expr} {f : Env → Store → Res} (h : PT X c (tT G W f)) : PTs X [c] (tT G W (if1F f)) := PTs.weak (pts_one h) fun σ H Q ⟨ρ, env, st, R, E, q⟩ =>
  ⟨ρ, env, st, R, E, PTQ.bind q (fun b st1 ρ1 H1 n R1 q1 => by
    cases b with
    | true => obtain ⟨z, e, q1⟩ := q1; cases e; exact q1 ρ1 H1 .refl R1
    | false => obtain ⟨z, e, q1⟩ := q1; cases e; exact q1 ρ1 H1 .refl R1) (fun d st1 hd => by cases d <;> first | rfl | exact absurd rfl (hd _))⟩

theorem own_of (ok : BlkOk N sc sc' own) (nd : N.Nodup) {i : Nat} {x : Str} (h1 : N[i]? = some x) (h2 : locS sc' x = true) : i ∈ own.map (·.2) := by
  have hm : ∃ y ∈ sc'.names, y.1 = x ∧ (y.2 = .local ∨ y.2 = .cell) := by
    unfold locS at h2
    cases e : sc'.names.lookup x with
    | none => rw [e] at h2; cases h2
    | some y =>
      rw [e] at h2
      exact ⟨(x, y), PySem.mem_of_lookup e, rfl, by cases y <;> simp at h2 ⊢⟩
  obtain ⟨⟨y, kk⟩, hy, rfl, hk⟩ := hm
  rcases ok.own _ hy hk with h | h
  · obtain ⟨p, hp, e⟩ := List.mem_map.mp h
    have := ok.ix p hp
    rw [e] at this
    rw [← nodup_ix nd this h1]
    exact List.mem_map_of_mem hp
  · exact absurd (List.mem_of_getElem? h1) h
theorem owns_of {is : List Nat} {es : List Expr} (ok : BlkOk N sc sc' own) (nd : N.Nodup) : namesAt N sc' is es = true → ∀ i ∈ is, i ∈ own.map (·.2) := by
  induction is generalizing es with
  | nil => intro _ i h; cases h
  | cons j is ih =>
    cases es with
    | nil => intro h; cases h
    | cons e es =>
      intro h i hi
      unfold namesAt at h
      rw [Bool.and_eq_true] at h
      rcases List.mem_cons.mp hi with rfl | hi
      · obtain ⟨x, p, _, h1, h2⟩ := nameAt_inv h.1
        exact own_of ok nd h1 h2
      · exact ih h.2 i hi
theorem tg_own {tg : Tg} {e : Expr} (ok : BlkOk N sc sc' own) (nd : N.Nodup) (h : mtT N sc' tg e = true) : ∀ i ∈ tgIs tg, i ∈ own.map (·.2) := by
  cases tg with
  | name i =>
    obtain ⟨x, p, _, h1, h2⟩ := nameAt_inv (show nameAt N sc' i e = true from h)
    intro j hj
    obtain rfl : j = i := by simpa [tgIs] using hj
    exact own_of ok nd h1 h2
  | tup is =>
    simp only [mtT] at h
    cases q : asTup e with
    | none => rw [q] at h; cases h
    | some es =>
      rw [q] at h
      simp only [Bool.and_eq_true] at h
      exact owns_of ok nd h.1

theorem blk_of (g : GoodX G X N sc W k) {sc' : Scope} {own : List (Str × Nat)} (h : blkC N sc sc' own = true) : BlkOk N X.env.scope sc' own := by
  have b := blkOk_by h
  exact ⟨b.kind, b.uniq, b.ix, fun y hy e => g.fr _ (b.free y hy e), b.own⟩

theorem lc_run (g : GoodX G X N sc W k) {sc' : Scope} {own : List (Str × Nat)} {tg : Tg} {tg' : Expr} {fi : Env → Store → ItR} {fc fe : Env → Store → Res} (ok : BlkOk N X.env.scope sc' own) (ht : mtT N sc' tg tg' = true) {σ : L2.St} {H : Hp} {Q : VK}
    (q : tE G W (lcF (own.map (·.2)) tg fi fc fe) σ H Q) : tLc (tI G W fi) (gD G tg) (tT G W0 fc) (tE G W0 fe) (own.map (·.2)) σ H Q := by
  obtain ⟨ρ, env, st, R, E, q⟩ := q
  refine ⟨ρ, env, st, R, E, ?_⟩
  unfold lcF at q
  cases hf : fi env st with
  | exc c st1 => simp only [hf] at q ⊢; exact q
  | bad => simp only [hf] at q; exact q.elim
  | ok items gd st1 =>
    simp only [hf] at q ⊢
    intro ρ1 H1 J n1 R1 T D hD
    -- the new list
    have R2 : Rel G (ρ1 ++ [D]) (upd H1 D (.lst [])) (st1 ++ [.lst []]) := R1.new hD ⟨[], upd_same, RVs.nil_⟩
    have n2 : Nx ρ1 H1 (ρ1 ++ [D]) (upd H1 D (.lst [])) := nx_new hD
    have hat : (ρ1 ++ [D])[st1.length]? = some D := by rw [← R1.len]; simp
    have E1 := E.mono n1
    refine ⟨fun i m H' => ∃ ρ' st', Nx (ρ1 ++ [D]) (upd H1 D (.lst [])) ρ' H' ∧ Rel G ρ' H' st' ∧ i ≤ items.length ∧ m = items.length - i ∧ PQ G W σ ρ' H' Q (compL (stepF (own.map (·.2)) tg fc fe env) gd st1.length (items.drop i) st'),
      ⟨items.length, ρ1 ++ [D], st1 ++ [.lst []], .refl, R2, Nat.zero_le _, by omega, by rw [List.drop_zero]; exact PQ.at_ (n1.trans n2) q⟩, ?_⟩
    rintro i m H' ⟨ρ', st', n3, R3, hle, rfl, q3⟩
    have base : Nx ρ1 H1 ρ' H' := n2.trans n3
    by_cases hlt : i < items.length
    · rw [List.drop_eq_getElem_cons hlt] at q3
      unfold compL at q3
      split at q3
      · rename_i gok
        refine .inr ⟨T.go i ρ' H' st' base R3 gok hlt, fun H'' => ∃ ρ'' st'', Nx (ρ1 ++ [D]) (upd H1 D (.lst [])) ρ'' H'' ∧ Rel G ρ'' H'' st'' ∧ PQ G W σ ρ'' H'' Q (compL (stepF (own.map (·.2)) tg fc fe env) gd st1.length (items.drop (i + 1)) st''),
          fun H'' ⟨ρ'', st'', a, b, c⟩ => ⟨items.length - (i + 1), by omega, ρ'', st'', a, b, hlt, rfl, c⟩, fun x H4 hy => ?_⟩
        obtain ⟨ρ4, n4, R4, r4⟩ := T.yld i ρ' H' st' x H4 items[i] base R3 gok (by simp [hlt]) hy
        have q4 := PQ.at_ n4 q3
        have E4 := (E1.mono (base.trans n4)).wipe (own.map (·.2))
        unfold stepF at q4
        cases ht2 : tgSet tg items[i] (wipeE env (own.map (·.2))) with
        | none => simp only [ht2] at q4; exact q4.elim
        | some env' =>
          simp only [ht2] at q4
          refine ⟨ρ4, _, items[i], env', r4, E4, ht2, fun σ5 E5 b5 => ⟨wipe_but b5 (tg_own ok g.nd ht), ρ4, env', st', R4, E5, ?_⟩⟩
          cases hc2 : fc env' st' with
          | exc c s => simp only [hc2] at q4; exact q4.elim
          | bad => simp only [hc2] at q4; exact q4.elim
          | ok cd s =>
            simp only [hc2] at q4
            cases cd <;> try (exact q4.elim)
            rename_i bb
            refine ⟨bb, rfl, fun ρ6 H6 n6 R6 => ?_⟩
            cases bb with
            | false =>
              simp only at q4
              exact ⟨ρ6, s, n3.trans (n4.trans n6), R6, PQ.at_ n6 q4⟩
            | true =>
              simp only at q4
              refine ⟨ρ6, env', s, R6, E5.mono n6, ?_⟩
              cases he2 : fe env' s with
              | exc c s2 => simp only [he2] at q4; exact q4.elim
              | bad => simp only [he2] at q4; exact q4.elim
              | ok y s2 =>
                simp only [he2] at q4
                intro w ρ7 H7 n7 R7 r7
                cases ha : s2[st1.length]? with
                | none => rw [ha] at q4; exact q4.elim
                | some mo =>
                  rw [ha] at q4
                  cases mo <;> try (exact q4.elim)
                  rename_i acc
                  simp only at q4
                  split at q4
                  · rename_i hl
                    have hat7 : ρ7[st1.length]? = some D := (n3.trans (n4.trans (n6.trans n7))).at_ hat
                    obtain ⟨vs, h1, r1⟩ := R7.lstAt hat7 ha
                    have n8 : Nx ρ7 H7 ρ7 (upd H7 D (.lst (vs ++ [w]))) := nx_put R7 hat7
                    refine ⟨vs, h1, by rw [r1.length, ← line_eq]; exact hl, ρ7, s2.set st1.length (.lst (acc ++ [y])), n3.trans (n4.trans (n6.trans (n7.trans n8))),
                      R7.put hat7 ⟨vs ++ [w], upd_same, RVs.mono n8 _ (r1.append (rvs_1 (G := G) |>.mpr ⟨w, rfl, r7⟩))⟩, PQ.at_ (n6.trans (n7.trans n8)) q4⟩
                  · exact q4.elim
      · exact q3.elim
    · have e : i = items.length := by omega
      subst e
      rw [List.drop_length] at q3
      unfold compL at q3
      split at q3
      · rename_i gok
        exact .inl ⟨T.stop _ ρ' H' st' base R3 gok (Nat.le_refl _), q3 _ ρ' H' .refl R3 (rv_ref.mpr ⟨D, rfl, n3.at_ hat⟩)⟩
      · exact q3.elim
theorem s_lc (g : GoodX G X N sc W k) {sc' : Scope} {own : List (Str × Nat)} {tg : Tg} {tg' it elt : Expr} {ifs : List Expr} {p : Pos} {fi : Env → Store → ItR} {fc fe : Env → Store → Res} (hb : blkC N sc sc' own = true) (ht : mtT N sc' tg tg' = true) (oki : okE it = true)
    (hi : PI X tg' it (tI G W fi))
    (hc : ∀ (s : Shared) (H : Hp) (C : Addr) (cl : List (Str × Addr)) (fp : List Addr), PTs (X.blk s H sc' (compEnvC sc' cl C X.env) fp) ifs (tT G W0 fc))
    (he : ∀ (s : Shared) (H : Hp) (C : Addr) (cl : List (Str × Addr)) (fp : List Addr), PE (X.blk s H sc' (compEnvC sc' cl C X.env) fp) elt (tE G W0 fe)) :
    PE X (.ListComp elt [⟨tg', it, ifs, 0⟩] sc' p) (tE G W (lcF (own.map (·.2)) tg fi fc fe)) := by
  have ok := blk_of g hb
  have okN : BlkOk X.N X.env.scope sc' own := by rw [g.ns]; exact ok
  exact (pe_lc g.calm (by rw [g.ns]; exact g.nd) hi okN (fun s H Cc cl fp => s_tg (X := X.blk s H sc' (compEnvC sc' cl Cc X.env) fp) (G := G) (tg := tg) g.K (good_blk g ok s H Cc cl fp).toN ht) hc he (fun x => okE_fold oki)).weak fun σ H Q q => lc_run g ok ht q
theorem s_setLc (g : GoodX G X N sc W k) {i : Nat} {y : Str} {py sp : Pos} {sc' : Scope} {own : List (Str × Nat)} {tg : Tg} {tg' it elt : Expr} {ifs : List Expr} {p : Pos} {fi : Env → Store → ItR} {fc fe : Env → Store → Res} (hy : N[i]? = some y) (hyl : X.env.scope.names.lookup y = some .local)
    (hsw : swapsWith (.ListComp elt [⟨tg', it, ifs, 0⟩] sc' p) (some (.Name y py)) sp.line X.env = pure true) (hb : blkC N sc sc' own = true) (ht : mtT N sc' tg tg' = true) (oki : okE it = true)
    (hi : PI X tg' it (tI G W fi))
    (hc : ∀ (s : Shared) (H : Hp) (C : Addr) (cl : List (Str × Addr)) (fp : List Addr), PTs (X.blk s H sc' (compEnvC sc' cl C X.env) fp) ifs (tT G W0 fc))
    (he : ∀ (s : Shared) (H : Hp) (C : Addr) (cl : List (Str × Addr)) (fp : List Addr), PE (X.blk s H sc' (compEnvC sc' cl C X.env) fp) elt (tE G W0 fe)) :
    PS X (.Assign [.Name y py] (.ListComp elt [⟨tg', it, ifs, 0⟩] sc' p) sp) (tAsg (tLc (tI G W fi) (gD G tg) (tT G W0 fc) (tE G W0 fe) (own.map (·.2))) (gName i)) := by
  have ok := blk_of g hb
  have okN : BlkOk X.N X.env.scope sc' own := by rw [g.ns]; exact ok
  exact ps_setLc g.calm (by rw [g.ns]; exact g.nd) (by rw [g.ns]; exact hy) hyl hsw hi okN (fun s H Cc cl fp => s_tg (X := X.blk s H sc' (compEnvC sc' cl Cc X.env) fp) (G := G) (tg := tg) g.K (good_blk g ok s H Cc cl fp).toN ht) hc he (fun x => okE_fold oki)
end
end Mi

set_option linter.all false
set_option maxRecDepth 100000
set_option maxHeartbeats 1000000
/-! Objects: fields read, methods called, objects made. -/
namespace Mi
open PySem L2 PyProof.Rows PySem.Spec
section
variable {X : Cx}
/-- an object whose class has the method -/
def Has_ (X : Cx) (k : Nat) (m : Str) (H1 : Hp) (x : V) (sp : Sp) : Prop := ∃ (a : Addr) (C dx : Addr) (fs : List (Str × V)) (g : Addr) (fd : FuncData) (ps : List Str), x = .ref a ∧ H1 a = some (.ins C dx fs) ∧ Cls X.K C ∧ Meth X.K C m g ∧ fs.lookup m = none ∧
  FnOk X.prog X.w X.K X.mg X.base (L2.CX X.prog X.w) k g fd ps sp ∧ Binds X.K fd ps []
theorem own_head {o : Expr} {es : List Expr} {m : Str} {to : TE} {apos pos : Pos} {pins : List (Addr × Obj)} {s : Shared} {σ : L2.St} {H : Hp} {Q : Value → Shared → Prop} {k : Nat} {F : V → Hp → Sp → Prop} (I : Inv X pins σ H s) (ho : PE X o to) (hbase : attributeBase o m X.env (eval o X.env) = eval o X.env)
    (hfew : ((backTo pos (starEach es X.env)).all (fun x => !x.1) && (backToKw pos (keywordEach [] X.env)).all (fun x => x.1.isSome) && decide (es.length + ([] : List Keyword).length + (if ([] : List Keyword).isEmpty then 0 else 1) < 30)) = true)
    (hline : (apos.endLine == pos.line) = true) (h : to σ H fun x H1 => ∃ sp, Has_ X k m H1 x sp ∧ F x H1 sp)
    (go : ∀ (a g : Addr) (fd : FuncData) (ps : List Str) (sp : Sp) (H1 : Hp) (s1 : Shared), Inv X pins σ H1 s1 → PySem.W.keepIn X.K (.ref g) = true → FnOk X.prog X.w X.K X.mg X.base (L2.CX X.prog X.w) k g fd ps sp → Binds X.K fd ps [] → F (.ref a) H1 sp →
      wpAny (model X.prog X.w) X.A (callWith pos (.ref g) [.ref a] (backTo pos (starEach es X.env)) (backToKw pos (keywordEach [] X.env))) Q X.xe s1) :
    wpAny (model X.prog X.w) X.A (eval (.Call (.Attribute o m apos) es [] pos) X.env) Q X.xe s := by
  rw [arm_eval_Call, hbase]
  refine wpAny_bind (thn (ho.run pins s σ H _ I h) fun u s1 ⟨x, H1, I1, rx, sp, ⟨a, C, dx, fs, g, fd, ps, ex, ea, c, hm, l, Fo, b⟩, q⟩ => ?_)
  subst ex
  obtain rfl : u = Value.ref a := rx
  refine wpAny_bind (wpAny_standAt ?_)
  have form : methodCallForm (es.length + ([] : List Keyword).length) (backTo pos (starEach es X.env)) (backToKw pos (keywordEach [] X.env)) = true := hfew
  have hpos : methodCallPos true o X.env apos pos = pure pos := by unfold methodCallPos; simp [hline]
  unfold methodCall
  rw [form]
  refine wpAny_bind (wpAny_holding (getmeth_ok I1 ea c hm l ?_))
  exact wpAny_bind (wpAny_of_eq hpos (go a g fd ps sp H1 s1 I1 hm.kp Fo b q))
variable {k : Nat} {E : L2.St → XK} {o : Expr} {m : Str} {to : TE} {t : TA} {apos pos : Pos}
theorem pe_own0 (hu : ∀ σ, PassesAt (L2.CX X.prog X.w) X σ (E σ)) (hr : Room k X.A) (ho : PE X o to) (hbase : attributeBase o m X.env (eval o X.env) = eval o X.env) (hline : (apos.endLine == pos.line) = true) :
    PE X (.Call (.Attribute o m apos) [] [] pos) (fun σ H Q => to σ H fun x H1 => ∃ sp, Has_ X k m H1 x sp ∧ sp [x] H1 Q (E σ)) :=
  ⟨fun pins s σ H Q I h => own_head (F := fun x H1 sp => sp [x] H1 Q (E σ)) I ho hbase rfl hline h fun a g fd ps sp H1 s1 I1 kp Fo b q =>
    PySem.W.callWith_K0 (first := [.ref a]) I1.kIn kp (run_fnS (us := [.ref a]) (vs := [.ref a]) Fo hr b (hu σ) I1 (.cons rfl .nil) q)⟩
theorem pe_own {e : Expr} {es : List Expr} (hu : ∀ σ, PassesAt (L2.CX X.prog X.w) X σ (E σ)) (hr : Room k X.A) (ho : PE X o to) (ha : PA X (e :: es) t) (hbase : attributeBase o m X.env (eval o X.env) = eval o X.env)
    (hfew : ((backTo pos (starEach (e :: es) X.env)).all (fun x => !x.1) && (backToKw pos (keywordEach [] X.env)).all (fun x => x.1.isSome) && decide ((e :: es).length + ([] : List Keyword).length + (if ([] : List Keyword).isEmpty then 0 else 1) < 30)) = true)
    (hline : (apos.endLine == pos.line) = true) (hs : starEach (e :: es) X.env = (false, eval e X.env) :: starEach es X.env) (hpl : (backTo pos (starEach es X.env)).any (·.1) = false) :
    PE X (.Call (.Attribute o m apos) (e :: es) [] pos) (fun σ H Q => to σ H fun x H1 => ∃ sp, Has_ X k m H1 x sp ∧ t σ H1 fun vs H2 => sp (x :: vs) H2 Q (E σ)) :=
  ⟨fun pins s σ H Q I h => own_head (F := fun x H1 sp => t σ H1 fun vs H2 => sp (x :: vs) H2 Q (E σ)) I ho hbase hfew hline h fun a g fd ps sp H1 s1 I1 kp Fo b q =>
    PySem.W.callWith_K (first := [.ref a]) (h₀ := X.base) I1.ok.mod.kin kp (thn (ha.run pos pins s1 σ H1 _ I1 q) fun us s2 ⟨vs, H2, I2, rv, q2⟩ => ⟨I2.kIn, run_fnS (us := .ref a :: us) (vs := .ref a :: vs) Fo hr b (hu σ) I2 (.cons rfl rv) q2⟩) hs hpl⟩
end
section
variable {G : Glob} {ρ : List Addr} {H : Hp} {st : Store}
theorem rfs_lookup {f : Str} : ∀ {fs : List (Str × D)} {vs : List (Str × V)}, RFs G.K ρ H vs fs → match fs.lookup f with
    | some d => ∃ v, vs.lookup f = some v ∧ RV G.K ρ H v d
    | none => vs.lookup f = none
  | [], _, h => by cases h; rfl
  | (g, d) :: fs, _, h => by
    obtain ⟨v, r, rfl, h1, h2⟩ := h
    have ih := rfs_lookup (f := f) h2
    by_cases e : f = g
    · subst e
      simp only [List.lookup_cons, beq_self_eq_true]
      exact ⟨v, rfl, h1⟩
    · have e' : (f == g) = false := beq_eq_false_iff_ne.mpr e
      simp only [List.lookup_cons, e']
      exact ih
theorem rfs_none {f : Str} {K : PySem.W.Frag} {C g : Addr} : ∀ {fs : List (Str × D)} {vs : List (Str × V)}, RFs G.K ρ H vs fs → (∀ p ∈ fs, NoAttr K C p.1) → Meth K C f g → vs.lookup f = none
  | [], _, h, _, _ => by cases h; rfl
  | (x, d) :: fs, _, h, na, me => by
    obtain ⟨v, r, rfl, h1, h2⟩ := h
    have e : f ≠ x := by
      rintro rfl
      have := na (f, d) (.head _)
      unfold NoAttr at this
      rw [me.at_] at this
      cases this
    have e' : (f == x) = false := beq_eq_false_iff_ne.mpr e
    simp only [List.lookup_cons, e']
    exact rfs_none h2 (fun p hp => na p (.tail _ hp)) me
theorem ins_rel {x : V} {dx : D} {c : Str} (R : Rel G ρ H st) (hx : RV G.K ρ H x dx) (e : insOf dx st = some c) : ∃ n a dd fs vs, dx = .ref n ∧ st[n]? = some (.ins c fs) ∧ x = .ref a ∧ ρ[n]? = some a ∧ Cls G.K (G.cls c) ∧ (∀ p ∈ fs, NoAttr G.K (G.cls c) p.1) ∧ H a = some (.ins (G.cls c) dd vs) ∧ RFs G.K ρ H vs fs := by
  cases dx <;> first | (cases e; done) | skip
  rename_i n
  obtain ⟨a, rfl, ha⟩ := rv_ref.mp hx
  simp only [insOf] at e
  split at e
  · rename_i c' fs hk
    cases e
    obtain ⟨b, hb, ro⟩ := R.addr hk
    rw [ha] at hb
    cases hb
    obtain ⟨h1, h2, dd, vs, h3, h4⟩ := ro
    exact ⟨n, a, dd, fs, vs, rfl, hk, rfl, ha, h1, h2, h3, h4⟩
  · cases e
end
section
variable {G : Glob} {X : Cx} {N : List Str} {sc : Scope} {W : WX} {k : Nat}
def attrF (f : Env → Store → Res) (x : Str) : Env → Store → Res := fun env st => (f env st).bind fun d st => match d with
  | .ref n => (match st[n]? with
    | some (.ins _ fs) => (match fs.lookup x with
      | some d => .ok d st
      | none => .bad)
    | _ => .bad)
  | _ => .bad
theorem s_attr (g : GoodX G X N sc W k) {a : Expr} {x : Str} {f : Env → Store → Res} {p : Pos} (hb : baseE a = true) (ha : PE X a (tE G W f)) : PE X (.Attribute a x p) (tE G W (attrF f x)) :=
  (pe_fld ha (baseE_eq hb)).weak fun σ H Q ⟨ρ, env, st, R, E, q⟩ => ⟨ρ, env, st, R, E, (PQ.bind q).imp fun v H1 ⟨d, st1, ρ1, m, q1⟩ => by
    cases d <;> first | exact q1.elim | skip
    rename_i n
    simp only at q1
    split at q1
    · rename_i c fs hk
      obtain ⟨n', a, dd, fs', vs, en, hk', rfl, ha', h1, h2, h3, h4⟩ := ins_rel m.rel m.rv (c := c) (by simp only [insOf, hk])
      cases en
      rw [hk] at hk'
      cases hk'
      have lk := rfs_lookup (f := x) h4
      split at q1
      · rename_i d hd
        rw [hd] at lk
        obtain ⟨w, hw, rw'⟩ := lk
        have mem : ∃ p ∈ fs, p.1 = x := by
          have : ∀ (fs : List (Str × D)), fs.lookup x = some d → ∃ p ∈ fs, p.1 = x := by
            intro fs
            induction fs with
            | nil => intro h; cases h
            | cons p r ih =>
              intro h
              obtain ⟨y, e⟩ := p
              by_cases c : x = y
              · exact ⟨(y, e), .head _, c.symm⟩
              · have c' : (x == y) = false := beq_eq_false_iff_ne.mpr c
                rw [List.lookup_cons, c'] at h
                obtain ⟨p, hp, ep⟩ := ih h
                exact ⟨p, .tail _ hp, ep⟩
          exact this fs hd
        obtain ⟨p, hp, rfl⟩ := mem
        exact ⟨a, _, dd, vs, w, rfl, h3, by rw [g.K]; exact h1, by rw [g.K]; exact h2 p hp, hw, q1 w ρ1 H1 .refl m.rel rw'⟩
      · exact q1.elim
    · exact q1.elim⟩
def omthF (C : Oracle) (m : Str) (f : Env → Store → Res) (h : Env → Store → ResL) : Env → Store → Res := fun env st => (f env st).bind fun x st => match insOf x st with
  | some c => (h env st).bindN fun ds st => C "." (.str c :: .str m :: x :: ds) st
  | none => .bad
theorem PLQ.bindN {σ : L2.St} {ρ : List Addr} {H : Hp} {Q : VK} {c : List D → Store → Res} : ∀ {f : ResL}, PQ G W σ ρ H Q (f.bindN c) → PLQ G W σ ρ H (fun vs H1 => ∃ ds st1 ρ1, Nx ρ H ρ1 H1 ∧ Rel G ρ1 H1 st1 ∧ RVs G.K ρ1 H1 vs ds ∧ PQ G W σ ρ1 H1 Q (c ds st1)) f
  | .ok d st, h => fun v ρ' H' n R r => ⟨d, st, ρ', n, R, r, PQ.at_ n h⟩
  | .exc x st, h => h.elim
  | .bad, h => h
theorem bindN_no {P : Prop} {σ : L2.St} {ρ : List Addr} {H : Hp} {Q : VK} {c : List D → Store → Res} (hc : ∀ ds st, c ds st = .bad) : ∀ {f : ResL}, PQ G W σ ρ H Q (f.bindN c) → P
  | .ok d st, h => by
    have h' : PQ G W σ ρ H Q (c d st) := h
    rw [hc] at h'
    exact h'.elim
  | .exc x st, h => h.elim
  | .bad, h => h.elim
theorem mth_head (g : GoodX G X N sc W k) {fs : List Str} {C : Oracle} (hC : CallsOk G fs C k) {m : Str} {ρ : List Addr} {H : Hp} {st : Store} {x : V} {d : D} {c : Str} (R : Rel G ρ H st) (hx : RV G.K ρ H x d) (hc : insOf d st = some c) (F : MOk G C k c m) :
    Has_ X k m H x (spD G F.ps.length (fun ds => C "." (.str c :: .str m :: ds))) := by
  obtain ⟨n, a, dd, fs', vs, rfl, hk', rfl, ha', h1, h2, h3, h4⟩ := ins_rel R hx hc
  refine ⟨a, _, dd, vs, F.a, F.fd, F.ps, rfl, h3, by rw [g.K]; exact h1, by rw [g.K]; exact F.me, rfs_none h4 h2 F.me, ?_, by rw [g.K]; exact F.b⟩
  rw [g.prog, g.w, g.K, g.mg, g.base]
  exact F.ok
theorem spD_of {F : Oracle} {n : Nat} {f : List D → Store → Res} {σ : L2.St} {ρ ρ2 : List Addr} {H : Hp} {st : Store} {vs : List V} {ds : List D} {Q : VK} (R : Rel G ρ H st) (r : RVs G.K ρ H vs ds) (ar : ∀ ds st, ds.length ≠ n → f ds st = .bad) (q : PQ G W σ ρ H Q (f ds st)) : spD G n f vs H Q (WE W σ) := by
  have hl : ds.length = n := by
    refine Decidable.byContradiction fun z => ?_
    rw [ar ds st z] at q
    exact q.elim
  refine ⟨by rw [r.length]; exact hl, ρ, st, ds, R, r, ?_⟩
  cases hr : f ds st with
  | ok d st2 => rw [hr] at q; exact q
  | exc c st2 => rw [hr] at q; exact q
  | bad => rw [hr] at q; exact q.elim
theorem s_omth (g : GoodX G X N sc W k) {fs : List Str} {C : Oracle} (hC : CallsOk G fs C k) {m : Str} {o : Expr} {es : List Expr} {f : Env → Store → Res} {h : Env → Store → ResL} {ap p : Pos} (hb : baseE o = true) (hl : (ap.endLine == p.line) = true) (few : es.length < 5) (ok : es.all okE = true) (hn : es = [] → h = fun _ st => .ok [] st)
    (ho : PE X o (tE G W f)) (hs : PA X es (tA G W h)) : PE X (.Call (.Attribute o m ap) es [] p) (tE G W (omthF C m f h)) := by
  cases es with
  | nil =>
    have e := hn rfl
    subst e
    refine (pe_own0 (E := WE W) (k := k) (fun σ => passAt g.tk σ) g.room ho (baseE_eq hb) hl).weak fun σ H Q ⟨ρ, env, st, R, E, q⟩ => ⟨ρ, env, st, R, E, (PQ.bind q).imp fun x H1 ⟨d, st1, ρ1, m1, q1⟩ => ?_⟩
    cases hc : insOf d st1 with
    | none => rw [hc] at q1; exact q1.elim
    | some c =>
      rw [hc] at q1
      rcases hC.mt c m with ⟨⟨F⟩⟩ | bad
      · exact ⟨_, mth_head g hC m1.rel m1.rv hc F, spD_of (F := C) (ρ2 := ρ1) m1.rel (rvs_1.mpr ⟨x, rfl, m1.rv⟩) F.ar q1⟩
      · have q2 : PQ G W σ ρ1 H1 Q (C "." [.str c, .str m, d] st1) := q1
        rw [bad] at q2
        exact q2.elim
  | cons e r =>
    have ok2 := ok
    rw [List.all_cons, Bool.and_eq_true] at ok2
    refine (pe_own (E := WE W) (k := k) (fun σ => passAt g.tk σ) g.room ho hs (baseE_eq hb) ?_ hl (okE_star ok2.1) (stars_no ok2.2)).weak fun σ H Q ⟨ρ, env, st, R, E, q⟩ => ⟨ρ, env, st, R, E, (PQ.bind q).imp fun x H1 ⟨d, st1, ρ1, m1, q1⟩ => ?_⟩
    · rw [stars_all ok]
      have : decide ((e :: r).length + ([] : List Keyword).length + (if ([] : List Keyword).isEmpty = true then 0 else 1) < 30) = true := by
        apply decide_eq_true
        simp at few ⊢
        omega
      rw [this]; rfl
    · cases hc : insOf d st1 with
      | none => rw [hc] at q1; exact q1.elim
      | some c =>
        rw [hc] at q1
        rcases hC.mt c m with ⟨⟨F⟩⟩ | bad
        · exact ⟨_, mth_head g hC m1.rel m1.rv hc F, ρ1, env, st1, m1.rel, E.mono m1.nx, (PLQ.bindN q1).imp fun vs H2 ⟨ds, st2, ρ2, n2, R2, r2, q2⟩ => spD_of (F := C) (ρ2 := ρ2) R2 (RVs.cons_ (RV.mono n2 _ m1.rv) r2) F.ar q2⟩
        · exact bindN_no (fun ds st => bad _ _) q1
/-! ### objects made -/
section
variable {pins : List (Addr × Obj)} {σ : L2.St} {H : Hp} {s : Shared} {Q : VK} {us : List Value} {vs : List V} {A0 f : Addr} {fd : FuncData} {ps : List Str} {sp : Sp} {E : L2.St → XK}
theorem run_makeS (M : Mk X.K A0 f) (F : FnOk X.prog X.w X.K X.mg X.base (L2.CX X.prog X.w) k f fd ps sp) (hr : Room (k + 1) X.A) (hb : Binds X.K fd ps [])
    (hx : PassesAt (L2.CX X.prog X.w) X σ (E σ)) (I : Inv X pins σ H s) (r : Vals vs us)
    (h : ∀ x dx, H x = none → H dx = none → dx ≠ x → sp (.ref x :: vs) (upd (upd H dx (.own x)) x (.ins A0 dx [])) (fun v H2 => v = .non ∧ Q (.ref x) H2) (E σ)) :
    wpAny (model X.prog X.w) X.A (call (.ref A0) us) (EP X pins σ Q) X.xe s := by
  have hq := h (s.heap.objs.size + 1) s.heap.objs.size (I.hok.fresh (Nat.le_succ _)) (I.hok.fresh (Nat.le_refl _)) (Nat.ne_of_lt (Nat.lt_succ_self _))
  have I2 := Inv.made (C := A0) I
  have r2 : Vals (V.ref (s.heap.objs.size + 1) :: vs) (Value.ref (s.heap.objs.size + 1) :: us) := .cons rfl r
  have hl : (Value.ref (s.heap.objs.size + 1) :: us ++ []).length = ps.length := by
    have e := r2.length
    rw [F.len _ _ _ _ hq] at e
    rw [List.append_nil]
    exact e.symm
  have b := hb _ (Value.ref (s.heap.objs.size + 1) :: us) I2.kIn hl
  rw [List.append_nil] at b
  refine wpAny_call (make_map (f := f) I.kIn M.makes M.init (beq_iff_eq.mp M.fn) (codeAny_mono (F.run _ X.stack _ _ ⟨Value.ref (s.heap.objs.size + 1) :: us, []⟩ (Value.ref (s.heap.objs.size + 1) :: us) _ _ (E σ) (hr.make A0 us [])
    (I2.env0.make A0 us []) b r2 hq) fun r s' hq' => ?_))
  cases r with
  | error e => exact hx pins _ _ e s' I2 hq'
  | ok fl =>
    cases fl with
    | ret u =>
      obtain ⟨v, H', I3, rv, ev, q3⟩ := I2.after hq'
      subst ev
      exact ⟨rv, ⟨V.ref (s.heap.objs.size + 1), H', I3, rfl, q3⟩⟩
    | next => exact False.elim hq'
    | brk => exact False.elim hq'
    | cont => exact False.elim hq'
end
def newF (C : Oracle) (c : Str) (h : Env → Store → ResL) : Env → Store → Res := fun env st => (h env st).bindN fun ds st => (C "." (.str c :: .str "__init__" :: .ref st.length :: ds) (st ++ [.ins c []])).bind fun d st' => match d with
  | .non => .ok (.ref st.length) st'
  | _ => .bad
theorem s_new (g : GoodX G X N sc W k) {fs : List Str} {C : Oracle} (hC : CallsOk G fs C k) {c : Str} {e : Expr} {es : List Expr} {h : Env → Store → ResL} {p q : Pos} (h1 : gloS sc c = true) (h2 : noDbg c = true) (ok : (e :: es).all okE = true) (hs : PA X (e :: es) (tA G W h)) :
    PE X (.Call (.Name c p) (e :: es) [] q) (tE G W (newF C c h)) := by
  have ok2 := ok
  rw [List.all_cons, Bool.and_eq_true] at ok2
  rcases hC.mt c "__init__" with ⟨⟨F⟩⟩ | bad
  · obtain ⟨M, hm⟩ := F.make_ rfl
    rw [← g.K] at M
    rw [← g.mg] at hm
    have Fo : FnOk X.prog X.w X.K X.mg X.base (L2.CX X.prog X.w) k F.a F.fd F.ps (spD G F.ps.length (fun ds => C "." (.str c :: .str "__init__" :: ds))) := by
      rw [g.prog, g.w, g.K, g.mg, g.base]; exact F.ok
    refine ⟨fun pins s σ H Q I ⟨ρ, env, st, R, E, q0⟩ => ?_⟩
    refine wpAny_Call_Name_kw (ld_glob I (g.glo c h1) hm ?_ (noDbg_1 h2))
    refine PySem.W.callWith_K (h₀ := X.base) I.ok.mod.kin M.kp (thn (hs.run q pins s σ H _ I ⟨ρ, env, st, R, E, PLQ.bindN q0⟩) fun us s1 ⟨vs, H1, I1, r, ds, st1, ρ1, n1, R1, r1, q1⟩ => ⟨I1.kIn, ?_⟩) (okE_star ok2.1) (stars_no ok2.2)
    refine run_makeS (E := WE W) M Fo g.room1 (by rw [g.K]; exact F.b) (passAt g.tk σ) I1 r fun x dx hx hdx ne => ?_
    have hx2 : (upd H1 dx (.own x)) x = none := by rw [upd_ne (Ne.symm ne)]; exact hx
    have R2 : Rel G ρ1 (upd H1 dx (.own x)) st1 := R1.laid hdx
    have n2 : Nx ρ1 H1 ρ1 (upd H1 dx (.own x)) := nx_laid hdx
    have n3 : Nx ρ1 H1 (ρ1 ++ [x]) (upd (upd H1 dx (.own x)) x (.ins (G.cls c) dx [])) := n2.trans (nx_new hx2)
    have R3 : Rel G (ρ1 ++ [x]) (upd (upd H1 dx (.own x)) x (.ins (G.cls c) dx [])) (st1 ++ [.ins c []]) := R2.new hx2 ⟨F.cl, (fun p hp => nomatch hp), dx, [], upd_same, rfl⟩
    have hx3 : (ρ1 ++ [x])[st1.length]? = some x := by rw [← R1.len]; simp
    refine spD_of (F := C) (ρ2 := ρ1 ++ [x]) R3 (RVs.cons_ (rv_ref.mpr ⟨x, rfl, hx3⟩) (RVs.mono n3 _ r1)) F.ar ((PQ.bind (PQ.at_ n3 q1)).imp fun v H3 ⟨d, st4, ρ4, m4, q4⟩ => ?_)
    cases d <;> first | exact q4.elim | skip
    exact ⟨rv_non.mp m4.rv, q4 (.ref x) ρ4 H3 .refl m4.rel (rv_ref.mpr ⟨x, rfl, m4.nx.at_ hx3⟩)⟩
  · exact PE.none fun σ H Q ⟨ρ, env, st, R, E, q⟩ => bindN_no (fun ds st => by rw [bad]; rfl) q
end
end Mi

set_option linter.all false
set_option maxRecDepth 100000
set_option maxHeartbeats 1000000
/-! All expressions. -/
namespace Mi
open PySem L2 PyProof.Rows

structure SE (G : Glob) (C : Oracle) (cs : Str → Option D) (W : WX) (X : Cx) (m : E) (e : Expr) : Prop where
  pe : PE X e (tE G W (evE C cs m))
  pt : PT X e (tT G W (evE C cs m))
structure SEs (G : Glob) (C : Oracle) (cs : Str → Option D) (W : WX) (X : Cx) (ms : Es) (l : List Expr) : Prop where
  ok : l.all okE = true
  pa : PA X l (tA G W (evEs C cs ms))
  and : ∀ p, l ≠ [] → PE X (.BoolOp .And l p) (tE G W (evAnd C cs ms)) ∧ PW X (.BoolOp .And l p) (tT G W (evAnd C cs ms))
  or : ∀ p, l ≠ [] → PE X (.BoolOp .Or l p) (tE G W (evOr C cs ms)) ∧ PW X (.BoolOp .Or l p) (tT G W (evOr C cs ms))
  ifs : l.length ≤ 1 → PTs X l (tT G W (evAll C cs ms))
  one : ∀ e, l = [e] → ∃ m, ms = .cons m .nil ∧ PE X e (tE G W (evE C cs m))
  nil : l = [] → ms = .nil
  bare : ms = .nil → l = []

section
variable {G : Glob} {fs : List Str} {C : Oracle} {cs : Str → Option D} {k : Nat} {X : Cx} {N : List Str} {sc : Scope} {W : WX}
theorem SE.of (g : GoodX G X N sc W k) {m : E} {e : Expr} (h : PE X e (tE G W (evE C cs m))) (hp : plainT e = true) : SE G C cs W X m e := ⟨h, pt_of g h hp⟩

theorem pt_ifx {c a b : Expr} {p : Pos} {tc t1 t2 : TT} (hc : PT X c tc) (ha : PT X a t1) (hb : PT X b t2) : PT X (.IfExp c a b p) (fun σ H Q => tc σ H fun d H1 => if d = true then t1 σ H1 Q else t2 σ H1 Q) := ⟨fun pins s σ H Q I h => by
  show wpAny _ _ (do if ← isTrue c X.env (eval c X.env) then isTrue a X.env (eval a X.env) else isTrue b X.env (eval b X.env)) _ _ s
  refine wpAny_bind (thn (hc.run pins s σ H _ I h) fun d s1 ⟨H1, I1, q1⟩ => ?_)
  cases d with
  | true => exact ha.run pins s1 σ H1 Q I1 q1
  | false => exact hb.run pins s1 σ H1 Q I1 q1⟩
theorem s_iteT (g : GoodX G X N sc W k) {c a b : Expr} {fc f h : Env → Store → Res} {p : Pos} (hc : PT X c (tT G W fc)) (ha : PT X a (tT G W f)) (hb : PT X b (tT G W h)) : PT X (.IfExp c a b p) (tT G W (iteF_ fc f h)) :=
  (pt_ifx hc ha hb).weak fun σ H Q ⟨ρ, env, st, R, E, q⟩ => ⟨ρ, env, st, R, E, PTQ.bind q (fun c st1 ρ1 H1 n R1 q1 => by
    cases c with
    | true => exact ⟨ρ1, env, st1, R1, E.mono n, q1⟩
    | false => exact ⟨ρ1, env, st1, R1, E.mono n, q1⟩) (fun d st1 hd => by cases d <;> first | rfl | exact absurd rfl (hd _))⟩
theorem se_mth1 (g : GoodX G X N sc W k) (hcs : ConstsOk G cs) {fs : List Str} {m : MI} {a m1 : E} {o e : Expr} {ap p : Pos} (sh : shapeOk m 1 = true) (ix : idxOk m a = true) (ha : mtE fs N sc a o = true) (hb : baseE o = true) (hl : (ap.endLine == p.line) = true) (ok : okE e = true) (ho : PE X o (tE G W (evE C cs a))) (he : PE X e (tE G W (evE C cs m1))) :
    PE X (.Call (.Attribute o (miName m) ap) [e] [] p) (tE G W (evE C cs (.mth m a (.cons m1 .nil)))) := by
  have hs : PA X [e] (tA G W (evEs C cs (.cons m1 .nil))) := s_cons ok he s_nil
  have okl : [e].all okE = true := by rw [List.all_cons, ok]; rfl
  have hix : m = .index → PE X (.Call (.Attribute o (miName m) ap) [e] [] p) (tE G W (evE C cs (.mth m a (.cons m1 .nil)))) := by
    rintro rfl
    cases a <;> first | (cases ix; done) | skip
    rename_i x
    simp only [mtE] at ha
    split at ha
    · rename_i y q
      simp only [Bool.and_eq_true, decide_eq_true_eq] at ha
      obtain ⟨⟨rfl, h2⟩, h3⟩ := ha
      obtain ⟨_, rfl⟩ := asName_eq q
      exact s_mthI g hcs h2 h3 hl ok hs
    · cases ha
  cases m <;> first
    | exact absurd sh (by decide)
    | exact hix rfl
    | exact s_mthL (m := .count) g (by simp) PySem.F.slot_list_count PySem.F.type_list_count (mt_countD g.K (by have := g.room.un; omega)) hb hl (by show 1 < 5; omega) okl ho hs
    | exact s_mthL (m := .append) g (by simp) PySem.F.slot_list_append PySem.F.type_list_append mt_appendD hb hl (by show 1 < 5; omega) okl ho hs
    | exact s_mthL (m := .pop) g (by simp) PySem.F.slot_list_pop PySem.F.type_list_pop mt_popD hb hl (by show 1 < 5; omega) okl ho hs
    | exact s_mthL (m := .extend) g (by simp) PySem.F.slot_list_extend PySem.F.type_list_extend mt_extendD hb hl (by show 1 < 5; omega) okl ho hs
    | exact s_mthS1 (m := .join) g (by simp) PySem.F.slot_str_join PySem.F.type_str_join (mt_joinD g.K) hb hl ok ho he
    | exact s_mthS1 (m := .split) g (by simp) PySem.F.slot_str_split PySem.F.type_str_split mt_splitD hb hl ok ho he
    | exact s_mthS1 (m := .partition) g (by simp) PySem.F.slot_str_partition PySem.F.type_str_partition mt_partitionD hb hl ok ho he
    | exact s_mthS1 (m := .startswith) g (by simp) PySem.F.slot_str_startswith PySem.F.type_str_startswith mt_startswithD hb hl ok ho he
    | exact s_mthS1 (m := .endswith) g (by simp) PySem.F.slot_str_endswith PySem.F.type_str_endswith mt_endswithD hb hl ok ho he
    | exact s_mthS1 (m := .removeprefix) g (by simp) PySem.F.slot_str_removeprefix PySem.F.type_str_removeprefix mt_removeprefixD hb hl ok ho he
theorem se_mth0 (g : GoodX G X N sc W k) {m : MI} {a : E} {o : Expr} {ap p : Pos} (sh : shapeOk m 0 = true) (hb : baseE o = true) (hl : (ap.endLine == p.line) = true) (ho : PE X o (tE G W (evE C cs a))) :
    PE X (.Call (.Attribute o (miName m) ap) [] [] p) (tE G W (evE C cs (.mth m a .nil))) := by
  cases m <;> first
    | exact absurd sh (by decide)
    | exact s_mthS0 (m := .isascii) g (by simp) PySem.F.slot_str_isascii PySem.F.type_str_isascii mt_isasciiD hb hl ho
    | exact s_mthS0 (m := .isdigit) g (by simp) PySem.F.slot_str_isdigit PySem.F.type_str_isdigit mt_isdigitD hb hl ho
end

section
variable {G : Glob} {fs : List Str} {C : Oracle} {cs : Str → Option D} {k : Nat} (hC : CallsOk G fs C k) (hp : Plain G) (hcs : ConstsOk G cs)
include hC hp hcs
mutual
theorem seE : ∀ (m : E) {X : Cx} {N : List Str} {sc : Scope} {W : WX}, GoodX G X N sc W k → ∀ {e : Expr}, mtE fs N sc m e = true → SE G C cs W X m e
  | .non, X, N, sc, W, g, e, h => by
    simp only [mtE] at h
    split at h
    · rename_i q
      obtain ⟨_, _, rfl⟩ := asConst_eq q
      exact .of g (s_const g pe_non fun ρ H => rv_non.mpr rfl) rfl
    · cases h
  | .bl b, X, N, sc, W, g, e, h => by
    simp only [mtE] at h
    split at h
    · rename_i c q
      obtain rfl := of_decide_eq_true h
      obtain ⟨_, _, rfl⟩ := asConst_eq q
      exact .of g (s_const g pe_bl fun ρ H => rv_bl.mpr rfl) rfl
    · cases h
  | .int i, X, N, sc, W, g, e, h => by
    simp only [mtE] at h
    split at h
    · rename_i c q
      obtain rfl := of_decide_eq_true h
      obtain ⟨_, _, rfl⟩ := asConst_eq q
      exact .of g (s_const g pe_int fun ρ H => rv_int.mpr rfl) rfl
    · cases h
  | .str x, X, N, sc, W, g, e, h => by
    simp only [mtE] at h
    split at h
    · rename_i c q
      obtain rfl := of_decide_eq_true h
      obtain ⟨_, _, rfl⟩ := asConst_eq q
      exact .of g (s_const g pe_str fun ρ H => rv_str.mpr rfl) rfl
    · cases h
  | .var i, X, N, sc, W, g, e, h => by
    simp only [mtE] at h
    split at h
    · rename_i x q
      simp only [Bool.and_eq_true, decide_eq_true_eq] at h
      obtain ⟨_, rfl⟩ := asName_eq q
      exact .of g (s_var g h.1.1 h.1.2 h.2) rfl
    · cases h
  | .glb y, X, N, sc, W, g, e, h => by
    simp only [mtE] at h
    split at h
    · rename_i x q
      simp only [Bool.and_eq_true, decide_eq_true_eq] at h
      obtain ⟨_, rfl⟩ := asName_eq q
      obtain ⟨⟨rfl, h2⟩, h3⟩ := h
      exact .of g (s_glb g hcs h2 h3) rfl
    · cases h
  | .un .neg a, X, N, sc, W, g, e, h => by
    simp only [mtE] at h
    split at h
    · rename_i a' q
      obtain ⟨_, rfl⟩ := asUn_eq q
      exact .of g (s_un g (seE a g h).pe) rfl
    · cases h
  | .bin op a b, X, N, sc, W, g, e, h => by
    simp only [mtE] at h
    split at h
    · rename_i a' o b' q
      simp only [Bool.and_eq_true] at h
      obtain ⟨_, rfl⟩ := asBin_eq q
      exact .of g (s_bin g h.1 (seE a g h.2.1).pe (seE b g h.2.2).pe) rfl
    · cases h
  | .cmp op a b, X, N, sc, W, g, e, h => by
    simp only [mtE] at h
    split at h
    · rename_i a' o b' q
      simp only [Bool.and_eq_true] at h
      obtain ⟨_, rfl⟩ := asCmp_eq q
      exact ⟨s_cmp g h.1.1 h.1.2 (seE a g h.2.1).pe (seE b g h.2.2).pe, s_cmpT g h.1.1 h.1.2 (seE a g h.2.1).pe (seE b g h.2.2).pe⟩
    · cases h
  | .chain op op' a b c, X, N, sc, W, g, e, h => by
    simp only [mtE] at h
    split at h
    · rename_i a' o b' o' c' q
      simp only [Bool.and_eq_true] at h
      obtain ⟨_, rfl⟩ := asChain_eq q
      have ha := (seE a g h.2.1).pe
      have hb := (seE b g h.2.2.1).pe
      have hc := (seE c g h.2.2.2).pe
      exact ⟨s_chain g h.1.1.1.1 h.1.1.1.2 h.1.2 ha hb hc, s_chainT g h.1.1.1.1 h.1.1.1.2 h.1.2 ha hb hc⟩
    · cases h
  | .and es, X, N, sc, W, g, e, h => by
    simp only [mtE] at h
    split at h
    · rename_i es' q
      obtain ⟨_, rfl⟩ := asBool_eq q
      have hs := seEs es g h
      by_cases he : es' = []
      · subst he
        have := hs.nil rfl
        subst this
        exact ⟨PE.none fun σ H Q ⟨ρ, env, st, R, E, q⟩ => q.elim, ⟨fun pins s σ H Q I ⟨ρ, env, st, R, E, q⟩ => q.elim⟩⟩
      · exact ⟨(hs.and _ he).1, (hs.and _ he).2.pt⟩
    · cases h
  | .or es, X, N, sc, W, g, e, h => by
    simp only [mtE] at h
    split at h
    · rename_i es' q
      obtain ⟨_, rfl⟩ := asBool_eq q
      have hs := seEs es g h
      by_cases he : es' = []
      · subst he
        have := hs.nil rfl
        subst this
        exact ⟨PE.none fun σ H Q ⟨ρ, env, st, R, E, q⟩ => q.elim, ⟨fun pins s σ H Q I ⟨ρ, env, st, R, E, q⟩ => q.elim⟩⟩
      · exact ⟨(hs.or _ he).1, (hs.or _ he).2.pt⟩
    · cases h
  | .not a, X, N, sc, W, g, e, h => by
    simp only [mtE] at h
    split at h
    · rename_i a' q
      obtain ⟨_, rfl⟩ := asUn_eq q
      exact ⟨s_not g (seE a g h).pe, s_notT g (seE a g h).pt⟩
    · cases h
  | .ite c a b, X, N, sc, W, g, e, h => by
    simp only [mtE] at h
    split at h
    · rename_i c' a' b' q
      simp only [Bool.and_eq_true] at h
      obtain ⟨_, rfl⟩ := asIf_eq q
      exact ⟨s_ite g (seE c g h.1).pt (seE a g h.2.1).pe (seE b g h.2.2).pe, s_iteT g (seE c g h.1).pt (seE a g h.2.1).pt (seE b g h.2.2).pt⟩
    · cases h
  | .tup es, X, N, sc, W, g, e, h => by
    simp only [mtE] at h
    split at h
    · rename_i es' q
      obtain ⟨_, _, rfl⟩ := asTup_eq q
      exact .of g (s_tup (seEs es g h).pa) rfl
    · cases h
  | .lst es, X, N, sc, W, g, e, h => by
    simp only [mtE] at h
    split at h
    · rename_i es' q
      obtain ⟨_, rfl⟩ := asLst_eq q
      exact .of g (s_lst (seEs es g h).pa) rfl
    · cases h
  | .dic _ .nil .nil, X, N, sc, W, g, e, h => by
    simp only [mtE] at h
    obtain ⟨_, rfl⟩ := asDict0_eq h
    exact .of g (s_dic g) rfl
  | .dic t (.cons k ks) vs, X, N, sc, W, g, e, h => by
    simp only [mtE] at h
    split at h
    · rename_i kvs ks' vs' q1 q2
      obtain ⟨_, rfl⟩ := asDict_eq q2
      exact .of g (s_dicL g q1 h) rfl
    · cases h
  | .dic _ .nil (.cons _ _), X, N, sc, W, g, e, h => by simp only [mtE] at h; cases h
  | .set0, X, N, sc, W, g, e, h => by
    simp only [mtE] at h
    split at h
    · rename_i f q
      simp only [Bool.and_eq_true, decide_eq_true_eq] at h
      obtain ⟨rfl, h1⟩ := h
      obtain ⟨_, _, rfl⟩ := asCall_eq q
      exact .of g (s_set0 g hp h1) rfl
    · cases h
  | .sadd a m, X, N, sc, W, g, e, h => by
    simp only [mtE] at h
    split at h
    · rename_i a' f e' q
      simp only [Bool.and_eq_true, decide_eq_true_eq] at h
      obtain ⟨⟨⟨rfl, h1⟩, h2⟩, h3, h4⟩ := h
      obtain ⟨ap, p, rfl, hl⟩ := asMth_eq q
      exact .of g (s_sadd g h1 hl h2 (seE a g h3).pe (seE m g h4).pe) rfl
    · cases h
  | .slen a, X, N, sc, W, g, e, h => by
    simp only [mtE] at h
    split at h
    · rename_i f a' q
      simp only [Bool.and_eq_true, decide_eq_true_eq] at h
      obtain ⟨⟨⟨rfl, h1⟩, h2⟩, h3⟩ := h
      obtain ⟨_, _, rfl⟩ := asCall_eq q
      exact .of g (s_slen g hp h1 h2 (seE a g h3).pe) rfl
    · cases h
  | .dget a b, X, N, sc, W, g, e, h => by
    simp only [mtE] at h
    split at h
    · rename_i a' b' q
      simp only [Bool.and_eq_true] at h
      obtain ⟨_, rfl⟩ := asSub_eq q
      exact .of g (s_dget g h.1 (seE a g h.2.1).pe (seE b g h.2.2).pe) rfl
    · cases h
  | .din n b a, X, N, sc, W, g, e, h => by
    simp only [mtE] at h
    split at h
    · rename_i b' o a' q
      simp only [Bool.and_eq_true, decide_eq_true_eq] at h
      obtain ⟨⟨rfl, h1⟩, h2, h3⟩ := h
      obtain ⟨_, rfl⟩ := asCmp_eq q
      exact ⟨s_din g h1 (seE b g h2).pe (seE a g h3).pe, s_dinT g h1 (seE b g h2).pe (seE a g h3).pe⟩
    · cases h
  | .dgetm a b c, X, N, sc, W, g, e, h => by
    simp only [mtE] at h
    split at h
    · rename_i a' f b' c' q
      simp only [Bool.and_eq_true, decide_eq_true_eq] at h
      obtain ⟨⟨⟨⟨rfl, h1⟩, h2⟩, h3⟩, h4, h5, h6⟩ := h
      obtain ⟨ap, p, rfl, hl⟩ := asMth_eq q
      exact .of g (s_dgetm g h1 hl h2 h3 (seE a g h4).pe (seE b g h5).pe (seE c g h6).pe) rfl
    · cases h
  | .idx a b, X, N, sc, W, g, e, h => by
    simp only [mtE] at h
    split at h
    · rename_i a' b' q
      simp only [Bool.and_eq_true] at h
      obtain ⟨_, rfl⟩ := asSub_eq q
      exact .of g (s_idx g h.1 (seE a g h.2.1).pe (seE b g h.2.2).pe) rfl
    · cases h
  | .slc a lo hi, X, N, sc, W, g, e, h => by
    simp only [mtE] at h
    split at h
    · rename_i a' lo' hi' q
      simp only [Bool.and_eq_true] at h
      obtain ⟨_, _, rfl⟩ := asSlc_eq q
      exact .of g (s_slc g (seE a g h.1).pe (seO lo g h.2.1) (seO hi g h.2.2)) rfl
    · cases h
  | .call f es, X, N, sc, W, g, e, h => by
    simp only [mtE] at h
    split at h
    · rename_i f' es' q
      simp only [Bool.and_eq_true, decide_eq_true_eq, Bool.not_eq_true'] at h
      obtain ⟨⟨⟨⟨⟨rfl, h1⟩, h2⟩, h3⟩, h4⟩, h5⟩ := h
      obtain ⟨_, _, rfl⟩ := asCall_eq q
      have hs := seEs es g h5
      cases es' with
      | nil => cases h4
      | cons e0 r => exact .of g (s_call g hC h1 h2 h3 hs.ok hs.pa) rfl
    · cases h
  | .bi f es, X, N, sc, W, g, e, h => by
    simp only [mtE] at h
    split at h
    · rename_i f' es' q
      simp only [Bool.and_eq_true, decide_eq_true_eq, Bool.not_eq_true'] at h
      obtain ⟨⟨⟨⟨rfl, h2⟩, h3⟩, h4⟩, h5⟩ := h
      obtain ⟨_, _, rfl⟩ := asCall_eq q
      have hs := seEs es g h5
      cases es' with
      | nil => cases h4
      | cons e0 r => exact .of g (s_bi g hp h2 hs.ok hs.pa) rfl
    · cases h
  | .mth m a es, X, N, sc, W, g, e, h => by
    simp only [mtE] at h
    split at h
    · rename_i a' m' es' q
      simp only [Bool.and_eq_true, decide_eq_true_eq] at h
      obtain ⟨⟨⟨⟨rfl, h1⟩, h2⟩, hx⟩, h3, h4⟩ := h
      obtain ⟨ap, p, rfl, hl⟩ := asMth_eq q
      have ho := (seE a g h3).pe
      have hs := seEs es g h4
      match es', h2, hs with
      | [], h2, hs =>
        have := hs.nil rfl
        subst this
        exact .of g (se_mth0 g h2 h1 hl ho) rfl
      | [e0], h2, hs =>
        obtain ⟨m1, rfl, he⟩ := hs.one e0 rfl
        have ok := hs.ok
        rw [List.all_cons, Bool.and_eq_true] at ok
        exact .of g (se_mth1 g hcs h2 hx h3 h1 hl ok.1 ho he) rfl
      | _ :: _ :: r, h2, hs => cases m <;> cases h2
    · cases h
  | .typeIs n a t, X, N, sc, W, g, e, h => by
    simp only [mtE] at h
    split at h
    · rename_i l o r q
      split at h
      · rename_i f a' t' q1 q2
        simp only [Bool.and_eq_true, decide_eq_true_eq] at h
        obtain ⟨⟨⟨⟨⟨⟨⟨⟨rfl, rfl⟩, h1⟩, h2⟩, h3⟩, h4⟩, h5⟩, h6⟩, h7⟩ := h
        obtain ⟨_, rfl⟩ := asCmp_eq q
        obtain ⟨_, _, rfl⟩ := asCall_eq q1
        obtain ⟨_, rfl⟩ := asName_eq q2
        exact ⟨s_typeIs g hp h6 h1 h4 h2 h5 (seE a g h7).pe, s_typeIsT g hp h6 h1 h4 h2 h5 (seE a g h7).pe⟩
      · cases h
    · cases h
  | .isin a t, X, N, sc, W, g, e, h => by
    simp only [mtE] at h
    split at h
    · rename_i f a' r q
      split at h
      · rename_i t' q2
        simp only [Bool.and_eq_true, decide_eq_true_eq] at h
        obtain ⟨⟨⟨⟨⟨⟨⟨rfl, rfl⟩, h1⟩, h2⟩, h3⟩, h4⟩, h5⟩, h7⟩ := h
        obtain ⟨_, _, rfl⟩ := asCall_eq q
        obtain ⟨_, rfl⟩ := asName_eq q2
        exact .of g (s_isin g hp h1 h4 h2 h5 (seE a g h7).pe) rfl
      · cases h
    · cases h
  | .lc own tg it cc elt, X, N, sc, W, g, e, h => by
    simp only [mtE] at h
    split at h
    · rename_i el tg' it' ifs sc' q
      simp only [Bool.and_eq_true, decide_eq_true_eq] at h
      obtain ⟨⟨⟨⟨h1, h2⟩, h3⟩, h4, h4b⟩, h5, h6, h7⟩ := h
      obtain ⟨_, rfl⟩ := asLC_eq q
      refine .of g (s_lc g h1 h2 h4 (seI it g h5 _ (fun z => by rw [z] at h4b; simpa using h4b)) (fun s H Cc cl fp => (seEs cc (good_blk g (blk_of g h1) s H Cc cl fp) h6).ifs h3) (fun s H Cc cl fp => (seE elt (good_blk g (blk_of g h1) s H Cc cl fp) h7).pe)) rfl
    · cases h
  | .fstr _, X, N, sc, W, g, e, h => by simp only [mtE] at h; cases h
  | .attr a f, X, N, sc, W, g, e, h => by
    simp only [mtE] at h
    split at h
    · rename_i a' f' q
      simp only [Bool.and_eq_true, decide_eq_true_eq] at h
      obtain ⟨⟨rfl, h1⟩, h2⟩ := h
      obtain ⟨_, rfl⟩ := asAttr_eq q
      exact .of g (s_attr g h1 (seE a g h2).pe) rfl
    · cases h
  | .new c es, X, N, sc, W, g, e, h => by
    simp only [mtE] at h
    split at h
    · rename_i f' es' q
      simp only [Bool.and_eq_true, decide_eq_true_eq, Bool.not_eq_true'] at h
      obtain ⟨⟨⟨⟨rfl, h2⟩, h3⟩, h4⟩, h5⟩ := h
      obtain ⟨_, _, rfl⟩ := asCall_eq q
      have hs := seEs es g h5
      cases es' with
      | nil => cases h4
      | cons e0 r => exact .of g (s_new g hC h2 h3 hs.ok hs.pa) rfl
    · cases h
  | .omth m a es, X, N, sc, W, g, e, h => by
    simp only [mtE] at h
    split at h
    · rename_i a' m' es' q
      simp only [Bool.and_eq_true, decide_eq_true_eq] at h
      obtain ⟨⟨⟨rfl, h1⟩, h2⟩, h3, h4⟩ := h
      obtain ⟨ap, p, rfl, hl⟩ := asMth_eq q
      have hs := seEs es g h4
      exact .of g (s_omth g hC h1 hl h2 hs.ok (fun z => by have := hs.nil z; subst this; rfl) (seE a g h3).pe hs.pa) rfl
    · cases h
theorem seEs : ∀ (ms : Es) {X : Cx} {N : List Str} {sc : Scope} {W : WX}, GoodX G X N sc W k → ∀ {l : List Expr}, mtEs fs N sc ms l = true → SEs G C cs W X ms l
  | .nil, X, N, sc, W, g, l, h => by
    cases l with
    | nil => exact ⟨rfl, s_nil, fun _ z => absurd rfl z, fun _ z => absurd rfl z, fun _ => s_ifs0, (fun _ z => nomatch z), fun _ => rfl, fun _ => rfl⟩
    | cons _ _ => simp only [mtEs] at h; cases h
  | .cons m ms, X, N, sc, W, g, l, h => by
    cases l with
    | nil => simp only [mtEs] at h; cases h
    | cons e es =>
      simp only [mtEs, Bool.and_eq_true] at h
      obtain ⟨h1, h2, h3⟩ := h
      have he := seE m g h2
      have hs := seEs ms g h3
      refine ⟨by rw [List.all_cons, h1, hs.ok]; rfl, s_cons h1 he.pe hs.pa, fun p _ => ?_, fun p _ => ?_, fun hl => ?_, fun e' z => ?_, (fun z => nomatch z), (fun z => nomatch z)⟩
      · cases es with
        | nil =>
          have := hs.nil rfl
          subst this
          exact ⟨pe_one he.pe, pw_and1 he.pt⟩
        | cons e2 r =>
          cases ms with
          | nil => cases hs.bare rfl
          | cons m2 mr =>
            have := hs.and p (by simp)
            exact ⟨s_and g he.pe this.1, s_andT g he.pt this.2⟩
      · cases es with
        | nil =>
          have := hs.nil rfl
          subst this
          exact ⟨pe_one he.pe, pw_or1 he.pt⟩
        | cons e2 r =>
          cases ms with
          | nil => cases hs.bare rfl
          | cons m2 mr =>
            have := hs.or p (by simp)
            exact ⟨s_or g he.pe this.1, s_orT g he.pt this.2⟩
      · cases es with
        | nil =>
          have := hs.nil rfl
          subst this
          exact s_ifs1 he.pt
        | cons e2 r => simp at hl
      · cases z
        have := hs.nil rfl
        subst this
        exact ⟨m, rfl, he.pe⟩
theorem seO : ∀ (m : Oe) {X : Cx} {N : List Str} {sc : Scope} {W : WX}, GoodX G X N sc W k → ∀ {e : Option Expr}, mtO fs N sc m e = true → PO X e (tO G (evO C cs m))
  | .none, X, N, sc, W, g, e, h => by
    cases e with
    | none => exact s_pnone
    | some _ => simp only [mtO] at h; cases h
  | .some m, X, N, sc, W, g, e, h => by
    cases e with
    | none => simp only [mtO] at h; cases h
    | some e => simp only [mtO] at h; exact s_psome (seE m g h).pe
theorem seI : ∀ (m : Ie) {X : Cx} {N : List Str} {sc : Scope} {W : WX}, GoodX G X N sc W k → ∀ {e : Expr}, mtI fs N sc m e = true → ∀ tg, (ieTup m = true → (asTup tg).isSome = true) → PI X tg e (tI G W (evI C cs m))
  | .exp m, X, N, sc, W, g, e, h, tg, ht => by
    simp only [mtI] at h
    exact s_any g (seE m g h).pe
  | .rng1 a, X, N, sc, W, g, e, h, tg, ht => by
    simp only [mtI] at h
    split at h
    · rename_i f a' q
      simp only [Bool.and_eq_true, decide_eq_true_eq] at h
      obtain ⟨⟨⟨rfl, h1⟩, h2⟩, h3⟩ := h
      obtain ⟨_, _, rfl⟩ := asCall_eq q
      exact s_rng1 g hp h1 h2 (seE a g h3).pe
    · cases h
  | .rng2 a b, X, N, sc, W, g, e, h, tg, ht => by
    simp only [mtI] at h
    split at h
    · rename_i f a' b' q
      simp only [Bool.and_eq_true, decide_eq_true_eq] at h
      obtain ⟨⟨⟨⟨rfl, h1⟩, h2⟩, h3⟩, h4, h5⟩ := h
      obtain ⟨_, _, rfl⟩ := asCall_eq q
      exact s_rng2 g hp h1 h2 h3 (seE a g h4).pe (seE b g h5).pe
    · cases h
  | .enm a lo, X, N, sc, W, g, e, h, tg, ht => by
    obtain ⟨es, hes⟩ := Option.isSome_iff_exists.mp (ht rfl)
    obtain ⟨_, _, rfl⟩ := asTup_eq hes
    simp only [mtI] at h
    split at h
    · rename_i f a' q
      simp only [Bool.and_eq_true, decide_eq_true_eq] at h
      obtain ⟨⟨⟨⟨rfl, rfl⟩, h1⟩, h2⟩, h3⟩ := h
      obtain ⟨_, _, rfl⟩ := asCall_eq q
      exact s_enm0 g hp.enum h1 h2 (seE a g h3).pe
    · split at h
      · rename_i a' i q
        simp only [Bool.and_eq_true, decide_eq_true_eq] at h
        obtain ⟨⟨⟨⟨⟨rfl, h0⟩, h1⟩, h2⟩, h3⟩, h4⟩ := h
        obtain ⟨_, _, _, _, _, rfl⟩ := asEnmK_eq q
        exact s_enmK g hp.enum h0 h1 rfl h2 h3 (seE a g h4).pe
      · cases h
  | .zip a b, X, N, sc, W, g, e, h, tg, ht => by
    obtain ⟨es, hes⟩ := Option.isSome_iff_exists.mp (ht rfl)
    obtain ⟨_, _, rfl⟩ := asTup_eq hes
    simp only [mtI] at h
    split at h
    · rename_i f a' b' q
      simp only [Bool.and_eq_true, decide_eq_true_eq] at h
      obtain ⟨⟨⟨⟨rfl, h1⟩, h2⟩, h3⟩, h4, h5⟩ := h
      obtain ⟨_, _, rfl⟩ := asCall_eq q
      exact s_zip g hp.zip_ h1 h2 h3 (seE a g h4).pe (seE b g h5).pe
    · cases h
end
end
end Mi

set_option linter.all false
set_option maxRecDepth 100000
set_option maxHeartbeats 1000000
/-! Statements. -/
namespace Mi
open PySem L2 PyProof.Rows

structure GoodS (G : Glob) (X : Cx) (N : List Str) (sc : Scope) (W : WX) (k : Nat) : Prop extends GoodX G X N sc W k where
  scq : X.env.scope = sc
  kind : sc.kind = .function
  po : PassesOwn (model X.prog X.w) X.A X.env X.xe
  stk : X.stack = X.env :: X.outer
  frm : X.env.frame = some X.env.locals

def POut (G : Glob) (W : WX) (Dn : Ends) (ρ : List Addr) (H : Hp) : Out → Prop
  | .nx env st => ∀ σ' ρ' H', Nx ρ H ρ' H' → Rel G ρ' H' st → REnv G.K ρ' H' σ' env → Dn.nx σ' H'
  | .rt d st => ∀ v ρ' H', Nx ρ H ρ' H' → Rel G ρ' H' st → RV G.K ρ' H' v d → Dn.rt v H'
  | .bk env st => ∀ σ' ρ' H', Nx ρ H ρ' H' → Rel G ρ' H' st → REnv G.K ρ' H' σ' env → Dn.bk σ' H'
  | .ct env st => ∀ σ' ρ' H', Nx ρ H ρ' H' → Rel G ρ' H' st → REnv G.K ρ' H' σ' env → Dn.ct σ' H'
  | .exc c env st => ∀ σ' ρ' H', Nx ρ H ρ' H' → Rel G ρ' H' st → REnv G.K ρ' H' σ' env → W (.ref (G.cls c)) none σ' H'
  | .bad => False
def tS (G : Glob) (W : WX) (f : Env → Store → Out) : TS := fun Dn σ H => ∃ ρ env st, Rel G ρ H st ∧ REnv G.K ρ H σ env ∧ POut G W Dn ρ H (f env st)
section
variable {G : Glob} {W : WX} {Dn : Ends} {ρ : List Addr} {H : Hp}
theorem POut.at_ {ρ1 : List Addr} {H1 : Hp} (n : Nx ρ H ρ1 H1) : ∀ {o : Out}, POut G W Dn ρ H o → POut G W Dn ρ1 H1 o
  | .nx env st, h => fun σ' ρ' H' n' => h σ' ρ' H' (n.trans n')
  | .rt d st, h => fun v ρ' H' n' => h v ρ' H' (n.trans n')
  | .bk env st, h => fun σ' ρ' H' n' => h σ' ρ' H' (n.trans n')
  | .ct env st, h => fun σ' ρ' H' n' => h σ' ρ' H' (n.trans n')
  | .exc c env st, h => fun σ' ρ' H' n' => h σ' ρ' H' (n.trans n')
  | .bad, h => h
theorem POut.bindO {σ : L2.St} {env : Env} (E : REnv G.K ρ H σ env) {c : D → Store → Out} : ∀ {f : Res}, POut G W Dn ρ H (f.bindO env c) → PQ G W σ ρ H (fun v H1 => ∃ d st1 ρ1, Mid G ρ H v H1 d st1 ρ1 ∧ POut G W Dn ρ1 H1 (c d st1)) f
  | .ok d st, h => fun v ρ' H' n R r => ⟨d, st, ρ', ⟨n, R, r⟩, POut.at_ n h⟩
  | .exc x st, h => fun ρ' H' n R => h σ ρ' H' n R (E.mono n)
  | .bad, h => h
theorem _root_.L2.PS.weak {X : Cx} {s : Stmt} {t t' : TS} (h : PS X s t) (w : ∀ Dn σ H, t' Dn σ H → t Dn σ H) : PS X s t' := ⟨fun pins s σ H Dn I q => h.run pins s σ H Dn I (w Dn σ H q)⟩
theorem _root_.L2.PSs.weak {X : Cx} {s : List Stmt} {t t' : TS} (h : PSs X s t) (w : ∀ Dn σ H, t' Dn σ H → t Dn σ H) : PSs X s t' := ⟨fun pins s σ H Dn I q => h.run pins s σ H Dn I (w Dn σ H q)⟩
end

section
variable {G : Glob} {X : Cx} {N : List Str} {sc : Scope} {W : WX} {k : Nat}

theorem t_expr (g : GoodS G X N sc W k) {e : Expr} {f : Env → Store → Res} {p : Pos} (he : PE X e (tE G W f)) (nc : notComp e = true) : PS X (.Expr e p) (tS G W fun env st => (f env st).bindO env fun _ st => .nx env st) :=
  (ps_expr he (notComp_eq nc)).weak fun Dn σ H ⟨ρ, env, st, R, E, q⟩ => ⟨ρ, env, st, R, E, (POut.bindO E q).imp fun v H1 ⟨d, st1, ρ1, m, q1⟩ => q1 σ ρ1 H1 .refl m.rel (E.mono m.nx)⟩
theorem t_ret (g : GoodS G X N sc W k) {e : Expr} {f : Env → Store → Res} {p : Pos} (he : PE X e (tE G W f)) : PS X (.Return (some e) p) (tS G W fun env st => (f env st).bindO env fun d st => .rt d st) :=
  (ps_ret he).weak fun Dn σ H ⟨ρ, env, st, R, E, q⟩ => ⟨ρ, env, st, R, E, (POut.bindO E q).imp fun v H1 ⟨d, st1, ρ1, m, q1⟩ => q1 v ρ1 H1 .refl m.rel m.rv⟩
theorem t_ret0 {p : Pos} : PS X (.Return none p) (tS G W fun env st => .rt .non st) :=
  ps_retN.weak fun Dn σ H ⟨ρ, env, st, R, E, q⟩ => q _ ρ H .refl R (rv_non.mpr rfl)
theorem t_pass {p : Pos} : PS X (.Pass p) (tS G W fun env st => .nx env st) := ps_pass.weak fun Dn σ H ⟨ρ, env, st, R, E, q⟩ => q σ ρ H .refl R E
theorem t_brk {p : Pos} : PS X (.Break p) (tS G W fun env st => .bk env st) := ps_break.weak fun Dn σ H ⟨ρ, env, st, R, E, q⟩ => q σ ρ H .refl R E
theorem t_cnt {p : Pos} : PS X (.Continue p) (tS G W fun env st => .ct env st) := ps_continue.weak fun Dn σ H ⟨ρ, env, st, R, E, q⟩ => q σ ρ H .refl R E
theorem t_nil : PSs X [] (tS G W fun env st => .nx env st) := pss_nil.weak fun Dn σ H ⟨ρ, env, st, R, E, q⟩ => q σ ρ H .refl R E
def seqF (f h : Env → Store → Out) : Env → Store → Out := fun env st => match f env st with
  | .nx env st => h env st
  | o => o
theorem t_cons {s : Stmt} {ss : List Stmt} {f h : Env → Store → Out} (hs : PS X s (tS G W f)) (hr : PSs X ss (tS G W h)) : PSs X (s :: ss) (tS G W (seqF f h)) :=
  (pss_cons hs hr).weak fun Dn σ H ⟨ρ, env, st, R, E, q⟩ => ⟨ρ, env, st, R, E, by
    unfold seqF at q
    cases hf : f env st with
    | nx env1 st1 =>
      rw [hf] at q
      exact fun σ' ρ' H' n R' E' => ⟨ρ', env1, st1, R', E', POut.at_ n q⟩
    | rt d st1 => rw [hf] at q; exact q
    | bk env1 st1 => rw [hf] at q; exact q
    | ct env1 st1 => rw [hf] at q; exact q
    | exc c env1 st1 => rw [hf] at q; exact q
    | bad => rw [hf] at q; exact q⟩
def iffF (c : Env → Store → Res) (f h : Env → Store → Out) : Env → Store → Out := fun env st => (c env st).bindO env fun x st => match truth st x with
  | some true => f env st
  | some false => h env st
  | none => .bad
theorem t_if {c : Expr} {a b : List Stmt} {fc : Env → Store → Res} {f h : Env → Store → Out} {p : Pos} (hc : PT X c (tT G W fc)) (ha : PSs X a (tS G W f)) (hb : PSs X b (tS G W h)) : PS X (.If c a b p) (tS G W (iffF fc f h)) :=
  (ps_if hc ha hb).weak fun Dn σ H ⟨ρ, env, st, R, E, q⟩ => ⟨ρ, env, st, R, E, by
    unfold iffF at q
    cases hf : fc env st with
    | ok d st1 =>
      simp only [hf, Res.bindO_ok] at q
      cases ht : truth st1 d with
      | none => rw [ht] at q; exact q.elim
      | some z =>
        rw [ht] at q
        refine ⟨z, ht, fun ρ1 H1 n1 R1 => ?_⟩
        cases z with
        | true => exact ⟨ρ1, env, st1, R1, E.mono n1, POut.at_ n1 q⟩
        | false => exact ⟨ρ1, env, st1, R1, E.mono n1, POut.at_ n1 q⟩
    | exc c st1 => simp only [hf, Res.bindO_exc] at q; exact fun ρ' H' n R' => q σ ρ' H' n R' (E.mono n)
    | bad => simp only [hf, Res.bindO_bad] at q; exact q⟩

/-! ### assignments -/
theorem notComp_sole {t e : Expr} {l : Nat} {env : PySem.Env} (h : notComp e = true) : swapsWithSole [t] e l env = pure false := by
  unfold swapsWithSole
  exact notComp_eq h
def setF (i : Nat) (f : Env → Store → Res) : Env → Store → Out := fun env st => (f env st).bindO env fun d st => .nx (env.set i (some d)) st
theorem set_run {i : Nat} {f : Env → Store → Res} {Dn : Ends} {σ : L2.St} {H : Hp} (q : tS G W (setF i f) Dn σ H) : tE G W f σ H (fun x H1 => gName i x σ H1 Dn.nx) := by
  obtain ⟨ρ, env, st, R, E, q⟩ := q
  exact ⟨ρ, env, st, R, E, (POut.bindO E q).imp fun v H1 ⟨d, st1, ρ1, m, q1⟩ => q1 _ ρ1 H1 .refl m.rel ((E.mono m.nx).set i m.rv)⟩
theorem t_set (g : GoodS G X N sc W k) {i : Nat} {x : Str} {e : Expr} {f : Env → Store → Res} {p p' : Pos} (h1 : N[i]? = some x) (h2 : locS sc x = true) (he : PE X e (tE G W f)) (hs : swapsWith e (some (.Name x p')) p.line X.env = pure false) : PS X (.Assign [.Name x p'] e p) (tS G W (setF i f)) :=
  (ps_asg he (pg_one g.toN h1 h2) hs).weak fun Dn σ H q => set_run q
theorem t_setLc (g : GoodS G X N sc W k) {i : Nat} {y : Str} {py sp : Pos} {sc' : Scope} {own : List (Str × Nat)} {tg : Tg} {tg' it elt : Expr} {ifs : List Expr} {p : Pos} {fi : Env → Store → ItR} {fc fe : Env → Store → Res} (hy : N[i]? = some y) (hyl : sc.names.lookup y = some .local)
    (hsw : swapsWith (.ListComp elt [⟨tg', it, ifs, 0⟩] sc' p) (some (.Name y py)) sp.line X.env = pure true) (hb : blkC N sc sc' own = true) (ht : mtT N sc' tg tg' = true) (oki : okE it = true)
    (hi : PI X tg' it (tI G W fi))
    (hc : ∀ (s : Shared) (H : Hp) (C : Addr) (cl : List (Str × Addr)) (fp : List Addr), PTs (X.blk s H sc' (compEnvC sc' cl C X.env) fp) ifs (tT G W0 fc))
    (he : ∀ (s : Shared) (H : Hp) (C : Addr) (cl : List (Str × Addr)) (fp : List Addr), PE (X.blk s H sc' (compEnvC sc' cl C X.env) fp) elt (tE G W0 fe)) :
    PS X (.Assign [.Name y py] (.ListComp elt [⟨tg', it, ifs, 0⟩] sc' p) sp) (tS G W (setF i (lcF (own.map (·.2)) tg fi fc fe))) :=
  (s_setLc g.toGoodX hy (by rw [g.scq]; exact hyl) hsw hb ht oki hi hc he).weak fun Dn σ H q => lc_run g.toGoodX (blk_of g.toGoodX hb) ht (set_run q)
def unpF (is : List Nat) (f : Env → Store → Res) : Env → Store → Out := fun env st => (f env st).bindO env fun d st => match d with
  | .tup ds => (match setMany is ds env with
    | some env => .nx env st
    | none => .bad)
  | _ => .bad
def notTup : Expr → Bool
  | .Tuple .. => false
  | _ => true
theorem swapped_none {es : List Expr} {kk : Nat} {p : Pos} {e : Expr} {env : PySem.Env} (h : notTup e = true) : swappedStores [.Tuple es kk p] e env = pure none := by
  cases e <;> first | rfl | cases h
theorem t_unp (g : GoodS G X N sc W k) {is : List Nat} {tg e : Expr} {f : Env → Store → Res} {p : Pos} (ht : mtT N sc (.tup is) tg = true) (nt : notTup e = true) (nc : notComp e = true) (he : PE X e (tE G W f)) : PS X (.Assign [tg] e p) (tS G W (unpF is f)) := by
  have ht0 := ht
  simp only [mtT] at ht
  cases q : asTup tg with
  | none => rw [q] at ht; cases ht
  | some es =>
    obtain ⟨kk, p', rfl⟩ := asTup_eq q
    refine (ps_asg he (s_tg (G := G) (tg := .tup is) g.K g.toN ht0) (notComp_sole nc) (swapped_none nt)).weak fun Dn σ H ⟨ρ, env, st, R, E, q⟩ => ⟨ρ, env, st, R, E, (POut.bindO E q).imp fun v H1 ⟨d, st1, ρ1, m, q1⟩ => ?_⟩
    cases d <;> try (exact q1.elim)
    rename_i ds
    simp only at q1
    cases hm : setMany is ds env with
    | none => rw [hm] at q1; exact q1.elim
    | some env' =>
      rw [hm] at q1
      exact ⟨ρ1, env, _, env', m.rv, E.mono m.nx, hm, fun σ' E' _ => q1 σ' ρ1 H1 .refl m.rel E'⟩
def setIxF (fo fi f : Env → Store → Res) : Env → Store → Out := fun env st => (f env st).bindO env fun d st => (fo env st).bindO env fun x st => (fi env st).bindO env fun y st => match setIxop x y d st with
  | some st => .nx env st
  | none => .bad
theorem setIx_run {ρ : List Addr} {H : Hp} {st st' : Store} {x y v : V} {dx dy d : D} {Q : Hp → Prop} (R : Rel G ρ H st) (hx : RV G.K ρ H x dx) (hy : RV G.K ρ H y dy) (hv : RV G.K ρ H v d) (e : setIxop dx dy d st = some st') (q : ∀ ρ' H', Nx ρ H ρ' H' → Rel G ρ' H' st' → Q H') : rSetL x y v H Q := by
  unfold setIxop at e
  split at e
  · rename_i n kk
    split at e
    · rename_i xs hxs
      split at e
      · rename_i j hj
        cases e
        obtain ⟨a, rfl, ha⟩ := rv_ref.mp hx
        have := rv_int.mp hy
        subst this
        obtain ⟨vs, h1, r1⟩ := R.lstAt ha hxs
        have n1 : Nx ρ H ρ (upd H a (.lst (vs.set j v))) := nx_put R ha
        exact ⟨a, vs, kk, j, rfl, rfl, h1, by rw [r1.length]; exact hj, q ρ _ n1 (R.put ha ⟨_, upd_same, RVs.mono n1 _ (RVs.set j hv r1)⟩)⟩
      · cases e
    · cases e
  · cases e
theorem okE_asg {o i : Expr} {p : Pos} {env : PySem.Env} (h : okE i = true) : ∀ v, assign (.Subscript o i p) env v = (do
      let ov ← holding [v] (eval o env)
      let iv ← holding [v, ov] (eval i env)
      standAt p
      holding [v, ov, iv] (setItem ov iv v)
      release [v, ov, iv] []) := by
  intro v
  cases i <;> first | rfl | cases h
theorem t_setIx (g : GoodS G X N sc W k) {o i e : Expr} {fo fi f : Env → Store → Res} {p p' : Pos} (oki : okE i = true) (ho : PE X o (tE G W fo)) (hi : PE X i (tE G W fi)) (he : PE X e (tE G W f)) (nc : notComp e = true) : PS X (.Assign [.Subscript o i p'] e p) (tS G W (setIxF fo fi f)) :=
  (ps_asg he (pg_sub ho hi set_list (okE_asg oki)) (notComp_sole nc)).weak fun Dn σ H ⟨ρ, env, st, R, E, q⟩ => ⟨ρ, env, st, R, E, (POut.bindO E q).imp fun v H1 ⟨d, st1, ρ1, m1, q1⟩ =>
    ⟨ρ1, env, st1, m1.rel, E.mono m1.nx, (POut.bindO (E.mono m1.nx) q1).imp fun x H2 ⟨dx, st2, ρ2, m2, q2⟩ => ⟨ρ2, env, st2, m2.rel, E.mono (m1.nx.trans m2.nx), (POut.bindO (E.mono (m1.nx.trans m2.nx)) q2).imp fun y H3 ⟨dy, st3, ρ3, m3, q3⟩ => by
      cases hz : setIxop dx dy d st3 with
      | none => rw [hz] at q3; exact q3.elim
      | some st4 =>
        rw [hz] at q3
        exact setIx_run m3.rel (RV.mono m3.nx _ m2.rv) m3.rv (RV.mono (m2.nx.trans m3.nx) _ m1.rv) hz fun ρ4 H4 n4 R4 => q3 σ ρ4 H4 n4 R4 (E.mono (m1.nx.trans (m2.nx.trans (m3.nx.trans n4))))⟩⟩⟩

/-! ### loops -/
def bodyF (tg : Tg) (f : Env → Store → Out) : D → Env → Store → Out := fun x env st => match tgSet tg x env with
  | some env => f env st
  | none => .bad
noncomputable def forF (tg : Tg) (fi : Env → Store → ItR) (f : Env → Store → Out) : Env → Store → Out := fun env st => match fi env st with
  | .ok xs gd st => forL (bodyF tg f) gd xs env st
  | .exc c st => .exc c env st
  | .bad => .bad
theorem t_for (g : GoodS G X N sc W k) {tg : Tg} {tg' it : Expr} {b : List Stmt} {fi : Env → Store → ItR} {f : Env → Store → Out} {p : Pos} (ht : mtT N sc tg tg' = true) (hi : PI X tg' it (tI G W fi)) (hb : PSs X b (tS G W f)) (oki : okE it = true) :
    PS X (.For tg' it b [] p) (tS G W (forF tg fi f)) := by
  refine (ps_for (hs := fun x => okE_fold oki) g.po g.calm hi (s_tg (G := G) (tg := tg) g.K g.toN ht) hb).weak fun Dn σ H ⟨ρ, env, st, R, E, q⟩ => ⟨ρ, env, st, R, E, ?_⟩
  unfold forF at q
  cases hf : fi env st with
  | exc c st1 => simp only [hf] at q; exact fun ρ' H' n R' => q σ ρ' H' n R' (E.mono n)
  | bad => simp only [hf] at q; exact q.elim
  | ok items gd st1 =>
    simp only [hf] at q
    intro ρ1 H1 J n1 R1 T
    refine ⟨fun i m σ' H' => ∃ ρ' env' st', Nx ρ1 H1 ρ' H' ∧ Rel G ρ' H' st' ∧ REnv G.K ρ' H' σ' env' ∧ i ≤ items.length ∧ m = items.length - i ∧ POut G W Dn ρ' H' (forL (bodyF tg f) gd (items.drop i) env' st'),
      ⟨items.length, ρ1, env, st1, .refl, R1, E.mono n1, Nat.zero_le _, by omega, by rw [List.drop_zero]; exact POut.at_ n1 q⟩, ?_⟩
    rintro i m σ' H' ⟨ρ', env', st', n3, R3, E3, hle, rfl, q3⟩
    by_cases hlt : i < items.length
    · rw [List.drop_eq_getElem_cons hlt] at q3
      unfold forL at q3
      split at q3
      · rename_i gok
        refine .inr ⟨T.go i ρ' H' st' n3 R3 gok hlt, fun σ'' H'' => ∃ ρ'' env'' st'', Nx ρ1 H1 ρ'' H'' ∧ Rel G ρ'' H'' st'' ∧ REnv G.K ρ'' H'' σ'' env'' ∧ POut G W Dn ρ'' H'' (forL (bodyF tg f) gd (items.drop (i + 1)) env'' st''),
          fun σ'' H'' ⟨ρ'', env'', st'', a, b, e, c⟩ => ⟨items.length - (i + 1), by omega, ρ'', env'', st'', a, b, e, hlt, rfl, c⟩, fun x H4 hy => ?_⟩
        obtain ⟨ρ4, n4, R4, r4⟩ := T.yld i ρ' H' st' x H4 items[i] n3 R3 gok (by simp [hlt]) hy
        have q4 := POut.at_ n4 q3
        unfold bodyF at q4
        cases ht2 : tgSet tg items[i] env' with
        | none => simp only [ht2] at q4; exact q4.elim
        | some env2 =>
          simp only [ht2] at q4
          refine ⟨ρ4, env', items[i], env2, r4, E3.mono n4, ht2, fun σ5 E5 b5 => ⟨ρ4, env2, st', R4, E5, ?_⟩⟩
          cases hb2 : f env2 st' with
          | nx e s => simp only [hb2] at q4; exact fun σ6 ρ6 H6 n6 R6 E6 => ⟨ρ6, e, s, n3.trans (n4.trans n6), R6, E6, POut.at_ n6 q4⟩
          | ct e s => simp only [hb2] at q4; exact fun σ6 ρ6 H6 n6 R6 E6 => ⟨ρ6, e, s, n3.trans (n4.trans n6), R6, E6, POut.at_ n6 q4⟩
          | bk e s => simp only [hb2] at q4; exact q4
          | rt d s => simp only [hb2] at q4; exact q4
          | exc c e s => simp only [hb2] at q4; exact q4
          | bad => simp only [hb2] at q4; exact q4
      · exact q3.elim
    · have e : i = items.length := by omega
      subst e
      rw [List.drop_length] at q3
      unfold forL at q3
      split at q3
      · rename_i gok
        exact .inl ⟨T.stop _ ρ' H' st' n3 R3 gok (Nat.le_refl _), q3 σ' ρ' H' .refl R3 E3⟩
      · exact q3.elim
def condF (fc : Env → Store → Res) : Env → Store → Res := fun env st => match fc env st with
  | .ok d st => (match truth st d with
    | some t => .ok (.bl t) st
    | none => .bad)
  | r => r
theorem t_whl (g : GoodS G X N sc W k) {c : Expr} {b : List Stmt} {fc : Env → Store → Res} {f : Env → Store → Out} {wf : Nat} {p : Pos} (hc : PT X c (tT G W fc)) (hb : PSs X b (tS G W f)) :
    PS X (.While c b [] p) (tS G W fun env st => whlL (condF fc) f wf env st) := by
  refine (ps_while g.po hc hb).weak fun Dn σ H ⟨ρ, env, st, R, E, q⟩ => ?_
  refine ⟨fun m σ' H' => ∃ ρ' env' st', Rel G ρ' H' st' ∧ REnv G.K ρ' H' σ' env' ∧ POut G W Dn ρ' H' (whlL (condF fc) f m env' st'), ⟨wf, ρ, env, st, R, E, q⟩, ?_⟩
  rintro m σ' H' ⟨ρ', env', st', R', E', q'⟩
  cases m with
  | zero => exact q'.elim
  | succ m =>
    unfold whlL at q'
    refine ⟨ρ', env', st', R', E', ?_⟩
    unfold condF at q'
    cases hf : fc env' st' with
    | ok d st1 =>
      simp only [hf] at q'
      cases ht : truth st1 d with
      | none => simp only [ht] at q'; exact q'.elim
      | some z =>
        simp only [ht] at q'
        refine ⟨z, ht, fun ρ1 H1 n1 R1 => ?_⟩
        cases z with
        | false => exact (POut.at_ n1 q') σ' ρ1 H1 .refl R1 (E'.mono n1)
        | true =>
          simp only at q'
          refine ⟨fun σ'' H'' => ∃ ρ'' env'' st'', Rel G ρ'' H'' st'' ∧ REnv G.K ρ'' H'' σ'' env'' ∧ POut G W Dn ρ'' H'' (whlL (condF fc) f m env'' st''), fun σ'' H'' w => ⟨m, Nat.lt_succ_self m, w⟩, ρ1, env', st1, R1, E'.mono n1, ?_⟩
          have q2 := POut.at_ n1 q'
          cases hb2 : f env' st1 with
          | nx e s => simp only [hb2] at q2; exact fun σ6 ρ6 H6 n6 R6 E6 => ⟨ρ6, e, s, R6, E6, POut.at_ n6 q2⟩
          | ct e s => simp only [hb2] at q2; exact fun σ6 ρ6 H6 n6 R6 E6 => ⟨ρ6, e, s, R6, E6, POut.at_ n6 q2⟩
          | bk e s => simp only [hb2] at q2; exact q2
          | rt d s => simp only [hb2] at q2; exact q2
          | exc c e s => simp only [hb2] at q2; exact q2
          | bad => simp only [hb2] at q2; exact q2
    | exc c st1 => simp only [hf] at q'; exact fun ρ1 H1 n R1 => q' σ' ρ1 H1 n R1 (E'.mono n)
    | bad => simp only [hf] at q'; exact q'
end
end Mi

set_option linter.all false
set_option maxRecDepth 100000
set_option maxHeartbeats 1000000
/-! Statements that store in dicts; += at an index. -/
namespace Mi
open PySem L2 PyProof.Rows PySem.Spec
section
variable {G : Glob} {ρ : List Addr} {H : Hp} {st : Store}
theorem rks_any {z : Key} : ∀ {vs : List (Key × V)} {kvs : List (D × D)}, RKs G.K ρ H vs kvs → (kvs.any fun p => decide (keyOf false p.1 = some [z])) = (vs.any fun p => decide (p.1 = z))
  | _, [], h => by cases h; rfl
  | _, (k, d) :: kvs, h => by
    obtain ⟨y, v, r, rfl, h0, h1, h2⟩ := h
    rw [List.any_cons, List.any_cons, rks_any h2]
    congr 1
    simp [keyOf, h0]
theorem rts_any {z : List Key} : ∀ {vs : List (List Key × V)} {kvs : List (D × D)}, RTs G.K ρ H vs kvs → (kvs.any fun p => decide (keyOf true p.1 = some z)) = (vs.any fun p => decide (p.1 = z))
  | _, [], h => by cases h; rfl
  | _, (k, d) :: kvs, h => by
    obtain ⟨y, v, r, rfl, h0, h1, h2⟩ := h
    rw [List.any_cons, List.any_cons, rts_any h2]
    congr 1
    simp [keyOf, h0]
theorem rks_map {z : Key} {w : V} {e : D} (hw : RV G.K ρ H w e) : ∀ {vs : List (Key × V)} {kvs : List (D × D)}, RKs G.K ρ H vs kvs → RKs G.K ρ H (vs.map fun kv => if kv.1 = z then (kv.1, w) else kv) (kvs.map fun p => if keyOf false p.1 = some [z] then (p.1, e) else p)
  | _, [], h => by cases h; rfl
  | _, (k, d) :: kvs, h => by
    obtain ⟨y, v, r, rfl, h0, h1, h2⟩ := h
    rw [List.map_cons, List.map_cons]
    by_cases c : y = z
    · have c' : keyOf false k = some [z] := by simp [keyOf, h0, c]
      rw [if_pos c, if_pos c']
      exact ⟨y, w, _, rfl, h0, hw, rks_map hw h2⟩
    · have c' : ¬ keyOf false k = some [z] := by simp [keyOf, h0, c]
      rw [if_neg c, if_neg c']
      exact ⟨y, v, _, rfl, h0, h1, rks_map hw h2⟩
theorem rts_map {z : List Key} {w : V} {e : D} (hw : RV G.K ρ H w e) : ∀ {vs : List (List Key × V)} {kvs : List (D × D)}, RTs G.K ρ H vs kvs → RTs G.K ρ H (vs.map fun kv => if kv.1 = z then (kv.1, w) else kv) (kvs.map fun p => if keyOf true p.1 = some z then (p.1, e) else p)
  | _, [], h => by cases h; rfl
  | _, (k, d) :: kvs, h => by
    obtain ⟨y, v, r, rfl, h0, h1, h2⟩ := h
    rw [List.map_cons, List.map_cons]
    by_cases c : y = z
    · have c' : keyOf true k = some z := by simp [keyOf, h0, c]
      rw [if_pos c, if_pos c']
      exact ⟨y, w, _, rfl, h0, hw, rts_map hw h2⟩
    · have c' : ¬ keyOf true k = some z := by simp [keyOf, h0, c]
      rw [if_neg c, if_neg c']
      exact ⟨y, v, _, rfl, h0, h1, rts_map hw h2⟩
theorem rks_end {z : Key} {w : V} {k e : D} (hk : keyD k = some z) (hw : RV G.K ρ H w e) : ∀ {vs : List (Key × V)} {kvs : List (D × D)}, RKs G.K ρ H vs kvs → RKs G.K ρ H (vs ++ [(z, w)]) (kvs ++ [(k, e)])
  | _, [], h => by cases h; exact ⟨z, w, [], rfl, hk, hw, rfl⟩
  | _, (k', d) :: kvs, h => by
    obtain ⟨y, v, r, rfl, h0, h1, h2⟩ := h
    exact ⟨y, v, _, rfl, h0, h1, rks_end hk hw h2⟩
theorem rts_end {z : List Key} {w : V} {k e : D} (hk : keyT k = some z) (hw : RV G.K ρ H w e) : ∀ {vs : List (List Key × V)} {kvs : List (D × D)}, RTs G.K ρ H vs kvs → RTs G.K ρ H (vs ++ [(z, w)]) (kvs ++ [(k, e)])
  | _, [], h => by cases h; exact ⟨z, w, [], rfl, hk, hw, rfl⟩
  | _, (k', d) :: kvs, h => by
    obtain ⟨y, v, r, rfl, h0, h1, h2⟩ := h
    exact ⟨y, v, _, rfl, h0, h1, rts_end hk hw h2⟩
theorem rks_put {z : Key} {w : V} {k e : D} (hk : keyD k = some z) (hw : RV G.K ρ H w e) {vs : List (Key × V)} {kvs : List (D × D)} (h : RKs G.K ρ H vs kvs) : RKs G.K ρ H (putK vs z w) (dPut false kvs k [z] e) := by
  unfold putK dPut
  rw [rks_any h]
  split
  · exact rks_map hw h
  · exact rks_end hk hw h
theorem rts_put {z : List Key} {w : V} {k e : D} (hk : keyT k = some z) (hw : RV G.K ρ H w e) {vs : List (List Key × V)} {kvs : List (D × D)} (h : RTs G.K ρ H vs kvs) : RTs G.K ρ H (putK vs z w) (dPut true kvs k z e) := by
  unfold putK dPut
  rw [rts_any h]
  split
  · exact rts_map hw h
  · exact rts_end hk hw h
theorem rks_len : ∀ {vs : List (Key × V)} {kvs : List (D × D)}, RKs G.K ρ H vs kvs → vs.length = kvs.length
  | _, [], h => by cases h; rfl
  | _, (k', d) :: kvs, h => by obtain ⟨y, v, r, rfl, h0, h1, h2⟩ := h; simp [rks_len h2]
theorem rts_len : ∀ {vs : List (List Key × V)} {kvs : List (D × D)}, RTs G.K ρ H vs kvs → vs.length = kvs.length
  | _, [], h => by cases h; rfl
  | _, (k', d) :: kvs, h => by obtain ⟨y, v, r, rfl, h0, h1, h2⟩ := h; simp [rts_len h2]
/-- stored, over the layer -/
theorem dput_run {x y v : V} {dx dy d : D} {st' : Store} (R : Rel G ρ H st) (hx : RV G.K ρ H x dx) (hy : RV G.K ρ H y dy) (hv : RV G.K ρ H v d) (e : dputop false dx dy d st = some st') :
    ∃ a H', x = .ref a ∧ DPut H a y v H' ∧ Nx ρ H ρ H' ∧ Rel G ρ H' st' := by
  unfold dputop at e
  split at e
  · rename_i n
    split at e
    · rename_i t kvs hk
      split at e
      · rename_i ht
        subst ht
        split at e
        · rename_i z hz
          split at e
          · rename_i hl
            cases e
            obtain ⟨a, rfl, ha⟩ := rv_ref.mp hx
            obtain ⟨b, hb, ks, h1, h2⟩ := R.addr hk
            rw [ha] at hb
            cases hb
            simp only [keyOf, Bool.false_eq_true, if_false] at hz
            cases q : keyD dy with
            | none => rw [q] at hz; cases hz
            | some c =>
              rw [q] at hz
              cases hz
              have nx : Nx ρ H ρ (upd H a (.dK (putK ks c v))) := nx_put R ha
              refine ⟨a, _, rfl, .inl ⟨ks, c, h1, key_rv hy q, by rw [← line_eq, rks_len h2]; exact hl, rfl⟩, nx, R.put ha ⟨_, upd_same, ?_⟩⟩
              exact rks_put q (RV.mono nx _ hv) (RKs.mono nx _ h2)
          · cases e
        · cases e
      · cases e
    · cases e
  · cases e
theorem dputT_run {x v : V} {vs : List V} {dx d : D} {ds : List D} {st' : Store} {b : Addr} (R : Rel G ρ H st) (hx : RV G.K ρ H x dx) (hb : H b = some (.tup vs)) (hy : RVs G.K ρ H vs ds) (hv : RV G.K ρ H v d) (e : dputop true dx (.tup ds) d st = some st') :
    ∃ a H', x = .ref a ∧ DPut H a (.ref b) v H' ∧ Nx ρ H ρ H' ∧ Rel G ρ H' st' := by
  unfold dputop at e
  split at e
  · rename_i n
    split at e
    · rename_i t kvs hk
      split at e
      · rename_i ht
        subst ht
        split at e
        · rename_i z hz
          split at e
          · rename_i hl
            cases e
            obtain ⟨a, rfl, ha⟩ := rv_ref.mp hx
            obtain ⟨b', hb', ks, h1, h2⟩ := R.addr hk
            rw [ha] at hb'
            cases hb'
            simp only [keyOf, if_true] at hz
            have nx : Nx ρ H ρ (upd H a (.dT (putK ks z v))) := nx_put R ha
            refine ⟨a, _, rfl, .inr ⟨ks, z, b, h1, rfl, by rw [hb, keys_rv hy hz], by rw [← line_eq, rts_len h2]; exact hl, rfl⟩, nx, R.put ha ⟨_, upd_same, ?_⟩⟩
            exact rts_put hz (RV.mono nx _ hv) (RTs.mono nx _ h2)
          · cases e
        · cases e
      · cases e
    · cases e
  · cases e
end
section
variable {G : Glob} {X : Cx} {N : List Str} {sc : Scope} {W : WX} {k : Nat}
def dputF (fo fi f : Env → Store → Res) : Env → Store → Out := fun env st => (f env st).bindO env fun d st => (fo env st).bindO env fun x st => (fi env st).bindO env fun y st => match dputop false x y d st with
  | some st => .nx env st
  | none => .bad
theorem t_dput (g : GoodS G X N sc W k) {o i e : Expr} {fo fi f : Env → Store → Res} {p p' : Pos} (ho : PE X o (tE G W fo)) (hi : PE X i (tE G W fi)) (he : PE X e (tE G W f)) (nc : notComp e = true) : PS X (.Assign [.Subscript o i p'] e p) (tS G W (dputF fo fi f)) :=
  (ps_dput (by have := g.room.un; omega) ho hi he (notComp_eq nc)).weak fun Dn σ H ⟨ρ, env, st, R, E, q⟩ => ⟨ρ, env, st, R, E, (POut.bindO E q).imp fun v H1 ⟨d, st1, ρ1, m1, q1⟩ =>
    ⟨ρ1, env, st1, m1.rel, E.mono m1.nx, (POut.bindO (E.mono m1.nx) q1).imp fun x H2 ⟨dx, st2, ρ2, m2, q2⟩ => ⟨ρ2, env, st2, m2.rel, E.mono (m1.nx.trans m2.nx), (POut.bindO (E.mono (m1.nx.trans m2.nx)) q2).imp fun y H3 ⟨dy, st3, ρ3, m3, q3⟩ => by
      cases hz : dputop false dx dy d st3 with
      | none => rw [hz] at q3; exact q3.elim
      | some st4 =>
        rw [hz] at q3
        obtain ⟨a, H4, rfl, dp, n4, R4⟩ := dput_run m3.rel (RV.mono m3.nx _ m2.rv) m3.rv (RV.mono (m2.nx.trans m3.nx) _ m1.rv) hz
        exact ⟨a, H4, rfl, dp, q3 σ ρ3 H4 n4 R4 (E.mono (m1.nx.trans (m2.nx.trans (m3.nx.trans n4))))⟩⟩⟩⟩
def dputTF (fo : Env → Store → Res) (fs : Env → Store → ResL) (f : Env → Store → Res) : Env → Store → Out := fun env st => (f env st).bindO env fun d st => (fo env st).bindO env fun x st => (fs env st).bindO env fun ys st => match (if ys.length ≤ LINE then dputop true x (.tup ys) d st else none) with
  | some st => .nx env st
  | none => .bad
theorem POut.bindOL {Dn : Ends} {ρ : List Addr} {H : Hp} {σ : L2.St} {env : Env} (E : REnv G.K ρ H σ env) {c : List D → Store → Out} : ∀ {f : ResL}, POut G W Dn ρ H (f.bindO env c) → PLQ G W σ ρ H (fun vs H1 => ∃ ds st1 ρ1, Nx ρ H ρ1 H1 ∧ Rel G ρ1 H1 st1 ∧ RVs G.K ρ1 H1 vs ds ∧ POut G W Dn ρ1 H1 (c ds st1)) f
  | .ok d st, h => fun v ρ' H' n R r => ⟨d, st, ρ', n, R, r, POut.at_ n h⟩
  | .exc x st, h => fun ρ' H' n R => h σ ρ' H' n R (E.mono n)
  | .bad, h => h
theorem t_dputT (g : GoodS G X N sc W k) {o e : Expr} {es : List Expr} {fo f : Env → Store → Res} {fs : Env → Store → ResL} {j : Nat} {p p' p'' : Pos} (ho : PE X o (tE G W fo)) (hi : PA X es (tA G W fs)) (he : PE X e (tE G W f)) (nc : notComp e = true) : PS X (.Assign [.Subscript o (.Tuple es j p'') p'] e p) (tS G W (dputTF fo fs f)) :=
  (ps_dput (by have := g.room.un; omega) ho (pe_tup hi) he (notComp_eq nc)).weak fun Dn σ H ⟨ρ, env, st, R, E, q⟩ => ⟨ρ, env, st, R, E, (POut.bindO E q).imp fun v H1 ⟨d, st1, ρ1, m1, q1⟩ =>
    ⟨ρ1, env, st1, m1.rel, E.mono m1.nx, (POut.bindO (E.mono m1.nx) q1).imp fun x H2 ⟨dx, st2, ρ2, m2, q2⟩ => ⟨ρ2, env, st2, m2.rel, E.mono (m1.nx.trans m2.nx), (POut.bindOL (E.mono (m1.nx.trans m2.nx)) q2).imp fun vs H3 ⟨ds, st3, ρ3, n3, R3, r3, q3⟩ => by
      split at q3
      · rename_i st4 hz
        split at hz
        · rename_i hl
          refine ⟨by rw [← line_eq, r3.length]; exact hl, fun b hb => ?_⟩
          have nb : Nx ρ3 H3 ρ3 (upd H3 b (.tup vs)) := nx_laid hb
          obtain ⟨a, H4, rfl, dp, n4, R4⟩ := dputT_run (R3.laid (o := .tup vs) hb) (RV.mono (n3.trans nb) _ m2.rv) upd_same (RVs.mono nb _ r3) (RV.mono (m2.nx.trans (n3.trans nb)) _ m1.rv) hz
          exact ⟨a, H4, rfl, dp, q3 σ ρ3 H4 (nb.trans n4) R4 (E.mono (m1.nx.trans (m2.nx.trans (n3.trans (nb.trans n4)))))⟩
        · cases hz
      · exact q3.elim⟩⟩⟩
/-! ### xs[i] += e -/
def rGetL (K : PySem.W.Frag) : V → V → Hp → VK → Prop := fun o i H Q => ∃ a xs j z, o = .ref a ∧ i = .int j ∧ SqL K H a xs ∧ 0 ≤ j ∧ xs[j.toNat]? = some z ∧ Q z H
theorem pget_list : PGet X (rGetL X.K) := by
  intro pins s σ H o i ov iv Q I ro ri h
  obtain ⟨a, xs, j, z, rfl, rfl, hq, h0, he, q⟩ := h
  cases ro
  obtain ⟨t, rfl⟩ := ri
  obtain ⟨its, r, pl, hz⟩ := I.list hq
  obtain ⟨w, ew, rw'⟩ := r.get he
  have hl := r.length
  have hn := line63
  have hj := (List.getElem?_eq_some_iff.mp he).1
  exact wpAny_getItem_list pl.isList h0 (by omega) (by simpa using ew) ⟨z, H, I, rw', q⟩
def augIxF (op : BOp) (fo fi f : Env → Store → Res) : Env → Store → Out := fun env st => (fo env st).bindO env fun x st => (fi env st).bindO env fun y st => match ixInt x y st with
  | some v => (f env st).bindO env fun z st => (match augInt op v z with
    | some d => (match setIxop x y d st with
      | some st => .nx env st
      | none => .bad)
    | none => .bad)
  | none => .bad
theorem ixInt_run {ρ : List Addr} {H : Hp} {st : Store} {x y : V} {dx dy : D} {v : Int} (R : Rel G ρ H st) (hx : RV G.K ρ H x dx) (hy : RV G.K ρ H y dy) (e : ixInt dx dy st = some v) : ∃ a xs j, x = .ref a ∧ y = .int j ∧ SqL G.K H a xs ∧ 0 ≤ j ∧ xs[j.toNat]? = some (.int v) := by
  unfold ixInt at e
  split at e
  · rename_i n j
    split at e
    · rename_i h0
      split at e
      · rename_i xs hxs
        split at e
        · rename_i w hw
          cases e
          obtain ⟨a, rfl, ha⟩ := rv_ref.mp hx
          obtain ⟨vs, h1, r1⟩ := R.lstAt ha hxs
          obtain ⟨u, hu, ru⟩ := r1.get hw
          have := rv_int.mp ru
          subst this
          exact ⟨a, vs, j, rfl, rv_int.mp hy, SqL.of h1, h0, hu⟩
        · cases e
      · cases e
    · cases e
  · cases e
theorem t_augIx (g : GoodS G X N sc W k) {op : BOp} {o i e : Expr} {op' : Operator} {fo fi f : Env → Store → Res} {p p' : Pos} (hop : opIs op op' = true) (two : op = .add ∨ op = .sub) (oki : okE i = true) (ho : PE X o (tE G W fo)) (hi : PE X i (tE G W fi)) (he : PE X e (tE G W f)) :
    PS X (.AugAssign (.Subscript o i p') op' e p) (tS G W (augIxF op fo fi f)) := by
  have hs : ∀ ov iv new, augStore i ov iv new = (do holding [new, ov, iv] (setItem ov iv new); release [new, ov, iv] []; pure .next) := by
    intro ov iv new
    cases i <;> first | rfl | cases oki
  have body : ∀ (tip : TIp), PIp X op' tip → (∀ v z H (Q : VK) dz d, augInt op v dz = some d → (∃ j, z = V.int j ∧ dz = .int j) → (∀ j, d = .int j → Q (.int j) H) → tip (.int v) z H Q) → PS X (.AugAssign (.Subscript o i p') op' e p) (tS G W (augIxF op fo fi f)) := by
    intro tip hp htip
    refine (ps_augS ho hi pget_list he hp set_list hs).weak fun Dn σ H ⟨ρ, env, st, R, E, q⟩ => ⟨ρ, env, st, R, E, (POut.bindO E q).imp fun x H1 ⟨dx, st1, ρ1, m1, q1⟩ =>
      ⟨ρ1, env, st1, m1.rel, E.mono m1.nx, (POut.bindO (E.mono m1.nx) q1).imp fun y H2 ⟨dy, st2, ρ2, m2, q2⟩ => ?_⟩⟩
    split at q2
    · rename_i v hv
      obtain ⟨a, xs, j, rfl, rfl, h1, h2, h3⟩ := ixInt_run m2.rel (RV.mono m2.nx _ m1.rv) m2.rv hv
      refine ⟨a, xs, j, .int v, rfl, rfl, by rw [g.K]; exact h1, h2, h3, ρ2, env, st2, m2.rel, E.mono (m1.nx.trans m2.nx), (POut.bindO (E.mono (m1.nx.trans m2.nx)) q2).imp fun z H3 ⟨dz, st3, ρ3, m3, q3⟩ => ?_⟩
      cases hA : augInt op v dz with
      | none => rw [hA] at q3; exact q3.elim
      | some d =>
        rw [hA] at q3
        have hzint : ∃ w, z = V.int w ∧ dz = .int w := by
          unfold augInt at hA
          split at hA <;> first | exact ⟨_, rv_int.mp m3.rv, rfl⟩ | cases hA
        refine htip v z H3 _ dz d hA hzint fun w hd => ?_
        subst hd
        simp only at q3
        cases hz : setIxop dx dy (.int w) st3 with
        | none => rw [hz] at q3; exact q3.elim
        | some st4 =>
          rw [hz] at q3
          exact setIx_run m3.rel (RV.mono (m2.nx.trans m3.nx) _ m1.rv) (RV.mono m3.nx _ m2.rv) (rv_int.mpr rfl) hz fun ρ4 H4 n4 R4 => q3 σ ρ4 H4 n4 R4 (E.mono (m1.nx.trans (m2.nx.trans (m3.nx.trans n4))))
    · exact q2.elim
  rcases two with rfl | rfl
  · cases op' <;> first | exact absurd hop (by decide) | skip
    exact body _ ip_add fun v z H Q dz d hA hz hq => by
      obtain ⟨w, rfl, rfl⟩ := hz
      cases hA
      exact ⟨v, w, rfl, rfl, hq _ rfl⟩
  · cases op' <;> first | exact absurd hop (by decide) | skip
    exact body _ ip_sub fun v z H Q dz d hA hz hq => by
      obtain ⟨w, rfl, rfl⟩ := hz
      cases hA
      exact ⟨v, w, rfl, rfl, hq _ rfl⟩
end
end Mi

set_option linter.all false
set_option maxRecDepth 100000
set_option maxHeartbeats 1000000
/-! raise C(), try .. except C: one statement. -/
namespace Mi
open PySem L2 PyProof.Rows PySem.Spec

/-- an exception class of the text, over ValueError -/
structure ExcOk (G : Glob) (x : Str) : Prop where
  mg : G.mg x = some (.ref (G.cls x))
  ex : PySem.W.excIn G.K (G.cls x) [.type "ValueError", .type "Exception", .type "BaseException", .type "object"] "ValueError.__new__" = true
  kp : PySem.W.keepIn G.K (.ref (G.cls x)) = true
  su : PySem.W.subIn G.K (.ref (G.cls x)) (.type "BaseException") = some true
  ty : PySem.W.typeIn G.K (.ref (G.cls x)) = some (.type "type")
/-- what is known of classes: raised ones, and by which name each is caught -/
structure SubOk (G : Glob) (sub : Tab) : Prop where
  ex : ∀ c x, sub.sub c x = true → ExcOk G c ∧ ExcOk G x ∧ PySem.W.exmOne G.K (.ref (G.cls c)) (.ref (G.cls x)) = some true
  fl : ∀ c f, sub.fld c f = true → NoAttr G.K (G.cls c) f
section
variable {X : Cx} {C : Addr} {bmB : List Value} {B newId initId : String}
theorem pmk0 {x : Str} {p pos : Pos} (F : ExcBaseFacts B newId initId bmB) (q : PySem.W.excIn X.K C bmB newId = true) (gC : X.mg x = some (.ref C)) (kC : PySem.W.keepIn X.K (.ref C) = true) (r : Raises X (.ref C)) (hg : Gl X x) (hdb : (x == ("__debug__" : Str)) = false) :
    PMk X (.Call (.Name x p) [] [] pos) (fun _ H Q => Q (.ref C) none H) := by
  intro pins s σ H Q I h
  refine wpAny_Call_Name_kw (ld_glob I hg gC ?_ hdb)
  refine PySem.W.callWith_K0 I.kIn kC ?_
  show wpAny _ _ (call (.ref C) []) _ _ s
  obtain ⟨bm, N, nm, qn, bs, hdct, sn, sub, ab, col, dd, k0, k1, k2, k3, k5, mN, hC, hN, hni, T⟩ := exc_obj I.kIn q
  exact wpAny_call_exc_subT F T hC hN hni (fun h' e hm => mk_of I hm r h (I.hok.gone hm.new)) (by show 0 ≤ sizeLine; omega)
end
section
variable {G : Glob} {X : Cx} {N : List Str} {sc : Scope} {W : WX} {k : Nat}
theorem t_raise (g : GoodS G X N sc W k) {c : Str} (hx : ExcOk G c) (h1 : gloS sc c = true) (h2 : noDbg c = true) {p q r : Pos} : PS X (.Raise (some (.Call (.Name c p) [] [] q)) none r) (tS G W fun env st => .exc c env st) :=
  (ps_raise g.calm g.tk (pmk0 PySem.F.excBase_ValueError (by rw [g.K]; exact hx.ex) (by rw [g.mg]; exact hx.mg) (by rw [g.K]; exact hx.kp) (raises_own (by rw [g.K]; exact hx.su) (by rw [g.K]; exact hx.ty)) (g.glo c h1) (noDbg_1 h2))).weak
    fun Dn σ H ⟨ρ, env, st, R, E, q⟩ => q σ ρ H .refl R E
/-! handlers -/
def asRetS : List Stmt → Option Expr
  | [.Return (some e) _] => some e
  | _ => none
def asNilL : Expr → Bool
  | .List [] _ => true
  | _ => false
def mtHC : HC → Expr → Bool
  | .non, e => match asConst e with | some .none => true | _ => false
  | .bl b, e => match asConst e with | some (.bool c) => decide (b = c) | _ => false
  | .int i, e => match asConst e with | some (.int j) => decide (i = j) | _ => false
  | .neg i, e => match asUn e with | some (.USub, a) => (match asConst a with | some (.int j) => decide (i = j) | _ => false) | _ => false
  | .nil, e => asNilL e
def asIncr : List Stmt → Option (Str × Str × Int)
  | [.Assign [.Name x _] (.BinOp (.Name y _) .Add (.Constant (.int n) _ _) _) _] => some (x, y, n)
  | _ => none
def mtHd (N : List Str) (sc : Scope) : Hd → List Stmt → Bool
  | .ret c, l => match asRetS l with | some e => mtHC c e | none => false
  | .incr i n, l => match asIncr l with | some (x, y, m) => decide (x = y) && decide (n = m) && decide (N[i]? = some x) && locS sc x && visS sc x && noDbg x | none => false
/-- a handler's meaning, in its own surroundings -/
theorem hd_run (g : GoodS G X N sc W k) {h : Hd} {l : List Stmt} (hm : mtHd N sc h l = true) (a : Addr) (pn : List (Addr × Obj)) :
    PSs (X.suite a pn) l (fun D σ H => ∃ ρ env st, Rel G ρ H st ∧ REnv G.K ρ H σ env ∧ POut G W D ρ H (hdR h env st)) := by
  cases h with
  | ret c =>
    simp only [mtHd] at hm
    split at hm
    · rename_i e he
      obtain ⟨p, rfl⟩ : ∃ p, l = [.Return (some e) p] := by
        unfold asRetS at he
        split at he
        · cases he; exact ⟨_, rfl⟩
        · cases he
      have fin : ∀ {v : V} {d : D}, hcR c = (fun st => .rt d st) → (∀ ρ H, RV G.K ρ H v d) → PE (X.suite a pn) e (tC v) → PSs (X.suite a pn) [.Return (some e) p] (fun D σ H => ∃ ρ env st, Rel G ρ H st ∧ REnv G.K ρ H σ env ∧ POut G W D ρ H (hdR (.ret c) env st)) := fun ec r he =>
        (pss_one (ps_ret he)).weak fun D σ H ⟨ρ, env, st, R, E, q⟩ => by
          simp only [hdR, ec] at q
          exact q _ ρ H .refl R (r ρ H)
      cases c with
      | non =>
        simp only [mtHC] at hm
        split at hm
        · rename_i q
          obtain ⟨_, _, rfl⟩ := asConst_eq q
          exact fin rfl (fun ρ H => rv_non.mpr rfl) pe_non
        · cases hm
      | bl b =>
        simp only [mtHC] at hm
        split at hm
        · rename_i q
          obtain rfl := of_decide_eq_true hm
          obtain ⟨_, _, rfl⟩ := asConst_eq q
          exact fin rfl (fun ρ H => rv_bl.mpr rfl) pe_bl
        · cases hm
      | int i =>
        simp only [mtHC] at hm
        split at hm
        · rename_i q
          obtain rfl := of_decide_eq_true hm
          obtain ⟨_, _, rfl⟩ := asConst_eq q
          exact fin rfl (fun ρ H => rv_int.mpr rfl) pe_int
        · cases hm
      | neg i =>
        simp only [mtHC] at hm
        split at hm
        · rename_i a' q
          split at hm
          · rename_i j q2
            obtain rfl := of_decide_eq_true hm
            obtain ⟨_, rfl⟩ := asUn_eq q
            obtain ⟨_, _, rfl⟩ := asConst_eq q2
            refine (pss_one (ps_ret (pe_un un_neg pe_int))).weak fun D σ H ⟨ρ, env, st, R, E, q⟩ => ?_
            exact ⟨_, rfl, q _ ρ H .refl R (rv_int.mpr rfl)⟩
          · cases hm
        · cases hm
      | nil =>
        simp only [mtHC] at hm
        obtain ⟨p', rfl⟩ : ∃ p', e = .List [] p' := by
          unfold asNilL at hm
          split at hm
          · exact ⟨_, rfl⟩
          · cases hm
        refine (pss_one (ps_ret (pe_lst pa_nil))).weak fun D σ H ⟨ρ, env, st, R, E, q⟩ => ?_
        refine ⟨Nat.zero_le _, fun b hb => q _ (ρ ++ [b]) _ (nx_new hb) (R.new hb ⟨[], upd_same, RVs.nil_⟩) (rv_ref.mpr ⟨b, rfl, by rw [← R.len]; simp⟩)⟩
    · cases hm
  | incr i n =>
    simp only [mtHd] at hm
    split at hm
    · rename_i x y m he
      simp only [Bool.and_eq_true, decide_eq_true_eq] at hm
      obtain ⟨⟨⟨⟨⟨rfl, rfl⟩, h3⟩, h4⟩, h5⟩, h6⟩ := hm
      obtain ⟨p1, p2, j, p3, p4, p5, rfl⟩ : ∃ p1 p2 j p3 p4 p5, l = [.Assign [.Name x p1] (.BinOp (.Name x p2) .Add (.Constant (.int n) j p3) p4) p5] := by
        unfold asIncr at he
        split at he
        · cases he; exact ⟨_, _, _, _, _, _, rfl⟩
        · cases he
      have hN : (X.suite a pn).N = N := g.ns
      refine (pss_one (ps_set (X := X.suite a pn) (i := i) (by rw [hN]; exact g.nd) (by rw [hN]; exact h3) (g.loc x h4).1 (pe_op (X := X.suite a pn) op_add (pe_var (X := X.suite a pn) (i := i) (by rw [hN]; exact h3) (g.vis x h5) (noDbg_1 h6) (noDbg_2 h6)) pe_int) (hf := (g.loc x h4).2))).weak fun D σ H ⟨ρ, env, st, R, E, q⟩ => ?_
      simp only [hdR] at q
      split at q
      · rename_i v hv
        obtain ⟨u, hu, ru⟩ := E.2 i _ hv
        have := rv_int.mp ru
        subst this
        exact ⟨_, hu, v, n, rfl, rfl, q _ ρ H .refl R (E.set i (rv_int.mpr rfl))⟩
      · exact q.elim
    · cases hm
theorem good_try (g : GoodS G X N sc W k) {W' : WX} {pn : List (Addr × Obj)} {xe : Value → Shared → Prop} (tk : Takes (X.tr pn xe) W') (po : PassesOwn (model X.prog X.w) X.A X.env xe) : GoodS G (X.tr pn xe) N sc W' k where
  prog := g.prog
  w := g.w
  K := g.K
  mg := g.mg
  base := g.base
  ns := g.ns
  nd := g.nd
  vis := g.vis
  loc := g.loc
  glo := g.glo
  fr := g.fr
  calm := g.calm
  room1 := g.room1
  tk := tk
  scq := g.scq
  kind := g.kind
  po := po
  stk := g.stk
  frm := g.frm
def tryF (sub : Tab) (f : Env → Store → Out) (x : Str) (h : Hd) : Env → Store → Out := fun env st => match f env st with
  | .exc c env st => if sub.sub c x = true then hdR h env st else .bad
  | o => o
theorem t_try (g : GoodS G X N sc W k) {sub : Tab} (hs : SubOk G sub) {x : Str} {body : List Stmt} {b0 : Stmt} {suite : List Stmt} {f : Env → Store → Out} {h : Hd} {np p p' : Pos} (hx : ExcOk G x) (h1 : gloS sc x = true) (h2 : noDbg x = true) (hm : mtHd N sc h (b0 :: suite) = true)
    (hb : ∀ {X' : Cx} {W' : WX}, GoodS G X' N sc W' k → PSs X' body (tS G W' f)) : PS X (.Try body [.ExceptHandler (some (.Name x np)) none (b0 :: suite) p'] [] [] p) (tS G W (tryF sub f x h)) := by
  refine (ps_try_only g.stk g.frm ⟨g.glo x h1, noDbg_1 h2, .inl (by rw [g.mg]; exact hx.mg)⟩ g.tk (fun W' pn xe tk po => hb (good_try g tk po)) (fun a oe cls d pn hz hf => hd_run g hm a _)).weak fun Dn σ H ⟨ρ, env, st, R, E, q⟩ => ⟨ρ, env, st, R, E, ?_⟩
  unfold tryF at q
  cases hf : f env st with
  | nx e s => rw [hf] at q; exact q
  | rt d s => rw [hf] at q; exact q
  | bk e s => rw [hf] at q; exact q
  | ct e s => rw [hf] at q; exact q
  | bad => rw [hf] at q; exact q
  | exc c e s =>
    rw [hf] at q
    simp only at q
    split at q
    · rename_i hsub
      intro σ' ρ' H' n' R' E'
      refine ⟨true, by rw [g.K]; exact (hs.ex c x hsub).2.2, fun _ a ha => ⟨ρ', e, s, R', E', POut.at_ n' q⟩, fun z => nomatch z⟩
    · exact q.elim
end
end Mi

set_option linter.all false
set_option maxRecDepth 100000
set_option maxHeartbeats 1000000
/-! Fields of objects are set. -/
namespace Mi
open PySem L2 PyProof.Rows
section
variable {K : PySem.W.Frag} {ρ : List Addr} {H : Hp}
theorem rfs_put {f : Str} {v : V} {d : D} (hv : RV K ρ H v d) : ∀ {fs : List (Str × D)} {vs : List (Str × V)}, RFs K ρ H vs fs → RFs K ρ H (putF f v vs) (putD f d fs)
  | [], _, h => by cases h; exact ⟨v, [], rfl, hv, rfl⟩
  | (g, x) :: fs, _, h => by
    obtain ⟨w, r, rfl, h1, h2⟩ := h
    unfold putF putD
    by_cases e : g = f
    · rw [if_pos e, if_pos e]; exact ⟨v, r, rfl, hv, h2⟩
    · rw [if_neg e, if_neg e]; exact ⟨w, _, rfl, h1, rfs_put hv h2⟩
theorem rfs_len : ∀ {fs : List (Str × D)} {vs : List (Str × V)}, RFs K ρ H vs fs → vs.length = fs.length
  | [], _, h => by cases h; rfl
  | (g, x) :: fs, _, h => by
    obtain ⟨w, r, rfl, h1, h2⟩ := h
    simp [rfs_len h2]
theorem putD_keys {f : Str} {d : D} : ∀ {fs : List (Str × D)} {p : Str × D}, p ∈ putD f d fs → p.1 = f ∨ ∃ q ∈ fs, q.1 = p.1
  | [], p, h => by
    unfold putD at h
    rw [List.mem_singleton] at h
    exact .inl (by rw [h])
  | (g, x) :: fs, p, h => by
    unfold putD at h
    by_cases e : g = f
    · rw [if_pos e] at h
      rcases List.mem_cons.mp h with h | h
      · exact .inl (by rw [h]; exact e)
      · exact .inr ⟨p, .tail _ h, rfl⟩
    · rw [if_neg e] at h
      rcases List.mem_cons.mp h with h | h
      · exact .inr ⟨(g, x), .head _, by rw [h]⟩
      · rcases putD_keys h with h | ⟨q, hq, e⟩
        · exact .inl h
        · exact .inr ⟨q, .tail _ hq, e⟩
end
section
variable {G : Glob} {X : Cx} {N : List Str} {sc : Scope} {W : WX} {k : Nat}
def setAtF (sub : Tab) (fo : Env → Store → Res) (x : Str) (f : Env → Store → Res) : Env → Store → Out := fun env st => (f env st).bindO env fun d st => (fo env st).bindO env fun y st => match setAtop sub y x d st with
  | some st => .nx env st
  | none => .bad
theorem t_setAt (g : GoodS G X N sc W k) {sub : Tab} (hs : SubOk G sub) {o e : Expr} {x : Str} {fo f : Env → Store → Res} {p p' : Pos} (ho : PE X o (tE G W fo)) (he : PE X e (tE G W f)) (nc : notComp e = true) : PS X (.Assign [.Attribute o x p'] e p) (tS G W (setAtF sub fo x f)) :=
  (ps_fld ho he (notComp_eq nc)).weak fun Dn σ H ⟨ρ, env, st, R, E, q⟩ => ⟨ρ, env, st, R, E, (POut.bindO E q).imp fun v H1 ⟨d, st1, ρ1, m1, q1⟩ =>
    ⟨ρ1, env, st1, m1.rel, E.mono m1.nx, (POut.bindO (E.mono m1.nx) q1).imp fun y H2 ⟨dy, st2, ρ2, m2, q2⟩ => by
      cases hz : setAtop sub dy x d st2 with
      | none => rw [hz] at q2; exact q2.elim
      | some st4 =>
        rw [hz] at q2
        unfold setAtop at hz
        split at hz
        · rename_i n
          split at hz
          · rename_i c fs hn
            split at hz
            · rename_i hc
              cases hz
              obtain ⟨n', a, dd, fs', vs, en, hk', rfl, ha', h1, h2, h3, h4⟩ := ins_rel m2.rel m2.rv (c := c) (by simp only [insOf, hn])
              cases en
              rw [hn] at hk'
              cases hk'
              have nx : Nx ρ2 H2 ρ2 (upd H2 a (.ins (G.cls c) dd (putF x v vs))) := nx_put m2.rel ha'
              refine ⟨a, _, dd, vs, rfl, h3, by rw [g.K]; exact h1, by rw [g.K]; exact hs.fl c x hc.1, by rw [rfs_len h4]; exact hc.2, q2 σ ρ2 _ nx (m2.rel.put ha' ⟨h1, fun p hp => ?_, dd, _, upd_same, RFs.mono nx _ (rfs_put (RV.mono m2.nx _ m1.rv) h4)⟩) (E.mono (m1.nx.trans (m2.nx.trans nx)))⟩
              rcases putD_keys hp with e | ⟨q, hq, e⟩
              · rw [e]; exact hs.fl c x hc.1
              · rw [← e]; exact h2 q hq
            · cases hz
          · cases hz
        · cases hz⟩⟩
end
end Mi

set_option linter.all false
set_option maxRecDepth 100000
set_option maxHeartbeats 1000000
/-! All statements. -/
namespace Mi
open PySem L2 PyProof.Rows

def asExprS : Stmt → Option Expr
  | .Expr e _ => some e
  | _ => none
def asAsg : Stmt → Option (Expr × Expr)
  | .Assign [t] e _ => some (t, e)
  | _ => none
def asAugS : Stmt → Option (Expr × Operator × Expr)
  | .AugAssign t o e _ => some (t, o, e)
  | _ => none
def asRaise : Stmt → Option Str
  | .Raise (some (.Call (.Name x _) [] [] _)) none _ => some x
  | _ => none
theorem asRaise_eq {s : Stmt} {x : Str} (h : asRaise s = some x) : ∃ p q r, s = .Raise (some (.Call (.Name x p) [] [] q)) none r := by
  unfold asRaise at h
  split at h
  · cases h; exact ⟨_, _, _, rfl⟩
  · cases h
def asTry : Stmt → Option (List Stmt × Str × Stmt × List Stmt)
  | .Try b [.ExceptHandler (some (.Name x _)) none (s :: r) _] [] [] _ => some (b, x, s, r)
  | _ => none
theorem asTry_eq {s : Stmt} {b : List Stmt} {x : Str} {s0 : Stmt} {r : List Stmt} (h : asTry s = some (b, x, s0, r)) : ∃ np p' p, s = .Try b [.ExceptHandler (some (.Name x np)) none (s0 :: r) p'] [] [] p := by
  unfold asTry at h
  split at h
  · cases h; exact ⟨_, _, _, rfl⟩
  · cases h
def asRet : Stmt → Option (Option Expr)
  | .Return e _ => some e
  | _ => none
def asIfS : Stmt → Option (Expr × List Stmt × List Stmt)
  | .If c a b _ => some (c, a, b)
  | _ => none
def asForS : Stmt → Option (Expr × Expr × List Stmt)
  | .For t i b [] _ => some (t, i, b)
  | _ => none
def asWhlS : Stmt → Option (Expr × List Stmt)
  | .While c b [] _ => some (c, b)
  | _ => none
theorem asExprS_eq {s : Stmt} {e : Expr} (h : asExprS s = some e) : ∃ p, s = .Expr e p := by
  cases s <;> simp [asExprS] at h; subst h; exact ⟨_, rfl⟩
theorem asAsg_eq {s : Stmt} {t e : Expr} (h : asAsg s = some (t, e)) : ∃ p, s = .Assign [t] e p := by
  unfold asAsg at h
  split at h
  · cases h; exact ⟨_, rfl⟩
  · cases h
theorem asAugS_eq {s : Stmt} {t e : Expr} {o : Operator} (h : asAugS s = some (t, o, e)) : ∃ p, s = .AugAssign t o e p := by
  cases s <;> simp [asAugS] at h; obtain ⟨rfl, rfl, rfl⟩ := h; exact ⟨_, rfl⟩
theorem asRet_eq {s : Stmt} {e : Option Expr} (h : asRet s = some e) : ∃ p, s = .Return e p := by
  cases s <;> simp [asRet] at h; subst h; exact ⟨_, rfl⟩
theorem asIfS_eq {s : Stmt} {c : Expr} {a b : List Stmt} (h : asIfS s = some (c, a, b)) : ∃ p, s = .If c a b p := by
  cases s <;> simp [asIfS] at h; obtain ⟨rfl, rfl, rfl⟩ := h; exact ⟨_, rfl⟩
theorem asForS_eq {s : Stmt} {t i : Expr} {b : List Stmt} (h : asForS s = some (t, i, b)) : ∃ p, s = .For t i b [] p := by
  unfold asForS at h
  split at h
  · cases h; exact ⟨_, rfl⟩
  · cases h
theorem asWhlS_eq {s : Stmt} {c : Expr} {b : List Stmt} (h : asWhlS s = some (c, b)) : ∃ p, s = .While c b [] p := by
  unfold asWhlS at h
  split at h
  · cases h; exact ⟨_, rfl⟩
  · cases h
def isPass : Stmt → Bool
  | .Pass _ => true
  | _ => false
def isBrk : Stmt → Bool
  | .Break _ => true
  | _ => false
def isCnt : Stmt → Bool
  | .Continue _ => true
  | _ => false

def swB (sc : Scope) (t e : Expr) : Bool := match t, e with
  | .Name x p, .ListComp _ _ s vp => (sc.names.lookup x == some .local) && p.line == vp.line && !(s.names.any fun (n, k) => n == x && (k == .local || k == .cell))
  | _, _ => false
theorem swaps_lc {sc : Scope} {env : PySem.Env} {el : Expr} {gs : List Comprehension} {s : Scope} {vp p : Pos} {x : Str} {l : Nat} (h1 : env.scope = sc) (h2 : sc.kind = .function) :
    swapsWith (.ListComp el gs s vp) (some (.Name x p)) l env = pure (swB sc (.Name x p) (.ListComp el gs s vp)) := by
  have hb : env.blockKind = .function := by
    unfold PySem.Env.blockKind
    rw [h1, h2]; rfl
  have hk : env.kindOf x = sc.names.lookup x := by
    unfold PySem.Env.kindOf
    rw [h1]
  show (pure (env.blockKind == .function && env.kindOf x == some .local && p.line == vp.line && !(s.names.any fun (n, k) => n == x && (k == .local || k == .cell))) : Sem Bool) = _
  rw [hb, hk]
  rfl
def isLc : E → Bool
  | .lc .. => true
  | _ => false
/-- a local, not a cell -/
def lclS (sc : Scope) (x : Str) : Bool := decide (sc.names.lookup x = some .local)

section
variable (fs : List Str) (sub : Tab) (N : List Str) (sc : Scope)
mutual
def mtS : S → Stmt → Bool
  | .expr m, s => match asExprS s with
    | some e => notComp e && mtE fs N sc m e
    | none => false
  | .set i m, s => match asAsg s with
    | some (t, e) => nameAt N sc i t && mtE fs N sc m e && (notComp e || isLc m)
    | none => false
  | .unp is m, s => match asAsg s with
    | some (t, e) => mtT N sc (.tup is) t && notTup e && notComp e && mtE fs N sc m e
    | none => false
  | .setIx o i m, s => match asAsg s with
    | some (t, e) => (match asSub t with
      | some (o', i') => okE i' && notComp e && (mtE fs N sc o o' && (mtE fs N sc i i' && mtE fs N sc m e))
      | none => false)
    | none => false
  | .dput o i m, s => match asAsg s with
    | some (t, e) => (match asSub t with
      | some (o', i') => okE i' && notComp e && (mtE fs N sc o o' && (mtE fs N sc i i' && mtE fs N sc m e))
      | none => false)
    | none => false
  | .dputT o is m, s => match asAsg s with
    | some (t, e) => (match asSub t with
      | some (o', i') => (match asTup i' with
        | some is' => notComp e && (mtE fs N sc o o' && (mtEs fs N sc is is' && mtE fs N sc m e))
        | none => false)
      | none => false)
    | none => false
  | .setAt o f m, s => match asAsg s with
    | some (t, e) => (match asAttr t with
      | some (o', f') => decide (f = f') && notComp e && (mtE fs N sc o o' && mtE fs N sc m e)
      | none => false)
    | none => false
  | .aug i op m, s => match asAugS s with
    | some (t, o, e) => nameAt N sc i t && opIs op o && (decide (op = .add) || decide (op = .sub)) && mtE fs N sc m e
    | none => false
  | .augIx o i op m, s => match asAugS s with
    | some (t, op', e) => (match asSub t with
      | some (o', i') => okE i' && opIs op op' && (decide (op = .add) || decide (op = .sub)) && (mtE fs N sc o o' && (mtE fs N sc i i' && mtE fs N sc m e))
      | none => false)
    | none => false
  | .ret m, s => match asRet s with
    | some (some e) => mtE fs N sc m e
    | _ => false
  | .ret0, s => match asRet s with
    | some none => true
    | _ => false
  | .iff c a b, s => match asIfS s with
    | some (c', a', b') => mtE fs N sc c c' && (mtSs a a' && mtSs b b')
    | none => false
  | .for tg it b, s => match asForS s with
    | some (t, i, b') => mtT N sc tg t && (okE i && (!ieTup it || (asTup t).isSome)) && mtI fs N sc it i && mtSs b b'
    | none => false
  | .whl c b, s => match asWhlS s with
    | some (c', b') => mtE fs N sc c c' && mtSs b b'
    | none => false
  | .raise c, s => match asRaise s with
    | some x => decide (x = c) && gloS sc c && noDbg c
    | none => false
  | .tryE b x h, s => match asTry s with
    | some (b', y, s0, r) => decide (y = x) && gloS sc x && noDbg x && sub.sub x x && mtHd N sc h (s0 :: r) && mtSs b b'
    | none => false
  | .pass, s => isPass s
  | .brk, s => isBrk s
  | .cnt, s => isCnt s
def mtSs : Ss → List Stmt → Bool
  | .nil, [] => true
  | .cons m ms, s :: ss => mtS m s && mtSs ms ss
  | _, _ => false
end
end

section
variable {G : Glob} {X : Cx} {N : List Str} {sc : Scope} {W : WX} {k : Nat}
noncomputable def augF (i : Nat) (op : BOp) (f : Env → Store → Res) : Env → Store → Out := fun env st => match env[i]? with
    | some (some x) => (f env st).bindO env fun y st => match op with
      | .add => (match binop .add x y st with
        | .ok (.int z) st => .nx (env.set i (some (.int z))) st
        | _ => .bad)
      | .sub => (match binop .sub x y st with
        | .ok (.int z) st => .nx (env.set i (some (.int z))) st
        | _ => .bad)
      | _ => .bad
    | _ => .bad
theorem add_int_inv {x y : D} {st st' : Store} {z : Int} (h : binop .add x y st = .ok (.int z) st') : ∃ i j, x = .int i ∧ y = .int j ∧ z = i + j ∧ st' = st := by
  cases x <;> cases y <;> simp only [binop] at h <;> first | (cases h; exact ⟨_, _, rfl, rfl, rfl, rfl⟩) | (cases h; done) | (repeat' split at h) <;> cases h
theorem sub_int_inv {x y : D} {st st' : Store} {z : Int} (h : binop .sub x y st = .ok (.int z) st') : ∃ i j, x = .int i ∧ y = .int j ∧ z = i - j ∧ st' = st := by
  cases x <;> cases y <;> simp only [binop] at h <;> first | (cases h; exact ⟨_, _, rfl, rfl, rfl, rfl⟩) | (cases h; done)
theorem t_aug (g : GoodS G X N sc W k) {i : Nat} {x : Str} {op : BOp} {o : Operator} {e : Expr} {f : Env → Store → Res} {p p' : Pos} (h1 : N[i]? = some x) (h2 : locS sc x = true) (ho : opIs op o = true) (h3 : op = .add ∨ op = .sub) (he : PE X e (tE G W f)) :
    PS X (.AugAssign (.Name x p') o e p) (tS G W (augF i op f)) := by
  have run : ∀ {Dn : Ends} {σ : L2.St} {H : Hp}, tS G W (augF i op f) Dn σ H → ∃ v, σ[i]? = some (some v) ∧ tE G W f σ H (fun y H1 => ∃ a b z, v = .int a ∧ y = .int b ∧ ((op = .add ∧ z = a + b) ∨ (op = .sub ∧ z = a - b)) ∧ Dn.nx (σ.set i (some (.int z))) H1) := by
    rintro Dn σ H ⟨ρ, env, st, R, E, q⟩
    unfold augF at q
    split at q
    · rename_i d hd
      obtain ⟨v, hv, rv⟩ := E.2 i d hd
      refine ⟨v, hv, ρ, env, st, R, E, (POut.bindO E q).imp fun y H1 ⟨c, st1, ρ1, m, q1⟩ => ?_⟩
      rcases h3 with rfl | rfl
      · simp only at q1
        split at q1
        · rename_i z st2 hb
          obtain ⟨a, b, rfl, rfl, rfl, rfl⟩ := add_int_inv hb
          exact ⟨a, b, _, rv_int.mp rv, rv_int.mp m.rv, .inl ⟨rfl, rfl⟩, q1 _ ρ1 H1 .refl m.rel ((E.mono m.nx).set i (rv_int.mpr rfl))⟩
        · exact q1.elim
      · simp only at q1
        split at q1
        · rename_i z st2 hb
          obtain ⟨a, b, rfl, rfl, rfl, rfl⟩ := sub_int_inv hb
          exact ⟨a, b, _, rv_int.mp rv, rv_int.mp m.rv, .inr ⟨rfl, rfl⟩, q1 _ ρ1 H1 .refl m.rel ((E.mono m.nx).set i (rv_int.mpr rfl))⟩
        · exact q1.elim
    · exact q.elim
  have hl := g.loc x h2
  rcases h3 with rfl | rfl
  · obtain rfl : o = .Add := by cases o <;> first | rfl | exact absurd ho (by decide)
    refine (ps_aug (i := i) (by rw [g.ns]; exact g.nd) (by rw [g.ns]; exact h1) hl.1 he ip_add hl.2).weak fun Dn σ H q => ?_
    obtain ⟨v, hv, ρ, env, st, R, E, q⟩ := run q
    refine ⟨v, hv, ρ, env, st, R, E, q.imp fun y H1 ⟨a, b, z, e1, e2, e3, e4⟩ => ⟨a, b, e1, e2, ?_⟩⟩
    rcases e3 with ⟨_, rfl⟩ | ⟨z, _⟩
    · exact e4
    · cases z
  · obtain rfl : o = .Sub := by cases o <;> first | rfl | exact absurd ho (by decide)
    refine (ps_aug (i := i) (by rw [g.ns]; exact g.nd) (by rw [g.ns]; exact h1) hl.1 he ip_sub hl.2).weak fun Dn σ H q => ?_
    obtain ⟨v, hv, ρ, env, st, R, E, q⟩ := run q
    refine ⟨v, hv, ρ, env, st, R, E, q.imp fun y H1 ⟨a, b, z, e1, e2, e3, e4⟩ => ⟨a, b, e1, e2, ?_⟩⟩
    rcases e3 with ⟨z, _⟩ | ⟨_, rfl⟩
    · cases z
    · exact e4
end

section
variable {G : Glob} {fs : List Str} {C : Oracle} {cs : Str → Option D} {sub : Tab} {wf : Nat} {k : Nat} (hC : CallsOk G fs C k) (hp : Plain G) (hcs : ConstsOk G cs) (hsub : SubOk G sub)
include hC hp hcs hsub
mutual
theorem seS : ∀ (m : S) {X : Cx} {N : List Str} {sc : Scope} {W : WX}, GoodS G X N sc W k → ∀ {s : Stmt}, mtS fs sub N sc m s = true → PS X s (tS G W (evS C cs sub wf m))
  | .expr m, X, N, sc, W, g, s, h => by
    simp only [mtS] at h
    split at h
    · rename_i e q
      rw [Bool.and_eq_true] at h
      obtain ⟨_, rfl⟩ := asExprS_eq q
      exact t_expr g (seE hC hp hcs m g.toGoodX h.2).pe h.1
    · cases h
  | .set i m, X, N, sc, W, g, s, h => by
    simp only [mtS] at h
    split at h
    · rename_i t e q
      simp only [Bool.and_eq_true, Bool.or_eq_true] at h
      obtain ⟨⟨h1, h2⟩, h3⟩ := h
      obtain ⟨_, rfl⟩ := asAsg_eq q
      obtain ⟨x, p', rfl, h4, h5⟩ := nameAt_inv h1
      have he := (seE hC hp hcs m g.toGoodX h2).pe
      by_cases nc : notComp e = true
      · exact t_set g h4 h5 he (notComp_eq nc)
      · have h3 := h3.resolve_left nc
        cases m with
        | lc own tg it cc elt =>
          simp only [mtE] at h2
          split at h2
          · rename_i el tg' it' ifs sc' q2
            simp only [Bool.and_eq_true, decide_eq_true_eq] at h2
            obtain ⟨⟨⟨⟨b1, b2⟩, b3⟩, b4, b4b⟩, b5, b6, b7⟩ := h2
            obtain ⟨vp, rfl⟩ := asLC_eq q2
            by_cases sw : swB sc (.Name x p') (.ListComp el [⟨tg', it', ifs, 0⟩] sc' vp) = true
            · have hl : sc.names.lookup x = some .local := by
                simp only [swB, Bool.and_eq_true, beq_iff_eq] at sw
                exact sw.1.1
              have hsw := swaps_lc (el := el) (gs := [⟨tg', it', ifs, 0⟩]) (s := sc') (vp := vp) (p := p') (x := x) (l := 0) g.scq g.kind
              refine t_setLc g h4 hl ?_ b1 b2 b4 (seI hC hp hcs it g.toGoodX b5 _ (fun z => by rw [z] at b4b; simpa using b4b)) (fun s H Cc cl fp => (seEs hC hp hcs cc (good_blk g.toGoodX (blk_of g.toGoodX b1) s H Cc cl fp) b6).ifs b3) (fun s H Cc cl fp => (seE hC hp hcs elt (good_blk g.toGoodX (blk_of g.toGoodX b1) s H Cc cl fp) b7).pe)
              rw [swaps_lc g.scq g.kind, sw]
            · refine t_set g h4 h5 he ?_
              rw [swaps_lc g.scq g.kind, Bool.eq_false_iff.mpr sw]
          · cases h2
        | _ => cases h3
    · cases h
  | .unp is m, X, N, sc, W, g, s, h => by
    simp only [mtS] at h
    split at h
    · rename_i t e q
      simp only [Bool.and_eq_true] at h
      obtain ⟨_, rfl⟩ := asAsg_eq q
      exact t_unp g h.1.1.1 h.1.1.2 h.1.2 (seE hC hp hcs m g.toGoodX h.2).pe
    · cases h
  | .setIx o i m, X, N, sc, W, g, s, h => by
    simp only [mtS] at h
    split at h
    · rename_i t e q
      split at h
      · rename_i o' i' q2
        simp only [Bool.and_eq_true] at h
        obtain ⟨_, rfl⟩ := asAsg_eq q
        obtain ⟨_, rfl⟩ := asSub_eq q2
        exact t_setIx g h.1.1 (seE hC hp hcs o g.toGoodX h.2.1).pe (seE hC hp hcs i g.toGoodX h.2.2.1).pe (seE hC hp hcs m g.toGoodX h.2.2.2).pe h.1.2
      · cases h
    · cases h
  | .dput o i m, X, N, sc, W, g, s, h => by
    simp only [mtS] at h
    split at h
    · rename_i t e q
      split at h
      · rename_i o' i' q2
        simp only [Bool.and_eq_true] at h
        obtain ⟨_, rfl⟩ := asAsg_eq q
        obtain ⟨_, rfl⟩ := asSub_eq q2
        exact t_dput g (seE hC hp hcs o g.toGoodX h.2.1).pe (seE hC hp hcs i g.toGoodX h.2.2.1).pe (seE hC hp hcs m g.toGoodX h.2.2.2).pe h.1.2
      · cases h
    · cases h
  | .dputT o is m, X, N, sc, W, g, s, h => by
    simp only [mtS] at h
    split at h
    · rename_i t e q
      split at h
      · rename_i o' i' q2
        split at h
        · rename_i is' q3
          simp only [Bool.and_eq_true] at h
          obtain ⟨_, rfl⟩ := asAsg_eq q
          obtain ⟨_, rfl⟩ := asSub_eq q2
          obtain ⟨_, _, rfl⟩ := asTup_eq q3
          exact t_dputT g (seE hC hp hcs o g.toGoodX h.2.1).pe (seEs hC hp hcs is g.toGoodX h.2.2.1).pa (seE hC hp hcs m g.toGoodX h.2.2.2).pe h.1
        · cases h
      · cases h
    · cases h
  | .setAt o f m, X, N, sc, W, g, s, h => by
    simp only [mtS] at h
    split at h
    · rename_i t e q
      split at h
      · rename_i o' f' q2
        simp only [Bool.and_eq_true, decide_eq_true_eq] at h
        obtain ⟨⟨rfl, h1⟩, h2, h3⟩ := h
        obtain ⟨_, rfl⟩ := asAsg_eq q
        obtain ⟨_, rfl⟩ := asAttr_eq q2
        exact t_setAt g hsub (seE hC hp hcs o g.toGoodX h2).pe (seE hC hp hcs m g.toGoodX h3).pe h1
      · cases h
    · cases h
  | .aug i op m, X, N, sc, W, g, s, h => by
    simp only [mtS] at h
    split at h
    · rename_i t o e q
      simp only [Bool.and_eq_true, Bool.or_eq_true, decide_eq_true_eq] at h
      obtain ⟨⟨⟨h1, h2⟩, h3⟩, h4⟩ := h
      obtain ⟨_, rfl⟩ := asAugS_eq q
      obtain ⟨x, p', rfl, h5, h6⟩ := nameAt_inv h1
      exact t_aug g h5 h6 h2 h3 (seE hC hp hcs m g.toGoodX h4).pe
    · cases h
  | .augIx o i op m, X, N, sc, W, g, s, h => by
    simp only [mtS] at h
    split at h
    · rename_i t op' e q
      split at h
      · rename_i o' i' q2
        simp only [Bool.and_eq_true, Bool.or_eq_true, decide_eq_true_eq] at h
        obtain ⟨_, rfl⟩ := asAugS_eq q
        obtain ⟨_, rfl⟩ := asSub_eq q2
        exact t_augIx g h.1.1.2 h.1.2 h.1.1.1 (seE hC hp hcs o g.toGoodX h.2.1).pe (seE hC hp hcs i g.toGoodX h.2.2.1).pe (seE hC hp hcs m g.toGoodX h.2.2.2).pe
      · cases h
    · cases h
  | .ret m, X, N, sc, W, g, s, h => by
    simp only [mtS] at h
    split at h
    · rename_i e q
      obtain ⟨_, rfl⟩ := asRet_eq q
      exact t_ret g (seE hC hp hcs m g.toGoodX h).pe
    · cases h
  | .ret0, X, N, sc, W, g, s, h => by
    simp only [mtS] at h
    split at h
    · rename_i q
      obtain ⟨_, rfl⟩ := asRet_eq q
      exact t_ret0
    · cases h
  | .iff c a b, X, N, sc, W, g, s, h => by
    simp only [mtS] at h
    split at h
    · rename_i c' a' b' q
      simp only [Bool.and_eq_true] at h
      obtain ⟨_, rfl⟩ := asIfS_eq q
      exact t_if (seE hC hp hcs c g.toGoodX h.1).pt (seSs a g h.2.1) (seSs b g h.2.2)
    · cases h
  | .for tg it b, X, N, sc, W, g, s, h => by
    simp only [mtS] at h
    split at h
    · rename_i t i b' q
      simp only [Bool.and_eq_true] at h
      obtain ⟨_, rfl⟩ := asForS_eq q
      exact t_for g h.1.1.1 (seI hC hp hcs it g.toGoodX h.1.2 _ (fun z => by have := h.1.1.2.2; rw [z] at this; simpa using this)) (seSs b g h.2) h.1.1.2.1
    · cases h
  | .whl c b, X, N, sc, W, g, s, h => by
    simp only [mtS] at h
    split at h
    · rename_i c' b' q
      simp only [Bool.and_eq_true] at h
      obtain ⟨_, rfl⟩ := asWhlS_eq q
      exact t_whl g (seE hC hp hcs c g.toGoodX h.1).pt (seSs b g h.2)
    · cases h
  | .raise c, X, N, sc, W, g, s, h => by
    simp only [mtS] at h
    split at h
    · rename_i x q
      simp only [Bool.and_eq_true, decide_eq_true_eq] at h
      obtain ⟨⟨rfl, h1⟩, h2⟩ := h
      obtain ⟨_, _, _, rfl⟩ := asRaise_eq q
      by_cases hc : sub.sub x x = true
      · refine (t_raise g (hsub.ex x x hc).1 h1 h2).weak fun Dn σ H ⟨ρ, env, st, R, E, q⟩ => ⟨ρ, env, st, R, E, ?_⟩
        simp only [evS, if_pos hc] at q
        exact q
      · exact ⟨fun pins s σ H Dn I ⟨ρ, env, st, R, E, q⟩ => by simp only [evS, if_neg hc] at q; exact q.elim⟩
    · cases h
  | .tryE b x hd, X, N, sc, W, g, s, h => by
    simp only [mtS] at h
    split at h
    · rename_i b' y s0 r q
      simp only [Bool.and_eq_true, decide_eq_true_eq] at h
      obtain ⟨⟨⟨⟨⟨rfl, h1⟩, h2⟩, h3⟩, h4⟩, h5⟩ := h
      obtain ⟨_, _, _, rfl⟩ := asTry_eq q
      exact t_try g hsub (hsub.ex y y h3).1 h1 h2 h4 fun g' => seSs b g' h5
    · cases h
  | .pass, X, N, sc, W, g, s, h => by
    simp only [mtS] at h
    cases s <;> first | exact t_pass | cases h
  | .brk, X, N, sc, W, g, s, h => by
    simp only [mtS] at h
    cases s <;> first | exact t_brk | cases h
  | .cnt, X, N, sc, W, g, s, h => by
    simp only [mtS] at h
    cases s <;> first | exact t_cnt | cases h
theorem seSs : ∀ (m : Ss) {X : Cx} {N : List Str} {sc : Scope} {W : WX}, GoodS G X N sc W k → ∀ {s : List Stmt}, mtSs fs sub N sc m s = true → PSs X s (tS G W (evSs C cs sub wf m))
  | .nil, X, N, sc, W, g, s, h => by
    cases s with
    | nil => exact t_nil
    | cons _ _ => simp only [mtSs] at h; cases h
  | .cons m ms, X, N, sc, W, g, s, h => by
    cases s with
    | nil => simp only [mtSs] at h; cases h
    | cons s ss =>
      simp only [mtSs, Bool.and_eq_true] at h
      exact t_cons (seS m g h.1) (seSs ms g h.2)
end
end
end Mi

set_option linter.all false
set_option maxRecDepth 100000
set_option maxHeartbeats 1000000
/-! Defs: what a call means. -/
namespace Mi
open PySem L2 PyProof.Rows

theorem closed_keys {n : Nat} : ∀ {xs : List D} {ks : List Key}, keysD xs = some ks → closedDs n xs = true
  | [], _, _ => rfl
  | x :: xs, ks, e => by
    unfold keysD at e
    cases h1 : keyD x with
    | none => rw [h1] at e; cases e
    | some k =>
      cases h2 : keysD xs with
      | none => rw [h1, h2] at e; cases e
      | some l =>
        have : closedD n x = true := by cases x <;> first | rfl | cases h1
        unfold closedDs
        rw [this, closed_keys h2]; rfl
theorem closed_key {n : Nat} {d : D} {k : List Key} (h : keyT d = some k) : closedD n d = true := by
  cases d with
  | tup xs => exact closed_keys h
  | _ => cases h
section
variable {K : PySem.W.Frag} {ρ l : List Addr} {H : Hp}
mutual
theorem RV.closed : ∀ (d : D) {v : V}, RV K ρ H v d → closedD ρ.length d = true
  | .non, _, _ => rfl
  | .bl _, _, _ => rfl
  | .int _, _, _ => rfl
  | .str _, _, _ => rfl
  | .tup ds, _, h => by unfold RV at h; obtain ⟨a, vs, _, _, r⟩ := h; exact RVs.closed ds r
  | .fl ds, _, h => by unfold RV at h; obtain ⟨a, vs, _, _, r⟩ := h; exact RVs.closed ds r
  | .ref n, _, h => by
    unfold RV at h
    obtain ⟨a, _, h⟩ := h
    obtain ⟨hi, _⟩ := List.getElem?_eq_some_iff.mp h
    exact decide_eq_true hi
theorem RVs.closed : ∀ (ds : List D) {vs : List V}, RVs K ρ H vs ds → closedDs ρ.length ds = true
  | [], _, _ => rfl
  | d :: ds, _, h => by
    unfold RVs at h
    obtain ⟨v, r, _, h1, h2⟩ := h
    unfold closedDs
    rw [RV.closed d h1, RVs.closed ds h2]; rfl
end
mutual
theorem RV.shrink : ∀ (d : D) {v : V}, closedD ρ.length d = true → RV K (ρ ++ l) H v d → RV K ρ H v d
  | .non, _, _, h => by unfold RV at h ⊢; exact h
  | .bl _, _, _, h => by unfold RV at h ⊢; exact h
  | .int _, _, _, h => by unfold RV at h ⊢; exact h
  | .str _, _, _, h => by unfold RV at h ⊢; exact h
  | .tup ds, _, c, h => by unfold RV at h ⊢; obtain ⟨a, vs, e, s, r⟩ := h; exact ⟨a, vs, e, s, RVs.shrink ds c r⟩
  | .fl ds, _, c, h => by unfold RV at h ⊢; obtain ⟨a, vs, e, s, r⟩ := h; exact ⟨a, vs, e, s, RVs.shrink ds c r⟩
  | .ref n, _, c, h => by
    unfold RV at h ⊢
    obtain ⟨a, e, h⟩ := h
    have c : n < ρ.length := of_decide_eq_true c
    rw [List.getElem?_append_left c] at h
    exact ⟨a, e, h⟩
theorem RVs.shrink : ∀ (ds : List D) {vs : List V}, closedDs ρ.length ds = true → RVs K (ρ ++ l) H vs ds → RVs K ρ H vs ds
  | [], _, _, h => by unfold RVs at h ⊢; exact h
  | d :: ds, _, c, h => by
    unfold RVs at h ⊢
    unfold closedDs at c
    rw [Bool.and_eq_true] at c
    obtain ⟨v, r, e, h1, h2⟩ := h
    exact ⟨v, r, e, RV.shrink d c.1 h1, RVs.shrink ds c.2 h2⟩
end
theorem RFs.closed : ∀ (ds : List (Str × D)) {vs : List (Str × V)}, RFs K ρ H vs ds → ds.all (fun p => closedD ρ.length p.2) = true
  | [], _, _ => rfl
  | (f, d) :: ds, _, h => by
    obtain ⟨v, r, _, h1, h2⟩ := h
    rw [List.all_cons, RV.closed d h1, RFs.closed ds h2]; rfl
theorem RKs.closed : ∀ (ds : List (D × D)) {vs : List (Key × V)}, RKs K ρ H vs ds → ds.all (fun p => closedD ρ.length p.2) = true
  | [], _, _ => rfl
  | (f, d) :: ds, _, h => by
    obtain ⟨z, v, r, _, _, h1, h2⟩ := h
    rw [List.all_cons, RV.closed d h1, RKs.closed ds h2]; rfl
theorem RTs.closed : ∀ (ds : List (D × D)) {vs : List (List Key × V)}, RTs K ρ H vs ds → ds.all (fun p => closedD ρ.length p.2) = true
  | [], _, _ => rfl
  | (f, d) :: ds, _, h => by
    obtain ⟨z, v, r, _, _, h1, h2⟩ := h
    rw [List.all_cons, RV.closed d h1, RTs.closed ds h2]; rfl
theorem RFs.shrink : ∀ (ds : List (Str × D)) {vs : List (Str × V)}, ds.all (fun p => closedD ρ.length p.2) = true → RFs K (ρ ++ l) H vs ds → RFs K ρ H vs ds
  | [], _, _, h => h
  | (f, d) :: ds, _, c, h => by
    rw [List.all_cons, Bool.and_eq_true] at c
    obtain ⟨v, r, e, h1, h2⟩ := h
    exact ⟨v, r, e, RV.shrink d c.1 h1, RFs.shrink ds c.2 h2⟩
theorem RKs.shrink : ∀ (ds : List (D × D)) {vs : List (Key × V)}, ds.all (fun p => closedD ρ.length p.2) = true → RKs K (ρ ++ l) H vs ds → RKs K ρ H vs ds
  | [], _, _, h => h
  | (f, d) :: ds, _, c, h => by
    rw [List.all_cons, Bool.and_eq_true] at c
    obtain ⟨z, v, r, e, e2, h1, h2⟩ := h
    exact ⟨z, v, r, e, e2, RV.shrink d c.1 h1, RKs.shrink ds c.2 h2⟩
theorem RTs.shrink : ∀ (ds : List (D × D)) {vs : List (List Key × V)}, ds.all (fun p => closedD ρ.length p.2) = true → RTs K (ρ ++ l) H vs ds → RTs K ρ H vs ds
  | [], _, _, h => h
  | (f, d) :: ds, _, c, h => by
    rw [List.all_cons, Bool.and_eq_true] at c
    obtain ⟨z, v, r, e, e2, h1, h2⟩ := h
    exact ⟨z, v, r, e, e2, RV.shrink d c.1 h1, RTs.shrink ds c.2 h2⟩
theorem RO.closed {G : Glob} {a : Addr} : ∀ {mo : MO}, RO G ρ H a mo → closedMO ρ.length mo = true
  | .lst ds, ⟨vs, h, r⟩ => RVs.closed ds r
  | .dic false kvs, ⟨vs, h, r⟩ => RKs.closed kvs r
  | .dic true kvs, ⟨vs, h, r⟩ => RTs.closed kvs r
  | .ins C fs, ⟨_, _, dx, vs, h, r⟩ => RFs.closed fs r
  | .sett ds, ⟨L, ks, h, _, e, _⟩ => by
    have : ∀ (ds : List D) (ks : List (List Key)) (n : Nat), keysT ds = some ks → closedDs n ds = true := by
      intro ds
      induction ds with
      | nil => intro _ _ _; rfl
      | cons d ds ih =>
        intro ks n e
        unfold keysT at e
        cases h1 : keyT d with
        | none => rw [h1] at e; cases e
        | some k =>
          cases h2 : keysT ds with
          | none => rw [h1, h2] at e; cases e
          | some l =>
            unfold closedDs
            rw [ih l n h2, closed_key h1]; rfl
    exact this ds ks _ e
theorem RO.shrink {G : Glob} {a : Addr} : ∀ {mo : MO}, closedMO ρ.length mo = true → RO G (ρ ++ l) H a mo → RO G ρ H a mo
  | .lst ds, c, ⟨vs, h, r⟩ => ⟨vs, h, RVs.shrink ds c r⟩
  | .dic false kvs, c, ⟨vs, h, r⟩ => ⟨vs, h, RKs.shrink kvs c r⟩
  | .dic true kvs, c, ⟨vs, h, r⟩ => ⟨vs, h, RTs.shrink kvs c r⟩
  | .ins C fs, c, ⟨k1, k2, dx, vs, h, r⟩ => ⟨k1, k2, dx, vs, h, RFs.shrink fs c r⟩
  | .sett ds, c, h => h
end

theorem gc_rel {G : Glob} {ρ ρ' : List Addr} {H H' : Hp} {st st' : Store} (R : Rel G ρ H st) (n : Nx ρ H ρ' H') (R' : Rel G ρ' H' st') (h : gcOk st st') : Rel G ρ H' (st'.take st.length) ∧ Nx ρ H ρ H' := by
  obtain ⟨l, rfl⟩ := n.pre
  refine ⟨⟨?_, R.nd, fun i mo a e1 e2 => ?_⟩, ⟨⟨[], by simp⟩, n.tup, n.frz⟩⟩
  · rw [List.length_take, R.len]
    have := h.1
    omega
  · obtain ⟨hi, _⟩ := List.getElem?_eq_some_iff.mp e2
    have hi' : i < st.length := by rw [← R.len]; exact hi
    rw [List.getElem?_take_of_lt hi'] at e1
    have ro := R'.obj i mo a e1 (by rw [List.getElem?_append_left hi]; exact e2)
    refine RO.shrink ?_ ro
    rcases h.2 i hi' with e | ⟨mo', e, c⟩
    · rw [e1] at e
      exact (R.obj i mo a e.symm e2).closed
    · rw [e1] at e
      cases e
      rw [R.len]; exact c
theorem gc_val {G : Glob} {ρ ρ' : List Addr} {H H' : Hp} {st : Store} {v : V} {d : D} (R : Rel G ρ H st) (n : Nx ρ H ρ' H') (c : closedD st.length d = true) (r : RV G.K ρ' H' v d) : RV G.K ρ H' v d := by
  obtain ⟨l, rfl⟩ := n.pre
  exact RV.shrink d (by rw [R.len]; exact c) r

theorem flat_ref {k : Nat} {st : Store} {d : D} {mo : MO} (h : flatO k st d = some mo) : ∃ n, d = .ref n ∧ st[n]? = some mo ∧ closedMO k mo = true := by
  cases d with
  | ref n =>
    unfold flatO at h
    cases e : st[n]? with
    | none => simp [e] at h
    | some m =>
      simp only [e] at h
      split at h
      · rename_i c
        cases h
        exact ⟨n, rfl, e, c⟩
      · cases h
  | _ => cases h
theorem gc_pack {G : Glob} {ρ ρ' : List Addr} {H H' : Hp} {st st' : Store} {v : V} {m : Nat} {mo : MO} (R : Rel G ρ H st) (n : Nx ρ H ρ' H') (R' : Rel G ρ' H' st') (h : gcOk st st') (c : ¬ closedD st.length (.ref m) = true) (e : st'[m]? = some mo) (cm : closedMO st.length mo = true) (r : RV G.K ρ' H' v (.ref m)) :
    ∃ ρ2, Rel G ρ2 H' (st'.take st.length ++ [mo]) ∧ Nx ρ H ρ2 H' ∧ RV G.K ρ2 H' v (.ref st.length) := by
  obtain ⟨R2, n2⟩ := gc_rel R n R' h
  obtain ⟨l, rfl⟩ := n.pre
  unfold RV at r
  obtain ⟨a, rfl, ea⟩ := r
  have hm : ρ.length ≤ m := by
    rw [R.len]
    unfold closedD at c
    simp only [decide_eq_true_eq] at c
    omega
  have ro := R'.obj m mo a e ea
  have ro2 : RO G ρ H' a mo := RO.shrink (by rw [R.len]; exact cm) ro
  have n1 : Nx ρ H' (ρ ++ [a]) H' := ⟨⟨[a], rfl⟩, fun _ _ h => h, fun _ _ _ h => h⟩
  have nd := R'.nd
  rw [List.getElem?_append_right hm] at ea
  have al : a ∈ l := List.mem_of_getElem? ea
  rw [List.nodup_append] at nd
  have ln : (st'.take st.length).length = ρ.length := R2.len.symm
  refine ⟨ρ ++ [a], ⟨by simp only [List.length_append, ln, List.length_singleton], ?_, fun i mo' b e1 e2 => ?_⟩, n2.trans n1, ?_⟩
  · rw [List.nodup_append]
    refine ⟨R.nd, by simp, fun x hx y hy => ?_⟩
    rw [List.mem_singleton.mp hy]
    exact nd.2.2 x hx a al
  · by_cases hi : i < ρ.length
    · rw [List.getElem?_append_left (by omega)] at e1
      rw [List.getElem?_append_left hi] at e2
      exact (R2.obj i mo' b e1 e2).mono n1 rfl
    · rw [List.getElem?_append_right (by omega)] at e1 e2
      have k1 : i - (st'.take st.length).length = i - ρ.length := by omega
      rw [k1] at e1
      have k2 : i - ρ.length = 0 := by
        obtain ⟨z, _⟩ := List.getElem?_eq_some_iff.mp e1
        simp at z
        exact z
      rw [k2] at e1 e2
      simp at e1 e2
      subst e1
      subst e2
      exact ro2.mono n1 rfl
  · unfold RV
    refine ⟨a, rfl, ?_⟩
    rw [← R.len, List.getElem?_append_right (Nat.le_refl _)]
    simp
/-- a body of the text -/
structure BodyOk (G : Glob) (L : Lang) (fs : List Str) (d : Fd) where
  st : Stmt
  a : Addr
  fd : FuncData
  N : List Str
  ps : List Str
  x : Str
  q : Str
  F : Fun G.K x q st a fd
  S : FnScope N ps (defScope st)
  b : Binds G.K fd ps []
  np : ps.length = d.n
  nn : N.length = d.slots
  mt : mtSs fs L.sub N (defScope st) d.body (defBody st) = true
/-- a def of the text -/
structure DefOk (G : Glob) (L : Lang) (fs : List Str) (f : Str) where
  d : Fd
  fn : L.fns f = some d
  B : BodyOk G L fs d
  mg : G.mg f = some (.ref B.a)
/-- a method -/
structure MdOk (G : Glob) (L : Lang) (fs : List Str) (c m : Str) (d : Fd) where
  B : BodyOk G L fs d
  cl : Cls G.K (G.cls c)
  me : Meth G.K (G.cls c) m B.a
  make_ : m = "__init__" → Mk G.K (G.cls c) B.a ∧ G.mg c = some (.ref (G.cls c))

theorem env_start {G : Glob} {ρ : List Addr} {H : Hp} {N : List Str} {fd : Fd} {vs : List V} {ds : List D} (r : RVs G.K ρ H vs ds) (hn : N.length = fd.slots) : REnv G.K ρ H (start N vs) (startE fd ds) := by
  have hl := r.length
  refine ⟨?_, fun i d e => ?_⟩
  · unfold L2.start startE
    simp [hl, hn]
  · unfold startE at e
    by_cases hi : i < ds.length
    · rw [List.getElem?_append_left (by simpa using hi), List.getElem?_map] at e
      cases q : ds[i]? with
      | none => rw [q] at e; cases e
      | some c =>
        rw [q] at e; cases e
        obtain ⟨v, h1, h2⟩ := r.get q
        refine ⟨v, ?_, h2⟩
        unfold L2.start
        rw [List.getElem?_append_left (by simp [hl]; exact hi), List.getElem?_map, h1]; rfl
    · rw [List.getElem?_append_right (by simpa using hi), List.getElem?_replicate] at e
      split at e <;> cases e

theorem good_def {G : Glob} {N ps : List Str} {st : Stmt} {a : Addr} {cdv : Value} {A : Around} {outer : List PySem.Env} {s : Shared} {H : Hp} {E : XK} {k : Nat} {f : Str} (S : FnScope N ps (defScope st)) (hr : Room (k + 1) (A.deeper (envOfC f (defScope st) s.heap.objs.size a cdv))) :
    GoodS G (cxOf (L2.CX G.P G.w) G.P G.w G.K G.mg G.base N f (defScope st) a cdv A outer s H E) N (defScope st) (fun cls d _ H => E cls d H) k where
  prog := rfl
  w := rfl
  K := rfl
  mg := rfl
  base := rfl
  ns := rfl
  nd := S.nd
  vis := fun x h => by
    unfold visS at h
    show (defScope st).names.lookup x = some .local ∨ (defScope st).names.lookup x = some .cell ∨ (defScope st).names.lookup x = some .free
    cases e : (defScope st).names.lookup x with
    | none => rw [e] at h; cases h
    | some y => rw [e] at h; cases y <;> simp at h ⊢
  loc := fun x h => by
    unfold locS at h
    refine ⟨?_, .inl rfl⟩
    show (defScope st).names.lookup x = some .local ∨ (defScope st).names.lookup x = some .cell
    cases e : (defScope st).names.lookup x with
    | none => rw [e] at h; cases h
    | some y => rw [e] at h; cases y <;> simp at h ⊢
  glo := fun x h => by
    unfold gloS at h
    show (defScope st).names.lookup x = some .globalImplicit
    cases e : (defScope st).names.lookup x with
    | none => rw [e] at h; cases h
    | some y => rw [e] at h; cases y <;> simp at h ⊢
  fr := fun x h => h
  calm := rfl
  room1 := hr
  tk := takes_of rfl rfl rfl rfl
  scq := rfl
  kind := S.kind
  po := passes_of rfl
  stk := rfl
  frm := rfl

theorem look_fn {L : Lang} {f : Str} {d : Fd} {ds : List D} (h : L.fns f = some d) : L.look f ds = some (d, ds) := by
  unfold Lang.look
  rw [h]
theorem look_mth {L : Lang} {c m : Str} {ds : List D} (hd : L.fns "." = none) : L.look "." (.str c :: .str m :: ds) = (L.mth c m).map fun d => (d, ds) := by
  unfold Lang.look
  rw [hd]
  rfl
theorem runF_ar {L : Lang} {C : Oracle} {d : Fd} {ds : List D} {st : Store} (h : ds.length ≠ d.n) : runF L C d ds st = .bad := by
  unfold runF
  rw [if_neg h]
theorem body_step {G : Glob} {L : Lang} {fs : List Str} {C : Oracle} {k : Nat} (hp : Plain G) (hcs : ConstsOk G L.cs) (hsub : SubOk G L.sub) (ih : CallsOk G fs C k) {d : Fd} (B : BodyOk G L fs d) {f : List D → Store → Res} (hf : ∀ ds st, f ds st = gc st (runF L C d ds st)) :
    FnOk G.P G.w G.K G.mg G.base (L2.CX G.P G.w) (k + 1 + 1) B.a B.fd B.ps (spD G B.ps.length f) := by
  refine B.F.okX B.S (fun vs H Q E h => h.1) fun cdv A outer s H vs Q E hr hsp => ?_
  obtain ⟨hl, ρ, st, ds, R, r, q⟩ := hsp
  have g : GoodS G (cxOf (L2.CX G.P G.w) G.P G.w G.K G.mg G.base B.N B.q (defScope B.st) B.a cdv A outer s H E) B.N (defScope B.st) (fun cls dd _ H => E cls dd H) k := good_def B.S hr
  refine ⟨_, seSs (sub := L.sub) (wf := L.wf) ih hp hcs hsub d.body g B.mt, ρ, startE d ds, st, R, env_start r B.nn, ?_⟩
  have hlen : ds.length = d.n := by rw [← B.np, ← hl, r.length]
  rw [hf] at q
  unfold runF at q
  rw [if_pos hlen] at q
  cases ho : evSs C L.cs L.sub L.wf d.body (startE d ds) st with
  | nx env1 st1 =>
    simp only [ho, Out.fin] at q
    intro σ' ρ' H' n' R' E'
    unfold gc at q
    by_cases c : gcOk st st1 ∧ closedD st.length .non = true
    · simp only [if_pos c] at q
      obtain ⟨R2, n2⟩ := gc_rel R n' R' c.1
      exact q _ ρ H' n2 R2 (rv_non.mpr rfl)
    · simp only [if_neg c, flatO] at q
      exact q _ ρ' H' n' R' (rv_non.mpr rfl)
  | rt v st1 =>
    simp only [ho, Out.fin] at q
    intro w ρ' H' n' R' r'
    unfold gc at q
    by_cases c : gcOk st st1 ∧ closedD st.length v = true
    · simp only [if_pos c] at q
      obtain ⟨R2, n2⟩ := gc_rel R n' R' c.1
      exact q _ ρ H' n2 R2 (gc_val R n' c.2 r')
    · simp only [if_neg c] at q
      cases hf : flatO st.length st1 v with
      | none =>
        simp only [hf] at q
        exact q _ ρ' H' n' R' r'
      | some mo =>
        simp only [hf] at q
        by_cases g : gcOk st st1
        · simp only [if_pos g] at q
          obtain ⟨m, e, e1, e2⟩ := flat_ref hf
          subst e
          obtain ⟨ρ2, R2, n2, r2⟩ := gc_pack R n' R' g (fun z => c ⟨g, z⟩) e1 e2 r'
          exact q _ ρ2 H' n2 R2 r2
        · simp only [if_neg g] at q
          exact q _ ρ' H' n' R' r'
  | exc x env1 st1 =>
    simp only [ho, Out.fin] at q
    intro σ' ρ' H' n' R' E'
    unfold gc at q
    by_cases c : gcOk st st1
    · simp only [if_pos c] at q
      obtain ⟨R2, n2⟩ := gc_rel R n' R' c
      exact q ρ H' n2 R2
    · simp only [if_neg c] at q
      exact q ρ' H' n' R'
  | bk _ _ => simp only [ho, Out.fin, gc] at q
  | ct _ _ => simp only [ho, Out.fin, gc] at q
  | bad => simp only [ho, Out.fin, gc] at q
theorem callK_fn {L : Lang} {f : Str} {d : Fd} (h : L.fns f = some d) (n : Nat) (ds : List D) (st : Store) : callK L (n + 1) f ds st = gc st (runF L (callK L n) d ds st) := by
  unfold callK
  rw [look_fn h]
theorem callK_mth {L : Lang} {c m : Str} {d : Fd} (hd : L.fns "." = none) (h : L.mth c m = some d) (n : Nat) (ds : List D) (st : Store) : callK L (n + 1) "." (.str c :: .str m :: ds) st = gc st (runF L (callK L n) d ds st) := by
  unfold callK
  rw [look_mth hd, h]
  rfl
theorem callK_no {L : Lang} {c m : Str} (hd : L.fns "." = none) (h : L.mth c m = none) (n : Nat) (ds : List D) (st : Store) : callK L n "." (.str c :: .str m :: ds) st = .bad := by
  cases n with
  | zero => rfl
  | succ n =>
    unfold callK
    rw [look_mth hd, h]
    rfl
theorem calls_ok {G : Glob} {L : Lang} {fs : List Str} (hp : Plain G) (hcs : ConstsOk G L.cs) (hsub : SubOk G L.sub) (hd : ∀ f ∈ fs, Nonempty (DefOk G L fs f)) (h0 : L.fns "." = none) (hm : ∀ c m d, L.mth c m = some d → Nonempty (MdOk G L fs c m d)) : ∀ n, CallsOk G fs (callK L n) (2 * n)
  | 0 => ⟨fun f hf => by
    obtain ⟨d⟩ := hd f hf
    exact ⟨⟨d.B.a, d.B.fd, d.B.ps, d.mg, d.B.F.kp, d.B.b, fun ds st _ => rfl, ⟨fun vs H Q E h => h.1, fun A outer s H args us vs Q E hr he hb hv h => by
      obtain ⟨_, ρ, st, ds, _, _, h⟩ := h
      exact h.elim⟩⟩⟩, fun c m => .inr fun _ _ => rfl⟩
  | n + 1 => ⟨fun f hf => by
      obtain ⟨d⟩ := hd f hf
      exact ⟨⟨d.B.a, d.B.fd, d.B.ps, d.mg, d.B.F.kp, d.B.b, fun ds st h => by rw [callK_fn d.fn, runF_ar (by rw [← d.B.np]; exact h)]; rfl,
        body_step hp hcs hsub (calls_ok hp hcs hsub hd h0 hm n) d.B (callK_fn d.fn n)⟩⟩,
    fun c m => by
      cases e : L.mth c m with
      | none => exact .inr fun ds st => callK_no h0 e _ ds st
      | some d =>
        obtain ⟨M⟩ := hm c m d e
        exact .inl ⟨⟨M.B.a, M.B.fd, M.B.ps, M.cl, M.me, M.B.b, fun ds st h => by rw [callK_mth h0 e, runF_ar (by rw [← M.B.np]; exact h)]; rfl,
          body_step hp hcs hsub (calls_ok hp hcs hsub hd h0 hm n) M.B (callK_mth h0 e n), M.make_⟩⟩⟩
end Mi

set_option linter.all false
set_option maxRecDepth 100000
/-! A law's own end. -/
namespace Mi
open PySem L2 PyProof.Rows
theorem lookup_mem {β : Type} {x : Str} {d : β} : ∀ {l : List (Str × β)}, l.lookup x = some d → (x, d) ∈ l
  | [], h => by cases h
  | (y, e) :: l, h => by
    rw [List.lookup_cons] at h
    by_cases q : x = y
    · subst q
      simp only [beq_self_eq_true] at h
      cases h
      exact List.mem_cons_self
    · have q' : (x == y) = false := beq_eq_false_iff_ne.mpr q
      simp only [q'] at h
      exact List.mem_cons_of_mem _ (lookup_mem h)
theorem fq_of {K : PySem.W.Frag} {H : Hp} {a : Addr} {xs : List V} (o : Only H) (h : SqL K H a xs) : FqL K H a xs := by
  rcases h with (h | h) | h
  · rcases o a with z | ⟨u, ys, z⟩
    · rw [h] at z; cases z
    · rw [h] at z; cases z
  · exact .inl h
  · exact .inr h
theorem rvs_ints {K : PySem.W.Frag} {ρ : List Addr} {H : Hp} : ∀ (ns : List Int), RVs K ρ H (ns.map V.int) (ns.map D.int)
  | [] => RVs.nil_
  | n :: ns => RVs.cons_ (by unfold RV; rfl) (rvs_ints ns)
/-- the law's promise -/
def spLaw (K : PySem.W.Frag) : Sp := fun vs H Q _ => ∃ (a : Addr) (ns : List Int), vs = [V.ref a] ∧ FqL K H a (ns.map V.int) ∧ ns.length ≤ 63 ∧ ∀ H', Q (.bl true) H'
/-- a law is kept: its call says True at every script -/
def Kept (L : Lang) (n : Nat) : Prop := ∀ ns : List Int, ns.length ≤ 63 → ∃ st, callK L n "law" [.fl (ns.map D.int)] [] = .ok (.bl true) st
theorem law_imp {G : Glob} {L : Lang} {n : Nat} (h : Kept L n) {vs : List V} {H : Hp} {Q : VK} {E : XK} (q : spLaw G.K vs H Q E) : spD G 1 (callK L n "law") vs H Q E := by
  obtain ⟨a, ns, rfl, hf, hl, q⟩ := q
  obtain ⟨st, e⟩ := h ns hl
  refine ⟨rfl, [], [], [.fl (ns.map D.int)], ⟨rfl, List.nodup_nil, fun n mo a h => by simp at h⟩, rvs_1.mpr ⟨_, rfl, rv_fl.mpr ⟨a, _, rfl, hf, rvs_ints ns⟩⟩, ?_⟩
  rw [e]
  intro v ρ' H' _ _ r
  rw [rv_bl] at r
  subst r
  exact q H'
end Mi

set_option linter.all false
set_option maxRecDepth 100000
/-! The small language's equations, for simp. -/
namespace Mi
open PySem L2

@[simp] theorem bind_ok {d : D} {st : Store} {k : D → Store → Res} : (Res.ok d st).bind k = k d st := rfl
@[simp] theorem bind_exc {c : Str} {st : Store} {k : D → Store → Res} : (Res.exc c st).bind k = .exc c st := rfl
@[simp] theorem bind_bad {k : D → Store → Res} : Res.bad.bind k = .bad := rfl
@[simp] theorem bindL_ok {d : D} {st : Store} {k : D → Store → ResL} : (Res.ok d st).bindL k = k d st := rfl
@[simp] theorem lbind_ok {d : List D} {st : Store} {k : List D → Store → Res} : (ResL.ok d st).bind k = k d st := rfl
@[simp] theorem lbindL_ok {d : List D} {st : Store} {k : List D → Store → ResL} : (ResL.ok d st).bindL k = k d st := rfl
@[simp] theorem bindN_ok {d : List D} {st : Store} {k : List D → Store → Res} : (ResL.ok d st).bindN k = k d st := rfl
@[simp] theorem lbindO_ok {d : List D} {st : Store} {env : Env} {k : List D → Store → Out} : (ResL.ok d st).bindO env k = k d st := rfl
@[simp] theorem bindO_ok {d : D} {st : Store} {env : Env} {k : D → Store → Out} : (Res.ok d st).bindO env k = k d st := rfl
@[simp] theorem bindO_exc {c : Str} {st : Store} {env : Env} {k : D → Store → Out} : (Res.exc c st).bindO env k = .exc c env st := rfl

/-! what follows a truth value, a test, a type -/
def casB : D → Res → Res → Res
  | .bl true, a, _ => a
  | .bl false, _, b => b
  | _, _, _ => .bad
def casO : Option Bool → Out → Out → Out
  | some true, a, _ => a
  | some false, _, b => b
  | none, _, _ => .bad
def notB : D → Store → Res
  | .bl b, st => .ok (.bl (!b)) st
  | _, _ => .bad
def tyB (n : Bool) (t : Str) (o : Option String) (st : Store) : Res := match o with
  | some u => .ok (.bl (if n then !decide ((t : Str) = u) else decide ((t : Str) = u))) st
  | none => .bad
def inB (t : Str) (o : Option String) (st : Store) : Res := match o with
  | some u => .ok (.bl (decide ((t : Str) = u) || (u == "bool" && decide ((t : Str) = ("int" : String))))) st
  | none => .bad
def varB (o : Option (Option D)) (st : Store) : Res := match o with
  | some (some d) => .ok d st
  | _ => .bad
def glbB (o : Option D) (st : Store) : Res := match o with
  | some d => .ok d st
  | none => .bad
@[simp] theorem casB_bl {b : Bool} {x y : Res} : casB (.bl b) x y = if b = true then x else y := by cases b <;> rfl
@[simp] theorem casO_some {b : Bool} {x y : Out} : casO (some b) x y = if b = true then x else y := by cases b <;> rfl
@[simp] theorem notB_bl {b : Bool} {st : Store} : notB (.bl b) st = .ok (.bl (!b)) st := rfl
@[simp] theorem varB_some {d : D} {st : Store} : varB (some (some d)) st = .ok d st := rfl
@[simp] theorem glbB_some {d : D} {st : Store} : glbB (some d) st = .ok d st := rfl
theorem ofString_inj {a b : String} : Str.ofString a = Str.ofString b ↔ a = b := by
  constructor
  · intro h
    rw [Str.ofString_eq_toList, Str.ofString_eq_toList] at h
    have h1 := congrArg (fun s : Str => s.cps.toList) h
    simp only [List.toList_toArray] at h1
    have h2 : a.toList = b.toList := by
      have inj : ∀ (l m : List Char), l.map Char.toNat = m.map Char.toNat → l = m := by
        intro l
        induction l with
        | nil => intro m e; cases m with
          | nil => rfl
          | cons _ _ => simp at e
        | cons c l ih =>
          intro m e
          cases m with
          | nil => simp at e
          | cons d m =>
            simp only [List.map_cons, List.cons.injEq] at e
            rw [ih m e.2, Char.toNat_inj.mp e.1]
      exact inj _ _ h1
    exact String.toList_inj.mp h2
  · rintro rfl; rfl
@[simp] theorem tyB_some {n : Bool} {t u : String} {st : Store} : tyB n t (some u) st = .ok (.bl (if n then !decide (t = u) else decide (t = u))) st := by
  unfold tyB
  simp only [ofString_inj]
@[simp] theorem inB_some {t u : String} {st : Store} : inB t (some u) st = .ok (.bl (decide (t = u) || (u == "bool" && decide (t = "int")))) st := by
  unfold inB
  simp only [ofString_inj]
@[simp] theorem obind_nx {env : Env} {st : Store} {k : Env → Store → Out} : (Out.nx env st).bind k = k env st := rfl
@[simp] theorem obind_rt {d : D} {st : Store} {k : Env → Store → Out} : (Out.rt d st).bind k = .rt d st := rfl
@[simp] theorem obind_bk {env : Env} {st : Store} {k : Env → Store → Out} : (Out.bk env st).bind k = .bk env st := rfl
@[simp] theorem obind_ct {env : Env} {st : Store} {k : Env → Store → Out} : (Out.ct env st).bind k = .ct env st := rfl
@[simp] theorem obind_exc {c : Str} {env : Env} {st : Store} {k : Env → Store → Out} : (Out.exc c env st).bind k = .exc c env st := rfl
@[simp] theorem obind_ite {c : Prop} [Decidable c] {a b : Out} {k : Env → Store → Out} : (if c then a else b).bind k = if c then a.bind k else b.bind k := by split <;> rfl
@[simp] theorem fin_ite {c : Prop} [Decidable c] {a b : Out} : (if c then a else b).fin = if c then a.fin else b.fin := by split <;> rfl
@[simp] theorem bind_ite {c : Prop} [Decidable c] {a b : Res} {k : D → Store → Res} : (if c then a else b).bind k = if c then a.bind k else b.bind k := by split <;> rfl
@[simp] theorem bindO_ite {c : Prop} [Decidable c] {a b : Res} {env : Env} {k : D → Store → Out} : (if c then a else b).bindO env k = if c then a.bindO env k else b.bindO env k := by split <;> rfl
@[simp] theorem bindL_ite {c : Prop} [Decidable c] {a b : Res} {k : D → Store → ResL} : (if c then a else b).bindL k = if c then a.bindL k else b.bindL k := by split <;> rfl
@[simp] theorem gc_ite {c : Prop} [Decidable c] {a b : Res} {st : Store} : gc st (if c then a else b) = if c then gc st a else gc st b := by split <;> rfl

theorem bind_congr {f : Res} {k j : D → Store → Res} (h : ∀ d st, k d st = j d st) : f.bind k = f.bind j := by
  cases f <;> first | exact h _ _ | rfl
theorem bindO_congr {f : Res} {env : Env} {k j : D → Store → Out} (h : ∀ d st, k d st = j d st) : f.bindO env k = f.bindO env j := by
  cases f <;> first | exact h _ _ | rfl
noncomputable def rng1R : Res → ItR
  | .ok (.int j) st => if small62 j then .ok (rangeD 0 j) none st else .bad
  | .exc c st => .exc c st
  | _ => .bad
noncomputable def rng2R : Res → (Store → Res) → ItR
  | .ok (.int i) st, k => (match k st with
    | .ok (.int j) st => if small62 i ∧ small62 j then .ok (rangeD i j) none st else .bad
    | .exc c st => .exc c st
    | _ => .bad)
  | .exc c st, _ => .exc c st
  | _, _ => .bad
def expR : Res → ItR
  | .ok d st => (match itemsOf st d with
    | some (xs, gd) => .ok xs gd st
    | none => .bad)
  | .exc c st => .exc c st
  | .bad => .bad
def ItR.toRes : ItR → (List D → Option (Nat × List D) → Store → Res) → Res
  | .ok xs gd st, k => k xs gd st
  | .exc c st, _ => .exc c st
  | .bad, _ => .bad
def ItR.toOut : ItR → Env → (List D → Option (Nat × List D) → Store → Out) → Out
  | .ok xs gd st, _, k => k xs gd st
  | .exc c st, env, _ => .exc c env st
  | .bad, _, _ => .bad
@[simp] theorem rng1R_ok {j : Int} {st : Store} (h : small62 j) : rng1R (.ok (.int j) st) = .ok (rangeD 0 j) none st := by simp only [rng1R, if_pos h]
theorem rng2R_ok {i : Int} {st : Store} {k : Store → Res} : rng2R (.ok (.int i) st) k = match k st with
    | .ok (.int j) st => if small62 i ∧ small62 j then .ok (rangeD i j) none st else .bad
    | .exc c st => .exc c st
    | _ => .bad := rfl
theorem rng2R_run {i j : Int} {st st' : Store} {k : Store → Res} (h : k st = .ok (.int j) st') (hi : small62 i) (hj : small62 j) : rng2R (.ok (.int i) st) k = .ok (rangeD i j) none st' := by simp only [rng2R, h, if_pos (And.intro hi hj)]
@[simp] theorem expR_tup {st : Store} {xs : List D} : expR (.ok (.tup xs) st) = .ok xs none st := rfl
@[simp] theorem expR_fl {st : Store} {xs : List D} : expR (.ok (.fl xs) st) = .ok xs none st := rfl
theorem expR_ref {st : Store} {n : Nat} {xs : List D} (h : st[n]? = some (.lst xs)) : expR (.ok (.ref n) st) = .ok xs (some (n, xs)) st := by simp only [expR, itemsOf, h]
theorem expR_str {st : Store} {z : Str} : expR (.ok (.str z) st) = .ok (z.cps.toList.map fun c => .str ⟨#[c]⟩) none st := rfl
@[simp] theorem toRes_ok {xs : List D} {gd : Option (Nat × List D)} {st : Store} {k : List D → Option (Nat × List D) → Store → Res} : (ItR.ok xs gd st).toRes k = k xs gd st := rfl
@[simp] theorem toOut_ok {xs : List D} {gd : Option (Nat × List D)} {st : Store} {env : Env} {k : List D → Option (Nat × List D) → Store → Out} : (ItR.ok xs gd st).toOut env k = k xs gd st := rfl
/-! what follows in the forms with dicts, sets, objects, raises -/
def attrB (f : Str) : D → Store → Res
  | .ref n, st => match st[n]? with
    | some (.ins _ fs) => (match fs.lookup f with
      | some d => .ok d st
      | none => .bad)
    | _ => .bad
  | _, _ => .bad
def newB (n : Nat) : D → Store → Res
  | .non, st => .ok (.ref n) st
  | _, _ => .bad
def mthB (o : Option Str) (k : Str → Res) : Res := match o with
  | some c => k c
  | none => .bad
def stO (o : Option Store) (env : Env) : Out := match o with
  | some st => .nx env st
  | none => .bad
def catchO (sub : Tab) (x : Str) (h : Hd) : Out → Out
  | .exc c env st => if sub.sub c x = true then hdR h env st else .bad
  | o => o
def enmR (lo : Int) : Res → ItR
  | .ok (.tup xs) st => .ok (enumD lo xs) none st
  | .exc c st => .exc c st
  | _ => .bad
def zipB (x y : D) (st : Store) : ItR := match x, y with
  | .tup xs, .tup ys => .ok (zipD xs ys) none st
  | _, _ => .bad
def zipR (r : Res) (k : Store → Res) : ItR := match r with
  | .ok x st => (match k st with
    | .ok y st => zipB x y st
    | .exc c st => .exc c st
    | .bad => .bad)
  | .exc c st => .exc c st
  | .bad => .bad
def augO (op : BOp) (o : Option Int) (x y : D) (env : Env) (r : Res) : Out := match o with
  | some v => r.bindO env fun z st => (match augInt op v z with
    | some d => stO (setIxop x y d st) env
    | none => .bad)
  | none => .bad
theorem attrB_of {f : Str} {n : Nat} {st : Store} {c : Str} {fs : List (Str × D)} {d : D} (h : st[n]? = some (.ins c fs)) (h2 : fs.lookup f = some d) : attrB f (.ref n) st = .ok d st := by simp [attrB, h, h2]
@[simp] theorem newB_non {n : Nat} {st : Store} : newB n .non st = .ok (.ref n) st := rfl
@[simp] theorem mthB_some {c : Str} {k : Str → Res} : mthB (some c) k = k c := rfl
@[simp] theorem stO_some {st : Store} {env : Env} : stO (some st) env = .nx env st := rfl
@[simp] theorem catchO_exc {sub : Tab} {x c : Str} {h : Hd} {env : Env} {st : Store} : catchO sub x h (.exc c env st) = if sub.sub c x = true then hdR h env st else .bad := rfl
@[simp] theorem catchO_nx {sub : Tab} {x : Str} {h : Hd} {env : Env} {st : Store} : catchO sub x h (.nx env st) = .nx env st := rfl
@[simp] theorem catchO_rt {sub : Tab} {x : Str} {h : Hd} {d : D} {st : Store} : catchO sub x h (.rt d st) = .rt d st := rfl
@[simp] theorem enmR_tup {lo : Int} {xs : List D} {st : Store} : enmR lo (.ok (.tup xs) st) = .ok (enumD lo xs) none st := rfl
@[simp] theorem zipR_tup {xs : List D} {st : Store} {k : Store → Res} {ys : List D} {st' : Store} (h : k st = .ok (.tup ys) st') : zipR (.ok (.tup xs) st) k = .ok (zipD xs ys) none st' := by simp [zipR, zipB, h]
/-- what is run behind a statement -/
noncomputable def kSs (C : Oracle) (cs : Str → Option D) (sub : Tab) (wf : Nat) (ss : Ss) : Env → Store → Out := fun env st => evSs C cs sub wf ss env st
section
variable (C : Oracle) (cs : Str → Option D) (sub : Tab) (wf : Nat) (env : Env) (st : Store)
@[simp] theorem evE_non : evE C cs .non env st = .ok .non st := rfl
@[simp] theorem evE_bl (b : Bool) : evE C cs (.bl b) env st = .ok (.bl b) st := rfl
@[simp] theorem evE_int (i : Int) : evE C cs (.int i) env st = .ok (.int i) st := rfl
@[simp] theorem evE_str (x : Str) : evE C cs (.str x) env st = .ok (.str x) st := rfl
@[simp] theorem evE_var (i : Nat) : evE C cs (.var i) env st = varB env[i]? st := rfl
@[simp] theorem evE_glb (x : Str) : evE C cs (.glb x) env st = glbB (cs x) st := rfl
@[simp] theorem evE_un (op : UOp) (a : E) : evE C cs (.un op a) env st = (evE C cs a env st).bind fun x st => unop op x st := rfl
@[simp] theorem evE_bin (op : BOp) (a b : E) : evE C cs (.bin op a b) env st = (evE C cs a env st).bind fun x st => (evE C cs b env st).bind fun y st => binop op x y st := rfl
@[simp] theorem evE_cmp (op : COp) (a b : E) : evE C cs (.cmp op a b) env st = (evE C cs a env st).bind fun x st => (evE C cs b env st).bind fun y st => cmpop op x y st := rfl
@[simp] theorem evE_chain (o o' : COp) (a b c : E) : evE C cs (.chain o o' a b c) env st = (evE C cs a env st).bind fun x st => (evE C cs b env st).bind fun y st => (cmpop o x y st).bind fun r st => casB r ((evE C cs c env st).bind fun z st => cmpop o' y z st) (.ok (.bl false) st) := bind_congr fun x st => bind_congr fun y st => bind_congr fun x st => by cases x with | bl b => cases b <;> rfl | _ => rfl
@[simp] theorem evE_and (es : Es) : evE C cs (.and es) env st = evAnd C cs es env st := rfl
@[simp] theorem evE_or (es : Es) : evE C cs (.or es) env st = evOr C cs es env st := rfl
@[simp] theorem evE_not (a : E) : evE C cs (.not a) env st = (evE C cs a env st).bind notB := bind_congr fun x st => by cases x <;> rfl
@[simp] theorem evE_ite (c a b : E) : evE C cs (.ite c a b) env st = (evE C cs c env st).bind fun x st => casB x (evE C cs a env st) (evE C cs b env st) := bind_congr fun x st => by cases x with | bl b => cases b <;> rfl | _ => rfl
@[simp] theorem evE_tup (es : Es) : evE C cs (.tup es) env st = (evEs C cs es env st).bind fun ds st => if ds.length ≤ LINE then .ok (.tup ds) st else .bad := rfl
@[simp] theorem evE_lst (es : Es) : evE C cs (.lst es) env st = (evEs C cs es env st).bind fun ds st => if ds.length ≤ LINE then .ok (.ref st.length) (st ++ [.lst ds]) else .bad := rfl
@[simp] theorem evE_idx (a b : E) : evE C cs (.idx a b) env st = (evE C cs a env st).bind fun x st => (evE C cs b env st).bind fun y st => idxop x y st := rfl
@[simp] theorem evE_slc (a : E) (lo hi : Oe) : evE C cs (.slc a lo hi) env st = (evE C cs a env st).bind fun x st => match evO C cs lo env st with
    | (some l, st) => (match evO C cs hi env st with
      | (some h, st) => slcop x l h st
      | _ => .bad)
    | _ => .bad := rfl
@[simp] theorem evE_call (f : Str) (es : Es) : evE C cs (.call f es) env st = (evEs C cs es env st).bind fun ds st => C f ds st := rfl
@[simp] theorem evE_bi (f : BI) (es : Es) : evE C cs (.bi f es) env st = (evEs C cs es env st).bind fun ds st => biop f ds st := rfl
@[simp] theorem evE_mth (m : MI) (a : E) (es : Es) : evE C cs (.mth m a es) env st = (evE C cs a env st).bind fun x st => if recvOk m x st = true then (evEs C cs es env st).bind fun ds st => mthop m x ds st else .bad := rfl
@[simp] theorem evE_typeIs (n : Bool) (a : E) (t : Str) : evE C cs (.typeIs n a t) env st = (evE C cs a env st).bind fun x st => tyB n t (tyNameS st x) st := rfl
@[simp] theorem evE_isin (a : E) (t : Str) : evE C cs (.isin a t) env st = (evE C cs a env st).bind fun x st => inB t (tyNameS st x) st := rfl
@[simp] theorem evE_lc (own : List (Str × Nat)) (tg : Tg) (it : Ie) (cc : Es) (elt : E) : evE C cs (.lc own tg it cc elt) env st = (evI C cs it env st).toRes fun xs gd st => compL (stepF (own.map Prod.snd) tg (evAll C cs cc) (evE C cs elt) env) gd st.length xs (st ++ [.lst []]) := by
  show ((match evI C cs it env st with
  | .ok xs gd st => compL (stepF (own.map Prod.snd) tg (evAll C cs cc) (evE C cs elt) env) gd st.length xs (st ++ [.lst []])
  | .exc c st => .exc c st
  | .bad => .bad) : Res) = _
  cases evI C cs it env st <;> rfl
@[simp] theorem evE_dic (t : Bool) : evE C cs (.dic t .nil .nil) env st = .ok (.ref st.length) (st ++ [.dic t []]) := rfl
@[simp] theorem evE_attr (a : E) (f : Str) : evE C cs (.attr a f) env st = (evE C cs a env st).bind (attrB f) := bind_congr fun x st => by cases x <;> rfl
@[simp] theorem evE_new (c : Str) (es : Es) : evE C cs (.new c es) env st = (evEs C cs es env st).bindN fun ds st => (C "." (.str c :: .str "__init__" :: .ref st.length :: ds) (st ++ [.ins c []])).bind (newB st.length) := by
  show (evEs C cs es env st).bindN _ = _
  cases evEs C cs es env st with
  | ok ds s => exact bind_congr fun x st => by cases x <;> rfl
  | _ => rfl
@[simp] theorem evE_omth (m : Str) (a : E) (es : Es) : evE C cs (.omth m a es) env st = (evE C cs a env st).bind fun x st => mthB (insOf x st) fun c => (evEs C cs es env st).bindN fun ds st => C "." (.str c :: .str m :: x :: ds) st := rfl
@[simp] theorem evE_set0 : evE C cs .set0 env st = .ok (.ref st.length) (st ++ [.sett []]) := rfl
@[simp] theorem evE_sadd (a e : E) : evE C cs (.sadd a e) env st = (evE C cs a env st).bind fun x st => if isSet x st = true then (evE C cs e env st).bind fun y st => saddop x y st else .bad := rfl
@[simp] theorem evE_slen (a : E) : evE C cs (.slen a) env st = (evE C cs a env st).bind fun x st => slenop x st := rfl
@[simp] theorem evE_dget (a e : E) : evE C cs (.dget a e) env st = (evE C cs a env st).bind fun x st => (evE C cs e env st).bind fun y st => dgetop x y st := rfl
@[simp] theorem evE_din (n : Bool) (e a : E) : evE C cs (.din n e a) env st = (evE C cs e env st).bind fun y st => (evE C cs a env st).bind fun x st => dinop n x y st := rfl
@[simp] theorem evE_dgetm (a e z : E) : evE C cs (.dgetm a e z) env st = (evE C cs a env st).bind fun x st => if isDic x st = true then (evE C cs e env st).bind fun y st => (evE C cs z env st).bind fun w st => dgetmop x y w st else .bad := rfl
@[simp] theorem evEs_nil : evEs C cs .nil env st = .ok [] st := rfl
@[simp] theorem evEs_cons (e : E) (es : Es) : evEs C cs (.cons e es) env st = (evE C cs e env st).bindL fun d st => (evEs C cs es env st).bindL fun ds st => .ok (d :: ds) st := rfl
@[simp] theorem evAnd_one (e : E) : evAnd C cs (.cons e .nil) env st = evE C cs e env st := rfl
@[simp] theorem evAnd_cons (e a : E) (es : Es) : evAnd C cs (.cons e (.cons a es)) env st = (evE C cs e env st).bind fun x st => casB x (evAnd C cs (.cons a es) env st) (.ok (.bl false) st) := bind_congr fun x st => by cases x with | bl b => cases b <;> rfl | _ => rfl
@[simp] theorem evOr_one (e : E) : evOr C cs (.cons e .nil) env st = evE C cs e env st := rfl
@[simp] theorem evOr_cons (e a : E) (es : Es) : evOr C cs (.cons e (.cons a es)) env st = (evE C cs e env st).bind fun x st => casB x (.ok (.bl true) st) (evOr C cs (.cons a es) env st) := bind_congr fun x st => by cases x with | bl b => cases b <;> rfl | _ => rfl
@[simp] theorem evAll_nil : evAll C cs .nil env st = .ok (.bl true) st := rfl
@[simp] theorem evAll_cons (e : E) (es : Es) : evAll C cs (.cons e es) env st = (evE C cs e env st).bind fun x st => casB x (evAll C cs es env st) (.ok (.bl false) st) := bind_congr fun x st => by cases x with | bl b => cases b <;> rfl | _ => rfl
@[simp] theorem evO_none : evO C cs .none env st = (some none, st) := rfl
@[simp] theorem evO_some (e : E) : evO C cs (.some e) env st = match evE C cs e env st with
    | .ok (.int i) st => (some (some i), st)
    | _ => (none, st) := rfl
@[simp] theorem evI_exp (e : E) : evI C cs (.exp e) env st = expR (evE C cs e env st) := by
  show ((match evE C cs e env st with
    | .ok d st => (match itemsOf st d with
      | some (xs, gd) => .ok xs gd st
      | none => .bad)
    | .exc c st => .exc c st
    | .bad => .bad) : ItR) = _
  cases evE C cs e env st <;> rfl
@[simp] theorem evI_rng1 (a : E) : evI C cs (.rng1 a) env st = rng1R (evE C cs a env st) := by
  show ((match evE C cs a env st with
    | .ok (.int j) st => if small62 j then .ok (rangeD 0 j) none st else .bad
    | .exc c st => .exc c st
    | _ => .bad) : ItR) = _
  cases evE C cs a env st with
  | ok d s => cases d <;> rfl
  | _ => rfl
@[simp] theorem evI_rng2 (a b : E) : evI C cs (.rng2 a b) env st = rng2R (evE C cs a env st) (fun st => evE C cs b env st) := by
  show ((match evE C cs a env st with
    | .ok (.int i) st => (match evE C cs b env st with
      | .ok (.int j) st => if small62 i ∧ small62 j then .ok (rangeD i j) none st else .bad
      | .exc c st => .exc c st
      | _ => .bad)
    | .exc c st => .exc c st
    | _ => .bad) : ItR) = _
  cases evE C cs a env st with
  | ok d s => cases d <;> rfl
  | _ => rfl

@[simp] theorem evI_enm (a : E) (lo : Int) : evI C cs (.enm a lo) env st = enmR lo (evE C cs a env st) := by
  show ((match evE C cs a env st with
    | .ok (.tup xs) st => .ok (enumD lo xs) none st
    | .exc c st => .exc c st
    | _ => .bad) : ItR) = _
  cases evE C cs a env st with
  | ok d s => cases d <;> rfl
  | _ => rfl
@[simp] theorem evI_zip (a b : E) : evI C cs (.zip a b) env st = zipR (evE C cs a env st) (fun st => evE C cs b env st) := by
  show ((match evE C cs a env st with
    | .ok x st => (match evE C cs b env st with
      | .ok y st => (match x, y with
        | .tup xs, .tup ys => .ok (zipD xs ys) none st
        | _, _ => .bad)
      | .exc c st => .exc c st
      | .bad => .bad)
    | .exc c st => .exc c st
    | .bad => .bad) : ItR) = _
  cases evE C cs a env st with
  | ok x s =>
    simp only [zipR]
    cases evE C cs b env s <;> rfl
  | _ => rfl
@[simp] theorem evS_dput (o i e : E) : evS C cs sub wf (.dput o i e) env st = (evE C cs e env st).bindO env fun d st => (evE C cs o env st).bindO env fun x st => (evE C cs i env st).bindO env fun y st => stO (dputop false x y d st) env := rfl
@[simp] theorem evS_dputT (o e : E) (es : Es) : evS C cs sub wf (.dputT o es e) env st = (evE C cs e env st).bindO env fun d st => (evE C cs o env st).bindO env fun x st => (evEs C cs es env st).bindO env fun ys st => stO (if ys.length ≤ LINE then dputop true x (.tup ys) d st else none) env := rfl
@[simp] theorem evS_setAt (o e : E) (f : Str) : evS C cs sub wf (.setAt o f e) env st = (evE C cs e env st).bindO env fun d st => (evE C cs o env st).bindO env fun x st => stO (setAtop sub x f d st) env := rfl
@[simp] theorem evS_augIx (o i e : E) (op : BOp) : evS C cs sub wf (.augIx o i op e) env st = (evE C cs o env st).bindO env fun x st => (evE C cs i env st).bindO env fun y st => augO op (ixInt x y st) x y env (evE C cs e env st) := rfl
@[simp] theorem evS_raise (c : Str) : evS C cs sub wf (.raise c) env st = if sub.sub c c = true then .exc c env st else .bad := rfl
@[simp] theorem evS_tryE (b : Ss) (x : Str) (h : Hd) : evS C cs sub wf (.tryE b x h) env st = catchO sub x h (evSs C cs sub wf b env st) := by
  show (match evSs C cs sub wf b env st with
    | .exc c env st => if sub.sub c x = true then hdR h env st else .bad
    | o => o) = _
  cases evSs C cs sub wf b env st <;> rfl
@[simp] theorem evS_expr (e : E) : evS C cs sub wf (.expr e) env st = (evE C cs e env st).bindO env fun _ st => .nx env st := rfl
@[simp] theorem evS_set (i : Nat) (e : E) : evS C cs sub wf (.set i e) env st = (evE C cs e env st).bindO env fun d st => .nx (env.set i (some d)) st := rfl
theorem evS_setIx (o i e : E) : evS C cs sub wf (.setIx o i e) env st = (evE C cs e env st).bindO env fun d st => (evE C cs o env st).bindO env fun x st => (evE C cs i env st).bindO env fun y st => match setIxop x y d st with
    | some st => .nx env st
    | none => .bad := rfl
@[simp] theorem evS_ret (e : E) : evS C cs sub wf (.ret e) env st = (evE C cs e env st).bindO env fun d st => .rt d st := rfl
@[simp] theorem evS_ret0 : evS C cs sub wf .ret0 env st = .rt .non st := rfl
@[simp] theorem evS_iff (c : E) (a b : Ss) : evS C cs sub wf (.iff c a b) env st = (evE C cs c env st).bindO env fun x st => casO (truth st x) (evSs C cs sub wf a env st) (evSs C cs sub wf b env st) := by
  refine bindO_congr (f := evE C cs c env st) fun x st => ?_
  cases truth st x with
  | none => rfl
  | some b => cases b <;> rfl
@[simp] theorem evS_for (tg : Tg) (it : Ie) (b : Ss) : evS C cs sub wf (.for tg it b) env st = (evI C cs it env st).toOut env fun xs gd st => forL (bodyF tg (evSs C cs sub wf b)) gd xs env st := by
  show ((match evI C cs it env st with
    | .ok xs gd st => forL (bodyF tg (evSs C cs sub wf b)) gd xs env st
    | .exc c st => .exc c env st
    | .bad => .bad) : Out) = _
  cases evI C cs it env st <;> rfl
@[simp] theorem evS_pass : evS C cs sub wf .pass env st = .nx env st := rfl
@[simp] theorem evS_brk : evS C cs sub wf .brk env st = .bk env st := rfl
@[simp] theorem evS_cnt : evS C cs sub wf .cnt env st = .ct env st := rfl
@[simp] theorem evSs_nil : evSs C cs sub wf .nil env st = .nx env st := rfl
@[simp] theorem kSs_app (ss : Ss) : kSs C cs sub wf ss env st = evSs C cs sub wf ss env st := rfl
@[simp] theorem evSs_cons (s : S) (ss : Ss) : evSs C cs sub wf (.cons s ss) env st = (evS C cs sub wf s env st).bind (kSs C cs sub wf ss) := by
  show seqF (evS C cs sub wf s) (evSs C cs sub wf ss) env st = _
  unfold seqF
  cases evS C cs sub wf s env st <;> rfl
end
@[simp] theorem fin_nx (env : Env) (st : Store) : (Out.nx env st).fin = .ok .non st := rfl
@[simp] theorem fin_rt (d : D) (st : Store) : (Out.rt d st).fin = .ok d st := rfl
@[simp] theorem fin_exc (c : Str) (env : Env) (st : Store) : (Out.exc c env st).fin = .exc c st := rfl
@[simp] theorem truth_bl (st : Store) (b : Bool) : truth st (.bl b) = some b := rfl

@[simp] theorem ok_ite_bl {c : Prop} [Decidable c] {x y : Bool} {st : Store} : (if c then Res.ok (.bl x) st else Res.ok (.bl y) st) = .ok (.bl (if c then x else y)) st := by split <;> rfl
@[simp] theorem ty_non (st : Store) : tyNameS st .non = some "NoneType" := rfl
@[simp] theorem ty_bl' (st : Store) (b : Bool) : tyNameS st (.bl b) = some "bool" := rfl
@[simp] theorem ty_int (st : Store) (b : Int) : tyNameS st (.int b) = some "int" := rfl
@[simp] theorem ty_str (st : Store) (b : Str) : tyNameS st (.str b) = some "str" := rfl
@[simp] theorem ty_tup (st : Store) (b : List D) : tyNameS st (.tup b) = some "tuple" := rfl
@[simp] theorem add_ii (i j : Int) (st : Store) : binop .add (.int i) (.int j) st = .ok (.int (i + j)) st := rfl
@[simp] theorem sub_ii (i j : Int) (st : Store) : binop .sub (.int i) (.int j) st = .ok (.int (i - j)) st := rfl
@[simp] theorem lt_ii (i j : Int) (st : Store) : cmpop .lt (.int i) (.int j) st = .ok (.bl (decide (i < j))) st := rfl
@[simp] theorem le_ii (i j : Int) (st : Store) : cmpop .le (.int i) (.int j) st = .ok (.bl (decide (i ≤ j))) st := rfl
@[simp] theorem gt_ii (i j : Int) (st : Store) : cmpop .gt (.int i) (.int j) st = .ok (.bl (decide (j < i))) st := rfl
@[simp] theorem ge_ii (i j : Int) (st : Store) : cmpop .ge (.int i) (.int j) st = .ok (.bl (decide (j ≤ i))) st := rfl
theorem eq_run {x y : D} {st : Store} {p q : PyData} (h1 : dataS st x = some p) (h2 : dataS st y = some q) (h3 : SeqAt.shaped p = true) (h4 : SeqAt.shaped q = true) : cmpop .eq x y st = .ok (.bl (PyData.eqv p q)) st := by
  simp [cmpop, eqD, h1, h2, h3, h4, resB]
theorem ne_run {x y : D} {st : Store} {p q : PyData} (h1 : dataS st x = some p) (h2 : dataS st y = some q) (h3 : SeqAt.shaped p = true) (h4 : SeqAt.shaped q = true) : cmpop .ne x y st = .ok (.bl (!PyData.eqv p q)) st := by
  simp [cmpop, eqD, h1, h2, h3, h4, resB]
@[simp] theorem shaped_int (i : Int) : SeqAt.shaped (.int i) = true := rfl
@[simp] theorem shaped_bl (i : Bool) : SeqAt.shaped (.bool i) = true := rfl
@[simp] theorem shaped_non : SeqAt.shaped .none = true := rfl
theorem shaped_str (x : Str) : SeqAt.shaped (.str x) = PyData.strOk x := by
  show (PyData.strOk x && decide (PyData.depth (.str x) ≤ 64)) = _
  simp [PyData.depth]
@[simp] theorem eq_ii (i j : Int) (st : Store) : cmpop .eq (.int i) (.int j) st = .ok (.bl (decide (i = j))) st := by
  rw [eq_run rfl rfl rfl rfl]
  simp [PyData.eqv]; rfl
@[simp] theorem ne_ii (i j : Int) (st : Store) : cmpop .ne (.int i) (.int j) st = .ok (.bl (!decide (i = j))) st := by
  rw [ne_run rfl rfl rfl rfl]
  simp [PyData.eqv]; rfl
@[simp] theorem ne_bb (i j : Bool) (st : Store) : cmpop .ne (.bl i) (.bl j) st = .ok (.bl (!decide (i = j))) st := by
  rw [ne_run rfl rfl rfl rfl]
  cases i <;> cases j <;> rfl
@[simp] theorem len_tup (xs : List D) (st : Store) : biop .len [.tup xs] st = .ok (.int xs.length) st := rfl
theorem atI_nn {α : Type} {xs : List α} {i : Int} (h : 0 ≤ i) : atI xs i = xs[i.toNat]? := by
  unfold atI ixN
  rw [if_pos h]
  by_cases h2 : i < xs.length
  · rw [if_pos h2]; rfl
  · rw [if_neg h2, List.getElem?_eq_none (by omega)]; rfl
theorem atI_nat' {α : Type} {xs : List α} (i : Nat) : atI xs (i : Int) = xs[i]? := by rw [atI_nn (by omega)]; simp
@[simp] theorem atI_0 {α : Type} {xs : List α} : atI xs 0 = xs[0]? := atI_nn (by decide)
@[simp] theorem atI_1 {α : Type} {xs : List α} : atI xs 1 = xs[1]? := atI_nn (by decide)
@[simp] theorem atI_2 {α : Type} {xs : List α} : atI xs 2 = xs[2]? := atI_nn (by decide)
@[simp] theorem atI_3 {α : Type} {xs : List α} : atI xs 3 = xs[3]? := atI_nn (by decide)
@[simp] theorem atI_m1 {α : Type} {xs : List α} : atI xs (-1) = xs.getLast? := by
  unfold atI ixN
  rw [if_neg (by decide)]
  cases xs with
  | nil => rfl
  | cons x r =>
    rw [if_pos (by simp; omega), List.getLast?_eq_getElem?]
    show (x :: r)[_]? = _
    congr 1
    simp only [List.length_cons]
    omega
@[simp] theorem idx_tup (xs : List D) (i : Int) (st : Store) : idxop (.tup xs) (.int i) st = glbB (atI xs i) st := by
  simp only [idxop]
  cases atI xs i <;> rfl
theorem idx_ref {n : Nat} {xs : List D} {st : Store} (i : Int) (h : st[n]? = some (.lst xs)) : idxop (.ref n) (.int i) st = glbB (atI xs i) st := by
  simp only [idxop, h]
  cases atI xs i <;> rfl
@[simp] theorem idx_fl (xs : List D) (i : Int) (st : Store) : idxop (.fl xs) (.int i) st = glbB (atI xs i) st := by
  simp only [idxop]
  cases atI xs i <;> rfl
@[simp] theorem in64_iff {i : Int} : in64 i ↔ (-18446744073709551616 < i ∧ i < 18446744073709551616) := Iff.rfl
@[simp] theorem okDiv_iff {i : Int} : okDiv i ↔ (0 < i ∧ i < 1152921504606846976) := Iff.rfl
@[simp] theorem okPow_iff {i j : Int} : okPow i j ↔ (0 ≤ j ∧ j ≤ 1000000 ∧ i.natAbs < 18446744073709551616) := Iff.rfl
theorem in64_mk {i : Int} (h : -18446744073709551616 < i) (k : i < 18446744073709551616) : in64 i := ⟨h, k⟩
@[simp] theorem okRepT_iff {n : Nat} {j : Int} : okRepT n j ↔ (n ≠ 0 ∧ -1000000 ≤ j ∧ j ≤ 1000 ∧ n ≤ 1000) := Iff.rfl
@[simp] theorem mul_ti (xs : List D) (j : Int) (st : Store) : binop .mul (.tup xs) (.int j) st = if okRepT xs.length j then .ok (.tup (List.replicate j.toNat xs).flatten) st else .bad := rfl
@[simp] theorem neg_i (i : Int) (st : Store) : unop .neg (.int i) st = .ok (.int (-i)) st := rfl
/-- a comprehension's step -/
def cstep (r : Res) (k : Store → Res) : CRes := match r with
  | .ok (.bl true) s => (match k s with
    | .ok d s => .ok (some d) s
    | _ => .bad)
  | .ok (.bl false) s => .ok none s
  | _ => .bad
theorem stepF_name (own : List Nat) (i : Nat) (fc fe : Env → Store → Res) (env : Env) (x : D) (s : Store) : stepF own (.name i) fc fe env x s = cstep (fc ((wipeE env own).set i (some x)) s) (fun s => fe ((wipeE env own).set i (some x)) s) := rfl
@[simp] theorem cstep_yes {s s' : Store} {d : D} {k : Store → Res} (h : k s = .ok d s') : cstep (.ok (.bl true) s) k = .ok (some d) s' := by
  simp only [cstep, h]
/-- a comprehension whose items are reckoned without a trace -/
theorem comp_map {step : D → Store → CRes} {g : D → D} {st : Store} : ∀ {xs acc : List D}, (∀ x ∈ xs, ∀ l, step x (st ++ [.lst l]) = .ok (some (g x)) (st ++ [.lst l])) → acc.length + xs.length ≤ LINE →
    compL step none st.length xs (st ++ [.lst acc]) = .ok (.ref st.length) (st ++ [.lst (acc ++ xs.map g)])
  | [], acc, _, _ => by simp [compL, gdOk]
  | x :: xs, acc, h, hl => by
    simp only [List.length_cons] at hl
    have hx := h x List.mem_cons_self acc
    have ih := comp_map (acc := acc ++ [g x]) (fun y hy l => h y (List.mem_cons_of_mem _ hy) l) (by simp; omega)
    have e : (st ++ [MO.lst acc]).set st.length (.lst (acc ++ [g x])) = st ++ [.lst (acc ++ [g x])] := by simp
    simp only [compL, gdOk, if_true, hx]
    rw [List.getElem?_append_right (Nat.le_refl _)]
    simp only [Nat.sub_self, List.getElem?_cons_zero]
    rw [if_pos (by omega), e, ih]
    simp
theorem comp_run {step : D → Store → CRes} {g : D → D} {st : Store} {xs : List D} (h : ∀ x ∈ xs, ∀ l, step x (st ++ [.lst l]) = .ok (some (g x)) (st ++ [.lst l])) (hl : xs.length ≤ LINE) :
    compL step none st.length xs (st ++ [.lst []]) = .ok (.ref st.length) (st ++ [.lst (xs.map g)]) := by
  have := comp_map (acc := []) h (by simpa using hl)
  simpa using this
theorem bls_map (p : D → Bool) : ∀ xs : List D, blsD (xs.map fun x => D.bl (p x)) = some (xs.map p)
  | [] => rfl
  | x :: xs => by simp [blsD, bls_map p xs]
@[simp] theorem all_new {st : Store} {xs : List D} {p : D → Bool} : biop .all [.ref st.length] (st ++ [.lst (xs.map fun x => .bl (p x))]) = .ok (.bl (xs.all p)) (st ++ [.lst (xs.map fun x => .bl (p x))]) := by
  simp [biop, lstOf, bls_map, List.all_map]
@[simp] theorem items_tup (st : Store) (xs : List D) : itemsOf st (.tup xs) = some (xs, none) := rfl
/-- a def's call, opened -/
theorem call_open {L : Lang} {n : Nat} {f : Str} {fd : Fd} {ds : List D} {st : Store} (h : L.fns f = some fd) (hl : ds.length = fd.n) :
    callK L (n + 1) f ds st = gc st (evSs (callK L n) L.cs L.sub L.wf fd.body (startE fd ds) st).fin := by
  rw [callK_fn h]
  simp only [runF, if_pos hl]
theorem mth_open {L : Lang} {n : Nat} {c m : Str} {fd : Fd} {ds : List D} {st : Store} (h0 : L.fns "." = none) (h : L.mth c m = some fd) (hl : ds.length = fd.n) :
    callK L (n + 1) "." (.str c :: .str m :: ds) st = gc st (evSs (callK L n) L.cs L.sub L.wf fd.body (startE fd ds) st).fin := by
  rw [callK_mth h0 h]
  simp only [runF, if_pos hl]
theorem gcOk_refl (st : Store) : gcOk st st := ⟨Nat.le_refl _, fun i h => .inl rfl⟩
theorem flat_self {st : Store} {d : D} (h : ¬ closedD st.length d = true) : flatO st.length st d = none := by
  cases d with
  | ref n =>
    unfold closedD at h
    simp only [decide_eq_true_eq] at h
    have e : st[n]? = none := List.getElem?_eq_none (by omega)
    simp only [flatO, e]
  | _ => rfl
@[simp] theorem gc_same {st : Store} {d : D} : gc st (.ok d st) = .ok d st := by
  unfold gc
  by_cases h : gcOk st st ∧ closedD st.length d = true
  · simp only [if_pos h, List.take_length]
  · have h2 : ¬ closedD st.length d = true := fun c => h ⟨gcOk_refl st, c⟩
    simp only [if_neg h, flat_self h2]
/-- what is handed back is a new thing -/
theorem gc_newk {st g : Store} {j : Nat} {mo : MO} (e : g[j]? = some mo) (c : closedMO st.length mo = true) : gc st (.ok (.ref (st.length + j)) (st ++ g)) = .ok (.ref st.length) (st ++ [mo]) := by
  have ok : gcOk st (st ++ g) := ⟨by simp, fun i h => .inl (List.getElem?_append_left h)⟩
  have e2 : (st ++ g)[st.length + j]? = some mo := by
    rw [List.getElem?_append_right (by omega), show st.length + j - st.length = j by omega]
    exact e
  have c2 : ¬ (gcOk st (st ++ g) ∧ closedD st.length (.ref (st.length + j)) = true) := by
    rintro ⟨_, z⟩
    unfold closedD at z
    have := of_decide_eq_true z
    omega
  have f : flatO st.length (st ++ g) (.ref (st.length + j)) = some mo := by
    unfold flatO
    simp only [e2, if_pos c]
  unfold gc
  simp only [if_neg c2, f, if_pos ok, List.take_left']
theorem gc_new0 {st g : Store} {mo : MO} (c : closedMO st.length mo = true) : gc st (.ok (.ref st.length) (st ++ mo :: g)) = .ok (.ref st.length) (st ++ [mo]) := gc_newk (j := 0) rfl c
/-- no name of a thing is handed back, and it is not closed -/
theorem gc_open {st s : Store} {d : D} (h : closedD st.length d = false) (hr : ∀ n, d ≠ .ref n) : gc st (.ok d s) = .ok d s := by
  unfold gc
  have c : ¬ (gcOk st s ∧ closedD st.length d = true) := fun k => by rw [h] at k; exact Bool.false_ne_true k.2
  have f : flatO st.length s d = none := by
    cases d with
    | ref n => exact absurd rfl (hr n)
    | _ => rfl
  simp only [if_neg c, f]
theorem closed_map {α : Type} {k : Nat} {f : α → D} (h : ∀ x, closedD k (f x) = true) : ∀ xs : List α, closedDs k (xs.map f) = true
  | [] => rfl
  | x :: xs => by
    show (closedD k (f x) && closedDs k (xs.map f)) = true
    rw [h x, closed_map h xs]; rfl
theorem closedDs_of {k : Nat} : ∀ {xs : List D}, (∀ x ∈ xs, closedD k x = true) → closedDs k xs = true
  | [], _ => rfl
  | x :: xs, h => by
    show (closedD k x && closedDs k xs) = true
    rw [h x List.mem_cons_self, closedDs_of fun y hy => h y (List.mem_cons_of_mem _ hy)]; rfl
theorem gc_app {st g : Store} {d : D} (h : closedD st.length d = true) : gc st (.ok d (st ++ g)) = .ok d st := by
  have ok : gcOk st (st ++ g) := ⟨by simp, fun i h => .inl (List.getElem?_append_left h)⟩
  unfold gc
  simp only [if_pos (And.intro ok h), List.take_left']
@[simp] theorem gc_app_int {st g : Store} {i : Int} : gc st (.ok (.int i) (st ++ g)) = .ok (.int i) st := gc_app rfl
@[simp] theorem gc_app_bl {st g : Store} {i : Bool} : gc st (.ok (.bl i) (st ++ g)) = .ok (.bl i) st := gc_app rfl
@[simp] theorem gc_app_str {st g : Store} {i : Str} : gc st (.ok (.str i) (st ++ g)) = .ok (.str i) st := gc_app rfl
@[simp] theorem gc_app_non {st g : Store} : gc st (.ok .non (st ++ g)) = .ok .non st := gc_app rfl

end Mi

set_option linter.all false
set_option Elab.async false
set_option maxRecDepth 100000
set_option maxHeartbeats 4000000
/-! The text's defs as terms; the language. -/
namespace LL
open PySem L2 Mi
def fd_is_integer : Fd := ⟨3, 3,
    (.cons (.ret (.and (.cons (.typeIs false (.var 0) "int") (.cons (.chain .le .le (.var 1) (.var 0) (.var 2)) .nil))))
    .nil)⟩
def fd_is_event : Fd := ⟨1, 1,
    (.cons (.iff (.not (.call "_is_named" (.cons (.var 0) .nil)))
      (.cons (.ret (.bl false))
      .nil)
      .nil)
    (.cons (.iff (.cmp .eq (.idx (.var 0) (.int 0)) (.str "step"))
      (.cons (.ret (.and (.cons (.cmp .eq (.bi .len (.cons (.var 0) .nil)) (.int 2)) (.cons (.call "_are_changes" (.cons (.idx (.var 0) (.int 1)) .nil)) .nil))))
      .nil)
      .nil)
    (.cons (.iff (.or (.cons (.cmp .notin (.idx (.var 0) (.int 0)) (.tup (.cons (.str "send") (.cons (.str "take") .nil)))) (.cons (.cmp .ne (.bi .len (.cons (.var 0) .nil)) (.int 3)) .nil)))
      (.cons (.ret (.bl false))
      .nil)
      .nil)
    (.cons (.ret (.and (.cons (.call "is_integer" (.cons (.idx (.var 0) (.int 1)) (.cons (.int 1) (.cons (.glb "MOST_LETTER") .nil)))) (.cons (.call "_are_changes" (.cons (.idx (.var 0) (.int 2)) .nil)) .nil))))
    .nil))))⟩
def fd_is_run : Fd := ⟨1, 2,
    (.cons (.iff (.not (.call "_is_row" (.cons (.var 0) (.cons (.int 1) (.cons (.glb "MOST_PROCESSES") .nil)))))
      (.cons (.ret (.bl false))
      .nil)
      .nil)
    (.cons (.iff (.not (.bi .all (.cons (.lc [("row", 1)] (.name 1) (.exp (.var 0)) .nil (.call "_is_process" (.cons (.var 1) .nil))) .nil)))
      (.cons (.ret (.bl false))
      .nil)
      .nil)
    (.cons (.ret (.and (.cons (.call "letters_once" (.cons (.var 0) .nil)) (.cons (.cmp .eq (.bi .len (.cons (.call "one_row" (.cons (.var 0) .nil)) .nil)) (.bi .sum (.cons (.lc [("row", 1)] (.name 1) (.exp (.var 0)) .nil (.bi .len (.cons (.var 1) .nil))) .nil))) .nil))))
    .nil)))⟩
def fd_one_row : Fd := ⟨1, 9,
    (.cons (.set 1 (.lst .nil))
    (.cons (.set 2 (.dic false .nil .nil))
    (.cons (.set 3 (.bin .mul (.lst (.cons (.int 0) .nil)) (.bi .len (.cons (.var 0) .nil))))
    (.cons (.set 4 (.un .neg (.int 1)))
    (.cons (.whl (.cmp .lt (.var 4) (.bi .len (.cons (.var 1) .nil)))
      (.cons (.set 4 (.bi .len (.cons (.var 1) .nil)))
      (.cons (.for (.tup [5, 6]) (.enm (.var 0) 0)
        (.cons (.set 7 (.slc (.var 6) (.some (.idx (.var 3) (.var 5))) .none))
        (.cons (.for (.name 8) (.exp (.var 7))
          (.cons (.iff (.and (.cons (.cmp .eq (.idx (.var 8) (.int 0)) (.str "take")) (.cons (.din true (.idx (.var 8) (.int 1)) (.var 2)) .nil)))
            (.cons .brk
            .nil)
            .nil)
          (.cons (.iff (.cmp .eq (.idx (.var 8) (.int 0)) (.str "send"))
            (.cons (.dput (.var 2) (.idx (.var 8) (.int 1)) (.bl true))
            .nil)
            .nil)
          (.cons (.augIx (.var 3) (.var 5) .add (.int 1))
          (.cons (.expr (.mth .append (.var 1) (.cons (.tup (.cons (.var 5) (.cons (.idx (.var 3) (.var 5)) .nil))) .nil)))
          .nil)))))
        .nil)))
      .nil)))
    (.cons (.ret (.var 1))
    .nil))))))⟩
def fd_letters_once : Fd := ⟨1, 5,
    (.cons (.set 1 .set0)
    (.cons (.set 2 (.int 0))
    (.cons (.for (.name 3) (.exp (.var 0))
      (.cons (.for (.name 4) (.exp (.var 3))
        (.cons (.iff (.cmp .ne (.idx (.var 4) (.int 0)) (.str "step"))
          (.cons (.expr (.sadd (.var 1) (.slc (.var 4) .none (.some (.int 2)))))
          (.cons (.aug 2 .add (.int 1))
          .nil))
          .nil)
        .nil))
      .nil))
    (.cons (.ret (.cmp .eq (.slen (.var 1)) (.var 2)))
    .nil))))⟩
def fd__is_row : Fd := ⟨3, 3,
    (.cons (.ret (.and (.cons (.typeIs false (.var 0) "tuple") (.cons (.chain .le .le (.var 1) (.bi .len (.cons (.var 0) .nil)) (.var 2)) .nil))))
    .nil)⟩
def fd__is_named : Fd := ⟨1, 1,
    (.cons (.ret (.and (.cons (.typeIs false (.var 0) "tuple") (.cons (.cmp .gt (.bi .len (.cons (.var 0) .nil)) (.int 0)) (.cons (.typeIs false (.idx (.var 0) (.int 0)) "str") .nil)))))
    .nil)⟩
def fd__is_variable : Fd := ⟨1, 1,
    (.cons (.ret (.and (.cons (.typeIs false (.var 0) "str") (.cons (.cmp .isin (.var 0) (.glb "VARIABLES")) .nil))))
    .nil)⟩
def fd__are_changes : Fd := ⟨1, 3,
    (.cons (.iff (.not (.call "_is_row" (.cons (.var 0) (.cons (.int 0) (.cons (.bi .len (.cons (.glb "VARIABLES") .nil)) .nil)))))
      (.cons (.ret (.bl false))
      .nil)
      .nil)
    (.cons (.iff (.not (.bi .all (.cons (.lc [("change", 2)] (.name 2) (.exp (.var 0)) .nil (.call "_is_change" (.cons (.var 2) .nil))) .nil)))
      (.cons (.ret (.bl false))
      .nil)
      .nil)
    (.cons (.ret (.bi .all (.cons (.lc [("at", 1)] (.name 1) (.rng2 (.int 1) (.bi .len (.cons (.var 0) .nil))) .nil (.cmp .lt (.idx (.idx (.var 0) (.bin .sub (.var 1) (.int 1))) (.int 0)) (.idx (.idx (.var 0) (.var 1)) (.int 0)))) .nil)))
    .nil)))⟩
def fd__is_change : Fd := ⟨1, 1,
    (.cons (.iff (.not (.call "_is_row" (.cons (.var 0) (.cons (.int 2) (.cons (.int 2) .nil)))))
      (.cons (.ret (.bl false))
      .nil)
      .nil)
    (.cons (.ret (.and (.cons (.call "_is_variable" (.cons (.idx (.var 0) (.int 0)) .nil)) (.cons (.call "is_integer" (.cons (.idx (.var 0) (.int 1)) (.cons (.un .neg (.glb "MOST_VALUE")) (.cons (.glb "MOST_VALUE") .nil)))) .nil))))
    .nil))⟩
def fd__is_process : Fd := ⟨1, 2,
    (.cons (.ret (.and (.cons (.call "_is_row" (.cons (.var 0) (.cons (.int 0) (.cons (.glb "MOST_EVENTS") .nil)))) (.cons (.bi .all (.cons (.lc [("event", 1)] (.name 1) (.exp (.var 0)) .nil (.call "is_event" (.cons (.var 1) .nil))) .nil)) .nil))))
    .nil)⟩
def fd__sends_of : Fd := ⟨1, 6,
    (.cons (.set 1 (.dic false .nil .nil))
    (.cons (.set 2 (.dic true .nil .nil))
    (.cons (.for (.tup [3, 4]) (.exp (.call "one_row" (.cons (.var 0) .nil)))
      (.cons (.set 5 (.idx (.idx (.var 0) (.var 3)) (.bin .sub (.var 4) (.int 1))))
      (.cons (.iff (.cmp .eq (.idx (.var 5) (.int 0)) (.str "send"))
        (.cons (.dput (.var 1) (.idx (.var 5) (.int 1)) (.tup (.cons (.var 3) (.cons (.var 4) .nil))))
        .nil)
        (.cons (.iff (.cmp .eq (.idx (.var 5) (.int 0)) (.str "take"))
          (.cons (.dputT (.var 2) (.cons (.var 3) (.cons (.var 4) .nil)) (.dget (.var 1) (.idx (.var 5) (.int 1))))
          .nil)
          .nil)
        .nil))
      .nil)))
    (.cons (.ret (.var 2))
    .nil))))⟩
def fd__clocks_of : Fd := ⟨2, 10,
    (.cons (.set 2 (.dic true .nil .nil))
    (.cons (.set 3 (.bi .tuple (.cons (.bin .mul (.lst (.cons (.int 0) .nil)) (.bi .len (.cons (.var 0) .nil))) .nil)))
    (.cons (.for (.tup [4, 5]) (.exp (.call "one_row" (.cons (.var 0) .nil)))
      (.cons (.set 6 (.dgetm (.var 2) (.tup (.cons (.var 4) (.cons (.bin .sub (.var 5) (.int 1)) .nil))) (.var 3)))
      (.cons (.iff (.din false (.tup (.cons (.var 4) (.cons (.var 5) .nil))) (.var 1))
        (.cons (.set 7 (.dget (.var 2) (.dget (.var 1) (.tup (.cons (.var 4) (.cons (.var 5) .nil))))))
        (.cons (.set 6 (.bi .tuple (.cons (.lc [("one", 8), ("other", 9)] (.tup [8, 9]) (.zip (.var 6) (.var 7)) .nil (.bi .max (.cons (.var 8) (.cons (.var 9) .nil)))) .nil)))
        .nil))
        .nil)
      (.cons (.dputT (.var 2) (.cons (.var 4) (.cons (.var 5) .nil)) (.bin .add (.bin .add (.slc (.var 6) .none (.some (.var 4))) (.tup (.cons (.var 5) .nil))) (.slc (.var 6) (.some (.bin .add (.var 4) (.int 1))) .none)))
      .nil))))
    (.cons (.ret (.var 2))
    .nil))))⟩
def fd__states_of : Fd := ⟨1, 9,
    (.cons (.set 1 (.dic true .nil .nil))
    (.cons (.for (.tup [2, 3]) (.enm (.var 0) 0)
      (.cons (.set 4 (.bin .mul (.lst (.cons (.int 0) .nil)) (.bi .len (.cons (.glb "VARIABLES") .nil))))
      (.cons (.for (.tup [5, 6]) (.enm (.var 3) 1)
        (.cons (.for (.tup [7, 8]) (.exp (.idx (.var 6) (.un .neg (.int 1))))
          (.cons (.setIx (.var 4) (.mth .index (.glb "VARIABLES") (.cons (.var 7) .nil)) (.var 8))
          .nil))
        (.cons (.dputT (.var 1) (.cons (.var 2) (.cons (.var 5) .nil)) (.bi .tuple (.cons (.var 4) .nil)))
        .nil)))
      .nil)))
    (.cons (.ret (.var 1))
    .nil)))⟩
def fd__balances_of : Fd := ⟨1, 7,
    (.cons (.set 1 (.dic true .nil .nil))
    (.cons (.for (.tup [2, 3]) (.enm (.var 0) 0)
      (.cons (.set 4 (.int 0))
      (.cons (.for (.tup [5, 6]) (.enm (.var 3) 1)
        (.cons (.iff (.cmp .eq (.idx (.var 6) (.int 0)) (.str "send"))
          (.cons (.aug 4 .add (.int 1))
          .nil)
          (.cons (.iff (.cmp .eq (.idx (.var 6) (.int 0)) (.str "take"))
            (.cons (.aug 4 .sub (.int 1))
            .nil)
            .nil)
          .nil))
        (.cons (.dputT (.var 1) (.cons (.var 2) (.cons (.var 5) .nil)) (.var 4))
        .nil)))
      .nil)))
    (.cons (.ret (.var 1))
    .nil)))⟩
def fd__law_draws : Fd := ⟨3, 8,
    (.cons (.set 3 (.lst .nil))
    (.cons (.for (.name 4) (.exp (.slc (.var 0) (.some (.var 1)) .none))
      (.cons (.set 5 (.bi .abs (.cons (.bi .int (.cons (.var 4) .nil)) .nil)))
      (.cons (.iff (.cmp .lt (.var 5) (.bin .pow (.int 10) (.int 18)))
        (.cons (.set 6 (.bin .mod (.bi .int (.cons (.bin .add (.bin .mul (.var 5) (.int 48611)) (.int 43)) .nil)) (.int 2147483647)))
        (.cons (.expr (.mth .append (.var 3) (.cons (.bin .add (.bin .mul (.var 6) (.int 2147483629)) (.bin .mod (.bi .int (.cons (.bin .add (.bin .mul (.var 6) (.int 16807)) (.var 5)) .nil)) (.int 2147483629))) .nil)))
        (.cons (.expr (.mth .append (.var 3) (.cons (.bin .add (.bin .mul (.bin .mod (.bi .int (.cons (.bin .add (.bin .add (.bin .mul (.var 6) (.int 69621)) (.bin .fdiv (.var 5) (.int 9))) (.int 3)) .nil)) (.int 2147483399)) (.int 7919)) (.bin .mod (.var 5) (.int 7919))) .nil)))
        .nil)))
        (.cons (.for (.name 7) (.rng1 (.int 12))
          (.cons (.iff (.cmp .gt (.var 5) (.int 0))
            (.cons (.expr (.mth .append (.var 3) (.cons (.bin .mod (.bi .int (.cons (.var 5) .nil)) (.bin .pow (.int 10) (.int 14))) .nil)))
            .nil)
            .nil)
          (.cons (.set 5 (.bin .fdiv (.var 5) (.bin .pow (.int 10) (.int 14))))
          .nil)))
        .nil))
      .nil)))
    (.cons (.ret (.slc (.var 3) .none (.some (.var 2))))
    .nil)))⟩
def fd__law_changes : Fd := ⟨1, 3,
    (.cons (.set 1 (.lst .nil))
    (.cons (.for (.name 2) (.rng1 (.int 4))
      (.cons (.iff (.cmp .eq (.bin .mod (.var 0) (.int 3)) (.int 0))
        (.cons (.expr (.mth .append (.var 1) (.cons (.tup (.cons (.idx (.str "abcd") (.var 2)) (.cons (.bin .sub (.bin .mod (.bin .fdiv (.var 0) (.int 3)) (.int 7)) (.int 3)) .nil))) .nil)))
        .nil)
        .nil)
      (.cons (.set 0 (.bin .fdiv (.var 0) (.int 21)))
      .nil)))
    (.cons (.ret (.bi .tuple (.cons (.var 1) .nil)))
    .nil)))⟩
def fd__law_made : Fd := ⟨3, 19,
    (.cons (.set 3 (.lc [("k", 14)] (.name 14) (.rng1 (.var 1)) .nil (.lst .nil)))
    (.cons (.set 4 (.lc [("k", 14)] (.name 14) (.rng1 (.var 1)) .nil (.lst (.cons (.bi .tuple (.cons (.bin .mul (.lst (.cons (.int 0) .nil)) (.var 1)) .nil)) .nil))))
    (.cons (.set 5 (.dic false .nil .nil))
    (.cons (.set 6 (.lst .nil))
    (.cons (.for (.name 7) (.exp (.var 0))
      (.cons (.set 8 (.bin .mod (.var 7) (.var 1)))
      (.cons (.set 9 (.idx (.var 3) (.var 8)))
      (.cons (.iff (.cmp .ge (.bi .len (.cons (.var 9) .nil)) (.var 2))
        (.cons .cnt
        .nil)
        .nil)
      (.cons (.set 10 (.bin .mod (.bin .fdiv (.var 7) (.var 1)) (.int 5)))
      (.cons (.set 11 (.bi .list (.cons (.idx (.idx (.var 4) (.var 8)) (.un .neg (.int 1))) .nil)))
      (.cons (.set 12 (.call "_law_changes" (.cons (.bin .fdiv (.var 7) (.int 40)) .nil)))
      (.cons (.iff (.cmp .lt (.var 10) (.int 2))
        (.cons (.set 15 (.bin .add (.slen (.var 5)) (.int 1)))
        (.cons (.dput (.var 5) (.var 15) (.bl true))
        (.cons (.set 16 (.tup (.cons (.str "send") (.cons (.var 15) (.cons (.var 12) .nil)))))
        (.cons (.expr (.mth .append (.var 6) (.cons (.tup (.cons (.var 15) (.cons (.var 8) (.cons (.bin .add (.bi .len (.cons (.var 9) .nil)) (.int 1)) .nil)))) .nil)))
        .nil))))
        (.cons (.iff (.and (.cons (.cmp .lt (.var 10) (.int 4)) (.cons (.cmp .gt (.bi .len (.cons (.var 6) .nil)) (.int 0)) .nil)))
          (.cons (.unp [15, 17, 18] (.mth .pop (.var 6) (.cons (.bin .mod (.bin .fdiv (.var 7) (.int 7)) (.bi .len (.cons (.var 6) .nil))) .nil)))
          (.cons (.set 11 (.lc [("k", 14)] (.name 14) (.rng1 (.var 1)) .nil (.bi .max (.cons (.idx (.var 11) (.var 14)) (.cons (.idx (.idx (.idx (.var 4) (.var 17)) (.var 18)) (.var 14)) .nil)))))
          (.cons (.set 16 (.tup (.cons (.str "take") (.cons (.var 15) (.cons (.var 12) .nil)))))
          .nil)))
          (.cons (.set 16 (.tup (.cons (.str "step") (.cons (.var 12) .nil))))
          .nil))
        .nil))
      (.cons (.expr (.mth .append (.var 9) (.cons (.var 16) .nil)))
      (.cons (.setIx (.var 11) (.var 8) (.bi .len (.cons (.var 9) .nil)))
      (.cons (.set 13 (.idx (.var 4) (.var 8)))
      (.cons (.expr (.mth .append (.var 13) (.cons (.bi .tuple (.cons (.var 11) .nil)) .nil)))
      .nil))))))))))))
    (.cons (.ret (.tup (.cons (.bi .tuple (.cons (.lc [("row", 9)] (.name 9) (.exp (.var 3)) .nil (.bi .tuple (.cons (.var 9) .nil))) .nil)) (.cons (.var 4) .nil))))
    .nil))))))⟩
def fd__law_all : Fd := ⟨1, 4,
    (.cons (.iff (.cmp .eq (.bi .len (.cons (.var 0) .nil)) (.int 0))
      (.cons (.ret (.lst (.cons (.tup .nil) .nil)))
      .nil)
      .nil)
    (.cons (.set 1 (.lst .nil))
    (.cons (.for (.name 2) (.exp (.call "_law_all" (.cons (.slc (.var 0) (.some (.int 1)) .none) .nil)))
      (.cons (.set 1 (.bin .add (.var 1) (.lc [("k", 3)] (.name 3) (.rng1 (.bin .add (.idx (.var 0) (.int 0)) (.int 1))) .nil (.bin .add (.tup (.cons (.var 3) .nil)) (.var 2)))))
      .nil))
    (.cons (.ret (.var 1))
    .nil))))⟩
def fd__law_is_cut : Fd := ⟨2, 5,
    (.cons (.for (.name 2) (.rng1 (.bi .len (.cons (.var 1) .nil)))
      (.cons (.set 3 (.idx (.idx (.var 0) (.var 2)) (.idx (.var 1) (.var 2))))
      (.cons (.for (.name 4) (.rng1 (.bi .len (.cons (.var 1) .nil)))
        (.cons (.iff (.cmp .gt (.idx (.var 3) (.var 4)) (.idx (.var 1) (.var 4)))
          (.cons (.ret (.bl false))
          .nil)
          .nil)
        .nil))
      .nil)))
    (.cons (.ret (.bl true))
    .nil))⟩
def fd__law_cuts : Fd := ⟨2, 6,
    (.cons (.set 2 (.lc [("cut", 3)] (.name 3) (.exp (.call "_law_all" (.cons (.lc [("row", 5)] (.name 5) (.exp (.var 0)) .nil (.bi .len (.cons (.var 5) .nil))) .nil))) (.cons (.call "_law_is_cut" (.cons (.var 1) (.cons (.var 3) .nil))) .nil) (.var 3)))
    (.cons (.ret (.lc [("pair", 4)] (.name 4) (.exp (.bi .sorted (.cons (.lc [("cut", 3)] (.name 3) (.exp (.var 2)) .nil (.tup (.cons (.bi .sum (.cons (.var 3) .nil)) (.cons (.var 3) .nil)))) .nil))) .nil (.idx (.var 4) (.int 1))))
    .nil))⟩
def fd__law_state : Fd := ⟨3, 7,
    (.cons (.set 3 (.dic false (.cons (.str "a") (.cons (.str "b") (.cons (.str "c") (.cons (.str "d") .nil)))) (.cons (.int 0) (.cons (.int 0) (.cons (.int 0) (.cons (.int 0) .nil))))))
    (.cons (.for (.name 4) (.exp (.slc (.idx (.var 0) (.var 1)) .none (.some (.var 2))))
      (.cons (.for (.tup [5, 6]) (.exp (.idx (.var 4) (.un .neg (.int 1))))
        (.cons (.dput (.var 3) (.var 5) (.var 6))
        .nil))
      .nil))
    (.cons (.ret (.var 3))
    .nil)))⟩
def fd__law_way : Fd := ⟨2, 7,
    (.cons (.set 2 (.lst .nil))
    (.cons (.set 3 (.lst .nil))
    (.cons (.for (.name 4) (.rng1 (.bi .len (.cons (.var 0) .nil)))
      (.cons (.for (.name 5) (.exp (.slc (.idx (.var 0) (.var 4)) .none (.some (.idx (.var 1) (.var 4)))))
        (.cons (.iff (.cmp .eq (.idx (.var 5) (.int 0)) (.str "send"))
          (.cons (.expr (.mth .append (.var 2) (.cons (.idx (.var 5) (.int 1)) .nil)))
          .nil)
          .nil)
        (.cons (.iff (.cmp .eq (.idx (.var 5) (.int 0)) (.str "take"))
          (.cons (.expr (.mth .append (.var 3) (.cons (.idx (.var 5) (.int 1)) .nil)))
          .nil)
          .nil)
        .nil)))
      .nil))
    (.cons (.ret (.bi .len (.cons (.lc [("letter", 6)] (.name 6) (.exp (.var 2)) (.cons (.cmp .notin (.var 6) (.var 3)) .nil) (.var 6)) .nil)))
    .nil))))⟩
def fd__law_small : Fd := ⟨2, 4,
    (.cons (.set 2 (.int 0))
    (.cons (.iff (.cmp .gt (.bi .len (.cons (.var 0) .nil)) (.int 0))
      (.cons (.set 2 (.bi .abs (.cons (.bi .int (.cons (.idx (.var 0) (.int 0)) .nil)) .nil)))
      .nil)
      .nil)
    (.cons (.set 3 (.idx (.lst (.cons (.int 1) (.cons (.int 2) (.cons (.int 3) (.cons (.int 4) (.cons (.int 2) (.cons (.int 3) (.cons (.int 3) (.cons (.int 2) .nil))))))))) (.bin .mod (.var 2) (.int 8))))
    (.cons (.ret (.call "_law_made" (.cons (.call "_law_draws" (.cons (.var 0) (.cons (.int 1) (.cons (.var 1) .nil)))) (.cons (.var 3) (.cons (.idx (.lst (.cons (.int 5) (.cons (.int 5) (.cons (.int 4) (.cons (.int 3) .nil))))) (.bin .sub (.var 3) (.int 1))) .nil)))))
    .nil))))⟩
def fd_law : Fd := ⟨1, 9,
    (.cons (.unp [4, 5] (.call "_law_small" (.cons (.var 0) (.cons (.int 24) .nil))))
    (.cons (.set 1 (.new "Order" (.cons (.var 4) .nil)))
    (.cons (.for (.name 2) (.rng1 (.bi .len (.cons (.var 4) .nil)))
      (.cons (.for (.name 6) (.rng1 (.bin .add (.bi .len (.cons (.idx (.var 4) (.var 2)) .nil)) (.int 1)))
        (.cons (.set 8 (.call "_law_state" (.cons (.var 4) (.cons (.var 2) (.cons (.var 6) .nil)))))
        (.cons (.iff (.cmp .ne (.omth "state" (.var 1) (.cons (.var 2) (.cons (.var 6) .nil))) (.tup (.cons (.dget (.var 8) (.str "a")) (.cons (.dget (.var 8) (.str "b")) (.cons (.dget (.var 8) (.str "c")) (.cons (.dget (.var 8) (.str "d")) .nil))))))
          (.cons (.ret (.bl false))
          .nil)
          .nil)
        .nil)))
      .nil))
    (.cons (.for (.name 3) (.exp (.call "_law_cuts" (.cons (.var 4) (.cons (.var 5) .nil))))
      (.cons (.set 7 (.omth "under_way" (.var 1) (.cons (.var 3) .nil)))
      (.cons (.iff (.or (.cons (.isin (.var 7) "bool") (.cons (.cmp .ne (.var 7) (.call "_law_way" (.cons (.var 4) (.cons (.var 3) .nil)))) .nil)))
        (.cons (.ret (.bl false))
        .nil)
        .nil)
      .nil)))
    (.cons (.ret (.bl true))
    .nil)))))⟩
def fd_Order___init__ : Fd := ⟨2, 2,
    (.cons (.iff (.not (.call "is_run" (.cons (.var 1) .nil)))
      (.cons (.raise "BadRun")
      .nil)
      .nil)
    (.cons (.setAt (.var 0) "_run" (.var 1))
    (.cons (.setAt (.var 0) "_sends" (.call "_sends_of" (.cons (.var 1) .nil)))
    (.cons (.setAt (.var 0) "_clocks" (.call "_clocks_of" (.cons (.var 1) (.cons (.attr (.var 0) "_sends") .nil))))
    (.cons (.setAt (.var 0) "_states" (.call "_states_of" (.cons (.var 1) .nil)))
    (.cons (.setAt (.var 0) "_balances" (.call "_balances_of" (.cons (.var 1) .nil)))
    .nil))))))⟩
def fd_Order_state : Fd := ⟨3, 3,
    (.cons (.ret (.dgetm (.attr (.var 0) "_states") (.omth "_last" (.var 0) (.cons (.var 1) (.cons (.var 2) .nil))) (.tup (.cons (.int 0) (.cons (.int 0) (.cons (.int 0) (.cons (.int 0) .nil)))))))
    .nil)⟩
def fd_Order_under_way : Fd := ⟨2, 4,
    (.cons (.ret (.bi .sum (.cons (.lc [("process", 2), ("number", 3)] (.tup [2, 3]) (.enm (.var 1) 0) .nil (.dgetm (.attr (.var 0) "_balances") (.omth "_last" (.var 0) (.cons (.var 2) (.cons (.var 3) .nil))) (.int 0))) .nil)))
    .nil)⟩
def fd_Order__last : Fd := ⟨3, 3,
    (.cons (.ret (.tup (.cons (.var 1) (.cons (.bi .min (.cons (.var 2) (.cons (.omth "size" (.var 0) (.cons (.var 1) .nil)) .nil))) .nil))))
    .nil)⟩
def fd_Order_size : Fd := ⟨2, 2,
    (.cons (.ret (.ite (.chain .le .lt (.int 0) (.var 1) (.bi .len (.cons (.attr (.var 0) "_run") .nil))) (.bi .len (.cons (.idx (.attr (.var 0) "_run") (.var 1)) .nil)) (.int 0)))
    .nil)⟩
def fns : List (Str × Fd) := [(("is_integer" : Str), fd_is_integer), (("is_event" : Str), fd_is_event), (("is_run" : Str), fd_is_run), (("one_row" : Str), fd_one_row), (("letters_once" : Str), fd_letters_once), (("_is_row" : Str), fd__is_row), (("_is_named" : Str), fd__is_named), (("_is_variable" : Str), fd__is_variable), (("_are_changes" : Str), fd__are_changes), (("_is_change" : Str), fd__is_change), (("_is_process" : Str), fd__is_process), (("_sends_of" : Str), fd__sends_of), (("_clocks_of" : Str), fd__clocks_of), (("_states_of" : Str), fd__states_of), (("_balances_of" : Str), fd__balances_of), (("_law_draws" : Str), fd__law_draws), (("_law_changes" : Str), fd__law_changes), (("_law_made" : Str), fd__law_made), (("_law_all" : Str), fd__law_all), (("_law_is_cut" : Str), fd__law_is_cut), (("_law_cuts" : Str), fd__law_cuts), (("_law_state" : Str), fd__law_state), (("_law_way" : Str), fd__law_way), (("_law_small" : Str), fd__law_small), (("law" : Str), fd_law)]
def csL : List (Str × D) := [("MOST_PROCESSES", (.int 6)), ("MOST_EVENTS", (.int 30)), ("MOST_VALUE", (.int 1000)), ("MOST_LETTER", (.int 999)), ("VARIABLES", (.tup [(.str "a"), (.str "b"), (.str "c"), (.str "d")]))]
def subL (c x : Str) : Bool := decide (c = "BadRun" ∧ x = "BadRun")
def fldL (c x : Str) : Bool := decide (c = "Order" ∧ x = "_balances") || decide (c = "Order" ∧ x = "_clocks") || decide (c = "Order" ∧ x = "_run") || decide (c = "Order" ∧ x = "_sends") || decide (c = "Order" ∧ x = "_states")
def mthL (c x : Str) : Option Fd := if c = "Order" ∧ x = "__init__" then some fd_Order___init__ else if c = "Order" ∧ x = "state" then some fd_Order_state else if c = "Order" ∧ x = "under_way" then some fd_Order_under_way else if c = "Order" ∧ x = "_last" then some fd_Order__last else if c = "Order" ∧ x = "size" then some fd_Order_size else none
def L : Lang := ⟨fun f => fns.lookup f, fun x => csL.lookup x, ⟨subL, fldL⟩, 4000, mthL⟩
def names : List Str := ["is_integer", "is_event", "is_run", "one_row", "letters_once", "_is_row", "_is_named", "_is_variable", "_are_changes", "_is_change", "_is_process", "_sends_of", "_clocks_of", "_states_of", "_balances_of", "_law_draws", "_law_changes", "_law_made", "_law_all", "_law_is_cut", "_law_cuts", "_law_state", "_law_way", "_law_small", "law"]
theorem fn_is_integer : L.fns "is_integer" = some fd_is_integer := rfl
theorem fn_is_event : L.fns "is_event" = some fd_is_event := rfl
theorem fn_is_run : L.fns "is_run" = some fd_is_run := rfl
theorem fn_one_row : L.fns "one_row" = some fd_one_row := rfl
theorem fn_letters_once : L.fns "letters_once" = some fd_letters_once := rfl
theorem fn__is_row : L.fns "_is_row" = some fd__is_row := rfl
theorem fn__is_named : L.fns "_is_named" = some fd__is_named := rfl
theorem fn__is_variable : L.fns "_is_variable" = some fd__is_variable := rfl
theorem fn__are_changes : L.fns "_are_changes" = some fd__are_changes := rfl
theorem fn__is_change : L.fns "_is_change" = some fd__is_change := rfl
theorem fn__is_process : L.fns "_is_process" = some fd__is_process := rfl
theorem fn__sends_of : L.fns "_sends_of" = some fd__sends_of := rfl
theorem fn__clocks_of : L.fns "_clocks_of" = some fd__clocks_of := rfl
theorem fn__states_of : L.fns "_states_of" = some fd__states_of := rfl
theorem fn__balances_of : L.fns "_balances_of" = some fd__balances_of := rfl
theorem fn__law_draws : L.fns "_law_draws" = some fd__law_draws := rfl
theorem fn__law_changes : L.fns "_law_changes" = some fd__law_changes := rfl
theorem fn__law_made : L.fns "_law_made" = some fd__law_made := rfl
theorem fn__law_all : L.fns "_law_all" = some fd__law_all := rfl
theorem fn__law_is_cut : L.fns "_law_is_cut" = some fd__law_is_cut := rfl
theorem fn__law_cuts : L.fns "_law_cuts" = some fd__law_cuts := rfl
theorem fn__law_state : L.fns "_law_state" = some fd__law_state := rfl
theorem fn__law_way : L.fns "_law_way" = some fd__law_way := rfl
theorem fn__law_small : L.fns "_law_small" = some fd__law_small := rfl
theorem fn_law : L.fns "law" = some fd_law := rfl
theorem cs_MOST_PROCESSES : L.cs "MOST_PROCESSES" = some (.int 6) := rfl
theorem cs_MOST_EVENTS : L.cs "MOST_EVENTS" = some (.int 30) := rfl
theorem cs_MOST_VALUE : L.cs "MOST_VALUE" = some (.int 1000) := rfl
theorem cs_MOST_LETTER : L.cs "MOST_LETTER" = some (.int 999) := rfl
theorem cs_VARIABLES : L.cs "VARIABLES" = some (.tup [(.str "a"), (.str "b"), (.str "c"), (.str "d")]) := rfl
theorem mh_Order___init__ : L.mth "Order" "__init__" = some fd_Order___init__ := rfl
theorem mh_Order_state : L.mth "Order" "state" = some fd_Order_state := rfl
theorem mh_Order_under_way : L.mth "Order" "under_way" = some fd_Order_under_way := rfl
theorem mh_Order__last : L.mth "Order" "_last" = some fd_Order__last := rfl
theorem mh_Order_size : L.mth "Order" "size" = some fd_Order_size := rfl
theorem sb_BadRun_BadRun : L.sub.sub "BadRun" "BadRun" = true := by decide +kernel
theorem fl_Order__balances : L.sub.fld "Order" "_balances" = true := by decide +kernel
theorem fl_Order__clocks : L.sub.fld "Order" "_clocks" = true := by decide +kernel
theorem fl_Order__run : L.sub.fld "Order" "_run" = true := by decide +kernel
theorem fl_Order__sends : L.sub.fld "Order" "_sends" = true := by decide +kernel
theorem fl_Order__states : L.sub.fld "Order" "_states" = true := by decide +kernel
theorem sub_cases {c x : Str} (h : L.sub.sub c x = true) : (c = "BadRun" ∧ x = "BadRun") := by
  have h : subL c x = true := h
  unfold subL at h
  simpa only [Bool.or_eq_true, decide_eq_true_eq, or_assoc] using h
theorem fld_cases {c x : Str} (h : L.sub.fld c x = true) : (c = "Order" ∧ x = "_balances") ∨ (c = "Order" ∧ x = "_clocks") ∨ (c = "Order" ∧ x = "_run") ∨ (c = "Order" ∧ x = "_sends") ∨ (c = "Order" ∧ x = "_states") := by
  have h : fldL c x = true := h
  unfold fldL at h
  simpa only [Bool.or_eq_true, decide_eq_true_eq, or_assoc] using h
theorem mth_cases {c x : Str} {d : Fd} (h : L.mth c x = some d) : (c = "Order" ∧ x = "__init__" ∧ d = fd_Order___init__) ∨ (c = "Order" ∧ x = "state" ∧ d = fd_Order_state) ∨ (c = "Order" ∧ x = "under_way" ∧ d = fd_Order_under_way) ∨ (c = "Order" ∧ x = "_last" ∧ d = fd_Order__last) ∨ (c = "Order" ∧ x = "size" ∧ d = fd_Order_size) := by
  have h : mthL c x = some d := h
  unfold mthL at h
  by_cases e0 : c = "Order" ∧ x = "__init__"
  · rw [if_pos e0] at h
    exact .inl ⟨e0.1, e0.2, (Option.some.inj h).symm⟩
  rw [if_neg e0] at h
  by_cases e1 : c = "Order" ∧ x = "state"
  · rw [if_pos e1] at h
    exact .inr (.inl ⟨e1.1, e1.2, (Option.some.inj h).symm⟩)
  rw [if_neg e1] at h
  by_cases e2 : c = "Order" ∧ x = "under_way"
  · rw [if_pos e2] at h
    exact .inr (.inr (.inl ⟨e2.1, e2.2, (Option.some.inj h).symm⟩))
  rw [if_neg e2] at h
  by_cases e3 : c = "Order" ∧ x = "_last"
  · rw [if_pos e3] at h
    exact .inr (.inr (.inr (.inl ⟨e3.1, e3.2, (Option.some.inj h).symm⟩)))
  rw [if_neg e3] at h
  by_cases e4 : c = "Order" ∧ x = "size"
  · rw [if_pos e4] at h
    exact .inr (.inr (.inr (.inr (⟨e4.1, e4.2, (Option.some.inj h).symm⟩))))
  rw [if_neg e4] at h
  cases h
end LL

set_option linter.all false
set_option maxRecDepth 100000
set_option maxHeartbeats 1000000
/-! What the forms' defs answer: events and integers. -/
namespace Th
open PySem L2 Mi LL

def tyD : D → String
  | .non => "NoneType" | .bl _ => "bool" | .int _ => "int" | .str _ => "str" | .tup _ => "tuple" | .fl _ => "?" | .ref _ => "list"
mutual
/-- a value as the drawn ones are: what it holds by name are lists -/
def Wf (st : Store) : D → Prop
  | .tup xs => WfL st xs ∧ xs.length ≤ LINE
  | .fl _ => False
  | .ref n => ∃ xs, st[n]? = some (.lst xs)
  | .str x => PyData.strOk x = true
  | _ => True
def WfL (st : Store) : List D → Prop
  | [] => True
  | x :: xs => Wf st x ∧ WfL st xs
end
theorem wfL_mem {st : Store} : ∀ {xs : List D}, WfL st xs → ∀ x ∈ xs, Wf st x
  | y :: ys, h, x, hx => by
    rcases List.mem_cons.mp hx with rfl | hx
    · exact h.1
    · exact wfL_mem h.2 x hx
theorem wfL_of {st : Store} : ∀ {xs : List D}, (∀ x ∈ xs, Wf st x) → WfL st xs
  | [], _ => trivial
  | y :: ys, h => ⟨h y List.mem_cons_self, wfL_of fun x hx => h x (List.mem_cons_of_mem _ hx)⟩
theorem wf_get {st : Store} {xs : List D} {i : Nat} {d : D} (h : Wf st (.tup xs)) (e : xs[i]? = some d) : Wf st d := wfL_mem h.1 d (List.mem_of_getElem? e)
mutual
theorem wf_mono {st st' : Store} (k : ∀ (n : Nat) (xs : List D), st[n]? = some (MO.lst xs) → ∃ ys, st'[n]? = some (MO.lst ys)) : ∀ {d : D}, Wf st d → Wf st' d
  | .tup xs, h => ⟨wfL_mono k h.1, h.2⟩
  | .fl _, h => h.elim
  | .ref n, ⟨xs, e⟩ => k n xs e
  | .str x, h => h
  | .non, _ => trivial
  | .bl _, _ => trivial
  | .int _, _ => trivial
theorem wfL_mono {st st' : Store} (k : ∀ (n : Nat) (xs : List D), st[n]? = some (MO.lst xs) → ∃ ys, st'[n]? = some (MO.lst ys)) : ∀ {xs : List D}, WfL st xs → WfL st' xs
  | [], _ => trivial
  | _ :: _, h => ⟨wf_mono k h.1, wfL_mono k h.2⟩
end
theorem wf_app {st g : Store} {d : D} (h : Wf st d) : Wf (st ++ g) d := wf_mono (fun n xs e => ⟨xs, by
  obtain ⟨hi, _⟩ := List.getElem?_eq_some_iff.mp e
  rw [List.getElem?_append_left hi]; exact e⟩) h
theorem ty_wf {st : Store} {d : D} (h : Wf st d) : tyNameS st d = some (tyD d) := by
  cases d <;> try rfl
  · exact h.elim
  · obtain ⟨xs, e⟩ := h
    simp [tyNameS, e, tyD]

def isIntD (a b : Int) : D → Bool
  | .int i => decide (a ≤ i) && decide (i ≤ b)
  | _ => false
def isRowD (a b : Int) : D → Bool
  | .tup xs => decide (a ≤ xs.length) && decide ((xs.length : Int) ≤ b)
  | _ => false
def isNamedD : D → Bool
  | .tup (.str _ :: _) => true
  | _ => false
def isVarD : D → Bool
  | .str x => Str.ofString "a" == x || (Str.ofString "b" == x || (Str.ofString "c" == x || Str.ofString "d" == x))
  | _ => false
def isChangeD : D → Bool
  | .tup [v, w] => isVarD v && isIntD (-1000) 1000 w
  | _ => false

theorem pred_ {n c : Nat} (h : c + 1 ≤ n) : ∃ m, n = m + 1 ∧ c ≤ m := ⟨n - 1, by omega, by omega⟩

section
variable {st : Store}
theorem is_integer_ok {n : Nat} (hn : 1 ≤ n) {d : D} {a b : Int} (h : Wf st d) : callK L n "is_integer" [d, .int a, .int b] st = .ok (.bl (isIntD a b d)) st := by
  obtain ⟨m, rfl, _⟩ := pred_ hn
  rw [call_open fn_is_integer rfl]
  have ht := ty_wf h
  cases d <;> simp [fd_is_integer, startE, isIntD, ht, tyD]
theorem row_ok {n : Nat} (hn : 1 ≤ n) {d : D} {a b : Int} (h : Wf st d) : callK L n "_is_row" [d, .int a, .int b] st = .ok (.bl (isRowD a b d)) st := by
  obtain ⟨m, rfl, _⟩ := pred_ hn
  rw [call_open fn__is_row rfl]
  have ht := ty_wf h
  cases d <;> simp [fd__is_row, startE, isRowD, ht, tyD]
theorem named_ok {n : Nat} (hn : 1 ≤ n) {d : D} (h : Wf st d) : callK L n "_is_named" [d] st = .ok (.bl (isNamedD d)) st := by
  obtain ⟨m, rfl, _⟩ := pred_ hn
  rw [call_open fn__is_named rfl]
  have ht := ty_wf h
  cases d with
  | tup xs =>
    cases xs with
    | nil => simp [fd__is_named, startE, isNamedD, ht, tyD]
    | cons x xs =>
      have h2 := ty_wf h.1.1
      have hp : (0 : Int) < (xs.length : Int) + 1 := by omega
      cases x <;> simp [fd__is_named, startE, isNamedD, ht, tyD, h2, hp]
  | _ => simp [fd__is_named, startE, isNamedD, ht, tyD]

theorem variable_ok {n : Nat} (hn : 1 ≤ n) {d : D} (h : Wf st d) : callK L n "_is_variable" [d] st = .ok (.bl (isVarD d)) st := by
  obtain ⟨m, rfl, _⟩ := pred_ hn
  rw [call_open fn__is_variable rfl]
  have ht := ty_wf h
  cases d with
  | str x =>
    simp [fd__is_variable, startE, isVarD, ht, tyD, cs_VARIABLES, cmpop, inD, flatD, D.data, D.dataL, PyData.eqv, resB]
  | _ => simp [fd__is_variable, startE, isVarD, ht, tyD]
theorem wf_2 {v w : D} (h : Wf st (.tup [v, w])) : Wf st v ∧ Wf st w := ⟨h.1.1, h.1.2.1⟩
end
end Th

set_option linter.all false
set_option maxRecDepth 100000
set_option maxHeartbeats 1000000
/-! What holds behind a run. -/
namespace Th
open PySem L2 Mi LL

def WR (r : Res) (Q : D → Store → Prop) (E : Str → Store → Prop) : Prop := match r with
  | .ok d st => Q d st
  | .exc c st => E c st
  | .bad => False
def WL (r : ResL) (Q : List D → Store → Prop) (E : Str → Store → Prop) : Prop := match r with
  | .ok d st => Q d st
  | .exc c st => E c st
  | .bad => False
def WO (o : Out) (Q : Out → Prop) : Prop := match o with
  | .bad => False
  | o => Q o
def noE : Str → Store → Prop := fun _ _ => False
section
variable {Q : D → Store → Prop} {E : Str → Store → Prop} {P : Out → Prop} {QL : List D → Store → Prop}
@[simp] theorem wr_ok {d : D} {st : Store} : WR (.ok d st) Q E = Q d st := rfl
@[simp] theorem wr_exc {d : Str} {st : Store} : WR (.exc d st) Q E = E d st := rfl
@[simp] theorem wr_bad : WR .bad Q E = False := rfl
@[simp] theorem wl_ok {d : List D} {st : Store} : WL (.ok d st) QL E = QL d st := rfl
@[simp] theorem wr_bind {r : Res} {k : D → Store → Res} : WR (r.bind k) Q E = WR r (fun d s => WR (k d s) Q E) E := by cases r <;> rfl
@[simp] theorem wl_bind {r : ResL} {k : List D → Store → Res} : WR (r.bind k) Q E = WL r (fun d s => WR (k d s) Q E) E := by cases r <;> rfl
@[simp] theorem wr_bindL {r : Res} {k : D → Store → ResL} : WL (r.bindL k) QL E = WR r (fun d s => WL (k d s) QL E) E := by cases r <;> rfl
@[simp] theorem wl_bindL {r : ResL} {k : List D → Store → ResL} : WL (r.bindL k) QL E = WL r (fun d s => WL (k d s) QL E) E := by cases r <;> rfl
@[simp] theorem wo_bindO {r : Res} {env : Mi.Env} {k : D → Store → Out} : WO (r.bindO env k) P = WR r (fun d s => WO (k d s) P) (fun c s => P (.exc c env s)) := by cases r <;> rfl
@[simp] theorem wo_nx {env : Mi.Env} {st : Store} : WO (.nx env st) P = P (.nx env st) := rfl
@[simp] theorem wo_rt {d : D} {st : Store} : WO (.rt d st) P = P (.rt d st) := rfl
@[simp] theorem wo_bk {env : Mi.Env} {st : Store} : WO (.bk env st) P = P (.bk env st) := rfl
@[simp] theorem wo_ct {env : Mi.Env} {st : Store} : WO (.ct env st) P = P (.ct env st) := rfl
@[simp] theorem wo_exc {c : Str} {env : Mi.Env} {st : Store} : WO (.exc c env st) P = P (.exc c env st) := rfl
@[simp] theorem bindO_bind {r : Res} {env : Mi.Env} {j : D → Store → Out} {k : Mi.Env → Store → Out} : (r.bindO env j).bind k = r.bindO env (fun d s => (j d s).bind k) := by cases r <;> rfl
@[simp] theorem out_bind_bind {o : Out} {j k : Mi.Env → Store → Out} : (o.bind j).bind k = o.bind (fun e s => (j e s).bind k) := by cases o <;> rfl
@[simp] theorem wr_ite {c : Prop} [Decidable c] {a b : Res} : WR (if c then a else b) Q E = ((c → WR a Q E) ∧ (¬ c → WR b Q E)) := by split <;> simp [*]
@[simp] theorem wl_ite {c : Prop} [Decidable c] {a b : ResL} : WL (if c then a else b) QL E = ((c → WL a QL E) ∧ (¬ c → WL b QL E)) := by split <;> simp [*]
@[simp] theorem wo_ite {c : Prop} [Decidable c] {a b : Out} : WO (if c then a else b) P = ((c → WO a P) ∧ (¬ c → WO b P)) := by split <;> simp [*]
@[simp] theorem out_ite_bind {c : Prop} [Decidable c] {a b : Out} {k : Mi.Env → Store → Out} : (if c then a else b).bind k = if c then a.bind k else b.bind k := by split <;> rfl
theorem wo_seq {o : Out} {k : Mi.Env → Store → Out} {R : Out → Prop} (h : WO o R) (g : ∀ o, R o → WO (o.bind k) P) : WO (o.bind k) P := by
  cases o <;> first | exact g _ h | exact h.elim
theorem wo_mono {o : Out} {R : Out → Prop} (h : WO o R) (g : ∀ o, R o → P o) : WO o P := by
  cases o <;> first | exact g _ h | exact h.elim
theorem wr_mono {r : Res} {Q' : D → Store → Prop} {E' : Str → Store → Prop} (h : WR r Q' E') (g : ∀ d s, Q' d s → Q d s) (ge : ∀ d s, E' d s → E d s) : WR r Q E := by
  cases r
  · exact g _ _ h
  · exact ge _ _ h
  · exact h
theorem wr_no {r : Res} {Q' : D → Store → Prop} (h : WR r Q' noE) (g : ∀ d s, Q' d s → Q d s) : WR r Q E := wr_mono h g fun _ _ h => h.elim
theorem wr_eq {r : Res} {d : D} {st : Store} (h : r = .ok d st) (g : Q d st) : WR r Q E := by rw [h]; exact g
theorem wr_get {r : Res} (h : WR r Q noE) : ∃ d st, r = .ok d st ∧ Q d st := by
  cases r
  · exact ⟨_, _, rfl, h⟩
  · exact h.elim
  · exact h.elim
end
theorem call_wr {L : Lang} {n : Nat} {f : Str} {fd : Fd} {ds : List D} {st : Store} {Q : D → Store → Prop} {E : Str → Store → Prop} (h : L.fns f = some fd) (hl : ds.length = fd.n)
    (w : WO (evSs (callK L n) L.cs L.sub L.wf fd.body (startE fd ds) st) (fun o => WR (gc st o.fin) Q E)) : WR (callK L (n + 1) f ds st) Q E := by
  rw [call_open h hl]
  revert w
  cases evSs (callK L n) L.cs L.sub L.wf fd.body (startE fd ds) st <;> intro w <;> first | exact w | exact w.elim

/-! ### the bag -/
def Bag (st : Store) (n : Nat) : Prop := ∃ a b c : Int, st[n]? = some (.lst [.int a, .int b, .int c])
/-- later: the bag stands, all else of before stands as it stood -/
structure Ext (n : Nat) (st st' : Store) : Prop where
  le : st.length ≤ st'.length
  bag : Bag st' n
  keep : ∀ i, i < st.length → i ≠ n → st'[i]? = st[i]?
theorem Bag.lt {st : Store} {n : Nat} (b : Bag st n) : n < st.length := by
  obtain ⟨a, b, c, h⟩ := b
  exact (List.getElem?_eq_some_iff.mp h).1
theorem Bag.app {st g : Store} {n : Nat} (b : Bag st n) : Bag (st ++ g) n := by
  have := b.lt
  obtain ⟨a, b, c, h⟩ := b
  exact ⟨a, b, c, by rw [List.getElem?_append_left this]; exact h⟩
theorem Ext.refl {st : Store} {n : Nat} (b : Bag st n) : Ext n st st := ⟨Nat.le_refl _, b, fun _ _ _ => rfl⟩
theorem Ext.trans {n : Nat} {a b c : Store} (h : Ext n a b) (k : Ext n b c) : Ext n a c := ⟨Nat.le_trans h.le k.le, k.bag, fun i hi hn => by
  rw [k.keep i (Nat.lt_of_lt_of_le hi h.le) hn, h.keep i hi hn]⟩
theorem Ext.app {n : Nat} {st g : Store} (b : Bag st n) : Ext n st (st ++ g) := ⟨by simp, b.app, fun i hi _ => List.getElem?_append_left hi⟩
theorem Ext.of_app {n : Nat} {st g st' : Store} (b : Bag st n) (h : Ext n (st ++ g) st') : Ext n st st' := (Ext.app b).trans h
theorem Ext.get {n : Nat} {st st' : Store} {i : Nat} {mo : MO} (h : Ext n st st') (hn : i ≠ n) (e : st[i]? = some mo) : st'[i]? = some mo := by
  rw [h.keep i (List.getElem?_eq_some_iff.mp e).1 hn]; exact e
theorem Ext.new {n : Nat} {st g st' : Store} {mo : MO} (b : Bag st n) (h : Ext n (st ++ mo :: g) st') : st'[st.length]? = some mo := by
  rw [h.keep st.length (by simp) (by have := b.lt; omega)]
  simp
theorem Ext.wf {n : Nat} {st st' : Store} (h : Ext n st st') {d : D} (w : Wf st d) : Wf st' d := wf_mono (fun i xs e => by
  by_cases q : i = n
  · subst q
    obtain ⟨a, b, c, h⟩ := h.bag
    exact ⟨_, h⟩
  · exact ⟨xs, h.get q e⟩) w
mutual
theorem wf_take {st : Store} {k : Nat} : ∀ {d : D}, Wf st d → closedD k d = true → Wf (st.take k) d
  | .tup xs, h, c => ⟨wfL_take h.1 c, h.2⟩
  | .fl _, h, _ => h.elim
  | .ref n, ⟨xs, e⟩, c => ⟨xs, by rw [List.getElem?_take, if_pos (by simpa [closedD] using c)]; exact e⟩
  | .str x, h, _ => h
  | .non, _, _ => trivial
  | .bl _, _, _ => trivial
  | .int _, _, _ => trivial
theorem wfL_take {st : Store} {k : Nat} : ∀ {xs : List D}, WfL st xs → closedDs k xs = true → WfL (st.take k) xs
  | [], _, _ => trivial
  | _ :: _, h, c => ⟨wf_take h.1 (by simp only [closedDs, Bool.and_eq_true] at c; exact c.1), wfL_take h.2 (by simp only [closedDs, Bool.and_eq_true] at c; exact c.2)⟩
end
theorem Ext.take {n : Nat} {st st' : Store} (b : Bag st n) (h : Ext n st st') : Ext n st (st'.take st.length) := by
  refine ⟨by rw [List.length_take]; have := h.le; omega, ?_, fun i hi hn => ?_⟩
  · obtain ⟨x, y, z, e⟩ := h.bag
    exact ⟨x, y, z, by rw [List.getElem?_take, if_pos b.lt]; exact e⟩
  · rw [List.getElem?_take, if_pos hi]; exact h.keep i hi hn
theorem wf_closed {st : Store} : ∀ {d : D}, Wf st d → closedD st.length d = true
  | .tup xs, h => by
    show closedDs st.length xs = true
    exact closedDs_of fun x hx => wf_closed (wfL_mem h.1 x hx)
  | .fl _, h => h.elim
  | .ref n, ⟨xs, e⟩ => decide_eq_true (List.getElem?_eq_some_iff.mp e).1
  | .str x, _ => rfl
  | .non, _ => rfl
  | .bl _, _ => rfl
  | .int _, _ => rfl
termination_by d => sizeOf d
decreasing_by
  have := List.sizeOf_lt_of_mem hx
  simp_wf
  omega
theorem Ext.gcOk {n : Nat} {st st' : Store} (b : Bag st n) (h : Ext n st st') : gcOk st st' := by
  refine ⟨h.le, fun i hi => ?_⟩
  by_cases q : i = n
  · subst q
    obtain ⟨x, y, z, e⟩ := h.bag
    exact .inr ⟨_, e, rfl⟩
  · exact .inl (h.keep i hi q)
/-- what a call leaves, when new things are let go -/
theorem wr_gc {n : Nat} {st st' : Store} {d : D} {Q : D → Store → Prop} {E : Str → Store → Prop} (b : Bag st n) (h : Ext n st st') (w : Wf st' d) (g : ∀ s, Ext n st s → Wf s d → Q d s) (hr : ∀ k, d = .ref k → k < st.length := by nofun) : WR (gc st (.ok d st')) Q E := by
  have ok := h.gcOk b
  unfold gc
  by_cases c : gcOk st st' ∧ closedD st.length d = true
  · simp only [if_pos c]
    exact g _ (h.take b) (wf_take w c.2)
  · simp only [if_neg c]
    have f : flatO st.length st' d = none := by
      cases d with
      | ref k => exact absurd ⟨ok, decide_eq_true (hr k rfl)⟩ c
      | _ => rfl
    simp only [f]
    exact g _ h w
theorem wr_gc_new {n k : Nat} {st st' : Store} {mo : MO} {Q : D → Store → Prop} {E : Str → Store → Prop} (b : Bag st n) (h : Ext n st st') (hk : st.length ≤ k) (e : st'[k]? = some mo) (cm : closedMO st.length mo = true)
    (g : ∀ s, Ext n st (s ++ [mo]) → s.length = st.length → Q (.ref st.length) (s ++ [mo])) : WR (gc st (.ok (.ref k) st')) Q E := by
  have ok := h.gcOk b
  have c : ¬ (gcOk st st' ∧ closedD st.length (.ref k) = true) := by
    rintro ⟨_, z⟩
    unfold closedD at z
    have := of_decide_eq_true z
    omega
  have f : flatO st.length st' (.ref k) = some mo := by
    unfold flatO
    simp only [e, if_pos cm]
  unfold gc
  simp only [if_neg c, f, if_pos ok]
  have t := h.take b
  exact g _ (t.trans (Ext.app t.bag)) (by rw [List.length_take]; have := h.le; omega)
theorem truth_ {st : Store} {b : Bool} : truth st (.bl b) = some b := rfl
theorem setIx_run {st : Store} {n k : Nat} {xs : List D} {i : Int} {d : D} (h : st[n]? = some (.lst xs)) (e : ixN xs.length i = some k) : setIxop (.ref n) (.int i) d st = some (st.set n (.lst (xs.set k d))) := by
  simp [setIxop, h, e]
def setB (o : Option Store) (env : Mi.Env) : Out := match o with
  | some st => .nx env st
  | none => .bad
@[simp] theorem setB_some {st : Store} {env : Mi.Env} : setB (some st) env = .nx env st := rfl
@[simp] theorem evS_setIx' {C : Oracle} {cs : Str → Option D} {sub : Tab} {wf : Nat} {env : Mi.Env} {st : Store} (o i e : E) : evS C cs sub wf (.setIx o i e) env st = (evE C cs e env st).bindO env fun d st => (evE C cs o env st).bindO env fun x st => (evE C cs i env st).bindO env fun y st => setB (setIxop x y d st) env := rfl
theorem get_set {st : Store} {n : Nat} {mo m : MO} (h : st[n]? = some m) : (st.set n mo)[n]? = some mo := by
  rw [List.getElem?_set_self (List.getElem?_eq_some_iff.mp h).1]
@[simp] theorem mod_ii (i j : Int) (st : Store) : binop .mod (.int i) (.int j) st = if 0 < j then .ok (.int (i % j)) st else .bad := rfl
@[simp] theorem fdiv_ii (i j : Int) (st : Store) : binop .fdiv (.int i) (.int j) st = if okDiv j then .ok (.int (i / j)) st else .bad := rfl
@[simp] theorem mul_ii (i j : Int) (st : Store) : binop .mul (.int i) (.int j) st = if in64 i ∨ in64 j then .ok (.int (i * j)) st else .bad := rfl
@[simp] theorem int_ii (i : Int) (st : Store) : biop .int [.int i] st = .ok (.int i) st := rfl

@[simp high] theorem app_get {st g : Store} {k : Nat} : (st ++ g)[st.length + k]? = g[k]? := by rw [List.getElem?_append_right (by omega)]; congr 1; omega
@[simp high] theorem app_get2 {st g : Store} : (st ++ g)[st.length + 1 + 1]? = g[2]? := app_get (k := 2)
@[simp high] theorem app_get3 {st g : Store} : (st ++ g)[st.length + 1 + 1 + 1]? = g[3]? := app_get (k := 3)
@[simp high] theorem app_get4 {st g : Store} : (st ++ g)[st.length + 1 + 1 + 1 + 1]? = g[4]? := app_get (k := 4)
end Th

set_option linter.all false
set_option maxRecDepth 100000
set_option maxHeartbeats 1000000
/-! Loops; drawn values. -/
namespace Th
open PySem L2 Mi LL

def Lp (J : Mi.Env → Store → Prop) (Q : Out → Prop) : Out → Prop
  | .nx e s => J e s
  | .ct e s => J e s
  | .bk e s => Q (.nx e s)
  | o => Q o
@[simp] theorem lp_nx {J : Mi.Env → Store → Prop} {Q : Out → Prop} {e : Mi.Env} {s : Store} : Lp J Q (.nx e s) = J e s := rfl
@[simp] theorem lp_ct {J : Mi.Env → Store → Prop} {Q : Out → Prop} {e : Mi.Env} {s : Store} : Lp J Q (.ct e s) = J e s := rfl
@[simp] theorem lp_bk {J : Mi.Env → Store → Prop} {Q : Out → Prop} {e : Mi.Env} {s : Store} : Lp J Q (.bk e s) = Q (.nx e s) := rfl
@[simp] theorem lp_rt {J : Mi.Env → Store → Prop} {Q : Out → Prop} {e : D} {s : Store} : Lp J Q (.rt e s) = Q (.rt e s) := rfl
@[simp] theorem lp_exc {J : Mi.Env → Store → Prop} {Q : Out → Prop} {c : Str} {e : Mi.Env} {s : Store} : Lp J Q (.exc c e s) = Q (.exc c e s) := rfl
theorem for_list {step : D → Mi.Env → Store → Out} {gd : Option (Nat × List D)} {Q : Out → Prop} (I : List D → Mi.Env → Store → Prop)
    (h : ∀ x xs env st, I (x :: xs) env st → gdOk gd st ∧ WO (step x env st) (Lp (I xs) Q)) (h0 : ∀ env st, I [] env st → gdOk gd st ∧ Q (.nx env st)) :
    ∀ xs env st, I xs env st → WO (forL step gd xs env st) Q
  | [], env, st, i => by
    obtain ⟨g, q⟩ := h0 env st i
    simp only [forL, if_pos g]
    exact q
  | x :: xs, env, st, i => by
    obtain ⟨g, q⟩ := h x xs env st i
    simp only [forL, if_pos g]
    revert q
    cases step x env st with
    | nx e s => exact fun q => for_list I h h0 xs e s q
    | ct e s => exact fun q => for_list I h h0 xs e s q
    | bk e s => exact fun q => q
    | rt d s => exact fun q => q
    | exc c e s => exact fun q => q
    | bad => exact fun q => q
@[simp] theorem gd_none {st : Store} : gdOk none st = True := rfl
@[simp] theorem bodyF_name {i : Nat} {f : Mi.Env → Store → Out} {x : D} {env : Mi.Env} {st : Store} : bodyF (.name i) f x env st = f (env.set i (some x)) st := rfl
theorem wr_pick {xs : List D} {w : Int} {st : Store} {Q : D → Store → Prop} {E : Str → Store → Prop} (h0 : 0 ≤ w) (h1 : w < xs.length) (g : ∀ d ∈ xs, Q d st) : WR (glbB (atI xs w) st) Q E := by
  rw [atI_nn h0, List.getElem?_eq_getElem (by omega)]
  exact g _ (List.getElem_mem _)
theorem Ext.set_new {n c : Nat} {st s : Store} {mo : MO} (h : Ext n st s) (b : Bag st n) (hc : st.length ≤ c) : Ext n st (s.set c mo) := by
  have := b.lt
  refine ⟨by simp [h.le], ?_, fun i hi hn => ?_⟩
  · obtain ⟨x, y, z, e⟩ := h.bag
    exact ⟨x, y, z, by rw [List.getElem?_set_ne (by omega)]; exact e⟩
  · rw [List.getElem?_set_ne (by omega)]; exact h.keep i hi hn
theorem wf_set {s : Store} {c : Nat} {l m : List D} {d : D} (h : s[c]? = some (.lst m)) (w : Wf s d) : Wf (s.set c (.lst l)) d := wf_mono (fun i xs e => by
  by_cases q : c = i
  · subst q; exact ⟨l, get_set h⟩
  · exact ⟨xs, by rw [List.getElem?_set_ne q]; exact e⟩) w
theorem append_run {s : Store} {c : Nat} {xs : List D} {d : D} (h : s[c]? = some (.lst xs)) (hl : xs.length < LINE) : mthop .append (.ref c) [d] s = .ok .non (s.set c (.lst (xs ++ [d]))) := by
  simp [mthop, h, hl]
theorem recv_app {s : Store} {c : Nat} {xs : List D} (h : s[c]? = some (.lst xs)) : recvOk .append (.ref c) s = true := by
  simp [recvOk, h]
theorem tuple_run {s : Store} {c : Nat} {xs : List D} (h : s[c]? = some (.lst xs)) : biop .tuple [.ref c] s = .ok (.tup xs) s := by
  simp [biop, lstOf, h]

/-- depth at most k, tuples of at most W -/
def Sz (W : Nat) : Nat → D → Prop
  | 0, .tup _ => False
  | k + 1, .tup xs => xs.length ≤ W ∧ ∀ x ∈ xs, Sz W k x
  | _, _ => True
def ChgSh (d : D) : Prop := ∃ c i, d = .tup [.str c, .int i]
theorem sz_chg {d : D} (h : ChgSh d) : Sz 4 1 d := by
  obtain ⟨c, i, rfl⟩ := h
  refine ⟨by simp, fun x hx => ?_⟩
  simp at hx
  rcases hx with rfl | rfl <;> trivial
section
variable {st : Store} {n : Nat}
def WfQ (n : Nat) (st : Store) : D → Store → Prop := fun d s => Wf s d ∧ Ext n st s
end
end Th

set_option linter.all false
set_option maxRecDepth 100000
set_option maxHeartbeats 1000000
/-! Drawn values that are odd, spoilt. -/
namespace Th
open PySem L2 Mi LL
def addB (o p : Option MO) (st : Store) : Res := match o, p with
  | some (.lst xs), some (.lst ys) => if xs.length + ys.length ≤ LINE then .ok (.ref st.length) (st ++ [.lst (xs ++ ys)]) else .bad
  | _, _ => .bad
@[simp] theorem add_rr (n m : Nat) (st : Store) : binop .add (.ref n) (.ref m) st = addB st[n]? st[m]? st := rfl
@[simp] theorem addB_some {xs ys : List D} {st : Store} : addB (some (.lst xs)) (some (.lst ys)) st = if xs.length + ys.length ≤ LINE then .ok (.ref st.length) (st ++ [.lst (xs ++ ys)]) else .bad := rfl
theorem Ext.newk {n : Nat} {st g s : Store} {mo : MO} {k : Nat} (b : Bag st n) (h : Ext n (st ++ g) s) (e : g[k]? = some mo) : s[st.length + k]? = some mo := by
  have hk := (List.getElem?_eq_some_iff.mp e).1
  rw [h.keep _ (by simp; omega) (by have := b.lt; omega), app_get]
  exact e
theorem cutG_mem {α : Type} {xs : List α} {lo hi : Option Int} {d : α} (h : d ∈ cutG xs lo hi) : d ∈ xs := List.mem_of_mem_drop (List.mem_of_mem_take h)
theorem cutG_len {α : Type} {xs : List α} {lo hi : Option Int} : (cutG xs lo hi).length ≤ xs.length := by
  unfold cutG
  simp only [List.length_take, List.length_drop]
  omega
@[simp] theorem slc_tup (xs : List D) (lo hi : Option Int) (st : Store) : slcop (.tup xs) lo hi st = .ok (.tup (cutG xs lo hi)) st := rfl
@[simp] theorem add_tt (xs ys : List D) (st : Store) : binop .add (.tup xs) (.tup ys) st = if xs.length + ys.length ≤ LINE then .ok (.tup (xs ++ ys)) st else .bad := rfl
@[simp] theorem evE_slc1 {C : Oracle} {cs : Str → Option D} {env : Mi.Env} {st : Store} (a hi : E) : evE C cs (.slc a .none (.some hi)) env st = (evE C cs a env st).bind fun x st => match evE C cs hi env st with
  | .ok (.int i) st => slcop x none (some i) st
  | _ => .bad := by
  refine bind_congr fun x s => ?_
  simp only [evO_none, evO_some]
  cases evE C cs hi env s with
  | ok d s => cases d <;> rfl
  | _ => rfl
@[simp] theorem evE_slc2 {C : Oracle} {cs : Str → Option D} {env : Mi.Env} {st : Store} (a lo : E) : evE C cs (.slc a (.some lo) .none) env st = (evE C cs a env st).bind fun x st => match evE C cs lo env st with
  | .ok (.int i) st => slcop x (some i) none st
  | _ => .bad := by
  refine bind_congr fun x s => ?_
  simp only [evO_none, evO_some]
  cases evE C cs lo env s with
  | ok d s => cases d <;> rfl
  | _ => rfl
end Th

set_option linter.all false
set_option maxRecDepth 100000
set_option maxHeartbeats 1000000
/-! Strings compared; all of a comprehension; slices from 1. -/
namespace Th
open PySem L2 Mi LL
theorem eq_str {x y : Str} {st : Store} (hx : PyData.strOk x = true) (hy : PyData.strOk y = true) : cmpop .eq (.str x) (.str y) st = .ok (.bl (x == y)) st := by
  rw [eq_run rfl rfl (by rw [shaped_str]; exact hx) (by rw [shaped_str]; exact hy)]
  simp [PyData.eqv]
theorem ne_str {x y : Str} {st : Store} (hx : PyData.strOk x = true) (hy : PyData.strOk y = true) : cmpop .ne (.str x) (.str y) st = .ok (.bl (!(x == y))) st := by
  rw [ne_run rfl rfl (by rw [shaped_str]; exact hx) (by rw [shaped_str]; exact hy)]
  simp [PyData.eqv]
theorem str_ne {a b : String} (h : a ≠ b) : (Str.ofString a == Str.ofString b) = false := beq_eq_false_iff_ne.mpr fun e => h (ofString_inj.mp e)
@[simp] theorem notin2 (k a b : Str) (st : Store) : cmpop .notin (.str k) (.tup [.str a, .str b]) st = .ok (.bl (!(a == k || b == k))) st := by
  simp [cmpop, inD, flatD, D.data, D.dataL, PyData.eqv, resB]
@[simp] theorem isin2 (k a b : Str) (st : Store) : cmpop .isin (.str k) (.tup [.str a, .str b]) st = .ok (.bl (a == k || b == k)) st := by
  simp [cmpop, inD, flatD, D.data, D.dataL, PyData.eqv, resB]
@[simp] theorem str_beq {a b : String} : (Str.ofString a == Str.ofString b) = decide (a = b) := by
  by_cases h : a = b
  · subst h; simp
  · rw [str_ne h]; simp [h]
theorem ok_ofString {a : String} (h : PyData.strOk (Str.ofString a) = true) : PyData.strOk (Str.ofString a) = true := h
theorem cutG_1 {α : Type} {x : α} {xs : List α} : cutG (x :: xs) (some 1) none = xs := by
  have e : HT.sIx (x :: xs).length 0 (some 1) = 1 := by
    have := HT.sIx_nat (x :: xs).length 0 1
    rw [show ((1 : Nat) : Int) = 1 from rfl] at this
    rw [this]; simp
  unfold cutG
  rw [e, HT.sIx_none]
  simp
theorem all_run {s : Store} {c : Nat} {xs : List D} {p : D → Bool} (h : s[c]? = some (.lst (xs.map fun x => .bl (p x)))) : biop .all [.ref c] s = .ok (.bl (xs.all p)) s := by
  simp [biop, lstOf, h, bls_map, List.all_map]
/-! what stands at a place, asked once -/
def getB (o : Option MO) (k : List D → Res) : Res := match o with
  | some (.lst xs) => k xs
  | _ => .bad
@[simp] theorem getB_some {xs : List D} {k : List D → Res} : getB (some (.lst xs)) k = k xs := rfl
@[simp] theorem len_ref (j : Nat) (s : Store) : biop .len [.ref j] s = getB s[j]? fun xs => .ok (.int xs.length) s := by
  cases h : s[j]? with
  | none => simp [biop, lstOf, h, getB]
  | some o => cases o <;> simp [biop, lstOf, h, getB]
@[simp] theorem idx_ref' (j : Nat) (i : Int) (s : Store) : idxop (.ref j) (.int i) s = getB s[j]? fun xs => glbB (atI xs i) s := by
  cases h : s[j]? with
  | none => simp [idxop, h, getB]
  | some o => cases o <;> simp only [idxop, h, getB] <;> cases atI _ i <;> rfl
@[simp] theorem tuple_ref (j : Nat) (s : Store) : biop .tuple [.ref j] s = getB s[j]? fun xs => .ok (.tup xs) s := by
  cases h : s[j]? with
  | none => simp [biop, lstOf, h, getB]
  | some o => cases o <;> simp [biop, lstOf, h, getB]
@[simp] theorem list_ref (j : Nat) (s : Store) : biop .list [.ref j] s = getB s[j]? fun xs => .ok (.ref s.length) (s ++ [.lst xs]) := by
  cases h : s[j]? with
  | none => simp [biop, lstOf, h, getB]
  | some o => cases o <;> simp [biop, lstOf, h, getB]
end Th

set_option linter.all false
set_option maxRecDepth 100000
set_option maxHeartbeats 1000000
/-! Comprehensions that leave out; loops that leave by False; the laws' small forms. -/
namespace Th
open PySem L2 Mi LL
theorem comp_filt0 {step : D → Store → CRes} {p : D → Bool} {g : D → D} {st : Store} : ∀ {xs acc : List D}, (∀ x ∈ xs, ∀ l, step x (st ++ [.lst l]) = .ok (if p x then some (g x) else none) (st ++ [.lst l])) → acc.length + xs.length ≤ LINE →
    compL step none st.length xs (st ++ [.lst acc]) = .ok (.ref st.length) (st ++ [.lst (acc ++ (xs.filter p).map g)])
  | [], acc, _, _ => by simp [compL, gdOk]
  | x :: xs, acc, h, hl => by
    simp only [List.length_cons] at hl
    have hx := h x List.mem_cons_self acc
    cases q : p x
    · have ih := comp_filt0 (p := p) (g := g) (acc := acc) (fun y hy l => h y (List.mem_cons_of_mem _ hy) l) (by omega)
      rw [q] at hx
      simp only [compL, gdOk, if_true, hx]
      simp [ih, q]
    · have ih := comp_filt0 (p := p) (g := g) (acc := acc ++ [g x]) (fun y hy l => h y (List.mem_cons_of_mem _ hy) l) (by simp; omega)
      have e : (st ++ [MO.lst acc]).set st.length (.lst (acc ++ [g x])) = st ++ [.lst (acc ++ [g x])] := by simp
      rw [q] at hx
      simp only [compL, gdOk, if_true, hx]
      rw [List.getElem?_append_right (Nat.le_refl _)]
      simp only [Nat.sub_self, List.getElem?_cons_zero]
      rw [if_pos (by omega), e, ih]
      simp [q]
theorem comp_filt {step : D → Store → CRes} {p : D → Bool} {g : D → D} {st : Store} {xs : List D} (h : ∀ x ∈ xs, ∀ l, step x (st ++ [.lst l]) = .ok (if p x then some (g x) else none) (st ++ [.lst l])) (hl : xs.length ≤ LINE) :
    compL step none st.length xs (st ++ [.lst []]) = .ok (.ref st.length) (st ++ [.lst ((xs.filter p).map g)]) := by
  have := comp_filt0 (acc := []) h (by simpa using hl)
  simpa using this
theorem len_run {s : Store} {c : Nat} {xs : List D} (h : s[c]? = some (.lst xs)) : biop .len [.ref c] s = .ok (.int xs.length) s := by simp [biop, lstOf, h]

theorem for_allB {step : D → Mi.Env → Store → Out} {p : D → Bool} {st : Store} (I : Mi.Env → Prop) : ∀ {xs : List D} {env : Mi.Env}, (∀ x ∈ xs, ∀ env, I env → if p x = true then ∃ e', I e' ∧ step x env st = .nx e' st else step x env st = .rt (.bl false) st) → I env →
    if xs.all p = true then ∃ e', I e' ∧ forL step none xs env st = .nx e' st else forL step none xs env st = .rt (.bl false) st
  | [], env, h, i => by simp [forL, gdOk]; exact i
  | x :: xs, env, h, i => by
    have hx := h x List.mem_cons_self env i
    cases q : p x
    · rw [q] at hx
      simp at hx
      simp [forL, gdOk, hx, q]
    · rw [q] at hx
      simp at hx
      obtain ⟨e', i', hx⟩ := hx
      have ih := for_allB (xs := xs) I (fun y hy => h y (List.mem_cons_of_mem _ hy)) i'
      simp only [forL, gdOk, if_true, hx, List.all_cons, q, Bool.true_and]
      exact ih
@[simp] theorem toOut_bind {r : ItR} {env : Mi.Env} {k : List D → Option (Nat × List D) → Store → Out} {j : Mi.Env → Store → Out} : (r.toOut env k).bind j = r.toOut env (fun xs gd s => (k xs gd s).bind j) := by cases r <;> rfl
theorem wo_rng1 {r : Res} {env : Mi.Env} {k : List D → Option (Nat × List D) → Store → Out} {P : Out → Prop} (h : WR r (fun d s => ∃ j, d = .int j ∧ small62 j ∧ WO (k (rangeD 0 j) none s) P) noE) : WO ((rng1R r).toOut env k) P := by
  obtain ⟨d, s, rfl, j, rfl, hj, h⟩ := wr_get h
  rw [rng1R_ok hj]
  exact h
theorem rangeD_mem {d : D} {lo hi : Int} (h : d ∈ rangeD lo hi) : ∃ k : Int, d = .int k ∧ lo ≤ k ∧ k < hi := by
  unfold rangeD at h
  obtain ⟨k, hk, rfl⟩ := List.mem_map.mp h
  have := List.mem_range.mp hk
  exact ⟨lo + k, rfl, by omega, by omega⟩
theorem rangeD_len {hi : Int} : (rangeD 0 hi).length = hi.toNat := by simp [rangeD]
theorem in_vars {k : Str} (hk : PyData.strOk k = true) (st : Store) : cmpop .isin (.str k) (.ref st.length) (st ++ [.lst [.str (Str.ofString "a"), .str (Str.ofString "b"), .str (Str.ofString "c"), .str (Str.ofString "d")]]) = .ok (.bl (isVarD (.str k))) (st ++ [.lst [.str (Str.ofString "a"), .str (Str.ofString "b"), .str (Str.ofString "c"), .str (Str.ofString "d")]]) := by
  have h1 : SeqAt.shaped (.list [.str (Str.ofString "a"), .str (Str.ofString "b"), .str (Str.ofString "c"), .str (Str.ofString "d")]) = true := by decide +kernel
  have h2 : SeqAt.shaped (.str k) = true := by rw [shaped_str]; exact hk
  simp [cmpop, inD, dataS, D.data, D.dataL, PyData.eqv, resB, h1, h2, isVarD]
end Th

set_option linter.all false
set_option maxRecDepth 100000
set_option maxHeartbeats 1000000
/-! The laws' bags; what a law's end wants. -/
namespace Th
open PySem L2 Mi LL
@[simp] theorem len_fl (xs : List D) (st : Store) : biop .len [.fl xs] st = .ok (.int xs.length) st := rfl
@[simp] theorem max_ii (i j : Int) (st : Store) : biop .max [.int i, .int j] st = .ok (.int (if j > i then j else i)) st := rfl
@[simp] theorem min_ii (i j : Int) (st : Store) : biop .min [.int i, .int j] st = .ok (.int (if j < i then j else i)) st := rfl
@[simp] theorem is_non (x : D) (st : Store) : cmpop .is x .non st = .ok (.bl (isNon x)) st := by cases x <;> rfl
@[simp] theorem isnot_non (x : D) (st : Store) : cmpop .isnot x .non st = .ok (.bl (!isNon x)) st := by cases x <;> rfl
@[simp] theorem is_bb (a b : Bool) (st : Store) : cmpop .is (.bl a) (.bl b) st = .ok (.bl (decide (a = b))) st := rfl
@[simp] theorem isnot_bb (a b : Bool) (st : Store) : cmpop .isnot (.bl a) (.bl b) st = .ok (.bl (!decide (a = b))) st := rfl
@[simp] theorem pow_ii (i j : Int) (st : Store) : binop .pow (.int i) (.int j) st = if okPow i j then .ok (.int (i ^ j.toNat)) st else .bad := rfl
theorem gc_bl {st s : Store} {b : Bool} : ∃ s', gc st (.ok (.bl b) s) = .ok (.bl b) s' := by
  unfold gc
  by_cases c : gcOk st s ∧ closedD st.length (.bl b) = true
  · exact ⟨s.take st.length, by simp only [if_pos c]⟩
  · exact ⟨s, by simp only [if_neg c, flatO]⟩
/-- a law's turns, told by slots that stay -/
theorem turns {body : Mi.Env → Store → Out} {M : Int} {I : Mi.Env → Prop} {env : Mi.Env} {st : Store} (i : I env)
    (h : ∀ k env st, 0 ≤ k → I env → WO (body (env.set 1 (some (.int k))) st) (Lp (fun e _ => I e) (fun _ => False))) :
    WO (forL (bodyF (.name 1) body) none (rangeD 0 M) env st) (fun o => ∃ e s, o = .nx e s ∧ I e) :=
  for_list (fun ys e _ => I e ∧ ∀ y ∈ ys, ∃ k, y = .int k ∧ 0 ≤ k) (by
    rintro q ys e s ⟨he, hy⟩
    obtain ⟨k, rfl, hk⟩ := hy q List.mem_cons_self
    refine ⟨trivial, ?_⟩
    rw [bodyF_name]
    refine wo_mono (h k e s hk he) fun o ho => ?_
    cases o <;> first | exact ⟨ho, fun y h => hy y (List.mem_cons_of_mem _ h)⟩ | exact ho.elim) (by
    rintro e s ⟨he, _⟩
    exact ⟨trivial, e, s, rfl, he⟩) _ _ _ ⟨i, fun y hy => by
      obtain ⟨k, rfl, h, _⟩ := rangeD_mem hy
      exact ⟨k, rfl, h⟩⟩
end Th

set_option linter.all false
set_option maxRecDepth 100000
set_option maxHeartbeats 1000000
/-! Changes: what the program says. -/
namespace Th
open PySem L2 Mi LL
section
variable {st : Store}
theorem change_ok {n : Nat} (hn : 2 ≤ n) {d : D} (h : Wf st d) : callK L n "_is_change" [d] st = .ok (.bl (isChangeD d)) st := by
  obtain ⟨m, rfl, hm⟩ := pred_ hn
  rw [call_open fn__is_change rfl]
  have h1 := row_ok hm (a := 2) (b := 2) h
  cases d with
  | tup xs =>
    match xs with
    | [] => simp [fd__is_change, startE, h1, isChangeD, isRowD]
    | [v] => simp [fd__is_change, startE, h1, isChangeD, isRowD]
    | [v, w] =>
      have h2 := variable_ok hm (wf_2 h).1
      have h3 := is_integer_ok hm (a := -1000) (b := 1000) (wf_2 h).2
      simp [fd__is_change, startE, h1, h2, h3, isChangeD, isRowD, cs_MOST_VALUE]
    | v :: w :: y :: r => 
      have : ¬ ((r.length : Int) + 1 + 1 + 1 ≤ 2) := by omega
      simp [fd__is_change, startE, h1, isChangeD, isRowD, this]
  | _ => simp [fd__is_change, startE, h1, isChangeD, isRowD]
end


def varIx : D → Option Nat
  | .str x => if Str.ofString "a" == x then some 0 else if Str.ofString "b" == x then some 1 else if Str.ofString "c" == x then some 2 else if Str.ofString "d" == x then some 3 else none
  | _ => none
theorem isVar_ix {d : D} : isVarD d = (varIx d).isSome := by
  cases d with
  | str x =>
    simp only [isVarD, varIx]
    cases Str.ofString "a" == x <;> cases Str.ofString "b" == x <;> cases Str.ofString "c" == x <;> cases Str.ofString "d" == x <;> rfl
  | _ => rfl
theorem varIx_lt {d : D} {i : Nat} (h : varIx d = some i) : i < 4 := by
  cases d with
  | str x =>
    simp only [varIx] at h
    split at h
    · cases h; decide
    · split at h
      · cases h; decide
      · split at h
        · cases h; decide
        · split at h
          · cases h; decide
          · cases h
  | _ => cases h
def varOf : Nat → Str
  | 0 => "a" | 1 => "b" | 2 => "c" | _ => "d"
theorem varIx_str {d : D} {i : Nat} (h : varIx d = some i) : d = .str (varOf i) := by
  cases d with
  | str x =>
    simp only [varIx] at h
    split at h
    · rename_i hh; cases h; have := beq_iff_eq.mp hh; subst this; rfl
    · split at h
      · rename_i hh; cases h; have := beq_iff_eq.mp hh; subst this; rfl
      · split at h
        · rename_i hh; cases h; have := beq_iff_eq.mp hh; subst this; rfl
        · split at h
          · rename_i hh; cases h; have := beq_iff_eq.mp hh; subst this; rfl
          · cases h
  | _ => cases h
def chIx : D → Option Nat
  | .tup [v, w] => if isIntD (-1000) 1000 w then varIx v else none
  | _ => none
theorem isChange_ix {d : D} : isChangeD d = (chIx d).isSome := by
  match d with
  | .tup [v, w] =>
    simp only [isChangeD, chIx, isVar_ix]
    cases isIntD (-1000) 1000 w <;> simp
  | .tup [] => rfl
  | .tup [_] => rfl
  | .tup (_ :: _ :: _ :: _) => rfl
  | .non => rfl
  | .bl _ => rfl
  | .int _ => rfl
  | .str _ => rfl
  | .fl _ => rfl
  | .ref _ => rfl
theorem chIx_some {d : D} {i : Nat} (h : chIx d = some i) : i < 4 ∧ ∃ w, d = .tup [.str (varOf i), w] ∧ isIntD (-1000) 1000 w = true := by
  match d, h with
  | .tup [v, w], h =>
    simp only [chIx] at h
    split at h
    · exact ⟨varIx_lt h, w, by rw [varIx_str h], ‹_›⟩
    · cases h
def sLt (x y : Str) : Bool := decide (x.cps.toList < y.cps.toList)
theorem varOf_lt : ∀ i j : Nat, i < 4 → j < 4 → sLt (varOf i) (varOf j) = decide (i < j) := by
  intro i j hi hj
  have : ∀ i j : _root_.Fin 4, sLt (varOf i) (varOf j) = decide (i.val < j.val) := by decide +kernel
  exact this ⟨i, hi⟩ ⟨j, hj⟩
/-- changes in the order of the variables, from the variable lo on -/
def ascN : Nat → List D → Bool
  | _, [] => true
  | lo, x :: xs => match chIx x with
    | some i => decide (lo ≤ i) && ascN (i + 1) xs
    | none => false
theorem ascN_len : ∀ {xs : List D} {lo : Nat}, lo ≤ 4 → ascN lo xs = true → xs.length + lo ≤ 4
  | [], lo, h, _ => by simpa using h
  | x :: xs, lo, _, h => by
    simp only [ascN] at h
    split at h
    · rename_i i e
      simp only [Bool.and_eq_true, decide_eq_true_eq] at h
      have := ascN_len (lo := i + 1) (by have := (chIx_some e).1; omega) h.2
      simp only [List.length_cons]
      omega
    · cases h
theorem ascN_iff : ∀ {xs : List D} {lo : Nat}, ascN lo xs = true ↔ (∀ x ∈ xs, (chIx x).isSome = true) ∧ (∀ x i, xs[0]? = some x → chIx x = some i → lo ≤ i) ∧ ∀ k x y i j, xs[k]? = some x → xs[k + 1]? = some y → chIx x = some i → chIx y = some j → i < j
  | [], lo => by simp [ascN]
  | x :: xs, lo => by
    simp only [ascN]
    cases e : chIx x with
    | none =>
      simp only [Bool.false_eq_true, false_iff]
      rintro ⟨h, _⟩
      have := h x List.mem_cons_self
      rw [e] at this
      cases this
    | some i =>
      simp only [Bool.and_eq_true, decide_eq_true_eq]
      rw [ascN_iff]
      constructor
      · rintro ⟨h1, h2, h3, h4⟩
        refine ⟨?_, ?_, ?_⟩
        · intro y hy
          rcases List.mem_cons.mp hy with rfl | hy
          · rw [e]; rfl
          · exact h2 y hy
        · intro y j hy hj
          cases hy
          rw [e] at hj
          cases hj
          exact h1
        · intro k y z a b hy hz ha hb
          cases k with
          | zero =>
            cases hy
            rw [e] at ha
            cases ha
            exact h3 z b hz hb
          | succ k => exact h4 k y z a b hy hz ha hb
      · rintro ⟨h1, h2, h3⟩
        exact ⟨h2 x i rfl e, fun y hy => h1 y (List.mem_cons_of_mem _ hy), fun y j hy hj => h3 0 x y i j rfl hy e hj, fun k y z a b hy hz ha hb => h3 (k + 1) y z a b hy hz ha hb⟩
def isChangesD : D → Bool
  | .tup xs => ascN 0 xs
  | _ => false
/-- at k the change goes up -/
def upD (xs : List D) : D → Bool
  | .int k => match xs[(k - 1).toNat]?, xs[k.toNat]? with
    | some x, some y => match chIx x, chIx y with
      | some i, some j => decide (i < j)
      | _, _ => false
    | _, _ => false
  | _ => false
theorem mem_range {d : D} {lo hi : Int} (h : d ∈ rangeD lo hi) : ∃ k : Int, d = .int k ∧ lo ≤ k ∧ k < hi := by
  unfold rangeD at h
  obtain ⟨k, hk, rfl⟩ := List.mem_map.mp h
  have := List.mem_range.mp hk
  exact ⟨lo + k, rfl, by omega, by omega⟩
theorem range_mem {k lo hi : Int} (h0 : lo ≤ k) (h1 : k < hi) : D.int k ∈ rangeD lo hi := by
  unfold rangeD
  refine List.mem_map.mpr ⟨(k - lo).toNat, List.mem_range.mpr (by omega), ?_⟩
  congr 1
  omega
theorem asc_up {xs : List D} (h : ∀ x ∈ xs, isChangeD x = true) : ascN 0 xs = (rangeD 1 xs.length).all (upD xs) := by
  rw [Bool.eq_iff_iff, ascN_iff, List.all_eq_true]
  constructor
  · rintro ⟨h1, _, h3⟩ d hd
    obtain ⟨k, rfl, hk0, hk1⟩ := mem_range hd
    have e1 : (k - 1).toNat + 1 = k.toNat := by omega
    have b1 : k.toNat < xs.length := by omega
    have g1 : xs[(k - 1).toNat]? = some xs[(k - 1).toNat] := List.getElem?_eq_getElem (by omega)
    have g2 : xs[k.toNat]? = some xs[k.toNat] := List.getElem?_eq_getElem b1
    obtain ⟨i, hi⟩ := Option.isSome_iff_exists.mp (h1 _ (List.mem_of_getElem? g1))
    obtain ⟨j, hj⟩ := Option.isSome_iff_exists.mp (h1 _ (List.mem_of_getElem? g2))
    have := h3 (k - 1).toNat _ _ i j g1 (by rw [e1]; exact g2) hi hj
    simp only [upD, g1, g2, hi, hj, this, decide_true]
  · intro h1
    refine ⟨fun x hx => by rw [← isChange_ix]; exact h x hx, fun _ _ _ _ => Nat.zero_le _, fun k x y i j hx hy hi hj => ?_⟩
    have b := (List.getElem?_eq_some_iff.mp hy).1
    have := h1 (.int ((k : Int) + 1)) (range_mem (by omega) (by omega))
    have e1 : ((k : Int) + 1 - 1).toNat = k := by omega
    have e2 : ((k : Int) + 1).toNat = k + 1 := by omega
    simp only [upD, e1, e2, hx, hy, hi, hj, decide_eq_true_eq] at this
    exact this

theorem lt_str (x y : Str) (st : Store) : cmpop .lt (.str x) (.str y) st = .ok (.bl (sLt x y)) st := rfl
theorem le_str (x y : Str) (st : Store) : cmpop .le (.str x) (.str y) st = .ok (.bl (!sLt y x)) st := rfl
section
theorem chg_c1 {m : Nat} {st : Store} (hm : 2 ≤ m) {xs : List D} (hl : xs.length ≤ 4) (hx : ∀ x ∈ xs, ∀ g, Wf (st ++ g) x) : compL (stepF [2] (.name 2) (evAll (callK L m) L.cs .nil) (evE (callK L m) L.cs (.call "_is_change" (.cons (.var 2) .nil))) [some (.tup xs), none, none]) none st.length xs (st ++ [.lst []]) = .ok (.ref st.length) (st ++ [.lst (xs.map fun x => .bl (isChangeD x))]) :=
  comp_run (fun x hx' l => by simp [stepF_name, wipeE, cstep, change_ok hm (hx x hx' _)]) (Nat.le_trans hl (by decide))
theorem chg_c2 {m : Nat} {xs : List D} (hl : xs.length ≤ 4) (ha : ∀ x ∈ xs, isChangeD x = true) (s : Store) : compL (stepF [1] (.name 1) (evAll (callK L m) L.cs .nil) (evE (callK L m) L.cs (.cmp .lt (.idx (.idx (.var 0) (.bin .sub (.var 1) (.int 1))) (.int 0)) (.idx (.idx (.var 0) (.var 1)) (.int 0)))) [some (.tup xs), none, none]) none s.length (rangeD 1 xs.length) (s ++ [.lst []]) = .ok (.ref s.length) (s ++ [.lst ((rangeD 1 xs.length).map fun x => .bl (upD xs x))]) :=
  comp_run (fun x hx' l => by
    obtain ⟨k, rfl, hk0, hk1⟩ := mem_range hx'
    have g1 : xs[(k - 1).toNat]? = some xs[(k - 1).toNat] := List.getElem?_eq_getElem (by omega)
    have g2 : xs[k.toNat]? = some xs[k.toNat] := List.getElem?_eq_getElem (by omega)
    have q1 := ha _ (List.mem_of_getElem? g1)
    have q2 := ha _ (List.mem_of_getElem? g2)
    rw [isChange_ix] at q1 q2
    obtain ⟨i, hi⟩ := Option.isSome_iff_exists.mp q1
    obtain ⟨j, hj⟩ := Option.isSome_iff_exists.mp q2
    obtain ⟨i4, w, ei, _⟩ := chIx_some hi
    obtain ⟨j4, v, ej, _⟩ := chIx_some hj
    have u : upD xs (.int k) = decide (i < j) := by simp only [upD, g1, g2, hi, hj]
    have a1 : atI xs (k - 1) = some (.tup [.str (varOf i), w]) := by rw [atI_nn (by omega), g1, ei]
    have a2 : atI xs k = some (.tup [.str (varOf j), v]) := by rw [atI_nn (by omega), g2, ej]
    rw [u, ← varOf_lt i j i4 j4]
    simp [stepF_name, wipeE, cstep, a1, a2, lt_str]) (by
      have : (rangeD 1 xs.length).length ≤ 4 := by
        unfold rangeD
        rw [List.length_map, List.length_range]
        omega
      exact Nat.le_trans this (by decide))
theorem E1 {m : Nat} {st : Store} {xs : List D} (hv : L.cs "VARIABLES" = some (.tup [.str "a", .str "b", .str "c", .str "d"])) (hl : (xs.length : Int) ≤ 4) (h1 : callK L m (Str.ofString "_is_row") [D.tup xs, D.int 0, D.int 4] st = Res.ok (D.bl (isRowD 0 4 (D.tup xs))) st) : 
  evS (callK L m) L.cs L.sub L.wf (.iff (.not (.call "_is_row" (.cons (.var 0) (.cons (.int 0) (.cons (.bi .len (.cons (.glb "VARIABLES") .nil)) .nil)))))
      (.cons (.ret (.bl false))
      .nil)
      .nil) [some (.tup xs), none, none] st = .nx [some (.tup xs), none, none] st := by
  simp [h1, hv, isRowD, hl]
theorem E3 {m : Nat} {s : Store} {xs : List D} (hl : (xs.length : Int) ≤ 4) (sm : small62 xs.length) (sm1 : small62 1) (c2 :  compL
        (stepF [1] (Tg.name 1) (evAll (callK L m) L.cs Es.nil)
          (evE (callK L m) L.cs
            (E.cmp COp.lt (((E.var 0).idx (E.bin BOp.sub (E.var 1) (E.int 1))).idx (E.int 0))
              (((E.var 0).idx (E.var 1)).idx (E.int 0))))
          [some (D.tup xs), none, none])
        none (List.length s) (rangeD 1 ↑xs.length) (s ++ [MO.lst []]) =
      Res.ok (D.ref (List.length s)) (s ++ [MO.lst (List.map (fun x => D.bl (upD xs x)) (rangeD 1 ↑xs.length))])) :
  evS (callK L m) L.cs L.sub L.wf (.ret (.bi .all (.cons (.lc [("at", 1)] (.name 1) (.rng2 (.int 1) (.bi .len (.cons (.var 0) .nil))) .nil (.cmp .lt (.idx (.idx (.var 0) (.bin .sub (.var 1) (.int 1))) (.int 0)) (.idx (.idx (.var 0) (.var 1)) (.int 0)))) .nil))) [some (.tup xs), none, none] s = .rt (.bl ((rangeD 1 xs.length).all (upD xs))) (s ++ [MO.lst (List.map (fun x => D.bl (upD xs x)) (rangeD 1 ↑xs.length))]) := by
  simp [sm, sm1, c2, rng2R]
theorem E2 {m : Nat} {st : Store} {xs : List D} (c1 : compL (stepF [2] (.name 2) (evAll (callK L m) L.cs .nil) (evE (callK L m) L.cs (.call "_is_change" (.cons (.var 2) .nil))) [some (.tup xs), none, none]) none st.length xs (st ++ [.lst []]) = .ok (.ref st.length) (st ++ [.lst (xs.map fun x => .bl (isChangeD x))])) : 
  evS (callK L m) L.cs L.sub L.wf (.iff (.not (.bi .all (.cons (.lc [("change", 2)] (.name 2) (.exp (.var 0)) .nil (.call "_is_change" (.cons (.var 2) .nil))) .nil)))
      (.cons (.ret (.bl false))
      .nil)
      .nil) [some (.tup xs), none, none] st = if xs.all isChangeD = true then .nx [some (.tup xs), none, none] (st ++ [.lst (xs.map fun x => .bl (isChangeD x))]) else .rt (.bl false) (st ++ [.lst (xs.map fun x => .bl (isChangeD x))]) := by
  cases h : xs.all isChangeD <;> simp [c1, h]
theorem are_changes_ok {n : Nat} {st : Store} (hn : 3 ≤ n) {d : D} (h : Wf st d) : callK L n "_are_changes" [d] st = .ok (.bl (isChangesD d)) st := by
  obtain ⟨m, rfl, hm⟩ := pred_ hn
  rw [call_open fn__are_changes rfl]
  have h1 := row_ok (by omega : 1 ≤ m) (a := 0) (b := 4) h
  cases d with
  | tup xs =>
    by_cases hl : (xs.length : Int) ≤ 4
    · have hx : ∀ x ∈ xs, ∀ g, Wf (st ++ g) x := fun x hx g => wf_app (wfL_mem h.1 x hx)
      have hl' : xs.length ≤ 4 := by omega
      have c1 := chg_c1 hm hl' hx
      have sm : small62 xs.length := ⟨by omega, by omega⟩
      have sm1 : small62 1 := ⟨by decide, by decide⟩
      show gc st (Out.fin (evSs _ _ _ _ (.cons _ (.cons _ (.cons _ .nil))) [some (.tup xs), none, none] st)) = _
      rw [evSs_cons, E1 cs_VARIABLES hl h1, obind_nx, kSs_app, evSs_cons, E2 c1]
      cases hall : xs.all isChangeD with
      | false =>
        have e : ascN 0 xs = false := by
          cases e : ascN 0 xs with
          | false => rfl
          | true =>
            have := (ascN_iff.mp e).1
            have : xs.all isChangeD = true := List.all_eq_true.mpr fun x hx => by rw [isChange_ix]; exact this x hx
            rw [hall] at this; cases this
        rw [if_neg (by decide), obind_rt, fin_rt, gc_app_bl]
        show _ = Res.ok (.bl (ascN 0 xs)) st
        rw [e]
      | true =>
        have ha := List.all_eq_true.mp hall
        rw [if_pos rfl, obind_nx, kSs_app, evSs_cons, E3 hl sm sm1 (chg_c2 (m := m) hl' ha _), obind_rt, fin_rt, List.append_assoc, gc_app_bl, ← asc_up ha]
        rfl
    · simp [fd__are_changes, startE, h1, isChangesD, isRowD, cs_VARIABLES, hl]
      cases e : ascN 0 xs with
      | false => rfl
      | true =>
        have := ascN_len (by omega) e
        omega
  | _ => simp [fd__are_changes, startE, h1, isChangesD, isRowD, cs_VARIABLES]
end
end Th

set_option linter.all false
set_option maxRecDepth 100000
set_option maxHeartbeats 1000000
/-! Events: what the program says. -/
namespace Th
open PySem L2 Mi LL

theorem ok_step : PyData.strOk (Str.ofString "step") = true := by decide +kernel
def isEventD : D → Bool
  | .tup [.str k, c] => (k == Str.ofString "step") && isChangesD c
  | .tup [.str k, l, c] => (k == Str.ofString "send" || k == Str.ofString "take") && (isIntD 1 999 l && isChangesD c)
  | _ => false
section
theorem is_event_ok {n : Nat} {st : Store} (hn : 4 ≤ n) {d : D} (h : Wf st d) : callK L n "is_event" [d] st = .ok (.bl (isEventD d)) st := by
  obtain ⟨m, rfl, hm⟩ := pred_ hn
  rw [call_open fn_is_event rfl]
  have h1 := named_ok (by omega : 1 ≤ m) h
  by_cases hd : isNamedD d = true
  · match d, hd, h, h1 with
    | .tup (.str k :: r), hd, h, h1 =>
      have hk : PyData.strOk k = true := h.1.1
      have hr := wfL_mem h.1.2
      have hL : ∀ i : Nat, i < 100 → i ≤ LINE := fun i h => by simp only [LINE]; omega
      have e1 : (Str.ofString "step" == k) = (k == Str.ofString "step") := Bool.beq_comm
      have e2 : (Str.ofString "send" == k) = (k == Str.ofString "send") := Bool.beq_comm
      have e3 : (Str.ofString "take" == k) = (k == Str.ofString "take") := Bool.beq_comm
      rcases r with _ | ⟨c, _ | ⟨e, _ | ⟨f, r⟩⟩⟩
      · cases q : k == Str.ofString "step" <;> simp [fd_is_event, startE, h1, hd, eq_str hk ok_step, isEventD, q, LINE]
      · have hc := are_changes_ok hm (hr c (by simp))
        cases q : k == Str.ofString "step" <;> simp [fd_is_event, startE, h1, hd, eq_str hk ok_step, isEventD, q, LINE, hc]
      · have hc := are_changes_ok hm (hr e (by simp))
        have hi := is_integer_ok (by omega : 1 ≤ m) (a := 1) (b := 999) (hr c (by simp))
        cases q : k == Str.ofString "step" <;> cases q2 : k == Str.ofString "send" <;> cases q3 : k == Str.ofString "take" <;> simp [fd_is_event, startE, h1, hd, eq_str hk ok_step, isEventD, q, q2, q3, e2, e3, LINE, hc, hi, cs_MOST_LETTER]
        all_goals (have := beq_iff_eq.mp q; subst this; first | exact absurd q2 (by rw [str_ne (by decide)]; exact Bool.false_ne_true) | exact absurd q3 (by rw [str_ne (by decide)]; exact Bool.false_ne_true))
      · have l1 : ¬ ((r.length : Int) + 1 + 1 + 1 + 1 = 2) := by omega
        have l2 : ¬ ((r.length : Int) + 1 + 1 + 1 + 1 = 3) := by omega
        cases q : k == Str.ofString "step" <;> cases q2 : k == Str.ofString "send" <;> cases q3 : k == Str.ofString "take" <;> simp [fd_is_event, startE, h1, hd, eq_str hk ok_step, isEventD, q, q2, q3, e2, e3, LINE, l1, l2]
  · have e : isEventD d = false := by
      cases q : isEventD d with
      | false => rfl
      | true =>
        exact absurd (by
          match d, q with
          | .tup [.str k, c], _ => rfl
          | .tup [.str k, l, c], _ => rfl) hd
    simp [fd_is_event, startE, h1, hd, e]
end
end Th

set_option linter.all false
set_option maxRecDepth 100000
set_option maxHeartbeats 1000000
/-! Processes. -/
namespace Th
open PySem L2 Mi LL
def isProcD : D → Bool
  | .tup xs => decide (xs.length ≤ 30) && xs.all isEventD
  | _ => false
section
variable {st : Store}
theorem pr_c {m : Nat} (hm : 4 ≤ m) {xs : List D} (hl : xs.length ≤ 30) (hx : ∀ x ∈ xs, ∀ g, Wf (st ++ g) x) : compL (stepF [1] (.name 1) (evAll (callK L m) L.cs .nil) (evE (callK L m) L.cs (.call "is_event" (.cons (.var 1) .nil))) [some (.tup xs), none]) none st.length xs (st ++ [.lst []]) = .ok (.ref st.length) (st ++ [.lst (xs.map fun x => .bl (isEventD x))]) :=
  comp_run (fun x hx' l => by simp [stepF_name, wipeE, cstep, is_event_ok hm (hx x hx' _)]) (Nat.le_trans hl (by decide))
theorem process_ok {n : Nat} (hn : 5 ≤ n) {d : D} (h : Wf st d) : callK L n "_is_process" [d] st = .ok (.bl (isProcD d)) st := by
  obtain ⟨m, rfl, hm⟩ := pred_ hn
  rw [call_open fn__is_process rfl]
  have h1 := row_ok (by omega : 1 ≤ m) (a := 0) (b := 30) h
  cases d with
  | tup xs =>
    have hx : ∀ x ∈ xs, ∀ g, Wf (st ++ g) x := fun x hx g => wf_app (wfL_mem h.1 x hx)
    by_cases hl : xs.length ≤ 30
    · have hl' : (xs.length : Int) ≤ 30 := by omega
      have c := pr_c hm hl hx
      simp [fd__is_process, startE, h1, isProcD, isRowD, cs_MOST_EVENTS, hl, hl', c]
    · have hl' : ¬ (xs.length : Int) ≤ 30 := by omega
      simp [fd__is_process, startE, h1, isProcD, isRowD, cs_MOST_EVENTS, hl, hl']
  | _ => simp [fd__is_process, startE, h1, isProcD, isRowD, cs_MOST_EVENTS]
end
/-! ### letters once -/
def markOf : D → Option (Str × Int)
  | .tup [.str k, .int i, _] => some (k, i)
  | _ => none
def markD (m : Str × Int) : D := .tup [.str m.1, .int m.2]
def marksOf (ys : List D) : List (Str × Int) := ys.filterMap markOf
def insM (ds : List (Str × Int)) (m : Str × Int) : List (Str × Int) := if m ∈ ds then ds else ds ++ [m]
theorem ins_len : ∀ {ms ds : List (Str × Int)}, ds.Nodup → (ms.foldl insM ds).length ≤ ds.length + ms.length ∧ ((ms.foldl insM ds).length = ds.length + ms.length ↔ (ds ++ ms).Nodup)
  | [], ds, h => by simp [h]
  | m :: ms, ds, h => by
    simp only [List.foldl_cons, List.length_cons]
    by_cases q : m ∈ ds
    · have ih := ins_len (ms := ms) h
      have e : insM ds m = ds := by simp [insM, q]
      rw [e]
      refine ⟨by omega, ⟨fun z => by omega, fun z => ?_⟩⟩
      rw [List.nodup_append] at z
      exact absurd rfl (z.2.2 m q m List.mem_cons_self)
    · have e : insM ds m = ds ++ [m] := by simp [insM, q]
      have h' : (ds ++ [m]).Nodup := by
        rw [List.nodup_append]
        exact ⟨h, by simp, fun a ha b hb => by rw [List.mem_singleton.mp hb]; rintro rfl; exact q ha⟩
      have ih := ins_len (ms := ms) h'
      rw [e]
      rw [List.length_append, List.append_assoc] at ih
      simp only [List.length_singleton, List.singleton_append] at ih
      exact ⟨by omega, by rw [← ih.2]; omega⟩
theorem event_cases {e : D} (h : isEventD e = true) : (∃ c, e = .tup [.str "step", c] ∧ markOf e = none) ∨ ∃ k i c, e = .tup [.str k, .int i, c] ∧ (k = "send" ∨ k = "take") ∧ 1 ≤ i ∧ i ≤ 999 ∧ markOf e = some (k, i) := by
  match e, h with
  | .tup [.str k, c], h =>
    simp only [isEventD, Bool.and_eq_true] at h
    have := beq_iff_eq.mp h.1
    subst this
    exact .inl ⟨c, rfl, by cases c <;> rfl⟩
  | .tup [.str k, l, c], h =>
    simp only [isEventD, Bool.and_eq_true, Bool.or_eq_true] at h
    obtain ⟨hk, hl, _⟩ := h
    cases l with
    | int i =>
      simp only [isIntD, Bool.and_eq_true, decide_eq_true_eq] at hl
      exact .inr ⟨k, i, c, rfl, hk.imp (fun z => beq_iff_eq.mp z) (fun z => beq_iff_eq.mp z), hl.1, hl.2, rfl⟩
    | _ => cases hl
end Th

set_option linter.all false
set_option maxRecDepth 100000
set_option maxHeartbeats 1000000
/-! Letters once. -/
namespace Th
open PySem L2 Mi LL
/-! x += e of ints -/
def augB (i : Nat) (env : Mi.Env) : Res → Out
  | .ok (.int z) st => .nx (env.set i (some (.int z))) st
  | _ => .bad
noncomputable def augE (op : BOp) (i : Nat) (o : Option (Option D)) (env : Mi.Env) (r : Res) : Out := match o with
  | some (some x) => r.bindO env fun y st => augB i env (binop op x y st)
  | _ => .bad
@[simp] theorem augB_ok {i : Nat} {env : Mi.Env} {z : Int} {st : Store} : augB i env (.ok (.int z) st) = .nx (env.set i (some (.int z))) st := rfl
@[simp] theorem augE_some {op : BOp} {i : Nat} {x : D} {env : Mi.Env} {r : Res} : augE op i (some (some x)) env r = r.bindO env fun y st => augB i env (binop op x y st) := rfl
@[simp] theorem evS_augA {C : Oracle} {cs : Str → Option D} {sub : Tab} {wf : Nat} {env : Mi.Env} {st : Store} (i : Nat) (e : E) : evS C cs sub wf (.aug i .add e) env st = augE .add i env[i]? env (evE C cs e env st) := rfl
@[simp] theorem evS_augS {C : Oracle} {cs : Str → Option D} {sub : Tab} {wf : Nat} {env : Mi.Env} {st : Store} (i : Nat) (e : E) : evS C cs sub wf (.aug i .sub e) env st = augE .sub i env[i]? env (evE C cs e env st) := rfl
theorem keyT_mark {m : Str × Int} : keyT (markD m) = some [.inr m.1, .inl m.2] := rfl
theorem mark_any {ds : List (Str × Int)} {m : Str × Int} : ((ds.map markD).any fun d => decide (keyT d = some [.inr m.1, .inl m.2])) = decide (m ∈ ds) := by
  rw [Bool.eq_iff_iff, List.any_eq_true, decide_eq_true_eq]
  constructor
  · rintro ⟨d, hd, e⟩
    obtain ⟨x, hx, rfl⟩ := List.mem_map.mp hd
    have e := of_decide_eq_true e
    rw [keyT_mark] at e
    simp at e
    have : x = m := Prod.ext e.1 e.2
    rw [← this]
    exact hx
  · intro h
    exact ⟨markD m, List.mem_map.mpr ⟨m, h, rfl⟩, by rw [keyT_mark]; simp⟩
theorem sadd_run {st : Store} {ds : List (Str × Int)} {m : Str × Int} (h : ds.length + 1 < 64) : saddop (.ref st.length) (markD m) (st ++ [.sett (ds.map markD)]) = .ok .non (st ++ [.sett ((insM ds m).map markD)]) := by
  have e : (st ++ [MO.sett (ds.map markD)])[st.length]? = some (.sett (ds.map markD)) := by simp
  unfold saddop
  simp only [e, keyT_mark, List.length_map, if_pos h]
  rw [mark_any]
  by_cases q : m ∈ ds
  · simp [q, insM]
  · simp [q, insM]
theorem cutG_2 {α : Type} {x y z : α} : cutG [x, y, z] none (some 2) = [x, y] := by
  unfold cutG
  have h2 : HT.sIx ([x, y, z]).length ([x, y, z]).length (some 2) = 2 := by
    have := HT.sIx_nat ([x, y, z]).length ([x, y, z]).length 2
    rw [show ((2 : Nat) : Int) = 2 from rfl] at this
    rw [this]; simp
  rw [h2, HT.sIx_none]
  simp
theorem ok_send : PyData.strOk (Str.ofString "send") = true := by decide +kernel
theorem ok_take : PyData.strOk (Str.ofString "take") = true := by decide +kernel
def rowOf : D → List D
  | .tup ys => ys
  | _ => []
def marksAll (rows : List D) : List (Str × Int) := rows.flatMap fun r => marksOf (rowOf r)
def loBody : Ss := (.cons (.iff (.cmp .ne (.idx (.var 4) (.int 0)) (.str "step"))
          (.cons (.expr (.sadd (.var 1) (.slc (.var 4) .none (.some (.int 2)))))
          (.cons (.aug 2 .add (.int 1))
          .nil))
          .nil)
        .nil)
theorem lo_step {m : Nat} {st : Store} {ds : List (Str × Int)} {c : Nat} {a b x : Option D} {e : D} (he : isEventD e = true) (h : ds.length + (marksOf [e]).length ≤ 62) :
    evSs (callK L m) L.cs L.sub L.wf loBody [a, some (.ref st.length), some (.int c), b, some e] (st ++ [.sett (ds.map markD)]) = .nx [a, some (.ref st.length), some (.int ((c + (marksOf [e]).length : Nat) : Int)), b, some e] (st ++ [.sett (((marksOf [e]).foldl insM ds).map markD)]) := by
  rcases event_cases he with ⟨z, rfl, hm⟩ | ⟨k, i, z, rfl, hk, h1, h2, hm⟩
  · have : marksOf [D.tup [.str "step", z]] = [] := by simp [marksOf, hm]
    rw [this]
    simp [loBody, ne_str ok_step ok_step]
  · have em : marksOf [D.tup [.str k, .int i, z]] = [(k, i)] := by simp [marksOf, hm]
    rw [em] at h ⊢
    have hs : isSet (.ref st.length) (st ++ [.sett (ds.map markD)]) = true := by simp [isSet]
    have sr := sadd_run (st := st) (m := (k, i)) (show ds.length + 1 < 64 by simp at h; omega)
    have md : markD (k, i) = .tup [.str k, .int i] := rfl
    rw [md] at sr
    have kk : (k == Str.ofString "step") = false ∧ PyData.strOk k = true := by
      rcases hk with rfl | rfl
      · exact ⟨by decide +kernel, ok_send⟩
      · exact ⟨by decide +kernel, ok_take⟩
    simp [loBody, ne_str kk.2 ok_step, kk.1, hs, cutG_2, sr]
end Th

set_option linter.all false
set_option maxRecDepth 100000
set_option maxHeartbeats 1000000
/-! Letters once: the loops. -/
namespace Th
open PySem L2 Mi LL
theorem ins_le : ∀ {ms ds : List (Str × Int)}, (ms.foldl insM ds).length ≤ ds.length + ms.length
  | [], ds => by simp
  | m :: ms, ds => by
    have ih := ins_le (ms := ms) (ds := insM ds m)
    have : (insM ds m).length ≤ ds.length + 1 := by
      unfold insM
      split <;> simp
    simp only [List.foldl_cons, List.length_cons]
    omega
theorem marks_cons {y : D} {ys : List D} : marksOf (y :: ys) = marksOf [y] ++ marksOf ys := by
  unfold marksOf
  rw [List.filterMap_cons]
  cases h : markOf y <;> simp [List.filterMap_cons, h]
theorem forL_nx {step : D → Mi.Env → Store → Out} {x : D} {xs : List D} {env e : Mi.Env} {st s : Store} (h : step x env st = .nx e s) : forL step none (x :: xs) env st = forL step none xs e s := by simp [forL, gdOk, h]
theorem lo_row {m : Nat} {st : Store} {a b : Option D} : ∀ {ys : List D} {ds : List (Str × Int)} {c : Nat} {x : Option D}, (∀ e ∈ ys, isEventD e = true) → ds.length + (marksOf ys).length ≤ 62 →
    ∃ x', forL (bodyF (.name 4) (evSs (callK L m) L.cs L.sub L.wf loBody)) none ys [a, some (.ref st.length), some (.int c), b, x] (st ++ [.sett (ds.map markD)]) = .nx [a, some (.ref st.length), some (.int ((c + (marksOf ys).length : Nat) : Int)), b, x'] (st ++ [.sett (((marksOf ys).foldl insM ds).map markD)])
  | [], ds, c, x, _, _ => ⟨x, by simp [forL, marksOf]⟩
  | y :: ys, ds, c, x, he, hl => by
    rw [marks_cons, List.length_append] at hl
    have s1 := lo_step (m := m) (st := st) (c := c) (a := a) (b := b) (x := x) (he y List.mem_cons_self) (show ds.length + (marksOf [y]).length ≤ 62 by omega)
    have il := ins_le (ms := marksOf [y]) (ds := ds)
    obtain ⟨x', ih⟩ := lo_row (m := m) (st := st) (a := a) (b := b) (ys := ys) (ds := (marksOf [y]).foldl insM ds) (c := c + (marksOf [y]).length) (x := some y) (fun e h => he e (List.mem_cons_of_mem _ h)) (by omega)
    refine ⟨x', ?_⟩
    rw [marks_cons, List.length_append, List.foldl_append]
    have s2 : bodyF (.name 4) (evSs (callK L m) L.cs L.sub L.wf loBody) y [a, some (.ref st.length), some (.int c), b, x] (st ++ [.sett (ds.map markD)]) = .nx [a, some (.ref st.length), some (.int ((c + (marksOf [y]).length : Nat) : Int)), b, some y] (st ++ [.sett (((marksOf [y]).foldl insM ds).map markD)]) := s1
    rw [forL_nx s2, ih, Nat.add_assoc]
theorem lo_rows {m : Nat} {st : Store} {a : Option D} : ∀ {rows : List D} {ds : List (Str × Int)} {c : Nat} {b x : Option D}, (∀ r ∈ rows, isProcD r = true) → ds.length + (marksAll rows).length ≤ 62 →
    ∃ b' x', forL (bodyF (.name 3) (evSs (callK L m) L.cs L.sub L.wf (.cons (.for (.name 4) (.exp (.var 3)) loBody) .nil))) none rows [a, some (.ref st.length), some (.int c), b, x] (st ++ [.sett (ds.map markD)]) = .nx [a, some (.ref st.length), some (.int ((c + (marksAll rows).length : Nat) : Int)), b', x'] (st ++ [.sett (((marksAll rows).foldl insM ds).map markD)])
  | [], ds, c, b, x, _, _ => ⟨b, x, by simp [forL, marksAll]⟩
  | r :: rows, ds, c, b, x, he, hl => by
    have hr := he r List.mem_cons_self
    cases r with
    | tup ys =>
      simp only [isProcD, Bool.and_eq_true] at hr
      have hy := List.all_eq_true.mp hr.2
      have mc : marksAll (.tup ys :: rows) = marksOf ys ++ marksAll rows := by simp [marksAll, rowOf]
      rw [mc, List.length_append] at hl
      have il := ins_le (ms := marksOf ys) (ds := ds)
      obtain ⟨x1, s1⟩ := lo_row (m := m) (st := st) (a := a) (b := some (.tup ys)) (ys := ys) (ds := ds) (c := c) (x := x) hy (by omega)
      obtain ⟨b', x', ih⟩ := lo_rows (m := m) (st := st) (a := a) (rows := rows) (ds := (marksOf ys).foldl insM ds) (c := c + (marksOf ys).length) (b := some (.tup ys)) (x := x1) (fun e h => he e (List.mem_cons_of_mem _ h)) (by omega)
      refine ⟨b', x', ?_⟩
      rw [mc, List.length_append, List.foldl_append]
      have s2 : bodyF (.name 3) (evSs (callK L m) L.cs L.sub L.wf (.cons (.for (.name 4) (.exp (.var 3)) loBody) .nil)) (.tup ys) [a, some (.ref st.length), some (.int c), b, x] (st ++ [.sett (ds.map markD)]) = .nx [a, some (.ref st.length), some (.int ((c + (marksOf ys).length : Nat) : Int)), some (.tup ys), x1] (st ++ [.sett (((marksOf ys).foldl insM ds).map markD)]) := by
        simp [s1]
      rw [forL_nx s2, ih, Nat.add_assoc]
    | _ => cases hr
theorem letters_ok {n : Nat} {st : Store} (hn : 1 ≤ n) {rows : List D} (he : ∀ r ∈ rows, isProcD r = true) (hl : (marksAll rows).length ≤ 62) : callK L n "letters_once" [.tup rows] st = .ok (.bl (decide (marksAll rows).Nodup)) st := by
  obtain ⟨m, rfl, hm⟩ := pred_ hn
  rw [call_open fn_letters_once rfl]
  obtain ⟨b, x, s⟩ := lo_rows (m := m) (st := st) (a := some (.tup rows)) (rows := rows) (ds := []) (c := 0) (b := none) (x := none) he (by simpa using hl)
  have hd := ins_len (ms := marksAll rows) (ds := []) (by simp)
  simp only [List.length_nil, Nat.zero_add, List.nil_append] at hd
  have e0 : (([] : List (Str × Int)).map markD) = [] := rfl
  rw [e0] at s
  simp only [Nat.zero_add] at s
  have sl : slenop (.ref st.length) (st ++ [.sett (((marksAll rows).foldl insM []).map markD)]) = .ok (.int ((marksAll rows).foldl insM []).length) (st ++ [.sett (((marksAll rows).foldl insM []).map markD)]) := by
    simp [slenop]
  simp [fd_letters_once, startE]
  change gc st (Out.fin (Out.bind (forL (bodyF (.name 3) (evSs (callK L m) L.cs L.sub L.wf (.cons (.for (.name 4) (.exp (.var 3)) loBody) .nil))) none rows [some (.tup rows), some (.ref st.length), some (.int ((0 : Nat) : Int)), none, none] (st ++ [.sett []])) _)) = _
  rw [s]
  simp [sl]
  rw [← hd.2]
  congr
  omega
end Th

set_option linter.all false
set_option maxRecDepth 100000
set_option maxHeartbeats 1000000
/-! One row: its store, one event. -/
namespace Th
open PySem L2 Mi LL
def rowD (z : Nat × Nat) : D := .tup [.int z.1, .int z.2]
def sentD (l : Int) : D × D := (.int l, .bl true)
def natD (r : Nat) : D := .int r
/-- the store of one_row behind st: the row, the letters sent, how far each process has come -/
def OS (st : Store) (row : List (Nat × Nat)) (sent : List Int) (rs : List Nat) : Store := st ++ [.lst (row.map rowD), .dic false (sent.map sentD), .lst [.int 0], .lst (rs.map natD)]
section
variable {st : Store} {row : List (Nat × Nat)} {sent : List Int} {rs : List Nat}
theorem os_0 : (OS st row sent rs)[st.length]? = some (.lst (row.map rowD)) := by simp [OS]
theorem os_1 : (OS st row sent rs)[st.length + 1]? = some (.dic false (sent.map sentD)) := by
  unfold OS
  rw [List.getElem?_append_right (by omega)]
  simp
theorem os_3 : (OS st row sent rs)[st.length + 3]? = some (.lst (rs.map natD)) := by
  unfold OS
  rw [List.getElem?_append_right (by omega)]
  simp
theorem os_set0 {x : List (Nat × Nat)} : (OS st row sent rs).set st.length (.lst (x.map rowD)) = OS st x sent rs := by
  unfold OS
  rw [List.set_append_right _ _ (Nat.le_refl _)]
  simp
theorem os_set1 {x : List Int} : (OS st row sent rs).set (st.length + 1) (.dic false (x.map sentD)) = OS st row x rs := by
  unfold OS
  rw [List.set_append_right _ _ (by omega)]
  simp
theorem os_set3 {x : List Nat} : (OS st row sent rs).set (st.length + 3) (.lst (x.map natD)) = OS st row sent x := by
  unfold OS
  rw [List.set_append_right _ _ (by omega)]
  simp
def insL (sent : List Int) (l : Int) : List Int := if l ∈ sent then sent else sent ++ [l]
theorem key_sent {l : Int} : keyOf false (.int l) = some [.inl l] := rfl
theorem sent_ask {l : Int} : dAsk (OS st row sent rs) (.ref (st.length + 1)) (.int l) = some (if l ∈ sent then some (.bl true) else none) := by
  have h : ∀ sent : List Int, dVal false (sent.map sentD) [.inl l] = if l ∈ sent then some (.bl true) else none := by
    intro sent
    induction sent with
    | nil => rfl
    | cons a r ih =>
      unfold dVal at ih ⊢
      by_cases e : a = l
      · subst e
        simp [sentD, key_sent]
      · have e' : ¬ l = a := fun z => e z.symm
        simp only [List.map_cons, List.find?_cons, sentD, key_sent, Option.some.injEq, List.cons.injEq, Sum.inl.injEq, and_true, e, decide_false, List.mem_cons, e', false_or]
        exact ih
  unfold dAsk
  simp only [os_1, key_sent, Option.map_some, h]
theorem sent_put {l : Int} (hl : sent.length < 1000) : dputop false (.ref (st.length + 1)) (.int l) (.bl true) (OS st row sent rs) = some (OS st row (insL sent l) rs) := by
  have an : ∀ sent : List Int, ((sent.map sentD).any fun p => decide (keyOf false p.1 = some [.inl l])) = decide (l ∈ sent) := by
    intro sent
    induction sent with
    | nil => rfl
    | cons a r ih =>
      simp only [List.map_cons, List.any_cons, ih, sentD, key_sent, Option.some.injEq, List.cons.injEq, Sum.inl.injEq, and_true, List.mem_cons, Bool.decide_or]
      congr 1
      exact decide_eq_decide.mpr ⟨fun h => h.symm, fun h => h.symm⟩
  have mp : ∀ sent : List Int, (sent.map sentD).map (fun p => if keyOf false p.1 = some [.inl l] then (p.1, D.bl true) else p) = sent.map sentD := by
    intro sent
    rw [List.map_map]
    refine List.map_congr_left fun a _ => ?_
    simp only [Function.comp, sentD]
    exact ite_self _
  have lt : sent.length < LINE := by simp only [LINE]; omega
  unfold dputop
  simp only [os_1, key_sent, List.length_map, if_true, if_pos lt]
  congr 1
  unfold dPut
  rw [an, mp]
  by_cases q : l ∈ sent
  · simp [q, insL, os_set1]
  · have := os_set1 (st := st) (row := row) (sent := sent) (rs := rs) (x := sent ++ [l])
    simp [q, insL] at this ⊢
    exact this
end
end Th

set_option linter.all false
set_option maxRecDepth 100000
set_option maxHeartbeats 1000000
/-! One row: one event. -/
namespace Th
open PySem L2 Mi LL
def orBody : Ss := (.cons (.iff (.and (.cons (.cmp .eq (.idx (.var 8) (.int 0)) (.str "take")) (.cons (.din true (.idx (.var 8) (.int 1)) (.var 2)) .nil)))
            (.cons .brk
            .nil)
            .nil)
          (.cons (.iff (.cmp .eq (.idx (.var 8) (.int 0)) (.str "send"))
            (.cons (.dput (.var 2) (.idx (.var 8) (.int 1)) (.bl true))
            .nil)
            .nil)
          (.cons (.augIx (.var 3) (.var 5) .add (.int 1))
          (.cons (.expr (.mth .append (.var 1) (.cons (.tup (.cons (.var 5) (.cons (.idx (.var 3) (.var 5)) .nil))) .nil)))
          .nil))))
/-- an event waits for its letter -/
def waits (sent : List Int) (e : D) : Bool := match markOf e with
  | some (k, l) => (k == Str.ofString "take") && !decide (l ∈ sent)
  | none => false
/-- what it sends -/
def sends (sent : List Int) (e : D) : List Int := match markOf e with
  | some (k, l) => if k == Str.ofString "send" then insL sent l else sent
  | none => sent
section
variable {st : Store} {row : List (Nat × Nat)} {sent : List Int} {rs : List Nat}
theorem or_env {a ev rest c : Option D} {p : Nat} {e : D} : True := trivial
theorem rs_at {p r : Nat} (h : rs[p]? = some r) : atI (rs.map natD) (p : Int) = some (.int r) := by
  rw [atI_nat', List.getElem?_map, h]; rfl
theorem rs_int {p r : Nat} (h : rs[p]? = some r) : ixInt (.ref (st.length + 3)) (.int p) (OS st row sent rs) = some (r : Int) := by
  have h0 : (0 : Int) ≤ (p : Int) := by omega
  unfold ixInt
  simp only [os_3, if_pos h0]
  simp [h, natD]
theorem rs_put {p r : Nat} (h : rs[p]? = some r) (v : Nat) : setIxop (.ref (st.length + 3)) (.int p) (.int v) (OS st row sent rs) = some (OS st row sent (rs.set p v)) := by
  obtain ⟨hp, _⟩ := List.getElem?_eq_some_iff.mp h
  have e : ixN (rs.map natD).length (p : Int) = some p := by
    unfold ixN
    simp
    omega
  unfold setIxop
  simp only [os_3, e]
  have : (rs.map natD).set p (.int v) = (rs.set p v).map natD := by rw [List.map_set]; rfl
  rw [this, os_set3]
theorem or_tail {m : Nat} {a c ev rest : Option D} {p r : Nat} {e : D} (h : rs[p]? = some r) (hr : row.length < 1000) :
    evSs (callK L m) L.cs L.sub L.wf (.cons (.augIx (.var 3) (.var 5) .add (.int 1))
          (.cons (.expr (.mth .append (.var 1) (.cons (.tup (.cons (.var 5) (.cons (.idx (.var 3) (.var 5)) .nil))) .nil)))
          .nil)) [a, some (.ref st.length), some (.ref (st.length + 1)), some (.ref (st.length + 3)), c, some (.int p), ev, rest, some e] (OS st row sent rs) = .nx [a, some (.ref st.length), some (.ref (st.length + 1)), some (.ref (st.length + 3)), c, some (.int p), ev, rest, some e] (OS st (row ++ [(p, r + 1)]) sent (rs.set p (r + 1))) := by
  obtain ⟨hp, _⟩ := List.getElem?_eq_some_iff.mp h
  have h2 : (rs.set p (r + 1))[p]? = some (r + 1) := by simp [hp]
  have i := rs_int (st := st) (row := row) (sent := sent) h
  have q := rs_put (st := st) (row := row) (sent := sent) h (r + 1)
  have q' : setIxop (.ref (st.length + 3)) (.int p) (.int ((r : Int) + 1)) (OS st row sent rs) = some (OS st row sent (rs.set p (r + 1))) := q
  have t := rs_at h2
  have o3 := os_3 (st := st) (row := row) (sent := sent) (rs := rs.set p (r + 1))
  have o0 := os_0 (st := st) (row := row) (sent := sent) (rs := rs.set p (r + 1))
  have ap : mthop .append (.ref st.length) [.tup [.int p, .int ((r + 1 : Nat) : Int)]] (OS st row sent (rs.set p (r + 1))) = .ok .non (OS st (row ++ [(p, r + 1)]) sent (rs.set p (r + 1))) := by
    have hl : (row.map rowD).length < LINE := by simp [LINE]; omega
    rw [append_run o0 hl]
    have : row.map rowD ++ [.tup [.int p, .int ((r + 1 : Nat) : Int)]] = (row ++ [(p, r + 1)]).map rowD := by simp [rowD]
    rw [this, os_set0]
  have ra := recv_app o0
  simp at ap t
  simp [augO, augInt, i, q', o3, t, ra, ap, LINE]
theorem or_step {m : Nat} {a c ev rest : Option D} {p r : Nat} {e : D} (he : isEventD e = true) (h : rs[p]? = some r) (hs : sent.length < 1000) (hr : row.length < 1000) :
    evSs (callK L m) L.cs L.sub L.wf orBody [a, some (.ref st.length), some (.ref (st.length + 1)), some (.ref (st.length + 3)), c, some (.int p), ev, rest, some e] (OS st row sent rs) =
      if waits sent e = true then .bk [a, some (.ref st.length), some (.ref (st.length + 1)), some (.ref (st.length + 3)), c, some (.int p), ev, rest, some e] (OS st row sent rs)
      else .nx [a, some (.ref st.length), some (.ref (st.length + 1)), some (.ref (st.length + 3)), c, some (.int p), ev, rest, some e] (OS st (row ++ [(p, r + 1)]) (sends sent e) (rs.set p (r + 1))) := by
  rcases event_cases he with ⟨z, rfl, hm⟩ | ⟨k, i, z, rfl, hk, h1, h2, hm⟩
  · have t := or_tail (m := m) (st := st) (row := row) (sent := sent) (a := a) (c := c) (ev := ev) (rest := rest) (e := .tup [.str "step", z]) h hr
    have w : waits sent (.tup [.str "step", z]) = false := by simp [waits, hm]
    have s : sends sent (.tup [.str "step", z]) = sent := by simp [sends, hm]
    rw [w, s]
    simp [orBody, eq_str ok_step ok_take, eq_str ok_step ok_send, t]
  · rcases hk with rfl | rfl
    · have t := or_tail (m := m) (st := st) (row := row) (sent := insL sent i) (a := a) (c := c) (ev := ev) (rest := rest) (e := .tup [.str "send", .int i, z]) h hr
      have w : waits sent (.tup [.str "send", .int i, z]) = false := by simp [waits, hm]
      have s : sends sent (.tup [.str "send", .int i, z]) = insL sent i := by simp [sends, hm]
      have dp := sent_put (st := st) (row := row) (rs := rs) (l := i) hs
      rw [w, s]
      simp [orBody, eq_str ok_send ok_take, eq_str ok_send ok_send, dp, t]
    · have t := or_tail (m := m) (st := st) (row := row) (sent := sent) (a := a) (c := c) (ev := ev) (rest := rest) (e := .tup [.str "take", .int i, z]) h hr
      have s : sends sent (.tup [.str "take", .int i, z]) = sent := by simp [sends, hm]
      have da : dinop true (.ref (st.length + 1)) (.int i) (OS st row sent rs) = .ok (.bl (!decide (i ∈ sent))) (OS st row sent rs) := by
        unfold dinop
        rw [sent_ask]
        by_cases q : i ∈ sent <;> simp [q]
      have w : waits sent (.tup [.str "take", .int i, z]) = !decide (i ∈ sent) := by simp [waits, hm]
      rw [w, s]
      by_cases q : i ∈ sent
      · simp [orBody, eq_str ok_take ok_take, eq_str ok_take ok_send, da, q, t]
      · simp [orBody, eq_str ok_take ok_take, eq_str ok_take ok_send, da, q]
end
end Th

set_option linter.all false
set_option maxRecDepth 100000
set_option maxHeartbeats 1000000
/-! One row: a process's rest, all processes once. -/
namespace Th
open PySem L2 Mi LL
theorem forL_bk {step : D → Mi.Env → Store → Out} {x : D} {xs : List D} {env e : Mi.Env} {st s : Store} (h : step x env st = .bk e s) : forL step none (x :: xs) env st = .nx e s := by simp [forL, gdOk, h]
theorem forL_nil {step : D → Mi.Env → Store → Out} {env : Mi.Env} {st : Store} : forL step none [] env st = .nx env st := by simp [forL, gdOk]
theorem set_self {α : Type} {xs : List α} {i : Nat} {x : α} (h : xs[i]? = some x) : xs.set i x = xs := by
  refine List.ext_getElem? fun j => ?_
  by_cases e : i = j
  · subst e
    obtain ⟨hi, _⟩ := List.getElem?_eq_some_iff.mp h
    rw [List.getElem?_set_self hi, h]
  · rw [List.getElem?_set_ne e]
/-- a process goes on from r: the row, the letters sent, how far -/
def runRow (p : Nat) : List D → List (Nat × Nat) → List Int → Nat → List (Nat × Nat) × List Int × Nat
  | [], row, sent, r => (row, sent, r)
  | e :: es, row, sent, r => if waits sent e = true then (row, sent, r) else runRow p es (row ++ [(p, r + 1)]) (sends sent e) (r + 1)
theorem sends_len {sent : List Int} {e : D} : (sends sent e).length ≤ sent.length + 1 := by
  unfold sends
  split
  · split
    · unfold insL
      split <;> simp
    · omega
  · omega
section
variable {st : Store}
theorem or_row {m p : Nat} {a c ev rest : Option D} : ∀ {es : List D} {row : List (Nat × Nat)} {sent : List Int} {rs : List Nat} {r : Nat} {x : Option D}, (∀ e ∈ es, isEventD e = true) → rs[p]? = some r → sent.length + es.length < 1000 → row.length + es.length < 1000 →
    ∃ x', forL (bodyF (.name 8) (evSs (callK L m) L.cs L.sub L.wf orBody)) none es [a, some (.ref st.length), some (.ref (st.length + 1)), some (.ref (st.length + 3)), c, some (.int p), ev, rest, x] (OS st row sent rs) =
      .nx [a, some (.ref st.length), some (.ref (st.length + 1)), some (.ref (st.length + 3)), c, some (.int p), ev, rest, x'] (OS st (runRow p es row sent r).1 (runRow p es row sent r).2.1 (rs.set p (runRow p es row sent r).2.2))
  | [], row, sent, rs, r, x, _, h, _, _ => ⟨x, by rw [forL_nil]; simp only [runRow, set_self h]⟩
  | e :: es, row, sent, rs, r, x, he, h, hs, hr => by
    simp only [List.length_cons] at hs hr
    have s1 := or_step (m := m) (st := st) (a := a) (c := c) (ev := ev) (rest := rest) (he e List.mem_cons_self) h (sent := sent) (row := row) (by omega) (by omega)
    obtain ⟨hp, _⟩ := List.getElem?_eq_some_iff.mp h
    by_cases w : waits sent e = true
    · refine ⟨some e, ?_⟩
      rw [if_pos w] at s1
      have s2 : bodyF (.name 8) (evSs (callK L m) L.cs L.sub L.wf orBody) e [a, some (.ref st.length), some (.ref (st.length + 1)), some (.ref (st.length + 3)), c, some (.int p), ev, rest, x] (OS st row sent rs) = .bk [a, some (.ref st.length), some (.ref (st.length + 1)), some (.ref (st.length + 3)), c, some (.int p), ev, rest, some e] (OS st row sent rs) := s1
      rw [forL_bk s2]
      simp only [runRow, if_pos w, set_self h]
    · rw [if_neg w] at s1
      have s2 : bodyF (.name 8) (evSs (callK L m) L.cs L.sub L.wf orBody) e [a, some (.ref st.length), some (.ref (st.length + 1)), some (.ref (st.length + 3)), c, some (.int p), ev, rest, x] (OS st row sent rs) = .nx [a, some (.ref st.length), some (.ref (st.length + 1)), some (.ref (st.length + 3)), c, some (.int p), ev, rest, some e] (OS st (row ++ [(p, r + 1)]) (sends sent e) (rs.set p (r + 1))) := s1
      have sl := sends_len (sent := sent) (e := e)
      obtain ⟨x', ih⟩ := or_row (m := m) (p := p) (a := a) (c := c) (ev := ev) (rest := rest) (es := es) (row := row ++ [(p, r + 1)]) (sent := sends sent e) (rs := rs.set p (r + 1)) (r := r + 1) (x := some e) (fun e h => he e (List.mem_cons_of_mem _ h)) (by simp [hp]) (by omega) (by simp; omega)
      refine ⟨x', ?_⟩
      rw [forL_nx s2, ih]
      simp only [runRow, if_neg w, List.set_set]
end
end Th

set_option linter.all false
set_option maxRecDepth 100000
set_option maxHeartbeats 1000000
/-! One row: all processes once. -/
namespace Th
open PySem L2 Mi LL
theorem runRow_len {p : Nat} : ∀ {es : List D} {row : List (Nat × Nat)} {sent : List Int} {r : Nat}, r ≤ (runRow p es row sent r).2.2 ∧ (runRow p es row sent r).2.2 ≤ r + es.length ∧ (runRow p es row sent r).1.length + r = row.length + (runRow p es row sent r).2.2 ∧
    (runRow p es row sent r).2.1.length + r ≤ sent.length + (runRow p es row sent r).2.2
  | [], row, sent, r => by simp [runRow]
  | e :: es, row, sent, r => by
    unfold runRow
    by_cases w : waits sent e = true
    · simp only [if_pos w]
      exact ⟨Nat.le_refl _, Nat.le_add_right _ _, trivial, Nat.le_refl _⟩
    · simp only [if_neg w, List.length_cons]
      have ih := runRow_len (p := p) (es := es) (row := row ++ [(p, r + 1)]) (sent := sends sent e) (r := r + 1)
      have sl := sends_len (sent := sent) (e := e)
      simp only [List.length_append, List.length_singleton] at ih
      omega
theorem sum_set {v : Nat} : ∀ {rs : List Nat} {p r : Nat}, rs[p]? = some r → (rs.set p v).sum + r = rs.sum + v
  | [], p, r, h => by simp at h
  | a :: rs, 0, r, h => by
    simp at h
    subst h
    simp
    omega
  | a :: rs, p + 1, r, h => by
    have ih := sum_set (v := v) (rs := rs) (p := p) (r := r) (by simpa using h)
    simp
    omega
abbrev One := List (Nat × Nat) × List Int × List Nat
/-- from process p on -/
def sweep : Nat → List D → One → One
  | _, [], z => z
  | p, d :: ds, z => sweep (p + 1) ds ((runRow p ((rowOf d).drop (z.2.2.getD p 0)) z.1 z.2.1 (z.2.2.getD p 0)).1, (runRow p ((rowOf d).drop (z.2.2.getD p 0)) z.1 z.2.1 (z.2.2.getD p 0)).2.1,
      z.2.2.set p (runRow p ((rowOf d).drop (z.2.2.getD p 0)) z.1 z.2.1 (z.2.2.getD p 0)).2.2)
/-- nothing goes beyond a row -/
structure InR (rows : List D) (z : One) : Prop where
  len : z.2.2.length = rows.length
  le : ∀ (p r : Nat) (d : D), z.2.2[p]? = some r → rows[p]? = some d → r ≤ (rowOf d).length
  row : z.1.length = z.2.2.sum
  sent : z.2.1.length ≤ z.1.length
def total (rows : List D) : Nat := (rows.map fun d => (rowOf d).length).sum
theorem sum_le : ∀ {rows : List D} {rs : List Nat}, rs.length = rows.length → (∀ (p r : Nat) (d : D), rs[p]? = some r → rows[p]? = some d → r ≤ (rowOf d).length) → rs.sum ≤ total rows
  | [], [], _, _ => by simp [total]
  | d :: rows, r :: rs, hl, h => by
    have ih := sum_le (rows := rows) (rs := rs) (by simpa using hl) (fun p a b h1 h2 => h (p + 1) a b (by simpa using h1) (by simpa using h2))
    have h0 := h 0 r d rfl rfl
    simp [total] at ih ⊢
    omega
  | [], _ :: _, hl, _ => by simp at hl
  | _ :: _, [], hl, _ => by simp at hl
theorem InR.bound {rows : List D} {z : One} (i : InR rows z) : z.1.length ≤ total rows := by
  rw [i.row]
  exact sum_le i.len i.le
/-- one process's turn -/
theorem InR.turn {rows : List D} {z : One} (i : InR rows z) {p : Nat} {d : D} (hd : rows[p]? = some d) :
    InR rows ((runRow p ((rowOf d).drop (z.2.2.getD p 0)) z.1 z.2.1 (z.2.2.getD p 0)).1, (runRow p ((rowOf d).drop (z.2.2.getD p 0)) z.1 z.2.1 (z.2.2.getD p 0)).2.1, z.2.2.set p (runRow p ((rowOf d).drop (z.2.2.getD p 0)) z.1 z.2.1 (z.2.2.getD p 0)).2.2) := by
  obtain ⟨hp, _⟩ := List.getElem?_eq_some_iff.mp hd
  have hp' : p < z.2.2.length := by rw [i.len]; exact hp
  have g : z.2.2[p]? = some z.2.2[p] := List.getElem?_eq_getElem hp'
  have gd : z.2.2.getD p 0 = z.2.2[p] := by simp [List.getD, g]
  rw [gd]
  have hle := i.le p _ d g hd
  have rl := runRow_len (p := p) (es := (rowOf d).drop z.2.2[p]) (row := z.1) (sent := z.2.1) (r := z.2.2[p])
  rw [List.length_drop] at rl
  have ss := sum_set (v := (runRow p ((rowOf d).drop z.2.2[p]) z.1 z.2.1 z.2.2[p]).2.2) g
  refine ⟨by simp [i.len], fun q r e h1 h2 => ?_, ?_, ?_⟩
  · by_cases c : p = q
    · subst c
      simp only [List.getElem?_set_self hp'] at h1
      cases h1
      rw [hd] at h2
      cases h2
      omega
    · simp only [List.getElem?_set_ne c] at h1
      exact i.le q r e h1 h2
  · have := i.row
    simp only
    omega
  · have := i.sent
    simp only
    omega
end Th

set_option linter.all false
set_option maxRecDepth 100000
set_option maxHeartbeats 1000000
/-! One row: the loop over the processes. -/
namespace Th
open PySem L2 Mi LL
def swBody : Ss := (.cons (.set 7 (.slc (.var 6) (.some (.idx (.var 3) (.var 5))) .none))
        (.cons (.for (.name 8) (.exp (.var 7)) orBody)
        .nil))
theorem cutG_drop {α : Type} {xs : List α} {r : Nat} (h : r ≤ xs.length) : cutG xs (some (r : Int)) none = xs.drop r := by
  unfold cutG
  have e := HT.sIx_nat xs.length 0 r
  rw [e, HT.sIx_none, Nat.min_eq_left h]
  exact List.take_of_length_le (by rw [List.length_drop]; omega)
@[simp] theorem bodyF_two {i j : Nat} {f : Mi.Env → Store → Out} {x y : D} {env : Mi.Env} {st : Store} : bodyF (.tup [i, j]) f (.tup [x, y]) env st = f ((env.set i (some x)).set j (some y)) st := rfl
section
variable {st : Store}
theorem proc_ev {d : D} (h : isProcD d = true) : ∃ ys, d = .tup ys ∧ ys.length ≤ 30 ∧ ∀ e ∈ ys, isEventD e = true := by
  cases d with
  | tup ys =>
    simp only [isProcD, Bool.and_eq_true, decide_eq_true_eq] at h
    exact ⟨ys, rfl, h.1, List.all_eq_true.mp h.2⟩
  | _ => cases h
theorem or_turn {m p : Nat} {a c b x : Option D} {d : D} {rows : List D} {z : One} (hd : isProcD d = true) (i : InR rows z) (hp : rows[p]? = some d) (ht : total rows ≤ 500) :
    ∃ b' x', evSs (callK L m) L.cs L.sub L.wf swBody [a, some (.ref st.length), some (.ref (st.length + 1)), some (.ref (st.length + 3)), c, some (.int p), some d, b, x] (OS st z.1 z.2.1 z.2.2) =
      .nx [a, some (.ref st.length), some (.ref (st.length + 1)), some (.ref (st.length + 3)), c, some (.int p), some d, b', x'] (OS st (runRow p ((rowOf d).drop (z.2.2.getD p 0)) z.1 z.2.1 (z.2.2.getD p 0)).1 (runRow p ((rowOf d).drop (z.2.2.getD p 0)) z.1 z.2.1 (z.2.2.getD p 0)).2.1
        (z.2.2.set p (runRow p ((rowOf d).drop (z.2.2.getD p 0)) z.1 z.2.1 (z.2.2.getD p 0)).2.2)) := by
  obtain ⟨ys, rfl, hl, he⟩ := proc_ev hd
  obtain ⟨hp1, _⟩ := List.getElem?_eq_some_iff.mp hp
  have hp' : p < z.2.2.length := by rw [i.len]; exact hp1
  have g : z.2.2[p]? = some z.2.2[p] := List.getElem?_eq_getElem hp'
  have gd : z.2.2.getD p 0 = z.2.2[p] := by simp [List.getD, g]
  rw [gd]
  have hle : z.2.2[p] ≤ ys.length := i.le p _ _ g hp
  have bd := i.bound
  have sn := i.sent
  have cd : (ys.drop z.2.2[p]).length ≤ 30 := by rw [List.length_drop]; omega
  obtain ⟨x', lp⟩ := or_row (m := m) (st := st) (p := p) (a := a) (c := c) (ev := some (.tup ys)) (rest := some (.tup (ys.drop z.2.2[p]))) (es := ys.drop z.2.2[p]) (row := z.1) (sent := z.2.1) (rs := z.2.2) (r := z.2.2[p]) (x := x)
    (fun e h => he e (List.mem_of_mem_drop h)) g (by omega) (by omega)
  refine ⟨some (.tup (ys.drop z.2.2[p])), x', ?_⟩
  have o3 := os_3 (st := st) (row := z.1) (sent := z.2.1) (rs := z.2.2)
  have t := rs_at g
  have cg := cutG_drop hle
  show evSs (callK L m) L.cs L.sub L.wf swBody _ _ = _
  simp only [rowOf]
  simp [swBody, o3, t, cg, lp]
theorem or_sweep {m : Nat} {a c : Option D} {all : List D} (ht : total all ≤ 500) (ha : ∀ d ∈ all, isProcD d = true) : ∀ {ds : List D} {p : Nat} {z : One} {u v b x : Option D}, all.drop p = ds → InR all z →
    (∃ u' v' b' x', forL (bodyF (.tup [5, 6]) (evSs (callK L m) L.cs L.sub L.wf swBody)) none (enumD p ds) [a, some (.ref st.length), some (.ref (st.length + 1)), some (.ref (st.length + 3)), c, u, v, b, x] (OS st z.1 z.2.1 z.2.2) =
      .nx [a, some (.ref st.length), some (.ref (st.length + 1)), some (.ref (st.length + 3)), c, u', v', b', x'] (OS st (sweep p ds z).1 (sweep p ds z).2.1 (sweep p ds z).2.2)) ∧ InR all (sweep p ds z)
  | [], p, z, u, v, b, x, _, i => ⟨⟨u, v, b, x, by rw [enumD, forL_nil]; rfl⟩, i⟩
  | d :: ds, p, z, u, v, b, x, hd, i => by
    have hp : all[p]? = some d := by
      have := congrArg (fun l => l[0]?) hd
      simpa using this
    have hd2 : all.drop (p + 1) = ds := by
      have := congrArg (List.drop 1) hd
      simpa [List.drop_drop, Nat.add_comm] using this
    obtain ⟨b1, x1, t⟩ := or_turn (m := m) (st := st) (a := a) (c := c) (b := b) (x := x) (ha d (List.mem_of_getElem? hp)) i hp ht
    obtain ⟨⟨u', v', b', x', ih⟩, i'⟩ := or_sweep (m := m) (a := a) (c := c) ht ha (ds := ds) (p := p + 1) (u := some (.int p)) (v := some d) (b := b1) (x := x1) hd2 (i.turn hp)
    refine ⟨⟨u', v', b', x', ?_⟩, i'⟩
    have t2 : bodyF (.tup [5, 6]) (evSs (callK L m) L.cs L.sub L.wf swBody) (.tup [.int p, d]) [a, some (.ref st.length), some (.ref (st.length + 1)), some (.ref (st.length + 3)), c, u, v, b, x] (OS st z.1 z.2.1 z.2.2) = _ := t
    rw [enumD, forL_nx t2]
    exact ih
end
end Th

set_option linter.all false
set_option maxRecDepth 100000
set_option maxHeartbeats 1000000
/-! One row: until nothing comes. -/
namespace Th
open PySem L2 Mi LL
noncomputable def wC (C : Oracle) (cs : Str → Option D) (c : E) : Mi.Env → Store → Res := fun env st => match evE C cs c env st with
  | .ok d st => (match truth st d with
    | some t => .ok (.bl t) st
    | none => .bad)
  | r => r
theorem evS_whl {C : Oracle} {cs : Str → Option D} {sub : Tab} {wf : Nat} {env : Mi.Env} {st : Store} (c : E) (b : Ss) : evS C cs sub wf (.whl c b) env st = whlL (wC C cs c) (evSs C cs sub wf b) wf env st := rfl
theorem whl_t {c : Mi.Env → Store → Res} {b : Mi.Env → Store → Out} {k : Nat} {env e : Mi.Env} {st s s' : Store} (h : c env st = .ok (.bl true) s) (h2 : b env s = .nx e s') : whlL c b (k + 1) env st = whlL c b k e s' := by simp [whlL, h, h2]
theorem whl_f {c : Mi.Env → Store → Res} {b : Mi.Env → Store → Out} {k : Nat} {env : Mi.Env} {st s : Store} (h : c env st = .ok (.bl false) s) : whlL c b (k + 1) env st = .nx env s := by simp [whlL, h]
/-- sweeps, until one adds nothing -/
def runs (rows : List D) : Nat → One → One
  | 0, z => z
  | k + 1, z => if z.1.length < (sweep 0 rows z).1.length then runs rows k (sweep 0 rows z) else sweep 0 rows z
def whBody : Ss := (.cons (.set 4 (.bi .len (.cons (.var 1) .nil)))
      (.cons (.for (.tup [5, 6]) (.enm (.var 0) 0) swBody)
      .nil))
def whCond : E := (.cmp .lt (.var 4) (.bi .len (.cons (.var 1) .nil)))
section
variable {st : Store}
theorem wh_cond {m : Nat} {a u v b x : Option D} {k : Int} {z : One} : wC (callK L m) L.cs whCond [a, some (.ref st.length), some (.ref (st.length + 1)), some (.ref (st.length + 3)), some (.int k), u, v, b, x] (OS st z.1 z.2.1 z.2.2) = .ok (.bl (decide (k < z.1.length))) (OS st z.1 z.2.1 z.2.2) := by
  have o := os_0 (st := st) (row := z.1) (sent := z.2.1) (rs := z.2.2)
  simp [wC, whCond, o]
theorem wh_body {m : Nat} {rows : List D} {u v b x : Option D} {k : Int} {z : One} (ht : total rows ≤ 500) (ha : ∀ d ∈ rows, isProcD d = true) (i : InR rows z) :
    ∃ u' v' b' x', evSs (callK L m) L.cs L.sub L.wf whBody [some (.tup rows), some (.ref st.length), some (.ref (st.length + 1)), some (.ref (st.length + 3)), some (.int k), u, v, b, x] (OS st z.1 z.2.1 z.2.2) =
      .nx [some (.tup rows), some (.ref st.length), some (.ref (st.length + 1)), some (.ref (st.length + 3)), some (.int z.1.length), u', v', b', x'] (OS st (sweep 0 rows z).1 (sweep 0 rows z).2.1 (sweep 0 rows z).2.2) := by
  obtain ⟨⟨u', v', b', x', h⟩, _⟩ := or_sweep (m := m) (st := st) (a := some (.tup rows)) (c := some (.int z.1.length)) ht ha (ds := rows) (p := 0) (u := u) (v := v) (b := b) (x := x) rfl i
  refine ⟨u', v', b', x', ?_⟩
  have o := os_0 (st := st) (row := z.1) (sent := z.2.1) (rs := z.2.2)
  have h' : forL (bodyF (.tup [5, 6]) (evSs (callK L m) L.cs L.sub L.wf swBody)) none (enumD 0 rows) [some (.tup rows), some (.ref st.length), some (.ref (st.length + 1)), some (.ref (st.length + 3)), some (.int z.1.length), u, v, b, x] (OS st z.1 z.2.1 z.2.2) = _ := h
  simp [whBody, o, h']
theorem sweep_in {rows : List D} (ht : total rows ≤ 500) (ha : ∀ d ∈ rows, isProcD d = true) {z : One} (i : InR rows z) : InR rows (sweep 0 rows z) :=
  (or_sweep (m := 0) (st := []) (a := none) (c := none) ht ha (ds := rows) (p := 0) (u := none) (v := none) (b := none) (x := none) rfl i).2
theorem wh_run {m : Nat} {rows : List D} (ht : total rows ≤ 500) (ha : ∀ d ∈ rows, isProcD d = true) : ∀ {k : Nat} {z : One} {u v b x : Option D} {e : Int} {f : Nat}, InR rows z → e < z.1.length → total rows - z.1.length < k → k < f →
    (∃ e' u' v' b' x', whlL (wC (callK L m) L.cs whCond) (evSs (callK L m) L.cs L.sub L.wf whBody) f [some (.tup rows), some (.ref st.length), some (.ref (st.length + 1)), some (.ref (st.length + 3)), some (.int e), u, v, b, x] (OS st z.1 z.2.1 z.2.2) =
      .nx [some (.tup rows), some (.ref st.length), some (.ref (st.length + 1)), some (.ref (st.length + 3)), e', u', v', b', x'] (OS st (runs rows k z).1 (runs rows k z).2.1 (runs rows k z).2.2)) ∧ InR rows (runs rows k z)
  | 0, z, u, v, b, x, e, f, i, h, hk, hf => by omega
  | k + 1, z, u, v, b, x, e, f, i, h, hk, hf => by
    obtain ⟨f, rfl⟩ : ∃ g, f = g + 1 := ⟨f - 1, by omega⟩
    have c := wh_cond (m := m) (st := st) (a := some (.tup rows)) (u := u) (v := v) (b := b) (x := x) (k := e) (z := z)
    rw [decide_eq_true h] at c
    obtain ⟨u1, v1, b1, x1, hb⟩ := wh_body (m := m) (st := st) (u := u) (v := v) (b := b) (x := x) (k := e) ht ha i
    rw [whl_t c hb]
    have i2 := sweep_in ht ha i
    have bd := i2.bound
    unfold runs
    by_cases q : z.1.length < (sweep 0 rows z).1.length
    · rw [if_pos q]
      exact wh_run ht ha (k := k) (z := sweep 0 rows z) i2 (by omega) (by omega) (by omega)
    · rw [if_neg q]
      obtain ⟨f, rfl⟩ : ∃ g, f = g + 1 := ⟨f - 1, by omega⟩
      have c2 := wh_cond (m := m) (st := st) (a := some (.tup rows)) (u := u1) (v := v1) (b := b1) (x := x1) (k := z.1.length) (z := sweep 0 rows z)
      rw [decide_eq_false (by omega)] at c2
      rw [whl_f c2]
      exact ⟨⟨_, u1, v1, b1, x1, rfl⟩, i2⟩
end
end Th

set_option linter.all false
set_option maxRecDepth 100000
set_option maxHeartbeats 1000000
/-! One row: the def. -/
namespace Th
open PySem L2 Mi LL
def z0 (rows : List D) : One := ([], [], List.replicate rows.length 0)
theorem z0_in {rows : List D} : InR rows (z0 rows) := by
  refine ⟨by simp [z0], fun p r d h _ => ?_, by simp [z0], by simp [z0]⟩
  simp only [z0, List.getElem?_replicate] at h
  split at h <;> cases h
  exact Nat.zero_le _
def oneRow (rows : List D) : One := runs rows 501 (z0 rows)
section
variable {st : Store}
theorem one_row_ok {n : Nat} (hn : 1 ≤ n) {rows : List D} (hr : rows.length ≤ 6) (ha : ∀ d ∈ rows, isProcD d = true) (ht : total rows ≤ 500) :
    callK L n "one_row" [.tup rows] st = .ok (.ref st.length) (st ++ [.lst ((oneRow rows).1.map rowD)]) := by
  obtain ⟨m, rfl, hm⟩ := pred_ hn
  rw [call_open fn_one_row rfl]
  obtain ⟨⟨e', u', v', b', x', h⟩, _⟩ := wh_run (m := m) (st := st) (rows := rows) ht ha (k := 501) (z := z0 rows) (u := none) (v := none) (b := none) (x := none) (e := -1) (f := 4000) z0_in (by simp [z0]) (by omega) (by omega)
  have rp : (List.replicate rows.length [D.int 0]).flatten = (List.replicate rows.length 0).map natD := by
    rw [List.map_replicate]
    induction rows.length with
    | zero => rfl
    | succ k ih => rw [List.replicate_succ, List.flatten_cons, ih, List.replicate_succ]; rfl
  have h' : evS (callK L m) L.cs L.sub L.wf (.whl whCond whBody) [some (.tup rows), some (.ref st.length), some (.ref (st.length + 1)), some (.ref (st.length + 3)), some (.int (-1)), none, none, none, none] (OS st [] [] (List.replicate rows.length 0)) = _ := h
  have ok1 : okRep 1 (rows.length : Int) := ⟨by omega, by omega, by simp [LINE]; omega⟩
  have g2 : (st ++ [MO.lst [], .dic false [], .lst [.int 0]])[st.length + 2]? = some (.lst [.int 0]) := by
    rw [List.getElem?_append_right (by omega)]
    simp
  have bm : binop .mul (.ref (st.length + 2)) (.int rows.length) (st ++ [MO.lst [], .dic false [], .lst [.int 0]]) = .ok (.ref (st.length + 3)) (OS st [] [] (List.replicate rows.length 0)) := by
    unfold binop
    simp only [g2, List.length_singleton, if_pos ok1]
    simp [OS, rp]
  simp [fd_one_row, startE, LINE, bm]
  change gc st (Out.fin (Out.bind (evS (callK L m) L.cs L.sub L.wf (.whl whCond whBody) [some (.tup rows), some (.ref st.length), some (.ref (st.length + 1)), some (.ref (st.length + 3)), some (.int (-1)), none, none, none, none] (OS st [] [] (List.replicate rows.length 0))) _)) = _
  rw [h']
  simp
  exact gc_new0 (closed_map (fun _ => rfl) _)
end
end Th

set_option linter.all false
set_option maxRecDepth 100000
set_option maxHeartbeats 1000000
/-! is_run. -/
namespace Th
open PySem L2 Mi LL
def isRunD : D → Bool
  | .tup rows => (decide (1 ≤ rows.length) && decide (rows.length ≤ 6)) && (rows.all isProcD && (decide (marksAll rows).Nodup && decide ((oneRow rows).1.length = total rows)))
  | _ => false
theorem total_le : ∀ {rows : List D}, (∀ d ∈ rows, isProcD d = true) → total rows ≤ 30 * rows.length
  | [], _ => by simp [total]
  | d :: rows, h => by
    have ih := total_le (rows := rows) fun e he => h e (List.mem_cons_of_mem _ he)
    obtain ⟨ys, rfl, hl, _⟩ := proc_ev (h d List.mem_cons_self)
    simp [total, rowOf] at ih ⊢
    omega
section
variable {st : Store}
theorem ru_c1 {m : Nat} (hm : 5 ≤ m) {xs : List D} {b : Option D} (hl : xs.length ≤ 6) (hx : ∀ x ∈ xs, ∀ g, Wf (st ++ g) x) : compL (stepF [1] (.name 1) (evAll (callK L m) L.cs .nil) (evE (callK L m) L.cs (.call "_is_process" (.cons (.var 1) .nil))) [some (.tup xs), none]) none st.length xs (st ++ [.lst []]) = .ok (.ref st.length) (st ++ [.lst (xs.map fun x => .bl (isProcD x))]) :=
  comp_run (fun x hx' l => by simp [stepF_name, wipeE, cstep, process_ok hm (hx x hx' _)]) (Nat.le_trans hl (by decide))
theorem ru_c2 {m : Nat} {xs : List D} (hl : xs.length ≤ 6) (ha : ∀ d ∈ xs, isProcD d = true) (s : Store) : compL (stepF [1] (.name 1) (evAll (callK L m) L.cs .nil) (evE (callK L m) L.cs (.bi .len (.cons (.var 1) .nil))) [some (.tup xs), none]) none s.length xs (s ++ [.lst []]) = .ok (.ref s.length) (s ++ [.lst (xs.map fun x => .int (rowOf x).length)]) :=
  comp_run (fun x hx' l => by
    obtain ⟨ys, rfl, _, _⟩ := proc_ev (ha x hx')
    simp [stepF_name, wipeE, cstep, rowOf]) (Nat.le_trans hl (by decide))
theorem sum_run {s : Store} : ∀ (xs : List D), intsD (xs.map fun x => D.int (rowOf x).length) = some (xs.map fun x => ((rowOf x).length : Int))
  | [] => rfl
  | x :: xs => by simp [intsD, sum_run (s := s) xs]
theorem sum_total : ∀ (xs : List D), (xs.map fun x => ((rowOf x).length : Int)).sum = (total xs : Int)
  | [] => rfl
  | x :: xs => by
    have ih := sum_total xs
    simp [total] at ih ⊢
    omega
theorem sum_run' {s : Store} {c : Nat} {xs : List D} (h : s[c]? = some (.lst (xs.map fun x => .int (rowOf x).length))) : biop .sum [.ref c] s = .ok (.int (total xs)) s := by
  simp only [biop, lstOf, h, Option.bind_some, sum_run (s := s), sum_total]
theorem is_run_ok {n : Nat} (hn : 6 ≤ n) {d : D} (h : Wf st d) (hk : (marksAll (rowOf d)).length ≤ 62) : callK L n "is_run" [d] st = .ok (.bl (isRunD d)) st := by
  obtain ⟨m, rfl, hm⟩ := pred_ hn
  rw [call_open fn_is_run rfl]
  have h1 := row_ok (by omega : 1 ≤ m) (a := 1) (b := 6) h
  cases d with
  | tup rows =>
    have hx : ∀ x ∈ rows, ∀ g, Wf (st ++ g) x := fun x hx g => wf_app (wfL_mem h.1 x hx)
    by_cases hl : 1 ≤ rows.length ∧ rows.length ≤ 6
    · have r1 : isRowD 1 6 (.tup rows) = true := by
        simp only [isRowD, Bool.and_eq_true, decide_eq_true_eq]
        omega
      have c1 := ru_c1 (m := m) hm (b := none) hl.2 hx
      cases ha : rows.all isProcD with
      | false => simp [fd_is_run, startE, h1, r1, cs_MOST_PROCESSES, c1, ha, isRunD]
      | true =>
        have hp := List.all_eq_true.mp ha
        have ht : total rows ≤ 500 := by have := total_le hp; omega
        have lo := letters_ok (n := m) (st := st ++ [.lst (rows.map fun x => .bl (isProcD x))]) (by omega) hp hk
        have ro := one_row_ok (n := m) (st := st ++ [.lst (rows.map fun x => .bl (isProcD x))]) (by omega) hl.2 hp ht
        have c2 := ru_c2 (m := m) hl.2 hp (st ++ [.lst (rows.map fun x => .bl (isProcD x))] ++ [.lst ((oneRow rows).1.map rowD)])
        have i0 : isRunD (.tup rows) = (decide (marksAll rows).Nodup && decide ((oneRow rows).1.length = total rows)) := by
          show ((decide (1 ≤ rows.length) && decide (rows.length ≤ 6)) && (rows.all isProcD && _)) = _
          rw [ha, decide_eq_true hl.1, decide_eq_true hl.2]; rfl
        rw [i0]
        cases q : decide (marksAll rows).Nodup with
        | false =>
          rw [q] at lo
          simp [fd_is_run, startE, h1, r1, cs_MOST_PROCESSES, c1, ha, lo]
        | true =>
          rw [q] at lo
          have sm := sum_run' (s := st ++ [MO.lst (rows.map fun x => .bl (isProcD x))] ++ [MO.lst ((oneRow rows).1.map rowD)] ++ [MO.lst (rows.map fun x => .int (rowOf x).length)]) (c := (st ++ [MO.lst (rows.map fun x => .bl (isProcD x))] ++ [MO.lst ((oneRow rows).1.map rowD)]).length) (xs := rows) (by simp)
          have ln := len_run (s := st ++ [.lst (rows.map fun x => .bl (isProcD x))] ++ [.lst ((oneRow rows).1.map rowD)]) (c := (st ++ [MO.lst (rows.map fun x => .bl (isProcD x))]).length) (xs := (oneRow rows).1.map rowD) (by simp)
          simp at lo ro c2 sm ln
          simp [fd_is_run, startE, h1, r1, cs_MOST_PROCESSES, c1, ha, lo, ro, c2, sm, ln]
          omega
    · have r1 : isRowD 1 6 (.tup rows) = false := by
        simp only [isRowD, Bool.and_eq_false_iff, decide_eq_false_iff_not]
        omega
      have r2 : isRunD (.tup rows) = false := by
        have : (decide (1 ≤ rows.length) && decide (rows.length ≤ 6)) = false := by
          rw [Bool.and_eq_false_iff, decide_eq_false_iff_not, decide_eq_false_iff_not]
          omega
        show ((decide (1 ≤ rows.length) && decide (rows.length ≤ 6)) && _) = false
        rw [this]; rfl
      simp [fd_is_run, startE, h1, r1, r2, cs_MOST_PROCESSES]
  | _ => simp [fd_is_run, startE, h1, isRowD, isRunD, cs_MOST_PROCESSES]
end
end Th

set_option linter.all false
set_option maxRecDepth 100000
set_option maxHeartbeats 1000000
/-! What can come: a step never takes another away. -/
namespace Th
open PySem L2 Mi LL
def evAt (rows : List D) (p r : Nat) : Option D := (rows[p]?).bind fun d => (rowOf d)[r]?
/-- a letter has been sent when the processes have come so far -/
def SentAt (rows : List D) (rs : List Nat) (l : Int) : Prop := ∃ p r n e, rs[p]? = some n ∧ r < n ∧ evAt rows p r = some e ∧ markOf e = some (Str.ofString "send", l)
def Ready (rows : List D) (rs : List Nat) (p : Nat) : Prop := ∃ r e, rs[p]? = some r ∧ evAt rows p r = some e ∧ ∀ l, markOf e = some (Str.ofString "take", l) → SentAt rows rs l
inductive Reach (rows : List D) : List Nat → Prop where
  | zero : Reach rows (List.replicate rows.length 0)
  | step {rs : List Nat} {p r : Nat} : Reach rows rs → rs[p]? = some r → Ready rows rs p → Reach rows (rs.set p (r + 1))
def Le (b a : List Nat) : Prop := ∀ (p x : Nat), b[p]? = some x → ∃ y, a[p]? = some y ∧ x ≤ y
theorem sent_mono {rows : List D} {b a : List Nat} (h : Le b a) {l : Int} (s : SentAt rows b l) : SentAt rows a l := by
  obtain ⟨p, r, n, e, h1, h2, h3, h4⟩ := s
  obtain ⟨y, g1, g2⟩ := h p n h1
  exact ⟨p, r, y, e, g1, by omega, h3, h4⟩
theorem reach_len {rows : List D} {b : List Nat} (h : Reach rows b) : b.length = rows.length := by
  induction h with
  | zero => simp
  | step _ _ _ ih => simpa using ih
/-- where nothing can come any more, all that can be reached has been reached -/
theorem reach_le {rows : List D} {a b : List Nat} (la : a.length = rows.length) (st : ∀ p, ¬ Ready rows a p) (h : Reach rows b) : Le b a := by
  induction h with
  | zero =>
    intro p x hx
    simp only [List.getElem?_replicate] at hx
    split at hx
    · rename_i hp
      cases hx
      exact ⟨a[p]'(by omega), List.getElem?_eq_getElem (by omega), Nat.zero_le _⟩
    · cases hx
  | @step rs p r hr hp rd ih =>
    intro q x hx
    by_cases c : p = q
    · subst c
      obtain ⟨hl, _⟩ := List.getElem?_eq_some_iff.mp hp
      rw [List.getElem?_set_self hl] at hx
      cases hx
      obtain ⟨y, hy, hle⟩ := ih p r hp
      refine ⟨y, hy, ?_⟩
      by_cases e : r = y
      · subst e
        obtain ⟨r', ev, h1, h2, h3⟩ := rd
        rw [hp] at h1
        cases h1
        exact absurd ⟨r, ev, hy, h2, fun l hl => sent_mono ih (h3 l hl)⟩ (st p)
      · omega
    · rw [List.getElem?_set_ne c] at hx
      exact ih q x hx
theorem le_sum : ∀ {b a : List Nat}, b.length = a.length → Le b a → b.sum ≤ a.sum
  | [], [], _, _ => Nat.le_refl _
  | x :: b, y :: a, hl, h => by
    have ih := le_sum (b := b) (a := a) (by simpa using hl) (fun p u hu => by simpa using h (p + 1) u (by simpa using hu))
    obtain ⟨z, hz, hle⟩ := h 0 x rfl
    simp at hz
    subst hz
    simp
    omega
  | [], _ :: _, hl, _ => by simp at hl
  | _ :: _, [], hl, _ => by simp at hl
theorem reach_in {rows : List D} {b : List Nat} (h : Reach rows b) : ∀ (p r : Nat) (d : D), b[p]? = some r → rows[p]? = some d → r ≤ (rowOf d).length := by
  induction h with
  | zero =>
    intro p r d h _
    simp only [List.getElem?_replicate] at h
    split at h <;> cases h
    exact Nat.zero_le _
  | @step rs p r hr hp rd ih =>
    intro q x d h1 h2
    by_cases c : p = q
    · subst c
      obtain ⟨hl, _⟩ := List.getElem?_eq_some_iff.mp hp
      rw [List.getElem?_set_self hl] at h1
      cases h1
      obtain ⟨r', ev, g1, g2, _⟩ := rd
      rw [hp] at g1
      cases g1
      unfold evAt at g2
      rw [h2] at g2
      obtain ⟨hlt, _⟩ := List.getElem?_eq_some_iff.mp g2
      exact hlt
    · rw [List.getElem?_set_ne c] at h1
      exact ih q x d h1 h2
/-! ### one_row's steps -/
structure Iv (rows : List D) (sent : List Int) (rs : List Nat) : Prop where
  reach : Reach rows rs
  sent : ∀ l, l ∈ sent ↔ SentAt rows rs l
theorem ins_mem {sent : List Int} {l x : Int} : x ∈ insL sent l ↔ x ∈ sent ∨ x = l := by
  unfold insL
  split
  · rename_i h
    constructor
    · exact .inl
    · rintro (h' | rfl)
      · exact h'
      · exact h
  · simp
theorem sent_step {rows : List D} {rs : List Nat} {p r : Nat} {e : D} (hp : rs[p]? = some r) (he : evAt rows p r = some e) (l : Int) : SentAt rows (rs.set p (r + 1)) l ↔ SentAt rows rs l ∨ markOf e = some (Str.ofString "send", l) := by
  obtain ⟨hl, _⟩ := List.getElem?_eq_some_iff.mp hp
  constructor
  · rintro ⟨q, k, n, ev, h1, h2, h3, h4⟩
    by_cases c : p = q
    · subst c
      rw [List.getElem?_set_self hl] at h1
      cases h1
      by_cases k1 : k = r
      · subst k1
        rw [he] at h3
        cases h3
        exact .inr h4
      · exact .inl ⟨p, k, r, ev, hp, by omega, h3, h4⟩
    · rw [List.getElem?_set_ne c] at h1
      exact .inl ⟨q, k, n, ev, h1, h2, h3, h4⟩
  · rintro (⟨q, k, n, ev, h1, h2, h3, h4⟩ | h)
    · by_cases c : p = q
      · subst c
        rw [hp] at h1
        cases h1
        exact ⟨p, k, r + 1, ev, List.getElem?_set_self hl, by omega, h3, h4⟩
      · exact ⟨q, k, n, ev, by rw [List.getElem?_set_ne c]; exact h1, h2, h3, h4⟩
    · exact ⟨p, r, r + 1, e, List.getElem?_set_self hl, by omega, he, h⟩
theorem Iv.step {rows : List D} {sent : List Int} {rs : List Nat} (i : Iv rows sent rs) {p r : Nat} {e : D} (hp : rs[p]? = some r) (he : evAt rows p r = some e) (w : waits sent e = false) : Iv rows (sends sent e) (rs.set p (r + 1)) := by
  refine ⟨i.reach.step hp ⟨r, e, hp, he, fun l hl => ?_⟩, fun l => ?_⟩
  · unfold waits at w
    rw [hl] at w
    simp at w
    exact (i.sent l).mp w
  · rw [sent_step hp he, ← i.sent l]
    unfold sends
    cases hm : markOf e with
    | none => simp
    | some m =>
      obtain ⟨k, j⟩ := m
      by_cases hk : k = Str.ofString "send"
      · subst hk
        simp only [beq_self_eq_true, if_true, ins_mem, Option.some.injEq, Prod.mk.injEq, true_and]
        exact or_congr Iff.rfl ⟨fun h => h.symm, fun h => h.symm⟩
      · have : (k == Str.ofString "send") = false := beq_eq_false_iff_ne.mpr hk
        simp [this, hk]
end Th

set_option linter.all false
set_option maxRecDepth 100000
set_option maxHeartbeats 1000000
/-! one_row comes as far as can be. -/
namespace Th
open PySem L2 Mi LL
theorem run_iv {rows : List D} {p : Nat} {d : D} (hd : rows[p]? = some d) : ∀ {es : List D} {row : List (Nat × Nat)} {sent : List Int} {rs : List Nat} {r : Nat}, Iv rows sent rs → rs[p]? = some r → (rowOf d).drop r = es →
    Iv rows (runRow p es row sent r).2.1 (rs.set p (runRow p es row sent r).2.2) ∧ ((runRow p es row sent r).1.length = row.length → runRow p es row sent r = (row, sent, r) ∧ ¬ Ready rows rs p)
  | [], row, sent, rs, r, i, hp, he => by
    refine ⟨by simp only [runRow, set_self hp]; exact i, fun _ => ⟨rfl, ?_⟩⟩
    rintro ⟨r', e, h1, h2, _⟩
    rw [hp] at h1
    cases h1
    unfold evAt at h2
    rw [hd] at h2
    obtain ⟨hl, _⟩ := List.getElem?_eq_some_iff.mp (show (rowOf d)[r]? = some e from h2)
    have := List.drop_eq_nil_iff.mp he
    omega
  | e :: es, row, sent, rs, r, i, hp, he => by
    have ev : evAt rows p r = some e := by
      unfold evAt
      rw [hd]
      have := congrArg (fun l => l[0]?) he
      simpa using this
    have he2 : (rowOf d).drop (r + 1) = es := by
      have := congrArg (List.drop 1) he
      simpa [List.drop_drop, Nat.add_comm] using this
    unfold runRow
    cases w : waits sent e with
    | true =>
      simp only [if_true, set_self hp]
      refine ⟨i, fun _ => ⟨trivial, ?_⟩⟩
      rintro ⟨r', e', h1, h2, h3⟩
      rw [hp] at h1
      cases h1
      rw [ev] at h2
      cases h2
      unfold waits at w
      cases hm : markOf e with
      | none => rw [hm] at w; cases w
      | some m =>
        obtain ⟨k, l⟩ := m
        rw [hm] at w
        simp only [Bool.and_eq_true, Bool.not_eq_true', decide_eq_false_iff_not] at w
        have hk := beq_iff_eq.mp w.1
        subst hk
        exact w.2 ((i.sent l).mpr (h3 l hm))
    | false =>
      simp only [Bool.false_eq_true, if_false]
      obtain ⟨hl, _⟩ := List.getElem?_eq_some_iff.mp hp
      have ih := (run_iv hd (es := es) (row := row ++ [(p, r + 1)]) (i.step hp ev w) (List.getElem?_set_self hl) he2).1
      rw [List.set_set] at ih
      refine ⟨ih, fun h => ?_⟩
      have rl := runRow_len (p := p) (es := es) (row := row ++ [(p, r + 1)]) (sent := sends sent e) (r := r + 1)
      simp only [List.length_append, List.length_singleton] at rl
      omega
theorem sweep_iv {rows : List D} : ∀ {ds : List D} {p : Nat} {z : One}, rows.drop p = ds → Iv rows z.2.1 z.2.2 → Iv rows (sweep p ds z).2.1 (sweep p ds z).2.2 ∧ z.1.length ≤ (sweep p ds z).1.length ∧
    ((sweep p ds z).1.length = z.1.length → (sweep p ds z).2.2 = z.2.2 ∧ ∀ q, p ≤ q → ¬ Ready rows z.2.2 q)
  | [], p, z, hd, i => by
    refine ⟨i, Nat.le_refl _, fun _ => ⟨rfl, fun q hq => ?_⟩⟩
    rintro ⟨r, e, h1, _, _⟩
    have := reach_len i.reach
    obtain ⟨hl, _⟩ := List.getElem?_eq_some_iff.mp h1
    have := List.drop_eq_nil_iff.mp hd
    omega
  | d :: ds, p, z, hd, i => by
    have hp : rows[p]? = some d := by
      have := congrArg (fun l => l[0]?) hd
      simpa using this
    have hd2 : rows.drop (p + 1) = ds := by
      have := congrArg (List.drop 1) hd
      simpa [List.drop_drop, Nat.add_comm] using this
    obtain ⟨hp1, _⟩ := List.getElem?_eq_some_iff.mp hp
    have hp' : p < z.2.2.length := by rw [reach_len i.reach]; exact hp1
    have g : z.2.2[p]? = some z.2.2[p] := List.getElem?_eq_getElem hp'
    have gd : z.2.2.getD p 0 = z.2.2[p] := by simp [List.getD, g]
    unfold sweep
    rw [gd]
    obtain ⟨i2, same⟩ := run_iv hp (es := (rowOf d).drop z.2.2[p]) (row := z.1) i g rfl
    have rl := runRow_len (p := p) (es := (rowOf d).drop z.2.2[p]) (row := z.1) (sent := z.2.1) (r := z.2.2[p])
    obtain ⟨i3, le3, same3⟩ := sweep_iv (ds := ds) (p := p + 1) (z := ((runRow p ((rowOf d).drop z.2.2[p]) z.1 z.2.1 z.2.2[p]).1, (runRow p ((rowOf d).drop z.2.2[p]) z.1 z.2.1 z.2.2[p]).2.1, z.2.2.set p (runRow p ((rowOf d).drop z.2.2[p]) z.1 z.2.1 z.2.2[p]).2.2)) hd2 i2
    simp only at le3 same3
    refine ⟨i3, by omega, fun h => ?_⟩
    have hz : (runRow p ((rowOf d).drop z.2.2[p]) z.1 z.2.1 z.2.2[p]).1.length = z.1.length := by omega
    obtain ⟨e1, nr⟩ := same hz
    obtain ⟨e2, nr2⟩ := same3 (by omega)
    have e3 : z.2.2.set p (runRow p ((rowOf d).drop z.2.2[p]) z.1 z.2.1 z.2.2[p]).2.2 = z.2.2 := by rw [e1]; exact set_self g
    rw [e3] at nr2
    refine ⟨e2.trans e3, fun q hq => ?_⟩
    by_cases c : p = q
    · subst c; exact nr
    · exact nr2 q (by omega)
theorem runs_iv {rows : List D} (ht : total rows ≤ 500) (ha : ∀ d ∈ rows, isProcD d = true) : ∀ {k : Nat} {z : One}, InR rows z → Iv rows z.2.1 z.2.2 → total rows - z.1.length < k → InR rows (runs rows k z) ∧ Iv rows (runs rows k z).2.1 (runs rows k z).2.2 ∧ ∀ q, ¬ Ready rows (runs rows k z).2.2 q
  | 0, z, i, v, h => by omega
  | k + 1, z, i, v, h => by
    obtain ⟨v2, le2, same⟩ := sweep_iv (ds := rows) (p := 0) (z := z) rfl v
    have i2 := sweep_in ht ha i
    have bd := i2.bound
    unfold runs
    by_cases q : z.1.length < (sweep 0 rows z).1.length
    · rw [if_pos q]
      exact runs_iv ht ha i2 v2 (by omega)
    · rw [if_neg q]
      obtain ⟨e, nr⟩ := same (by omega)
      refine ⟨i2, v2, fun p => ?_⟩
      rw [e]
      exact nr p (Nat.zero_le _)
theorem z0_iv {rows : List D} : Iv rows (z0 rows).2.1 (z0 rows).2.2 := by
  refine ⟨.zero, fun l => ⟨fun h => (by cases h), ?_⟩⟩
  rintro ⟨p, r, n, e, h1, h2, _, _⟩
  simp only [z0, List.getElem?_replicate] at h1
  split at h1 <;> cases h1
  omega
/-- one_row holds all events exactly if all can come -/
theorem one_full {rows : List D} (ht : total rows ≤ 500) (ha : ∀ d ∈ rows, isProcD d = true) : (oneRow rows).1.length = total rows ↔ ∃ b, Reach rows b ∧ b.sum = total rows := by
  obtain ⟨i, v, nr⟩ := runs_iv ht ha (k := 501) (z := z0 rows) z0_in z0_iv (by omega)
  change InR rows (oneRow rows) at i
  change Iv rows (oneRow rows).2.1 (oneRow rows).2.2 at v
  change ∀ q, ¬ Ready rows (oneRow rows).2.2 q at nr
  constructor
  · intro h
    exact ⟨_, v.reach, by rw [← i.row]; exact h⟩
  · rintro ⟨b, hb, hs⟩
    have l := reach_le i.len nr hb
    have s := le_sum (by rw [reach_len hb, i.len]) l
    have bd := i.bound
    have := i.row
    omega
end Th

set_option linter.all false
set_option maxRecDepth 100000
set_option maxHeartbeats 1000000
/-! Dicts by lists of pairs; loops by folds. -/
namespace Mi
open PySem L2
@[simp] theorem str_beq {a b : String} : (Str.ofString a == Str.ofString b) = decide (a = b) := by
  rw [Bool.eq_iff_iff, beq_iff_eq, decide_eq_true_eq, ofString_inj]
theorem gc_not {st s : Store} {d : D} (h : ¬ gcOk st s) : gc st (.ok d s) = .ok d s := by
  unfold gc
  simp only [if_neg (fun c : gcOk st s ∧ closedD st.length d = true => h c.1)]
  cases flatO st.length s d with
  | none => rfl
  | some mo => simp only [if_neg h]
/-! ### lists of pairs -/
section
variable {κ β : Type} [DecidableEq κ]
def aget (m : List (κ × β)) (k : κ) : Option β := (m.find? fun p => decide (p.1 = k)).map (·.2)
def aput (m : List (κ × β)) (k : κ) (v : β) : List (κ × β) := if (m.any fun p => decide (p.1 = k)) = true then m.map (fun p => if p.1 = k then (p.1, v) else p) else m ++ [(k, v)]
theorem aget_nil (k : κ) : aget ([] : List (κ × β)) k = none := rfl
theorem aget_cons (x : κ) (v : β) (m : List (κ × β)) (k : κ) : aget ((x, v) :: m) k = if x = k then some v else aget m k := by
  unfold aget
  rw [List.find?_cons]
  by_cases h : x = k <;> simp [h]
theorem aget_none {m : List (κ × β)} {k : κ} : aget m k = none ↔ ∀ p ∈ m, p.1 ≠ k := by
  unfold aget
  simp [List.find?_eq_none]
theorem aget_mem {m : List (κ × β)} {k : κ} {v : β} (h : aget m k = some v) : (k, v) ∈ m := by
  unfold aget at h
  cases e : m.find? fun p => decide (p.1 = k) with
  | none => rw [e] at h; cases h
  | some p =>
    rw [e] at h
    cases h
    have h1 := List.find?_some e
    have h2 := List.mem_of_find?_eq_some e
    have : p.1 = k := of_decide_eq_true h1
    subst this
    exact h2
theorem any_isSome {m : List (κ × β)} {k : κ} : (m.any fun p => decide (p.1 = k)) = (aget m k).isSome := by
  induction m with
  | nil => rfl
  | cons p m ih =>
    obtain ⟨y, w⟩ := p
    rw [aget_cons, List.any_cons, ih]
    by_cases e : y = k <;> simp [e]
theorem any_none {m : List (κ × β)} {k : κ} (h : aget m k = none) : (m.any fun p => decide (p.1 = k)) = false := by rw [any_isSome, h]; rfl
theorem aput_new {m : List (κ × β)} {k : κ} {v : β} (h : aget m k = none) : aput m k v = m ++ [(k, v)] := by
  unfold aput
  rw [any_none h]
  rfl
theorem aget_app {m l : List (κ × β)} {k : κ} : aget (m ++ l) k = (aget m k).or (aget l k) := by
  unfold aget
  rw [List.find?_append]
  cases m.find? fun p => decide (p.1 = k) <;> simp
theorem aget_put {m : List (κ × β)} {k x : κ} {v : β} : aget (aput m k v) x = if k = x then some v else aget m x := by
  unfold aput
  split
  · rename_i h
    induction m with
    | nil => simp at h
    | cons p m ih =>
      obtain ⟨y, w⟩ := p
      simp only [List.map_cons]
      by_cases e : y = k
      · subst e
        simp only [if_true]
        rw [aget_cons]
        by_cases e2 : y = x
        · simp [e2]
        · simp only [if_neg e2]
          rw [aget_cons, if_neg e2]
          by_cases h2 : (m.any fun p => decide (p.1 = y)) = true
          · have := ih h2
            rw [if_neg e2] at this
            exact this
          · have : m.map (fun p => if p.1 = y then (p.1, v) else p) = m := by
              rw [any_isSome, Option.isSome_iff_ne_none, Classical.not_not] at h2
              have : ∀ p ∈ m, (if p.1 = y then (p.1, v) else p) = p := fun p hp => by
                rw [if_neg (aget_none.mp h2 p hp)]
              rw [List.map_congr_left this, List.map_id']
            rw [this]
      · simp only [if_neg e]
        rw [aget_cons, aget_cons]
        by_cases e2 : y = x
        · subst e2
          simp [Ne.symm e]
        · simp only [if_neg e2]
          simp only [List.any_cons, e, decide_false, Bool.false_or] at h
          exact ih h
  · rename_i h
    rw [aget_app, aget_cons, aget_nil]
    rw [any_isSome, Option.isSome_iff_ne_none, Classical.not_not] at h
    by_cases e : k = x
    · subst e; simp [h]
    · simp [e]
theorem aput_len {m : List (κ × β)} {k : κ} {v : β} : (aput m k v).length ≤ m.length + 1 := by
  unfold aput
  split <;> simp
end
/-! ### how keys are written -/
structure KEnc (κ : Type) where
  t : Bool
  ek : κ → D
  z : κ → List Key
  ok : ∀ k, keyOf t (ek k) = some (z k)
  inj : ∀ a b, z a = z b → a = b
def KI : KEnc Int := ⟨false, fun i => .int i, fun i => [.inl i], fun _ => rfl, fun a b h => by simpa using h⟩
def KP : KEnc (Nat × Nat) := ⟨true, fun p => .tup [.int p.1, .int p.2], fun p => [.inl (p.1 : Int), .inl (p.2 : Int)], fun _ => rfl, fun a b h => by
  simp at h
  exact Prod.ext (by omega) (by omega)⟩
def KZ : KEnc (List Int) := ⟨true, fun p => .tup (p.map D.int), fun p => p.map Sum.inl, fun p => by
  show keysD (p.map D.int) = some (p.map Sum.inl)
  induction p with
  | nil => rfl
  | cons a p ih => simp only [List.map_cons, keysD, keyD, ih], fun a b h => by
  refine List.map_inj_right (fun x y h => ?_) |>.mp h
  cases h; rfl⟩
section
variable {κ β : Type} [DecidableEq κ] (K : KEnc κ) (ev : β → D)
def encD (p : κ × β) : D × D := (K.ek p.1, ev p.2)
def DIC (m : List (κ × β)) : MO := .dic K.t (m.map (encD K ev))
theorem dval_enc (m : List (κ × β)) (k : κ) : dVal K.t (m.map (encD K ev)) (K.z k) = (aget m k).map ev := by
  unfold dVal aget
  rw [List.find?_map]
  have : ((fun p => decide (keyOf K.t p.1 = some (K.z k))) ∘ encD K ev) = fun p : κ × β => decide (p.1 = k) := by
    funext p
    simp only [Function.comp, encD, K.ok, Option.some.injEq]
    exact decide_eq_decide.mpr ⟨K.inj _ _, fun h => by rw [h]⟩
  rw [this]
  cases m.find? fun p => decide (p.1 = k) <;> rfl
theorem dput_enc (m : List (κ × β)) (k : κ) (v : β) : dPut K.t (m.map (encD K ev)) (K.ek k) (K.z k) (ev v) = (aput m k v).map (encD K ev) := by
  have e : ∀ p : κ × β, (keyOf K.t (encD K ev p).1 = some (K.z k)) ↔ p.1 = k := fun p => by
    simp only [encD, K.ok, Option.some.injEq]
    exact ⟨K.inj _ _, fun h => by rw [h]⟩
  unfold dPut aput
  rw [List.any_map]
  have e2 : ((fun p => decide (keyOf K.t p.1 = some (K.z k))) ∘ encD K ev) = fun p : κ × β => decide (p.1 = k) := by
    funext p
    exact decide_eq_decide.mpr (e p)
  rw [e2]
  split
  · rw [List.map_map, List.map_map]
    refine List.map_congr_left fun p _ => ?_
    simp only [Function.comp]
    by_cases h : p.1 = k
    · rw [if_pos ((e p).mpr h), if_pos h]; rfl
    · rw [if_neg (fun z => h ((e p).mp z)), if_neg h]
  · rw [List.map_append]; rfl
variable {K} {ev}
theorem dask_run {st : Store} {n : Nat} {m : List (κ × β)} {k : κ} (h : st[n]? = some (DIC K ev m)) : dAsk st (.ref n) (K.ek k) = some ((aget m k).map ev) := by
  unfold DIC at h
  simp only [dAsk, h, K.ok, Option.map_some, dval_enc]
theorem dget_run {st : Store} {n : Nat} {m : List (κ × β)} {k : κ} {v : β} (h : st[n]? = some (DIC K ev m)) (e : aget m k = some v) : dgetop (.ref n) (K.ek k) st = .ok (ev v) st := by
  simp only [dgetop, dask_run h, e, Option.map_some]
theorem din_run {st : Store} {n : Nat} {m : List (κ × β)} {k : κ} {b : Bool} (h : st[n]? = some (DIC K ev m)) : dinop b (.ref n) (K.ek k) st = .ok (.bl (if b then !(aget m k).isSome else (aget m k).isSome)) st := by
  simp only [dinop, dask_run h, Option.isSome_map]
theorem dgetm_run {st : Store} {n : Nat} {m : List (κ × β)} {k : κ} {y : D} (h : st[n]? = some (DIC K ev m)) : dgetmop (.ref n) (K.ek k) y st = .ok (((aget m k).map ev).getD y) st := by
  simp only [dgetmop, dask_run h]
theorem dput_run_ {st : Store} {n : Nat} {m : List (κ × β)} {k : κ} {v : β} (h : st[n]? = some (DIC K ev m)) (hl : m.length < LINE) : dputop K.t (.ref n) (K.ek k) (ev v) st = some (st.set n (DIC K ev (aput m k v))) := by
  unfold DIC at h
  simp only [dputop, h, if_true, K.ok, List.length_map, if_pos hl, dput_enc]
  rfl
theorem isdic_run {st : Store} {n : Nat} {m : List (κ × β)} (h : st[n]? = some (DIC K ev m)) : isDic (.ref n) st = true := by
  unfold DIC at h
  simp only [isDic, h]
theorem dic_closed {k : Nat} {m : List (κ × β)} (h : ∀ p ∈ m, closedD k (ev p.2) = true) : closedMO k (DIC K ev m) = true := by
  show (m.map (encD K ev)).all (fun p => closedD k p.2) = true
  rw [List.all_map, List.all_eq_true]
  exact h
end
@[simp] theorem zipR_tt {xs ys : List D} {st : Store} : zipR (.ok (.tup xs) st) (fun st => .ok (.tup ys) st) = .ok (zipD xs ys) none st := rfl
/-! ### loops as folds -/
theorem for_fold {σ : Type} {step : D → Env → Store → Out} {gd : Option (Nat × List D)} (E : σ → Env) (S : σ → Store) (f : σ → D → σ) (I : σ → List D → Prop)
    (hg : ∀ s xs, I s xs → gdOk gd (S s)) (h : ∀ s x xs, I s (x :: xs) → step x (E s) (S s) = .nx (E (f s x)) (S (f s x)) ∧ I (f s x) xs) :
    ∀ {xs : List D} {s : σ}, I s xs → forL step gd xs (E s) (S s) = .nx (E (xs.foldl f s)) (S (xs.foldl f s)) ∧ I (xs.foldl f s) []
  | [], s, i => ⟨by simp only [forL, if_pos (hg s [] i)]; rfl, i⟩
  | x :: xs, s, i => by
    obtain ⟨h1, h2⟩ := h s x xs i
    simp only [forL, if_pos (hg s _ i), h1, List.foldl_cons]
    exact for_fold E S f I hg h h2
/-- .. over items that are made from others -/
theorem for_foldm {σ α : Type} {step : D → Env → Store → Out} {gd : Option (Nat × List D)} {q : α → D} (E : σ → Env) (S : σ → Store) (f : σ → α → σ) (I : σ → List α → Prop)
    (hg : ∀ s xs, I s xs → gdOk gd (S s)) (h : ∀ s x xs, I s (x :: xs) → step (q x) (E s) (S s) = .nx (E (f s x)) (S (f s x)) ∧ I (f s x) xs) :
    ∀ {xs : List α} {s : σ}, I s xs → forL step gd (xs.map q) (E s) (S s) = .nx (E (xs.foldl f s)) (S (xs.foldl f s)) ∧ I (xs.foldl f s) []
  | [], s, i => ⟨by simp only [List.map_nil, forL, if_pos (hg s [] i)]; rfl, i⟩
  | x :: xs, s, i => by
    obtain ⟨h1, h2⟩ := h s x xs i
    simp only [List.map_cons, forL, if_pos (hg s _ i), h1, List.foldl_cons]
    exact for_foldm E S f I hg h h2
end Mi
namespace Mi
open PySem L2
/-- a loop that nothing leaves -/
theorem for_ind {step : D → Env → Store → Out} {gd : Option (Nat × List D)} (I : List D → Env → Store → Prop)
    (hg : ∀ xs e s, I xs e s → gdOk gd s) (h : ∀ x xs e s, I (x :: xs) e s → ∃ e' s', step x e s = .nx e' s' ∧ I xs e' s') :
    ∀ {xs : List D} {e : Env} {s : Store}, I xs e s → ∃ e' s', forL step gd xs e s = .nx e' s' ∧ I [] e' s'
  | [], e, s, i => ⟨e, s, by simp only [forL, if_pos (hg [] e s i)], i⟩
  | x :: xs, e, s, i => by
    obtain ⟨e', s', h1, h2⟩ := h x xs e s i
    simp only [forL, if_pos (hg _ e s i), h1]
    exact for_ind I hg h h2
theorem for_indm {α : Type} {q : α → D} {step : D → Env → Store → Out} {gd : Option (Nat × List D)} (I : List α → Env → Store → Prop)
    (hg : ∀ xs e s, I xs e s → gdOk gd s) (h : ∀ x xs e s, I (x :: xs) e s → ∃ e' s', step (q x) e s = .nx e' s' ∧ I xs e' s') :
    ∀ {xs : List α} {e : Env} {s : Store}, I xs e s → ∃ e' s', forL step gd (xs.map q) e s = .nx e' s' ∧ I [] e' s'
  | [], e, s, i => ⟨e, s, by simp only [List.map_nil, forL, if_pos (hg [] e s i)], i⟩
  | x :: xs, e, s, i => by
    obtain ⟨e', s', h1, h2⟩ := h x xs e s i
    simp only [List.map_cons, forL, if_pos (hg _ e s i), h1]
    exact for_indm I hg h h2
/-- .. over enumerate's pairs -/
theorem for_inde {step : D → Env → Store → Out} {gd : Option (Nat × List D)} (I : Nat → List D → Env → Store → Prop)
    (hg : ∀ k xs e s, I k xs e s → gdOk gd s) (h : ∀ k x xs e s, I k (x :: xs) e s → ∃ e' s', step (.tup [.int (k : Int), x]) e s = .nx e' s' ∧ I (k + 1) xs e' s') :
    ∀ {xs : List D} {k : Nat} {e : Env} {s : Store}, I k xs e s → ∃ e' s', forL step gd (enumD (k : Int) xs) e s = .nx e' s' ∧ I (k + xs.length) [] e' s'
  | [], k, e, s, i => ⟨e, s, by simp only [enumD, forL, if_pos (hg k [] e s i)], i⟩
  | x :: xs, k, e, s, i => by
    obtain ⟨e', s', h1, h2⟩ := h k x xs e s i
    simp only [enumD, forL, if_pos (hg k _ e s i), h1]
    have := for_inde I hg h h2
    rw [show k + (x :: xs).length = k + 1 + xs.length by simp; omega]
    exact this
end Mi
namespace Mi
open PySem L2
theorem comp_mapG {step : D → Store → CRes} {g : D → D} {st : Store} {n : Nat} {ys : List D} (hn : st[n]? = some (.lst ys)) : ∀ {xs acc : List D}, (∀ x ∈ xs, ∀ l, step x (st ++ [.lst l]) = .ok (some (g x)) (st ++ [.lst l])) → acc.length + xs.length ≤ LINE →
    compL step (some (n, ys)) st.length xs (st ++ [.lst acc]) = .ok (.ref st.length) (st ++ [.lst (acc ++ xs.map g)])
  | [], acc, _, _ => by
    obtain ⟨hl, _⟩ := List.getElem?_eq_some_iff.mp hn
    have k : gdOk (some (n, ys)) (st ++ [MO.lst acc]) := by
      show (st ++ [MO.lst acc])[n]? = _
      rw [List.getElem?_append_left hl]; exact hn
    simp [compL, k]
  | x :: xs, acc, h, hl => by
    obtain ⟨hl0, _⟩ := List.getElem?_eq_some_iff.mp hn
    have k : gdOk (some (n, ys)) (st ++ [MO.lst acc]) := by
      show (st ++ [MO.lst acc])[n]? = _
      rw [List.getElem?_append_left hl0]; exact hn
    simp only [List.length_cons] at hl
    have hx := h x List.mem_cons_self acc
    have ih := comp_mapG (acc := acc ++ [g x]) hn (fun y hy l => h y (List.mem_cons_of_mem _ hy) l) (by simp; omega)
    have e : (st ++ [MO.lst acc]).set st.length (.lst (acc ++ [g x])) = st ++ [.lst (acc ++ [g x])] := by simp
    simp only [compL, if_pos k, hx]
    rw [List.getElem?_append_right (Nat.le_refl _)]
    simp only [Nat.sub_self, List.getElem?_cons_zero]
    rw [if_pos (by omega), e, ih]
    simp
theorem comp_runG {step : D → Store → CRes} {g : D → D} {st : Store} {n : Nat} {ys xs : List D} (hn : st[n]? = some (.lst ys)) (h : ∀ x ∈ xs, ∀ l, step x (st ++ [.lst l]) = .ok (some (g x)) (st ++ [.lst l])) (hl : xs.length ≤ LINE) :
    compL step (some (n, ys)) st.length xs (st ++ [.lst []]) = .ok (.ref st.length) (st ++ [.lst (xs.map g)]) := by
  have := comp_mapG (acc := []) hn h (by simpa using hl)
  simpa using this
/-- a comprehension of new things -/
theorem comp_news0 {step : D → Store → CRes} {st : Store} {mo : D → MO} : ∀ {xs acc : List D} {g : Store}, (∀ x ∈ xs, ∀ s, step x s = .ok (some (.ref s.length)) (s ++ [mo x])) → acc.length + xs.length ≤ LINE →
    compL step none st.length xs (st ++ .lst acc :: g) = .ok (.ref st.length) (st ++ .lst (acc ++ (List.range xs.length).map fun k => .ref (st.length + 1 + g.length + k)) :: (g ++ xs.map mo))
  | [], acc, g, _, _ => by simp [compL, gdOk]
  | x :: xs, acc, g, h, hl => by
    simp only [List.length_cons] at hl
    have ih := comp_news0 (st := st) (xs := xs) (acc := acc ++ [.ref (st.length + 1 + g.length)]) (g := g ++ [mo x]) (fun y hy => h y (List.mem_cons_of_mem _ hy)) (by simp; omega)
    have e : ∀ d, ((st ++ .lst acc :: g) ++ [mo x]).set st.length (.lst (acc ++ [d])) = st ++ .lst (acc ++ [d]) :: (g ++ [mo x]) := fun d => by simp
    have e2 : ((st ++ .lst acc :: g) ++ [mo x])[st.length]? = some (.lst acc) := by simp
    have e3 : (st ++ MO.lst acc :: g).length = st.length + 1 + g.length := by simp; omega
    simp only [compL, gdOk, if_true, h x List.mem_cons_self, e2, e3]
    rw [if_pos (by omega), e, ih]
    have fe : (fun k => D.ref (st.length + 1 + (g.length + 1) + k)) = (fun k => D.ref (st.length + 1 + g.length + k)) ∘ Nat.succ := by
      funext k
      simp only [Function.comp]
      congr 1
      omega
    simp only [List.length_append, List.length_singleton, List.length_cons, List.range_succ_eq_map, List.map_cons, List.map_map, List.append_assoc, List.singleton_append, Nat.add_zero]
    simp only [List.length_nil, Nat.zero_add, fe]
theorem comp_newsm {step : D → Store → CRes} {st : Store} {mo : D → MO} {xs : List D} (h : ∀ x ∈ xs, ∀ s, step x s = .ok (some (.ref s.length)) (s ++ [mo x])) (hl : xs.length ≤ LINE) :
    compL step none st.length xs (st ++ [.lst []]) = .ok (.ref st.length) (st ++ .lst ((List.range xs.length).map fun k => .ref (st.length + 1 + k)) :: xs.map mo) := by
  have := comp_news0 (st := st) (xs := xs) (acc := []) (g := []) h (by simpa using hl)
  simpa using this
theorem comp_news {step : D → Store → CRes} {st : Store} {xs : List D} (h : ∀ x s, step x s = .ok (some (.ref s.length)) (s ++ [.lst []])) (hl : xs.length ≤ LINE) :
    compL step none st.length xs (st ++ [.lst []]) = .ok (.ref st.length) (st ++ .lst ((List.range xs.length).map fun k => .ref (st.length + 1 + k)) :: List.replicate xs.length (.lst [])) := by
  have := comp_newsm (st := st) (xs := xs) (mo := fun _ => .lst []) (fun x _ s => h x s) hl
  rw [List.map_const'] at this
  exact this
end Mi
namespace Mi
@[simp] theorem line1 : 1 ≤ LINE := by decide
@[simp] theorem line2 : 2 ≤ LINE := by decide
@[simp] theorem line3 : 3 ≤ LINE := by decide
@[simp] theorem line4 : 4 ≤ LINE := by decide
@[simp] theorem line5 : 5 ≤ LINE := by decide
@[simp] theorem line6 : 6 ≤ LINE := by decide
@[simp] theorem line7 : 7 ≤ LINE := by decide
@[simp] theorem line8 : 8 ≤ LINE := by decide
@[simp] theorem line9 : 9 ≤ LINE := by decide
@[simp] theorem line10 : 10 ≤ LINE := by decide
@[simp] theorem line11 : 11 ≤ LINE := by decide
@[simp] theorem line12 : 12 ≤ LINE := by decide
@[simp] theorem line0 : 0 < LINE := by decide
end Mi
namespace Mi
open PySem L2
@[simp] theorem evE_dicL {C : Oracle} {cs : Str → Option D} {env : Env} {st : Store} (t : Bool) (k : E) (ks vs : Es) : evE C cs (.dic t (.cons k ks) vs) env st = dicLit t (.cons k ks) vs st := rfl
end Mi

set_option linter.all false
set_option maxRecDepth 100000
set_option maxHeartbeats 1000000
/-! Plain data without truth values: == is equality. -/
namespace Mi
open PySem L2
noncomputable instance : DecidableEq D := fun a b => Classical.propDecidable (a = b)
mutual
def nb : D → Bool
  | .non => true
  | .int _ => true
  | .str x => PyData.strOk x
  | .tup xs => nbs xs
  | .bl _ => false
  | .fl _ => false
  | .ref _ => false
def nbs : List D → Bool
  | [] => true
  | x :: xs => nb x && nbs xs
end
mutual
def toP : D → PyData
  | .non => .none
  | .bl b => .bool b
  | .int i => .int i
  | .str x => .str x
  | .tup xs => .tuple (toPs xs)
  | .fl xs => .list (toPs xs)
  | .ref _ => .none
def toPs : List D → List PyData
  | [] => []
  | x :: xs => toP x :: toPs xs
end
def dep (d : D) : Nat := (toP d).depth
def deps (d : List D) : Nat := PyData.depthAll (toPs d)
mutual
theorem data_nb : ∀ {d : D}, nb d = true → D.data d = some (toP d)
  | .non, _ => rfl
  | .int _, _ => rfl
  | .str _, _ => rfl
  | .tup xs, h => by
    unfold nb at h
    unfold D.data toP
    rw [data_nbs h]; rfl
  | .bl _, h => by simp [nb] at h
  | .fl _, h => by simp [nb] at h
  | .ref _, h => by simp [nb] at h
theorem data_nbs : ∀ {xs : List D}, nbs xs = true → D.dataL xs = some (toPs xs)
  | [], _ => rfl
  | x :: xs, h => by
    unfold nbs at h
    rw [Bool.and_eq_true] at h
    unfold D.dataL toPs
    rw [data_nb h.1, data_nbs h.2]
end
mutual
theorem lay_nb : ∀ {d : D}, nb d = true → (toP d).canLay0 = true
  | .non, _ => by simp [toP, PyData.canLay0]
  | .int _, _ => by simp [toP, PyData.canLay0]
  | .str _, h => by unfold nb at h; simp [toP, PyData.canLay0, h]
  | .tup xs, h => by
    unfold nb at h
    simp [toP, PyData.canLay0, lay_nbs h]
  | .bl _, h => by simp [nb] at h
  | .fl _, h => by simp [nb] at h
  | .ref _, h => by simp [nb] at h
theorem lay_nbs : ∀ {xs : List D}, nbs xs = true → PyData.canLayAll0 (toPs xs) = true
  | [], _ => by simp [toPs, PyData.canLayAll0]
  | x :: xs, h => by
    unfold nbs at h
    rw [Bool.and_eq_true] at h
    simp [toPs, PyData.canLayAll0, lay_nb h.1, lay_nbs h.2]
end
mutual
theorem eqv_nb : ∀ {x y : D}, nb x = true → nb y = true → (PyData.eqv (toP x) (toP y) = true ↔ x = y)
  | .tup xs, .tup ys, h, k => by
    unfold nb at h k
    unfold toP
    simp only [PyData.eqv, D.tup.injEq]
    exact eqv_nbs h k
  | .non, .non, _, _ => by simp [toP, PyData.eqv]
  | .int _, .int _, _, _ => by simp [toP, PyData.eqv]
  | .str _, .str _, _, _ => by simp [toP, PyData.eqv]
  | .non, .int _, _, _ => by simp [toP, PyData.eqv]
  | .non, .str _, _, _ => by simp [toP, PyData.eqv]
  | .non, .tup _, _, _ => by simp [toP, PyData.eqv]
  | .int _, .non, _, _ => by simp [toP, PyData.eqv]
  | .int _, .str _, _, _ => by simp [toP, PyData.eqv]
  | .int _, .tup _, _, _ => by simp [toP, PyData.eqv]
  | .str _, .non, _, _ => by simp [toP, PyData.eqv]
  | .str _, .int _, _, _ => by simp [toP, PyData.eqv]
  | .str _, .tup _, _, _ => by simp [toP, PyData.eqv]
  | .tup _, .non, _, _ => by simp [toP, PyData.eqv]
  | .tup _, .int _, _, _ => by simp [toP, PyData.eqv]
  | .tup _, .str _, _, _ => by simp [toP, PyData.eqv]
  | .bl _, _, h, _ => by simp [nb] at h
  | .fl _, _, h, _ => by simp [nb] at h
  | .ref _, _, h, _ => by simp [nb] at h
  | _, .bl _, _, h => by simp [nb] at h
  | _, .fl _, _, h => by simp [nb] at h
  | _, .ref _, _, h => by simp [nb] at h
theorem eqv_nbs : ∀ {x y : List D}, nbs x = true → nbs y = true → (PyData.eqvAll (toPs x) (toPs y) = true ↔ x = y)
  | [], [], _, _ => by simp [toPs, PyData.eqvAll]
  | [], _ :: _, _, _ => by simp [toPs, PyData.eqvAll]
  | _ :: _, [], _, _ => by simp [toPs, PyData.eqvAll]
  | x :: xs, y :: ys, h, k => by
    unfold nbs at h k
    rw [Bool.and_eq_true] at h k
    simp only [toPs, PyData.eqvAll, Bool.and_eq_true, List.cons.injEq]
    rw [eqv_nb h.1 k.1, eqv_nbs h.2 k.2]
end
theorem eqv_dec {x y : D} (h : nb x = true) (k : nb y = true) : PyData.eqv (toP x) (toP y) = decide (x = y) := by
  rw [Bool.eq_iff_iff, eqv_nb h k, decide_eq_true_eq]
theorem eqvs_dec {x y : List D} (h : nbs x = true) (k : nbs y = true) : PyData.eqvAll (toPs x) (toPs y) = decide (x = y) := by
  rw [Bool.eq_iff_iff, eqv_nbs h k, decide_eq_true_eq]
theorem shaped_nb {d : D} (h : nb d = true) (k : dep d ≤ 64) : SeqAt.shaped (toP d) = true := by
  unfold dep at k
  simp [SeqAt.shaped, lay_nb h, k]
theorem shaped_nbs {d : List D} (h : nbs d = true) (k : deps d ≤ 60) : SeqAt.shaped (.list (toPs d)) = true := by
  unfold deps at k
  simp [SeqAt.shaped, PyData.canLay0, lay_nbs h, PyData.depth]
  omega
theorem nbs_of {xs : List D} (h : ∀ x ∈ xs, nb x = true) : nbs xs = true := by
  induction xs with
  | nil => rfl
  | cons x xs ih =>
    unfold nbs
    rw [h x List.mem_cons_self, ih fun y hy => h y (List.mem_cons_of_mem _ hy)]; rfl
theorem nbs_mem {xs : List D} (h : nbs xs = true) : ∀ x ∈ xs, nb x = true := by
  induction xs with
  | nil => intro x hx; cases hx
  | cons y xs ih =>
    unfold nbs at h
    rw [Bool.and_eq_true] at h
    intro x hx
    rcases List.mem_cons.mp hx with rfl | hx
    · exact h.1
    · exact ih h.2 x hx
theorem deps_of {k : Nat} {xs : List D} (h : ∀ x ∈ xs, dep x ≤ k) : deps xs ≤ k := by
  induction xs with
  | nil => simp [deps, toPs, PyData.depthAll]
  | cons x xs ih =>
    have h1 := h x List.mem_cons_self
    have h2 := ih fun y hy => h y (List.mem_cons_of_mem _ hy)
    unfold dep at h1
    unfold deps at h2 ⊢
    simp only [toPs, PyData.depthAll]
    omega
theorem dep_tup {k : Nat} {xs : List D} (h : ∀ x ∈ xs, dep x ≤ k) : dep (.tup xs) ≤ k + 1 := by
  have := deps_of h
  unfold deps at this
  unfold dep
  simp only [toP, PyData.depth]
  omega
@[simp] theorem dep_int (i : Int) : dep (.int i) = 0 := by simp [dep, toP, PyData.depth]
@[simp] theorem dep_str (i : Str) : dep (.str i) = 0 := by simp [dep, toP, PyData.depth]
@[simp] theorem dep_non : dep .non = 0 := by simp [dep, toP, PyData.depth]
@[simp] theorem nb_int (i : Int) : nb (.int i) = true := rfl
@[simp] theorem nb_non : nb .non = true := rfl
section
variable {st : Store} {x y : D}
theorem dataS_nb (h : nb x = true) : dataS st x = some (toP x) := by
  have : dataS st x = D.data x := by cases x <;> first | rfl | simp [nb] at h
  rw [this, data_nb h]
theorem dataS_lst {n : Nat} {xs : List D} (e : st[n]? = some (.lst xs)) (h : nbs xs = true) : dataS st (.ref n) = some (.list (toPs xs)) := by
  simp only [dataS, e, data_nbs h, Option.map_some]
theorem eqD_nb (h : nb x = true) (k : nb y = true) (dx : dep x ≤ 64) (dy : dep y ≤ 64) : eqD st x y = some (decide (x = y)) := by
  unfold eqD
  simp only [dataS_nb h, dataS_nb k, shaped_nb h dx, shaped_nb k dy, Bool.and_self, if_true, eqv_dec h k]
theorem eq_nb (h : nb x = true) (k : nb y = true) (dx : dep x ≤ 64) (dy : dep y ≤ 64) : cmpop .eq x y st = .ok (.bl (decide (x = y))) st := by
  simp only [cmpop, eqD_nb h k dx dy, resB]
theorem ne_nb (h : nb x = true) (k : nb y = true) (dx : dep x ≤ 64) (dy : dep y ≤ 64) : cmpop .ne x y st = .ok (.bl (!decide (x = y))) st := by
  simp only [cmpop, eqD_nb h k dx dy, resB, Option.map_some]
theorem eqD_lst {n m : Nat} {xs ys : List D} (e : st[n]? = some (.lst xs)) (f : st[m]? = some (.lst ys)) (h : nbs xs = true) (k : nbs ys = true) (dx : deps xs ≤ 60) (dy : deps ys ≤ 60) : eqD st (.ref n) (.ref m) = some (decide (xs = ys)) := by
  unfold eqD
  simp only [dataS_lst e h, dataS_lst f k, shaped_nbs h dx, shaped_nbs k dy, Bool.and_self, if_true, PyData.eqv, eqvs_dec h k]
theorem eq_lst {n m : Nat} {xs ys : List D} (e : st[n]? = some (.lst xs)) (f : st[m]? = some (.lst ys)) (h : nbs xs = true) (k : nbs ys = true) (dx : deps xs ≤ 60) (dy : deps ys ≤ 60) : cmpop .eq (.ref n) (.ref m) st = .ok (.bl (decide (xs = ys))) st := by
  simp only [cmpop, eqD_lst e f h k dx dy, resB]
theorem ne_lst {n m : Nat} {xs ys : List D} (e : st[n]? = some (.lst xs)) (f : st[m]? = some (.lst ys)) (h : nbs xs = true) (k : nbs ys = true) (dx : deps xs ≤ 60) (dy : deps ys ≤ 60) : cmpop .ne (.ref n) (.ref m) st = .ok (.bl (!decide (xs = ys))) st := by
  simp only [cmpop, eqD_lst e f h k dx dy, resB, Option.map_some]
theorem any_nb (h : nb x = true) : ∀ {ys : List D}, nbs ys = true → ((toPs ys).any fun z => PyData.eqv z (toP x)) = decide (x ∈ ys)
  | [], _ => by simp [toPs]
  | y :: ys, k => by
    unfold nbs at k
    rw [Bool.and_eq_true] at k
    simp only [toPs, List.any_cons, any_nb h k.2, eqv_dec k.1 h, List.mem_cons, Bool.decide_or]
    congr 1
    exact decide_eq_decide.mpr ⟨fun e => e.symm, fun e => e.symm⟩
theorem in_lst {n : Nat} {ys : List D} (f : st[n]? = some (.lst ys)) (h : nb x = true) (k : nbs ys = true) (dx : dep x ≤ 60) (dy : deps ys ≤ 60) : cmpop .isin x (.ref n) st = .ok (.bl (decide (x ∈ ys))) st := by
  have e : inD st x (.ref n) = some (decide (x ∈ ys)) := by
    unfold inD
    simp only [f, dataS_nb h, data_nbs k, shaped_nb h (by omega), shaped_nbs k dy, Bool.and_self, if_true, any_nb h k]
  simp only [cmpop, e, resB]
theorem notin_lst {n : Nat} {ys : List D} (f : st[n]? = some (.lst ys)) (h : nb x = true) (k : nbs ys = true) (dx : dep x ≤ 60) (dy : deps ys ≤ 60) : cmpop .notin x (.ref n) st = .ok (.bl (!decide (x ∈ ys))) st := by
  have e : inD st x (.ref n) = some (decide (x ∈ ys)) := by
    unfold inD
    simp only [f, dataS_nb h, data_nbs k, shaped_nb h (by omega), shaped_nbs k dy, Bool.and_self, if_true, any_nb h k]
  simp only [cmpop, e, resB, Option.map_some]
theorem nb_ints {α : Type} {f : α → Int} (xs : List α) : nbs (xs.map fun a => D.int (f a)) = true := nbs_of fun x hx => by
  obtain ⟨a, _, rfl⟩ := List.mem_map.mp hx; rfl
theorem deps_ints {α : Type} {f : α → Int} (xs : List α) : deps (xs.map fun a => D.int (f a)) ≤ 0 := deps_of fun x hx => by
  obtain ⟨a, _, rfl⟩ := List.mem_map.mp hx; simp
end
end Mi

set_option linter.all false
set_option maxRecDepth 100000
set_option maxHeartbeats 1000000
namespace Th
open PySem L2 Mi LL
theorem comp_filtG0 {step : D → Store → CRes} {p : D → Bool} {f : D → D} {st : Store} {n : Nat} {ys : List D} (hn : st[n]? = some (.lst ys)) : ∀ {xs acc : List D}, (∀ x ∈ xs, ∀ l, step x (st ++ [.lst l]) = .ok (if p x then some (f x) else none) (st ++ [.lst l])) → acc.length + xs.length ≤ LINE →
    compL step (some (n, ys)) st.length xs (st ++ [.lst acc]) = .ok (.ref st.length) (st ++ [.lst (acc ++ (xs.filter p).map f)])
  | [], acc, _, _ => by
    obtain ⟨hl, _⟩ := List.getElem?_eq_some_iff.mp hn
    have g : gdOk (some (n, ys)) (st ++ [MO.lst acc]) := by
      show (st ++ [MO.lst acc])[n]? = _
      rw [List.getElem?_append_left hl]; exact hn
    simp [compL, g]
  | x :: xs, acc, h, hl => by
    obtain ⟨hl0, _⟩ := List.getElem?_eq_some_iff.mp hn
    have g : gdOk (some (n, ys)) (st ++ [MO.lst acc]) := by
      show (st ++ [MO.lst acc])[n]? = _
      rw [List.getElem?_append_left hl0]; exact hn
    simp only [List.length_cons] at hl
    have hx := h x List.mem_cons_self acc
    cases q : p x
    · have ih := comp_filtG0 (p := p) (f := f) (acc := acc) hn (fun y hy l => h y (List.mem_cons_of_mem _ hy) l) (by omega)
      rw [q] at hx
      simp only [compL, if_pos g, hx]
      simp [ih, q]
    · have ih := comp_filtG0 (p := p) (f := f) (acc := acc ++ [f x]) hn (fun y hy l => h y (List.mem_cons_of_mem _ hy) l) (by simp; omega)
      have e : (st ++ [MO.lst acc]).set st.length (.lst (acc ++ [f x])) = st ++ [.lst (acc ++ [f x])] := by simp
      rw [q, if_pos rfl] at hx
      simp only [compL, if_pos g, hx]
      rw [List.getElem?_append_right (Nat.le_refl _)]
      simp only [Nat.sub_self, List.getElem?_cons_zero]
      rw [if_pos (by omega), e, ih]
      simp [q]
theorem data_ints : ∀ (ns : List Int), D.dataL (ns.map D.int) = some (ns.map PyData.int)
  | [] => rfl
  | a :: ns => by
    rw [List.map_cons]
    unfold D.dataL
    rw [data_ints ns]
    rfl
theorem any_ints {l : Int} : ∀ (ns : List Int), ((ns.map PyData.int).any fun z => PyData.eqv z (.int l)) = decide (l ∈ ns)
  | [] => rfl
  | a :: ns => by
    rw [List.map_cons, List.any_cons, any_ints ns]
    simp only [PyData.eqv, List.mem_cons, Bool.decide_or]
    congr 1
    by_cases h : l = a
    · subst h; simp
    · have h' : ¬ a = l := fun e => h e.symm
      simp [h, h']
theorem in_ints {s : Store} {j : Nat} {ns : List Int} {l : Int} (h : s[j]? = some (.lst (ns.map D.int))) : cmpop .isin (.int l) (.ref j) s = .ok (.bl (decide (l ∈ ns))) s := by
  have h1 : SeqAt.shaped (.list (ns.map PyData.int)) = true := PySem.W.ke_shaped_ints ns
  have h2 : SeqAt.shaped (.int l) = true := rfl
  have e : inD s (.int l) (.ref j) = some (decide (l ∈ ns)) := by
    unfold inD
    simp only [h, data_ints, dataS, D.data, h1, h2, Bool.and_self, if_true, any_ints]
  simp only [cmpop, e, resB]
theorem gc_pre {st s : Store} {b : Bool} (hl : st.length ≤ s.length) (h : ∀ i, i < st.length → s[i]? = st[i]?) : gc st (.ok (.bl b) s) = .ok (.bl b) st := by
  have ok : gcOk st s := ⟨hl, fun i hi => .inl (h i hi)⟩
  have e : s.take st.length = st := by
    refine List.ext_getElem? fun i => ?_
    rw [List.getElem?_take]
    split
    · exact h i ‹_›
    · rw [List.getElem?_eq_none (by omega)]
  unfold gc
  simp only [if_pos (And.intro ok (show closedD st.length (.bl b) = true from rfl)), e]
theorem forL_rt {step : D → Mi.Env → Store → Out} {x : D} {xs : List D} {env : Mi.Env} {st s : Store} {d : D} (h : step x env st = .rt d s) : forL step none (x :: xs) env st = .rt d s := by simp [forL, gdOk, h]
theorem nodup_count {ms : List (Str × Int)} : (ms.all fun k => decide (ms.count k ≤ 1)) = decide ms.Nodup := by
  rw [Bool.eq_iff_iff, List.all_eq_true, decide_eq_true_eq, List.nodup_iff_count]
  constructor
  · intro h a
    by_cases q : a ∈ ms
    · exact of_decide_eq_true (h a q)
    · rw [List.count_eq_zero_of_not_mem q]; omega
  · intro h a _
    exact decide_eq_true (h a)
end Th

set_option linter.all false
set_option maxRecDepth 100000
set_option maxHeartbeats 1000000
/-! one_row's row: each event stands behind those of its process, each take behind its send. -/
namespace Th
open PySem L2 Mi LL
/-- a row that the events can have, how far it comes, what it has sent -/
inductive RowOk (rows : List D) : List (Nat × Nat) → List Int → List Nat → Prop where
  | nil : RowOk rows [] [] (List.replicate rows.length 0)
  | snoc {row : List (Nat × Nat)} {sent : List Int} {rs : List Nat} {p r : Nat} {e : D} : RowOk rows row sent rs → rs[p]? = some r → evAt rows p r = some e → waits sent e = false → RowOk rows (row ++ [(p, r + 1)]) (sends sent e) (rs.set p (r + 1))
theorem run_rowok {rows : List D} {p : Nat} {d : D} (hd : rows[p]? = some d) : ∀ {es : List D} {row : List (Nat × Nat)} {sent : List Int} {rs : List Nat} {r : Nat}, RowOk rows row sent rs → rs[p]? = some r → (rowOf d).drop r = es →
    RowOk rows (runRow p es row sent r).1 (runRow p es row sent r).2.1 (rs.set p (runRow p es row sent r).2.2)
  | [], row, sent, rs, r, i, hp, he => by simp only [runRow, set_self hp]; exact i
  | e :: es, row, sent, rs, r, i, hp, he => by
    have ev : evAt rows p r = some e := by
      unfold evAt
      rw [hd]
      have := congrArg (fun l => l[0]?) he
      simpa using this
    have he2 : (rowOf d).drop (r + 1) = es := by
      have := congrArg (List.drop 1) he
      simpa [List.drop_drop, Nat.add_comm] using this
    unfold runRow
    cases w : waits sent e with
    | true => simp only [if_true, set_self hp]; exact i
    | false =>
      simp only [Bool.false_eq_true, if_false]
      obtain ⟨hl, _⟩ := List.getElem?_eq_some_iff.mp hp
      have ih := run_rowok hd (es := es) (i.snoc hp ev w) (List.getElem?_set_self hl) he2
      rw [List.set_set] at ih
      exact ih
theorem rowok_len {rows : List D} {row : List (Nat × Nat)} {sent : List Int} {rs : List Nat} (h : RowOk rows row sent rs) : rs.length = rows.length := by
  induction h with
  | nil => simp
  | snoc _ _ _ _ ih => simpa using ih
theorem sweep_rowok {rows : List D} : ∀ {ds : List D} {p : Nat} {z : One}, rows.drop p = ds → RowOk rows z.1 z.2.1 z.2.2 → RowOk rows (sweep p ds z).1 (sweep p ds z).2.1 (sweep p ds z).2.2
  | [], p, z, hd, i => i
  | d :: ds, p, z, hd, i => by
    have hp : rows[p]? = some d := by
      have := congrArg (fun l => l[0]?) hd
      simpa using this
    have hd2 : rows.drop (p + 1) = ds := by
      have := congrArg (List.drop 1) hd
      simpa [List.drop_drop, Nat.add_comm] using this
    obtain ⟨hp1, _⟩ := List.getElem?_eq_some_iff.mp hp
    have hp' : p < z.2.2.length := by rw [rowok_len i]; exact hp1
    have g : z.2.2[p]? = some z.2.2[p] := List.getElem?_eq_getElem hp'
    have gd : z.2.2.getD p 0 = z.2.2[p] := by simp [List.getD, g]
    unfold sweep
    rw [gd]
    exact sweep_rowok (ds := ds) (p := p + 1) hd2 (run_rowok hp i g rfl)
theorem runs_rowok {rows : List D} : ∀ {k : Nat} {z : One}, RowOk rows z.1 z.2.1 z.2.2 → RowOk rows (runs rows k z).1 (runs rows k z).2.1 (runs rows k z).2.2
  | 0, z, i => i
  | k + 1, z, i => by
    have v2 := sweep_rowok (ds := rows) (p := 0) (z := z) rfl i
    unfold runs
    by_cases q : z.1.length < (sweep 0 rows z).1.length
    · rw [if_pos q]; exact runs_rowok v2
    · rw [if_neg q]; exact v2
theorem one_rowok {rows : List D} : RowOk rows (oneRow rows).1 (oneRow rows).2.1 (oneRow rows).2.2 := runs_rowok (z := z0 rows) .nil
end Th

set_option linter.all false
set_option maxRecDepth 100000
set_option maxHeartbeats 1000000
/-! Who sent a letter. -/
namespace Th
open PySem L2 Mi LL
/-- a letter is sent once, taken once -/
theorem mark_once {rows : List D} (h : (marksAll rows).Nodup) {p r q k : Nat} {e e' : D} {m : Str × Int} (h1 : evAt rows p r = some e) (h2 : evAt rows q k = some e') (m1 : markOf e = some m) (m2 : markOf e' = some m) : p = q ∧ r = k := by
  unfold marksAll marksOf at h
  unfold List.Nodup at h
  rw [List.pairwise_flatMap] at h
  unfold evAt at h1 h2
  obtain ⟨d, hd, h1⟩ := Option.bind_eq_some_iff.mp h1
  obtain ⟨d', hd', h2⟩ := Option.bind_eq_some_iff.mp h2
  have in1 : m ∈ (rowOf d).filterMap markOf := List.mem_filterMap.mpr ⟨e, List.mem_of_getElem? h1, m1⟩
  have in2 : m ∈ (rowOf d').filterMap markOf := List.mem_filterMap.mpr ⟨e', List.mem_of_getElem? h2, m2⟩
  obtain ⟨b1, g1⟩ := List.getElem?_eq_some_iff.mp hd
  obtain ⟨b2, g2⟩ := List.getElem?_eq_some_iff.mp hd'
  have pq : p = q := by
    have w := List.pairwise_iff_getElem.mp h.2
    rcases Nat.lt_trichotomy p q with c | c | c
    · exact absurd rfl (w p q b1 b2 c m (by rw [g1]; exact in1) m (by rw [g2]; exact in2))
    · exact c
    · exact absurd rfl (w q p b2 b1 c m (by rw [g2]; exact in2) m (by rw [g1]; exact in1))
  subst pq
  rw [hd] at hd'
  cases hd'
  refine ⟨rfl, ?_⟩
  have z := h.1 d (List.mem_of_getElem? hd)
  rw [List.pairwise_filterMap] at z
  have w := List.pairwise_iff_getElem.mp z
  obtain ⟨c1, f1⟩ := List.getElem?_eq_some_iff.mp h1
  obtain ⟨c2, f2⟩ := List.getElem?_eq_some_iff.mp h2
  rcases Nat.lt_trichotomy r k with c | c | c
  · exact absurd rfl (w r k c1 c2 c m (by rw [f1]; exact m1) m (by rw [f2]; exact m2))
  · exact c
  · exact absurd rfl (w k r c2 c1 c m (by rw [f2]; exact m2) m (by rw [f1]; exact m1))
abbrev Pl := Nat × Nat
def evP (rows : List D) (x : Pl) : Option D := evAt rows x.1 (x.2 - 1)
def takeOf (e : D) : Option Int := match markOf e with
  | some (k, l) => if k == Str.ofString "take" then some l else none
  | none => none
def sendOf (e : D) : Option Int := match markOf e with
  | some (k, l) => if k == Str.ofString "send" then some l else none
  | none => none
theorem ev_kind {e : D} (h : isEventD e = true) : (∃ c, e = .tup [.str "step", c] ∧ takeOf e = none ∧ sendOf e = none) ∨ (∃ l c, e = .tup [.str "send", .int l, c] ∧ takeOf e = none ∧ sendOf e = some l) ∨ ∃ l c, e = .tup [.str "take", .int l, c] ∧ takeOf e = some l ∧ sendOf e = none := by
  have n1 : (Str.ofString "send" == Str.ofString "take") = false := by decide +kernel
  have n2 : (Str.ofString "take" == Str.ofString "send") = false := by decide +kernel
  rcases event_cases h with ⟨z, rfl, hm⟩ | ⟨k, i, z, rfl, hk, h1, h2, hm⟩
  · exact .inl ⟨z, rfl, by simp [takeOf, hm], by simp [sendOf, hm]⟩
  · rcases hk with rfl | rfl
    · exact .inr (.inl ⟨i, z, rfl, by simp [takeOf, hm, n1], by simp [sendOf, hm]⟩)
    · exact .inr (.inr ⟨i, z, rfl, by simp [takeOf, hm], by simp [sendOf, hm, n2]⟩)
theorem take_mark {e : D} {l : Int} (h : takeOf e = some l) : markOf e = some (Str.ofString "take", l) := by
  unfold takeOf at h
  split at h
  · rename_i k j hm
    split at h
    · rename_i c
      cases h
      have := beq_iff_eq.mp c
      subst this
      exact hm
    · cases h
  · cases h
theorem send_mark {e : D} {l : Int} (h : sendOf e = some l) : markOf e = some (Str.ofString "send", l) := by
  unfold sendOf at h
  split at h
  · rename_i k j hm
    split at h
    · rename_i c
      cases h
      have := beq_iff_eq.mp c
      subst this
      exact hm
    · cases h
  · cases h
/-- x takes what y sends -/
def Sender (rows : List D) (x y : Pl) : Prop := ∃ l e e', evP rows x = some e ∧ takeOf e = some l ∧ evP rows y = some e' ∧ sendOf e' = some l
theorem rowok_mem {rows : List D} {row : List Pl} {sent : List Int} {rs : List Nat} (h : RowOk rows row sent rs) : ∀ x : Pl, x ∈ row ↔ ∃ k, rs[x.1]? = some k ∧ 1 ≤ x.2 ∧ x.2 ≤ k := by
  induction h with
  | nil =>
    intro x
    simp only [List.not_mem_nil, false_iff]
    rintro ⟨k, h, h1, h2⟩
    rw [List.getElem?_replicate] at h
    split at h <;> cases h
    omega
  | @snoc row sent rs p r e h hp he w ih =>
    intro x
    obtain ⟨hl, _⟩ := List.getElem?_eq_some_iff.mp hp
    rw [List.mem_append, ih x, List.mem_singleton]
    obtain ⟨q, n⟩ := x
    simp only
    by_cases c : p = q
    · subst c
      simp only [List.getElem?_set_self hl, hp, Option.some.injEq, Prod.mk.injEq, true_and, exists_eq_left']
      omega
    · simp only [List.getElem?_set_ne c, Prod.mk.injEq]
      constructor
      · rintro (h | h)
        · exact h
        · exact absurd h.1.symm c
      · exact .inl
theorem rowok_ev {rows : List D} {row : List Pl} {sent : List Int} {rs : List Nat} (h : RowOk rows row sent rs) : ∀ x ∈ row, 1 ≤ x.2 ∧ ∃ e, evP rows x = some e := by
  induction h with
  | nil => intro x hx; cases hx
  | snoc h hp he w ih =>
    intro x hx
    rcases List.mem_append.mp hx with hx | hx
    · exact ih x hx
    · rw [List.mem_singleton.mp hx]
      exact ⟨by simp, _, by unfold evP; simpa using he⟩
/-- the senders of the letters, as they are found along the row -/
abbrev SS := List (Int × Pl) × List (Pl × Pl)
def seStep (rows : List D) (s : SS) (x : Pl) : SS := match (evP rows x).bind sendOf with
  | some l => (aput s.1 l x, s.2)
  | none => match (evP rows x).bind takeOf with
    | some l => (match aget s.1 l with
      | some y => (s.1, aput s.2 x y)
      | none => s)
    | none => s
structure SeOk (rows : List D) (row : List Pl) (sent : List Int) (s : SS) : Prop where
  a1 : ∀ l, l ∈ sent → ∃ y, aget s.1 l = some y
  a2 : ∀ l y, aget s.1 l = some y → y ∈ row ∧ (evP rows y).bind sendOf = some l
  b1 : ∀ x ∈ row, ∀ l, (evP rows x).bind takeOf = some l → ∃ y, aget s.2 x = some y
  b2 : ∀ x y, aget s.2 x = some y → x ∈ row ∧ y ∈ row ∧ Sender rows x y
  len1 : s.1.length ≤ row.length
  len2 : s.2.length ≤ row.length
theorem isEv_of {rows : List D} (ha : ∀ d ∈ rows, isProcD d = true) {p r : Nat} {e : D} (h : evAt rows p r = some e) : isEventD e = true := by
  unfold evAt at h
  obtain ⟨d, hd, h⟩ := Option.bind_eq_some_iff.mp h
  obtain ⟨ys, rfl, _, he⟩ := proc_ev (ha d (List.mem_of_getElem? hd))
  exact he e (List.mem_of_getElem? h)
theorem waits_take {sent : List Int} {e : D} {l : Int} (w : waits sent e = false) (h : takeOf e = some l) : l ∈ sent := by
  have := take_mark h
  unfold waits at w
  rw [this] at w
  simpa using w
theorem sends_eq {sent : List Int} {e : D} : sends sent e = match sendOf e with
    | some l => insL sent l
    | none => sent := by
  unfold sends sendOf
  cases markOf e with
  | none => rfl
  | some m =>
    obtain ⟨k, l⟩ := m
    cases hb : k == Str.ofString "send" <;> simp only [hb] <;> rfl
theorem se_ok {rows : List D} (ha : ∀ d ∈ rows, isProcD d = true) {row : List Pl} {sent : List Int} {rs : List Nat} (h : RowOk rows row sent rs) : SeOk rows row sent (row.foldl (seStep rows) ([], [])) := by
  induction h with
  | nil => exact ⟨fun l h => (by cases h), fun l y h => (by cases h), fun x hx => (by cases hx), fun x y h => (by cases h), by simp, by simp⟩
  | @snoc row sent rs p r e h hp he w ih =>
    rw [List.foldl_append]
    simp only [List.foldl_cons, List.foldl_nil]
    generalize row.foldl (seStep rows) ([], []) = s at ih
    have ex : evP rows (p, r + 1) = some e := by unfold evP; simpa using he
    have new : (p, r + 1) ∉ row := by
      intro hx
      obtain ⟨k, h1, h2, h3⟩ := (rowok_mem h _).mp hx
      simp only at h1 h2 h3
      rw [hp] at h1
      cases h1
      omega
    have nb : aget s.2 (p, r + 1) = none := by
      cases q : aget s.2 (p, r + 1) with
      | none => rfl
      | some y => exact absurd (ih.b2 _ _ q).1 new
    have im : ∀ {x : Pl}, x ∈ row → x ∈ row ++ [(p, r + 1)] := fun hx => List.mem_append_left _ hx
    rcases ev_kind (isEv_of ha he) with ⟨c, hc, t0, s0⟩ | ⟨l, c, hc, t0, s0⟩ | ⟨l, c, hc, t0, s0⟩
    · have e1 : seStep rows s (p, r + 1) = s := by simp [seStep, ex, t0, s0]
      rw [e1, sends_eq, s0]
      refine ⟨ih.a1, fun l y h => ⟨im (ih.a2 l y h).1, (ih.a2 l y h).2⟩, fun x hx l hl => ?_, fun x y h => ⟨im (ih.b2 x y h).1, im (ih.b2 x y h).2.1, (ih.b2 x y h).2.2⟩, by have := ih.len1; simp; omega, by have := ih.len2; simp; omega⟩
      rcases List.mem_append.mp hx with hx | hx
      · exact ih.b1 x hx l hl
      · rw [List.mem_singleton.mp hx] at hl
        rw [ex] at hl
        simp [t0] at hl
    · have e1 : seStep rows s (p, r + 1) = (aput s.1 l (p, r + 1), s.2) := by simp [seStep, ex, s0]
      rw [e1, sends_eq, s0]
      refine ⟨fun j hj => ?_, fun j y h => ?_, fun x hx j hl => ?_, fun x y h => ⟨im (ih.b2 x y h).1, im (ih.b2 x y h).2.1, (ih.b2 x y h).2.2⟩, by have := ih.len1; have := aput_len (m := s.1) (k := l) (v := (p, r + 1)); simp; omega, by have := ih.len2; simp; omega⟩
      · simp only [aget_put]
        by_cases q : l = j
        · exact ⟨_, if_pos q⟩
        · obtain ⟨y, hy⟩ := ih.a1 j (by
            rcases ins_mem.mp hj with h | h
            · exact h
            · exact absurd h.symm q)
          exact ⟨y, by rw [if_neg q]; exact hy⟩
      · simp only [aget_put] at h
        by_cases q : l = j
        · rw [if_pos q] at h
          cases h
          subst q
          exact ⟨by simp, by simp [ex, s0]⟩
        · rw [if_neg q] at h
          exact ⟨im (ih.a2 j y h).1, (ih.a2 j y h).2⟩
      · rcases List.mem_append.mp hx with hx | hx
        · exact ih.b1 x hx j hl
        · rw [List.mem_singleton.mp hx, ex] at hl
          simp [t0] at hl
    · have hl := waits_take w t0
      obtain ⟨y0, hy0⟩ := ih.a1 l hl
      have e1 : seStep rows s (p, r + 1) = (s.1, aput s.2 (p, r + 1) y0) := by simp [seStep, ex, s0, t0, hy0]
      obtain ⟨y1, y2⟩ := ih.a2 l y0 hy0
      rw [e1, sends_eq, s0]
      refine ⟨ih.a1, fun l y h => ⟨im (ih.a2 l y h).1, (ih.a2 l y h).2⟩, fun x hx j hl => ?_, fun x y h => ?_, by have := ih.len1; simp; omega, by have := ih.len2; have := aput_len (m := s.2) (k := (p, r + 1)) (v := y0); simp; omega⟩
      · simp only [aget_put]
        by_cases q : (p, r + 1) = x
        · exact ⟨_, if_pos q⟩
        · rw [if_neg q]
          rcases List.mem_append.mp hx with hx | hx
          · exact ih.b1 x hx j hl
          · exact absurd (List.mem_singleton.mp hx).symm q
      · simp only [aget_put] at h
        by_cases q : (p, r + 1) = x
        · rw [if_pos q] at h
          cases h
          subst q
          obtain ⟨e', h1, h2⟩ := Option.bind_eq_some_iff.mp y2
          exact ⟨by simp, im y1, l, e, e', ex, t0, h1, h2⟩
        · rw [if_neg q] at h
          exact ⟨im (ih.b2 x y h).1, im (ih.b2 x y h).2.1, (ih.b2 x y h).2.2⟩
theorem sender_fun {rows : List D} (h : (marksAll rows).Nodup) {x y z : Pl} (h1 : Sender rows x y) (h2 : Sender rows x z) (y1 : 1 ≤ y.2) (z1 : 1 ≤ z.2) : y = z := by
  obtain ⟨l, e, e', a, b, c, d⟩ := h1
  obtain ⟨l', f, f', a', b', c', d'⟩ := h2
  rw [a] at a'
  cases a'
  rw [b] at b'
  cases b'
  obtain ⟨p, q⟩ := mark_once h c c' (send_mark d) (send_mark d')
  exact Prod.ext p (by omega)
end Th

set_option linter.all false
set_option maxRecDepth 100000
set_option maxHeartbeats 1000000
/-! _sends_of. -/
namespace Th
open PySem L2 Mi LL
theorem rowok_last {rows : List D} {pre : List Pl} {x : Pl} {sent : List Int} {rs : List Nat} (h : RowOk rows (pre ++ [x]) sent rs) : ∃ sent' rs' r e, RowOk rows pre sent' rs' ∧ x.2 = r + 1 ∧ rs'[x.1]? = some r ∧ evAt rows x.1 r = some e ∧ waits sent' e = false := by
  generalize hl : pre ++ [x] = l at h
  cases h with
  | nil => simp at hl
  | @snoc row sent0 rs0 p r e h hp he w =>
    obtain ⟨h1, h2⟩ := List.append_inj' hl rfl
    subst h1
    cases List.singleton_inj.mp h2
    exact ⟨sent0, rs0, r, e, h, rfl, hp, he, w⟩
theorem rowok_pre {rows : List D} {pre suf : List Pl} {sent : List Int} {rs : List Nat} (h : RowOk rows (pre ++ suf) sent rs) : ∃ sent' rs', RowOk rows pre sent' rs' := by
  generalize hl : pre ++ suf = l at h
  induction h generalizing suf with
  | nil =>
    simp at hl
    rw [hl.1]
    exact ⟨_, _, .nil⟩
  | @snoc row sent0 rs0 p r e h hp he w ih =>
    rcases List.eq_nil_or_concat suf with rfl | ⟨t, y, rfl⟩
    · rw [List.append_nil] at hl
      rw [hl]
      exact ⟨_, _, h.snoc hp he w⟩
    · rw [List.concat_eq_append, ← List.append_assoc] at hl
      obtain ⟨h1, h2⟩ := List.append_inj' hl rfl
      exact ih h1
theorem rowok_at {rows : List D} {pre suf : List Pl} {x : Pl} {sent : List Int} {rs : List Nat} (h : RowOk rows (pre ++ x :: suf) sent rs) : ∃ sent' rs' r e, RowOk rows pre sent' rs' ∧ x.2 = r + 1 ∧ rs'[x.1]? = some r ∧ evAt rows x.1 r = some e ∧ waits sent' e = false := by
  have : pre ++ x :: suf = (pre ++ [x]) ++ suf := by simp
  rw [this] at h
  obtain ⟨_, _, h⟩ := rowok_pre h
  exact rowok_last h
def seBody : Ss := (.cons (.set 5 (.idx (.idx (.var 0) (.var 3)) (.bin .sub (.var 4) (.int 1))))
      (.cons (.iff (.cmp .eq (.idx (.var 5) (.int 0)) (.str "send"))
        (.cons (.dput (.var 1) (.idx (.var 5) (.int 1)) (.tup (.cons (.var 3) (.cons (.var 4) .nil))))
        .nil)
        (.cons (.iff (.cmp .eq (.idx (.var 5) (.int 0)) (.str "take"))
          (.cons (.dputT (.var 2) (.cons (.var 3) (.cons (.var 4) .nil)) (.dget (.var 1) (.idx (.var 5) (.int 1))))
          .nil)
          .nil)
        .nil))
      .nil))
def SeS (st : Store) (s : SS) (row : List Pl) : Store := st ++ [DIC KI rowD s.1, DIC KP rowD s.2, .lst (row.map rowD)]
section
variable {st : Store} {s : SS} {row : List Pl}
theorem ses_0 : (SeS st s row)[st.length]? = some (DIC KI rowD s.1) := by simp [SeS]
theorem ses_1 : (SeS st s row)[st.length + 1]? = some (DIC KP rowD s.2) := by simp [SeS]
theorem ses_2 : (SeS st s row)[st.length + 2]? = some (.lst (row.map rowD)) := by simp [SeS]
theorem ses_set0 {a : List (Int × Pl)} : (SeS st s row).set st.length (DIC KI rowD a) = SeS st (a, s.2) row := by simp [SeS]
theorem ses_set1 {a : List (Pl × Pl)} : (SeS st s row).set (st.length + 1) (DIC KP rowD a) = SeS st (s.1, a) row := by
  unfold SeS
  rw [List.set_append_right _ _ (by omega)]
  simp
theorem ev_rows {rows : List D} (ha : ∀ d ∈ rows, isProcD d = true) {p r : Nat} {e : D} (h : evAt rows p r = some e) : ∃ ys, rows[p]? = some (.tup ys) ∧ ys[r]? = some e := by
  unfold evAt at h
  obtain ⟨d, hd, h⟩ := Option.bind_eq_some_iff.mp h
  obtain ⟨ys, rfl, _, he⟩ := proc_ev (ha d (List.mem_of_getElem? hd))
  exact ⟨ys, hd, h⟩
theorem se_step {m p r : Nat} {rows : List D} {x3 x4 x5 : Option D} {e : D} (ha : ∀ d ∈ rows, isProcD d = true) (h : evAt rows p r = some e) (hl : row.length < 1000) (l1 : s.1.length ≤ row.length) (l2 : s.2.length ≤ row.length) (hs : ∀ l, takeOf e = some l → ∃ y, aget s.1 l = some y) :
    bodyF (.tup [3, 4]) (evSs (callK L m) L.cs L.sub L.wf seBody) (rowD (p, r + 1)) [some (.tup rows), some (.ref st.length), some (.ref (st.length + 1)), x3, x4, x5] (SeS st s row) =
      .nx [some (.tup rows), some (.ref st.length), some (.ref (st.length + 1)), some (.int p), some (.int ((r + 1 : Nat) : Int)), some e] (SeS st (seStep rows s (p, r + 1)) row) := by
  obtain ⟨ys, h1, h2⟩ := ev_rows ha h
  have ex : evP rows (p, r + 1) = some e := by unfold evP; simpa using h
  have cs : ((r + 1 : Nat) : Int) - 1 = (r : Int) := by omega
  have hL1 : s.1.length < LINE := by simp only [LINE]; omega
  have hL2 : s.2.length < LINE := by simp only [LINE]; omega
  unfold rowD
  rw [bodyF_two]
  rcases ev_kind (isEv_of ha h) with ⟨c, rfl, t0, s0⟩ | ⟨l, c, rfl, t0, s0⟩ | ⟨l, c, rfl, t0, s0⟩
  · have e1 : seStep rows s (p, r + 1) = s := by simp [seStep, ex, t0, s0]
    rw [e1]
    simp [seBody, -Int.natCast_add, cs, atI_nat', h1, h2, eq_str ok_step ok_send, eq_str ok_step ok_take]
  · have e1 : seStep rows s (p, r + 1) = (aput s.1 l (p, r + 1), s.2) := by simp [seStep, ex, s0]
    have dp := dput_run_ (K := KI) (ev := rowD) (k := l) (v := (p, r + 1)) (ses_0 (st := st) (s := s) (row := row)) hL1
    rw [ses_set0] at dp
    change dputop false (.ref st.length) (.int l) (.tup [.int p, .int ((r + 1 : Nat) : Int)]) _ = _ at dp
    rw [e1]
    simp [seBody, -Int.natCast_add, cs, atI_nat', h1, h2, eq_str ok_send ok_send, LINE, dp]
  · obtain ⟨y, hy⟩ := hs l t0
    have e1 : seStep rows s (p, r + 1) = (s.1, aput s.2 (p, r + 1) y) := by simp [seStep, ex, s0, t0, hy]
    have dg := dget_run (K := KI) (ev := rowD) (ses_0 (st := st) (s := s) (row := row)) hy
    change dgetop (.ref st.length) (.int l) _ = _ at dg
    have dp := dput_run_ (K := KP) (ev := rowD) (k := (p, r + 1)) (v := y) (ses_1 (st := st) (s := s) (row := row)) hL2
    rw [ses_set1] at dp
    change dputop true (.ref (st.length + 1)) (.tup [.int p, .int ((r + 1 : Nat) : Int)]) (rowD y) _ = _ at dp
    rw [e1]
    simp [seBody, -Int.natCast_add, cs, atI_nat', h1, h2, eq_str ok_take ok_send, eq_str ok_take ok_take, LINE, dp, dg]
end
def sendsOf (rows : List D) : List (Pl × Pl) := ((oneRow rows).1.foldl (seStep rows) ([], [])).2
section
variable {st : Store}
theorem sends_run {n : Nat} (hn : 2 ≤ n) {rows : List D} (hr : rows.length ≤ 6) (ha : ∀ d ∈ rows, isProcD d = true) (ht : total rows ≤ 500) : callK L n "_sends_of" [.tup rows] st = .ok (.ref st.length) (st ++ [DIC KP rowD (sendsOf rows)]) := by
  obtain ⟨m, rfl, hm⟩ := pred_ hn
  rw [call_open fn__sends_of rfl]
  obtain ⟨i, _, _⟩ := runs_iv ht ha (k := 501) (z := z0 rows) z0_in z0_iv (by omega)
  change InR rows (oneRow rows) at i
  have bd := i.bound
  have ro := one_row_ok (n := m) (st := st ++ [.dic false [], .dic true []]) hm hr ha ht
  generalize hR : (oneRow rows).1 = R at ro bd
  have rk := one_rowok (rows := rows)
  rw [hR] at rk
  have lp := (for_foldm (σ := SS × Option D × Option D × Option D) (step := bodyF (.tup [3, 4]) (evSs (callK L m) L.cs L.sub L.wf seBody)) (gd := some (st.length + 2, R.map rowD)) (q := rowD)
    (fun s => [some (.tup rows), some (.ref st.length), some (.ref (st.length + 1)), s.2.1, s.2.2.1, s.2.2.2]) (fun s => SeS st s.1 R)
    (fun s x => (seStep rows s.1 x, some (.int x.1), some (.int x.2), evP rows x)) (fun s xs => ∃ pre, pre ++ xs = R ∧ s.1 = pre.foldl (seStep rows) ([], []))
    (fun s xs _ => ses_2) (fun s x xs hI => by
      obtain ⟨pre, hp, e⟩ := hI
      rw [← hp] at rk
      obtain ⟨sent', rs', r, ev, rk', e1, e2, e3, e4⟩ := rowok_at rk
      have so := se_ok ha rk'
      rw [← e] at so
      obtain ⟨p, x2⟩ := x
      simp only at e1 e2 e3
      subst e1
      have hlen : pre.length ≤ R.length := by rw [← hp]; simp
      refine ⟨?_, pre ++ [(p, r + 1)], by rw [← hp]; simp, by rw [e, List.foldl_append]; rfl⟩
      rw [se_step ha e3 (by omega) (Nat.le_trans so.len1 hlen) (Nat.le_trans so.len2 hlen) fun l hl => so.a1 l (waits_take e4 hl)]
      have ex : evP rows (p, r + 1) = some ev := by unfold evP; simpa using e3
      simp only [ex])
    (xs := R) (s := (([], []), none, none, none)) ⟨[], rfl, rfl⟩).1
  have gl : (st ++ [MO.dic false [], .dic true [], .lst (R.map rowD)])[st.length + 2]? = some (.lst (R.map rowD)) := by simp
  have s0 : SeS st ([], []) R = st ++ [MO.dic false [], .dic true [], .lst (R.map rowD)] := rfl
  simp only [s0] at lp
  simp at ro
  simp [fd__sends_of, startE, ro, LINE, expR_ref gl]
  change gc st (Out.fin (Out.bind (forL (bodyF (.tup [3, 4]) (evSs (callK L m) L.cs L.sub L.wf seBody)) (some (st.length + 2, R.map rowD)) (R.map rowD) [some (.tup rows), some (.ref st.length), some (.ref (st.length + 1)), none, none, none] (st ++ [MO.dic false [], .dic true [], .lst (R.map rowD)])) _)) = _
  rw [lp]
  have hs : ∀ (xs : List Pl) (s : SS × Option D × Option D × Option D), (xs.foldl (fun s x => (seStep rows s.1 x, some (D.int x.1), some (D.int x.2), evP rows x)) s).1 = xs.foldl (seStep rows) s.1 := by
    intro xs
    induction xs with
    | nil => intro s; rfl
    | cons x xs ih => intro s; simp only [List.foldl_cons]; rw [ih]
  simp
  rw [hs]
  unfold sendsOf
  rw [hR]
  exact gc_newk (j := 1) rfl (dic_closed fun _ _ => rfl)
end
end Th

set_option linter.all false
set_option maxRecDepth 100000
set_option maxHeartbeats 1000000
/-! Clocks: what they are. -/
namespace Th
open PySem L2 Mi LL
abbrev CC := List (Pl × List Nat)
def zerosL (k : Nat) : List Nat := List.replicate k 0
def clBase (k : Nat) (C : CC) (x : Pl) : List Nat := (aget C (x.1, x.2 - 1)).getD (zerosL k)
def clVal (k : Nat) (B : List (Pl × Pl)) (C : CC) (x : Pl) : List Nat := (match aget B x with
  | some y => List.zipWith max (clBase k C x) ((aget C y).getD (zerosL k))
  | none => clBase k C x).set x.1 x.2
def clStep (k : Nat) (B : List (Pl × Pl)) (C : CC) (x : Pl) : CC := aput C x (clVal k B C x)
/-- B says who sends what is taken -/
def BOk (rows : List D) (B : List (Pl × Pl)) : Prop := ∀ x y, aget B x = some y → Sender rows x y ∧ 1 ≤ y.2
structure ClOk (rows : List D) (B : List (Pl × Pl)) (pre : List Pl) (C : CC) : Prop where
  key : ∀ x, x ∈ pre ↔ ∃ c, aget C x = some c
  len : ∀ x c, aget C x = some c → c.length = rows.length
  val : ∀ x ∈ pre, aget C x = some (clVal rows.length B C x)
  sz : C.length ≤ pre.length
theorem sender_in {rows : List D} (ha : ∀ d ∈ rows, isProcD d = true) (hm : (marksAll rows).Nodup) {pre : List Pl} {sent : List Int} {rs : List Nat} (h : RowOk rows pre sent rs) {x y : Pl} (hx : x ∈ pre) (s : Sender rows x y) (hy : 1 ≤ y.2) : y ∈ pre := by
  have so := se_ok ha h
  obtain ⟨l, e, e', a, b, c, d⟩ := id s
  obtain ⟨z, hz⟩ := so.b1 x hx l (by rw [a]; exact b)
  obtain ⟨_, z2, z3⟩ := so.b2 x z hz
  rw [sender_fun hm s z3 hy (rowok_ev h z z2).1]
  exact z2
theorem sender_last {rows : List D} (ha : ∀ d ∈ rows, isProcD d = true) (hm : (marksAll rows).Nodup) {pre : List Pl} {sent : List Int} {rs : List Nat} (h : RowOk rows pre sent rs) {p r : Nat} {e : D} {y : Pl} (he : evAt rows p r = some e) (w : waits sent e = false) (s : Sender rows (p, r + 1) y) (hy : 1 ≤ y.2) : y ∈ pre := by
  have so := se_ok ha h
  obtain ⟨l, f, e', a, b, c, d⟩ := id s
  have : f = e := by
    unfold evP at a
    simp only [Nat.add_sub_cancel, he] at a
    cases a; rfl
  subst this
  obtain ⟨z, hz⟩ := so.a1 l (waits_take w b)
  obtain ⟨z1, z2⟩ := so.a2 l z hz
  obtain ⟨g, g1, g2⟩ := Option.bind_eq_some_iff.mp z2
  have s2 : Sender rows (p, r + 1) z := ⟨l, f, g, a, b, g1, g2⟩
  rw [sender_fun hm s s2 hy (rowok_ev h z z1).1]
  exact z1
theorem clVal_len {k : Nat} {B : List (Pl × Pl)} {C : CC} {x : Pl} (h : ∀ x c, aget C x = some c → c.length = k) : (clVal k B C x).length = k := by
  have g : ∀ z, ((aget C z).getD (zerosL k)).length = k := fun z => by
    cases e : aget C z with
    | none => simp [zerosL]
    | some c => simpa using h z c e
  unfold clVal
  rw [List.length_set]
  cases aget B x with
  | none => exact g _
  | some y => simp only [List.length_zipWith]; rw [g, clBase, g, Nat.min_self]
theorem cl_ok {rows : List D} {B : List (Pl × Pl)} (ha : ∀ d ∈ rows, isProcD d = true) (hm : (marksAll rows).Nodup) (hB : BOk rows B) {row : List Pl} {sent : List Int} {rs : List Nat} (h : RowOk rows row sent rs) : ClOk rows B row (row.foldl (clStep rows.length B) []) := by
  induction h with
  | nil => exact ⟨fun x => ⟨fun h => (by cases h), fun ⟨c, h⟩ => (by cases h)⟩, fun x c h => (by cases h), fun x hx => (by cases hx), by simp⟩
  | @snoc row sent rs p r e h hp he w ih =>
    rw [List.foldl_append]
    simp only [List.foldl_cons, List.foldl_nil]
    generalize row.foldl (clStep rows.length B) [] = C at ih
    have new : (p, r + 1) ∉ row := by
      intro hx
      obtain ⟨k, h1, h2, h3⟩ := (rowok_mem h _).mp hx
      simp only at h1 h2 h3
      rw [hp] at h1
      cases h1
      omega
    have new2 : ∀ x ∈ row, (x.1, x.2 - 1) ≠ (p, r + 1) := by
      intro x hx z
      obtain ⟨k, h1, h2, h3⟩ := (rowok_mem h _).mp hx
      simp only [Prod.mk.injEq] at z
      rw [z.1, hp] at h1
      cases h1
      omega
    have keep : ∀ z, z ≠ (p, r + 1) → ∀ v, aget (aput C (p, r + 1) v) z = aget C z := fun z hz v => by rw [aget_put, if_neg (Ne.symm hz)]
    have same : ∀ v x, (x ∈ row ∨ x = (p, r + 1)) → clVal rows.length B (aput C (p, r + 1) v) x = clVal rows.length B C x := by
      intro v x hx
      have e1 : (x.1, x.2 - 1) ≠ (p, r + 1) := by
        rcases hx with hx | rfl
        · exact new2 x hx
        · simp
      have e2 : ∀ y, aget B x = some y → y ≠ (p, r + 1) := by
        intro y hy
        obtain ⟨s, y1⟩ := hB x y hy
        rcases hx with hx | rfl
        · rintro rfl
          exact new (sender_in ha hm h hx s y1)
        · rintro rfl
          exact new (sender_last ha hm h he w s y1)
      unfold clVal clBase
      rw [keep _ e1]
      cases q : aget B x with
      | none => rfl
      | some y => simp only [keep y (e2 y q)]
    unfold clStep
    refine ⟨fun x => ?_, fun x c hc => ?_, fun x hx => ?_, ?_⟩
    · rw [List.mem_append, List.mem_singleton, aget_put, ih.key x]
      by_cases q : x = (p, r + 1)
      · subst q; simp
      · simp [q, Ne.symm q]
    · rw [aget_put] at hc
      by_cases q : (p, r + 1) = x
      · rw [if_pos q] at hc
        cases hc
        exact clVal_len ih.len
      · rw [if_neg q] at hc
        exact ih.len x c hc
    · rw [same _ x (by rcases List.mem_append.mp hx with h | h; exact .inl h; exact .inr (List.mem_singleton.mp h)), aget_put]
      by_cases q : (p, r + 1) = x
      · subst q; rw [if_pos rfl]
      · rw [if_neg q]
        rcases List.mem_append.mp hx with h | h
        · exact ih.val x h
        · exact absurd (List.mem_singleton.mp h).symm q
    · have := aput_len (m := C) (k := (p, r + 1)) (v := clVal rows.length B C (p, r + 1))
      have := ih.sz
      simp
      omega
theorem sendsOf_ok {rows : List D} (ha : ∀ d ∈ rows, isProcD d = true) : BOk rows (sendsOf rows) := fun x y h => by
  have so := se_ok ha (one_rowok (rows := rows))
  obtain ⟨_, h2, h3⟩ := so.b2 x y h
  exact ⟨h3, (rowok_ev one_rowok y h2).1⟩
end Th

set_option linter.all false
set_option maxRecDepth 100000
set_option maxHeartbeats 1000000
/-! _clocks_of. -/
namespace Th
open PySem L2 Mi LL
theorem stepF_two (own : List Nat) (i j : Nat) (fc fe : Mi.Env → Store → Res) (env : Mi.Env) (x y : D) (s : Store) : stepF own (.tup [i, j]) fc fe env (.tup [x, y]) s = cstep (fc (((wipeE env own).set i (some x)).set j (some y)) s) (fun s => fe (((wipeE env own).set i (some x)).set j (some y)) s) := rfl
def clD (c : List Nat) : D := .tup (c.map natD)
def maxD : D → D
  | .tup [.int a, .int b] => .int (if b > a then b else a)
  | d => d
theorem max_zip : ∀ (a b : List Nat), (zipD (a.map natD) (b.map natD)).map maxD = (List.zipWith max a b).map natD
  | [], _ => rfl
  | _ :: _, [] => rfl
  | x :: a, y :: b => by
    have ih := max_zip a b
    unfold zipD at ih ⊢
    simp only [List.map_cons, List.zip_cons_cons, List.zipWith_cons_cons, ih]
    congr 1
    simp only [natD, maxD]
    congr 1
    split <;> omega
theorem cutG_take {α : Type} {xs : List α} {r : Nat} : cutG xs none (some (r : Int)) = xs.take r := by
  unfold cutG
  have e := HT.sIx_nat xs.length xs.length r
  rw [e, HT.sIx_none]
  simp
def clBody : Ss := (.cons (.set 6 (.dgetm (.var 2) (.tup (.cons (.var 4) (.cons (.bin .sub (.var 5) (.int 1)) .nil))) (.var 3)))
      (.cons (.iff (.din false (.tup (.cons (.var 4) (.cons (.var 5) .nil))) (.var 1))
        (.cons (.set 7 (.dget (.var 2) (.dget (.var 1) (.tup (.cons (.var 4) (.cons (.var 5) .nil))))))
        (.cons (.set 6 (.bi .tuple (.cons (.lc [("one", 8), ("other", 9)] (.tup [8, 9]) (.zip (.var 6) (.var 7)) .nil (.bi .max (.cons (.var 8) (.cons (.var 9) .nil)))) .nil)))
        .nil))
        .nil)
      (.cons (.dputT (.var 2) (.cons (.var 4) (.cons (.var 5) .nil)) (.bin .add (.bin .add (.slc (.var 6) .none (.some (.var 4))) (.tup (.cons (.var 5) .nil))) (.slc (.var 6) (.some (.bin .add (.var 4) (.int 1))) .none)))
      .nil)))
def ClS (st : Store) (C : CC) (row : List Pl) (k : Nat) (g : Store) : Store := st ++ DIC KP clD C :: .lst [.int 0] :: .lst ((zerosL k).map natD) :: .lst (row.map rowD) :: g
section
variable {st g : Store} {C : CC} {row : List Pl} {k : Nat}
theorem cls_0 : (ClS st C row k g)[st.length]? = some (DIC KP clD C) := by simp [ClS]
theorem cls_3 : (ClS st C row k g)[st.length + 3]? = some (.lst (row.map rowD)) := by simp [ClS]
theorem cls_old {i : Nat} {mo : MO} (h : st[i]? = some mo) : (ClS st C row k g)[i]? = some mo := by
  unfold ClS
  rw [List.getElem?_append_left (List.getElem?_eq_some_iff.mp h).1]; exact h
theorem cls_set0 {a : CC} : (ClS st C row k g).set st.length (DIC KP clD a) = ClS st a row k g := by simp [ClS]
theorem cls_app {h : Store} : ClS st C row k g ++ h = ClS st C row k (g ++ h) := by simp [ClS]
theorem cl_put {s : Store} (c : List Nat) {p n : Nat} (hp : p < c.length) : D.tup (cutG (c.map natD) none (some (p : Int)) ++ [.int n] ++ cutG (c.map natD) (some ((p : Int) + 1)) none) = clD (c.set p n) := by
  rw [cutG_take]
  have e := cutG_drop (xs := c.map natD) (r := p + 1) (by simp; omega)
  rw [show ((p : Int) + 1) = ((p + 1 : Nat) : Int) by omega, e]
  unfold clD
  rw [List.set_eq_take_append_cons_drop, if_pos hp]
  simp [natD, List.map_take, List.map_drop]
theorem cl_comp {m : Nat} {a1 a2 a3 a4 a5 a6 a7 a8 a9 a10 : Option D} {a b : List Nat} (s : Store) (hl : a.length ≤ 6) : compL (stepF [8, 9] (.tup [8, 9]) (evAll (callK L m) L.cs .nil) (evE (callK L m) L.cs (.bi .max (.cons (.var 8) (.cons (.var 9) .nil)))) [a1, a2, a3, a4, a5, a6, a7, a8, a9, a10]) none s.length (zipD (a.map natD) (b.map natD)) (s ++ [.lst []]) = .ok (.ref s.length) (s ++ [.lst ((List.zipWith max a b).map natD)]) := by
  rw [← max_zip]
  refine comp_run (fun x hx l => ?_) ?_
  · unfold zipD at hx
    obtain ⟨⟨u, v⟩, hz, rfl⟩ := List.mem_map.mp hx
    have hu := (List.of_mem_zip hz).1
    have hv := (List.of_mem_zip hz).2
    obtain ⟨u, _, rfl⟩ := List.mem_map.mp hu
    obtain ⟨v, _, rfl⟩ := List.mem_map.mp hv
    simp [stepF_two, wipeE, cstep, natD, maxD]
  · unfold zipD
    simp only [List.length_map, List.length_zip, LINE]
    omega
theorem cl_step {m p r b : Nat} {rows : List D} {B : List (Pl × Pl)} {x4 x5 x6 x7 x8 x9 : Option D} (hb : st[b]? = some (DIC KP rowD B)) (hp : p < k) (hk : k ≤ 6) (hC : C.length < 1000) (hlen : ∀ x c, aget C x = some c → c.length = k) (hs : ∀ y, aget B (p, r + 1) = some y → ∃ c, aget C y = some c) :
    ∃ y6 y7 y8 y9 g', bodyF (.tup [4, 5]) (evSs (callK L m) L.cs L.sub L.wf clBody) (rowD (p, r + 1)) [some (.tup rows), some (.ref b), some (.ref st.length), some (clD (zerosL k)), x4, x5, x6, x7, x8, x9] (ClS st C row k g) =
      .nx [some (.tup rows), some (.ref b), some (.ref st.length), some (clD (zerosL k)), some (.int p), some (.int ((r + 1 : Nat) : Int)), y6, y7, y8, y9] (ClS st (clStep k B C (p, r + 1)) row k (g ++ g')) := by
  have cs : ((r + 1 : Nat) : Int) - 1 = (r : Int) := by omega
  have hL : C.length < LINE := by simp only [LINE]; omega
  have dm := dgetm_run (K := KP) (ev := clD) (k := (p, r)) (y := clD (zerosL k)) (cls_0 (st := st) (C := C) (row := row) (k := k) (g := g))
  change dgetmop (.ref st.length) (.tup [.int p, .int r]) _ _ = _ at dm
  have eb : ((aget C (p, r)).map clD).getD (clD (zerosL k)) = clD (clBase k C (p, r + 1)) := by
    unfold clBase
    simp only [Nat.add_sub_cancel]
    cases aget C (p, r) <;> rfl
  rw [eb] at dm
  have bl : (clBase k C (p, r + 1)).length = k := by
    unfold clBase
    cases e : aget C (p, r + 1 - 1) with
    | none => simp [zerosL]
    | some c => simpa using hlen _ c e
  have dn := din_run (K := KP) (ev := rowD) (b := false) (k := (p, r + 1)) (cls_old (C := C) (row := row) (k := k) (g := g) hb)
  change dinop false (.ref b) (.tup [.int p, .int ((r + 1 : Nat) : Int)]) _ = _ at dn
  have fin : ∀ (c : List Nat) (g' : Store), c.length = k → dputop true (.ref st.length) (.tup [.int p, .int ((r + 1 : Nat) : Int)]) (.tup (cutG (c.map natD) none (some (p : Int)) ++ D.int ((r + 1 : Nat) : Int) :: cutG (c.map natD) (some ((p : Int) + 1)) none)) (ClS st C row k (g ++ g')) = some (ClS st (aput C (p, r + 1) (c.set p (r + 1))) row k (g ++ g')) := by
    intro c g' hc
    have cp := cl_put (s := st) (n := r + 1) c (show p < c.length by omega)
    rw [List.append_assoc] at cp
    change D.tup (cutG (c.map natD) none (some (p : Int)) ++ D.int ((r + 1 : Nat) : Int) :: cutG (c.map natD) (some ((p : Int) + 1)) none) = _ at cp
    rw [cp]
    have dp := dput_run_ (K := KP) (ev := clD) (k := (p, r + 1)) (v := c.set p (r + 1)) (cls_0 (st := st) (C := C) (row := row) (k := k) (g := g ++ g')) hL
    rw [cls_set0] at dp
    exact dp
  have lc : ∀ (c : List Nat), c.length = k → ((cutG (c.map natD) none (some (p : Int))).length ≤ 16777215 ∧ (cutG (c.map natD) none (some (p : Int))).length + 1 + (cutG (c.map natD) (some ((p : Int) + 1)) none).length ≤ 16777216) := by
    intro c hc
    have l1 := cutG_len (xs := c.map natD) (lo := none) (hi := some (p : Int))
    have l2 := cutG_len (xs := c.map natD) (lo := some ((p : Int) + 1)) (hi := none)
    rw [List.length_map] at l1 l2
    omega
  unfold rowD
  rw [bodyF_two]
  unfold clStep clVal
  have lcb := lc _ bl
  have clb : clD (clBase k C (p, r + 1)) = .tup ((clBase k C (p, r + 1)).map natD) := rfl
  rw [clb] at dm
  cases q : aget B (p, r + 1) with
  | none =>
    rw [q] at dn
    have f := fin _ [] bl
    simp only [List.append_nil] at f
    refine ⟨some (.tup ((clBase k C (p, r + 1)).map natD)), x7, x8, x9, [], ?_⟩
    simp [clBody, -Int.natCast_add, cs, LINE, isdic_run (cls_0 (st := st) (C := C) (row := row) (k := k) (g := g)), dm, dn, lcb, f]
  | some y =>
    obtain ⟨c, hc⟩ := hs y q
    rw [q] at dn
    have dg := dget_run (K := KP) (ev := rowD) (cls_old (C := C) (row := row) (k := k) (g := g) hb) q
    change dgetop (.ref b) (.tup [.int p, .int ((r + 1 : Nat) : Int)]) _ = _ at dg
    have dg2 := dget_run (K := KP) (ev := clD) (cls_0 (st := st) (C := C) (row := row) (k := k) (g := g)) hc
    change dgetop (.ref st.length) (rowD y) _ = .ok (.tup (c.map natD)) _ at dg2
    have cp := cl_comp (m := m) (a1 := some (.tup rows)) (a2 := some (.ref b)) (a3 := some (.ref st.length)) (a4 := some (clD (zerosL k))) (a5 := some (.int p)) (a6 := some (.int ((r + 1 : Nat) : Int))) (a7 := some (.tup ((clBase k C (p, r + 1)).map natD))) (a8 := some (.tup (c.map natD))) (a9 := x8) (a10 := x9) (a := clBase k C (p, r + 1)) (b := c) (ClS st C row k g) (by omega)
    have ml : (List.zipWith max (clBase k C (p, r + 1)) c).length = k := by
      rw [List.length_zipWith, bl, hlen y c hc, Nat.min_self]
    have lcm := lc _ ml
    have f := fin _ [.lst ((List.zipWith max (clBase k C (p, r + 1)) c).map natD)] ml
    rw [← cls_app] at f
    have tr := tuple_run (s := ClS st C row k g ++ [.lst ((List.zipWith max (clBase k C (p, r + 1)) c).map natD)]) (c := (ClS st C row k g).length) (xs := (List.zipWith max (clBase k C (p, r + 1)) c).map natD) (by simp)
    simp only [hc, Option.getD_some]
    generalize List.zipWith max (clBase k C (p, r + 1)) c = M at cp ml lcm f tr
    refine ⟨some (.tup (M.map natD)), some (.tup (c.map natD)), x8, x9, [.lst (M.map natD)], ?_⟩
    rw [← cls_app]
    simp [clBody, -Int.natCast_add, cs, LINE, isdic_run (cls_0 (st := st) (C := C) (row := row) (k := k) (g := g)), dm, dn, dg, dg2, cp, tr, lcm, f]
    exact cls_app.symm
end
def clocksOf (rows : List D) : CC := (oneRow rows).1.foldl (clStep rows.length (sendsOf rows)) []
section
variable {st : Store}
theorem zeros_rep (k : Nat) : (List.replicate k [D.int 0]).flatten = (zerosL k).map natD := by
  unfold zerosL
  rw [List.map_replicate]
  induction k with
  | zero => rfl
  | succ k ih => rw [List.replicate_succ, List.flatten_cons, ih, List.replicate_succ]; rfl
theorem rep_run {s : Store} {c k : Nat} (h : s[c]? = some (.lst [.int 0])) (hk : k ≤ 6) : binop .mul (.ref c) (.int k) s = .ok (.ref s.length) (s ++ [.lst ((zerosL k).map natD)]) := by
  have ok1 : okRep 1 (k : Int) := ⟨by omega, by omega, by simp [LINE]; omega⟩
  unfold binop
  simp only [h, List.length_singleton, if_pos ok1, Int.toNat_natCast, zeros_rep]
theorem clocks_run {n b : Nat} (hn : 2 ≤ n) {rows : List D} (hr : rows.length ≤ 6) (ha : ∀ d ∈ rows, isProcD d = true) (ht : total rows ≤ 500) (hm : (marksAll rows).Nodup) (hb : st[b]? = some (DIC KP rowD (sendsOf rows))) : callK L n "_clocks_of" [.tup rows, .ref b] st = .ok (.ref st.length) (st ++ [DIC KP clD (clocksOf rows)]) := by
  obtain ⟨m, rfl, hM⟩ := pred_ hn
  rw [call_open fn__clocks_of rfl]
  obtain ⟨i, _, _⟩ := runs_iv ht ha (k := 501) (z := z0 rows) z0_in z0_iv (by omega)
  change InR rows (oneRow rows) at i
  have bd := i.bound
  have ro := one_row_ok (n := m) (st := st ++ [.dic true [], .lst [.int 0], .lst ((zerosL rows.length).map natD)]) hM hr ha ht
  have rk := one_rowok (rows := rows)
  have co := cl_ok ha hm (sendsOf_ok ha) rk
  unfold clocksOf
  generalize hR : (oneRow rows).1 = R at ro bd rk co
  have lp : ∀ (suf pre : List Pl) (x4 x5 x6 x7 x8 x9 : Option D) (g : Store), pre ++ suf = R → ∃ y4 y5 y6 y7 y8 y9 g', forL (bodyF (.tup [4, 5]) (evSs (callK L m) L.cs L.sub L.wf clBody)) (some (st.length + 3, R.map rowD)) (suf.map rowD) [some (.tup rows), some (.ref b), some (.ref st.length), some (clD (zerosL rows.length)), x4, x5, x6, x7, x8, x9] (ClS st (pre.foldl (clStep rows.length (sendsOf rows)) []) R rows.length g) =
      .nx [some (.tup rows), some (.ref b), some (.ref st.length), some (clD (zerosL rows.length)), y4, y5, y6, y7, y8, y9] (ClS st (R.foldl (clStep rows.length (sendsOf rows)) []) R rows.length g') := by
    intro suf
    induction suf with
    | nil =>
      intro pre x4 x5 x6 x7 x8 x9 g hp
      rw [List.append_nil] at hp
      subst hp
      refine ⟨x4, x5, x6, x7, x8, x9, g, ?_⟩
      have ok : gdOk (some (st.length + 3, pre.map rowD)) (ClS st (pre.foldl (clStep rows.length (sendsOf rows)) []) pre rows.length g) := cls_3
      simp only [List.map_nil, forL, if_pos ok]
    | cons x suf ih =>
      intro pre x4 x5 x6 x7 x8 x9 g hp
      have rk2 := rk
      rw [← hp] at rk2
      obtain ⟨sent', rs', r, ev, rk', e1, e2, e3, e4⟩ := rowok_at rk2
      have so := cl_ok ha hm (sendsOf_ok ha) rk'
      obtain ⟨p, x2⟩ := x
      simp only at e1 e2 e3
      subst e1
      have hlen : pre.length ≤ R.length := by rw [← hp]; simp
      have hpl : p < rows.length := by rw [← rowok_len rk']; exact (List.getElem?_eq_some_iff.mp e2).1
      obtain ⟨y6, y7, y8, y9, g', s1⟩ := cl_step (m := m) (r := r) (rows := rows) (x4 := x4) (x5 := x5) (x6 := x6) (x7 := x7) (x8 := x8) (x9 := x9) (row := R) (g := g) hb hpl hr (by have := so.sz; omega) so.len (fun y hy => by
        obtain ⟨s, y1⟩ := sendsOf_ok ha _ _ hy
        exact (so.key y).mp (sender_last ha hm rk' e3 e4 s y1))
      have ok : gdOk (some (st.length + 3, R.map rowD)) (ClS st (pre.foldl (clStep rows.length (sendsOf rows)) []) R rows.length g) := cls_3
      simp only [List.map_cons, forL, if_pos ok, s1]
      have := ih (pre ++ [(p, r + 1)]) (some (.int p)) (some (.int ((r + 1 : Nat) : Int))) y6 y7 y8 y9 (g ++ g') (by rw [← hp]; simp)
      rw [List.foldl_append] at this
      exact this
  obtain ⟨y4, y5, y6, y7, y8, y9, g', lp⟩ := lp R [] none none none none none none [] rfl
  have gl : (st ++ [MO.dic true [], .lst [.int 0], .lst ((zerosL rows.length).map natD), .lst (R.map rowD)])[st.length + 3]? = some (.lst (R.map rowD)) := by simp
  have s0 : ClS st [] R rows.length [] = st ++ [MO.dic true [], .lst [.int 0], .lst ((zerosL rows.length).map natD), .lst (R.map rowD)] := rfl
  have rp := rep_run (s := st ++ [MO.dic true [], .lst [.int 0]]) (c := st.length + 1) (k := rows.length) (by simp) hr
  have tr := tuple_run (s := st ++ [MO.dic true [], .lst [.int 0], .lst ((zerosL rows.length).map natD)]) (c := st.length + 2) (xs := (zerosL rows.length).map natD) (by simp)
  simp only [List.foldl_nil, s0] at lp
  simp at ro rp
  simp [fd__clocks_of, startE, ro, LINE, expR_ref gl, rp, tr]
  change gc st (Out.fin (Out.bind (forL (bodyF (.tup [4, 5]) (evSs (callK L m) L.cs L.sub L.wf clBody)) (some (st.length + 3, R.map rowD)) (R.map rowD) [some (.tup rows), some (.ref b), some (.ref st.length), some (clD (zerosL rows.length)), none, none, none, none, none, none] (st ++ [MO.dic true [], .lst [.int 0], .lst ((zerosL rows.length).map natD), .lst (R.map rowD)])) _)) = _
  rw [lp]
  simp
  exact gc_new0 (dic_closed fun p _ => closed_map (fun _ => rfl) _)
end
end Th

set_option linter.all false
set_option maxRecDepth 100000
set_option maxHeartbeats 1000000
/-! _states_of. -/
namespace Th
open PySem L2 Mi LL
def chVal : D → Int
  | .tup [_, .int w] => w
  | _ => 0
def chStep (vs : List Int) (c : D) : List Int := match chIx c with
  | some i => vs.set i (chVal c)
  | none => vs
def chgOf : D → List D
  | .tup [_, .tup cs] => cs
  | .tup [_, _, .tup cs] => cs
  | _ => []
def evStep (vs : List Int) (e : D) : List Int := (chgOf e).foldl chStep vs
def stateOf (es : List D) : List Int := es.foldl evStep [0, 0, 0, 0]
theorem ch_len (cs : List D) (vs : List Int) : (cs.foldl chStep vs).length = vs.length := by
  induction cs generalizing vs with
  | nil => rfl
  | cons c cs ih =>
    rw [List.foldl_cons, ih]
    unfold chStep
    split <;> simp
theorem state_len (es : List D) : (stateOf es).length = 4 := by
  have : ∀ (es : List D) (vs : List Int), (es.foldl evStep vs).length = vs.length := by
    intro es
    induction es with
    | nil => intro vs; rfl
    | cons e es ih => intro vs; rw [List.foldl_cons, ih]; exact ch_len _ _
  rw [stateOf, this]; rfl
theorem ev_last {e : D} (h : isEventD e = true) : ∃ xs cs, e = .tup xs ∧ xs.getLast? = some (.tup cs) ∧ chgOf e = cs ∧ ascN 0 cs = true := by
  match e, h with
  | .tup [.str k, c], h =>
    simp only [isEventD, Bool.and_eq_true] at h
    cases c with
    | tup cs => exact ⟨_, cs, rfl, rfl, rfl, h.2⟩
    | _ => cases h.2
  | .tup [.str k, l, c], h =>
    simp only [isEventD, Bool.and_eq_true] at h
    cases c with
    | tup cs => exact ⟨_, cs, rfl, rfl, by cases l <;> rfl, h.2.2⟩
    | _ => cases h.2.2
theorem ch_form {x : D} {i : Nat} (h : chIx x = some i) : ∃ w, x = .tup [.str (varOf i), .int w] ∧ i < 4 := by
  obtain ⟨h1, w, rfl, h2⟩ := chIx_some h
  cases w with
  | int w => exact ⟨w, rfl, h1⟩
  | _ => simp [isIntD] at h2
theorem index_run {i : Nat} (hi : i < 4) (s : Store) : mthop .index (.tup [.str "a", .str "b", .str "c", .str "d"]) [.str (varOf i)] s = .ok (.int i) s := by
  have h : ∀ i, i < 4 → ([("a" : Str), "b", "c", "d"].findIdx? fun y => decide (y = varOf i)) = some i := by decide +kernel
  have e : strsD [.str "a", .str "b", .str "c", .str "d"] = some [("a" : Str), "b", "c", "d"] := rfl
  simp only [mthop, e, h i hi]
def stD (vs : List Int) : D := .tup (vs.map D.int)
abbrev ST := List (Pl × List Int)
def chBody2 : Ss := (.cons (.setIx (.var 4) (.mth .index (.glb "VARIABLES") (.cons (.var 7) .nil)) (.var 8))
          .nil)
def stBody : Ss := (.cons (.for (.tup [7, 8]) (.exp (.idx (.var 6) (.un .neg (.int 1)))) chBody2)
        (.cons (.dputT (.var 1) (.cons (.var 2) (.cons (.var 5) .nil)) (.bi .tuple (.cons (.var 4) .nil)))
        .nil))
def stBody0 : Ss := (.cons (.set 4 (.bin .mul (.lst (.cons (.int 0) .nil)) (.bi .len (.cons (.glb "VARIABLES") .nil))))
      (.cons (.for (.tup [5, 6]) (.enm (.var 3) 1) stBody)
      .nil))
def StS (st : Store) (S : ST) (g : Store) (vs : List Int) : Store := st ++ DIC KP stD S :: (g ++ [.lst (vs.map D.int)])
section
variable {st g : Store} {S : ST} {vs : List Int}
theorem sts_0 : (StS st S g vs)[st.length]? = some (DIC KP stD S) := by simp [StS]
theorem sts_v : (StS st S g vs)[st.length + 1 + g.length]? = some (.lst (vs.map D.int)) := by
  unfold StS
  rw [List.getElem?_append_right (by omega), show st.length + 1 + g.length - st.length = g.length + 1 by omega]
  simp
theorem sts_set0 {a : ST} : (StS st S g vs).set st.length (DIC KP stD a) = StS st a g vs := by simp [StS]
theorem sts_setv {a : List Int} : (StS st S g vs).set (st.length + 1 + g.length) (.lst (a.map D.int)) = StS st S g a := by
  unfold StS
  rw [List.set_append_right _ _ (by omega), show st.length + 1 + g.length - st.length = g.length + 1 by omega]
  simp
theorem sts_put {i : Nat} (hi : i < vs.length) (w : Int) : setIxop (.ref (st.length + 1 + g.length)) (.int i) (.int w) (StS st S g vs) = some (StS st S g (vs.set i w)) := by
  have e : ixN (vs.map D.int).length (i : Int) = some i := by
    unfold ixN
    simp
    omega
  unfold setIxop
  simp only [sts_v, e]
  have : (vs.map D.int).set i (.int w) = (vs.set i w).map D.int := by rw [List.map_set]
  rw [this, sts_setv]
theorem ch_loop {m : Nat} {a1 a2 a3 a4 a6 a7 : Option D} : ∀ {cs : List D} {lo : Nat} {vs : List Int} {a8 a9 : Option D}, ascN lo cs = true → vs.length = 4 →
    ∃ b8 b9, forL (bodyF (.tup [7, 8]) (evSs (callK L m) L.cs L.sub L.wf chBody2)) none cs [a1, a2, a3, a4, some (.ref (st.length + 1 + g.length)), a6, a7, a8, a9] (StS st S g vs) = .nx [a1, a2, a3, a4, some (.ref (st.length + 1 + g.length)), a6, a7, b8, b9] (StS st S g (cs.foldl chStep vs))
  | [], lo, vs, a8, a9, _, _ => ⟨a8, a9, by rw [forL_nil]; rfl⟩
  | c :: cs, lo, vs, a8, a9, h, hl => by
    unfold ascN at h
    cases e : chIx c with
    | none => simp [e] at h
    | some i =>
      simp only [e, Bool.and_eq_true] at h
      obtain ⟨w, rfl, hi⟩ := ch_form e
      have ir := index_run hi (StS st S g vs)
      have sp := sts_put (st := st) (g := g) (S := S) (vs := vs) (i := i) (by omega) w
      have s1 : bodyF (.tup [7, 8]) (evSs (callK L m) L.cs L.sub L.wf chBody2) (.tup [.str (varOf i), .int w]) [a1, a2, a3, a4, some (.ref (st.length + 1 + g.length)), a6, a7, a8, a9] (StS st S g vs) = .nx [a1, a2, a3, a4, some (.ref (st.length + 1 + g.length)), a6, a7, some (.str (varOf i)), some (.int w)] (StS st S g (vs.set i w)) := by
        have rc : recvOk .index (.tup [.str "a", .str "b", .str "c", .str "d"]) (StS st S g vs) = true := rfl
        rw [bodyF_two]
        simp [chBody2, cs_VARIABLES, rc, ir, sp]
      rw [forL_nx s1]
      have cs1 : chStep vs (.tup [.str (varOf i), .int w]) = vs.set i w := by unfold chStep; simp only [e]; rfl
      rw [List.foldl_cons, cs1]
      exact ch_loop h.2 (by simpa using hl)
theorem st_ev {m p n : Nat} {a1 a4 a6 a7 a8 a9 : Option D} {e : D} (he : isEventD e = true) (hl : vs.length = 4) (hS : S.length < 1000) :
    ∃ b8 b9, bodyF (.tup [5, 6]) (evSs (callK L m) L.cs L.sub L.wf stBody) (.tup [.int (n : Int), e]) [a1, some (.ref st.length), some (.int p), a4, some (.ref (st.length + 1 + g.length)), a6, a7, a8, a9] (StS st S g vs) =
      .nx [a1, some (.ref st.length), some (.int p), a4, some (.ref (st.length + 1 + g.length)), some (.int n), some e, b8, b9] (StS st (aput S (p, n) (evStep vs e)) g (evStep vs e)) := by
  obtain ⟨xs, cs, rfl, h1, h2, h3⟩ := ev_last he
  obtain ⟨b8, b9, lp⟩ := ch_loop (m := m) (st := st) (g := g) (S := S) (a1 := a1) (a2 := some (.ref st.length)) (a3 := some (.int p)) (a4 := a4) (a6 := some (.int n)) (a7 := some (.tup xs)) (a8 := a8) (a9 := a9) h3 hl
  have ev : evStep vs (.tup xs) = cs.foldl chStep vs := by unfold evStep; rw [h2]
  rw [← ev] at lp
  refine ⟨b8, b9, ?_⟩
  have tr := tuple_run (sts_v (st := st) (g := g) (S := S) (vs := evStep vs (.tup xs)))
  have dp := dput_run_ (K := KP) (ev := stD) (k := (p, n)) (v := evStep vs (.tup xs)) (sts_0 (st := st) (S := S) (g := g) (vs := evStep vs (.tup xs))) (by simp only [LINE]; omega)
  rw [sts_set0] at dp
  change dputop true (.ref st.length) (.tup [.int p, .int n]) (.tup ((evStep vs (.tup xs)).map D.int)) _ = _ at dp
  rw [bodyF_two]
  simp [stBody, h1]
  rw [lp]
  simp [tr, dp, LINE]
end
end Th

set_option linter.all false
set_option maxRecDepth 100000
set_option maxHeartbeats 1000000
/-! What is kept for each event, row by row. -/
namespace Th
open PySem L2 Mi LL
/-- the events of a process -/
def evs (rows : List D) (p : Nat) : List D := rowOf (rows.getD p .non)
theorem evs_at {rows : List D} {p : Nat} {d : D} (h : rows[p]? = some d) : evs rows p = rowOf d := by unfold evs; simp [List.getD, h]
theorem evAt_evs {rows : List D} {p r : Nat} : evAt rows p r = (evs rows p)[r]? := by
  unfold evAt evs
  cases h : rows[p]? with
  | none => simp [List.getD, h, rowOf]
  | some d => simp [List.getD, h]
section
variable {β : Type} (f : β → D → β)
def rowF (p : Nat) : Nat → List D → List (Pl × β) × β → List (Pl × β) × β
  | _, [], z => z
  | k, e :: es, z => rowF p (k + 1) es (aput z.1 (p, k) (f z.2 e), f z.2 e)
def allF (b0 : β) : Nat → List D → List (Pl × β) → List (Pl × β)
  | _, [], S => S
  | p, d :: ds, S => allF b0 (p + 1) ds (rowF f p 1 (rowOf d) (S, b0)).1
variable {f}
theorem rowF_get {p : Nat} : ∀ {es : List D} {k : Nat} {z : List (Pl × β) × β} {x : Pl}, aget (rowF f p k es z).1 x = if x.1 = p ∧ k ≤ x.2 ∧ x.2 < k + es.length then some ((es.take (x.2 + 1 - k)).foldl f z.2) else aget z.1 x
  | [], k, z, x => by
    rw [if_neg (by simp only [List.length_nil]; omega)]; rfl
  | e :: es, k, z, x => by
    unfold rowF
    rw [rowF_get]
    obtain ⟨q, n⟩ := x
    simp only [List.length_cons]
    by_cases h : q = p ∧ k + 1 ≤ n ∧ n < k + 1 + es.length
    · rw [if_pos h, if_pos (by omega)]
      rw [show n + 1 - k = (n + 1 - (k + 1)) + 1 by omega, List.take_succ_cons, List.foldl_cons]
    · rw [if_neg h, aget_put]
      by_cases h2 : (p, k) = (q, n)
      · rw [if_pos h2]
        simp only [Prod.mk.injEq] at h2
        rw [if_pos (by omega)]
        rw [show n + 1 - k = 1 by omega]
        rfl
      · rw [if_neg h2, if_neg (by
          simp only [Prod.mk.injEq] at h2
          omega)]
theorem rowF_len {p : Nat} : ∀ {es : List D} {k : Nat} {z : List (Pl × β) × β}, (rowF f p k es z).1.length ≤ z.1.length + es.length
  | [], k, z => by simp [rowF]
  | e :: es, k, z => by
    unfold rowF
    have ih := rowF_len (p := p) (es := es) (k := k + 1) (z := (aput z.1 (p, k) (f z.2 e), f z.2 e))
    have := aput_len (m := z.1) (k := (p, k)) (v := f z.2 e)
    simp only [List.length_cons] at ih ⊢
    omega
variable {b0 : β}
theorem allF_get : ∀ {ds : List D} {p : Nat} {S : List (Pl × β)} {x : Pl}, aget (allF f b0 p ds S) x = if p ≤ x.1 ∧ 1 ≤ x.2 ∧ x.2 ≤ (evs ds (x.1 - p)).length then some (((evs ds (x.1 - p)).take x.2).foldl f b0) else aget S x
  | [], p, S, x => by
    have : evs [] (x.1 - p) = [] := rfl
    rw [this, if_neg (by simp only [List.length_nil]; omega)]; rfl
  | d :: ds, p, S, x => by
    unfold allF
    rw [allF_get, rowF_get]
    obtain ⟨q, n⟩ := x
    simp only
    by_cases h : q = p
    · subst h
      rw [if_neg (by omega)]
      have e : evs (d :: ds) (q - q) = rowOf d := by rw [Nat.sub_self]; rfl
      rw [e]
      by_cases h2 : 1 ≤ n ∧ n ≤ (rowOf d).length
      · rw [if_pos (by omega), if_pos (by omega), show n + 1 - 1 = n by omega]
      · rw [if_neg (by omega), if_neg (by omega)]
    · by_cases h2 : p + 1 ≤ q
      · have e : evs (d :: ds) (q - p) = evs ds (q - (p + 1)) := by
          rw [show q - p = (q - (p + 1)) + 1 by omega]; rfl
        rw [e]
        by_cases h3 : 1 ≤ n ∧ n ≤ (evs ds (q - (p + 1))).length
        · rw [if_pos (by omega), if_pos (by omega)]
        · rw [if_neg (by omega), if_neg (by omega), if_neg (by omega)]
      · rw [if_neg (by omega), if_neg (by omega), if_neg (by omega)]
theorem allF_len : ∀ {ds : List D} {p : Nat} {S : List (Pl × β)}, (allF f b0 p ds S).length ≤ S.length + total ds
  | [], p, S => by simp [allF]
  | d :: ds, p, S => by
    unfold allF
    have ih := allF_len (ds := ds) (p := p + 1) (S := (rowF f p 1 (rowOf d) (S, b0)).1)
    have := rowF_len (f := f) (p := p) (es := rowOf d) (k := 1) (z := (S, b0))
    simp only [total, List.map_cons, List.sum_cons] at ih ⊢
    simp only at this
    omega
theorem allF_run {rows : List D} {p n : Nat} : aget (allF f b0 0 rows []) (p, n) = if 1 ≤ n ∧ n ≤ (evs rows p).length then some (((evs rows p).take n).foldl f b0) else none := by
  rw [allF_get]
  simp only [Nat.sub_zero, Nat.zero_le, true_and]
  rfl
end
def statesOf (rows : List D) : ST := allF evStep [0, 0, 0, 0] 0 rows []
section
variable {st g : Store} {S : ST} {vs : List Int}
theorem total_cons {d : D} {ds : List D} : total (d :: ds) = (rowOf d).length + total ds := rfl
theorem evStep_len (vs : List Int) (e : D) : (evStep vs e).length = vs.length := ch_len _ _
theorem st_row {m p : Nat} {a1 a4 : Option D} : ∀ {es : List D} {k : Nat} {S : ST} {vs : List Int} {a6 a7 a8 a9 : Option D}, (∀ e ∈ es, isEventD e = true) → vs.length = 4 → S.length + es.length < 1000 →
    ∃ b6 b7 b8 b9 ws, forL (bodyF (.tup [5, 6]) (evSs (callK L m) L.cs L.sub L.wf stBody)) none (enumD (k : Int) es) [a1, some (.ref st.length), some (.int p), a4, some (.ref (st.length + 1 + g.length)), a6, a7, a8, a9] (StS st S g vs) =
      .nx [a1, some (.ref st.length), some (.int p), a4, some (.ref (st.length + 1 + g.length)), b6, b7, b8, b9] (StS st (rowF evStep p k es (S, vs)).1 g ws)
  | [], k, S, vs, a6, a7, a8, a9, _, _, _ => ⟨a6, a7, a8, a9, vs, by rw [enumD, forL_nil]; rfl⟩
  | e :: es, k, S, vs, a6, a7, a8, a9, he, hl, hS => by
    simp only [List.length_cons] at hS
    obtain ⟨b8, b9, s1⟩ := st_ev (m := m) (st := st) (g := g) (p := p) (n := k) (a1 := a1) (a4 := a4) (a6 := a6) (a7 := a7) (a8 := a8) (a9 := a9) (he e List.mem_cons_self) hl (S := S) (by omega)
    rw [enumD, forL_nx s1]
    have := aput_len (m := S) (k := (p, k)) (v := evStep vs e)
    exact st_row (k := k + 1) (fun x hx => he x (List.mem_cons_of_mem _ hx)) (by rw [evStep_len]; exact hl) (by omega)
theorem st_all {m : Nat} {a1 : Option D} : ∀ {ds : List D} {p : Nat} {S : ST} {g : Store} {a3 a4 a5 a6 a7 a8 a9 : Option D}, (∀ d ∈ ds, isProcD d = true) → S.length + total ds < 1000 →
    ∃ b3 b4 b5 b6 b7 b8 b9 g', forL (bodyF (.tup [2, 3]) (evSs (callK L m) L.cs L.sub L.wf stBody0)) none (enumD (p : Int) ds) [a1, some (.ref st.length), a3, a4, a5, a6, a7, a8, a9] (st ++ DIC KP stD S :: g) =
      .nx [a1, some (.ref st.length), b3, b4, b5, b6, b7, b8, b9] (st ++ DIC KP stD (allF evStep [0, 0, 0, 0] p ds S) :: g')
  | [], p, S, g, a3, a4, a5, a6, a7, a8, a9, _, _ => ⟨a3, a4, a5, a6, a7, a8, a9, g, by rw [enumD, forL_nil]; rfl⟩
  | d :: ds, p, S, g, a3, a4, a5, a6, a7, a8, a9, hd, hS => by
    obtain ⟨ys, rfl, hl, he⟩ := proc_ev (hd d List.mem_cons_self)
    rw [total_cons] at hS
    have ry : rowOf (.tup ys) = ys := rfl
    rw [ry] at hS
    obtain ⟨b6, b7, b8, b9, ws, lp⟩ := st_row (m := m) (st := st) (g := g ++ [.lst [.int 0]]) (p := p) (a1 := a1) (a4 := some (.tup ys)) (k := 1) (S := S) (vs := [0, 0, 0, 0]) (a6 := a6) (a7 := a7) (a8 := a8) (a9 := a9) he rfl (by omega)
    have rp := rep_run (s := st ++ DIC KP stD S :: (g ++ [.lst [.int 0]])) (c := st.length + (g.length + 1)) (k := 4) (by
      rw [List.getElem?_append_right (by omega), show st.length + (g.length + 1) - st.length = g.length + 1 by omega]
      simp) (by omega)
    have s1 : bodyF (.tup [2, 3]) (evSs (callK L m) L.cs L.sub L.wf stBody0) (.tup [.int p, .tup ys]) [a1, some (.ref st.length), a3, a4, a5, a6, a7, a8, a9] (st ++ DIC KP stD S :: g) = .nx [a1, some (.ref st.length), some (.int p), some (.tup ys), some (.ref (st.length + 1 + (g ++ [MO.lst [.int 0]]).length)), b6, b7, b8, b9] (StS st (rowF evStep p 1 ys (S, [0, 0, 0, 0])).1 (g ++ [.lst [.int 0]]) ws) := by
      rw [bodyF_two]
      have e1 : st ++ DIC KP stD S :: (g ++ [.lst [.int 0]]) ++ [.lst ((zerosL 4).map natD)] = StS st S (g ++ [.lst [.int 0]]) [0, 0, 0, 0] := by simp [StS, zerosL, natD]
      rw [e1] at rp
      have e2 : (st ++ DIC KP stD S :: (g ++ [MO.lst [.int 0]])).length = st.length + 1 + (g ++ [MO.lst [.int 0]]).length := by simp; omega
      rw [e2] at rp
      simp [stBody0, cs_VARIABLES, LINE]
      have e3 : st.length + (g.length + 1) = st.length + (g.length + 1) := rfl
      rw [show ((4 : Nat) : Int) = 4 from rfl] at rp
      rw [show st.length + (g.length + 1) = st.length + (g.length + 1) from rfl, rp]
      simp
      have lp' := lp
      simp at lp'
      rw [lp']
      rfl
    rw [enumD, forL_nx s1]
    have rl := rowF_len (f := evStep) (p := p) (es := ys) (k := 1) (z := (S, [0, 0, 0, 0]))
    have := st_all (m := m) (a1 := a1) (ds := ds) (p := p + 1) (S := (rowF evStep p 1 ys (S, [0, 0, 0, 0])).1) (g := g ++ [.lst [.int 0]] ++ [.lst (ws.map D.int)]) (a3 := some (.int p)) (a4 := some (.tup ys)) (a5 := some (.ref (st.length + 1 + (g ++ [MO.lst [.int 0]]).length))) (a6 := b6) (a7 := b7) (a8 := b8) (a9 := b9) (fun x hx => hd x (List.mem_cons_of_mem _ hx)) (by simp only at rl; omega)
    exact this
theorem states_run {n : Nat} (hn : 1 ≤ n) {rows : List D} (ha : ∀ d ∈ rows, isProcD d = true) (ht : total rows ≤ 500) : callK L n "_states_of" [.tup rows] st = .ok (.ref st.length) (st ++ [DIC KP stD (statesOf rows)]) := by
  obtain ⟨m, rfl, hM⟩ := pred_ hn
  rw [call_open fn__states_of rfl]
  obtain ⟨b3, b4, b5, b6, b7, b8, b9, g', lp⟩ := st_all (m := m) (st := st) (a1 := some (.tup rows)) (ds := rows) (p := 0) (S := []) (g := []) (a3 := none) (a4 := none) (a5 := none) (a6 := none) (a7 := none) (a8 := none) (a9 := none) ha (by simp; omega)
  simp [fd__states_of, startE]
  change gc st (Out.fin (Out.bind (forL (bodyF (.tup [2, 3]) (evSs (callK L m) L.cs L.sub L.wf stBody0)) none (enumD ((0 : Nat) : Int) rows) [some (.tup rows), some (.ref st.length), none, none, none, none, none, none, none] (st ++ [DIC KP stD []])) _)) = _
  rw [lp]
  simp
  exact gc_new0 (dic_closed fun p _ => closed_map (fun _ => rfl) _)
end
end Th

set_option linter.all false
set_option maxRecDepth 100000
set_option maxHeartbeats 1000000
/-! _balances_of. -/
namespace Th
open PySem L2 Mi LL
def blStep (b : Int) (e : D) : Int := if (sendOf e).isSome then b + 1 else if (takeOf e).isSome then b - 1 else b
def balOf (es : List D) : Int := es.foldl blStep 0
def balancesOf (rows : List D) : List (Pl × Int) := allF blStep 0 0 rows []
def blBody : Ss := (.cons (.iff (.cmp .eq (.idx (.var 6) (.int 0)) (.str "send"))
          (.cons (.aug 4 .add (.int 1))
          .nil)
          (.cons (.iff (.cmp .eq (.idx (.var 6) (.int 0)) (.str "take"))
            (.cons (.aug 4 .sub (.int 1))
            .nil)
            .nil)
          .nil))
        (.cons (.dputT (.var 1) (.cons (.var 2) (.cons (.var 5) .nil)) (.var 4))
        .nil))
def blBody0 : Ss := (.cons (.set 4 (.int 0))
      (.cons (.for (.tup [5, 6]) (.enm (.var 3) 1) blBody)
      .nil))
section
variable {st : Store} {S : List (Pl × Int)}
theorem bl_ev {m p n : Nat} {a1 a4 a6 a7 : Option D} {b : Int} {e : D} (he : isEventD e = true) (hS : S.length < 1000) :
    bodyF (.tup [5, 6]) (evSs (callK L m) L.cs L.sub L.wf blBody) (.tup [.int (n : Int), e]) [a1, some (.ref st.length), some (.int p), a4, some (.int b), a6, a7] (st ++ [DIC KP D.int S]) =
      .nx [a1, some (.ref st.length), some (.int p), a4, some (.int (blStep b e)), some (.int n), some e] (st ++ [DIC KP D.int (aput S (p, n) (blStep b e))]) := by
  have dp := dput_run_ (K := KP) (ev := D.int) (st := st ++ [DIC KP D.int S]) (n := st.length) (k := (p, n)) (v := blStep b e) (m := S) (by simp) (by simp only [LINE]; omega)
  change dputop true (.ref st.length) (.tup [.int p, .int n]) (.int (blStep b e)) _ = _ at dp
  simp at dp
  rw [bodyF_two]
  rcases ev_kind he with ⟨c, rfl, t0, s0⟩ | ⟨l, c, rfl, t0, s0⟩ | ⟨l, c, rfl, t0, s0⟩
  · have e1 : blStep b (.tup [.str "step", c]) = b := by simp [blStep, t0, s0]
    rw [e1] at dp ⊢
    simp [blBody, eq_str ok_step ok_send, eq_str ok_step ok_take, dp, LINE]
  · have e1 : blStep b (.tup [.str "send", .int l, c]) = b + 1 := by simp [blStep, t0, s0]
    rw [e1] at dp ⊢
    simp [blBody, eq_str ok_send ok_send, dp, LINE]
  · have e1 : blStep b (.tup [.str "take", .int l, c]) = b - 1 := by simp [blStep, t0, s0]
    rw [e1] at dp ⊢
    simp [blBody, eq_str ok_take ok_send, eq_str ok_take ok_take, dp, LINE]
theorem bl_row {m p : Nat} {a1 a4 : Option D} : ∀ {es : List D} {k : Nat} {S : List (Pl × Int)} {b : Int} {a6 a7 : Option D}, (∀ e ∈ es, isEventD e = true) → S.length + es.length < 1000 →
    ∃ b6 b7 w, forL (bodyF (.tup [5, 6]) (evSs (callK L m) L.cs L.sub L.wf blBody)) none (enumD (k : Int) es) [a1, some (.ref st.length), some (.int p), a4, some (.int b), a6, a7] (st ++ [DIC KP D.int S]) =
      .nx [a1, some (.ref st.length), some (.int p), a4, some (.int w), b6, b7] (st ++ [DIC KP D.int (rowF blStep p k es (S, b)).1])
  | [], k, S, b, a6, a7, _, _ => ⟨a6, a7, b, by rw [enumD, forL_nil]; rfl⟩
  | e :: es, k, S, b, a6, a7, he, hS => by
    simp only [List.length_cons] at hS
    have s1 := bl_ev (m := m) (st := st) (p := p) (n := k) (a1 := a1) (a4 := a4) (a6 := a6) (a7 := a7) (b := b) (he e List.mem_cons_self) (S := S) (by omega)
    rw [enumD, forL_nx s1]
    have := aput_len (m := S) (k := (p, k)) (v := blStep b e)
    exact bl_row (k := k + 1) (fun x hx => he x (List.mem_cons_of_mem _ hx)) (by omega)
theorem bl_all {m : Nat} {a1 : Option D} : ∀ {ds : List D} {p : Nat} {S : List (Pl × Int)} {a3 a4 a5 a6 a7 : Option D}, (∀ d ∈ ds, isProcD d = true) → S.length + total ds < 1000 →
    ∃ b3 b4 b5 b6 b7, forL (bodyF (.tup [2, 3]) (evSs (callK L m) L.cs L.sub L.wf blBody0)) none (enumD (p : Int) ds) [a1, some (.ref st.length), a3, a4, a5, a6, a7] (st ++ [DIC KP D.int S]) =
      .nx [a1, some (.ref st.length), b3, b4, b5, b6, b7] (st ++ [DIC KP D.int (allF blStep 0 p ds S)])
  | [], p, S, a3, a4, a5, a6, a7, _, _ => ⟨a3, a4, a5, a6, a7, by rw [enumD, forL_nil]; rfl⟩
  | d :: ds, p, S, a3, a4, a5, a6, a7, hd, hS => by
    obtain ⟨ys, rfl, hl, he⟩ := proc_ev (hd d List.mem_cons_self)
    rw [total_cons] at hS
    have ry : rowOf (.tup ys) = ys := rfl
    rw [ry] at hS
    obtain ⟨b6, b7, w, lp⟩ := bl_row (m := m) (st := st) (p := p) (a1 := a1) (a4 := some (.tup ys)) (k := 1) (S := S) (b := 0) (a6 := a6) (a7 := a7) he (by omega)
    have s1 : bodyF (.tup [2, 3]) (evSs (callK L m) L.cs L.sub L.wf blBody0) (.tup [.int p, .tup ys]) [a1, some (.ref st.length), a3, a4, a5, a6, a7] (st ++ [DIC KP D.int S]) = .nx [a1, some (.ref st.length), some (.int p), some (.tup ys), some (.int w), b6, b7] (st ++ [DIC KP D.int (rowF blStep p 1 ys (S, 0)).1]) := by
      rw [bodyF_two]
      have lp' := lp
      simp at lp'
      simp [blBody0]
      rw [lp']
      rfl
    rw [enumD, forL_nx s1]
    have rl := rowF_len (f := blStep) (p := p) (es := ys) (k := 1) (z := (S, 0))
    exact bl_all (ds := ds) (p := p + 1) (fun x hx => hd x (List.mem_cons_of_mem _ hx)) (by simp only at rl; omega)
theorem balances_run {n : Nat} (hn : 1 ≤ n) {rows : List D} (ha : ∀ d ∈ rows, isProcD d = true) (ht : total rows ≤ 500) : callK L n "_balances_of" [.tup rows] st = .ok (.ref st.length) (st ++ [DIC KP D.int (balancesOf rows)]) := by
  obtain ⟨m, rfl, hM⟩ := pred_ hn
  rw [call_open fn__balances_of rfl]
  obtain ⟨b3, b4, b5, b6, b7, lp⟩ := bl_all (m := m) (st := st) (a1 := some (.tup rows)) (ds := rows) (p := 0) (S := []) (a3 := none) (a4 := none) (a5 := none) (a6 := none) (a7 := none) ha (by simp; omega)
  simp [fd__balances_of, startE]
  change gc st (Out.fin (Out.bind (forL (bodyF (.tup [2, 3]) (evSs (callK L m) L.cs L.sub L.wf blBody0)) none (enumD ((0 : Nat) : Int) rows) [some (.tup rows), some (.ref st.length), none, none, none, none, none] (st ++ [DIC KP D.int []])) _)) = _
  rw [lp]
  simp
  exact gc_new0 (dic_closed fun p _ => rfl)
end
/-! ### the order of a run -/
structure RunOk (rows : List D) : Prop where
  len0 : 1 ≤ rows.length
  len : rows.length ≤ 6
  ev : ∀ d ∈ rows, isProcD d = true
  once : (marksAll rows).Nodup
  all : (oneRow rows).1.length = total rows
theorem run_isRun {rows : List D} : isRunD (.tup rows) = true ↔ RunOk rows := by
  unfold isRunD
  simp only [Bool.and_eq_true, decide_eq_true_eq, List.all_eq_true]
  exact ⟨fun h => ⟨h.1.1, h.1.2, h.2.1, h.2.2.1, h.2.2.2⟩, fun h => ⟨⟨h.len0, h.len⟩, h.ev, h.once, h.all⟩⟩
theorem RunOk.tot {rows : List D} (r : RunOk rows) : total rows ≤ 180 := by
  have := total_le r.ev
  have := r.len
  omega
/-- the fields of an order -/
def ordF (rows : List D) (a b c d : Nat) : List (Str × D) := [("_run", .tup rows), ("_sends", .ref a), ("_clocks", .ref b), ("_states", .ref c), ("_balances", .ref d)]
def ordS (st : Store) (rows : List D) : Store := st ++ [.ins "Order" (ordF rows (st.length + 1) (st.length + 2) (st.length + 3) (st.length + 4)), DIC KP rowD (sendsOf rows), DIC KP clD (clocksOf rows), DIC KP stD (statesOf rows), DIC KP D.int (balancesOf rows)]
section
variable {st : Store}
theorem init_good {n : Nat} (hn : 7 ≤ n) {rows : List D} (h : Wf st (.tup rows)) (hk : (marksAll rows).length ≤ 62) (r : RunOk rows) : callK L n "." [.str "Order", .str "__init__", .ref st.length, .tup rows] (st ++ [.ins "Order" []]) = .ok .non (ordS st rows) := by
  obtain ⟨m, rfl, hm⟩ := pred_ hn
  rw [mth_open rfl mh_Order___init__ rfl]
  have ht := r.tot
  have q := is_run_ok (st := st ++ [.ins "Order" []]) hm (wf_app h) hk
  rw [run_isRun.mpr r] at q
  have c1 := sends_run (n := m) (st := st ++ [.ins "Order" [("_run", .tup rows)]]) (by omega) r.len r.ev (by omega)
  have c2 := clocks_run (n := m) (st := st ++ [.ins "Order" [("_run", .tup rows), ("_sends", .ref (st.length + 1))], DIC KP rowD (sendsOf rows)]) (b := st.length + 1) (by omega) r.len r.ev (by omega) r.once (by simp)
  have c3 := states_run (n := m) (st := st ++ [.ins "Order" [("_run", .tup rows), ("_sends", .ref (st.length + 1)), ("_clocks", .ref (st.length + 2))], DIC KP rowD (sendsOf rows), DIC KP clD (clocksOf rows)]) (by omega) r.ev (by omega)
  have c4 := balances_run (n := m) (st := st ++ [.ins "Order" [("_run", .tup rows), ("_sends", .ref (st.length + 1)), ("_clocks", .ref (st.length + 2)), ("_states", .ref (st.length + 3))], DIC KP rowD (sendsOf rows), DIC KP clD (clocksOf rows), DIC KP stD (statesOf rows)]) (by omega) r.ev (by omega)
  simp at q c1 c2 c3 c4
  simp [fd_Order___init__, startE, q, setAtop, putD, fl_Order__run, fl_Order__sends, fl_Order__clocks, fl_Order__states, fl_Order__balances, c1, c2, c3, c4, attrB, List.lookup, ofString_inj]
  refine gc_not fun g => ?_
  have g1 := g.2 st.length (by simp)
  simp [closedMO, closedD] at g1
end
end Th

set_option linter.all false
set_option maxRecDepth 100000
set_option maxHeartbeats 1000000
/-! An order's whole; the law's ordered. -/
namespace Th
open PySem L2 Mi LL
def wholeOf (rows : List D) : List Nat := rows.map fun d => (rowOf d).length
theorem nb_cl (c : List Nat) : nb (clD c) = true := by
  unfold clD nb natD
  exact nb_ints c
theorem dep_cl (c : List Nat) : dep (clD c) ≤ 1 := by
  unfold clD
  refine dep_tup fun x hx => ?_
  obtain ⟨a, _, rfl⟩ := List.mem_map.mp hx
  simp [natD]
section
variable {st : Store}
theorem lens_run {m : Nat} {xs : List D} {env : Mi.Env} {i : Nat} (hi : i < env.length) (hl : xs.length ≤ 6) (ha : ∀ d ∈ xs, isProcD d = true) (s : Store) : compL (stepF [i] (.name i) (evAll (callK L m) L.cs .nil) (evE (callK L m) L.cs (.bi .len (.cons (.var i) .nil))) env) none s.length xs (s ++ [.lst []]) = .ok (.ref s.length) (s ++ [.lst ((wholeOf xs).map natD)]) := by
  have : (wholeOf xs).map natD = xs.map fun d => .int (rowOf d).length := by unfold wholeOf; rw [List.map_map]; rfl
  rw [this]
  exact comp_run (fun x hx' l => by
    obtain ⟨ys, rfl, _, _⟩ := proc_ev (ha x hx')
    simp [stepF_name, wipeE, cstep, rowOf, hi]) (Nat.le_trans hl (by decide))
end
end Th

set_option linter.all false
set_option maxRecDepth 100000
set_option maxHeartbeats 1000000
/-! What the laws share. -/
namespace Th
open PySem L2 Mi LL
theorem rangeD_cons {lo hi : Int} (h : lo < hi) : rangeD lo hi = .int lo :: rangeD (lo + 1) hi := by
  unfold rangeD
  have : (hi - lo).toNat = (hi - (lo + 1)).toNat + 1 := by omega
  rw [this, List.range_succ_eq_map, List.map_cons, List.map_map]
  congr 1
  · simp
  · refine List.map_congr_left fun k _ => ?_
    simp only [Function.comp, D.int.injEq]
    omega
theorem rangeD_nil {lo hi : Int} (h : hi ≤ lo) : rangeD lo hi = [] := by
  unfold rangeD
  rw [show (hi - lo).toNat = 0 by omega]
  rfl
abbrev Rws := List (List D)
def addAt (R : Rws) (p : Nat) (e : D) : Rws := R.set p (R.getD p [] ++ [e])
def tupsD (R : Rws) : List D := R.map D.tup
theorem ok_str_ev {k : Str} (h : k = "step" ∨ k = "send" ∨ k = "take") : PyData.strOk k = true := by
  rcases h with rfl | rfl | rfl
  · exact ok_step
  · exact ok_send
  · exact ok_take
theorem addAt_len {R : Rws} {p : Nat} {e : D} : (addAt R p e).length = R.length := by simp [addAt]
theorem total_add {R : Rws} {p : Nat} {e : D} (hp : p < R.length) : total (tupsD (addAt R p e)) = total (tupsD R) + 1 := by
  induction R generalizing p with
  | nil => simp at hp
  | cons r R ih =>
    cases p with
    | zero => simp [addAt, tupsD, total, rowOf]; omega
    | succ p =>
      have := ih (p := p) (by simpa using hp)
      simp only [addAt, tupsD, total] at this ⊢
      simp [rowOf] at this ⊢
      omega
theorem asc_snoc {x : D} {i : Nat} (hx : chIx x = some i) : ∀ {xs : List D} {lo : Nat}, ascN lo xs = true → (∀ y ∈ xs, ∃ j, chIx y = some j ∧ j < i) → lo ≤ i → ascN lo (xs ++ [x]) = true
  | [], lo, _, _, hl => by simp [ascN, hx, hl]
  | y :: ys, lo, h, hy, hl => by
    obtain ⟨j, hj, hji⟩ := hy y List.mem_cons_self
    rw [List.cons_append]
    simp only [ascN, hj, Bool.and_eq_true, decide_eq_true_eq] at h ⊢
    exact ⟨h.1, asc_snoc hx h.2 (fun z hz => hy z (List.mem_cons_of_mem _ hz)) (by omega)⟩
theorem chIx_var {k : Nat} (hk : k < 4) {w : Int} (h0 : -1000 ≤ w) (h1 : w ≤ 1000) : chIx (.tup [.str (varOf k), .int w]) = some k := by
  have e : ∀ k, k < 4 → varIx (.str (varOf k)) = some k := by decide +kernel
  simp [chIx, isIntD, h0, h1, e k hk]
theorem chg_nb : ∀ {xs : List D} {lo : Nat}, ascN lo xs = true → nbs xs = true ∧ deps xs ≤ 1 ∧ (∀ st, WfL st xs) ∧ (∀ x ∈ xs, Sz 4 1 x)
  | [], _, _ => ⟨rfl, by simp [deps, toPs, PyData.depthAll], fun _ => trivial, fun x hx => (by cases hx)⟩
  | x :: xs, lo, h => by
    unfold ascN at h
    cases e : chIx x with
    | none => simp [e] at h
    | some i =>
      simp only [e, Bool.and_eq_true] at h
      obtain ⟨h1, h2, h3, h4⟩ := chg_nb h.2
      obtain ⟨w, rfl, hi⟩ := ch_form e
      have ok : PyData.strOk (varOf i) = true := by
        have : ∀ k, k < 4 → PyData.strOk (varOf k) = true := by decide +kernel
        exact this i hi
      refine ⟨by simp [nbs, nb, ok, h1], ?_, fun st => ⟨⟨⟨ok, trivial, trivial⟩, by simp [LINE]⟩, h3 st⟩, fun y hy => ?_⟩
      · refine deps_of fun y hy => ?_
        rcases List.mem_cons.mp hy with rfl | hy
        · exact dep_tup (k := 0) fun z hz => by
            simp at hz
            rcases hz with rfl | rfl <;> simp
        · have := h2
          have hm : ∀ {ys : List D} {k : Nat}, deps ys ≤ k → ∀ y ∈ ys, dep y ≤ k := by
            intro ys
            induction ys with
            | nil => intro k _ y hy; cases hy
            | cons u us ih =>
              intro k hk y hy
              have hd : deps (u :: us) = max (dep u) (deps us) := rfl
              rcases List.mem_cons.mp hy with rfl | hy
              · omega
              · exact ih (by omega) y hy
          exact hm h2 y hy
      · rcases List.mem_cons.mp hy with rfl | hy
        · exact sz_chg ⟨_, _, rfl⟩
        · exact h4 y hy
theorem chgs_nb {z : D} (h : isChangesD z = true) : nb z = true ∧ dep z ≤ 2 ∧ (∀ st, Wf st z) ∧ Sz 4 2 z := by
  cases z with
  | tup cs =>
    have hl := ascN_len (Nat.zero_le _) (show ascN 0 cs = true from h)
    obtain ⟨h1, h2, h3, h4⟩ := chg_nb (show ascN 0 cs = true from h)
    refine ⟨h1, ?_, fun st => ⟨h3 st, by simp only [LINE]; omega⟩, by omega, h4⟩
    unfold deps at h2
    unfold dep
    simp only [toP, PyData.depth]
    omega
  | _ => cases h
theorem ev_nb {e : D} (h : isEventD e = true) : nb e = true ∧ dep e ≤ 3 ∧ (∀ st, Wf st e) ∧ Sz 4 3 e := by
  have k3 : ∀ {k : Str}, k = "step" ∨ k = "send" ∨ k = "take" → PyData.strOk k = true := ok_str_ev
  have key : ∀ {k : Str} {z : D}, PyData.strOk k = true → isChangesD z = true → (nb (.tup [.str k, z]) = true ∧ dep (.tup [.str k, z]) ≤ 3 ∧ (∀ st, Wf st (.tup [.str k, z])) ∧ Sz 4 3 (.tup [.str k, z])) := by
    intro k z hk hz
    obtain ⟨h1, h2, h3, h4⟩ := chgs_nb hz
    refine ⟨by simp [nb, nbs, hk, h1], dep_tup (k := 2) fun x hx => ?_, fun st => ⟨⟨hk, h3 st, trivial⟩, by simp [LINE]⟩, by simp, fun x hx => ?_⟩
    · simp at hx
      rcases hx with rfl | rfl
      · simp
      · exact h2
    · simp at hx
      rcases hx with rfl | rfl
      · trivial
      · exact h4
  have key2 : ∀ {k : Str} {l : Int} {z : D}, PyData.strOk k = true → isChangesD z = true → (nb (.tup [.str k, .int l, z]) = true ∧ dep (.tup [.str k, .int l, z]) ≤ 3 ∧ (∀ st, Wf st (.tup [.str k, .int l, z])) ∧ Sz 4 3 (.tup [.str k, .int l, z])) := by
    intro k l z hk hz
    obtain ⟨h1, h2, h3, h4⟩ := chgs_nb hz
    refine ⟨by simp [nb, nbs, hk, h1], dep_tup (k := 2) fun x hx => ?_, fun st => ⟨⟨hk, trivial, h3 st, trivial⟩, by simp [LINE]⟩, by simp, fun x hx => ?_⟩
    · simp at hx
      rcases hx with rfl | rfl | rfl
      · simp
      · simp
      · exact h2
    · simp at hx
      rcases hx with rfl | rfl | rfl
      · trivial
      · trivial
      · exact h4
  match e, h with
  | .tup [.str k, c], h =>
    simp only [isEventD, Bool.and_eq_true] at h
    have := beq_iff_eq.mp h.1
    subst this
    exact key ok_step h.2
  | .tup [.str k, l, c], h =>
    simp only [isEventD, Bool.and_eq_true, Bool.or_eq_true] at h
    obtain ⟨hk, hl, hc⟩ := h
    have ok : PyData.strOk k = true := by
      rcases hk with hk | hk
      · rw [beq_iff_eq.mp hk]; exact ok_send
      · rw [beq_iff_eq.mp hk]; exact ok_take
    cases l with
    | int i => exact key2 ok hc
    | _ => simp [isIntD] at hl
theorem step_ev {z : D} (h : isChangesD z = true) : isEventD (.tup [.str "step", z]) = true := by
  simp [isEventD, h]
theorem mark_ev {z : D} {k : Str} {l : Int} (hk : k = "send" ∨ k = "take") (h : isChangesD z = true) (h0 : 1 ≤ l) (h1 : l ≤ 999) : isEventD (.tup [.str k, .int l, z]) = true := by
  have n1 : (Str.ofString "take" == Str.ofString "send") = false := by decide +kernel
  rcases hk with rfl | rfl <;> simp [isEventD, isIntD, h, h0, h1]
theorem mem_addAt {R : Rws} {p : Nat} {e : D} {r : List D} (hp : p < R.length) (h : r ∈ addAt R p e) : ∀ x ∈ r, x = e ∨ ∃ r' ∈ R, x ∈ r' := by
  intro x hx
  unfold addAt at h
  rcases List.mem_or_eq_of_mem_set h with h | rfl
  · exact .inr ⟨r, h, hx⟩
  · rcases List.mem_append.mp hx with hx | hx
    · refine .inr ⟨R[p], List.getElem_mem hp, ?_⟩
      have : R.getD p [] = R[p] := by simp [List.getD, hp]
      rw [← this]; exact hx
    · exact .inl (List.mem_singleton.mp hx)
def refsN (a c : Nat) : List D := (List.range c).map fun k => .ref (a + k)
theorem map_erase {α β : Type} {f : α → β} : ∀ {xs : List α} {k : Nat}, (xs.map f).eraseIdx k = (xs.eraseIdx k).map f
  | [], _ => rfl
  | _ :: _, 0 => rfl
  | _ :: xs, k + 1 => by simp [map_erase (xs := xs)]
/-- rows of events, at most k each -/
def EvRows (c k : Nat) (R : Rws) : Prop := R.length = c ∧ ∀ r ∈ R, r.length ≤ k ∧ ∀ e ∈ r, isEventD e = true
theorem evrows_wf {R : Rws} {c k : Nat} (hc : c ≤ 6) (hk : k ≤ 400) (h : EvRows c k R) (st : Store) : Wf st (.tup (tupsD R)) := by
  refine ⟨wfL_of fun x hx => ?_, by simp only [tupsD, List.length_map, h.1, LINE]; omega⟩
  obtain ⟨r, hr, rfl⟩ := List.mem_map.mp hx
  obtain ⟨h1, h2⟩ := h.2 r hr
  exact ⟨wfL_of fun e he => (ev_nb (h2 e he)).2.2.1 st, by simp only [LINE]; omega⟩
/-- at a there is a list of lists: the rows -/
def Ls (s : Store) (a : Nat) (R : Rws) : Prop := ∃ qs : List Nat, s[a]? = some (.lst (qs.map D.ref)) ∧ qs.length = R.length ∧ ∀ p q, qs[p]? = some q → a < q ∧ s[q]? = some (.lst (R.getD p []))
theorem Ls.mono {s s' : Store} {a : Nat} {R : Rws} (h : Ls s a R) (k : ∀ i mo, a ≤ i → s[i]? = some mo → s'[i]? = some mo) : Ls s' a R := by
  obtain ⟨qs, h1, h2, h3⟩ := h
  exact ⟨qs, k _ _ (Nat.le_refl _) h1, h2, fun p q e => ⟨(h3 p q e).1, k _ _ (Nat.le_of_lt (h3 p q e).1) (h3 p q e).2⟩⟩
theorem Ls.app {s g : Store} {a : Nat} {R : Rws} (h : Ls s a R) : Ls (s ++ g) a R := h.mono fun i mo _ e => by rw [List.getElem?_append_left (List.getElem?_eq_some_iff.mp e).1]; exact e
theorem getD_of {R : Rws} {p : Nat} {r : List D} (h : R[p]? = some r) : R.getD p [] = r := by simp [List.getD, h]
theorem Ls.at_ {s : Store} {a : Nat} {R : Rws} (h : Ls s a R) {p : Nat} (hp : p < R.length) : ∃ q, (∀ i : Int, i = p → glbB (atI ((Classical.choose h).map D.ref) i) s = .ok (.ref q) s) ∧ a < q ∧ s[q]? = some (.lst (R.getD p [])) := by
  obtain ⟨h1, h2, h3⟩ := Classical.choose_spec h
  have hq : (Classical.choose h)[p]? = some ((Classical.choose h)[p]'(by omega)) := List.getElem?_eq_getElem (by omega)
  obtain ⟨g1, g2⟩ := h3 p _ hq
  refine ⟨_, fun i hi => ?_, g1, g2⟩
  subst hi
  rw [atI_nat', List.getElem?_map, hq]; rfl
/-- rows[p], asked -/
theorem Ls.idx {s : Store} {a : Nat} {R : Rws} (h : Ls s a R) {p : Nat} (hp : p < R.length) {i : Int} (hi : i = p) : ∃ q, idxop (.ref a) (.int i) s = .ok (.ref q) s ∧ a < q ∧ s[q]? = some (.lst (R.getD p [])) := by
  obtain ⟨q, h1, h2, h3⟩ := h.at_ hp
  refine ⟨q, ?_, h2, h3⟩
  rw [idx_ref i (Classical.choose_spec h).1]
  exact h1 i hi
theorem Ls.idxB {s : Store} {a : Nat} {R : Rws} (h : Ls s a R) {p : Nat} (hp : p < R.length) {i : Int} (hi : i = p) : ∃ q, (getB s[a]? fun xs => glbB (atI xs i) s) = .ok (.ref q) s ∧ a < q ∧ s[q]? = some (.lst (R.getD p [])) := by
  obtain ⟨q, h1, h2⟩ := h.idx hp hi
  exact ⟨q, (idx_ref' a i s).symm.trans h1, h2⟩
theorem slc_run {s : Store} {w : Nat} {xs : List D} {lo hi : Option Int} (h : s[w]? = some (.lst xs)) : slcop (.ref w) lo hi s = .ok (.ref s.length) (s ++ [.lst (cutG xs lo hi)]) := by
  simp only [slcop, h]
theorem add_run {s : Store} {x y : Nat} {xs ys : List D} (h1 : s[x]? = some (.lst xs)) (h2 : s[y]? = some (.lst ys)) (hl : xs.length + ys.length ≤ LINE) : binop .add (.ref x) (.ref y) s = .ok (.ref s.length) (s ++ [.lst (xs ++ ys)]) := by
  rw [add_rr, h1, h2, addB_some, if_pos hl]
theorem get_last {s : Store} {mo : MO} : (s ++ [mo])[s.length]? = some mo := by simp
theorem get_app {s g : Store} {i : Nat} {mo : MO} (h : s[i]? = some mo) : (s ++ g)[i]? = some mo := by
  rw [List.getElem?_append_left (List.getElem?_eq_some_iff.mp h).1]; exact h
/-- rows[p] = new list -/
theorem Ls.put {s : Store} {a w : Nat} {R : Rws} {r : List D} (h : Ls s a R) {p : Nat} (hp : p < R.length) {i : Int} (hi : i = p) (hw : a < w) (hr : s[w]? = some (.lst r)) : ∃ s', setIxop (.ref a) (.int i) (.ref w) s = some s' ∧ Ls s' a (R.set p r) ∧ s'.length = s.length ∧ ∀ j, j ≠ a → s'[j]? = s[j]? := by
  obtain ⟨qs, h1, h2, h3⟩ := h
  subst hi
  have e : ixN (qs.map D.ref).length (p : Int) = some p := by
    unfold ixN
    simp
    omega
  have k : setIxop (.ref a) (.int p) (.ref w) s = some (s.set a (.lst ((qs.set p w).map D.ref))) := by
    unfold setIxop
    simp only [h1, e, List.map_set]
  refine ⟨_, k, ⟨qs.set p w, get_set h1, by simp [h2], fun j q hj => ?_⟩, by simp, fun j hj => List.getElem?_set_ne (Ne.symm hj)⟩
  by_cases c : p = j
  · subst c
    rw [List.getElem?_set_self (by omega)] at hj
    cases hj
    refine ⟨hw, ?_⟩
    rw [List.getElem?_set_ne (by omega), hr, getD_of (List.getElem?_set_self hp)]
  · rw [List.getElem?_set_ne c] at hj
    obtain ⟨g1, g2⟩ := h3 j q hj
    refine ⟨g1, ?_⟩
    rw [List.getElem?_set_ne (by omega), g2]
    simp only [List.getD]
    rw [List.getElem?_set_ne c]
def tupOf (s : Store) : D → D
  | .ref k => match s[k]? with
    | some (.lst xs) => .tup xs
    | _ => .non
  | _ => .non
/-- the tuple of all rows as tuples -/
theorem Ls.tuples {N i : Nat} {env : Mi.Env} {s : Store} {a : Nat} {R : Rws} (h : Ls s a R) (hi : i < env.length) (hl : R.length ≤ 1000) : ∃ ys, expR (.ok (.ref a) s) = .ok ys (some (a, ys)) s ∧ compL (stepF [i] (.name i) (evAll (callK L N) L.cs .nil) (evE (callK L N) L.cs (.bi .tuple (.cons (.var i) .nil))) env) (some (a, ys)) s.length ys (s ++ [.lst []]) = .ok (.ref s.length) (s ++ [.lst (tupsD R)]) := by
  obtain ⟨qs, h1, h2, h3⟩ := h
  refine ⟨qs.map D.ref, expR_ref h1, ?_⟩
  have c := comp_runG (st := s) (n := a) (ys := qs.map D.ref) (xs := qs.map D.ref) (g := tupOf s) (step := stepF [i] (.name i) (evAll (callK L N) L.cs .nil) (evE (callK L N) L.cs (.bi .tuple (.cons (.var i) .nil))) env) h1 (fun x hx l => by
    obtain ⟨q, hq, rfl⟩ := List.mem_map.mp hx
    obtain ⟨p, hp, e⟩ := List.getElem_of_mem hq
    obtain ⟨_, g⟩ := h3 p q (by rw [List.getElem?_eq_getElem hp, e])
    have g2 : (s ++ [MO.lst l])[q]? = some (.lst (R.getD p [])) := by
      rw [List.getElem?_append_left (List.getElem?_eq_some_iff.mp g).1]; exact g
    simp only [List.getD] at g g2
    simp [stepF_name, wipeE, cstep, g2, g, hi, tupOf]) (by simp only [List.length_map, LINE]; omega)
  have hmap : (qs.map D.ref).map (tupOf s) = tupsD R := by
    unfold tupsD
    rw [List.map_map]
    refine List.ext_getElem? fun p => ?_
    rw [List.getElem?_map, List.getElem?_map]
    by_cases hp : p < qs.length
    · obtain ⟨_, g⟩ := h3 p _ (List.getElem?_eq_getElem hp)
      have hR : p < R.length := by omega
      rw [List.getElem?_eq_getElem hp, List.getElem?_eq_getElem hR]
      simp [tupOf, g, List.getD, hR]
    · rw [List.getElem?_eq_none (by omega), List.getElem?_eq_none (by omega)]; rfl
  rw [hmap] at c
  exact c
theorem total_set {R : Rws} {p : Nat} {r : List D} (hp : p < R.length) : total (tupsD (R.set p r)) + (R.getD p []).length = total (tupsD R) + r.length := by
  induction R generalizing p with
  | nil => simp at hp
  | cons x R ih =>
    cases p with
    | zero =>
      have t1 : total (tupsD (r :: R)) = r.length + total (tupsD R) := rfl
      have t2 : total (tupsD (x :: R)) = x.length + total (tupsD R) := rfl
      simp only [List.set_cons_zero, t1, t2, List.getD_cons_zero]
      omega
    | succ p =>
      have := ih (p := p) (by simpa using hp)
      have t1 : total (tupsD (x :: R.set p r)) = x.length + total (tupsD (R.set p r)) := rfl
      have t2 : total (tupsD (x :: R)) = x.length + total (tupsD R) := rfl
      simp only [List.set_cons_succ, t1, t2, List.getD_cons_succ]
      omega
theorem evrows_set {c k : Nat} {R : Rws} {p : Nat} {r : List D} (h : EvRows c k R) (hl : r.length ≤ k) (he : ∀ e ∈ r, isEventD e = true) : EvRows c k (R.set p r) := by
  refine ⟨by simpa using h.1, fun x hx => ?_⟩
  rcases List.mem_or_eq_of_mem_set hx with hx | rfl
  · exact h.2 x hx
  · exact ⟨hl, he⟩
theorem cutG_dropI {α : Type} {xs : List α} {a : Int} (h : 0 ≤ a) : cutG xs (some a) none = xs.drop a.toNat := by
  obtain ⟨k, rfl⟩ : ∃ k : Nat, a = k := ⟨a.toNat, by omega⟩
  unfold cutG
  have e := HT.sIx_nat xs.length 0 k
  rw [e, HT.sIx_none, Int.toNat_natCast]
  rcases Nat.le_total k xs.length with q | q
  · rw [Nat.min_eq_left q]
    exact List.take_of_length_le (by rw [List.length_drop]; omega)
  · rw [Nat.min_eq_right q, List.drop_eq_nil_iff.mpr (Nat.le_refl _), List.drop_eq_nil_iff.mpr q]; simp
theorem cutG_takeI {α : Type} {xs : List α} {a : Int} (h : 0 ≤ a) : cutG xs none (some a) = xs.take a.toNat := by
  obtain ⟨k, rfl⟩ : ∃ k : Nat, a = k := ⟨a.toNat, by omega⟩
  rw [cutG_take, Int.toNat_natCast]
theorem cutG_mid {α : Type} {xs : List α} {a : Int} (h : 0 ≤ a) : cutG xs (some a) (some (a + 1)) = (xs.drop a.toNat).take 1 := by
  obtain ⟨k, rfl⟩ : ∃ k : Nat, a = k := ⟨a.toNat, by omega⟩
  unfold cutG
  have e := HT.sIx_nat xs.length 0 k
  have e2 := HT.sIx_nat xs.length xs.length (k + 1)
  rw [show (((k + 1 : Nat)) : Int) = (k : Int) + 1 by omega] at e2
  rw [e, e2, Int.toNat_natCast]
  rcases Nat.lt_or_ge k xs.length with q | q
  · rw [Nat.min_eq_left (by omega), Nat.min_eq_left (by omega)]
    congr 1
    omega
  · rw [Nat.min_eq_right q, Nat.min_eq_right (by omega), List.drop_eq_nil_iff.mpr (Nat.le_refl _), List.drop_eq_nil_iff.mpr q]; simp
theorem tups_at {R : Rws} {p : Nat} (hp : p < R.length) : (tupsD R)[p]? = some (.tup (R.getD p [])) := by
  unfold tupsD
  rw [List.getElem?_map, List.getElem?_eq_getElem hp]
  simp [List.getD, hp]
theorem getD_mem {R : Rws} {p : Nat} (hp : p < R.length) : R.getD p [] ∈ R := by
  simp [List.getD, hp]
theorem total_app {xs ys : List D} : total (xs ++ ys) = total xs + total ys := by simp [total]
theorem total_td {xs : List D} {a : Nat} : total (xs.take a) + total (xs.drop a) = total xs := by rw [← total_app, List.take_append_drop]
theorem total_one {xs : List D} {a : Nat} : total ((xs.drop a).take 1) + total (xs.drop (a + 1)) = total (xs.drop a) := by
  have := total_td (xs := xs.drop a) (a := 1)
  rw [List.drop_drop] at this
  exact this
theorem marks_le {rows : List D} : (marksAll rows).length ≤ total rows := by
  unfold marksAll total
  rw [List.length_flatMap]
  induction rows with
  | nil => simp
  | cons r rows ih =>
    have : (marksOf (rowOf r)).length ≤ (rowOf r).length := List.length_filterMap_le _ _
    simp only [List.map_cons, List.sum_cons]
    omega
theorem marks_set {R : Rws} {p : Nat} {r : List D} (hp : p < R.length) : (marksAll (tupsD (R.set p r))).length + (marksOf (R.getD p [])).length = (marksAll (tupsD R)).length + (marksOf r).length := by
  have mc : ∀ (x : List D) (R : Rws), (marksAll (tupsD (x :: R))).length = (marksOf x).length + (marksAll (tupsD R)).length := fun x R => by simp [marksAll, tupsD, rowOf]
  induction R generalizing p with
  | nil => simp at hp
  | cons x R ih =>
    cases p with
    | zero =>
      simp only [List.set_cons_zero, mc, List.getD_cons_zero]
      omega
    | succ p =>
      have := ih (p := p) (by simpa using hp)
      simp only [List.set_cons_succ, mc, List.getD_cons_succ]
      omega
theorem evrows_total {c k : Nat} {R : Rws} (h : EvRows c k R) : total (tupsD R) ≤ k * c := by
  obtain ⟨rfl, h⟩ := h
  induction R with
  | nil => simp [tupsD, total]
  | cons r R ih =>
    have := ih fun x hx => h x (List.mem_cons_of_mem _ hx)
    have := (h r List.mem_cons_self).1
    have tc : total (tupsD (r :: R)) = r.length + total (tupsD R) := rfl
    rw [tc, List.length_cons, Nat.mul_add]
    omega
end Th

set_option linter.all false
set_option maxRecDepth 100000
set_option maxHeartbeats 1000000
/-! Rows that grow, event by event, are a run. -/
namespace Th
open PySem L2 Mi LL
inductive Grow (k : Nat) : Rws → List Int → List Int → Prop where
  | nil : Grow k (List.replicate k []) [] []
  | step {R : Rws} {F S : List Int} {p : Nat} {z : D} : Grow k R F S → p < k → isChangesD z = true → Grow k (addAt R p (.tup [.str "step", z])) F S
  | take {R : Rws} {F S : List Int} {p j : Nat} {l : Int} {z : D} : Grow k R F S → p < k → isChangesD z = true → F[j]? = some l → Grow k (addAt R p (.tup [.str "take", .int l, z])) (F.eraseIdx j) S
  | send {R : Rws} {F S : List Int} {p : Nat} {l : Int} {z : D} : Grow k R F S → p < k → isChangesD z = true → 1 ≤ l → l ≤ 999 → l ∉ S → Grow k (addAt R p (.tup [.str "send", .int l, z])) (F ++ [l]) (S ++ [l])
theorem addAt_length {R : Rws} {p : Nat} {e : D} : (addAt R p e).length = R.length := by simp [addAt]
theorem Grow.len {k : Nat} {R : Rws} {F S : List Int} (h : Grow k R F S) : R.length = k := by
  induction h with
  | nil => simp
  | step _ _ _ ih => rw [addAt_length]; exact ih
  | take _ _ _ _ ih => rw [addAt_length]; exact ih
  | send _ _ _ _ _ _ ih => rw [addAt_length]; exact ih
theorem addAt_get {R : Rws} {p q : Nat} {e : D} (hp : p < R.length) : (addAt R p e).getD q [] = if q = p then R.getD p [] ++ [e] else R.getD q [] := by
  unfold addAt
  simp only [List.getD]
  by_cases c : q = p
  · subst c
    rw [if_pos rfl, List.getElem?_set_self hp]; rfl
  · rw [if_neg c, List.getElem?_set_ne (Ne.symm c)]
theorem evAt_tups {R : Rws} {p r : Nat} : evAt (tupsD R) p r = (R.getD p [])[r]? := by
  unfold evAt tupsD
  rw [List.getElem?_map]
  cases h : R[p]? with
  | none => simp [List.getD, h]
  | some x => simp [List.getD, h, rowOf]
/-- what stood before stands -/
theorem evAt_add {R : Rws} {p q r : Nat} {e e' : D} (hp : p < R.length) (h : evAt (tupsD R) q r = some e') : evAt (tupsD (addAt R p e)) q r = some e' := by
  rw [evAt_tups] at h ⊢
  rw [addAt_get hp]
  split
  · rename_i c
    subst c
    rw [List.getElem?_append_left (List.getElem?_eq_some_iff.mp h).1]; exact h
  · exact h
theorem evAt_new {R : Rws} {p : Nat} {e : D} (hp : p < R.length) : evAt (tupsD (addAt R p e)) p (R.getD p []).length = some e := by
  rw [evAt_tups, addAt_get hp, if_pos rfl, List.getElem?_append_right (Nat.le_refl _), Nat.sub_self]; rfl
theorem marks_add {R : Rws} {p : Nat} {e : D} (hp : p < R.length) : (marksAll (tupsD (addAt R p e))).Perm (marksAll (tupsD R) ++ marksOf [e]) := by
  have mc : ∀ (x : List D) (R : Rws), marksAll (tupsD (x :: R)) = marksOf x ++ marksAll (tupsD R) := fun x R => by simp [marksAll, tupsD, rowOf]
  have ma : ∀ (x : List D), marksOf (x ++ [e]) = marksOf x ++ marksOf [e] := fun x => by simp [marksOf, List.filterMap_append]
  induction R generalizing p with
  | nil => simp at hp
  | cons x R ih =>
    cases p with
    | zero =>
      have : addAt (x :: R) 0 e = (x ++ [e]) :: R := rfl
      rw [this, mc, mc, ma, List.append_assoc, List.append_assoc]
      exact List.Perm.append_left _ List.perm_append_comm
    | succ p =>
      have : addAt (x :: R) (p + 1) e = x :: addAt R p e := rfl
      rw [this, mc, mc, List.append_assoc]
      exact List.Perm.append_left _ (ih (by simpa using hp))
/-- what holds of the letters -/
structure GrowOk (k : Nat) (R : Rws) (F S : List Int) : Prop where
  ev : ∀ r ∈ R, ∀ e ∈ r, isEventD e = true
  once : (marksAll (tupsD R)).Nodup
  sent : ∀ l, (Str.ofString "send", l) ∈ marksAll (tupsD R) ↔ l ∈ S
  took : ∀ l, (Str.ofString "take", l) ∈ marksAll (tupsD R) → l ∈ S ∧ l ∉ F
  fn : F.Nodup
  fs : ∀ l ∈ F, l ∈ S
  sb : ∀ l ∈ S, 1 ≤ l ∧ l ≤ 999
  reach : Reach (tupsD R) (R.map List.length)
theorem mem_marks {rows : List D} {m : Str × Int} : m ∈ marksAll rows ↔ ∃ p r e, evAt rows p r = some e ∧ markOf e = some m := by
  unfold marksAll marksOf
  rw [List.mem_flatMap]
  constructor
  · rintro ⟨d, hd, hm⟩
    obtain ⟨e, he, h⟩ := List.mem_filterMap.mp hm
    obtain ⟨p, hp, ep⟩ := List.getElem_of_mem hd
    obtain ⟨r, hr, er⟩ := List.getElem_of_mem he
    refine ⟨p, r, e, ?_, h⟩
    unfold evAt
    rw [List.getElem?_eq_getElem hp, ep]
    show (rowOf d)[r]? = some e
    rw [List.getElem?_eq_getElem hr, er]
  · rintro ⟨p, r, e, h1, h2⟩
    unfold evAt at h1
    obtain ⟨d, hd, h1⟩ := Option.bind_eq_some_iff.mp h1
    exact ⟨d, List.mem_of_getElem? hd, List.mem_filterMap.mpr ⟨e, List.mem_of_getElem? h1, h2⟩⟩
theorem sentAt_add {R : Rws} {p : Nat} {e : D} {rs : List Nat} {l : Int} (hp : p < R.length) (h : SentAt (tupsD R) rs l) : SentAt (tupsD (addAt R p e)) rs l := by
  obtain ⟨q, r, n, e', h1, h2, h3, h4⟩ := h
  exact ⟨q, r, n, e', h1, h2, evAt_add hp h3, h4⟩
theorem reach_add {R : Rws} {p : Nat} {e : D} {b : List Nat} (hp : p < R.length) (h : Reach (tupsD R) b) : Reach (tupsD (addAt R p e)) b := by
  have el : (tupsD R).length = (tupsD (addAt R p e)).length := by simp [tupsD, addAt]
  induction h with
  | zero => rw [el]; exact .zero
  | step _ h1 h2 ih =>
    obtain ⟨r', e', g1, g2, g3⟩ := h2
    exact ih.step h1 ⟨r', e', g1, evAt_add hp g2, fun l hl => sentAt_add hp (g3 l hl)⟩
theorem reach_step {R : Rws} {p : Nat} {e : D} (hp : p < R.length) (h : Reach (tupsD R) (R.map List.length)) (w : ∀ l, markOf e = some (Str.ofString "take", l) → SentAt (tupsD R) (R.map List.length) l) : Reach (tupsD (addAt R p e)) ((addAt R p e).map List.length) := by
  have g : (R.map List.length)[p]? = some (R.getD p []).length := by simp [List.getD, hp]
  have e2 : (addAt R p e).map List.length = (R.map List.length).set p ((R.getD p []).length + 1) := by
    unfold addAt
    rw [List.map_set]
    simp
  rw [e2]
  exact (reach_add hp h).step g ⟨_, e, g, evAt_new hp, fun l hl => sentAt_add hp (w l hl)⟩
theorem sent_in {R : Rws} {l : Int} (h : (Str.ofString "send", l) ∈ marksAll (tupsD R)) : SentAt (tupsD R) (R.map List.length) l := by
  obtain ⟨p, r, e, h1, h2⟩ := mem_marks.mp h
  rw [evAt_tups] at h1
  obtain ⟨hr, _⟩ := List.getElem?_eq_some_iff.mp h1
  have hp : p < R.length := by
    rcases Nat.lt_or_ge p R.length with c | c
    · exact c
    · simp [List.getD, List.getElem?_eq_none c] at hr
  refine ⟨p, r, (R.getD p []).length, e, by simp [List.getD, hp], hr, ?_, h2⟩
  rw [evAt_tups]; exact h1
theorem Grow.ok {k : Nat} {R : Rws} {F S : List Int} (h : Grow k R F S) : GrowOk k R F S := by
  have nt : Str.ofString "send" ≠ Str.ofString "take" := by decide +kernel
  induction h with
  | nil =>
    have mz : marksAll (tupsD (List.replicate k [])) = [] := by
      unfold marksAll tupsD
      rw [List.flatMap_eq_nil_iff]
      intro d hd
      obtain ⟨r, hr, rfl⟩ := List.mem_map.mp hd
      rw [(List.mem_replicate.mp hr).2]; rfl
    refine ⟨fun r hr e he => ?_, by rw [mz]; exact List.nodup_nil, fun l => by rw [mz]; simp, fun l hl => ?_, List.nodup_nil, fun l hl => (by cases hl), fun l hl => (by cases hl), ?_⟩
    · rw [(List.mem_replicate.mp hr).2] at he; cases he
    · rw [mz] at hl; cases hl
    · have : (List.replicate k ([] : List D)).map List.length = List.replicate (tupsD (List.replicate k [])).length 0 := by simp [tupsD]
      rw [this]
      exact .zero
  | @step R F S p z h hp hz ih =>
    have hp' : p < R.length := by rw [h.len]; exact hp
    have pm := marks_add (e := .tup [.str "step", z]) hp'
    have em : marksOf [D.tup [.str "step", z]] = [] := by cases z <;> rfl
    rw [em, List.append_nil] at pm
    refine ⟨fun r hr e he => ?_, pm.nodup_iff.mpr ih.once, fun l => by rw [pm.mem_iff]; exact ih.sent l, fun l hl => ih.took l (pm.mem_iff.mp hl), ih.fn, ih.fs, ih.sb, reach_step hp' ih.reach fun l hl => ?_⟩
    · rcases mem_addAt hp' hr e he with rfl | ⟨r', h1, h2⟩
      · exact step_ev hz
      · exact ih.ev r' h1 e h2
    · cases z <;> cases hl
  | @take R F S p j l z h hp hz hj ih =>
    have hp' : p < R.length := by rw [h.len]; exact hp
    have pm := marks_add (e := .tup [.str "take", .int l, z]) hp'
    have em : marksOf [D.tup [.str "take", .int l, z]] = [(Str.ofString "take", l)] := rfl
    rw [em] at pm
    have hF : l ∈ F := List.mem_of_getElem? hj
    have hS := ih.fs l hF
    obtain ⟨b1, b2⟩ := ih.sb l hS
    have ne : ∀ x ∈ F.eraseIdx j, x ≠ l := by
      intro x hx e
      subst e
      obtain ⟨i, hi, ei⟩ := List.mem_eraseIdx_iff_getElem?.mp hx
      obtain ⟨hjl, ej⟩ := List.getElem?_eq_some_iff.mp hj
      obtain ⟨hil, eil⟩ := List.getElem?_eq_some_iff.mp ei
      exact hi ((List.getElem_inj ih.fn).mp (eil.trans ej.symm))
    refine ⟨fun r hr e he => ?_, pm.nodup_iff.mpr ?_, fun x => ?_, fun x hx => ?_, ih.fn.eraseIdx j, fun x hx => ih.fs x (List.mem_of_mem_eraseIdx hx), ih.sb, reach_step hp' ih.reach fun x hx => ?_⟩
    · rcases mem_addAt hp' hr e he with rfl | ⟨r', h1, h2⟩
      · exact mark_ev (.inr rfl) hz b1 b2
      · exact ih.ev r' h1 e h2
    · rw [List.nodup_append]
      refine ⟨ih.once, by simp, fun a ha b hb => ?_⟩
      rw [List.mem_singleton.mp hb]
      rintro rfl
      exact (ih.took l ha).2 hF
    · rw [pm.mem_iff, List.mem_append, List.mem_singleton, ih.sent x]
      constructor
      · rintro (h | h)
        · exact h
        · exact absurd (congrArg Prod.fst h) nt
      · exact .inl
    · rcases List.mem_append.mp (pm.mem_iff.mp hx) with h | h
      · exact ⟨(ih.took x h).1, fun hm => (ih.took x h).2 (List.mem_of_mem_eraseIdx hm)⟩
      · have e := congrArg Prod.snd (List.mem_singleton.mp h)
        simp only at e
        subst e
        exact ⟨hS, fun hm => ne _ hm rfl⟩
    · have e : markOf (D.tup [.str "take", .int l, z]) = some (Str.ofString "take", l) := rfl
      rw [e] at hx
      cases hx
      exact sent_in ((ih.sent l).mpr hS)
  | @send R F S p l z h hp hz b1 b2 hn ih =>
    have hp' : p < R.length := by rw [h.len]; exact hp
    have pm := marks_add (e := .tup [.str "send", .int l, z]) hp'
    have em : marksOf [D.tup [.str "send", .int l, z]] = [(Str.ofString "send", l)] := rfl
    rw [em] at pm
    refine ⟨fun r hr e he => ?_, pm.nodup_iff.mpr ?_, fun x => ?_, fun x hx => ?_, ?_, fun x hx => ?_, fun x hx => ?_, reach_step hp' ih.reach fun x hx => ?_⟩
    · rcases mem_addAt hp' hr e he with rfl | ⟨r', h1, h2⟩
      · exact mark_ev (.inl rfl) hz b1 b2
      · exact ih.ev r' h1 e h2
    · rw [List.nodup_append]
      refine ⟨ih.once, by simp, fun a ha b hb => ?_⟩
      rw [List.mem_singleton.mp hb]
      rintro rfl
      exact hn ((ih.sent l).mp ha)
    · rw [pm.mem_iff, List.mem_append, List.mem_singleton, ih.sent x, List.mem_append, List.mem_singleton]
      constructor
      · rintro (h | h)
        · exact .inl h
        · exact .inr (congrArg Prod.snd h)
      · rintro (h | rfl)
        · exact .inl h
        · exact .inr rfl
    · rcases List.mem_append.mp (pm.mem_iff.mp hx) with h | h
      · obtain ⟨t1, t2⟩ := ih.took x h
        refine ⟨List.mem_append_left _ t1, fun hm => ?_⟩
        rcases List.mem_append.mp hm with hm | hm
        · exact t2 hm
        · rw [List.mem_singleton.mp hm] at t1
          exact hn t1
      · exact absurd (congrArg Prod.fst (List.mem_singleton.mp h)).symm nt
    · rw [List.nodup_append]
      refine ⟨ih.fn, by simp, fun a ha b hb => ?_⟩
      rw [List.mem_singleton.mp hb]
      rintro rfl
      exact hn (ih.fs _ ha)
    · rcases List.mem_append.mp hx with h | h
      · exact List.mem_append_left _ (ih.fs x h)
      · exact List.mem_append_right _ h
    · rcases List.mem_append.mp hx with h | h
      · exact ih.sb x h
      · rw [List.mem_singleton.mp h]; exact ⟨b1, b2⟩
    · have e : markOf (D.tup [.str "send", .int l, z]) = some (Str.ofString "send", l) := rfl
      rw [e] at hx
      cases hx
theorem sum_lens {R : Rws} : (R.map List.length).sum = total (tupsD R) := by
  unfold total tupsD
  rw [List.map_map]
  rfl
/-- .. so the rows are a run -/
theorem Grow.run {k : Nat} {R : Rws} {F S : List Int} (h : Grow k R F S) (h1 : 1 ≤ k) (h6 : k ≤ 6) (h30 : ∀ r ∈ R, r.length ≤ 30) : RunOk (tupsD R) := by
  have ok := h.ok
  have hl : (tupsD R).length = k := by rw [← h.len]; simp [tupsD]
  have ev : ∀ d ∈ tupsD R, isProcD d = true := by
    intro d hd
    obtain ⟨r, hr, rfl⟩ := List.mem_map.mp hd
    unfold isProcD
    rw [Bool.and_eq_true, decide_eq_true_eq, List.all_eq_true]
    exact ⟨h30 r hr, ok.ev r hr⟩
  refine ⟨by omega, by omega, ev, ok.once, (one_full ?_ ev).mpr ⟨_, ok.reach, sum_lens⟩⟩
  have := total_le ev
  omega
end Th

set_option linter.all false
set_option maxRecDepth 100000
set_option maxHeartbeats 1000000
/-! _law_draws. -/
namespace Th
open PySem L2 Mi LL
@[simp] theorem abs_i (i : Int) (st : Store) : biop .abs [.int i] st = .ok (.int (if i < 0 then -i else i)) st := rfl
@[simp] theorem slc_fl (xs : List D) (lo hi : Option Int) (st : Store) : slcop (.fl xs) lo hi st = .ok (.ref st.length) (st ++ [.lst (cutG xs lo hi)]) := rfl
def drBody : Ss := match fd__law_draws.body with
  | .cons _ (.cons (.for _ _ b) _) => b
  | _ => .nil
def drIn : Ss := match fd__law_draws.body with
  | .cons _ (.cons (.for _ _ (.cons _ (.cons (.iff _ _ (.cons (.for _ _ b) _)) _))) _) => b
  | _ => .nil
section
variable {st : Store} {cells : List D} {s0 s1 s2 : Option D}
def DrS (st : Store) (ds : List Int) (cells : List D) : Store := st ++ [.lst (ds.map D.int), .lst cells]
theorem drs_0 {ds : List Int} : (DrS st ds cells)[st.length]? = some (.lst (ds.map D.int)) := by simp [DrS]
theorem drs_1 {ds : List Int} : (DrS st ds cells)[st.length + 1]? = some (.lst cells) := by simp [DrS]
theorem drs_set {ds es : List Int} : (DrS st ds cells).set st.length (.lst (es.map D.int)) = DrS st es cells := by simp [DrS]
theorem drs_app {ds : List Int} {i : Int} (h : ds.length < 1000) : mthop .append (.ref st.length) [.int i] (DrS st ds cells) = .ok .non (DrS st (ds ++ [i]) cells) := by
  rw [append_run drs_0 (by simp only [List.length_map, LINE]; omega)]
  have := drs_set (st := st) (cells := cells) (ds := ds) (es := ds ++ [i])
  simp only [List.map_append, List.map_cons, List.map_nil] at this
  rw [this]
theorem dr_in {N : Nat} {x4 x6 : Option D} : ∀ {k : Nat} {ds : List Int} {number : Int} {x7 : Option D}, 0 ≤ number → (∀ d ∈ ds, 0 ≤ d) → ds.length + k < 1000 → ∃ ds' number' x7', (∀ d ∈ ds', 0 ≤ d) ∧ ds'.length ≤ ds.length + k ∧
    forL (bodyF (.name 7) (evSs (callK L N) L.cs L.sub L.wf drIn)) none (rangeD (12 - (k : Int)) 12) [s0, s1, s2, some (.ref st.length), x4, some (.int number), x6, x7] (DrS st ds cells) = .nx [s0, s1, s2, some (.ref st.length), x4, some (.int number'), x6, x7'] (DrS st ds' cells)
  | 0, ds, number, x7, hn, hd, hl => ⟨ds, number, x7, hd, by omega, by rw [rangeD_nil (by omega), forL_nil]⟩
  | k + 1, ds, number, x7, hn, hd, hl => by
    have e : (12 - ((k + 1 : Nat) : Int)) + 1 = 12 - (k : Int) := by omega
    rw [rangeD_cons (by omega), e]
    have hn2 : 0 ≤ number / 100000000000000 := Int.ediv_nonneg hn (by omega)
    by_cases c : 0 < number
    · have s1' : bodyF (.name 7) (evSs (callK L N) L.cs L.sub L.wf drIn) (.int (12 - ((k + 1 : Nat) : Int))) [s0, s1, s2, some (.ref st.length), x4, some (.int number), x6, x7] (DrS st ds cells) = .nx [s0, s1, s2, some (.ref st.length), x4, some (.int (number / 100000000000000)), x6, some (.int (12 - ((k + 1 : Nat) : Int)))] (DrS st (ds ++ [number % 100000000000000]) cells) := by
        rw [bodyF_name]
        unfold drIn
        delta fd__law_draws
        have ap := drs_app (st := st) (cells := cells) (ds := ds) (i := number % 100000000000000) (by omega)
        simp [c, recv_app (drs_0 (st := st) (cells := cells) (ds := ds)), ap]
      obtain ⟨ds', n', x', h1, h2, h3⟩ := dr_in (N := N) (x4 := x4) (x6 := x6) (k := k) (ds := ds ++ [number % 100000000000000]) (number := number / 100000000000000) (x7 := some (.int (12 - ((k + 1 : Nat) : Int)))) hn2 (fun d hd' => by
        rcases List.mem_append.mp hd' with h | h
        · exact hd d h
        · rw [List.mem_singleton.mp h]; exact Int.emod_nonneg _ (by omega)) (by simp; omega)
      exact ⟨ds', n', x', h1, by simp at h2; omega, by rw [forL_nx s1', h3]⟩
    · have s1' : bodyF (.name 7) (evSs (callK L N) L.cs L.sub L.wf drIn) (.int (12 - ((k + 1 : Nat) : Int))) [s0, s1, s2, some (.ref st.length), x4, some (.int number), x6, x7] (DrS st ds cells) = .nx [s0, s1, s2, some (.ref st.length), x4, some (.int (number / 100000000000000)), x6, some (.int (12 - ((k + 1 : Nat) : Int)))] (DrS st ds cells) := by
        rw [bodyF_name]
        unfold drIn
        delta fd__law_draws
        simp [c]
      obtain ⟨ds', n', x', h1, h2, h3⟩ := dr_in (N := N) (x4 := x4) (x6 := x6) (k := k) (ds := ds) (number := number / 100000000000000) (x7 := some (.int (12 - ((k + 1 : Nat) : Int)))) hn2 hd (by omega)
      exact ⟨ds', n', x', h1, by omega, by rw [forL_nx s1', h3]⟩
theorem dr_cell {N : Nat} {ds : List Int} {c : Int} {x4 x5 x6 x7 : Option D} (hd : ∀ d ∈ ds, 0 ≤ d) (hl : ds.length + 12 < 1000) : ∃ ds' y5 y6 y7, (∀ d ∈ ds', 0 ≤ d) ∧ ds'.length ≤ ds.length + 12 ∧
    bodyF (.name 4) (evSs (callK L N) L.cs L.sub L.wf drBody) (.int c) [s0, s1, s2, some (.ref st.length), x4, x5, x6, x7] (DrS st ds cells) = .nx [s0, s1, s2, some (.ref st.length), some (.int c), y5, y6, y7] (DrS st ds' cells) := by
  obtain ⟨n, hn, h0⟩ : ∃ n : Int, (if c < 0 then -c else c) = n ∧ 0 ≤ n := ⟨_, rfl, by split <;> omega⟩
  rw [bodyF_name]
  by_cases h : n < 1000000000000000000
  · have m0 : 0 ≤ (n * 48611 + 43) % 2147483647 := Int.emod_nonneg _ (by omega)
    have m1 : (n * 48611 + 43) % 2147483647 < 2147483647 := Int.emod_lt_of_pos _ (by omega)
    generalize hm : (n * 48611 + 43) % 2147483647 = m at m0 m1
    have a0 : 0 ≤ m * 2147483629 + (m * 16807 + n) % 2147483629 := by
      have := Int.emod_nonneg (m * 16807 + n) (show (2147483629 : Int) ≠ 0 by omega)
      omega
    have b0 : 0 ≤ (m * 69621 + n / 9 + 3) % 2147483399 * 7919 + n % 7919 := by
      have := Int.emod_nonneg (m * 69621 + n / 9 + 3) (show (2147483399 : Int) ≠ 0 by omega)
      have := Int.emod_nonneg n (show (7919 : Int) ≠ 0 by omega)
      omega
    have ap1 := drs_app (st := st) (cells := cells) (ds := ds) (i := m * 2147483629 + (m * 16807 + n) % 2147483629) (by omega)
    have ap2 := drs_app (st := st) (cells := cells) (ds := ds ++ [m * 2147483629 + (m * 16807 + n) % 2147483629]) (i := (m * 69621 + n / 9 + 3) % 2147483399 * 7919 + n % 7919) (by simp; omega)
    refine ⟨ds ++ [m * 2147483629 + (m * 16807 + n) % 2147483629] ++ [(m * 69621 + n / 9 + 3) % 2147483399 * 7919 + n % 7919], some (.int n), some (.int m), x7, fun d h => ?_, by simp, ?_⟩
    · rcases List.mem_append.mp h with h | h
      · rcases List.mem_append.mp h with h | h
        · exact hd d h
        · rw [List.mem_singleton.mp h]; exact a0
      · rw [List.mem_singleton.mp h]; exact b0
    · unfold drBody
      delta fd__law_draws
      simp only [List.append_assoc] at ap2
      simp [hn, h, hm, recv_app (drs_0 (st := st) (cells := cells) (ds := ds)), recv_app (drs_0 (st := st) (cells := cells) (ds := ds ++ [m * 2147483629 + (m * 16807 + n) % 2147483629])), ap1, ap2]
  · obtain ⟨ds', n', x', h1, h2, h3⟩ := dr_in (N := N) (st := st) (cells := cells) (s0 := s0) (s1 := s1) (s2 := s2) (x4 := some (.int c)) (x6 := x6) (k := 12) (ds := ds) (number := n) (x7 := x7) h0 hd (by omega)
    refine ⟨ds', some (.int n'), x6, x', h1, h2, ?_⟩
    rw [show (12 - ((12 : Nat) : Int)) = 0 by decide] at h3
    unfold drBody
    delta fd__law_draws
    have s62 : small62 12 := ⟨by decide, by decide⟩
    simp [hn, h, rng1R_ok s62]
    have h3' := h3
    unfold drIn at h3'
    delta fd__law_draws at h3'
    simp only at h3'
    rw [h3']
    rfl
theorem draws_run {n : Nat} (hn : 1 ≤ n) {ns : List Int} (hns : ns.length ≤ 63) (start most : Nat) (hm : most ≤ 1000) : ∃ ds : List Int, (∀ d ∈ ds, 0 ≤ d) ∧ ds.length ≤ most ∧ callK L n "_law_draws" [.fl (ns.map D.int), .int start, .int most] st = .ok (.ref st.length) (st ++ [.lst (ds.map D.int)]) := by
  obtain ⟨m, rfl, hM⟩ := pred_ hn
  rw [call_open fn__law_draws rfl]
  have hc : cutG (ns.map D.int) (some (start : Int)) none = (ns.drop start).map D.int := by rw [cutG_dropI (by omega), Int.toNat_natCast, List.map_drop]
  have key : ∀ (cs : List Int) (ds : List Int) (x4 x5 x6 x7 : Option D), (∀ d ∈ ds, 0 ≤ d) → ds.length + 12 * cs.length < 1000 → ∃ ds' y4 y5 y6 y7, (∀ d ∈ ds', 0 ≤ d) ∧ ds'.length ≤ ds.length + 12 * cs.length ∧
      forL (bodyF (.name 4) (evSs (callK L m) L.cs L.sub L.wf drBody)) (some (st.length + 1, (ns.drop start).map D.int)) (cs.map D.int) [some (.fl (ns.map D.int)), some (.int start), some (.int most), some (.ref st.length), x4, x5, x6, x7] (DrS st ds ((ns.drop start).map D.int)) = .nx [some (.fl (ns.map D.int)), some (.int start), some (.int most), some (.ref st.length), y4, y5, y6, y7] (DrS st ds' ((ns.drop start).map D.int)) := by
    intro cs
    induction cs with
    | nil =>
      intro ds x4 x5 x6 x7 hd hl
      refine ⟨ds, x4, x5, x6, x7, hd, by simp, ?_⟩
      have g : gdOk (some (st.length + 1, (ns.drop start).map D.int)) (DrS st ds ((ns.drop start).map D.int)) := drs_1
      simp only [List.map_nil, forL, if_pos g]
    | cons c cs ih =>
      intro ds x4 x5 x6 x7 hd hl
      simp only [List.length_cons] at hl
      obtain ⟨ds1, y5, y6, y7, h1, h2, h3⟩ := dr_cell (N := m) (st := st) (cells := (ns.drop start).map D.int) (s0 := some (.fl (ns.map D.int))) (s1 := some (.int start)) (s2 := some (.int most)) (c := c) (x4 := x4) (x5 := x5) (x6 := x6) (x7 := x7) hd (by omega)
      obtain ⟨ds', z4, z5, z6, z7, g1, g2, g3⟩ := ih ds1 (some (.int c)) y5 y6 y7 h1 (by omega)
      refine ⟨ds', z4, z5, z6, z7, g1, by simp only [List.length_cons]; omega, ?_⟩
      have g : gdOk (some (st.length + 1, (ns.drop start).map D.int)) (DrS st ds ((ns.drop start).map D.int)) := drs_1
      simp only [List.map_cons, forL, if_pos g, h3, g3]
  obtain ⟨ds, y4, y5, y6, y7, h1, h2, h3⟩ := key (ns.drop start) [] none none none none (fun d h => (by cases h)) (by simp; omega)
  have e0 : DrS st [] ((ns.drop start).map D.int) = st ++ [.lst [], .lst ((ns.drop start).map D.int)] := rfl
  rw [e0] at h3
  have gl : (st ++ [MO.lst [], .lst ((ns.drop start).map D.int)])[st.length + 1]? = some (.lst ((ns.drop start).map D.int)) := by simp
  refine ⟨ds.take most, fun d hd => h1 d (List.mem_of_mem_take hd), by simp; omega, ?_⟩
  simp [fd__law_draws, startE, hc, -List.map_drop, expR_ref gl]
  change gc st (Out.fin (Out.bind (forL (bodyF (.name 4) (evSs (callK L m) L.cs L.sub L.wf drBody)) (some (st.length + 1, (ns.drop start).map D.int)) ((ns.drop start).map D.int) [some (.fl (ns.map D.int)), some (.int start), some (.int most), some (.ref st.length), none, none, none, none] (st ++ [.lst [], .lst ((ns.drop start).map D.int)])) _)) = _
  rw [h3]
  simp [-List.map_drop, -List.map_take, slc_run (drs_0 (st := st) (cells := (ns.drop start).map D.int) (ds := ds))]
  have ct : cutG (ds.map D.int) none (some (most : Int)) = (ds.take most).map D.int := by rw [cutG_take, List.map_take]
  rw [ct, ← List.map_take]
  unfold DrS
  have : (st ++ [MO.lst (ds.map D.int), .lst ((ns.drop start).map D.int)]).length = st.length + 2 := by simp
  rw [this, List.append_assoc]
  exact gc_newk (j := 2) rfl (closed_map (fun _ => rfl) _)
end
end Th

set_option linter.all false
set_option maxRecDepth 100000
set_option maxHeartbeats 1000000
/-! _law_changes of a number. -/
namespace Th
open PySem L2 Mi LL
def lcBody : Ss := match fd__law_changes.body with
  | .cons _ (.cons (.for _ _ b) _) => b
  | _ => .nil
theorem abcd_at {k : Nat} (hk : k < 4) (s : Store) : idxop (.str "abcd") (.int k) s = .ok (.str (varOf k)) s := by
  have : k = 0 ∨ k = 1 ∨ k = 2 ∨ k = 3 := by omega
  rcases this with rfl | rfl | rfl | rfl <;> rfl
section
variable {st : Store}
theorem lc_loop {N : Nat} : ∀ {k : Nat} {acc : List D} {number : Int} {x2 : Option D}, k ≤ 4 → 0 ≤ number → acc.length ≤ 4 - k → ascN 0 acc = true → (∀ d ∈ acc, ∃ j, chIx d = some j ∧ j < 4 - k) → ∃ acc' number' x', acc'.length ≤ 4 ∧ ascN 0 acc' = true ∧
    forL (bodyF (.name 2) (evSs (callK L N) L.cs L.sub L.wf lcBody)) none (rangeD (4 - (k : Int)) 4) [some (.int number), some (.ref st.length), x2] (st ++ [.lst acc]) = .nx [some (.int number'), some (.ref st.length), x'] (st ++ [.lst acc'])
  | 0, acc, number, x2, hk, hn, hl, ha, hj => ⟨acc, number, x2, by omega, ha, by rw [rangeD_nil (by omega), forL_nil]⟩
  | k + 1, acc, number, x2, hk, hn, hl, ha, hj => by
    have e : (4 - ((k + 1 : Nat) : Int)) + 1 = 4 - (k : Int) := by omega
    have e2 : (4 - ((k + 1 : Nat) : Int)) = ((4 - (k + 1) : Nat) : Int) := by omega
    rw [rangeD_cons (by omega), e]
    have hn2 : 0 ≤ number / 21 := Int.ediv_nonneg hn (by omega)
    have hj2 : ∀ d ∈ acc, ∃ j, chIx d = some j ∧ j < 4 - k := fun d hd => by
      obtain ⟨j, h1, h2⟩ := hj d hd
      exact ⟨j, h1, by omega⟩
    have ab := fun s => abcd_at (k := 4 - (k + 1)) (by omega) s
    rw [e2]
    have i4 : 4 - (k + 1) < 4 := by omega
    have hjk : ∀ d ∈ acc, ∃ j, chIx d = some j ∧ j < 4 - (k + 1) := hj
    have ik : 4 - (k + 1) < 4 - k := by omega
    have hlk : acc.length ≤ 4 - (k + 1) := hl
    generalize 4 - (k + 1) = i at ab i4 hjk ik hlk
    by_cases c : number % 3 = 0
    · have v0 : 0 ≤ number / 3 % 7 := Int.emod_nonneg _ (by omega)
      have v1 : number / 3 % 7 < 7 := Int.emod_lt_of_pos _ (by omega)
      have cx := chIx_var (k := i) (w := number / 3 % 7 - 3) i4 (by omega) (by omega)
      have ap := append_run (s := st ++ [.lst acc]) (c := st.length) (xs := acc) (d := .tup [.str (varOf i), .int (number / 3 % 7 - 3)]) (by simp) (by simp only [LINE]; omega)
      have s1 : bodyF (.name 2) (evSs (callK L N) L.cs L.sub L.wf lcBody) (.int (i : Int)) [some (.int number), some (.ref st.length), x2] (st ++ [.lst acc]) = .nx [some (.int (number / 21)), some (.ref st.length), some (.int (i : Int))] (st ++ [.lst (acc ++ [.tup [.str (varOf i), .int (number / 3 % 7 - 3)]])]) := by
        rw [bodyF_name]
        unfold lcBody
        delta fd__law_changes
        simp at ap
        simp [c, recv_app (s := st ++ [.lst acc]) (c := st.length) (xs := acc) (by simp), ab, ap]
      obtain ⟨acc', n', x', h1, h2, h3⟩ := lc_loop (N := N) (k := k) (acc := acc ++ [.tup [.str (varOf i), .int (number / 3 % 7 - 3)]]) (number := number / 21) (x2 := some (.int (i : Int))) (by omega) hn2 (by simp; omega) (asc_snoc cx ha hjk (Nat.zero_le _)) (fun d hd => by
        rcases List.mem_append.mp hd with h | h
        · exact hj2 d h
        · rw [List.mem_singleton.mp h]
          exact ⟨_, cx, ik⟩)
      exact ⟨acc', n', x', h1, h2, by rw [forL_nx s1, h3]⟩
    · have s1 : bodyF (.name 2) (evSs (callK L N) L.cs L.sub L.wf lcBody) (.int (i : Int)) [some (.int number), some (.ref st.length), x2] (st ++ [.lst acc]) = .nx [some (.int (number / 21)), some (.ref st.length), some (.int (i : Int))] (st ++ [.lst acc]) := by
        rw [bodyF_name]
        unfold lcBody
        delta fd__law_changes
        simp [c]
      obtain ⟨acc', n', x', h1, h2, h3⟩ := lc_loop (N := N) (k := k) (acc := acc) (number := number / 21) (x2 := some (.int (i : Int))) (by omega) hn2 (by omega) ha hj2
      exact ⟨acc', n', x', h1, h2, by rw [forL_nx s1, h3]⟩
theorem lchanges_run {n : Nat} (hn : 1 ≤ n) {number : Int} (h0 : 0 ≤ number) : ∃ z, isChangesD z = true ∧ callK L n "_law_changes" [.int number] st = .ok z st := by
  obtain ⟨m, rfl, hM⟩ := pred_ hn
  rw [call_open fn__law_changes rfl]
  obtain ⟨acc, n', x', h1, h2, h3⟩ := lc_loop (st := st) (N := m) (k := 4) (acc := []) (number := number) (x2 := none) (by omega) h0 (by simp) rfl (by simp)
  rw [show (4 - ((4 : Nat) : Int)) = 0 by decide] at h3
  refine ⟨.tup acc, h2, ?_⟩
  have s62 : small62 4 := ⟨by decide, by decide⟩
  have tr := tuple_run (s := st ++ [.lst acc]) (c := st.length) (xs := acc) (by simp)
  simp [fd__law_changes, startE, rng1R_ok s62]
  change gc st (Out.fin (Out.bind (forL (bodyF (.name 2) (evSs (callK L m) L.cs L.sub L.wf lcBody)) none (rangeD 0 4) [some (.int number), some (.ref st.length), none] (st ++ [.lst []])) _)) = _
  rw [h3]
  simp
  exact gc_app (wf_closed ((chgs_nb (z := .tup acc) h2).2.2.1 st))
end
end Th

set_option linter.all false
set_option maxRecDepth 100000
set_option maxHeartbeats 1000000
/-! Rows and clocks that are made together. -/
namespace Th
open PySem L2 Mi LL
abbrev Clk := List (List (List Nat))
def cl (C : Clk) (p i : Nat) : List Nat := (C.getD p []).getD i []
def addC (C : Clk) (p : Nat) (c : List Nat) : Clk := C.set p (C.getD p [] ++ [c])
def lenR (R : Rws) (p : Nat) : Nat := (R.getD p []).length
inductive MadeC (k m : Nat) : Rws → Clk → Nat → List (Int × Nat × Nat) → Prop
  | nil : MadeC k m (List.replicate k []) (List.replicate k [zerosL k]) 0 []
  | step {R : Rws} {C : Clk} {n : Nat} {F : List (Int × Nat × Nat)} {p : Nat} {z : D} : MadeC k m R C n F → p < k → lenR R p < m → isChangesD z = true → MadeC k m (addAt R p (.tup [.str "step", z])) (addC C p ((cl C p (lenR R p)).set p (lenR R p + 1))) n F
  | send {R : Rws} {C : Clk} {n : Nat} {F : List (Int × Nat × Nat)} {p : Nat} {z : D} : MadeC k m R C n F → p < k → lenR R p < m → isChangesD z = true → MadeC k m (addAt R p (.tup [.str "send", .int ((n : Int) + 1), z])) (addC C p ((cl C p (lenR R p)).set p (lenR R p + 1))) (n + 1) (F ++ [((n : Int) + 1, p, lenR R p + 1)])
  | take {R : Rws} {C : Clk} {n : Nat} {F : List (Int × Nat × Nat)} {p j q i : Nat} {l : Int} {z : D} : MadeC k m R C n F → p < k → lenR R p < m → isChangesD z = true → F[j]? = some (l, q, i) → MadeC k m (addAt R p (.tup [.str "take", .int l, z])) (addC C p ((List.zipWith max (cl C p (lenR R p)) (cl C q i)).set p (lenR R p + 1))) n (F.eraseIdx j)
def sendAt (R : Rws) (q j : Nat) (l : Int) : Prop := 1 ≤ j ∧ ∃ z, evAt (tupsD R) q (j - 1) = some (.tup [.str "send", .int l, z])
structure MadeOk (k m : Nat) (R : Rws) (C : Clk) (n : Nat) (F : List (Int × Nat × Nat)) : Prop where
  grow : Grow k R (F.map (·.1)) ((List.range n).map fun i : Nat => (i : Int) + 1)
  clen : C.length = k
  row : ∀ p, p < k → (C.getD p []).length = lenR R p + 1
  zero : ∀ p, p < k → cl C p 0 = zerosL k
  wid : ∀ p, p < k → ∀ i, i ≤ lenR R p → (cl C p i).length = k
  left : ∀ x ∈ F, x.2.1 < k ∧ x.2.2 ≤ lenR R x.2.1 ∧ sendAt R x.2.1 x.2.2 x.1
  rec_ : ∀ p i e, evAt (tupsD R) p i = some e → (takeOf e = none → cl C p (i + 1) = (cl C p i).set p (i + 1)) ∧ ∀ l, takeOf e = some l → ∃ q j, sendAt R q j l ∧ q < k ∧ j ≤ lenR R q ∧ (q = p → j ≤ i) ∧ cl C p (i + 1) = (List.zipWith max (cl C p i) (cl C q j)).set p (i + 1)
  short : ∀ p, lenR R p ≤ m
  nle : n ≤ total (tupsD R)
section
variable {k m : Nat} {R : Rws} {C : Clk} {n : Nat} {F : List (Int × Nat × Nat)} {p : Nat}
theorem lenR_add {e : D} (hp : p < R.length) (q : Nat) : lenR (addAt R p e) q = if q = p then lenR R p + 1 else lenR R q := by
  unfold lenR
  rw [addAt_get hp]
  split <;> simp
theorem cl_add {c : List Nat} (hp : p < C.length) (q i : Nat) : cl (addC C p c) q i = if q = p ∧ i = (C.getD p []).length then c else cl C q i := by
  unfold cl addC
  by_cases e : q = p
  · subst e
    have e1 : (C.set q (C.getD q [] ++ [c])).getD q [] = C.getD q [] ++ [c] := by
      simp only [List.getD]
      rw [List.getElem?_set_self hp]; rfl
    rw [e1]
    by_cases e2 : i = (C.getD q []).length
    · subst e2
      simp [List.getD]
    · rw [if_neg (fun h => e2 h.2)]
      simp only [List.getD]
      rcases Nat.lt_or_ge i (C[q]?.getD []).length with h | h
      · rw [List.getElem?_append_left h]
      · have h2 : (C[q]?.getD []).length < i := by
          simp only [List.getD] at e2
          omega
        rw [List.getElem?_eq_none (by simp; omega), List.getElem?_eq_none (by omega)]
  · rw [if_neg (fun h => e h.1)]
    simp only [List.getD]
    rw [List.getElem?_set_ne (Ne.symm e)]
theorem sendAt_add {e : D} {q j : Nat} {l : Int} (hp : p < R.length) (h : sendAt R q j l) : sendAt (addAt R p e) q j l := by
  obtain ⟨h1, z, h2⟩ := h
  exact ⟨h1, z, evAt_add hp h2⟩
/-- one more event, with its clock -/
theorem MadeOk.add {e : D} {c : List Nat} {n' : Nat} {F' : List (Int × Nat × Nat)} (h : MadeOk k m R C n F) (hp : p < k) (hm : lenR R p < m) (hc : c.length = k)
    (hg : Grow k (addAt R p e) (F'.map (·.1)) ((List.range n').map fun i : Nat => (i : Int) + 1)) (hn : n' ≤ n + 1)
    (hl : ∀ x ∈ F', x ∈ F ∨ (x.2.1 = p ∧ x.2.2 = lenR R p + 1 ∧ ∃ z, e = .tup [.str "send", .int x.1, z]))
    (hr : (takeOf e = none → c = (cl C p (lenR R p)).set p (lenR R p + 1)) ∧ ∀ l, takeOf e = some l → ∃ q j, sendAt R q j l ∧ q < k ∧ j ≤ lenR R q ∧ c = (List.zipWith max (cl C p (lenR R p)) (cl C q j)).set p (lenR R p + 1)) :
    MadeOk k m (addAt R p e) (addC C p c) n' F' := by
  have hR : R.length = k := h.grow.len
  have hp' : p < R.length := by omega
  have hpC : p < C.length := by rw [h.clen]; exact hp
  have crow := h.row p hp
  have clo : ∀ q i, q < k → i ≤ lenR R q → cl (addC C p c) q i = cl C q i := by
    intro q i hq hi
    rw [cl_add hpC, if_neg]
    rintro ⟨rfl, e2⟩
    omega
  have cln : cl (addC C p c) p (lenR R p + 1) = c := by rw [cl_add hpC, if_pos ⟨rfl, crow.symm⟩]
  have ll := lenR_add (e := e) hp'
  refine ⟨hg, by simp [addC, h.clen], fun q hq => ?_, fun q hq => ?_, fun q hq i hi => ?_, fun x hx => ?_, fun q i ev he => ?_, fun q => ?_, ?_⟩
  · rw [ll q]
    unfold addC
    simp only [List.getD]
    by_cases e1 : q = p
    · subst e1
      rw [if_pos rfl, List.getElem?_set_self hpC]
      simp only [Option.getD_some, List.length_append, List.length_singleton]
      simp only [List.getD] at crow
      omega
    · rw [if_neg e1, List.getElem?_set_ne (Ne.symm e1)]
      have := h.row q hq
      simp only [List.getD] at this
      exact this
  · rw [clo q 0 hq (Nat.zero_le _)]; exact h.zero q hq
  · rw [ll q] at hi
    by_cases e1 : q = p
    · subst e1
      rw [if_pos rfl] at hi
      rcases Nat.lt_or_ge (lenR R q) i with h1 | h1
      · have : i = lenR R q + 1 := by omega
        subst this
        rw [cln]; exact hc
      · rw [clo q i hq h1]; exact h.wid q hq i h1
    · rw [if_neg e1] at hi
      rw [clo q i hq hi]; exact h.wid q hq i hi
  · rcases hl x hx with h1 | ⟨h1, h2, z, h3⟩
    · obtain ⟨g1, g2, g3⟩ := h.left x h1
      refine ⟨g1, ?_, sendAt_add hp' g3⟩
      rw [ll]
      split
      · rename_i e1; rw [e1] at g2; omega
      · exact g2
    · refine ⟨by omega, ?_, by omega, z, ?_⟩
      · rw [ll, if_pos h1]; omega
      · rw [h1, h2, Nat.add_sub_cancel, ← h3]
        exact evAt_new hp'
  · have hq : q < k := by
      rw [evAt_tups] at he
      rcases Nat.lt_or_ge q (addAt R p e).length with c1 | c1
      · rw [addAt_length, hR] at c1; exact c1
      · simp [List.getD, List.getElem?_eq_none c1] at he
    have hi : i < lenR (addAt R p e) q := by
      rw [evAt_tups] at he
      exact (List.getElem?_eq_some_iff.mp he).1
    rw [ll q] at hi
    by_cases c1 : q = p ∧ i = lenR R p
    · obtain ⟨rfl, rfl⟩ := c1
      have he2 := evAt_new (e := e) hp'
      change evAt (tupsD (addAt R q e)) q (lenR R q) = some e at he2
      rw [he] at he2
      cases he2
      rw [cln, clo q (lenR R q) hq (Nat.le_refl _)]
      refine ⟨hr.1, fun l hl' => ?_⟩
      obtain ⟨a, j, s1, s2, s3, s4⟩ := hr.2 l hl'
      refine ⟨a, j, sendAt_add hp' s1, s2, ?_, fun e1 => by rw [e1] at s3; exact s3, by rw [clo a j s2 s3]; exact s4⟩
      rw [ll]
      split
      · rename_i e1; rw [e1] at s3; omega
      · exact s3
    · have hi2 : i < lenR R q := by
        split at hi
        · rename_i e1
          subst e1
          have : i ≠ lenR R q := fun z => c1 ⟨rfl, z⟩
          omega
        · exact hi
      have he2 : evAt (tupsD R) q i = some ev := by
        rw [evAt_tups] at he ⊢
        rw [addAt_get hp'] at he
        split at he
        · rename_i e1
          subst e1
          rw [List.getElem?_append_left hi2] at he
          exact he
        · exact he
      obtain ⟨r1, r2⟩ := h.rec_ q i ev he2
      rw [clo q (i + 1) hq hi2, clo q i hq (by omega)]
      refine ⟨r1, fun l hl' => ?_⟩
      obtain ⟨a, j, s1, s2, s3, s5, s4⟩ := r2 l hl'
      refine ⟨a, j, sendAt_add hp' s1, s2, ?_, s5, by rw [clo a j s2 s3]; exact s4⟩
      rw [ll]
      split
      · rename_i e1; rw [e1] at s3; omega
      · exact s3
  · rw [ll q]
    split
    · omega
    · exact h.short q
  · have := h.nle
    rw [total_add hp']
    omega
theorem rep_getD {α : Type} {a b : α} {k p : Nat} (hp : p < k) : (List.replicate k a).getD p b = a := by simp [List.getD, hp]
theorem MadeC.ok (hk : k * m < 900) (h : MadeC k m R C n F) : MadeOk k m R C n F := by
  have k0 : ∀ p, lenR (List.replicate k ([] : List D)) p = 0 := fun p => by
    unfold lenR
    rcases Nat.lt_or_ge p k with h | h
    · rw [rep_getD h]; rfl
    · simp [List.getD, List.getElem?_eq_none, h]
  induction h with
  | nil =>
    refine ⟨.nil, by simp, fun p hp => by rw [rep_getD hp, k0]; rfl, fun p hp => by unfold cl; rw [rep_getD hp]; rfl, fun p hp i hi => ?_, fun x hx => (by cases hx), fun p i e he => ?_, fun p => by rw [k0]; omega, by simp⟩
    · rw [k0] at hi
      have : i = 0 := by omega
      subst this
      unfold cl
      rw [rep_getD hp]
      simp [zerosL]
    · rw [evAt_tups] at he
      have : ((List.replicate k ([] : List D)).getD p []).length = 0 := k0 p
      rw [List.getElem?_eq_none (by omega)] at he
      cases he
  | @step R C n F p z h hp hm hz ih =>
    have t0 : takeOf (.tup [.str "step", z]) = none := by cases z <;> rfl
    refine ih.add hp hm (by rw [List.length_set]; exact ih.wid p hp _ (Nat.le_refl _)) (ih.grow.step hp hz) (by omega) (fun x hx => .inl hx) ⟨fun _ => rfl, fun l hl => by rw [t0] at hl; cases hl⟩
  | @send R C n F p z h hp hm hz ih =>
    have t0 : takeOf (.tup [.str "send", .int ((n : Int) + 1), z]) = none := rfl
    have nb : n < 900 := by
      have h1 := ih.nle
      have e1 : EvRows k m R := ⟨ih.grow.len, fun r hr => ⟨by
        obtain ⟨i, hi, rfl⟩ := List.getElem_of_mem hr
        have := ih.short i
        unfold lenR at this
        simpa [List.getD, hi] using this, ih.grow.ok.ev r hr⟩⟩
      have h2 := evrows_total e1
      have : m * k = k * m := Nat.mul_comm _ _
      omega
    refine ih.add hp hm (by rw [List.length_set]; exact ih.wid p hp _ (Nat.le_refl _)) ?_ (by omega) (fun x hx => ?_) ⟨fun _ => rfl, fun l hl => by rw [t0] at hl; cases hl⟩
    · have g := ih.grow.send (p := p) (l := (n : Int) + 1) hp hz (by omega) (by omega) (fun hm => by
        obtain ⟨i, hi, e⟩ := List.mem_map.mp hm
        have := List.mem_range.mp hi
        omega)
      have e1 : (List.range (n + 1)).map (fun i : Nat => (i : Int) + 1) = (List.range n).map (fun i : Nat => (i : Int) + 1) ++ [(n : Int) + 1] := by
        rw [List.range_succ, List.map_append]; rfl
      rw [e1, List.map_append]
      exact g
    · rcases List.mem_append.mp hx with hx | hx
      · exact .inl hx
      · rw [List.mem_singleton.mp hx]
        exact .inr ⟨rfl, rfl, z, rfl⟩
  | @take R C n F p j q i l z h hp hm hz hj ih =>
    have t0 : takeOf (.tup [.str "take", .int l, z]) = some l := rfl
    obtain ⟨g1, g2, g3⟩ := ih.left _ (List.mem_of_getElem? hj)
    simp only at g1 g2 g3
    refine ih.add hp hm ?_ ?_ (by omega) (fun x hx => .inl (List.mem_of_mem_eraseIdx hx)) ⟨fun e => absurd (t0.symm.trans e) (by simp), fun l' hl => ?_⟩
    · rw [List.length_set, List.length_zipWith, ih.wid p hp _ (Nat.le_refl _), ih.wid q g1 i g2, Nat.min_self]
    · have g := ih.grow.take (p := p) (j := j) (l := l) (z := z) hp hz (by rw [List.getElem?_map, hj]; rfl)
      rw [map_erase] at g
      exact g
    · rw [t0] at hl
      cases hl
      exact ⟨q, i, g3, g1, g2, rfl⟩
end
end Th

set_option linter.all false
set_option maxRecDepth 100000
set_option maxHeartbeats 2000000
/-! _law_made: its store, its turns. -/
namespace Th
open PySem L2 Mi LL
def leftD (x : Int × Nat × Nat) : D := .tup [.int x.1, .int x.2.1, .int x.2.2]
def letsL (n : Nat) : List (Int × Bool) := (List.range n).map fun i : Nat => ((i : Int) + 1, true)
structure MS (k m : Nat) (st s : Store) (R : Rws) (C : Clk) (n : Nat) (F : List (Int × Nat × Nat)) : Prop where
  old : ∀ i, i < st.length → s[i]? = st[i]?
  rows : s[st.length]? = some (.lst (refsN (st.length + 1) k))
  row : ∀ p, p < k → s[st.length + 1 + p]? = some (.lst (R.getD p []))
  clks : s[st.length + 1 + k]? = some (.lst ((List.range k).map fun p => D.ref (st.length + k + 4 + 3 * p)))
  clk : ∀ p, p < k → s[st.length + k + 4 + 3 * p]? = some (.lst ((C.getD p []).map clD))
  lets : s[st.length + k + 2 + 3 * k]? = some (DIC KI D.bl (letsL n))
  left : s[st.length + k + 3 + 3 * k]? = some (.lst (F.map leftD))
  made : MadeC k m R C n F
theorem lets_new (n : Nat) : aget (letsL n) ((n : Int) + 1) = none := by
  rw [aget_none]
  intro p hp
  obtain ⟨i, hi, rfl⟩ := List.mem_map.mp hp
  have := List.mem_range.mp hi
  simp only
  omega
theorem lets_put (n : Nat) : aput (letsL n) ((n : Int) + 1) true = letsL (n + 1) := by
  rw [aput_new (lets_new n)]
  unfold letsL
  rw [List.range_succ, List.map_append]
  rfl
section
variable {k m : Nat} {st s s' : Store} {R : Rws} {C : Clk} {n : Nat} {F : List (Int × Nat × Nat)}
theorem MS.big (h : MS k m st s R C n F) : st.length + k + 3 + 3 * k < s.length := (List.getElem?_eq_some_iff.mp h.left).1
/-- an event and its clock are put at the ends -/
theorem MS.put (h : MS k m st s R C n F) {p n' : Nat} {e : D} {c : List Nat} {F' : List (Int × Nat × Nat)} (hp : p < k)
    (e1 : s'[st.length + 1 + p]? = some (.lst (R.getD p [] ++ [e]))) (e2 : s'[st.length + k + 4 + 3 * p]? = some (.lst ((C.getD p []).map clD ++ [clD c])))
    (e3 : s'[st.length + k + 2 + 3 * k]? = some (DIC KI D.bl (letsL n'))) (e4 : s'[st.length + k + 3 + 3 * k]? = some (.lst (F'.map leftD)))
    (e5 : ∀ i, i ≤ st.length + k + 3 + 3 * k → i ≠ st.length + 1 + p → i ≠ st.length + k + 4 + 3 * p → i ≠ st.length + k + 2 + 3 * k → i ≠ st.length + k + 3 + 3 * k → s'[i]? = s[i]?)
    (mk : MadeC k m (addAt R p e) (addC C p c) n' F') : MS k m st s' (addAt R p e) (addC C p c) n' F' := by
  have hR : R.length = k := by
    have : ∀ {R C n F}, MadeC k m R C n F → R.length = k := fun h => by
      induction h with
      | nil => simp
      | step _ _ _ _ ih => rw [addAt_length]; exact ih
      | send _ _ _ _ ih => rw [addAt_length]; exact ih
      | take _ _ _ _ _ ih => rw [addAt_length]; exact ih
    exact this h.made
  have hC : C.length = k := by
    have : ∀ {R C n F}, MadeC k m R C n F → C.length = k := fun h => by
      induction h with
      | nil => simp
      | step _ _ _ _ ih => simpa [addC] using ih
      | send _ _ _ _ ih => simpa [addC] using ih
      | take _ _ _ _ _ ih => simpa [addC] using ih
    exact this h.made
  refine ⟨fun i hi => by rw [e5 i (by omega) (by omega) (by omega) (by omega) (by omega)]; exact h.old i hi, by rw [e5 _ (by omega) (by omega) (by omega) (by omega) (by omega)]; exact h.rows, fun q hq => ?_, by rw [e5 _ (by omega) (by omega) (by omega) (by omega) (by omega)]; exact h.clks, fun q hq => ?_, e3, e4, mk⟩
  · rw [addAt_get (by omega)]
    by_cases c1 : q = p
    · subst c1
      rw [if_pos rfl]; exact e1
    · rw [if_neg c1, e5 _ (by omega) (by omega) (by omega) (by omega) (by omega)]; exact h.row q hq
  · by_cases c1 : q = p
    · subst c1
      rw [e2]
      unfold addC
      simp only [List.getD]
      rw [List.getElem?_set_self (by omega)]
      simp
    · have hb := h.clk q hq
      have : (addC C p c).getD q [] = C.getD q [] := by
        unfold addC
        simp only [List.getD]
        rw [List.getElem?_set_ne (Ne.symm c1)]
      rw [this, e5 _ (by omega) (by omega) (by omega) (by omega) (by omega)]; exact hb
end
def madeBody : Ss := match fd__law_made.body with
  | .cons _ (.cons _ (.cons _ (.cons _ (.cons (.for _ _ b) _)))) => b
  | _ => .nil
def madeTail : Ss := match madeBody with
  | .cons _ (.cons _ (.cons _ (.cons _ (.cons _ (.cons _ (.cons _ t)))))) => t
  | _ => .nil
abbrev madeE (k m a : Nat) (x0 x7 x8 x9 x10 x11 x12 x13 x14 x15 x16 x17 x18 : Option D) : Mi.Env := [x0, some (.int k), some (.int m), some (.ref a), some (.ref (a + 1 + k)), some (.ref (a + k + 2 + 3 * k)), some (.ref (a + k + 3 + 3 * k)), x7, x8, x9, x10, x11, x12, x13, x14, x15, x16, x17, x18]
def MadeQ (k m : Nat) (st : Store) (x0 : Option D) (o : Out) : Prop := ∃ x7 x8 x9 x10 x11 x12 x13 x14 x15 x16 x17 x18 s R C n F, (o = .nx (madeE k m st.length x0 x7 x8 x9 x10 x11 x12 x13 x14 x15 x16 x17 x18) s ∨ o = .ct (madeE k m st.length x0 x7 x8 x9 x10 x11 x12 x13 x14 x15 x16 x17 x18) s) ∧ MS k m st s R C n F
section
variable {k m : Nat} {st s s1 : Store} {R : Rws} {C : Clk} {n : Nat} {F : List (Int × Nat × Nat)}
theorem clks_at {a c : Nat} {p : Nat} (hp : p < c) : ((List.range c).map fun p => D.ref (a + 3 * p))[p]? = some (.ref (a + 3 * p)) := by
  rw [List.getElem?_map, List.getElem?_range hp]; rfl
theorem made_tail {N p q n' : Nat} {e : D} {c : List Nat} {F' : List (Int × Nat × Nat)} {x0 x7 x10 x12 x13 x14 x15 x17 x18 : Option D} (h : MS k m st s R C n F) (hp : p < k) (hl : lenR R p < 100) (hcl : (C.getD p []).length < 100) (hpc : p < c.length)
    (h1 : s1[q]? = some (.lst (c.map natD))) (hq : s.length ≤ q) (hs : ∀ i, i < s.length → i ≠ st.length + k + 2 + 3 * k → i ≠ st.length + k + 3 + 3 * k → s1[i]? = s[i]?) (hls : s.length ≤ s1.length)
    (e3 : s1[st.length + k + 2 + 3 * k]? = some (DIC KI D.bl (letsL n'))) (e4 : s1[st.length + k + 3 + 3 * k]? = some (.lst (F'.map leftD)))
    (mk : MadeC k m (addAt R p e) (addC C p (c.set p (lenR R p + 1))) n' F') :
    WO (evSs (callK L N) L.cs L.sub L.wf madeTail (madeE k m st.length x0 x7 (some (.int p)) (some (.ref (st.length + 1 + p))) x10 (some (.ref q)) x12 x13 x14 x15 (some e) x17 x18) s1) (MadeQ k m st x0) := by
  have big := h.big
  have r1 : s1[st.length + 1 + p]? = some (.lst (R.getD p [])) := by rw [hs _ (by omega) (by omega) (by omega)]; exact h.row p hp
  have hb := h.clk p hp
  have hbl := (List.getElem?_eq_some_iff.mp hb).1
  have ap1 := append_run (d := e) r1 (by unfold lenR at hl; simp only [LINE]; omega)
  generalize hs2 : s1.set (st.length + 1 + p) (.lst (R.getD p [] ++ [e])) = s2 at ap1
  have g2 : s2[st.length + 1 + p]? = some (.lst (R.getD p [] ++ [e])) := by rw [← hs2]; exact get_set r1
  have gq : s2[q]? = some (.lst (c.map natD)) := by rw [← hs2, List.getElem?_set_ne (by omega)]; exact h1
  have o2 : ∀ i, i ≠ st.length + 1 + p → s2[i]? = s1[i]? := fun i hi => by rw [← hs2, List.getElem?_set_ne (Ne.symm hi)]
  have ix : ixN (c.map natD).length (p : Int) = some p := by
    unfold ixN
    simp
    omega
  generalize hc' : c.set p (lenR R p + 1) = c' at mk
  have st3 : setIxop (.ref q) (.int p) (.int ((lenR R p : Nat) + 1 : Int)) s2 = some (s2.set q (.lst (c'.map natD))) := by
    unfold setIxop
    simp only [gq, ix]
    have : (c.map natD).set p (.int ((lenR R p : Nat) + 1 : Int)) = c'.map natD := by rw [← hc', List.map_set]; rfl
    rw [this]
  generalize hs3 : s2.set q (.lst (c'.map natD)) = s3 at st3
  have o3 : ∀ i, i ≠ q → s3[i]? = s2[i]? := fun i hi => by rw [← hs3, List.getElem?_set_ne (Ne.symm hi)]
  have g3 : s3[q]? = some (.lst (c'.map natD)) := by rw [← hs3]; exact get_set gq
  have c3 : s3[st.length + k + 4 + 3 * p]? = some (.lst ((C.getD p []).map clD)) := by
    rw [o3 _ (by omega), o2 _ (by omega), hs _ hbl (by omega) (by omega)]; exact hb
  have cks : s3[st.length + 1 + k]? = some (.lst ((List.range k).map fun p => D.ref (st.length + k + 4 + 3 * p))) := by
    rw [o3 _ (by omega), o2 _ (by omega), hs _ (by omega) (by omega) (by omega)]; exact h.clks
  have ca := clks_at (a := st.length + k + 4) hp
  have ap4 := append_run (d := .tup (c'.map natD)) c3 (by simp only [List.length_map, LINE]; omega)
  unfold madeTail madeBody
  delta fd__law_made
  have ll : (((R.getD p []).length : Nat) : Int) = (lenR R p : Nat) := rfl
  simp [recv_app r1, ap1, g2, -List.getD_eq_getElem?_getD]
  rw [ll]
  simp [st3, cks, atI_nat', ca, recv_app c3, g3, ap4]
  refine ⟨_, _, _, _, _, _, _, _, _, _, _, _, _, _, _, _, _, .inl rfl, h.put hp (e := e) (c := c') (n' := n') (F' := F') ?_ ?_ ?_ ?_ ?_ mk⟩
  · rw [List.getElem?_set_ne (by omega), o3 _ (by omega)]; exact g2
  · exact get_set c3
  · rw [List.getElem?_set_ne (by omega), o3 _ (by omega), o2 _ (by omega)]; exact e3
  · rw [List.getElem?_set_ne (by omega), o3 _ (by omega), o2 _ (by omega)]; exact e4
  · intro i hi i1 i2 i3 i4
    rw [List.getElem?_set_ne (Ne.symm i2), o3 _ (by omega), o2 _ i1, hs i (by omega) i3 i4]
end
end Th

set_option linter.all false
set_option maxRecDepth 100000
set_option maxHeartbeats 2000000
/-! _law_made: a turn. -/
namespace Th
open PySem L2 Mi LL
def madeIf : S := (.iff (.cmp .lt (.var 10) (.int 2))
        (.cons (.set 15 (.bin .add (.slen (.var 5)) (.int 1)))
        (.cons (.dput (.var 5) (.var 15) (.bl true))
        (.cons (.set 16 (.tup (.cons (.str "send") (.cons (.var 15) (.cons (.var 12) .nil)))))
        (.cons (.expr (.mth .append (.var 6) (.cons (.tup (.cons (.var 15) (.cons (.var 8) (.cons (.bin .add (.bi .len (.cons (.var 9) .nil)) (.int 1)) .nil)))) .nil)))
        .nil))))
        (.cons (.iff (.and (.cons (.cmp .lt (.var 10) (.int 4)) (.cons (.cmp .gt (.bi .len (.cons (.var 6) .nil)) (.int 0)) .nil)))
          (.cons (.unp [15, 17, 18] (.mth .pop (.var 6) (.cons (.bin .mod (.bin .fdiv (.var 7) (.int 7)) (.bi .len (.cons (.var 6) .nil))) .nil)))
          (.cons (.set 11 (.lc [("k", 14)] (.name 14) (.rng1 (.var 1)) .nil (.bi .max (.cons (.idx (.var 11) (.var 14)) (.cons (.idx (.idx (.idx (.var 4) (.var 17)) (.var 18)) (.var 14)) .nil)))))
          (.cons (.set 16 (.tup (.cons (.str "take") (.cons (.var 15) (.cons (.var 12) .nil)))))
          .nil)))
          (.cons (.set 16 (.tup (.cons (.str "step") (.cons (.var 12) .nil))))
          .nil))
        .nil))
theorem made_body : madeBody = (.cons (.set 8 (.bin .mod (.var 7) (.var 1)))
      (.cons (.set 9 (.idx (.var 3) (.var 8)))
      (.cons (.iff (.cmp .ge (.bi .len (.cons (.var 9) .nil)) (.var 2))
        (.cons .cnt
        .nil)
        .nil)
      (.cons (.set 10 (.bin .mod (.bin .fdiv (.var 7) (.var 1)) (.int 5)))
      (.cons (.set 11 (.bi .list (.cons (.idx (.idx (.var 4) (.var 8)) (.un .neg (.int 1))) .nil)))
      (.cons (.set 12 (.call "_law_changes" (.cons (.bin .fdiv (.var 7) (.int 40)) .nil)))
      (.cons madeIf madeTail))))))) := rfl
def unpB (is : List Nat) (d : D) (env : Mi.Env) (st : Store) : Out := match d with
  | .tup ds => (match setMany is ds env with
    | some env => .nx env st
    | none => .bad)
  | _ => .bad
@[simp] theorem evS_unp' {C : Oracle} {cs : Str → Option D} {sub : Tab} {wf : Nat} {env : Mi.Env} {st : Store} (is : List Nat) (e : E) : evS C cs sub wf (.unp is e) env st = (evE C cs e env st).bindO env fun d st => unpB is d env st := rfl
@[simp] theorem unpB_3 {i j k : Nat} {a b c : D} {env : Mi.Env} {st : Store} : unpB [i, j, k] (.tup [a, b, c]) env st = .nx (((env.set i (some a)).set j (some b)).set k (some c)) st := rfl
@[simp] theorem unpB_2 {i j : Nat} {a b : D} {env : Mi.Env} {st : Store} : unpB [i, j] (.tup [a, b]) env st = .nx ((env.set i (some a)).set j (some b)) st := rfl
theorem slen_dic {s : Store} {n : Nat} {m : List (Int × Bool)} (h : s[n]? = some (DIC KI D.bl m)) : slenop (.ref n) s = .ok (.int m.length) s := by
  have h' : s[n]? = some (.dic false (m.map (encD KI D.bl))) := h
  simp [slenop, h']
section
variable {k m : Nat} {st s s1 : Store} {R : Rws} {C : Clk} {n : Nat} {F : List (Int × Nat × Nat)}
/-- what the tail wants -/
def TailP (k m : Nat) (st s : Store) (R : Rws) (C : Clk) (p : Nat) (x0 x7 x10 x12 : Option D) (o : Out) : Prop := ∃ (s1 : Store) (q n' : Nat) (e : D) (c : List Nat) (F' : List (Int × Nat × Nat)) (x13 x14 x15 x17 x18 : Option D), o = .nx (madeE k m st.length x0 x7 (some (.int p)) (some (.ref (st.length + 1 + p))) x10 (some (.ref q)) x12 x13 x14 x15 (some e) x17 x18) s1 ∧ p < c.length ∧
  s1[q]? = some (.lst (c.map natD)) ∧ s.length ≤ q ∧ (∀ i, i < s.length → i ≠ st.length + k + 2 + 3 * k → i ≠ st.length + k + 3 + 3 * k → s1[i]? = s[i]?) ∧ s.length ≤ s1.length ∧
  s1[st.length + k + 2 + 3 * k]? = some (DIC KI D.bl (letsL n')) ∧ s1[st.length + k + 3 + 3 * k]? = some (.lst (F'.map leftD)) ∧ MadeC k m (addAt R p e) (addC C p (c.set p (lenR R p + 1))) n' F'
theorem getD_some {α : Type} {X : List α} {i : Nat} (h : i < X.length) (d : α) : X[i]? = some (X.getD i d) := by
  rw [List.getElem?_eq_getElem h]
  simp [List.getD, h]
theorem clk_at {C : Clk} {q i : Nat} (h : i < (C.getD q []).length) : ((C.getD q []).map clD)[i]? = some (.tup ((cl C q i).map natD)) := by
  rw [List.getElem?_map, getD_some h []]
  rfl
theorem zip_vals {a b : List Nat} {k : Nat} (ha : a.length = k) (hb : b.length = k) : (List.zipWith max a b).map natD = (rangeD 0 k).map fun d => match d with
    | .int i => natD (max (a.getD i.toNat 0) (b.getD i.toNat 0))
    | _ => .non := by
  unfold rangeD
  rw [List.map_map]
  refine List.ext_getElem? fun i => ?_
  rw [List.getElem?_map, List.getElem?_map, List.getElem?_zipWith]
  by_cases h : i < k
  · have h1 : a[i]? = some (a[i]'(by omega)) := List.getElem?_eq_getElem (by omega)
    have h2 : b[i]? = some (b[i]'(by omega)) := List.getElem?_eq_getElem (by omega)
    rw [h1, h2, List.getElem?_range (by omega)]
    simp [List.getD, h1, h2]
  · rw [List.getElem?_eq_none (l := a) (by omega), List.getElem?_eq_none (l := List.range ((k : Int) - 0).toNat) (by rw [List.length_range]; omega)]
    simp
theorem made_if {N p d : Nat} {word : Int} {z : D} {x0 x13 x14 x15 x16 x17 x18 : Option D} (h : MS k m st s R C n F) (ok : MadeOk k m R C n F) (hk : k ≤ 6) (hm : m ≤ 100) (hn : n < 900) (hF : F.length < 900) (hp : p < k) (hl : lenR R p < m) (hz : isChangesD z = true) :
    WO (evS (callK L N) L.cs L.sub L.wf madeIf (madeE k m st.length x0 (some (.int d)) (some (.int p)) (some (.ref (st.length + 1 + p))) (some (.int word)) (some (.ref s.length)) (some z) x13 x14 x15 x16 x17 x18) (s ++ [.lst ((cl C p (lenR R p)).map natD)])) (TailP k m st s R C p x0 (some (.int d)) (some (.int word)) (some z)) := by
  have big := h.big
  have wid := ok.wid p hp _ (Nat.le_refl _)
  have la := get_app (g := [MO.lst ((cl C p (lenR R p)).map natD)]) h.lets
  have fa := get_app (g := [MO.lst ((cl C p (lenR R p)).map natD)]) h.left
  have ra := get_app (g := [MO.lst ((cl C p (lenR R p)).map natD)]) (h.row p hp)
  have qa := get_last (s := s) (mo := MO.lst ((cl C p (lenR R p)).map natD))
  have sold : ∀ i, i < s.length → (s ++ [MO.lst ((cl C p (lenR R p)).map natD)])[i]? = s[i]? := fun i hi => List.getElem?_append_left hi
  have slen : (s ++ [MO.lst ((cl C p (lenR R p)).map natD)]).length = s.length + 1 := by simp
  generalize hS : s ++ [MO.lst ((cl C p (lenR R p)).map natD)] = S at la fa ra qa sold slen
  unfold madeIf
  by_cases w2 : word < 2
  · have sl := slen_dic la
    have e1 : (letsL n).length = n := by simp [letsL]
    rw [e1] at sl
    have dp := dput_run_ (K := KI) (ev := D.bl) (k := (n : Int) + 1) (v := true) la (by rw [e1]; simp only [LINE]; omega)
    rw [lets_put] at dp
    change dputop false (.ref (st.length + k + 2 + 3 * k)) (.int ((n : Int) + 1)) (.bl true) S = _ at dp
    have f2 : (S.set (st.length + k + 2 + 3 * k) (DIC KI D.bl (letsL (n + 1))))[st.length + k + 3 + 3 * k]? = some (.lst (F.map leftD)) := by rw [List.getElem?_set_ne (by omega)]; exact fa
    have r2 : (S.set (st.length + k + 2 + 3 * k) (DIC KI D.bl (letsL (n + 1))))[st.length + 1 + p]? = some (.lst (R.getD p [])) := by rw [List.getElem?_set_ne (by omega)]; exact ra
    have ap := append_run (d := .tup [.int ((n : Int) + 1), .int p, .int ((lenR R p : Nat) + 1 : Int)]) f2 (by simp only [List.length_map, LINE]; omega)
    have ll : (((R.getD p []).length : Nat) : Int) = (lenR R p : Nat) := rfl
    simp [w2, sl, dp, recv_app f2, r2, -List.getD_eq_getElem?_getD]
    rw [ll]
    simp [ap]
    refine ⟨(S.set (st.length + k + 2 + 3 * k) (DIC KI D.bl (letsL (n + 1)))).set (st.length + k + 3 + 3 * k) (.lst (F.map leftD ++ [.tup [.int ((n : Int) + 1), .int p, .int ((lenR R p : Nat) + 1 : Int)]])), s.length, n + 1, _, cl C p (lenR R p), F ++ [((n : Int) + 1, p, lenR R p + 1)], _, _, _, _, _, rfl, by omega, ?_, Nat.le_refl _, fun i hi i1 i2 => ?_, by simp; omega, ?_, ?_, .send h.made hp hl hz⟩
    · rw [List.getElem?_set_ne (by omega), List.getElem?_set_ne (by omega)]; exact qa
    · rw [List.getElem?_set_ne (Ne.symm i2), List.getElem?_set_ne (Ne.symm i1)]; exact sold i hi
    · rw [List.getElem?_set_ne (by omega), List.getElem?_set_self (by omega)]
    · rw [List.getElem?_set_self (by simp; omega)]
      simp [leftD]
  · by_cases w4 : word < 4 ∧ 0 < F.length
    · obtain ⟨w4, hF0⟩ := w4
      have j0 : 0 ≤ (d : Int) / 7 % (F.length : Int) := Int.emod_nonneg _ (by omega)
      have j1 : (d : Int) / 7 % (F.length : Int) < F.length := Int.emod_lt_of_pos _ (by omega)
      obtain ⟨j, hj⟩ : ∃ j : Nat, (d : Int) / 7 % (F.length : Int) = (j : Int) := ⟨((d : Int) / 7 % (F.length : Int)).toNat, by omega⟩
      rw [hj] at j0 j1
      have hjF : j < F.length := by omega
      obtain ⟨⟨l, q, i⟩, hx⟩ : ∃ x, F[j]? = some x := ⟨_, List.getElem?_eq_getElem hjF⟩
      obtain ⟨g1, g2, g3⟩ := ok.left _ (List.mem_of_getElem? hx)
      simp only at g1 g2 g3
      have wid2 := ok.wid q g1 i g2
      have pr : mthop .pop (.ref (st.length + k + 3 + 3 * k)) [.int (j : Int)] S = .ok (.tup [.int l, .int q, .int i]) (S.set (st.length + k + 3 + 3 * k) (.lst ((F.eraseIdx j).map leftD))) := by
        have sq : seqIndex? (j : Int) (F.map leftD).length = some j := by
          unfold seqIndex?
          have : ¬ (j : Int) < 0 := by omega
          simp only [this, if_false]
          have : (decide (0 ≤ (j : Int)) && decide ((j : Int) < ((F.map leftD).length : Int))) = true := by simp; omega
          rw [if_pos this, Int.toNat_natCast]
        have i63 : in63 (j : Int) := ⟨by omega, by omega⟩
        have g : (F.map leftD)[j]? = some (.tup [.int l, .int q, .int i]) := by rw [List.getElem?_map, hx]; rfl
        simp only [mthop, fa, sq, g, if_pos i63]
        rw [map_erase]
      have rp : recvOk .pop (.ref (st.length + k + 3 + 3 * k)) S = true := by simp [recvOk, fa]
      generalize hS2 : S.set (st.length + k + 3 + 3 * k) (.lst ((F.eraseIdx j).map leftD)) = S2 at pr
      have o2 : ∀ i, i ≠ st.length + k + 3 + 3 * k → S2[i]? = S[i]? := fun i hi => by rw [← hS2, List.getElem?_set_ne (Ne.symm hi)]
      have l2 : S2.length = s.length + 1 := by rw [← hS2, List.length_set, slen]
      have q2 : S2[s.length]? = some (.lst ((cl C p (lenR R p)).map natD)) := by rw [o2 _ (by omega)]; exact qa
      have c2 : S2[st.length + 1 + k]? = some (.lst ((List.range k).map fun p => D.ref (st.length + k + 4 + 3 * p))) := by rw [o2 _ (by omega), sold _ (by omega)]; exact h.clks
      have hbl := (List.getElem?_eq_some_iff.mp (h.clk q g1)).1
      have k2 : S2[st.length + k + 4 + 3 * q]? = some (.lst ((C.getD q []).map clD)) := by rw [o2 _ (by omega), sold _ hbl]; exact h.clk q g1
      have ca := clks_at (a := st.length + k + 4) g1
      have ci : ((C.getD q []).map clD)[i]? = some (.tup ((cl C q i).map natD)) := by
        have hr := ok.row q g1
        exact clk_at (by omega)
      have cp := comp_run (st := S2) (xs := rangeD 0 k) (g := fun d => match d with
        | .int i' => natD (max ((cl C p (lenR R p)).getD i'.toNat 0) ((cl C q i).getD i'.toNat 0))
        | _ => .non) (step := stepF [14] (.name 14) (evAll (callK L N) L.cs .nil) (evE (callK L N) L.cs (.bi .max (.cons (.idx (.var 11) (.var 14)) (.cons (.idx (.idx (.idx (.var 4) (.var 17)) (.var 18)) (.var 14)) .nil)))) (madeE k m st.length x0 (some (.int d)) (some (.int p)) (some (.ref (st.length + 1 + p))) (some (.int word)) (some (.ref s.length)) (some z) x13 x14 (some (.int l)) x16 (some (.int q)) (some (.int i)))) (fun x hx' ls => by
        obtain ⟨v, rfl, v0, v1⟩ := rangeD_mem hx'
        obtain ⟨t, rfl⟩ : ∃ t : Nat, v = t := ⟨v.toNat, by omega⟩
        have ht : t < k := by omega
        have a1 : ((cl C p (lenR R p)).map natD)[t]? = some (natD ((cl C p (lenR R p)).getD t 0)) := by
          rw [List.getElem?_map, List.getElem?_eq_getElem (by omega)]
          simp [List.getD, wid, ht]
        have a2 : ((cl C q i).map natD)[t]? = some (natD ((cl C q i).getD t 0)) := by
          rw [List.getElem?_map, List.getElem?_eq_getElem (by omega)]
          simp [List.getD, wid2, ht]
        have e1 := get_app (g := [MO.lst ls]) q2
        have e2 := get_app (g := [MO.lst ls]) c2
        have e3 := get_app (g := [MO.lst ls]) k2
        simp only [stepF_name, wipeE, cstep]
        simp [e1, e2, e3, atI_nat', ca, ci, a1, a2, -List.getD_eq_getElem?_getD, -List.getElem?_map]
        simp only [natD, max_ii]
        have mx : (if ((cl C q i).getD t 0 : Int) > ((cl C p (lenR R p)).getD t 0 : Int) then ((cl C q i).getD t 0 : Int) else ((cl C p (lenR R p)).getD t 0 : Int)) = ((max ((cl C p (lenR R p)).getD t 0) ((cl C q i).getD t 0) : Nat) : Int) := by split <;> omega
        rw [mx]) (by rw [rangeD_len]; simp only [LINE]; omega)
      rw [← zip_vals wid wid2] at cp
      have s62 : small62 (k : Int) := ⟨by omega, by omega⟩
      have fl : ((F.map leftD).length : Int) = (F.length : Int) := by simp
      have okd : (0 : Int) < F.length := by omega
      have okd2 : (F.length : Int) < 1152921504606846976 := by omega
      simp [w2, w4, fa, hF0, rp, hj, pr, rng1R_ok s62, cp, -List.map_zipWith]
      refine ⟨S2 ++ [MO.lst ((List.zipWith max (cl C p (lenR R p)) (cl C q i)).map natD)], S2.length, n, _, List.zipWith max (cl C p (lenR R p)) (cl C q i), F.eraseIdx j, _, _, _, _, _, rfl, by rw [List.length_zipWith, wid, wid2, Nat.min_self]; exact hp, get_last, by omega, fun i hi i1 i2 => ?_, by simp; omega, ?_, ?_, .take h.made hp hl hz hx⟩
      · rw [List.getElem?_append_left (by omega), o2 i i2, sold i hi]
      · exact get_app (by rw [o2 _ (by omega)]; exact la)
      · refine get_app ?_
        rw [← hS2, List.getElem?_set_self (by omega)]
    · have fin : TailP k m st s R C p x0 (some (.int d)) (some (.int word)) (some z) (.nx (madeE k m st.length x0 (some (.int d)) (some (.int p)) (some (.ref (st.length + 1 + p))) (some (.int word)) (some (.ref s.length)) (some z) x13 x14 x15 (some (.tup [.str "step", z])) x17 x18) S) :=
        ⟨S, s.length, n, _, cl C p (lenR R p), F, _, _, _, _, _, rfl, by omega, qa, Nat.le_refl _, fun i hi i1 i2 => sold i hi, by omega, la, fa, .step h.made hp hl hz⟩
      by_cases w5 : word < 4
      · have hF0 : F = [] := by
          cases F with
          | nil => rfl
          | cons x F => exact absurd ⟨w5, by simp⟩ w4
        subst hF0
        simp [w2, w5, fa]
        exact fin
      · simp [w2, w5]
        exact fin
theorem MadeC.flen (h : MadeC k m R C n F) : F.length ≤ n := by
  induction h with
  | nil => simp
  | step _ _ _ _ ih => exact ih
  | send _ _ _ _ ih => simp; exact ih
  | take _ _ _ _ _ ih => exact Nat.le_trans (by rw [List.length_eraseIdx]; split <;> omega) ih
/-- a turn -/
theorem made_turn {N d : Nat} {x0 x8 x9 x10 x11 x12 x13 x14 x15 x16 x17 x18 : Option D} (hN : 1 ≤ N) (h : MS k m st s R C n F) (hk0 : 0 < k) (hk : k ≤ 6) (hm : m ≤ 90) :
    WO (evSs (callK L N) L.cs L.sub L.wf madeBody (madeE k m st.length x0 (some (.int d)) x8 x9 x10 x11 x12 x13 x14 x15 x16 x17 x18) s) (MadeQ k m st x0) := by
  have km : k * m < 900 := Nat.lt_of_le_of_lt (Nat.mul_le_mul hk hm) (by decide)
  have ok := h.made.ok km
  obtain ⟨p, hpd⟩ : ∃ p : Nat, (d : Int) % (k : Int) = (p : Int) := ⟨((d : Int) % (k : Int)).toNat, by have := Int.emod_nonneg (d : Int) (show (k : Int) ≠ 0 by omega); omega⟩
  have hp : p < k := by have := Int.emod_lt_of_pos (d : Int) (show (0 : Int) < k by omega); omega
  have rl := ok.short p
  rw [made_body]
  have k0 : (0 : Int) < k := by omega
  have k1 : (k : Int) < 1152921504606846976 := by omega
  have ra : (refsN (st.length + 1) k)[p]? = some (.ref (st.length + 1 + p)) := by
    unfold refsN
    rw [List.getElem?_map, List.getElem?_range hp]; rfl
  have hrow := h.row p hp
  simp [hpd, hk0, h.rows, ra, hrow, atI_nat', -List.getD_eq_getElem?_getD]
  refine ⟨fun hge => ⟨_, _, _, _, _, _, _, _, _, _, _, _, _, _, _, _, _, .inr rfl, h⟩, fun hlt => ?_⟩
  have hl : lenR R p < m := hlt
  have ca := clks_at (a := st.length + k + 4) hp
  have crow := ok.row p hp
  have gl : ((C.getD p []).map clD).getLast? = some (.tup ((cl C p (lenR R p)).map natD)) := by
    rw [List.getLast?_eq_getElem?, List.length_map, crow, Nat.add_sub_cancel]
    exact clk_at (by omega)
  have hck := h.clk p hp
  have ck2 : getB s[st.length + k + 4 + 3 * p]? (fun xs => glbB xs.getLast? s) = .ok (.tup ((cl C p (lenR R p)).map natD)) s := by
    rw [hck]
    simp only [getB_some]
    rw [gl]
    rfl
  obtain ⟨z, hz, cz⟩ := lchanges_run (st := s ++ [.lst ((cl C p (lenR R p)).map natD)]) (n := N) hN (number := (d : Int) / 40) (Int.ediv_nonneg (by omega) (by omega))
  have lt : biop .list [.tup ((cl C p (lenR R p)).map natD)] s = .ok (.ref s.length) (s ++ [.lst ((cl C p (lenR R p)).map natD)]) := rfl
  simp [k1, hk0, h.clks, atI_nat', ca, ck2, lt, cz, -List.getD_eq_getElem?_getD]
  have hn9 : n < 900 := by
    have := ok.nle
    have e1 : EvRows k m R := ⟨ok.grow.len, fun r hr => ⟨by
      obtain ⟨i, hi, rfl⟩ := List.getElem_of_mem hr
      have := ok.short i
      unfold lenR at this
      simpa [List.getD, hi] using this, ok.grow.ok.ev r hr⟩⟩
    have h2 := evrows_total e1
    have : m * k = k * m := Nat.mul_comm _ _
    omega
  refine wo_seq (made_if (N := N) (d := d) h ok hk (by omega) hn9 (by
    have h1 := h.made.flen
    omega) hp hl hz) ?_
  rintro _ ⟨s1, q, n', e, c, F', y13, y14, y15, y17, y18, rfl, t1, t2, t3, t4, t5, t6, t7, t8⟩
  exact made_tail h hp (by omega) (by omega) t1 t2 t3 t4 t5 t6 t7 t8
end
end Th

set_option linter.all false
set_option maxRecDepth 100000
set_option maxHeartbeats 2000000
/-! _law_made: whole. -/
namespace Th
open PySem L2 Mi LL
def clkD (C : Clk) : Rws := C.map fun r => r.map clD
/-- a comprehension whose turns leave three things each -/
theorem comp_blk0 {step : D → Store → CRes} {st B : Store} (hB : B.length = 3) : ∀ {xs acc : List D} {g : Store}, (∀ x ∈ xs, ∀ s, step x s = .ok (some (.ref (s.length + 2))) (s ++ B)) → acc.length + xs.length ≤ LINE →
    compL step none st.length xs (st ++ .lst acc :: g) = .ok (.ref st.length) (st ++ .lst (acc ++ (List.range xs.length).map fun k => .ref (st.length + 1 + g.length + 2 + 3 * k)) :: (g ++ (List.replicate xs.length B).flatten))
  | [], acc, g, _, _ => by simp [compL, gdOk]
  | x :: xs, acc, g, h, hl => by
    simp only [List.length_cons] at hl
    have ih := comp_blk0 (st := st) hB (xs := xs) (acc := acc ++ [.ref (st.length + 1 + g.length + 2)]) (g := g ++ B) (fun y hy => h y (List.mem_cons_of_mem _ hy)) (by simp; omega)
    have e : ∀ d, ((st ++ .lst acc :: g) ++ B).set st.length (.lst (acc ++ [d])) = st ++ .lst (acc ++ [d]) :: (g ++ B) := fun d => by simp
    have e2 : ((st ++ .lst acc :: g) ++ B)[st.length]? = some (.lst acc) := by simp
    have e3 : (st ++ MO.lst acc :: g).length = st.length + 1 + g.length := by simp; omega
    simp only [compL, gdOk, if_true, h x List.mem_cons_self, e2, e3]
    rw [if_pos (by omega), e, ih]
    have fe : (fun k => D.ref (st.length + 1 + (g ++ B).length + 2 + 3 * k)) = (fun k => D.ref (st.length + 1 + g.length + 2 + 3 * k)) ∘ Nat.succ := by
      funext k
      simp only [Function.comp, List.length_append, hB]
      congr 1
      omega
    rw [fe]
    simp only [List.length_cons, List.range_succ_eq_map, List.map_cons, List.map_map, List.append_assoc, List.singleton_append, Nat.mul_zero, Nat.add_zero, List.replicate_succ, List.flatten_cons]
theorem blk_at {B : Store} {b : MO} (hB : B.length = 3) (hb : B[2]? = some b) : ∀ {n p : Nat}, p < n → ((List.replicate n B).flatten)[2 + 3 * p]? = some b
  | 0, p, h => by omega
  | n + 1, p, h => by
    rw [List.replicate_succ, List.flatten_cons]
    cases p with
    | zero => rw [List.getElem?_append_left (by omega)]; exact hb
    | succ p =>
      rw [List.getElem?_append_right (by omega), show 2 + 3 * (p + 1) - B.length = 2 + 3 * p by omega]
      exact blk_at hB hb (by omega)
theorem wo_rt_of {o : Out} {d : D} {st : Store} {P : Out → Prop} (h : o = .rt d st) (p : P (.rt d st)) : WO o P := by rw [h]; exact p
section
variable {st : Store}
theorem law_made_run {N k m dn : Nat} {ds : List Int} (hN : 2 ≤ N) (hk0 : 0 < k) (hk : k ≤ 6) (hm : m ≤ 90) (hd : ∀ d ∈ ds, 0 ≤ d) (h0 : st[dn]? = some (.lst (ds.map D.int))) :
    ∃ R C n F s', callK L N "_law_made" [.ref dn, .int k, .int m] st = .ok (.tup [.tup (tupsD R), .ref (st.length + 1 + k)]) s' ∧ MadeC k m R C n F ∧ Ls s' (st.length + 1 + k) (clkD C) ∧ (∀ i, i < st.length → s'[i]? = st[i]?) ∧ st.length ≤ s'.length := by
  obtain ⟨N, rfl, hM⟩ := pred_ hN
  have hdl := (List.getElem?_eq_some_iff.mp h0).1
  have s62 : small62 (k : Int) := ⟨by omega, by omega⟩
  have rl : (rangeD 0 (k : Int)).length = k := by rw [rangeD_len, Int.toNat_natCast]
  -- the rows
  have c1 := comp_news (st := st) (xs := rangeD 0 (k : Int)) (step := stepF [14] (.name 14) (evAll (callK L N) L.cs .nil) (evE (callK L N) L.cs (.lst .nil)) [some (.ref dn), some (.int k), some (.int m), none, none, none, none, none, none, none, none, none, none, none, none, none, none, none, none]) (fun x s => by simp [stepF_name, wipeE, cstep]) (by rw [rl]; simp only [LINE]; omega)
  rw [rl] at c1
  change compL _ _ _ _ _ = .ok (.ref st.length) (st ++ .lst (refsN (st.length + 1) k) :: List.replicate k (.lst [])) at c1
  -- the clocks
  have c2 := comp_blk0 (st := st ++ .lst (refsN (st.length + 1) k) :: List.replicate k (.lst [])) (B := [.lst [.int 0], .lst ((zerosL k).map natD), .lst [.tup ((zerosL k).map natD)]]) rfl (xs := rangeD 0 (k : Int)) (acc := []) (g := []) (step := stepF [14] (.name 14) (evAll (callK L N) L.cs .nil) (evE (callK L N) L.cs (.lst (.cons (.bi .tuple (.cons (.bin .mul (.lst (.cons (.int 0) .nil)) (.var 1)) .nil)) .nil))) [some (.ref dn), some (.int k), some (.int m), some (.ref st.length), none, none, none, none, none, none, none, none, none, none, none, none, none, none, none]) (fun x hx s => by
    have rp := rep_run (s := s ++ [.lst [.int 0]]) (c := s.length) (k := k) (by simp) hk
    simp at rp
    simp [stepF_name, wipeE, cstep, rp]) (by simp only [List.length_nil, rl, LINE]; omega)
  rw [rl] at c2
  simp only [List.nil_append, List.length_nil, Nat.add_zero] at c2
  have lS : (st ++ MO.lst (refsN (st.length + 1) k) :: List.replicate k (MO.lst [])).length = st.length + 1 + k := by simp; omega
  rw [lS] at c2
  generalize hS1 : st ++ MO.lst (refsN (st.length + 1) k) :: List.replicate k (MO.lst []) = S1 at c1 c2 lS
  generalize hS2 : S1 ++ MO.lst ((List.range k).map fun p => D.ref (st.length + 1 + k + 1 + 2 + 3 * p)) :: (List.replicate k [MO.lst [D.int 0], .lst ((zerosL k).map natD), .lst [.tup ((zerosL k).map natD)]]).flatten = S2 at c2
  have lB : ((List.replicate k [MO.lst [D.int 0], .lst ((zerosL k).map natD), .lst [.tup ((zerosL k).map natD)]]).flatten).length = 3 * k := by simp; omega
  have l2 : S2.length = st.length + k + 2 + 3 * k := by rw [← hS2]; simp [lS, lB]; omega
  have a1 : ∀ i, i < st.length → S1[i]? = st[i]? := fun i hi => by rw [← hS1, List.getElem?_append_left hi]
  have a2 : ∀ i, i < S1.length → S2[i]? = S1[i]? := fun i hi => by rw [← hS2, List.getElem?_append_left hi]
  have g2 : (S2 ++ [MO.dic false []])[S2.length]? = some (.dic false []) := by simp
  have ms0 : MS k m st (S2 ++ [MO.dic false [], .lst []]) (List.replicate k []) (List.replicate k [zerosL k]) 0 [] := by
    refine ⟨fun i hi => ?_, ?_, fun p hp => ?_, ?_, fun p hp => ?_, ?_, ?_, .nil⟩
    · rw [List.getElem?_append_left (by omega), a2 i (by omega), a1 i hi]
    · rw [List.getElem?_append_left (by omega), a2 _ (by omega), ← hS1]
      simp
    · rw [List.getElem?_append_left (by omega), a2 _ (by omega), ← hS1, List.getElem?_append_right (by omega), show st.length + 1 + p - st.length = p + 1 by omega, List.getElem?_cons_succ, rep_getD hp]
      simp [hp]
    · rw [List.getElem?_append_left (by omega), ← hS2, List.getElem?_append_right (by omega), show st.length + 1 + k - S1.length = 0 by omega]
      simp only [List.getElem?_cons_zero]
      have : (fun p => D.ref (st.length + 1 + k + 1 + 2 + 3 * p)) = fun p => D.ref (st.length + k + 4 + 3 * p) := by
        funext p; congr 1; omega
      rw [this]
    · rw [List.getElem?_append_left (by omega), ← hS2, List.getElem?_append_right (by omega), show st.length + k + 4 + 3 * p - S1.length = (2 + 3 * p) + 1 by omega, List.getElem?_cons_succ, blk_at rfl rfl hp, rep_getD hp]
      rfl
    · rw [← l2]; simp [letsL, DIC]
      rfl
    · rw [show st.length + k + 3 + 3 * k = S2.length + 1 by omega]
      simp
  have ev : callK L (N + 1) "_law_made" [.ref dn, .int k, .int m] st = gc st (evSs (callK L N) L.cs L.sub L.wf fd__law_made.body (startE fd__law_made [.ref dn, .int k, .int m]) st).fin := call_open fn__law_made rfl
  have key : WO (evSs (callK L N) L.cs L.sub L.wf fd__law_made.body (startE fd__law_made [.ref dn, .int k, .int m]) st) (fun o => ∃ R C n F s', o = .rt (.tup [.tup (tupsD R), .ref (st.length + 1 + k)]) s' ∧ MadeC k m R C n F ∧ Ls s' (st.length + 1 + k) (clkD C) ∧ (∀ i, i < st.length → s'[i]? = st[i]?) ∧ st.length ≤ s'.length) := by
    have h0' : (S2 ++ [MO.dic false [], .lst []])[dn]? = some (.lst (ds.map D.int)) := by rw [ms0.old dn hdl]; exact h0
    simp [fd__law_made, startE, rng1R_ok s62, c1, c2, expR_ref h0']
    rw [lS]
    refine wr_eq c2 ?_
    rw [expR_ref h0', toOut_ok, show S2.length + 1 = st.length + k + 3 + 3 * k by omega, l2]
    refine wo_seq (R := fun o => ∃ x7 x8 x9 x10 x11 x12 x13 x14 x15 x16 x17 x18 s R C n F, o = .nx (madeE k m st.length (some (.ref dn)) x7 x8 x9 x10 x11 x12 x13 x14 x15 x16 x17 x18) s ∧ MS k m st s R C n F) ?_ ?_
    · have ge : ∀ s R C n F, MS k m st s R C n F → gdOk (some (dn, ds.map D.int)) s := fun s R C n F h => by
        show s[dn]? = _
        rw [h.old dn hdl]; exact h0
      refine for_list (fun ys env s => (∀ y ∈ ys, ∃ d : Nat, y = .int d) ∧ ∃ x7 x8 x9 x10 x11 x12 x13 x14 x15 x16 x17 x18 R C n F, env = madeE k m st.length (some (.ref dn)) x7 x8 x9 x10 x11 x12 x13 x14 x15 x16 x17 x18 ∧ MS k m st s R C n F) ?_ ?_ _ _ _ ?_
      · rintro y ys _ s ⟨hy, x7, x8, x9, x10, x11, x12, x13, x14, x15, x16, x17, x18, R, C, n, F, rfl, ms⟩
        obtain ⟨d, rfl⟩ := hy y List.mem_cons_self
        refine ⟨ge _ _ _ _ _ ms, ?_⟩
        rw [bodyF_name]
        refine wo_mono (made_turn (d := d) (x0 := some (.ref dn)) (x8 := x8) (x9 := x9) (x10 := x10) (x11 := x11) (x12 := x12) (x13 := x13) (x14 := x14) (x15 := x15) (x16 := x16) (x17 := x17) (x18 := x18) hM ms hk0 hk hm) ?_
        rintro o ⟨y7, y8, y9, y10, y11, y12, y13, y14, y15, y16, y17, y18, s', R', C', n', F', ho, ms'⟩
        have fin : (∀ y ∈ ys, ∃ d : Nat, y = .int d) ∧ ∃ x7 x8 x9 x10 x11 x12 x13 x14 x15 x16 x17 x18 R C n F, madeE k m st.length (some (.ref dn)) y7 y8 y9 y10 y11 y12 y13 y14 y15 y16 y17 y18 = madeE k m st.length (some (.ref dn)) x7 x8 x9 x10 x11 x12 x13 x14 x15 x16 x17 x18 ∧ MS k m st s' R C n F :=
          ⟨fun y h => hy y (List.mem_cons_of_mem _ h), y7, y8, y9, y10, y11, y12, y13, y14, y15, y16, y17, y18, R', C', n', F', rfl, ms'⟩
        rcases ho with rfl | rfl <;> exact fin
      · rintro _ s ⟨_, x7, x8, x9, x10, x11, x12, x13, x14, x15, x16, x17, x18, R, C, n, F, rfl, ms⟩
        exact ⟨ge _ _ _ _ _ ms, x7, x8, x9, x10, x11, x12, x13, x14, x15, x16, x17, x18, s, R, C, n, F, rfl, ms⟩
      · refine ⟨fun y hy => ?_, none, none, none, none, none, none, none, none, none, none, none, none, _, _, 0, [], rfl, ms0⟩
        obtain ⟨d, hd', rfl⟩ := List.mem_map.mp hy
        exact ⟨d.toNat, by have := hd d hd'; congr 1; omega⟩
    · rintro _ ⟨x7, x8, x9, x10, x11, x12, x13, x14, x15, x16, x17, x18, s, R, C, n, F, rfl, ms⟩
      have km : k * m < 900 := Nat.lt_of_le_of_lt (Nat.mul_le_mul hk hm) (by decide)
      have ok := ms.made.ok km
      have lR : Ls s st.length R := by
        refine ⟨(List.range k).map fun p => st.length + 1 + p, ?_, by simp [ok.grow.len], fun p q h => ?_⟩
        · rw [ms.rows]
          unfold refsN
          rw [List.map_map]; rfl
        · by_cases hp : p < k
          · rw [List.getElem?_map, List.getElem?_range hp] at h
            cases h
            exact ⟨by show st.length < st.length + 1 + p; omega, ms.row p hp⟩
          · rw [List.getElem?_eq_none (by simpa using hp)] at h
            cases h
      have lC : Ls s (st.length + 1 + k) (clkD C) := by
        refine ⟨(List.range k).map fun p => st.length + k + 4 + 3 * p, ?_, by simp [clkD, ok.clen], fun p q h => ?_⟩
        · rw [ms.clks, List.map_map]; rfl
        · by_cases hp : p < k
          · rw [List.getElem?_map, List.getElem?_range hp] at h
            cases h
            refine ⟨by show st.length + 1 + k < st.length + k + 4 + 3 * p; omega, ?_⟩
            have := ms.clk p hp
            have e : (clkD C).getD p [] = (C.getD p []).map clD := by
              unfold clkD
              simp only [List.getD]
              rw [List.getElem?_map]
              cases C[p]? <;> rfl
            rw [e]; exact this
          · rw [List.getElem?_eq_none (by simpa using hp)] at h
            cases h
      have big := ms.big
      obtain ⟨ys, ex, cp⟩ := lR.tuples (N := N) (i := 9) (env := madeE k m st.length (some (.ref dn)) x7 x8 x9 x10 x11 x12 x13 x14 x15 x16 x17 x18) (by simp) (by rw [ok.grow.len]; omega)
      refine wo_rt_of (d := .tup [.tup (tupsD R), .ref (st.length + 1 + k)]) (st := s ++ [.lst (tupsD R)]) (by simp [ex, cp]) ⟨R, C, n, F, _, rfl, ms.made, lC.app, fun i hi => by rw [List.getElem?_append_left (by omega)]; exact ms.old i hi, by simp; omega⟩
  obtain ⟨R, C, n, F, s', h1, h2, h3, h4, h5⟩ : ∃ R C n F s', evSs (callK L N) L.cs L.sub L.wf fd__law_made.body (startE fd__law_made [.ref dn, .int k, .int m]) st = .rt (.tup [.tup (tupsD R), .ref (st.length + 1 + k)]) s' ∧ MadeC k m R C n F ∧ Ls s' (st.length + 1 + k) (clkD C) ∧ (∀ i, i < st.length → s'[i]? = st[i]?) ∧ st.length ≤ s'.length := by
    revert key
    cases evSs (callK L N) L.cs L.sub L.wf fd__law_made.body (startE fd__law_made [.ref dn, .int k, .int m]) st <;> intro key <;> first | exact key | exact key.elim
  refine ⟨R, C, n, F, s', ?_, h2, h3, h4, h5⟩
  rw [ev, h1]
  exact gc_open (by simp [closedD, closedDs]; intro _; omega) (fun n h => nomatch h)
end
end Th

set_option linter.all false
set_option maxRecDepth 100000
set_option maxHeartbeats 2000000
/-! _law_small. -/
namespace Th
open PySem L2 Mi LL
def SmallKM (k m : Nat) : Prop := (k = 1 ∧ m = 5) ∨ (k = 2 ∧ m = 5) ∨ (k = 3 ∧ m = 4) ∨ (k = 4 ∧ m = 3)
section
variable {st : Store}
theorem small_run {N : Nat} (hN : 3 ≤ N) {ns : List Int} (hns : ns.length ≤ 63) : ∃ k m R C n F c s', callK L N "_law_small" [.fl (ns.map D.int), .int 24] st = .ok (.tup [.tup (tupsD R), .ref c]) s' ∧ SmallKM k m ∧ MadeC k m R C n F ∧ Ls s' c (clkD C) ∧ (∀ i, i < st.length → s'[i]? = st[i]?) ∧ st.length ≤ s'.length := by
  obtain ⟨N, rfl, hM⟩ := pred_ hN
  have key : ∀ first : Int, 0 ≤ first → ∃ k m R C n F c s', ((evS (callK L N) L.cs L.sub L.wf (.set 3 (.idx (.lst (.cons (.int 1) (.cons (.int 2) (.cons (.int 3) (.cons (.int 4) (.cons (.int 2) (.cons (.int 3) (.cons (.int 3) (.cons (.int 2) .nil))))))))) (.bin .mod (.var 2) (.int 8)))) [some (.fl (ns.map D.int)), some (.int 24), some (.int first), none] st).bind
      (kSs (callK L N) L.cs L.sub L.wf (.cons (.ret (.call "_law_made" (.cons (.call "_law_draws" (.cons (.var 0) (.cons (.int 1) (.cons (.var 1) .nil)))) (.cons (.var 3) (.cons (.idx (.lst (.cons (.int 5) (.cons (.int 5) (.cons (.int 4) (.cons (.int 3) .nil))))) (.bin .sub (.var 3) (.int 1))) .nil)))))
    .nil))) = .rt (.tup [.tup (tupsD R), .ref c]) s' ∧ SmallKM k m ∧ MadeC k m R C n F ∧ Ls s' c (clkD C) ∧ (∀ i, i < st.length → s'[i]? = st[i]?) ∧ st.length ≤ s'.length ∧ st.length ≤ c := by
    intro first hf
    have f0 := Int.emod_nonneg first (show (8 : Int) ≠ 0 by omega)
    have f1 := Int.emod_lt_of_pos first (show (0 : Int) < 8 by omega)
    obtain ⟨j, hj⟩ : ∃ j : Nat, first % 8 = (j : Int) := ⟨(first % 8).toNat, by omega⟩
    have j8 : j < 8 := by omega
    obtain ⟨k, hk, hkm⟩ : ∃ k : Nat, [D.int 1, .int 2, .int 3, .int 4, .int 2, .int 3, .int 3, .int 2][j]? = some (.int k) ∧ (k = 1 ∨ k = 2 ∨ k = 3 ∨ k = 4) := by
      have : j = 0 ∨ j = 1 ∨ j = 2 ∨ j = 3 ∨ j = 4 ∨ j = 5 ∨ j = 6 ∨ j = 7 := by omega
      rcases this with rfl | rfl | rfl | rfl | rfl | rfl | rfl | rfl
      · exact ⟨1, rfl, by omega⟩
      · exact ⟨2, rfl, by omega⟩
      · exact ⟨3, rfl, by omega⟩
      · exact ⟨4, rfl, by omega⟩
      · exact ⟨2, rfl, by omega⟩
      · exact ⟨3, rfl, by omega⟩
      · exact ⟨3, rfl, by omega⟩
      · exact ⟨2, rfl, by omega⟩
    obtain ⟨m, hm, sm⟩ : ∃ m : Nat, [D.int 5, .int 5, .int 4, .int 3][k - 1]? = some (.int m) ∧ SmallKM k m := by
      rcases hkm with rfl | rfl | rfl | rfl
      · exact ⟨5, rfl, .inl ⟨rfl, rfl⟩⟩
      · exact ⟨5, rfl, .inr (.inl ⟨rfl, rfl⟩)⟩
      · exact ⟨4, rfl, .inr (.inr (.inl ⟨rfl, rfl⟩))⟩
      · exact ⟨3, rfl, .inr (.inr (.inr ⟨rfl, rfl⟩))⟩
    obtain ⟨ds, d0, d1, dr⟩ := draws_run (st := st ++ [.lst [.int 1, .int 2, .int 3, .int 4, .int 2, .int 3, .int 3, .int 2]]) (n := N) (by omega) hns 1 24 (by omega)
    have hm90 : m ≤ 90 := by rcases sm with ⟨_, rfl⟩ | ⟨_, rfl⟩ | ⟨_, rfl⟩ | ⟨_, rfl⟩ <;> omega
    obtain ⟨R, C, n, F, s', h1, h2, h3, h4, h5⟩ := law_made_run (st := st ++ [.lst [.int 1, .int 2, .int 3, .int 4, .int 2, .int 3, .int 3, .int 2], .lst (ds.map D.int), .lst [.int 5, .int 5, .int 4, .int 3]]) (N := N) (k := k) (m := m) (dn := st.length + 1) (ds := ds) hM (by omega) (by omega) hm90 d0 (by simp)
    refine ⟨k, m, R, C, n, F, _, s', ?_, sm, h2, h3, fun i hi => ?_, ?_, ?_⟩
    · have k1 : ((k : Nat) : Int) - 1 = ((k - 1 : Nat) : Int) := by omega
      simp at dr h1
      simp [hj, atI_nat', hk, dr, k1, hm, h1]
    · rw [h4 i (by simp; omega), List.getElem?_append_left hi]
    · simp at h5; omega
    · simp; omega
  rw [call_open fn__law_small rfl]
  have fin : ∀ first : Int, 0 ≤ first → ∃ k m R C n F c s', gc st (Out.fin ((evS (callK L N) L.cs L.sub L.wf (.set 3 (.idx (.lst (.cons (.int 1) (.cons (.int 2) (.cons (.int 3) (.cons (.int 4) (.cons (.int 2) (.cons (.int 3) (.cons (.int 3) (.cons (.int 2) .nil))))))))) (.bin .mod (.var 2) (.int 8)))) [some (.fl (ns.map D.int)), some (.int 24), some (.int first), none] st).bind
      (kSs (callK L N) L.cs L.sub L.wf (.cons (.ret (.call "_law_made" (.cons (.call "_law_draws" (.cons (.var 0) (.cons (.int 1) (.cons (.var 1) .nil)))) (.cons (.var 3) (.cons (.idx (.lst (.cons (.int 5) (.cons (.int 5) (.cons (.int 4) (.cons (.int 3) .nil))))) (.bin .sub (.var 3) (.int 1))) .nil)))))
    .nil)))) = .ok (.tup [.tup (tupsD R), .ref c]) s' ∧ SmallKM k m ∧ MadeC k m R C n F ∧ Ls s' c (clkD C) ∧ (∀ i, i < st.length → s'[i]? = st[i]?) ∧ st.length ≤ s'.length := by
    intro first hf
    obtain ⟨k, m, R, C, n, F, c, s', h1, h2, h3, h4, h5, h6, h7⟩ := key first hf
    refine ⟨k, m, R, C, n, F, c, s', ?_, h2, h3, h4, h5, h6⟩
    rw [h1]
    exact gc_open (by simp [closedD, closedDs]; intro _; omega) (fun n h => nomatch h)
  cases ns with
  | nil =>
    obtain ⟨k, m, R, C, n, F, c, s', h1, h2⟩ := fin 0 (by omega)
    refine ⟨k, m, R, C, n, F, c, s', ?_, h2⟩
    rw [← h1]
    simp [fd__law_small, startE, -evE_idx]
  | cons x xs =>
    obtain ⟨k, m, R, C, n, F, c, s', h1, h2⟩ := fin (if x < 0 then -x else x) (by split <;> omega)
    refine ⟨k, m, R, C, n, F, c, s', ?_, h2⟩
    rw [← h1]
    have lp : (0 : Int) < ((x :: xs).length : Int) := by simp
    simp [fd__law_small, startE]
end
end Th

set_option linter.all false
set_option maxRecDepth 100000
set_option maxHeartbeats 2000000
/-! An order in a store, and what it answers: state, under_way. -/
namespace Th
open PySem L2 Mi LL
structure OrdAt (s : Store) (o : Nat) (rows : List D) (a b c d : Nat) : Prop where
  obj : s[o]? = some (.ins "Order" (ordF rows a b c d))
  snd : s[a]? = some (DIC KP rowD (sendsOf rows))
  clk : s[b]? = some (DIC KP clD (clocksOf rows))
  sts : s[c]? = some (DIC KP stD (statesOf rows))
  bal : s[d]? = some (DIC KP D.int (balancesOf rows))
theorem OrdAt.app {s g : Store} {o a b c d : Nat} {rows : List D} (h : OrdAt s o rows a b c d) : OrdAt (s ++ g) o rows a b c d := ⟨get_app h.obj, get_app h.snd, get_app h.clk, get_app h.sts, get_app h.bal⟩
theorem ordS_at {st : Store} {rows : List D} : OrdAt (ordS st rows) st.length rows (st.length + 1) (st.length + 2) (st.length + 3) (st.length + 4) := by
  constructor <;> simp [ordS]
theorem OrdAt.ins {s : Store} {o a b c d : Nat} {rows : List D} (h : OrdAt s o rows a b c d) : insOf (.ref o) s = some "Order" := by simp [insOf, h.obj]
theorem OrdAt.run {s : Store} {o a b c d : Nat} {rows : List D} (h : OrdAt s o rows a b c d) : attrB "_run" (.ref o) s = .ok (.tup rows) s := attrB_of h.obj rfl
theorem OrdAt.states {s : Store} {o a b c d : Nat} {rows : List D} (h : OrdAt s o rows a b c d) : attrB "_states" (.ref o) s = .ok (.ref c) s := attrB_of h.obj rfl
theorem OrdAt.balances {s : Store} {o a b c d : Nat} {rows : List D} (h : OrdAt s o rows a b c d) : attrB "_balances" (.ref o) s = .ok (.ref d) s := attrB_of h.obj rfl
theorem evs_tup {rows : List D} (ha : ∀ d ∈ rows, isProcD d = true) {p : Nat} (hp : p < rows.length) : rows[p]? = some (.tup (evs rows p)) := by
  have h := List.getElem?_eq_getElem hp
  obtain ⟨ys, e, _, _⟩ := proc_ev (ha _ (List.getElem_mem hp))
  rw [evs_at h, h, e]; rfl
theorem mem_enum {xs : List D} {k : Nat} {x : D} (h : x ∈ enumD (k : Int) xs) : ∃ i d, xs[i]? = some d ∧ x = .tup [.int ((k + i : Nat) : Int), d] := by
  obtain ⟨i, hi, rfl⟩ := List.getElem_of_mem h
  have e := List.getElem?_eq_getElem hi
  rw [enumD_get] at e
  obtain ⟨d, h1, h2⟩ := Option.map_eq_some_iff.mp e
  exact ⟨i, d, h1, by rw [← h2]; simp⟩
section
variable {s : Store} {o a b c d : Nat} {rows : List D} {N : Nat}
theorem size_run (h : OrdAt s o rows a b c d) (ha : ∀ d ∈ rows, isProcD d = true) {p : Nat} (hp : p < rows.length) : callK L (N + 1) "." [.str "Order", .str "size", .ref o, .int p] s = .ok (.int (evs rows p).length) s := by
  rw [mth_open rfl mh_Order_size rfl]
  have e := evs_tup ha hp
  have c1 : (0 : Int) ≤ (p : Int) := by omega
  have c2 : (p : Int) < (rows.length : Int) := by omega
  have g := gc_app (st := s) (g := []) (d := .int (evs rows p).length) rfl
  simp at g
  simp [fd_Order_size, startE, h.run, c1, c2, atI_nat', e, g]
theorem last_run (h : OrdAt s o rows a b c d) (ha : ∀ d ∈ rows, isProcD d = true) {p e : Nat} (hp : p < rows.length) (he : e ≤ (evs rows p).length) : callK L (N + 2) "." [.str "Order", .str "_last", .ref o, .int p, .int e] s = .ok (.tup [.int p, .int e]) s := by
  rw [mth_open rfl mh_Order__last rfl]
  have z := size_run (N := N) h ha hp
  have c1 : ¬ ((evs rows p).length : Int) < (e : Int) := by omega
  have g := gc_app (st := s) (g := []) (d := .tup [.int p, .int e]) rfl
  simp at g
  simp [fd_Order__last, startE, h.ins, z, c1, g]
theorem state_run (h : OrdAt s o rows a b c d) (ha : ∀ d ∈ rows, isProcD d = true) {p e : Nat} (hp : p < rows.length) (he : e ≤ (evs rows p).length) : callK L (N + 3) "." [.str "Order", .str "state", .ref o, .int p, .int e] s = .ok (stD (stateOf ((evs rows p).take e))) s := by
  rw [mth_open rfl mh_Order_state rfl]
  have z := last_run (N := N) h ha hp he
  have dg := dgetm_run (K := KP) (ev := stD) (k := (p, e)) (y := .tup [.int 0, .int 0, .int 0, .int 0]) h.sts
  have g := gc_app (st := s) (g := []) (d := stD (stateOf ((evs rows p).take e))) (closed_map (fun _ => rfl) _)
  have val : (Option.map stD (aget (statesOf rows) (p, e))).getD (.tup [.int 0, .int 0, .int 0, .int 0]) = stD (stateOf ((evs rows p).take e)) := by
    unfold statesOf
    rw [allF_run]
    by_cases h0 : 1 ≤ e
    · rw [if_pos ⟨h0, he⟩]; rfl
    · have : e = 0 := by omega
      subst this
      rw [if_neg (by omega)]; rfl
  rw [val] at dg
  change dgetmop _ (.tup [.int p, .int e]) _ _ = _ at dg
  simp at g
  simp [fd_Order_state, startE, h.ins, h.states, isdic_run h.sts, z, dg, g]
def balsL (rows : List D) : Nat → List Nat → List Int
  | _, [] => []
  | k, e :: cut => balOf ((evs rows k).take e) :: balsL rows (k + 1) cut
def balD (rows : List D) : D → D
  | .tup [.int p, .int e] => .int (balOf ((evs rows p.toNat).take e.toNat))
  | _ => .non
theorem bals_map {rows : List D} : ∀ {cut : List Nat} {k : Nat}, (enumD (k : Int) (cut.map natD)).map (balD rows) = (balsL rows k cut).map D.int
  | [], k => rfl
  | e :: cut, k => by
    simp only [List.map_cons, enumD, balsL]
    rw [show (k : Int) + 1 = ((k + 1 : Nat) : Int) by omega, bals_map]
    congr 1
theorem ints_map : ∀ (xs : List Int), intsD (xs.map D.int) = some xs
  | [] => rfl
  | x :: xs => by simp [intsD, ints_map xs]
def undOf (rows : List D) (cut : List Nat) : Int := (balsL rows 0 cut).sum
theorem under_run (h : OrdAt s o rows a b c d) (ha : ∀ d ∈ rows, isProcD d = true) {cut : List Nat} (hl : cut.length = rows.length) (h6 : rows.length ≤ 6) (he : ∀ p e, cut[p]? = some e → e ≤ (evs rows p).length) : callK L (N + 3) "." [.str "Order", .str "under_way", .ref o, clD cut] s = .ok (.int (undOf rows cut)) s := by
  rw [mth_open rfl mh_Order_under_way rfl]
  have cr := comp_run (st := s) (xs := enumD ((0 : Nat) : Int) (cut.map natD)) (g := balD rows) (step := stepF [2, 3] (.tup [2, 3]) (evAll (callK L (N + 2)) L.cs .nil) (evE (callK L (N + 2)) L.cs (.dgetm (.attr (.var 0) "_balances") (.omth "_last" (.var 0) (.cons (.var 2) (.cons (.var 3) .nil))) (.int 0))) [some (.ref o), some (clD cut), none, none]) (fun x hx l => by
    obtain ⟨p, dd, h1, rfl⟩ := mem_enum hx
    rw [List.getElem?_map] at h1
    obtain ⟨e, h2, rfl⟩ := Option.map_eq_some_iff.mp h1
    have hp : p < rows.length := by rw [← hl]; exact (List.getElem?_eq_some_iff.mp h2).1
    have hh := h.app (g := [.lst l])
    have z := last_run (N := N) hh ha hp (he p e h2)
    have dg := dgetm_run (K := KP) (ev := D.int) (k := (p, e)) (y := .int 0) hh.bal
    have val : (Option.map D.int (aget (balancesOf rows) (p, e))).getD (.int 0) = .int (balOf ((evs rows p).take e)) := by
      unfold balancesOf
      rw [allF_run]
      by_cases h0 : 1 ≤ e
      · rw [if_pos ⟨h0, he p e h2⟩]; rfl
      · have : e = 0 := by omega
        subst this
        rw [if_neg (by omega)]; rfl
    rw [val] at dg
    change dgetmop _ (.tup [.int p, .int e]) _ _ = _ at dg
    rw [Nat.zero_add]
    simp [stepF_two, wipeE, cstep, hh.ins, hh.balances, isdic_run hh.bal, z, dg, natD, balD]) (by
    rw [enumD_len, List.length_map, hl]
    exact Nat.le_trans h6 (by decide))
  rw [bals_map] at cr
  have sm : biop .sum [.ref s.length] (s ++ [.lst ((balsL rows 0 cut).map D.int)]) = .ok (.int (undOf rows cut)) (s ++ [.lst ((balsL rows 0 cut).map D.int)]) := by
    simp [biop, lstOf, ints_map, undOf]
  simp at cr
  have e1 : clD cut = .tup (cut.map natD) := rfl
  rw [e1] at cr
  simp [fd_Order_under_way, startE, e1, cr, sm]
end
end Th

set_option linter.all false
set_option maxRecDepth 100000
set_option maxHeartbeats 2000000
/-! _law_state. -/
namespace Th
open PySem L2 Mi LL
def KV : KEnc Str := ⟨false, fun x => .str x, fun x => [.inr x], fun _ => rfl, fun a b h => by simpa using h⟩
def stL (vs : List Int) : List (Str × Int) := [(varOf 0, vs.getD 0 0), (varOf 1, vs.getD 1 0), (varOf 2, vs.getD 2 0), (varOf 3, vs.getD 3 0)]
def STD (vs : List Int) : MO := DIC KV D.int (stL vs)
theorem four {vs : List Int} (h : vs.length = 4) : ∃ a b c d, vs = [a, b, c, d] := by
  match vs, h with
  | [a, b, c, d], _ => exact ⟨a, b, c, d, rfl⟩
theorem put_var {vs : List Int} (h : vs.length = 4) {i : Nat} (hi : i < 4) (w : Int) : aput (stL vs) (varOf i) w = stL (vs.set i w) := by
  obtain ⟨a, b, c, d, rfl⟩ := four h
  have : i = 0 ∨ i = 1 ∨ i = 2 ∨ i = 3 := by omega
  rcases this with rfl | rfl | rfl | rfl <;> rfl
theorem get_var {vs : List Int} {i : Nat} (hi : i < 4) : aget (stL vs) (varOf i) = some (vs.getD i 0) := by
  have : i = 0 ∨ i = 1 ∨ i = 2 ∨ i = 3 := by omega
  rcases this with rfl | rfl | rfl | rfl <;> rfl
theorem std_get {s : Store} {n : Nat} {vs : List Int} (h : s[n]? = some (STD vs)) {i : Nat} (hi : i < 4) : dgetop (.ref n) (.str (varOf i)) s = .ok (.int (vs.getD i 0)) s := dget_run (K := KV) (ev := D.int) h (get_var hi)
section
variable {st : Store} {rows : List D} {N : Nat}
theorem lst_ch {a0 a1 a2 a4 : Option D} {cs : List D} {lo : Nat} {vs : List Int} {a5 a6 : Option D} (hc : ascN lo cs = true) (hl : vs.length = 4) :
    ∃ b5 b6, forL (bodyF (.tup [5, 6]) (evSs (callK L N) L.cs L.sub L.wf (.cons (.dput (.var 3) (.var 5) (.var 6)) .nil))) none cs [a0, a1, a2, some (.ref st.length), a4, a5, a6] (st ++ [STD vs]) = .nx [a0, a1, a2, some (.ref st.length), a4, b5, b6] (st ++ [STD (cs.foldl chStep vs)]) := by
  obtain ⟨e', s', h1, b5, b6, ws, h2, h3, h4, lo', h5, h6⟩ := for_ind (gd := none) (step := bodyF (.tup [5, 6]) (evSs (callK L N) L.cs L.sub L.wf (.cons (.dput (.var 3) (.var 5) (.var 6)) .nil))) (fun xs env s => ∃ b5 b6 ws, env = [a0, a1, a2, some (.ref st.length), a4, b5, b6] ∧ s = st ++ [STD ws] ∧ ws.length = 4 ∧ ∃ lo, ascN lo xs = true ∧ xs.foldl chStep ws = cs.foldl chStep vs) (fun _ _ _ _ => trivial) (by
    rintro x xs _ _ ⟨b5, b6, ws, rfl, rfl, hw, lo, h, hf⟩
    unfold ascN at h
    cases e : chIx x with
    | none => simp [e] at h
    | some i =>
      simp only [e, Bool.and_eq_true] at h
      obtain ⟨w, rfl, hi⟩ := ch_form e
      have dp := dput_run_ (K := KV) (ev := D.int) (st := st ++ [STD ws]) (n := st.length) (k := varOf i) (v := w) (m := stL ws) (by simp [STD]) (by show 4 < LINE; decide)
      rw [put_var hw hi] at dp
      change dputop false (.ref st.length) (.str (varOf i)) (.int w) _ = some ((st ++ [STD ws]).set st.length (STD (ws.set i w))) at dp
      simp at dp
      have cs1 : chStep ws (.tup [.str (varOf i), .int w]) = ws.set i w := by unfold chStep; simp only [e]; rfl
      rw [List.foldl_cons, cs1] at hf
      refine ⟨[a0, a1, a2, some (.ref st.length), a4, some (.str (varOf i)), some (.int w)], st ++ [STD (ws.set i w)], ?_, _, _, _, rfl, rfl, by simpa using hw, _, h.2, hf⟩
      rw [bodyF_two]
      simp [dp]) (xs := cs) (e := [a0, a1, a2, some (.ref st.length), a4, a5, a6]) (s := st ++ [STD vs]) ⟨a5, a6, vs, rfl, rfl, hl, lo, hc, rfl⟩
  subst h2 h3
  refine ⟨b5, b6, ?_⟩
  rw [h1]
  simp at h6
  rw [h6]
theorem lst_run (hN : 1 ≤ N) (ha : ∀ d ∈ rows, isProcD d = true) {p e : Nat} (hp : p < rows.length) : callK L N "_law_state" [.tup rows, .int p, .int e] st = .ok (.ref st.length) (st ++ [STD (stateOf ((evs rows p).take e))]) := by
  obtain ⟨N, rfl, hM⟩ := pred_ hN
  have hev := evs_tup ha hp
  rw [call_open fn__law_state rfl]
  have hee : ∀ x ∈ evs rows p, isEventD x = true := by
    have := ha _ (List.getElem_mem hp)
    obtain ⟨ys, e1, _, h3⟩ := proc_ev this
    have h4 := List.getElem?_eq_getElem hp
    rw [hev] at h4
    cases h4.trans (congrArg some e1)
    exact h3
  generalize evs rows p = es at hev hee ⊢
  obtain ⟨e', s', h1, b4, b5, b6, ws, h2, h3, h4, _, h6⟩ := for_ind (gd := none) (step := bodyF (.name 4) (evSs (callK L N) L.cs L.sub L.wf (.cons (.for (.tup [5, 6]) (.exp (.idx (.var 4) (.un .neg (.int 1))))
        (.cons (.dput (.var 3) (.var 5) (.var 6))
        .nil))
      .nil))) (fun xs env s => ∃ b4 b5 b6 ws, env = [some (.tup rows), some (.int p), some (.int e), some (.ref st.length), b4, b5, b6] ∧ s = st ++ [STD ws] ∧ ws.length = 4 ∧ (∀ x ∈ xs, isEventD x = true) ∧ xs.foldl evStep ws = stateOf (es.take e)) (fun _ _ _ _ => trivial) (by
    rintro x xs _ _ ⟨b4, b5, b6, ws, rfl, rfl, hw, he, hf⟩
    obtain ⟨ys, cs, rfl, g1, g2, g3⟩ := ev_last (he x List.mem_cons_self)
    obtain ⟨c5, c6, lp⟩ := lst_ch (N := N) (st := st) (a0 := some (.tup rows)) (a1 := some (.int p)) (a2 := some (.int e)) (a4 := some (.tup ys)) (a5 := b5) (a6 := b6) g3 hw
    have ev : evStep ws (.tup ys) = cs.foldl chStep ws := by unfold evStep; rw [g2]
    rw [← ev] at lp
    refine ⟨_, _, ?_, some (.tup ys), c5, c6, evStep ws (.tup ys), rfl, rfl, by rw [evStep_len]; exact hw, fun x hx => he x (List.mem_cons_of_mem _ hx), hf⟩
    rw [bodyF_name]
    simp [g1]
    rw [lp]
    rfl) (xs := es.take e) (e := [some (.tup rows), some (.int p), some (.int e), some (.ref st.length), none, none, none]) (s := st ++ [STD [0, 0, 0, 0]]) ⟨_, _, _, _, rfl, rfl, rfl, fun x hx => hee x (List.mem_of_mem_take hx), rfl⟩
  subst h2 h3
  simp at h6
  have dl : dicLit false (.cons (.str "a") (.cons (.str "b") (.cons (.str "c") (.cons (.str "d") .nil)))) (.cons (.int 0) (.cons (.int 0) (.cons (.int 0) (.cons (.int 0) .nil)))) st = .ok (.ref st.length) (st ++ [STD [0, 0, 0, 0]]) := by
    have e1 : litP (.cons (.str "a") (.cons (.str "b") (.cons (.str "c") (.cons (.str "d") .nil)))) (.cons (.int 0) (.cons (.int 0) (.cons (.int 0) (.cons (.int 0) .nil)))) = some [(("a" : Str), (0 : Int)), (("b" : Str), 0), (("c" : Str), 0), (("d" : Str), 0)] := rfl
    have e2 : (([(("a" : Str), (0 : Int)), (("b" : Str), 0), (("c" : Str), 0), (("d" : Str), 0)] : List (Str × Int)).map (·.1)).Nodup := by decide +kernel
    unfold dicLit
    rw [e1]
    exact if_pos ⟨rfl, e2, List.cons_ne_nil _ _, by decide⟩
  simp [fd__law_state, startE, dl, atI_nat', hev, cutG_take]
  rw [h1, h6]
  simp
  exact gc_new0 (dic_closed fun p _ => rfl)
end
end Th

set_option linter.all false
set_option maxRecDepth 100000
set_option maxHeartbeats 2000000
/-! _law_all. -/
namespace Th
open PySem L2 Mi LL
def allL : List Nat → List (List Nat)
  | [] => [[]]
  | n :: ns => (allL ns).flatMap fun t => (List.range (n + 1)).map fun k => k :: t
theorem mem_allL {t : List Nat} : ∀ {ns : List Nat}, t ∈ allL ns ↔ t.length = ns.length ∧ ∀ i e : Nat, t[i]? = some e → ∃ n, ns[i]? = some n ∧ e ≤ n
  | [] => by
    simp only [allL, List.mem_singleton, List.length_nil]
    constructor
    · rintro rfl; exact ⟨rfl, fun i e h => by simp at h⟩
    · rintro ⟨h, _⟩; exact List.eq_nil_of_length_eq_zero h
  | n :: ns => by
    simp only [allL, List.mem_flatMap, List.mem_map, List.mem_range, List.length_cons]
    constructor
    · rintro ⟨u, hu, k, hk, rfl⟩
      obtain ⟨h1, h2⟩ := mem_allL.mp hu
      refine ⟨by simp [h1], fun i e h => ?_⟩
      cases i with
      | zero => exact ⟨n, rfl, by simp at h; omega⟩
      | succ i => exact h2 i e (by simpa using h)
    · rintro ⟨h1, h2⟩
      cases t with
      | nil => simp at h1
      | cons k u =>
        obtain ⟨m, hm, hk⟩ := h2 0 k rfl
        simp at hm
        refine ⟨u, mem_allL.mpr ⟨by simpa using h1, fun i e h => h2 (i + 1) e (by simpa using h)⟩, k, by omega, rfl⟩
theorem len_fm {α β : Type} {f : α → List β} {c : Nat} : ∀ {xs : List α}, (∀ x ∈ xs, (f x).length = c) → (xs.flatMap f).length = xs.length * c
  | [], _ => by simp
  | x :: xs, h => by
    rw [List.flatMap_cons, List.length_append, h x List.mem_cons_self, len_fm fun y hy => h y (List.mem_cons_of_mem _ hy), List.length_cons, Nat.add_mul, Nat.one_mul, Nat.add_comm]
theorem allL_len : ∀ {ns : List Nat}, (∀ n ∈ ns, n ≤ 30) → (allL ns).length ≤ 31 ^ ns.length
  | [], _ => by simp [allL]
  | n :: ns, h => by
    have ih := allL_len (ns := ns) fun x hx => h x (List.mem_cons_of_mem _ hx)
    have hn := h n List.mem_cons_self
    rw [allL, len_fm (c := n + 1) (fun x _ => by simp), List.length_cons, Nat.pow_succ]
    exact Nat.mul_le_mul ih (by omega)
theorem pow31 {k : Nat} (h : k ≤ 4) : 31 ^ k ≤ 923521 := Nat.le_trans (Nat.pow_le_pow_right (by decide) h) (by decide)
theorem gc_newm {st s : Store} {f : Nat} {mo : MO} (hl : st.length ≤ s.length) (h : ∀ i, i < st.length → s[i]? = st[i]?) (hf : st.length ≤ f) (e : s[f]? = some mo) (c : closedMO st.length mo = true) : gc st (.ok (.ref f) s) = .ok (.ref st.length) (st ++ [mo]) := by
  have e1 : s = st ++ s.drop st.length := by
    refine List.ext_getElem? fun i => ?_
    by_cases hi : i < st.length
    · rw [List.getElem?_append_left hi, h i hi]
    · rw [List.getElem?_append_right (by omega), List.getElem?_drop]
      congr 1
      omega
  have k := gc_newk (st := st) (g := s.drop st.length) (j := f - st.length) (mo := mo) (by rw [List.getElem?_drop, show st.length + (f - st.length) = f by omega]; exact e) c
  rw [← e1, show st.length + (f - st.length) = f by omega] at k
  exact k
theorem cl_closed {k : Nat} (t : List Nat) : closedD k (clD t) = true := closed_map (f := natD) (fun _ => rfl) t
def allBody : Ss := (.cons (.set 1 (.bin .add (.var 1) (.lc [("k", 3)] (.name 3) (.rng1 (.bin .add (.idx (.var 0) (.int 0)) (.int 1))) .nil (.bin .add (.tup (.cons (.var 3) .nil)) (.var 2)))))
      .nil)
theorem lall_run : ∀ {ns : List Nat} {N : Nat} {st : Store} {a : Nat}, ns.length + 1 ≤ N → ns.length ≤ 4 → (∀ n ∈ ns, n ≤ 30) → st[a]? = some (.lst (ns.map natD)) → callK L N "_law_all" [.ref a] st = .ok (.ref st.length) (st ++ [.lst ((allL ns).map clD)])
  | [], N, st, a, hN, _, _, h0 => by
    obtain ⟨N, rfl, hM⟩ := pred_ hN
    rw [call_open fn__law_all rfl]
    have g := gc_new0 (st := st) (g := []) (mo := .lst [.tup []]) rfl
    simp [fd__law_all, startE, h0, g]
    rfl
  | n :: ns, N, st, a, hN, hl, hb, h0 => by
    obtain ⟨N, rfl, hM⟩ := pred_ hN
    rw [call_open fn__law_all rfl]
    simp only [List.length_cons] at hM hl
    have hn := hb n List.mem_cons_self
    have hb' : ∀ x ∈ ns, x ≤ 30 := fun x hx => hb x (List.mem_cons_of_mem _ hx)
    have ha := (List.getElem?_eq_some_iff.mp h0).1
    have ih := lall_run (ns := ns) (N := N) (st := st ++ [.lst [], .lst (ns.map natD)]) (a := st.length + 1) hM (by omega) hb' (by simp)
    have sl : ((st ++ [.lst []]) ++ [.lst (cutG ((n :: ns).map natD) (some 1) none)]) = st ++ [.lst [], .lst (ns.map natD)] := by rw [List.map_cons, cutG_1]; simp
    have sr := slc_run (s := st ++ [.lst []]) (w := a) (xs := (n :: ns).map natD) (lo := some 1) (hi := none) (get_app h0)
    rw [sl] at sr
    have big := pow31 hl
    have lall := allL_len hb
    simp only [List.length_cons] at lall
    have ltail := allL_len hb'
    obtain ⟨e', s', h1, f, b2, b3, h2, h3, h4, h5, h6, h8⟩ := for_ind (gd := some (st.length + 2, (allL ns).map clD)) (step := bodyF (.name 2) (evSs (callK L N) L.cs L.sub L.wf allBody)) (fun xs env s => ∃ f b2 b3, env = [some (.ref a), some (.ref f), b2, b3] ∧ (∀ i, i < st.length → s[i]? = st[i]?) ∧ st.length ≤ s.length ∧ st.length ≤ f ∧ s[st.length + 2]? = some (.lst ((allL ns).map clD)) ∧ ∃ acc ts : List (List Nat), s[f]? = some (.lst (acc.map clD)) ∧ xs = ts.map clD ∧ (∀ t ∈ ts, t.length ≤ 4) ∧ acc ++ (ts.flatMap fun t => (List.range (n + 1)).map fun k => k :: t) = allL (n :: ns)) (fun _ _ _ h => by
        obtain ⟨f, b2, b3, _, _, _, _, h, _⟩ := h
        exact h) (by
      rintro x xs _ s ⟨f, b2, b3, rfl, k1, k2, k3, k4, acc, ts, k5, k6, k7, k8⟩
      cases ts with
      | nil => cases k6
      | cons t ts =>
        simp only [List.map_cons, List.cons.injEq] at k6
        obtain ⟨rfl, rfl⟩ := k6
        have t4 := k7 t List.mem_cons_self
        have sn : s[a]? = some (.lst ((n :: ns).map natD)) := by rw [k1 a ha]; exact h0
        have c := comp_run (st := s) (xs := rangeD 0 ((n : Int) + 1)) (g := fun d => .tup (d :: t.map natD)) (step := stepF [3] (.name 3) (evAll (callK L N) L.cs .nil) (evE (callK L N) L.cs (.bin .add (.tup (.cons (.var 3) .nil)) (.var 2))) [some (.ref a), some (.ref f), some (clD t), b3]) (fun x hx l => by
          have : 1 + t.length ≤ LINE := by simp only [LINE]; omega
          simp [stepF_name, wipeE, cstep, clD, this]) (by rw [rangeD_len]; simp only [LINE]; omega)
        have em : (rangeD 0 ((n : Int) + 1)).map (fun d => D.tup (d :: t.map natD)) = ((List.range (n + 1)).map fun k => k :: t).map clD := by
          unfold rangeD
          rw [List.map_map, List.map_map, show ((n : Int) + 1 - 0).toNat = n + 1 by omega]
          refine List.map_congr_left fun k _ => ?_
          simp [clD, natD]
        rw [em] at c
        have len : acc.length + (n + 1) ≤ 923521 := by
          have := congrArg List.length k8
          rw [List.flatMap_cons] at this
          simp only [List.length_append, List.length_map, List.length_range] at this
          omega
        have ar := add_run (s := s ++ [.lst (((List.range (n + 1)).map fun k => k :: t).map clD)]) (x := f) (y := s.length) (get_app k5) get_last (by simp only [List.length_map, List.length_range, LINE]; omega)
        rw [← List.map_append] at ar
        have lf := (List.getElem?_eq_some_iff.mp k5).1
        have sm : small62 ((n : Int) + 1) := ⟨by omega, by omega⟩
        refine ⟨[some (.ref a), some (.ref (s.length + 1)), some (clD t), b3], s ++ [.lst (((List.range (n + 1)).map fun k => k :: t).map clD)] ++ [.lst ((acc ++ (List.range (n + 1)).map fun k => k :: t).map clD)], ?_, s.length + 1, _, _, rfl, fun i hi => ?_, by simp; omega, by omega, get_app (get_app k4), acc ++ (List.range (n + 1)).map fun k => k :: t, ts, ?_, rfl, fun u hu => k7 u (List.mem_cons_of_mem _ hu), ?_⟩
        · rw [bodyF_name]
          simp [allBody, sn, rng1R_ok sm, natD, c]
          simp [natD] at ar
          rw [ar]
          rfl
        · rw [List.append_assoc, List.getElem?_append_left (by omega)]; exact k1 i hi
        · have := get_last (s := s ++ [MO.lst (((List.range (n + 1)).map fun k => k :: t).map clD)]) (mo := .lst ((acc ++ (List.range (n + 1)).map fun k => k :: t).map clD))
          rw [List.length_append, List.length_singleton] at this
          exact this
        · rw [← k8, List.flatMap_cons, List.append_assoc])
      (xs := (allL ns).map clD) (e := [some (.ref a), some (.ref st.length), none, none]) (s := st ++ [.lst [], .lst (ns.map natD)] ++ [.lst ((allL ns).map clD)]) ⟨st.length, none, none, rfl, fun i hi => by rw [List.append_assoc, List.getElem?_append_left hi], by simp, Nat.le_refl _, by simp, [], allL ns, by simp, rfl, fun t ht => by rw [(mem_allL.mp ht).1]; omega, rfl⟩
    obtain ⟨acc, ts, h9, h10, _, h11⟩ := h8
    have tn : ts = [] := by cases ts with
      | nil => rfl
      | cons _ _ => cases h10
    subst tn h2
    rw [List.flatMap_nil, List.append_nil] at h11
    subst h11
    have nz : ¬ ((ns.length : Int) + 1 = 0) := by omega
    have ge : (st ++ [MO.lst [], .lst (ns.map natD)] ++ [.lst ((allL ns).map clD)])[st.length + 2]? = some (.lst ((allL ns).map clD)) := by simp
    have er := expR_ref ge
    have fb : fd__law_all.body = .cons (.iff (.cmp .eq (.bi .len (.cons (.var 0) .nil)) (.int 0)) (.cons (.ret (.lst (.cons (.tup .nil) .nil))) .nil) .nil) (.cons (.set 1 (.lst .nil)) (.cons (.for (.name 2) (.exp (.call "_law_all" (.cons (.slc (.var 0) (.some (.int 1)) .none) .nil))) allBody) (.cons (.ret (.var 1)) .nil))) := rfl
    rw [fb]
    simp at ih sr er h1
    simp [fd__law_all, startE, h0, nz, sr, ih, er, h1]
    exact gc_newm h4 h3 h5 h9 (closed_map (f := clD) cl_closed _)
end Th

set_option linter.all false
set_option maxRecDepth 100000
set_option maxHeartbeats 2000000
/-! _law_is_cut. -/
namespace Th
open PySem L2 Mi LL
/-- a loop that a turn may leave with an answer; the store stays -/
theorem for_chk {α : Type} {q : α → D} {step : D → Mi.Env → Store → Out} {s : Store} {d : D} (P : α → Bool) (I : Mi.Env → Prop) : ∀ {xs : List α} {env : Mi.Env}, (∀ x ∈ xs, ∀ env, I env → (P x = true → ∃ env', step (q x) env s = .nx env' s ∧ I env') ∧ (P x = false → step (q x) env s = .rt d s)) → I env →
    (xs.all P = true → ∃ env', forL step none (xs.map q) env s = .nx env' s ∧ I env') ∧ (xs.all P = false → forL step none (xs.map q) env s = .rt d s)
  | [], env, _, i => ⟨fun _ => ⟨env, by simp [forL, gdOk], i⟩, fun h => by simp at h⟩
  | x :: xs, env, h, i => by
    obtain ⟨h1, h2⟩ := h x List.mem_cons_self env i
    cases e : P x with
    | false =>
      refine ⟨fun z => by simp [e] at z, fun _ => ?_⟩
      simp [forL, gdOk, h2 e]
    | true =>
      obtain ⟨env', s1, i'⟩ := h1 e
      have ih := for_chk P I (xs := xs) (fun y hy => h y (List.mem_cons_of_mem _ hy)) i'
      simp only [List.all_cons, e, Bool.true_and]
      refine ⟨fun z => ?_, fun z => ?_⟩
      · obtain ⟨env2, k1, k2⟩ := ih.1 z
        exact ⟨env2, by simp [forL, gdOk, s1, k1], k2⟩
      · simp [forL, gdOk, s1, ih.2 z]
def leAt (C : Clk) (cut : List Nat) (p q : Nat) : Bool := decide ((cl C p (cut.getD p 0)).getD q 0 ≤ cut.getD q 0)
def isCut (C : Clk) (cut : List Nat) : Bool := (List.range cut.length).all fun p => (List.range cut.length).all fun q => leAt C cut p q
theorem range_nat {n : Nat} : rangeD 0 (n : Int) = (List.range n).map fun k : Nat => D.int k := by
  unfold rangeD
  rw [show ((n : Int) - 0).toNat = n by omega]
  refine List.map_congr_left fun k _ => by simp
theorem clkD_get {C : Clk} {p : Nat} : (clkD C).getD p [] = (C.getD p []).map clD := by
  unfold clkD
  simp only [List.getD]
  rw [List.getElem?_map]
  cases C[p]? <;> rfl
def icBody2 : Ss := (.cons (.iff (.cmp .gt (.idx (.var 3) (.var 4)) (.idx (.var 1) (.var 4)))
          (.cons (.ret (.bl false))
          .nil)
          .nil)
        .nil)
def icBody : Ss := (.cons (.set 3 (.idx (.idx (.var 0) (.var 2)) (.idx (.var 1) (.var 2))))
      (.cons (.for (.name 4) (.rng1 (.bi .len (.cons (.var 1) .nil))) icBody2)
      .nil))
theorem gd_at {α : Type} {xs : List α} {i : Nat} {x : α} (d : α) (h : xs[i]? = some x) : xs.getD i d = x := by simp [List.getD, h]
section
variable {s : Store} {C : Clk} {k c N : Nat}
theorem is_cut_run (hN : 1 ≤ N) (hk : k ≤ 6) (hC : C.length = k) (hL : Ls s c (clkD C)) {cut : List Nat} (hl : cut.length = k) (hr : ∀ p e, cut[p]? = some e → e < (C.getD p []).length) (hw : ∀ p e, cut[p]? = some e → (cl C p e).length = k) :
    callK L N "_law_is_cut" [.ref c, clD cut] s = .ok (.bl (isCut C cut)) s := by
  obtain ⟨N, rfl, hM⟩ := pred_ hN
  rw [call_open fn__law_is_cut rfl]
  have at_ : ∀ {p : Nat}, p < k → cut[p]? = some (cut.getD p 0) := fun {p} hp => getD_some (by omega) 0
  have sm : small62 (k : Int) := ⟨by omega, by omega⟩
  have inn : ∀ {p : Nat}, p < k → ∀ b4, ((List.range k).all (leAt C cut p) = true → ∃ env', forL (bodyF (.name 4) (evSs (callK L N) L.cs L.sub L.wf icBody2)) none ((List.range k).map fun k : Nat => D.int k) [some (.ref c), some (clD cut), some (.int p), some (clD (cl C p (cut.getD p 0))), b4] s = .nx env' s ∧ ∃ b4, env' = [some (.ref c), some (clD cut), some (.int p), some (clD (cl C p (cut.getD p 0))), b4]) ∧
      ((List.range k).all (leAt C cut p) = false → forL (bodyF (.name 4) (evSs (callK L N) L.cs L.sub L.wf icBody2)) none ((List.range k).map fun k : Nat => D.int k) [some (.ref c), some (clD cut), some (.int p), some (clD (cl C p (cut.getD p 0))), b4] s = .rt (.bl false) s) := fun {p} hp b4 =>
    for_chk (leAt C cut p) (fun env => ∃ b4, env = [some (.ref c), some (clD cut), some (.int p), some (clD (cl C p (cut.getD p 0))), b4]) (fun q hq env ⟨b4, he⟩ => by
      subst he
      have hq' : q < k := List.mem_range.mp hq
      have cq := at_ hq'
      have wid := hw p _ (at_ hp)
      have clq : (cl C p (cut.getD p 0))[q]? = some ((cl C p (cut.getD p 0)).getD q 0) := getD_some (by omega) 0
      have e : bodyF (.name 4) (evSs (callK L N) L.cs L.sub L.wf icBody2) (.int q) [some (.ref c), some (clD cut), some (.int p), some (clD (cl C p (cut.getD p 0))), b4] s = if cut.getD q 0 < (cl C p (cut.getD p 0)).getD q 0 then .rt (.bl false) s else .nx [some (.ref c), some (clD cut), some (.int p), some (clD (cl C p (cut.getD p 0))), some (.int q)] s := by
        generalize (cl C p (cut.getD p 0)).getD q 0 = v at clq ⊢
        generalize cl C p (cut.getD p 0) = cv at clq ⊢
        generalize cut.getD q 0 = w at cq ⊢
        rw [bodyF_name]
        simp [icBody2, clD, atI_nat', clq, cq, natD]
      rw [e]
      unfold leAt
      refine ⟨fun h => ?_, fun h => ?_⟩
      · have h' := of_decide_eq_true h
        rw [if_neg (by omega)]
        exact ⟨_, rfl, _, rfl⟩
      · have h' := of_decide_eq_false h
        rw [if_pos (by omega)]) ⟨b4, rfl⟩
  have out := for_chk (q := fun k : Nat => D.int k) (step := bodyF (.name 2) (evSs (callK L N) L.cs L.sub L.wf icBody)) (s := s) (d := .bl false) (xs := List.range k) (env := [some (.ref c), some (clD cut), none, none, none]) (fun p => (List.range k).all (leAt C cut p)) (fun env => ∃ b2 b3 b4, env = [some (.ref c), some (clD cut), b2, b3, b4]) (fun p hp env ⟨b2, b3, b4, he⟩ => by
    subst he
    have hp' : p < k := List.mem_range.mp hp
    have cp := at_ hp'
    obtain ⟨q, i1, _, i2⟩ := hL.idxB (p := p) (by simp [clkD, hC]; exact hp') rfl
    rw [clkD_get] at i2
    simp only [atI_nat'] at i1
    have ck := clk_at (C := C) (q := p) (i := cut.getD p 0) (hr p _ cp)
    obtain ⟨n1, n2⟩ := inn hp' b4
    have e : bodyF (.name 2) (evSs (callK L N) L.cs L.sub L.wf icBody) (.int p) [some (.ref c), some (clD cut), b2, b3, b4] s = (forL (bodyF (.name 4) (evSs (callK L N) L.cs L.sub L.wf icBody2)) none ((List.range k).map fun k : Nat => D.int k) [some (.ref c), some (clD cut), some (.int p), some (clD (cl C p (cut.getD p 0))), b4] s).bind fun env st => .nx env st := by
      generalize cut.getD p 0 = w at cp ck ⊢
      generalize C.getD p [] = row at i2 ck
      rw [bodyF_name]
      have e1 : clD cut = .tup (cut.map natD) := rfl
      have rl : ((cut.map natD).length : Int) = k := by simp [hl]
      simp only [List.getElem?_map] at ck
      simp [icBody, e1, atI_nat', cp, natD, i1, i2, ck, hl, rng1R_ok sm, range_nat]
      rfl
    rw [e]
    refine ⟨fun h => ?_, fun h => ?_⟩
    · obtain ⟨env', f1, b4', rfl⟩ := n1 h
      rw [f1]
      exact ⟨_, rfl, _, _, _, rfl⟩
    · rw [n2 h]; rfl) ⟨none, none, none, rfl⟩
  have ei : isCut C cut = (List.range k).all fun p => (List.range k).all (leAt C cut p) := by unfold isCut; rw [hl]
  have fb : fd__law_is_cut.body = .cons (.for (.name 2) (.rng1 (.bi .len (.cons (.var 1) .nil))) icBody) (.cons (.ret (.bl true)) .nil) := rfl
  have es : startE fd__law_is_cut [.ref c, clD cut] = [some (.ref c), some (clD cut), none, none, none] := rfl
  have ln : biop .len [clD cut] s = .ok (.int k) s := by simp [clD, hl]
  rw [fb, es, ei]
  cases h : (List.range k).all fun p => (List.range k).all (leAt C cut p) with
  | true =>
    obtain ⟨env', f1, _⟩ := out.1 h
    simp [ln, rng1R_ok sm, range_nat, f1]
  | false =>
    simp [ln, rng1R_ok sm, range_nat, out.2 h]
end
end Th

set_option linter.all false
set_option maxRecDepth 100000
set_option maxHeartbeats 2000000
/-! _law_cuts. -/
namespace Th
open PySem L2 Mi LL
def pairD (cut : List Nat) : D := .tup [.int (cut.map fun n : Nat => (n : Int)).sum, clD cut]
noncomputable def cutLe (a b : List Nat) : Bool := PySem.W.dataLe false encD' (pairD a) (pairD b)
noncomputable def cutsOf (C : Clk) (ns : List Nat) : List (List Nat) := ((allL ns).filter (isCut C)).mergeSort cutLe
theorem mem_cuts {C : Clk} {ns cut : List Nat} : cut ∈ cutsOf C ns ↔ cut ∈ allL ns ∧ isCut C cut = true := by
  simp [cutsOf, List.mem_filter]
theorem nb_nats (c : List Nat) : nb (clD c) = true := by
  unfold clD nb natD
  exact nb_ints c
theorem nb_pair (c : List Nat) : nb (pairD c) = true := by
  have := nb_nats c
  simp [pairD, nb, nbs, this]
theorem dep_nats (c : List Nat) : dep (clD c) ≤ 1 := by
  unfold clD
  refine dep_tup fun x hx => ?_
  obtain ⟨a, _, rfl⟩ := List.mem_map.mp hx
  simp [natD]
theorem dep_pair (c : List Nat) : dep (pairD c) ≤ 2 := by
  unfold pairD
  refine dep_tup fun x hx => ?_
  simp at hx
  rcases hx with rfl | rfl
  · simp
  · exact dep_nats c
theorem enc_nb {d : D} (h : nb d = true) : encD' d = toP d := by unfold encD'; rw [data_nb h]; rfl
theorem alike_nats : ∀ (a b : List Nat), PySem.W.alikeAll (toPs (a.map natD)) (toPs (b.map natD)) = true
  | [], b => by simp [toPs, PySem.W.alikeAll]
  | x :: a, [] => by simp [toPs, PySem.W.alikeAll]
  | x :: a, y :: b => by
    simp only [List.map_cons, toPs, PySem.W.alikeAll, alike_nats a b, Bool.and_true]
    simp [natD, toP, PySem.W.alike]
theorem alike_pair (a b : List Nat) : PySem.W.alike (toP (pairD a)) (toP (pairD b)) = true := by
  have := alike_nats a b
  simp [pairD, toP, toPs, PySem.W.alike, PySem.W.alikeAll, clD, this]
theorem pairs_sort {cs : List (List Nat)} (h : cs.length ≤ LINE) : okSort (cs.map pairD) := by
  have e : ∀ c, encD' (pairD c) = toP (pairD c) := fun c => enc_nb (nb_pair c)
  refine ⟨⟨_, data_nbs (nbs_of fun x hx => ?_)⟩, fun d hd d' hd' => ?_, .inl fun d hd => ?_, fun x hx => ?_, by simpa using h⟩
  · obtain ⟨c, _, rfl⟩ := List.mem_map.mp hx
    exact nb_pair c
  · obtain ⟨x, hx, rfl⟩ := List.mem_map.mp hd
    obtain ⟨y, hy, rfl⟩ := List.mem_map.mp hd'
    obtain ⟨a, _, rfl⟩ := List.mem_map.mp hx
    obtain ⟨b, _, rfl⟩ := List.mem_map.mp hy
    rw [e, e]
    exact alike_pair a b
  · obtain ⟨x, hx, rfl⟩ := List.mem_map.mp hd
    obtain ⟨a, _, rfl⟩ := List.mem_map.mp hx
    rw [e]
    exact ⟨_, _, rfl⟩
  · obtain ⟨a, _, rfl⟩ := List.mem_map.mp hx
    rw [e]
    refine ⟨lay_nb (nb_pair a), ?_⟩
    have := dep_pair a
    unfold dep at this
    omega
theorem sort_pairs {cs : List (List Nat)} : sortD (cs.map pairD) = (cs.mergeSort cutLe).map pairD :=
  (PySem.W.sort_maps pairD fun a _ b _ => rfl).symm
/-- a comprehension with a condition, over a list -/
theorem comp_fmG {α : Type} {q : α → D} {step : D → Store → CRes} {g : α → Option D} {st : Store} {n : Nat} {ys : List D} (hn : st[n]? = some (.lst ys)) : ∀ {xs : List α} {acc : List D}, (∀ x ∈ xs, ∀ l, step (q x) (st ++ [.lst l]) = .ok (g x) (st ++ [.lst l])) → acc.length + xs.length ≤ LINE →
    compL step (some (n, ys)) st.length (xs.map q) (st ++ [.lst acc]) = .ok (.ref st.length) (st ++ [.lst (acc ++ xs.filterMap g)])
  | [], acc, _, _ => by
    obtain ⟨hl, _⟩ := List.getElem?_eq_some_iff.mp hn
    have k : gdOk (some (n, ys)) (st ++ [MO.lst acc]) := by
      show (st ++ [MO.lst acc])[n]? = _
      rw [List.getElem?_append_left hl]; exact hn
    simp [compL, k]
  | x :: xs, acc, h, hl => by
    obtain ⟨hl0, _⟩ := List.getElem?_eq_some_iff.mp hn
    have k : gdOk (some (n, ys)) (st ++ [MO.lst acc]) := by
      show (st ++ [MO.lst acc])[n]? = _
      rw [List.getElem?_append_left hl0]; exact hn
    simp only [List.length_cons] at hl
    have hx := h x List.mem_cons_self acc
    have hr := fun y hy l => h y (List.mem_cons_of_mem _ hy) l
    cases e : g x with
    | none =>
      have ih := comp_fmG (acc := acc) hn hr (by omega)
      rw [e] at hx
      simp only [List.map_cons, compL, if_pos k, hx, ih, List.filterMap_cons, e]
    | some d =>
      have ih := comp_fmG (acc := acc ++ [d]) hn hr (by simp; omega)
      rw [e] at hx
      have e2 : (st ++ [MO.lst acc]).set st.length (.lst (acc ++ [d])) = st ++ [.lst (acc ++ [d])] := by simp
      simp only [List.map_cons, compL, if_pos k, hx]
      rw [List.getElem?_append_right (Nat.le_refl _)]
      simp only [Nat.sub_self, List.getElem?_cons_zero]
      rw [if_pos (by omega), e2, ih]
      simp [List.filterMap_cons, e]
theorem comp_fm0 {α : Type} {q : α → D} {step : D → Store → CRes} {g : α → Option D} {st : Store} {n : Nat} {ys : List D} {xs : List α} (hn : st[n]? = some (.lst ys)) (h : ∀ x ∈ xs, ∀ l, step (q x) (st ++ [.lst l]) = .ok (g x) (st ++ [.lst l])) (hl : xs.length ≤ LINE) :
    compL step (some (n, ys)) st.length (xs.map q) (st ++ [.lst []]) = .ok (.ref st.length) (st ++ [.lst (xs.filterMap g)]) := by
  have := comp_fmG (acc := []) hn h (by simpa using hl)
  simpa using this
theorem fm_filter {α : Type} {p : α → Bool} {f : α → D} : ∀ {xs : List α}, (xs.filterMap fun x => if p x = true then some (f x) else none) = (xs.filter p).map f
  | [] => rfl
  | x :: xs => by
    rw [List.filterMap_cons, List.filter_cons, fm_filter]
    cases p x <;> simp
theorem fm_some {α : Type} {f : α → D} : ∀ {xs : List α}, (xs.filterMap fun x => some (f x)) = xs.map f
  | [] => rfl
  | x :: xs => by rw [List.filterMap_cons, fm_some]; rfl
section
variable {st : Store} {R : Rws} {C : Clk} {k c N : Nat}
theorem cuts_run (hN : 6 ≤ N) (hk : k ≤ 4) (hR : R.length = k) (hC : C.length = k) (hL : Ls st c (clkD C)) (h30 : ∀ p, lenR R p ≤ 30) (hr : ∀ p, p < k → (C.getD p []).length = lenR R p + 1) (hw : ∀ p, p < k → ∀ i, i ≤ lenR R p → (cl C p i).length = k) :
    callK L N "_law_cuts" [.tup (tupsD R), .ref c] st = .ok (.ref st.length) (st ++ [.lst ((cutsOf C (R.map List.length)).map clD)]) := by
  obtain ⟨N, rfl, hM⟩ := pred_ hN
  rw [call_open fn__law_cuts rfl]
  have n30 : ∀ n ∈ R.map List.length, n ≤ 30 := fun n hn => by
    obtain ⟨r, hr, rfl⟩ := List.mem_map.mp hn
    obtain ⟨i, hi, rfl⟩ := List.getElem_of_mem hr
    have := h30 i
    unfold lenR at this
    simpa [List.getD, hi] using this
  generalize hns : R.map List.length = ns at n30 ⊢
  have nl : ns.length = k := by rw [← hns]; simpa using hR
  have big := Nat.le_trans (allL_len n30) (pow31 (by omega : ns.length ≤ 4))
  -- the sizes
  have c1 := comp_run (st := st) (xs := tupsD R) (g := fun d => .int (rowOf d).length) (step := stepF [5] (.name 5) (evAll (callK L N) L.cs .nil) (evE (callK L N) L.cs (.bi .len (.cons (.var 5) .nil))) [some (.tup (tupsD R)), some (.ref c), none, none, none, none]) (fun x hx l => by
    obtain ⟨r, _, rfl⟩ := List.mem_map.mp hx
    simp [stepF_name, wipeE, cstep, rowOf]) (by simp only [tupsD, List.length_map, hR, LINE]; omega)
  have em : (tupsD R).map (fun d => D.int (rowOf d).length) = ns.map natD := by
    rw [← hns]
    unfold tupsD
    rw [List.map_map, List.map_map]
    rfl
  rw [em] at c1
  -- all
  have c2 := lall_run (ns := ns) (N := N) (st := st ++ [.lst (ns.map natD)]) (a := st.length) (by omega) (by omega) n30 (by simp)
  simp only [List.append_assoc, List.length_append, List.length_singleton, List.singleton_append] at c2
  -- the cuts
  have c3 := comp_fm0 (st := st ++ [.lst (ns.map natD), .lst ((allL ns).map clD)]) (n := st.length + 1) (ys := (allL ns).map clD) (xs := allL ns) (q := clD) (g := fun x => if isCut C x = true then some (clD x) else none) (step := stepF [3] (.name 3) (evAll (callK L N) L.cs (.cons (.call "_law_is_cut" (.cons (.var 1) (.cons (.var 3) .nil))) .nil)) (evE (callK L N) L.cs (.var 3)) [some (.tup (tupsD R)), some (.ref c), none, none, none, none]) (by simp) (fun x hx l => by
    obtain ⟨m1, m2⟩ := mem_allL.mp hx
    have le : ∀ p e, x[p]? = some e → p < k ∧ e ≤ lenR R p := fun p e h => by
      obtain ⟨n, h1, h2⟩ := m2 p e h
      rw [← hns, List.getElem?_map] at h1
      obtain ⟨r, h3, rfl⟩ := Option.map_eq_some_iff.mp h1
      refine ⟨by rw [← hR]; exact (List.getElem?_eq_some_iff.mp h3).1, ?_⟩
      unfold lenR
      rw [gd_at [] h3]; exact h2
    have ic := is_cut_run (N := N) (s := st ++ [.lst (ns.map natD), .lst ((allL ns).map clD)] ++ [.lst l]) (by omega) (by omega) hC hL.app.app (m1.trans nl) (fun p e h => by
      obtain ⟨h1, h2⟩ := le p e h
      rw [hr p h1]; omega) (fun p e h => by
      obtain ⟨h1, h2⟩ := le p e h
      exact hw p h1 e h2)
    simp only [List.append_assoc, List.cons_append, List.nil_append] at ic ⊢
    cases q : isCut C x <;> simp [stepF_name, wipeE, ic, q, cstep]) (by simp only [LINE]; omega)
  rw [fm_filter] at c3
  generalize hcs : (allL ns).filter (isCut C) = cs at c3
  have lcs : cs.length ≤ 923521 := by rw [← hcs]; exact Nat.le_trans (List.length_filter_le _ _) big
  have lcsL : cs.length ≤ LINE := by simp only [LINE]; omega
  -- the pairs
  have c4 := comp_fm0 (st := st ++ [.lst (ns.map natD), .lst ((allL ns).map clD), .lst (cs.map clD)]) (n := st.length + 2) (ys := cs.map clD) (xs := cs) (q := clD) (g := fun x => some (pairD x)) (step := stepF [3] (.name 3) (evAll (callK L N) L.cs .nil) (evE (callK L N) L.cs (.tup (.cons (.bi .sum (.cons (.var 3) .nil)) (.cons (.var 3) .nil)))) [some (.tup (tupsD R)), some (.ref c), some (.ref (st.length + 2)), none, none, none]) (by simp) (fun x hx l => by
    have e1 : intsD (x.map natD) = some (x.map fun n : Nat => (n : Int)) := by
      have := ints_map (x.map fun n : Nat => (n : Int))
      rw [List.map_map] at this
      exact this
    have sm : ∀ s, biop .sum [clD x] s = .ok (.int (x.map fun n : Nat => (n : Int)).sum) s := fun s => by
      unfold clD
      simp [biop, e1]
    simp [stepF_name, wipeE, sm, cstep, pairD]) lcsL
  rw [fm_some] at c4
  have so := sort_pairs (cs := cs)
  have ok := pairs_sort lcsL
  have c5 : biop .sorted [.ref (st.length + 3)] (st ++ [.lst (ns.map natD), .lst ((allL ns).map clD), .lst (cs.map clD), .lst (cs.map pairD)]) = .ok (.ref (st.length + 4)) (st ++ [.lst (ns.map natD), .lst ((allL ns).map clD), .lst (cs.map clD), .lst (cs.map pairD), .lst ((cs.mergeSort cutLe).map pairD)]) := by
    simp only [biop, sortItems]
    have : (st ++ [MO.lst (ns.map natD), .lst ((allL ns).map clD), .lst (cs.map clD), .lst (cs.map pairD)])[st.length + 3]? = some (.lst (cs.map pairD)) := by simp
    simp only [this, if_pos ok, so]
    simp
  have c6 := comp_fm0 (st := st ++ [.lst (ns.map natD), .lst ((allL ns).map clD), .lst (cs.map clD), .lst (cs.map pairD), .lst ((cs.mergeSort cutLe).map pairD)]) (n := st.length + 4) (ys := (cs.mergeSort cutLe).map pairD) (xs := cs.mergeSort cutLe) (q := pairD) (g := fun x => some (clD x)) (step := stepF [4] (.name 4) (evAll (callK L N) L.cs .nil) (evE (callK L N) L.cs (.idx (.var 4) (.int 1))) [some (.tup (tupsD R)), some (.ref c), some (.ref (st.length + 2)), none, none, none]) (by simp) (fun x hx l => by
    simp [stepF_name, wipeE, cstep, pairD]) (by rw [List.length_mergeSort]; exact lcsL)
  rw [fm_some] at c6
  have e1 := expR_ref (st := st ++ [.lst (ns.map natD), .lst ((allL ns).map clD)]) (n := st.length + 1) (xs := (allL ns).map clD) (by simp)
  have e2 := expR_ref (st := st ++ [.lst (ns.map natD), .lst ((allL ns).map clD), .lst (cs.map clD)]) (n := st.length + 2) (xs := cs.map clD) (by simp)
  have e3 := expR_ref (st := st ++ [.lst (ns.map natD), .lst ((allL ns).map clD), .lst (cs.map clD), .lst (cs.map pairD), .lst ((cs.mergeSort cutLe).map pairD)]) (n := st.length + 4) (xs := (cs.mergeSort cutLe).map pairD) (by simp)
  have g := gc_newk (st := st) (g := [.lst (ns.map natD), .lst ((allL ns).map clD), .lst (cs.map clD), .lst (cs.map pairD), .lst ((cs.mergeSort cutLe).map pairD), .lst ((cs.mergeSort cutLe).map clD)]) (j := 5) rfl (closed_map (f := clD) cl_closed _)
  have ec : cutsOf C ns = cs.mergeSort cutLe := by unfold cutsOf; rw [hcs]
  rw [ec]
  simp only [List.append_assoc, List.length_append, List.length_cons, List.length_nil, List.cons_append, List.nil_append] at c1 c2 c3 c4 c5 c6
  simp at c1 c2 c3 c4 c5 c6 e1 e2 e3
  simp [fd__law_cuts, startE, c1, c2, e1, c3, e2, c4, c5, e3, c6, g]
end
end Th

set_option linter.all false
set_option maxRecDepth 100000
set_option maxHeartbeats 2000000
/-! _law_way. -/
namespace Th
open PySem L2 Mi LL
def WS (st : Store) (S T : List Int) : Store := st ++ [.lst (S.map D.int), .lst (T.map D.int)]
def wayBody2 : Ss := (.cons (.iff (.cmp .eq (.idx (.var 5) (.int 0)) (.str "send"))
          (.cons (.expr (.mth .append (.var 2) (.cons (.idx (.var 5) (.int 1)) .nil)))
          .nil)
          .nil)
        (.cons (.iff (.cmp .eq (.idx (.var 5) (.int 0)) (.str "take"))
          (.cons (.expr (.mth .append (.var 3) (.cons (.idx (.var 5) (.int 1)) .nil)))
          .nil)
          .nil)
        .nil))
def wayBody : Ss := (.cons (.for (.name 5) (.exp (.slc (.idx (.var 0) (.var 4)) .none (.some (.idx (.var 1) (.var 4))))) wayBody2)
      .nil)
def evsTo (rows : List D) (cut : List Nat) (p : Nat) : List D := (evs rows p).take (cut.getD p 0)
def wayS (rows : List D) (cut : List Nat) : List Int := (List.range rows.length).flatMap fun p => (evsTo rows cut p).filterMap sendOf
def wayT (rows : List D) (cut : List Nat) : List Int := (List.range rows.length).flatMap fun p => (evsTo rows cut p).filterMap takeOf
def wayOf (rows : List D) (cut : List Nat) : Int := (((wayS rows cut).filter fun l => !decide (l ∈ wayT rows cut)).length : Int)
theorem fm_le {α β : Type} {f : α → List β} {c : Nat} : ∀ {xs : List α}, (∀ x ∈ xs, (f x).length ≤ c) → (xs.flatMap f).length ≤ xs.length * c
  | [], _ => by simp
  | x :: xs, h => by
    have h1 := h x List.mem_cons_self
    have h2 := fm_le (xs := xs) fun y hy => h y (List.mem_cons_of_mem _ hy)
    rw [List.flatMap_cons, List.length_append, List.length_cons, Nat.add_mul, Nat.one_mul]
    omega
theorem notin_ints {s : Store} {j : Nat} {ns : List Int} {l : Int} (h : s[j]? = some (.lst (ns.map D.int))) : cmpop .notin (.int l) (.ref j) s = .ok (.bl (!decide (l ∈ ns))) s := by
  have h1 := in_ints (l := l) h
  simp only [cmpop] at h1 ⊢
  cases e : inD s (.int l) (.ref j) with
  | none => rw [e] at h1; simp [resB] at h1
  | some b =>
    rw [e] at h1
    simp [resB] at h1
    subst h1
    simp [resB]
section
variable {st : Store} {N : Nat}
theorem ws_0 {S T : List Int} : (WS st S T)[st.length]? = some (.lst (S.map D.int)) := by simp [WS]
theorem ws_1 {S T : List Int} : (WS st S T)[st.length + 1]? = some (.lst (T.map D.int)) := by simp [WS]
theorem ws_s {S T : List Int} {i : Int} (h : S.length < 1000) : mthop .append (.ref st.length) [.int i] (WS st S T) = .ok .non (WS st (S ++ [i]) T) := by
  rw [append_run ws_0 (by simp only [List.length_map, LINE]; omega)]
  simp [WS]
theorem ws_t {S T : List Int} {i : Int} (h : T.length < 1000) : mthop .append (.ref (st.length + 1)) [.int i] (WS st S T) = .ok .non (WS st S (T ++ [i])) := by
  rw [append_run ws_1 (by simp only [List.length_map, LINE]; omega)]
  simp [WS]
theorem way_in {r cu b4 b6 : Option D} : ∀ {es : List D} {S T : List Int} {b5 : Option D}, (∀ e ∈ es, isEventD e = true) → S.length + es.length < 1000 → T.length + es.length < 1000 →
    ∃ b5', forL (bodyF (.name 5) (evSs (callK L N) L.cs L.sub L.wf wayBody2)) none es [r, cu, some (.ref st.length), some (.ref (st.length + 1)), b4, b5, b6] (WS st S T) = .nx [r, cu, some (.ref st.length), some (.ref (st.length + 1)), b4, b5', b6] (WS st (S ++ es.filterMap sendOf) (T ++ es.filterMap takeOf))
  | [], S, T, b5, _, _, _ => ⟨b5, by rw [forL_nil]; simp⟩
  | e :: es, S, T, b5, he, hS, hT => by
    simp only [List.length_cons] at hS hT
    have he' := fun x hx => he x (List.mem_cons_of_mem _ hx)
    rcases ev_kind (he e List.mem_cons_self) with ⟨c, rfl, t0, s0⟩ | ⟨l, c, rfl, t0, s0⟩ | ⟨l, c, rfl, t0, s0⟩
    · obtain ⟨b, ih⟩ := way_in (es := es) (S := S) (T := T) (b5 := some (.tup [.str "step", c])) he' (by omega) (by omega)
      refine ⟨b, ?_⟩
      have s1 : bodyF (.name 5) (evSs (callK L N) L.cs L.sub L.wf wayBody2) (.tup [.str "step", c]) [r, cu, some (.ref st.length), some (.ref (st.length + 1)), b4, b5, b6] (WS st S T) = .nx [r, cu, some (.ref st.length), some (.ref (st.length + 1)), b4, some (.tup [.str "step", c]), b6] (WS st S T) := by
        rw [bodyF_name]
        simp [wayBody2, eq_str ok_step ok_send, eq_str ok_step ok_take]
      rw [forL_nx s1, ih]
      simp [List.filterMap_cons, t0, s0]
    · obtain ⟨b, ih⟩ := way_in (es := es) (S := S ++ [l]) (T := T) (b5 := some (.tup [.str "send", .int l, c])) he' (by simp; omega) (by omega)
      refine ⟨b, ?_⟩
      have s1 : bodyF (.name 5) (evSs (callK L N) L.cs L.sub L.wf wayBody2) (.tup [.str "send", .int l, c]) [r, cu, some (.ref st.length), some (.ref (st.length + 1)), b4, b5, b6] (WS st S T) = .nx [r, cu, some (.ref st.length), some (.ref (st.length + 1)), b4, some (.tup [.str "send", .int l, c]), b6] (WS st (S ++ [l]) T) := by
        rw [bodyF_name]
        simp [wayBody2, eq_str ok_send ok_send, eq_str ok_send ok_take, recv_app ws_0, ws_s (show S.length < 1000 by omega)]
      rw [forL_nx s1, ih]
      simp [List.filterMap_cons, t0, s0]
    · obtain ⟨b, ih⟩ := way_in (es := es) (S := S) (T := T ++ [l]) (b5 := some (.tup [.str "take", .int l, c])) he' (by omega) (by simp; omega)
      refine ⟨b, ?_⟩
      have s1 : bodyF (.name 5) (evSs (callK L N) L.cs L.sub L.wf wayBody2) (.tup [.str "take", .int l, c]) [r, cu, some (.ref st.length), some (.ref (st.length + 1)), b4, b5, b6] (WS st S T) = .nx [r, cu, some (.ref st.length), some (.ref (st.length + 1)), b4, some (.tup [.str "take", .int l, c]), b6] (WS st S (T ++ [l])) := by
        rw [bodyF_name]
        simp [wayBody2, eq_str ok_take ok_send, eq_str ok_take ok_take, recv_app ws_1, ws_t (show T.length < 1000 by omega)]
      rw [forL_nx s1, ih]
      simp [List.filterMap_cons, t0, s0]
theorem evs_all {rows : List D} (ha : ∀ d ∈ rows, isProcD d = true) {p : Nat} : (∀ x ∈ evs rows p, isEventD x = true) ∧ (evs rows p).length ≤ 30 := by
  rcases Nat.lt_or_ge p rows.length with hp | hp
  · obtain ⟨ys, e1, h2, h3⟩ := proc_ev (ha _ (List.getElem_mem hp))
    have : evs rows p = ys := by rw [evs_at (List.getElem?_eq_getElem hp), e1]; rfl
    rw [this]
    exact ⟨h3, h2⟩
  · have : evs rows p = [] := by
      unfold evs
      simp [List.getD, List.getElem?_eq_none hp, rowOf]
    rw [this]
    exact ⟨fun x hx => (by cases hx), Nat.zero_le _⟩
theorem way_run (hN : 1 ≤ N) {rows : List D} (ha : ∀ d ∈ rows, isProcD d = true) (h6 : rows.length ≤ 6) {cut : List Nat} (hl : cut.length = rows.length) : callK L N "_law_way" [.tup rows, clD cut] st = .ok (.int (wayOf rows cut)) st := by
  obtain ⟨N, rfl, hM⟩ := pred_ hN
  rw [call_open fn__law_way rfl]
  have lt : ∀ p, (evsTo rows cut p).length ≤ 30 := fun p => by
    unfold evsTo
    rw [List.length_take]
    have := (evs_all ha (p := p)).2
    omega
  have lS : (wayS rows cut).length ≤ 180 := by
    have := fm_le (c := 30) (xs := List.range rows.length) (f := fun p => (evsTo rows cut p).filterMap sendOf) fun p _ => Nat.le_trans (List.length_filterMap_le _ _) (lt p)
    rw [List.length_range] at this
    unfold wayS
    omega
  have lT : (wayT rows cut).length ≤ 180 := by
    have := fm_le (c := 30) (xs := List.range rows.length) (f := fun p => (evsTo rows cut p).filterMap takeOf) fun p _ => Nat.le_trans (List.length_filterMap_le _ _) (lt p)
    rw [List.length_range] at this
    unfold wayT
    omega
  obtain ⟨e', s', h1, b4, b5, S, T, h2, h3, h4, h5, _⟩ := for_indm (gd := none) (q := fun p : Nat => D.int p) (step := bodyF (.name 4) (evSs (callK L N) L.cs L.sub L.wf wayBody)) (fun (ps : List Nat) env s => ∃ b4 b5 S T, env = [some (.tup rows), some (clD cut), some (.ref st.length), some (.ref (st.length + 1)), b4, b5, none] ∧ s = WS st S T ∧ S ++ (ps.flatMap fun p => (evsTo rows cut p).filterMap sendOf) = wayS rows cut ∧ T ++ (ps.flatMap fun p => (evsTo rows cut p).filterMap takeOf) = wayT rows cut ∧ ∀ p ∈ ps, p < rows.length) (fun _ _ _ _ => trivial) (by
    rintro p ps _ _ ⟨b4, b5, S, T, rfl, rfl, k1, k2, k3⟩
    have hp := k3 p List.mem_cons_self
    have l1 := congrArg List.length k1
    have l2 := congrArg List.length k2
    rw [List.length_append] at l1 l2
    obtain ⟨b5', lp⟩ := way_in (N := N) (st := st) (r := some (.tup rows)) (cu := some (clD cut)) (b4 := some (.int p)) (b6 := none) (b5 := b5) (es := evsTo rows cut p) (S := S) (T := T) (fun x hx => (evs_all ha).1 x (List.mem_of_mem_take hx)) (by have := lt p; omega) (by have := lt p; omega)
    refine ⟨[some (.tup rows), some (clD cut), some (.ref st.length), some (.ref (st.length + 1)), some (.int p), b5', none], WS st (S ++ (evsTo rows cut p).filterMap sendOf) (T ++ (evsTo rows cut p).filterMap takeOf), ?_, some (.int p), b5', _, _, rfl, rfl, by rw [← k1, List.flatMap_cons, List.append_assoc], by rw [← k2, List.flatMap_cons, List.append_assoc], fun x hx => k3 x (List.mem_cons_of_mem _ hx)⟩
    have e1 : clD cut = .tup (cut.map natD) := rfl
    have cp : cut[p]? = some (cut.getD p 0) := getD_some (by omega) 0
    have ep := evs_tup ha hp
    unfold evsTo at lp ⊢
    generalize cut.getD p 0 = w at cp lp ⊢
    rw [e1] at lp ⊢
    rw [bodyF_name]
    simp [wayBody, atI_nat', ep, cp, natD, cutG_take]
    rw [lp]
    rfl) (xs := List.range rows.length) (e := [some (.tup rows), some (clD cut), some (.ref st.length), some (.ref (st.length + 1)), none, none, none]) (s := WS st [] []) ⟨none, none, [], [], rfl, rfl, rfl, rfl, fun p hp => List.mem_range.mp hp⟩
  rw [List.flatMap_nil, List.append_nil] at h4 h5
  subst h2 h3 h4 h5
  have sm : small62 (rows.length : Int) := ⟨by omega, by omega⟩
  have er := expR_ref (st := WS st (wayS rows cut) (wayT rows cut)) ws_0
  have lc := comp_fm0 (st := WS st (wayS rows cut) (wayT rows cut)) (n := st.length) (q := D.int) (xs := wayS rows cut) (g := fun l => if (!decide (l ∈ wayT rows cut)) = true then some (.int l) else none) (step := stepF [6] (.name 6) (evAll (callK L N) L.cs (.cons (.cmp .notin (.var 6) (.var 3)) .nil)) (evE (callK L N) L.cs (.var 6)) [some (.tup rows), some (clD cut), some (.ref st.length), some (.ref (st.length + 1)), b4, b5, none]) ws_0 (fun l hl m => by
    have ni := notin_ints (l := l) (get_app (g := [.lst m]) (ws_1 (st := st) (S := wayS rows cut) (T := wayT rows cut)))
    by_cases q : l ∈ wayT rows cut <;> simp [stepF_name, wipeE, ni, cstep, q]) (by simp only [LINE]; omega)
  rw [fm_filter] at lc
  have w0 : st ++ [MO.lst [], .lst []] = WS st [] [] := rfl
  have fb : fd__law_way.body = .cons (.set 2 (.lst .nil)) (.cons (.set 3 (.lst .nil)) (.cons (.for (.name 4) (.rng1 (.bi .len (.cons (.var 0) .nil))) wayBody) (.cons (.ret (.bi .len (.cons (.lc [("letter", 6)] (.name 6) (.exp (.var 2)) (.cons (.cmp .notin (.var 6) (.var 3)) .nil) (.var 6)) .nil))) .nil))) := rfl
  rw [fb]
  simp [startE, fd__law_way, rng1R_ok sm, w0, range_nat]
  rw [h1]
  simp [er]
  rw [lc]
  simp
  unfold WS wayOf
  rw [List.append_assoc, gc_app_int]
end
end Th

set_option linter.all false
set_option maxRecDepth 100000
set_option maxHeartbeats 2000000
/-! At a cut the letters sent and not taken are as many as the sends less the takes. -/
namespace Th
open PySem L2 Mi LL
theorem bal_from : ∀ {es : List D} {b : Int}, (∀ e ∈ es, isEventD e = true) → es.foldl blStep b = b + (es.filterMap sendOf).length - (es.filterMap takeOf).length
  | [], b, _ => by simp
  | e :: es, b, h => by
    rw [List.foldl_cons, bal_from fun x hx => h x (List.mem_cons_of_mem _ hx)]
    rcases ev_kind (h e List.mem_cons_self) with ⟨c, rfl, t0, s0⟩ | ⟨l, c, rfl, t0, s0⟩ | ⟨l, c, rfl, t0, s0⟩
    · simp [List.filterMap_cons, blStep, t0, s0]
    · simp [List.filterMap_cons, blStep, t0, s0]; omega
    · simp [List.filterMap_cons, blStep, t0, s0]; omega
theorem bals_range {rows : List D} : ∀ {cut : List Nat} {j : Nat}, balsL rows j cut = (List.range cut.length).map fun p => balOf ((evs rows (j + p)).take (cut.getD p 0))
  | [], j => rfl
  | e :: cut, j => by
    rw [balsL, bals_range, List.length_cons, List.range_succ_eq_map, List.map_cons, List.map_map]
    congr 1
    refine List.map_congr_left fun p _ => ?_
    simp only [Function.comp, List.getD_cons_succ]
    rw [show j + 1 + p = j + p.succ by omega]
theorem bal_sum {h : Nat → List D} : ∀ {ps : List Nat}, (∀ p ∈ ps, ∀ e ∈ h p, isEventD e = true) → (ps.map fun p => balOf (h p)).sum = ((ps.flatMap fun p => (h p).filterMap sendOf).length : Int) - ((ps.flatMap fun p => (h p).filterMap takeOf).length : Int)
  | [], _ => by simp
  | p :: ps, hh => by
    have ih := bal_sum (h := h) (ps := ps) fun x hx => hh x (List.mem_cons_of_mem _ hx)
    have b := bal_from (b := 0) (hh p List.mem_cons_self)
    change balOf (h p) = _ at b
    simp only [List.map_cons, List.sum_cons, List.flatMap_cons, List.length_append, ih, b]
    omega
theorem und_len {rows : List D} {cut : List Nat} (ha : ∀ d ∈ rows, isProcD d = true) (hl : cut.length = rows.length) : undOf rows cut = ((wayS rows cut).length : Int) - ((wayT rows cut).length : Int) := by
  have e : undOf rows cut = ((List.range rows.length).map fun p => balOf (evsTo rows cut p)).sum := by
    unfold undOf
    rw [bals_range, hl]
    congr 1
    refine List.map_congr_left fun p _ => ?_
    unfold evsTo
    rw [Nat.zero_add]
  rw [e, bal_sum (h := evsTo rows cut) fun p _ e he => (evs_all ha).1 e (List.mem_of_mem_take he)]
  rfl
theorem sub_fm {α β : Type} {f g : α → List β} : ∀ {xs : List α}, (∀ x ∈ xs, (f x).Sublist (g x)) → (xs.flatMap f).Sublist (xs.flatMap g)
  | [], _ => by simp
  | x :: xs, h => by
    rw [List.flatMap_cons, List.flatMap_cons]
    exact (h x List.mem_cons_self).append (sub_fm fun y hy => h y (List.mem_cons_of_mem _ hy))
theorem nodup_of_map {α β : Type} {f : α → β} {l : List α} (h : (l.map f).Nodup) : l.Nodup := by
  unfold List.Nodup at h ⊢
  rw [List.pairwise_map] at h
  exact h.imp fun {a b} n e => n (by rw [e])
theorem marks_range {rows : List D} : marksAll rows = (List.range rows.length).flatMap fun p => marksOf (evs rows p) := by
  have e : rows = (List.range rows.length).map fun p => rows.getD p .non := by
    refine List.ext_getElem? fun i => ?_
    rw [List.getElem?_map]
    by_cases h : i < rows.length
    · rw [List.getElem?_range h, getD_some h .non]; rfl
    · rw [List.getElem?_eq_none (by omega), List.getElem?_eq_none (l := List.range rows.length) (by rw [List.length_range]; omega)]; rfl
  unfold marksAll
  conv => lhs; rw [e]
  rw [List.flatMap_map]
  rfl
theorem sub_mark {w : Str} {f : D → Option Int} (hf : ∀ e l, f e = some l → markOf e = some (w, l)) : ∀ {es : List D}, ((es.filterMap f).map fun l => (w, l)).Sublist (marksOf es)
  | [] => by simp [marksOf]
  | e :: es => by
    have ih := sub_mark hf (es := es)
    unfold marksOf at ih ⊢
    rw [List.filterMap_cons, List.filterMap_cons]
    cases h : f e with
    | some l =>
      rw [hf e l h]
      exact ih.cons_cons _
    | none =>
      cases markOf e with
      | none => exact ih
      | some m => exact ih.cons _
theorem marks_nodup {rows : List D} (r : (marksAll rows).Nodup) {w : Str} {f : D → Option Int} (hf : ∀ e l, f e = some l → markOf e = some (w, l)) {cut : List Nat} : ((List.range rows.length).flatMap fun p => (evsTo rows cut p).filterMap f).Nodup := by
  refine nodup_of_map (f := fun l : Int => (w, l)) (List.Sublist.nodup ?_ r)
  rw [marks_range, List.map_flatMap]
  refine sub_fm fun p _ => (sub_mark hf).trans ?_
  exact (List.take_sublist _ _).filterMap _
theorem zmax {a b : List Nat} (h : a.length = b.length) (q : Nat) : (List.zipWith max a b).getD q 0 = max (a.getD q 0) (b.getD q 0) := by
  simp only [List.getD]
  rw [List.getElem?_zipWith]
  by_cases hq : q < a.length
  · have h1 : a[q]? = some a[q] := List.getElem?_eq_getElem hq
    have h2 : b[q]? = some (b[q]'(by omega)) := List.getElem?_eq_getElem (by omega)
    rw [h1, h2]; rfl
  · have h1 : a[q]? = none := List.getElem?_eq_none (by omega)
    have h2 : b[q]? = none := List.getElem?_eq_none (by omega)
    rw [h1, h2]; rfl
theorem set_getD {a : List Nat} {p q v : Nat} : (a.set p v).getD q 0 = if q = p ∧ p < a.length then v else a.getD q 0 := by
  simp only [List.getD]
  by_cases h : q = p
  · subst h
    by_cases h2 : q < a.length
    · rw [List.getElem?_set_self h2, if_pos ⟨rfl, h2⟩]; rfl
    · rw [if_neg (fun z => h2 z.2), List.getElem?_eq_none (by simp; omega), List.getElem?_eq_none (by omega)]
  · rw [List.getElem?_set_ne (Ne.symm h), if_neg (fun z => h z.1)]
section
variable {k m n : Nat} {R : Rws} {C : Clk} {F : List (Int × Nat × Nat)}
theorem ev_there {p i : Nat} (h : i < lenR R p) : ∃ e, evAt (tupsD R) p i = some e := by
  rw [evAt_tups]
  exact ⟨_, List.getElem?_eq_getElem h⟩
/-- a clock's own place -/
theorem MadeOk.own (ok : MadeOk k m R C n F) {p : Nat} (hp : p < k) {i : Nat} (hi : i ≤ lenR R p) : (cl C p i).getD p 0 = i := by
  cases i with
  | zero =>
    rw [ok.zero p hp]
    unfold zerosL
    rw [rep_getD hp]
  | succ i =>
    obtain ⟨e, he⟩ := ev_there (R := R) (p := p) (i := i) (by omega)
    obtain ⟨r1, r2⟩ := ok.rec_ p i e he
    have w := ok.wid p hp i (by omega)
    cases t : takeOf e with
    | none => rw [r1 t, set_getD, if_pos ⟨rfl, by omega⟩]
    | some l =>
      obtain ⟨q, j, _, h2, h3, _, h4⟩ := r2 l t
      have w2 := ok.wid q h2 j h3
      rw [h4, set_getD, if_pos ⟨rfl, by rw [List.length_zipWith]; omega⟩]
theorem MadeOk.step_le (ok : MadeOk k m R C n F) {p : Nat} (hp : p < k) {i : Nat} (hi : i < lenR R p) (q : Nat) : (cl C p i).getD q 0 ≤ (cl C p (i + 1)).getD q 0 := by
  obtain ⟨e, he⟩ := ev_there hi
  by_cases hq : q = p
  · subst hq
    rw [ok.own hp hi, ok.own hp (Nat.le_of_lt hi)]
    omega
  · obtain ⟨r1, r2⟩ := ok.rec_ p i e he
    have w := ok.wid p hp i (by omega)
    cases t : takeOf e with
    | none => rw [r1 t, set_getD, if_neg (fun z => hq z.1)]; exact Nat.le_refl _
    | some l =>
      obtain ⟨a, j, _, h2, h3, _, h4⟩ := r2 l t
      have w2 := ok.wid a h2 j h3
      rw [h4, set_getD, if_neg (fun z => hq z.1), zmax (by omega)]
      exact Nat.le_max_left _ _
theorem MadeOk.mono (ok : MadeOk k m R C n F) {p : Nat} (hp : p < k) {i : Nat} (q : Nat) : ∀ d, i + d ≤ lenR R p → (cl C p i).getD q 0 ≤ (cl C p (i + d)).getD q 0
  | 0, _ => Nat.le_refl _
  | d + 1, h => Nat.le_trans (MadeOk.mono ok hp q d (by omega)) (ok.step_le hp (i := i + d) (by omega) q)
/-- what is taken in a cut is sent in it -/
theorem MadeOk.sent (ok : MadeOk k m R C n F) {cut : List Nat} (hl : cut.length = k) (hr : ∀ p, p < k → cut.getD p 0 ≤ lenR R p) (hc : isCut C cut = true) {l : Int} (h : l ∈ wayT (tupsD R) cut) : l ∈ wayS (tupsD R) cut := by
  have tl : (tupsD R).length = k := by rw [tupsD, List.length_map]; exact ok.grow.len
  obtain ⟨p, hp, h1⟩ := List.mem_flatMap.mp h
  have hp' : p < k := by rw [← tl]; exact List.mem_range.mp hp
  obtain ⟨e, he, ht⟩ := List.mem_filterMap.mp h1
  obtain ⟨i, hi, hie⟩ := List.getElem_of_mem he
  have hie' : (evsTo (tupsD R) cut p)[i]? = some e := by rw [List.getElem?_eq_getElem hi, hie]
  have hlen : i < cut.getD p 0 := by
    unfold evsTo at hi
    rw [List.length_take] at hi
    omega
  unfold evsTo at hie'
  rw [List.getElem?_take, if_pos hlen] at hie'
  have ea : evAt (tupsD R) p i = some e := by rw [evAt_evs]; exact hie'
  obtain ⟨q, j, ⟨s1, z, s2⟩, h2, h3, h5, h4⟩ := (ok.rec_ p i e ea).2 l ht
  have cp := hr p hp'
  have w := ok.wid p hp' i (by omega)
  have w2 := ok.wid q h2 j h3
  have j1 : j ≤ (cl C p (i + 1)).getD q 0 := by
    by_cases hq : q = p
    · have := h5 hq
      subst hq
      rw [ok.own h2 (by omega)]
      omega
    · rw [h4, set_getD, if_neg (fun z => hq z.1), zmax (by omega), ok.own h2 h3]
      exact Nat.le_max_right _ _
  have j2 := ok.mono hp' (i := i + 1) q (cut.getD p 0 - (i + 1)) (by omega)
  rw [show i + 1 + (cut.getD p 0 - (i + 1)) = cut.getD p 0 by omega] at j2
  have j3 : (cl C p (cut.getD p 0)).getD q 0 ≤ cut.getD q 0 := by
    unfold isCut at hc
    rw [List.all_eq_true] at hc
    have h6 := hc p (List.mem_range.mpr (by omega))
    rw [List.all_eq_true] at h6
    exact of_decide_eq_true (h6 q (List.mem_range.mpr (by omega)))
  refine List.mem_flatMap.mpr ⟨q, List.mem_range.mpr (by omega), List.mem_filterMap.mpr ⟨_, ?_, (show sendOf (.tup [.str "send", .int l, z]) = some l from rfl)⟩⟩
  have eb : (evs (tupsD R) q)[j - 1]? = some (.tup [.str "send", .int l, z]) := by rw [← evAt_evs]; exact s2
  have ec : (evsTo (tupsD R) cut q)[j - 1]? = some (.tup [.str "send", .int l, z]) := by
    unfold evsTo
    rw [List.getElem?_take, if_pos (by omega)]
    exact eb
  exact List.mem_of_getElem? ec
theorem count_out {S T : List Int} (hS : S.Nodup) (hT : T.Nodup) (h : ∀ l ∈ T, l ∈ S) : ((S.filter fun l => !decide (l ∈ T)).length : Int) = (S.length : Int) - (T.length : Int) := by
  have p : (S.filter fun l => decide (l ∈ T)).Perm T := by
    refine (List.perm_ext_iff_of_nodup (hS.filter _) hT).mpr fun a => ?_
    rw [List.mem_filter]
    exact ⟨fun z => of_decide_eq_true z.2, fun z => ⟨h a z, decide_eq_true z⟩⟩
  have e := p.length_eq
  have f : S.length = (S.filter fun l => decide (l ∈ T)).length + (S.filter fun l => !decide (l ∈ T)).length := by
    clear p e h hS
    induction S with
    | nil => rfl
    | cons a S ih =>
      rw [List.filter_cons, List.filter_cons, List.length_cons, ih]
      by_cases q : a ∈ T <;> simp [q] <;> omega
  omega
theorem way_eq (ok : MadeOk k m R C n F) {cut : List Nat} (hl : cut.length = k) (hr : ∀ p, p < k → cut.getD p 0 ≤ lenR R p) (hc : isCut C cut = true) (ha : ∀ d ∈ tupsD R, isProcD d = true) (hm : (marksAll (tupsD R)).Nodup) : undOf (tupsD R) cut = wayOf (tupsD R) cut := by
  have tl : (tupsD R).length = k := by rw [tupsD, List.length_map]; exact ok.grow.len
  rw [und_len ha (by rw [tl]; exact hl)]
  unfold wayOf
  exact (count_out (S := wayS (tupsD R) cut) (T := wayT (tupsD R) cut) (marks_nodup hm fun e l => send_mark) (marks_nodup hm fun e l => take_mark) fun l h => ok.sent hl hr hc h).symm
end
end Th

set_option linter.all false
set_option maxRecDepth 100000
set_option maxHeartbeats 2000000
/-! The law of states and letters. -/
namespace Th
open PySem L2 Mi LL
def stBodyL : Ss := (.cons (.set 8 (.call "_law_state" (.cons (.var 4) (.cons (.var 2) (.cons (.var 6) .nil)))))
        (.cons (.iff (.cmp .ne (.omth "state" (.var 1) (.cons (.var 2) (.cons (.var 6) .nil))) (.tup (.cons (.dget (.var 8) (.str "a")) (.cons (.dget (.var 8) (.str "b")) (.cons (.dget (.var 8) (.str "c")) (.cons (.dget (.var 8) (.str "d")) .nil))))))
          (.cons (.ret (.bl false))
          .nil)
          .nil)
        .nil))
def stBodyO : Ss := (.cons (.for (.name 6) (.rng1 (.bin .add (.bi .len (.cons (.idx (.var 4) (.var 2)) .nil)) (.int 1))) stBodyL)
      .nil)
def cutBody : Ss := (.cons (.set 7 (.omth "under_way" (.var 1) (.cons (.var 3) .nil)))
      (.cons (.iff (.or (.cons (.isin (.var 7) "bool") (.cons (.cmp .ne (.var 7) (.call "_law_way" (.cons (.var 4) (.cons (.var 3) .nil)))) .nil)))
        (.cons (.ret (.bl false))
        .nil)
        .nil)
      .nil))
section
variable {S0 : Store} {o a b c d N : Nat} {rows : List D} {x0 x5 : Option D}
theorem st_turn (hN : 3 ≤ N) (h : OrdAt S0 o rows a b c d) (ha : ∀ d ∈ rows, isProcD d = true) {p e : Nat} (hp : p < rows.length) (he : e ≤ (evs rows p).length) {g : Store} {x3 x6 x7 x8 : Option D} :
    ∃ x8' g', bodyF (.name 6) (evSs (callK L N) L.cs L.sub L.wf stBodyL) (.int e) [x0, some (.ref o), some (.int p), x3, some (.tup rows), x5, x6, x7, x8] (S0 ++ g) = .nx [x0, some (.ref o), some (.int p), x3, some (.tup rows), x5, some (.int e), x7, x8'] (S0 ++ g') := by
  have l1 := lst_run (N := N) (st := S0 ++ g) (by omega) ha (e := e) hp
  have oa : OrdAt (S0 ++ g ++ [STD (stateOf ((evs rows p).take e))]) o rows a b c d := h.app.app
  obtain ⟨N, rfl, _⟩ : ∃ M, N = M + 3 ∧ 0 ≤ M := ⟨N - 3, by omega, by omega⟩
  have s1 := state_run (N := N) oa ha hp he
  have at8 : (S0 ++ g ++ [STD (stateOf ((evs rows p).take e))])[(S0 ++ g).length]? = some (STD (stateOf ((evs rows p).take e))) := get_last
  have g0 := std_get at8 (i := 0) (by decide)
  have g1 := std_get at8 (i := 1) (by decide)
  have g2 := std_get at8 (i := 2) (by decide)
  have g3 := std_get at8 (i := 3) (by decide)
  obtain ⟨v0, v1, v2, v3, ev⟩ := four (state_len ((evs rows p).take e))
  rw [ev] at l1 oa s1 g0 g1 g2 g3
  have nbv : nb (stD [v0, v1, v2, v3]) = true := nb_ints [v0, v1, v2, v3]
  have dv : dep (stD [v0, v1, v2, v3]) ≤ 64 := Nat.le_trans (dep_tup (k := 0) fun x hx => by
    obtain ⟨i, _, rfl⟩ := List.mem_map.mp hx
    simp) (by omega)
  have ne := ne_nb (st := S0 ++ g ++ [STD [v0, v1, v2, v3]]) nbv nbv dv dv
  rw [decide_eq_true rfl] at ne
  have es : stD [v0, v1, v2, v3] = .tup [.int v0, .int v1, .int v2, .int v3] := rfl
  rw [es] at s1 ne
  have io := oa.ins
  refine ⟨some (.ref (S0 ++ g).length), g ++ [STD [v0, v1, v2, v3]], ?_⟩
  rw [← List.append_assoc]
  generalize hS : S0 ++ g ++ [STD [v0, v1, v2, v3]] = S at *
  change dgetop _ (.str (Str.ofString "a")) _ = .ok (.int v0) S at g0
  change dgetop _ (.str (Str.ofString "b")) _ = .ok (.int v1) S at g1
  change dgetop _ (.str (Str.ofString "c")) _ = .ok (.int v2) S at g2
  change dgetop _ (.str (Str.ofString "d")) _ = .ok (.int v3) S at g3
  generalize (S0 ++ g).length = n8 at *
  rw [bodyF_name]
  simp [stBodyL, l1, io, s1, g0, g1, g2, g3, ne]
theorem cut_turn (hN : 3 ≤ N) (h : OrdAt S0 o rows a b c d) (ha : ∀ d ∈ rows, isProcD d = true) (h6 : rows.length ≤ 6) {cut : List Nat} (hl : cut.length = rows.length) (he : ∀ p e, cut[p]? = some e → e ≤ (evs rows p).length) (eq : undOf rows cut = wayOf rows cut) {x2 x3 x6 x7 x8 : Option D} :
    bodyF (.name 3) (evSs (callK L N) L.cs L.sub L.wf cutBody) (clD cut) [x0, some (.ref o), x2, x3, some (.tup rows), x5, x6, x7, x8] S0 = .nx [x0, some (.ref o), x2, some (clD cut), some (.tup rows), x5, x6, some (.int (wayOf rows cut)), x8] S0 := by
  obtain ⟨N, rfl, _⟩ : ∃ M, N = M + 3 ∧ 0 ≤ M := ⟨N - 3, by omega, by omega⟩
  have u := under_run (N := N) h ha hl h6 he
  have w := way_run (N := N + 3) (st := S0) (by omega) ha h6 hl
  rw [eq] at u
  rw [bodyF_name]
  simp [cutBody, h.ins, u, w]
end
theorem small_facts {k m n : Nat} {R : Rws} {C : Clk} {F : List (Int × Nat × Nat)} (h : MadeC k m R C n F) (hk : SmallKM k m) : MadeOk k m R C n F ∧ 1 ≤ k ∧ k ≤ 4 ∧ m ≤ 5 ∧ (∀ st, Wf st (.tup (tupsD R))) ∧ (marksAll (tupsD R)).length ≤ 62 ∧ RunOk (tupsD R) ∧ (tupsD R).length = k := by
  have km : 1 ≤ k ∧ k ≤ 4 ∧ m ≤ 5 ∧ m * k ≤ 20 := by
    rcases hk with ⟨rfl, rfl⟩ | ⟨rfl, rfl⟩ | ⟨rfl, rfl⟩ | ⟨rfl, rfl⟩ <;> omega
  obtain ⟨k1, k4, m5, mk⟩ := km
  have ok := h.ok (by rw [Nat.mul_comm]; omega)
  have lm : ∀ r ∈ R, r.length ≤ m := fun r hr => by
    obtain ⟨i, hi, rfl⟩ := List.getElem_of_mem hr
    have := ok.short i
    unfold lenR at this
    simpa [List.getD, hi] using this
  have ro := ok.grow.run k1 (by omega) fun r hr => Nat.le_trans (lm r hr) (by omega)
  have er : EvRows k m R := ⟨ok.grow.len, fun r hr => ⟨lm r hr, ok.grow.ok.ev r hr⟩⟩
  refine ⟨ok, k1, k4, m5, fun st => evrows_wf (by omega) (by omega) er st, ?_, ro, by rw [tupsD, List.length_map]; exact ok.grow.len⟩
  have := marks_le (rows := tupsD R)
  have := evrows_total er
  omega
theorem evs_tups {R : Rws} {p : Nat} : evs (tupsD R) p = R.getD p [] := by
  unfold evs tupsD
  simp only [List.getD]
  rw [List.getElem?_map]
  cases R[p]? <;> rfl
theorem law_kept : Kept L 41 := by
  intro ns hns
  obtain ⟨k, m, R, C, n, F, c, s', h1, hk, h2, h3, _, _⟩ := small_run (st := []) (N := 40) (by omega) hns
  obtain ⟨ok, k1, k4, m5, wf, mk, ro, tl⟩ := small_facts h2 hk
  have io := init_good (n := 40) (by omega) (wf s') mk ro
  have oa := ordS_at (st := s') (rows := tupsD R)
  have lc : Ls (ordS s' (tupsD R)) c (clkD C) := by unfold ordS; exact h3.app
  have so : s' ++ [MO.ins "Order" []] = s' ++ [MO.ins "Order" []] := rfl
  generalize hS0 : ordS s' (tupsD R) = S0 at io oa lc
  have ha := ro.ev
  -- the states
  obtain ⟨e1, s1, f1, x2, x6, x8, g, rfl, rfl, _⟩ := for_indm (gd := none) (q := fun p : Nat => D.int p) (step := bodyF (.name 2) (evSs (callK L 40) L.cs L.sub L.wf stBodyO)) (fun (ps : List Nat) env s => ∃ x2 x6 x8 g, env = [some (.fl (ns.map D.int)), some (.ref s'.length), x2, none, some (.tup (tupsD R)), some (.ref c), x6, none, x8] ∧ s = S0 ++ g ∧ ∀ p ∈ ps, p < (tupsD R).length) (fun _ _ _ _ => trivial) (by
    rintro p ps _ _ ⟨x2, x6, x8, g, rfl, rfl, hp⟩
    have hp' := hp p List.mem_cons_self
    have et := evs_tup ha hp'
    have l30 := (evs_all ha (p := p)).2
    have sm : small62 (((evs (tupsD R) p).length : Int) + 1) := ⟨by omega, by omega⟩
    obtain ⟨e2, s2, f2, y6, y8, g2, rfl, rfl, _⟩ := for_indm (gd := none) (q := fun p : Nat => D.int p) (step := bodyF (.name 6) (evSs (callK L 40) L.cs L.sub L.wf stBodyL)) (fun (es : List Nat) env s => ∃ x6 x8 g, env = [some (.fl (ns.map D.int)), some (.ref s'.length), some (.int p), none, some (.tup (tupsD R)), some (.ref c), x6, none, x8] ∧ s = S0 ++ g ∧ ∀ e ∈ es, e ≤ (evs (tupsD R) p).length) (fun _ _ _ _ => trivial) (by
      rintro e es _ _ ⟨x6, x8, g, rfl, rfl, he⟩
      obtain ⟨x8', g', t⟩ := st_turn (N := 40) (by omega) oa ha hp' (he e List.mem_cons_self) (g := g) (x0 := some (.fl (ns.map D.int))) (x3 := none) (x5 := some (.ref c)) (x6 := x6) (x7 := none) (x8 := x8)
      exact ⟨_, _, t, _, _, _, rfl, rfl, fun y hy => he y (List.mem_cons_of_mem _ hy)⟩) (xs := List.range ((evs (tupsD R) p).length + 1)) (e := [some (.fl (ns.map D.int)), some (.ref s'.length), some (.int p), none, some (.tup (tupsD R)), some (.ref c), x6, none, x8]) (s := S0 ++ g) ⟨_, _, _, rfl, rfl, fun e he => by have := List.mem_range.mp he; omega⟩
    refine ⟨_, _, ?_, some (.int p), y6, y8, g2, rfl, rfl, fun y hy => hp y (List.mem_cons_of_mem _ hy)⟩
    have rn : rangeD 0 (((evs (tupsD R) p).length : Int) + 1) = (List.range ((evs (tupsD R) p).length + 1)).map fun k : Nat => D.int k := by
      have := range_nat (n := (evs (tupsD R) p).length + 1)
      simpa using this
    rw [bodyF_name]
    simp [stBodyO, atI_nat', et, rng1R_ok sm, rn]
    rw [f2]
    rfl) (xs := List.range (tupsD R).length) (e := [some (.fl (ns.map D.int)), some (.ref s'.length), none, none, some (.tup (tupsD R)), some (.ref c), none, none, none]) (s := S0) ⟨none, none, none, [], rfl, (List.append_nil _).symm, fun p hp => List.mem_range.mp hp⟩
  -- the cuts
  have cr := cuts_run (N := 40) (st := S0 ++ g) (by omega) k4 ok.grow.len ok.clen lc.app (fun p => Nat.le_trans (ok.short p) (by omega)) ok.row ok.wid
  have oa2 : OrdAt (S0 ++ g ++ [.lst ((cutsOf C (R.map List.length)).map clD)]) s'.length (tupsD R) _ _ _ _ := oa.app.app
  have gl : (S0 ++ g ++ [MO.lst ((cutsOf C (R.map List.length)).map clD)])[(S0 ++ g).length]? = some (.lst ((cutsOf C (R.map List.length)).map clD)) := get_last
  have er := expR_ref gl
  obtain ⟨e3, s3, f3, y3, y7, rfl, rfl, _⟩ := for_indm (gd := some ((S0 ++ g).length, (cutsOf C (R.map List.length)).map clD)) (q := clD) (step := bodyF (.name 3) (evSs (callK L 40) L.cs L.sub L.wf cutBody)) (fun (cs : List (List Nat)) env s => ∃ x3 x7, env = [some (.fl (ns.map D.int)), some (.ref s'.length), x2, x3, some (.tup (tupsD R)), some (.ref c), x6, x7, x8] ∧ s = S0 ++ g ++ [.lst ((cutsOf C (R.map List.length)).map clD)] ∧ ∀ x ∈ cs, x ∈ cutsOf C (R.map List.length)) (fun _ _ _ h => by
      obtain ⟨_, _, _, rfl, _⟩ := h
      exact gl) (by
    rintro cut cs _ _ ⟨x3, x7, rfl, rfl, hc⟩
    obtain ⟨m1, m2⟩ := mem_cuts.mp (hc cut List.mem_cons_self)
    obtain ⟨l1, l2⟩ := mem_allL.mp m1
    rw [List.length_map, ok.grow.len] at l1
    have le : ∀ p e, cut[p]? = some e → e ≤ lenR R p := fun p e h => by
      obtain ⟨n, h1, h2⟩ := l2 p e h
      rw [List.getElem?_map] at h1
      obtain ⟨r, h3, rfl⟩ := Option.map_eq_some_iff.mp h1
      unfold lenR
      rw [gd_at [] h3]; exact h2
    have eq := way_eq ok l1 (fun p hp => le p _ (getD_some (by omega) 0)) m2 ha ro.once
    exact ⟨_, _, cut_turn (N := 40) (by omega) oa2 ha (by omega) (l1.trans tl.symm) (fun p e h => by rw [evs_tups]; exact le p e h) eq, _, _, rfl, rfl, fun y hy => hc y (List.mem_cons_of_mem _ hy)⟩) (xs := cutsOf C (R.map List.length)) (e := [some (.fl (ns.map D.int)), some (.ref s'.length), x2, none, some (.tup (tupsD R)), some (.ref c), x6, none, x8]) (s := S0 ++ g ++ [.lst ((cutsOf C (R.map List.length)).map clD)]) ⟨none, none, rfl, rfl, fun x hx => hx⟩
  have sm : small62 ((tupsD R).length : Int) := ⟨by omega, by omega⟩
  have fb : fd_law.body = .cons (.unp [4, 5] (.call "_law_small" (.cons (.var 0) (.cons (.int 24) .nil)))) (.cons (.set 1 (.new "Order" (.cons (.var 4) .nil))) (.cons (.for (.name 2) (.rng1 (.bi .len (.cons (.var 4) .nil))) stBodyO) (.cons (.for (.name 3) (.exp (.call "_law_cuts" (.cons (.var 4) (.cons (.var 5) .nil)))) cutBody) (.cons (.ret (.bl true)) .nil)))) := rfl
  have es : startE fd_law [.fl (ns.map D.int)] = [some (.fl (ns.map D.int)), none, none, none, none, none, none, none, none] := rfl
  obtain ⟨sf, ef⟩ := gc_bl (st := []) (s := S0 ++ g ++ [MO.lst ((cutsOf C (R.map List.length)).map clD)]) (b := true)
  refine ⟨sf, ?_⟩
  rw [call_open fn_law rfl, fb, es]
  simp [h1, io, rng1R_ok sm, range_nat]
  rw [f1]
  simp only [List.length_append] at cr er f3
  simp [cr]
  simp at er f3 ef
  simp [er, f3, ef]
end Th

set_option linter.all false
set_option Elab.async false
set_option maxRecDepth 100000
set_option maxHeartbeats 4000000
namespace KK
open PySem L2 Mi LL PyProof.Rows
def topS (i : Nat) : Stmt := PySem.Challenge.pw_cutpapers_k11_states_and_letters.main.body.getD i (.Pass ⟨0, 0, 0, 0⟩)
abbrev s_is_integer : Stmt := topS 9
abbrev n_is_integer : List Str := ["value", "least", "greatest"]
theorem mt_is_integer : mtSs names L.sub n_is_integer (defScope s_is_integer) fd_is_integer.body (defBody s_is_integer) = true := by decide +kernel
theorem sc_is_integer : FnScope n_is_integer ["value", "least", "greatest"] (defScope s_is_integer) := ⟨rfl, rfl, rfl, by decide +kernel, rfl, by decide +kernel, by decide +kernel⟩
abbrev s_is_event : Stmt := topS 12
abbrev n_is_event : List Str := ["value"]
theorem mt_is_event : mtSs names L.sub n_is_event (defScope s_is_event) fd_is_event.body (defBody s_is_event) = true := by decide +kernel
theorem sc_is_event : FnScope n_is_event ["value"] (defScope s_is_event) := ⟨rfl, rfl, rfl, by decide +kernel, rfl, by decide +kernel, by decide +kernel⟩
abbrev s_is_run : Stmt := topS 13
abbrev n_is_run : List Str := ["value", "row"]
theorem mt_is_run : mtSs names L.sub n_is_run (defScope s_is_run) fd_is_run.body (defBody s_is_run) = true := by decide +kernel
theorem sc_is_run : FnScope n_is_run ["value"] (defScope s_is_run) := ⟨rfl, rfl, rfl, by decide +kernel, rfl, by decide +kernel, by decide +kernel⟩
abbrev s_one_row : Stmt := topS 14
abbrev n_one_row : List Str := ["run", "row", "sent", "reached", "earlier", "process", "events", "rest", "event"]
theorem mt_one_row : mtSs names L.sub n_one_row (defScope s_one_row) fd_one_row.body (defBody s_one_row) = true := by decide +kernel
theorem sc_one_row : FnScope n_one_row ["run"] (defScope s_one_row) := ⟨rfl, rfl, rfl, by decide +kernel, rfl, by decide +kernel, by decide +kernel⟩
abbrev s_letters_once : Stmt := topS 15
abbrev n_letters_once : List Str := ["rows", "seen", "many", "row", "event"]
theorem mt_letters_once : mtSs names L.sub n_letters_once (defScope s_letters_once) fd_letters_once.body (defBody s_letters_once) = true := by decide +kernel
theorem sc_letters_once : FnScope n_letters_once ["rows"] (defScope s_letters_once) := ⟨rfl, rfl, rfl, by decide +kernel, rfl, by decide +kernel, by decide +kernel⟩
abbrev s__is_row : Stmt := topS 16
abbrev n__is_row : List Str := ["value", "least", "greatest"]
theorem mt__is_row : mtSs names L.sub n__is_row (defScope s__is_row) fd__is_row.body (defBody s__is_row) = true := by decide +kernel
theorem sc__is_row : FnScope n__is_row ["value", "least", "greatest"] (defScope s__is_row) := ⟨rfl, rfl, rfl, by decide +kernel, rfl, by decide +kernel, by decide +kernel⟩
abbrev s__is_named : Stmt := topS 17
abbrev n__is_named : List Str := ["value"]
theorem mt__is_named : mtSs names L.sub n__is_named (defScope s__is_named) fd__is_named.body (defBody s__is_named) = true := by decide +kernel
theorem sc__is_named : FnScope n__is_named ["value"] (defScope s__is_named) := ⟨rfl, rfl, rfl, by decide +kernel, rfl, by decide +kernel, by decide +kernel⟩
abbrev s__is_variable : Stmt := topS 18
abbrev n__is_variable : List Str := ["value"]
theorem mt__is_variable : mtSs names L.sub n__is_variable (defScope s__is_variable) fd__is_variable.body (defBody s__is_variable) = true := by decide +kernel
theorem sc__is_variable : FnScope n__is_variable ["value"] (defScope s__is_variable) := ⟨rfl, rfl, rfl, by decide +kernel, rfl, by decide +kernel, by decide +kernel⟩
abbrev s__are_changes : Stmt := topS 19
abbrev n__are_changes : List Str := ["value", "at", "change"]
theorem mt__are_changes : mtSs names L.sub n__are_changes (defScope s__are_changes) fd__are_changes.body (defBody s__are_changes) = true := by decide +kernel
theorem sc__are_changes : FnScope n__are_changes ["value"] (defScope s__are_changes) := ⟨rfl, rfl, rfl, by decide +kernel, rfl, by decide +kernel, by decide +kernel⟩
abbrev s__is_change : Stmt := topS 20
abbrev n__is_change : List Str := ["value"]
theorem mt__is_change : mtSs names L.sub n__is_change (defScope s__is_change) fd__is_change.body (defBody s__is_change) = true := by decide +kernel
theorem sc__is_change : FnScope n__is_change ["value"] (defScope s__is_change) := ⟨rfl, rfl, rfl, by decide +kernel, rfl, by decide +kernel, by decide +kernel⟩
abbrev s__is_process : Stmt := topS 21
abbrev n__is_process : List Str := ["value", "event"]
theorem mt__is_process : mtSs names L.sub n__is_process (defScope s__is_process) fd__is_process.body (defBody s__is_process) = true := by decide +kernel
theorem sc__is_process : FnScope n__is_process ["value"] (defScope s__is_process) := ⟨rfl, rfl, rfl, by decide +kernel, rfl, by decide +kernel, by decide +kernel⟩
abbrev s__sends_of : Stmt := topS 24
abbrev n__sends_of : List Str := ["run", "sent", "sends", "process", "number", "event"]
theorem mt__sends_of : mtSs names L.sub n__sends_of (defScope s__sends_of) fd__sends_of.body (defBody s__sends_of) = true := by decide +kernel
theorem sc__sends_of : FnScope n__sends_of ["run"] (defScope s__sends_of) := ⟨rfl, rfl, rfl, by decide +kernel, rfl, by decide +kernel, by decide +kernel⟩
abbrev s__clocks_of : Stmt := topS 25
abbrev n__clocks_of : List Str := ["run", "sends", "clocks", "nothing", "process", "number", "clock", "sent", "one", "other"]
theorem mt__clocks_of : mtSs names L.sub n__clocks_of (defScope s__clocks_of) fd__clocks_of.body (defBody s__clocks_of) = true := by decide +kernel
theorem sc__clocks_of : FnScope n__clocks_of ["run", "sends"] (defScope s__clocks_of) := ⟨rfl, rfl, rfl, by decide +kernel, rfl, by decide +kernel, by decide +kernel⟩
abbrev s__states_of : Stmt := topS 26
abbrev n__states_of : List Str := ["run", "states", "process", "row", "values", "number", "event", "variable", "value"]
theorem mt__states_of : mtSs names L.sub n__states_of (defScope s__states_of) fd__states_of.body (defBody s__states_of) = true := by decide +kernel
theorem sc__states_of : FnScope n__states_of ["run"] (defScope s__states_of) := ⟨rfl, rfl, rfl, by decide +kernel, rfl, by decide +kernel, by decide +kernel⟩
abbrev s__balances_of : Stmt := topS 27
abbrev n__balances_of : List Str := ["run", "balances", "process", "row", "balance", "number", "event"]
theorem mt__balances_of : mtSs names L.sub n__balances_of (defScope s__balances_of) fd__balances_of.body (defBody s__balances_of) = true := by decide +kernel
theorem sc__balances_of : FnScope n__balances_of ["run"] (defScope s__balances_of) := ⟨rfl, rfl, rfl, by decide +kernel, rfl, by decide +kernel, by decide +kernel⟩
abbrev s__law_draws : Stmt := topS 29
abbrev n__law_draws : List Str := ["script", "start", "most", "draws", "cell", "number", "mixed", "k"]
theorem mt__law_draws : mtSs names L.sub n__law_draws (defScope s__law_draws) fd__law_draws.body (defBody s__law_draws) = true := by decide +kernel
theorem sc__law_draws : FnScope n__law_draws ["script", "start", "most"] (defScope s__law_draws) := ⟨rfl, rfl, rfl, by decide +kernel, rfl, by decide +kernel, by decide +kernel⟩
abbrev s__law_changes : Stmt := topS 30
abbrev n__law_changes : List Str := ["number", "changes", "k"]
theorem mt__law_changes : mtSs names L.sub n__law_changes (defScope s__law_changes) fd__law_changes.body (defBody s__law_changes) = true := by decide +kernel
theorem sc__law_changes : FnScope n__law_changes ["number"] (defScope s__law_changes) := ⟨rfl, rfl, rfl, by decide +kernel, rfl, by decide +kernel, by decide +kernel⟩
abbrev s__law_made : Stmt := topS 31
abbrev n__law_made : List Str := ["draws", "count", "most", "rows", "clocks", "letters", "left", "draw", "process", "row", "word", "clock", "changes", "known", "k", "letter", "event", "sender", "send"]
theorem mt__law_made : mtSs names L.sub n__law_made (defScope s__law_made) fd__law_made.body (defBody s__law_made) = true := by decide +kernel
theorem sc__law_made : FnScope n__law_made ["draws", "count", "most"] (defScope s__law_made) := ⟨rfl, rfl, rfl, by decide +kernel, rfl, by decide +kernel, by decide +kernel⟩
abbrev s__law_all : Stmt := topS 32
abbrev n__law_all : List Str := ["sizes", "found", "tail", "k"]
theorem mt__law_all : mtSs names L.sub n__law_all (defScope s__law_all) fd__law_all.body (defBody s__law_all) = true := by decide +kernel
theorem sc__law_all : FnScope n__law_all ["sizes"] (defScope s__law_all) := ⟨rfl, rfl, rfl, by decide +kernel, rfl, by decide +kernel, by decide +kernel⟩
abbrev s__law_is_cut : Stmt := topS 33
abbrev n__law_is_cut : List Str := ["clocks", "cut", "process", "clock", "other"]
theorem mt__law_is_cut : mtSs names L.sub n__law_is_cut (defScope s__law_is_cut) fd__law_is_cut.body (defBody s__law_is_cut) = true := by decide +kernel
theorem sc__law_is_cut : FnScope n__law_is_cut ["clocks", "cut"] (defScope s__law_is_cut) := ⟨rfl, rfl, rfl, by decide +kernel, rfl, by decide +kernel, by decide +kernel⟩
abbrev s__law_cuts : Stmt := topS 34
abbrev n__law_cuts : List Str := ["run", "clocks", "found", "cut", "pair", "row"]
theorem mt__law_cuts : mtSs names L.sub n__law_cuts (defScope s__law_cuts) fd__law_cuts.body (defBody s__law_cuts) = true := by decide +kernel
theorem sc__law_cuts : FnScope n__law_cuts ["run", "clocks"] (defScope s__law_cuts) := ⟨rfl, rfl, rfl, by decide +kernel, rfl, by decide +kernel, by decide +kernel⟩
abbrev s__law_state : Stmt := topS 35
abbrev n__law_state : List Str := ["run", "process", "events", "state", "event", "variable", "value"]
theorem mt__law_state : mtSs names L.sub n__law_state (defScope s__law_state) fd__law_state.body (defBody s__law_state) = true := by decide +kernel
theorem sc__law_state : FnScope n__law_state ["run", "process", "events"] (defScope s__law_state) := ⟨rfl, rfl, rfl, by decide +kernel, rfl, by decide +kernel, by decide +kernel⟩
abbrev s__law_way : Stmt := topS 36
abbrev n__law_way : List Str := ["run", "cut", "sent", "taken", "process", "event", "letter"]
theorem mt__law_way : mtSs names L.sub n__law_way (defScope s__law_way) fd__law_way.body (defBody s__law_way) = true := by decide +kernel
theorem sc__law_way : FnScope n__law_way ["run", "cut"] (defScope s__law_way) := ⟨rfl, rfl, rfl, by decide +kernel, rfl, by decide +kernel, by decide +kernel⟩
abbrev s__law_small : Stmt := topS 38
abbrev n__law_small : List Str := ["script", "most", "first", "count"]
theorem mt__law_small : mtSs names L.sub n__law_small (defScope s__law_small) fd__law_small.body (defBody s__law_small) = true := by decide +kernel
theorem sc__law_small : FnScope n__law_small ["script", "most"] (defScope s__law_small) := ⟨rfl, rfl, rfl, by decide +kernel, rfl, by decide +kernel, by decide +kernel⟩
abbrev s_law : Stmt := topS 39
abbrev n_law : List Str := ["script", "order", "process", "cut", "run", "clocks", "events", "told", "due"]
theorem mt_law : mtSs names L.sub n_law (defScope s_law) fd_law.body (defBody s_law) = true := by decide +kernel
theorem sc_law : FnScope n_law ["script"] (defScope s_law) := ⟨rfl, rfl, rfl, by decide +kernel, rfl, by decide +kernel, by decide +kernel⟩
abbrev s_Order___init__ : Stmt := inClass (topS 23) 0
abbrev n_Order___init__ : List Str := ["self", "run"]
theorem mt_Order___init__ : mtSs names L.sub n_Order___init__ (defScope s_Order___init__) fd_Order___init__.body (defBody s_Order___init__) = true := by decide +kernel
theorem sc_Order___init__ : FnScope n_Order___init__ ["self", "run"] (defScope s_Order___init__) := ⟨rfl, rfl, rfl, by decide +kernel, rfl, by decide +kernel, by decide +kernel⟩
abbrev s_Order_state : Stmt := inClass (topS 23) 10
abbrev n_Order_state : List Str := ["self", "process", "events"]
theorem mt_Order_state : mtSs names L.sub n_Order_state (defScope s_Order_state) fd_Order_state.body (defBody s_Order_state) = true := by decide +kernel
theorem sc_Order_state : FnScope n_Order_state ["self", "process", "events"] (defScope s_Order_state) := ⟨rfl, rfl, rfl, by decide +kernel, rfl, by decide +kernel, by decide +kernel⟩
abbrev s_Order_under_way : Stmt := inClass (topS 23) 11
abbrev n_Order_under_way : List Str := ["self", "cut", "process", "number"]
theorem mt_Order_under_way : mtSs names L.sub n_Order_under_way (defScope s_Order_under_way) fd_Order_under_way.body (defBody s_Order_under_way) = true := by decide +kernel
theorem sc_Order_under_way : FnScope n_Order_under_way ["self", "cut"] (defScope s_Order_under_way) := ⟨rfl, rfl, rfl, by decide +kernel, rfl, by decide +kernel, by decide +kernel⟩
abbrev s_Order__last : Stmt := inClass (topS 23) 16
abbrev n_Order__last : List Str := ["self", "process", "event"]
theorem mt_Order__last : mtSs names L.sub n_Order__last (defScope s_Order__last) fd_Order__last.body (defBody s_Order__last) = true := by decide +kernel
theorem sc_Order__last : FnScope n_Order__last ["self", "process", "event"] (defScope s_Order__last) := ⟨rfl, rfl, rfl, by decide +kernel, rfl, by decide +kernel, by decide +kernel⟩
abbrev s_Order_size : Stmt := inClass (topS 23) 2
abbrev n_Order_size : List Str := ["self", "process"]
theorem mt_Order_size : mtSs names L.sub n_Order_size (defScope s_Order_size) fd_Order_size.body (defBody s_Order_size) = true := by decide +kernel
theorem sc_Order_size : FnScope n_Order_size ["self", "process"] (defScope s_Order_size) := ⟨rfl, rfl, rfl, by decide +kernel, rfl, by decide +kernel, by decide +kernel⟩
def Has (K : PySem.W.Frag) (f : Str) (s : Stmt) : Prop := ∃ (a : Addr) (oc : Value) (od : Option Addr) (kV dc pm : Value) (an : Option Addr) (cd ct : Value) (sl : Array (Option Value)),
  PySem.W.nsIn K mainGlobals f = some (some (.ref a)) ∧ K.lookup a = some ⟨oc, od, .func (PySem.W.fnOf f f (defArgs s) (defBody s) (defScope s) .none kV dc pm an cd ct), sl⟩ ∧ PySem.W.codeIn K cd f = true ∧ PySem.W.keepIn K (.ref a) = true
def HasM (K : PySem.W.Frag) (C : Addr) (m q : Str) (s : Stmt) : Prop := ∃ (a : Addr) (oc : Value) (od : Option Addr) (kV dc pm : Value) (an : Option Addr) (cd ct : Value) (sl : Array (Option Value)),
  PySem.W.findIn K (.ref C) m = some (some (.ref a)) ∧ PySem.W.isFn K (.ref a) = true ∧ K.lookup a = some ⟨oc, od, .func (PySem.W.fnOf m q (defArgs s) (defBody s) (defScope s) .none kV dc pm an cd ct), sl⟩ ∧ PySem.W.codeIn K cd q = true ∧ PySem.W.keepIn K (.ref a) = true
/-- a class by its name -/
def clsA (K : PySem.W.Frag) (c : Str) : Addr := match PySem.W.nsIn K mainGlobals c with
  | some (some (.ref C)) => C
  | _ => 0
theorem clsA_of {K : PySem.W.Frag} {c : Str} {C : Addr} (h : PySem.W.nsIn K mainGlobals c = some (some (.ref C))) : clsA K c = C := by unfold clsA; rw [h]
theorem ok_is_integer {G : Glob} {h : Heap} (X : G.K.In h) (N : h.Ns mainGlobals G.mg) (z : Has G.K "is_integer" s_is_integer) : Nonempty (DefOk G L names "is_integer") := by
  obtain ⟨a, oc, od, kV, dc, pm, an, cd, ct, sl, h1, h2, h3, h4⟩ := z
  have F := fun_mk (st := s_is_integer) h2 h3 h4
  exact ⟨⟨fd_is_integer, fn_is_integer, ⟨s_is_integer, a, _, n_is_integer, ["value", "least", "greatest"], _, _, F, sc_is_integer, F.binds (ps := ["value", "least", "greatest"]) fun _ _ _ _ _ _ us hl => match us, hl with | [_, _, _], _ => rfl, rfl, rfl, mt_is_integer⟩, PySem.W.mg_of X N h1⟩⟩
theorem ok_is_event {G : Glob} {h : Heap} (X : G.K.In h) (N : h.Ns mainGlobals G.mg) (z : Has G.K "is_event" s_is_event) : Nonempty (DefOk G L names "is_event") := by
  obtain ⟨a, oc, od, kV, dc, pm, an, cd, ct, sl, h1, h2, h3, h4⟩ := z
  have F := fun_mk (st := s_is_event) h2 h3 h4
  exact ⟨⟨fd_is_event, fn_is_event, ⟨s_is_event, a, _, n_is_event, ["value"], _, _, F, sc_is_event, F.binds (ps := ["value"]) fun _ _ _ _ _ _ us hl => match us, hl with | [_], _ => rfl, rfl, rfl, mt_is_event⟩, PySem.W.mg_of X N h1⟩⟩
theorem ok_is_run {G : Glob} {h : Heap} (X : G.K.In h) (N : h.Ns mainGlobals G.mg) (z : Has G.K "is_run" s_is_run) : Nonempty (DefOk G L names "is_run") := by
  obtain ⟨a, oc, od, kV, dc, pm, an, cd, ct, sl, h1, h2, h3, h4⟩ := z
  have F := fun_mk (st := s_is_run) h2 h3 h4
  exact ⟨⟨fd_is_run, fn_is_run, ⟨s_is_run, a, _, n_is_run, ["value"], _, _, F, sc_is_run, F.binds (ps := ["value"]) fun _ _ _ _ _ _ us hl => match us, hl with | [_], _ => rfl, rfl, rfl, mt_is_run⟩, PySem.W.mg_of X N h1⟩⟩
theorem ok_one_row {G : Glob} {h : Heap} (X : G.K.In h) (N : h.Ns mainGlobals G.mg) (z : Has G.K "one_row" s_one_row) : Nonempty (DefOk G L names "one_row") := by
  obtain ⟨a, oc, od, kV, dc, pm, an, cd, ct, sl, h1, h2, h3, h4⟩ := z
  have F := fun_mk (st := s_one_row) h2 h3 h4
  exact ⟨⟨fd_one_row, fn_one_row, ⟨s_one_row, a, _, n_one_row, ["run"], _, _, F, sc_one_row, F.binds (ps := ["run"]) fun _ _ _ _ _ _ us hl => match us, hl with | [_], _ => rfl, rfl, rfl, mt_one_row⟩, PySem.W.mg_of X N h1⟩⟩
theorem ok_letters_once {G : Glob} {h : Heap} (X : G.K.In h) (N : h.Ns mainGlobals G.mg) (z : Has G.K "letters_once" s_letters_once) : Nonempty (DefOk G L names "letters_once") := by
  obtain ⟨a, oc, od, kV, dc, pm, an, cd, ct, sl, h1, h2, h3, h4⟩ := z
  have F := fun_mk (st := s_letters_once) h2 h3 h4
  exact ⟨⟨fd_letters_once, fn_letters_once, ⟨s_letters_once, a, _, n_letters_once, ["rows"], _, _, F, sc_letters_once, F.binds (ps := ["rows"]) fun _ _ _ _ _ _ us hl => match us, hl with | [_], _ => rfl, rfl, rfl, mt_letters_once⟩, PySem.W.mg_of X N h1⟩⟩
theorem ok__is_row {G : Glob} {h : Heap} (X : G.K.In h) (N : h.Ns mainGlobals G.mg) (z : Has G.K "_is_row" s__is_row) : Nonempty (DefOk G L names "_is_row") := by
  obtain ⟨a, oc, od, kV, dc, pm, an, cd, ct, sl, h1, h2, h3, h4⟩ := z
  have F := fun_mk (st := s__is_row) h2 h3 h4
  exact ⟨⟨fd__is_row, fn__is_row, ⟨s__is_row, a, _, n__is_row, ["value", "least", "greatest"], _, _, F, sc__is_row, F.binds (ps := ["value", "least", "greatest"]) fun _ _ _ _ _ _ us hl => match us, hl with | [_, _, _], _ => rfl, rfl, rfl, mt__is_row⟩, PySem.W.mg_of X N h1⟩⟩
theorem ok__is_named {G : Glob} {h : Heap} (X : G.K.In h) (N : h.Ns mainGlobals G.mg) (z : Has G.K "_is_named" s__is_named) : Nonempty (DefOk G L names "_is_named") := by
  obtain ⟨a, oc, od, kV, dc, pm, an, cd, ct, sl, h1, h2, h3, h4⟩ := z
  have F := fun_mk (st := s__is_named) h2 h3 h4
  exact ⟨⟨fd__is_named, fn__is_named, ⟨s__is_named, a, _, n__is_named, ["value"], _, _, F, sc__is_named, F.binds (ps := ["value"]) fun _ _ _ _ _ _ us hl => match us, hl with | [_], _ => rfl, rfl, rfl, mt__is_named⟩, PySem.W.mg_of X N h1⟩⟩
theorem ok__is_variable {G : Glob} {h : Heap} (X : G.K.In h) (N : h.Ns mainGlobals G.mg) (z : Has G.K "_is_variable" s__is_variable) : Nonempty (DefOk G L names "_is_variable") := by
  obtain ⟨a, oc, od, kV, dc, pm, an, cd, ct, sl, h1, h2, h3, h4⟩ := z
  have F := fun_mk (st := s__is_variable) h2 h3 h4
  exact ⟨⟨fd__is_variable, fn__is_variable, ⟨s__is_variable, a, _, n__is_variable, ["value"], _, _, F, sc__is_variable, F.binds (ps := ["value"]) fun _ _ _ _ _ _ us hl => match us, hl with | [_], _ => rfl, rfl, rfl, mt__is_variable⟩, PySem.W.mg_of X N h1⟩⟩
theorem ok__are_changes {G : Glob} {h : Heap} (X : G.K.In h) (N : h.Ns mainGlobals G.mg) (z : Has G.K "_are_changes" s__are_changes) : Nonempty (DefOk G L names "_are_changes") := by
  obtain ⟨a, oc, od, kV, dc, pm, an, cd, ct, sl, h1, h2, h3, h4⟩ := z
  have F := fun_mk (st := s__are_changes) h2 h3 h4
  exact ⟨⟨fd__are_changes, fn__are_changes, ⟨s__are_changes, a, _, n__are_changes, ["value"], _, _, F, sc__are_changes, F.binds (ps := ["value"]) fun _ _ _ _ _ _ us hl => match us, hl with | [_], _ => rfl, rfl, rfl, mt__are_changes⟩, PySem.W.mg_of X N h1⟩⟩
theorem ok__is_change {G : Glob} {h : Heap} (X : G.K.In h) (N : h.Ns mainGlobals G.mg) (z : Has G.K "_is_change" s__is_change) : Nonempty (DefOk G L names "_is_change") := by
  obtain ⟨a, oc, od, kV, dc, pm, an, cd, ct, sl, h1, h2, h3, h4⟩ := z
  have F := fun_mk (st := s__is_change) h2 h3 h4
  exact ⟨⟨fd__is_change, fn__is_change, ⟨s__is_change, a, _, n__is_change, ["value"], _, _, F, sc__is_change, F.binds (ps := ["value"]) fun _ _ _ _ _ _ us hl => match us, hl with | [_], _ => rfl, rfl, rfl, mt__is_change⟩, PySem.W.mg_of X N h1⟩⟩
theorem ok__is_process {G : Glob} {h : Heap} (X : G.K.In h) (N : h.Ns mainGlobals G.mg) (z : Has G.K "_is_process" s__is_process) : Nonempty (DefOk G L names "_is_process") := by
  obtain ⟨a, oc, od, kV, dc, pm, an, cd, ct, sl, h1, h2, h3, h4⟩ := z
  have F := fun_mk (st := s__is_process) h2 h3 h4
  exact ⟨⟨fd__is_process, fn__is_process, ⟨s__is_process, a, _, n__is_process, ["value"], _, _, F, sc__is_process, F.binds (ps := ["value"]) fun _ _ _ _ _ _ us hl => match us, hl with | [_], _ => rfl, rfl, rfl, mt__is_process⟩, PySem.W.mg_of X N h1⟩⟩
theorem ok__sends_of {G : Glob} {h : Heap} (X : G.K.In h) (N : h.Ns mainGlobals G.mg) (z : Has G.K "_sends_of" s__sends_of) : Nonempty (DefOk G L names "_sends_of") := by
  obtain ⟨a, oc, od, kV, dc, pm, an, cd, ct, sl, h1, h2, h3, h4⟩ := z
  have F := fun_mk (st := s__sends_of) h2 h3 h4
  exact ⟨⟨fd__sends_of, fn__sends_of, ⟨s__sends_of, a, _, n__sends_of, ["run"], _, _, F, sc__sends_of, F.binds (ps := ["run"]) fun _ _ _ _ _ _ us hl => match us, hl with | [_], _ => rfl, rfl, rfl, mt__sends_of⟩, PySem.W.mg_of X N h1⟩⟩
theorem ok__clocks_of {G : Glob} {h : Heap} (X : G.K.In h) (N : h.Ns mainGlobals G.mg) (z : Has G.K "_clocks_of" s__clocks_of) : Nonempty (DefOk G L names "_clocks_of") := by
  obtain ⟨a, oc, od, kV, dc, pm, an, cd, ct, sl, h1, h2, h3, h4⟩ := z
  have F := fun_mk (st := s__clocks_of) h2 h3 h4
  exact ⟨⟨fd__clocks_of, fn__clocks_of, ⟨s__clocks_of, a, _, n__clocks_of, ["run", "sends"], _, _, F, sc__clocks_of, F.binds (ps := ["run", "sends"]) fun _ _ _ _ _ _ us hl => match us, hl with | [_, _], _ => rfl, rfl, rfl, mt__clocks_of⟩, PySem.W.mg_of X N h1⟩⟩
theorem ok__states_of {G : Glob} {h : Heap} (X : G.K.In h) (N : h.Ns mainGlobals G.mg) (z : Has G.K "_states_of" s__states_of) : Nonempty (DefOk G L names "_states_of") := by
  obtain ⟨a, oc, od, kV, dc, pm, an, cd, ct, sl, h1, h2, h3, h4⟩ := z
  have F := fun_mk (st := s__states_of) h2 h3 h4
  exact ⟨⟨fd__states_of, fn__states_of, ⟨s__states_of, a, _, n__states_of, ["run"], _, _, F, sc__states_of, F.binds (ps := ["run"]) fun _ _ _ _ _ _ us hl => match us, hl with | [_], _ => rfl, rfl, rfl, mt__states_of⟩, PySem.W.mg_of X N h1⟩⟩
theorem ok__balances_of {G : Glob} {h : Heap} (X : G.K.In h) (N : h.Ns mainGlobals G.mg) (z : Has G.K "_balances_of" s__balances_of) : Nonempty (DefOk G L names "_balances_of") := by
  obtain ⟨a, oc, od, kV, dc, pm, an, cd, ct, sl, h1, h2, h3, h4⟩ := z
  have F := fun_mk (st := s__balances_of) h2 h3 h4
  exact ⟨⟨fd__balances_of, fn__balances_of, ⟨s__balances_of, a, _, n__balances_of, ["run"], _, _, F, sc__balances_of, F.binds (ps := ["run"]) fun _ _ _ _ _ _ us hl => match us, hl with | [_], _ => rfl, rfl, rfl, mt__balances_of⟩, PySem.W.mg_of X N h1⟩⟩
theorem ok__law_draws {G : Glob} {h : Heap} (X : G.K.In h) (N : h.Ns mainGlobals G.mg) (z : Has G.K "_law_draws" s__law_draws) : Nonempty (DefOk G L names "_law_draws") := by
  obtain ⟨a, oc, od, kV, dc, pm, an, cd, ct, sl, h1, h2, h3, h4⟩ := z
  have F := fun_mk (st := s__law_draws) h2 h3 h4
  exact ⟨⟨fd__law_draws, fn__law_draws, ⟨s__law_draws, a, _, n__law_draws, ["script", "start", "most"], _, _, F, sc__law_draws, F.binds (ps := ["script", "start", "most"]) fun _ _ _ _ _ _ us hl => match us, hl with | [_, _, _], _ => rfl, rfl, rfl, mt__law_draws⟩, PySem.W.mg_of X N h1⟩⟩
theorem ok__law_changes {G : Glob} {h : Heap} (X : G.K.In h) (N : h.Ns mainGlobals G.mg) (z : Has G.K "_law_changes" s__law_changes) : Nonempty (DefOk G L names "_law_changes") := by
  obtain ⟨a, oc, od, kV, dc, pm, an, cd, ct, sl, h1, h2, h3, h4⟩ := z
  have F := fun_mk (st := s__law_changes) h2 h3 h4
  exact ⟨⟨fd__law_changes, fn__law_changes, ⟨s__law_changes, a, _, n__law_changes, ["number"], _, _, F, sc__law_changes, F.binds (ps := ["number"]) fun _ _ _ _ _ _ us hl => match us, hl with | [_], _ => rfl, rfl, rfl, mt__law_changes⟩, PySem.W.mg_of X N h1⟩⟩
theorem ok__law_made {G : Glob} {h : Heap} (X : G.K.In h) (N : h.Ns mainGlobals G.mg) (z : Has G.K "_law_made" s__law_made) : Nonempty (DefOk G L names "_law_made") := by
  obtain ⟨a, oc, od, kV, dc, pm, an, cd, ct, sl, h1, h2, h3, h4⟩ := z
  have F := fun_mk (st := s__law_made) h2 h3 h4
  exact ⟨⟨fd__law_made, fn__law_made, ⟨s__law_made, a, _, n__law_made, ["draws", "count", "most"], _, _, F, sc__law_made, F.binds (ps := ["draws", "count", "most"]) fun _ _ _ _ _ _ us hl => match us, hl with | [_, _, _], _ => rfl, rfl, rfl, mt__law_made⟩, PySem.W.mg_of X N h1⟩⟩
theorem ok__law_all {G : Glob} {h : Heap} (X : G.K.In h) (N : h.Ns mainGlobals G.mg) (z : Has G.K "_law_all" s__law_all) : Nonempty (DefOk G L names "_law_all") := by
  obtain ⟨a, oc, od, kV, dc, pm, an, cd, ct, sl, h1, h2, h3, h4⟩ := z
  have F := fun_mk (st := s__law_all) h2 h3 h4
  exact ⟨⟨fd__law_all, fn__law_all, ⟨s__law_all, a, _, n__law_all, ["sizes"], _, _, F, sc__law_all, F.binds (ps := ["sizes"]) fun _ _ _ _ _ _ us hl => match us, hl with | [_], _ => rfl, rfl, rfl, mt__law_all⟩, PySem.W.mg_of X N h1⟩⟩
theorem ok__law_is_cut {G : Glob} {h : Heap} (X : G.K.In h) (N : h.Ns mainGlobals G.mg) (z : Has G.K "_law_is_cut" s__law_is_cut) : Nonempty (DefOk G L names "_law_is_cut") := by
  obtain ⟨a, oc, od, kV, dc, pm, an, cd, ct, sl, h1, h2, h3, h4⟩ := z
  have F := fun_mk (st := s__law_is_cut) h2 h3 h4
  exact ⟨⟨fd__law_is_cut, fn__law_is_cut, ⟨s__law_is_cut, a, _, n__law_is_cut, ["clocks", "cut"], _, _, F, sc__law_is_cut, F.binds (ps := ["clocks", "cut"]) fun _ _ _ _ _ _ us hl => match us, hl with | [_, _], _ => rfl, rfl, rfl, mt__law_is_cut⟩, PySem.W.mg_of X N h1⟩⟩
theorem ok__law_cuts {G : Glob} {h : Heap} (X : G.K.In h) (N : h.Ns mainGlobals G.mg) (z : Has G.K "_law_cuts" s__law_cuts) : Nonempty (DefOk G L names "_law_cuts") := by
  obtain ⟨a, oc, od, kV, dc, pm, an, cd, ct, sl, h1, h2, h3, h4⟩ := z
  have F := fun_mk (st := s__law_cuts) h2 h3 h4
  exact ⟨⟨fd__law_cuts, fn__law_cuts, ⟨s__law_cuts, a, _, n__law_cuts, ["run", "clocks"], _, _, F, sc__law_cuts, F.binds (ps := ["run", "clocks"]) fun _ _ _ _ _ _ us hl => match us, hl with | [_, _], _ => rfl, rfl, rfl, mt__law_cuts⟩, PySem.W.mg_of X N h1⟩⟩
theorem ok__law_state {G : Glob} {h : Heap} (X : G.K.In h) (N : h.Ns mainGlobals G.mg) (z : Has G.K "_law_state" s__law_state) : Nonempty (DefOk G L names "_law_state") := by
  obtain ⟨a, oc, od, kV, dc, pm, an, cd, ct, sl, h1, h2, h3, h4⟩ := z
  have F := fun_mk (st := s__law_state) h2 h3 h4
  exact ⟨⟨fd__law_state, fn__law_state, ⟨s__law_state, a, _, n__law_state, ["run", "process", "events"], _, _, F, sc__law_state, F.binds (ps := ["run", "process", "events"]) fun _ _ _ _ _ _ us hl => match us, hl with | [_, _, _], _ => rfl, rfl, rfl, mt__law_state⟩, PySem.W.mg_of X N h1⟩⟩
theorem ok__law_way {G : Glob} {h : Heap} (X : G.K.In h) (N : h.Ns mainGlobals G.mg) (z : Has G.K "_law_way" s__law_way) : Nonempty (DefOk G L names "_law_way") := by
  obtain ⟨a, oc, od, kV, dc, pm, an, cd, ct, sl, h1, h2, h3, h4⟩ := z
  have F := fun_mk (st := s__law_way) h2 h3 h4
  exact ⟨⟨fd__law_way, fn__law_way, ⟨s__law_way, a, _, n__law_way, ["run", "cut"], _, _, F, sc__law_way, F.binds (ps := ["run", "cut"]) fun _ _ _ _ _ _ us hl => match us, hl with | [_, _], _ => rfl, rfl, rfl, mt__law_way⟩, PySem.W.mg_of X N h1⟩⟩
theorem ok__law_small {G : Glob} {h : Heap} (X : G.K.In h) (N : h.Ns mainGlobals G.mg) (z : Has G.K "_law_small" s__law_small) : Nonempty (DefOk G L names "_law_small") := by
  obtain ⟨a, oc, od, kV, dc, pm, an, cd, ct, sl, h1, h2, h3, h4⟩ := z
  have F := fun_mk (st := s__law_small) h2 h3 h4
  exact ⟨⟨fd__law_small, fn__law_small, ⟨s__law_small, a, _, n__law_small, ["script", "most"], _, _, F, sc__law_small, F.binds (ps := ["script", "most"]) fun _ _ _ _ _ _ us hl => match us, hl with | [_, _], _ => rfl, rfl, rfl, mt__law_small⟩, PySem.W.mg_of X N h1⟩⟩
theorem ok_law {G : Glob} {h : Heap} (X : G.K.In h) (N : h.Ns mainGlobals G.mg) (z : Has G.K "law" s_law) : Nonempty (DefOk G L names "law") := by
  obtain ⟨a, oc, od, kV, dc, pm, an, cd, ct, sl, h1, h2, h3, h4⟩ := z
  have F := fun_mk (st := s_law) h2 h3 h4
  exact ⟨⟨fd_law, fn_law, ⟨s_law, a, _, n_law, ["script"], _, _, F, sc_law, F.binds (ps := ["script"]) fun _ _ _ _ _ _ us hl => match us, hl with | [_], _ => rfl, rfl, rfl, mt_law⟩, PySem.W.mg_of X N h1⟩⟩
structure Cls_Order (K : PySem.W.Frag) (C : Addr) : Prop where
  pg : PySem.W.plainGet K C Str.empty = true
  hd : PySem.W.hasDictIn K C = true
  po : PySem.W.plainOver K C = true
  sa : PySem.W.findIn K (.ref C) "__setattr__" = some (some (.builtin "object.__setattr__"))
  mkI : PySem.W.makesIn K C = true
  kp : PySem.W.keepIn K (.ref C) = true
  n__balances : PySem.W.findIn K (.ref C) "_balances" = some none
  n__clocks : PySem.W.findIn K (.ref C) "_clocks" = some none
  n__run : PySem.W.findIn K (.ref C) "_run" = some none
  n__sends : PySem.W.findIn K (.ref C) "_sends" = some none
  n__states : PySem.W.findIn K (.ref C) "_states" = some none
  m___init__ : HasM K C "__init__" "Order.__init__" s_Order___init__
  m_state : HasM K C "state" "Order.state" s_Order_state
  m_under_way : HasM K C "under_way" "Order.under_way" s_Order_under_way
  m__last : HasM K C "_last" "Order._last" s_Order__last
  m_size : HasM K C "size" "Order.size" s_Order_size
theorem ok_Order___init__ {G : Glob} {h : Heap} (X : G.K.In h) (N : h.Ns mainGlobals G.mg) {C : Addr} (hn : PySem.W.nsIn G.K mainGlobals "Order" = some (some (.ref C))) (hc : G.cls "Order" = C) (T : Cls_Order G.K C) : Nonempty (MdOk G L names "Order" "__init__" fd_Order___init__) := by
  obtain ⟨a, oc, od, kV, dc, pm, an, cd, ct, sl, h1, hf, h2, h3, h4⟩ := T.m___init__
  have F := fun_mk (st := s_Order___init__) h2 h3 h4
  refine ⟨⟨⟨s_Order___init__, a, _, n_Order___init__, ["self", "run"], _, _, F, sc_Order___init__, F.binds (ps := ["self", "run"]) fun _ _ _ _ _ _ us hl => match us, hl with | [_, _], _ => rfl, rfl, rfl, mt_Order___init__⟩, by rw [hc]; exact ⟨T.pg, T.hd, T.po, T.sa⟩, by rw [hc]; exact ⟨h1, hf, h4⟩, fun e => ?_⟩⟩
  rw [hc]
  exact ⟨⟨T.mkI, h1, hf, T.kp⟩, PySem.W.mg_of X N hn⟩
theorem ok_Order_state {G : Glob} {h : Heap} (X : G.K.In h) (N : h.Ns mainGlobals G.mg) {C : Addr} (hn : PySem.W.nsIn G.K mainGlobals "Order" = some (some (.ref C))) (hc : G.cls "Order" = C) (T : Cls_Order G.K C) : Nonempty (MdOk G L names "Order" "state" fd_Order_state) := by
  obtain ⟨a, oc, od, kV, dc, pm, an, cd, ct, sl, h1, hf, h2, h3, h4⟩ := T.m_state
  have F := fun_mk (st := s_Order_state) h2 h3 h4
  refine ⟨⟨⟨s_Order_state, a, _, n_Order_state, ["self", "process", "events"], _, _, F, sc_Order_state, F.binds (ps := ["self", "process", "events"]) fun _ _ _ _ _ _ us hl => match us, hl with | [_, _, _], _ => rfl, rfl, rfl, mt_Order_state⟩, by rw [hc]; exact ⟨T.pg, T.hd, T.po, T.sa⟩, by rw [hc]; exact ⟨h1, hf, h4⟩, fun e => ?_⟩⟩
  exact absurd e (by decide +kernel)
theorem ok_Order_under_way {G : Glob} {h : Heap} (X : G.K.In h) (N : h.Ns mainGlobals G.mg) {C : Addr} (hn : PySem.W.nsIn G.K mainGlobals "Order" = some (some (.ref C))) (hc : G.cls "Order" = C) (T : Cls_Order G.K C) : Nonempty (MdOk G L names "Order" "under_way" fd_Order_under_way) := by
  obtain ⟨a, oc, od, kV, dc, pm, an, cd, ct, sl, h1, hf, h2, h3, h4⟩ := T.m_under_way
  have F := fun_mk (st := s_Order_under_way) h2 h3 h4
  refine ⟨⟨⟨s_Order_under_way, a, _, n_Order_under_way, ["self", "cut"], _, _, F, sc_Order_under_way, F.binds (ps := ["self", "cut"]) fun _ _ _ _ _ _ us hl => match us, hl with | [_, _], _ => rfl, rfl, rfl, mt_Order_under_way⟩, by rw [hc]; exact ⟨T.pg, T.hd, T.po, T.sa⟩, by rw [hc]; exact ⟨h1, hf, h4⟩, fun e => ?_⟩⟩
  exact absurd e (by decide +kernel)
theorem ok_Order__last {G : Glob} {h : Heap} (X : G.K.In h) (N : h.Ns mainGlobals G.mg) {C : Addr} (hn : PySem.W.nsIn G.K mainGlobals "Order" = some (some (.ref C))) (hc : G.cls "Order" = C) (T : Cls_Order G.K C) : Nonempty (MdOk G L names "Order" "_last" fd_Order__last) := by
  obtain ⟨a, oc, od, kV, dc, pm, an, cd, ct, sl, h1, hf, h2, h3, h4⟩ := T.m__last
  have F := fun_mk (st := s_Order__last) h2 h3 h4
  refine ⟨⟨⟨s_Order__last, a, _, n_Order__last, ["self", "process", "event"], _, _, F, sc_Order__last, F.binds (ps := ["self", "process", "event"]) fun _ _ _ _ _ _ us hl => match us, hl with | [_, _, _], _ => rfl, rfl, rfl, mt_Order__last⟩, by rw [hc]; exact ⟨T.pg, T.hd, T.po, T.sa⟩, by rw [hc]; exact ⟨h1, hf, h4⟩, fun e => ?_⟩⟩
  exact absurd e (by decide +kernel)
theorem ok_Order_size {G : Glob} {h : Heap} (X : G.K.In h) (N : h.Ns mainGlobals G.mg) {C : Addr} (hn : PySem.W.nsIn G.K mainGlobals "Order" = some (some (.ref C))) (hc : G.cls "Order" = C) (T : Cls_Order G.K C) : Nonempty (MdOk G L names "Order" "size" fd_Order_size) := by
  obtain ⟨a, oc, od, kV, dc, pm, an, cd, ct, sl, h1, hf, h2, h3, h4⟩ := T.m_size
  have F := fun_mk (st := s_Order_size) h2 h3 h4
  refine ⟨⟨⟨s_Order_size, a, _, n_Order_size, ["self", "process"], _, _, F, sc_Order_size, F.binds (ps := ["self", "process"]) fun _ _ _ _ _ _ us hl => match us, hl with | [_, _], _ => rfl, rfl, rfl, mt_Order_size⟩, by rw [hc]; exact ⟨T.pg, T.hd, T.po, T.sa⟩, by rw [hc]; exact ⟨h1, hf, h4⟩, fun e => ?_⟩⟩
  exact absurd e (by decide +kernel)
/-- a class of errors -/
structure Err (K : PySem.W.Frag) (C : Addr) : Prop where
  ex : PySem.W.excIn K C [.type "ValueError", .type "Exception", .type "BaseException", .type "object"] "ValueError.__new__" = true
  kp : PySem.W.keepIn K (.ref C) = true
  su : PySem.W.subIn K (.ref C) (.type "BaseException") = some true
  ty : PySem.W.typeIn K (.ref C) = some (.type "type")
  is_ : PySem.W.isClsIn K C = true
theorem exm_of {K : PySem.W.Frag} {C S : Addr} (a : PySem.W.subIn K (.ref C) (.type "BaseException") = some true) (b : Err K S) (h4 : PySem.W.subIn K (.ref C) (.ref S) = some true) : PySem.W.exmOne K (.ref C) (.ref S) = some true := by
  have e1 : (PySem.W.subIn K (.ref S) (.type "BaseException") == some true) = true := by rw [b.su] <;> rfl
  have e2 : ((PySem.W.clsIn K S).isSome && PySem.W.typeIn K (.ref S) == some (.type "type")) = true := by
    have := b.is_
    unfold PySem.W.isClsIn at this
    rw [b.ty, this]; rfl
  show (if (PySem.W.subIn K (.ref S) (.type "BaseException") == some true) = true then (if ((PySem.W.clsIn K S).isSome && PySem.W.typeIn K (.ref S) == some (.type "type")) = true then PySem.W.subIn K (.ref C) (.ref S) else none) else none) = some true
  rw [if_pos e1, if_pos e2]
  exact h4
theorem err_mk {K : PySem.W.Frag} {x : Str} {C : Addr} (h : PySem.W.nsIn K mainGlobals x = some (some (.ref C))) (e : Err K C) : ∃ C, PySem.W.nsIn K mainGlobals x = some (some (.ref C)) ∧ Err K C := ⟨C, h, e⟩
theorem err_ok {G : Glob} {h : Heap} {x : Str} (X : G.K.In h) (N : h.Ns mainGlobals G.mg) (hG : G.cls = clsA G.K) (z : ∃ C, PySem.W.nsIn G.K mainGlobals x = some (some (.ref C)) ∧ Err G.K C) : ExcOk G x := by
  obtain ⟨C, h1, e⟩ := z
  have hc : G.cls x = C := by rw [hG]; exact clsA_of h1
  exact ⟨by rw [hc]; exact PySem.W.mg_of X N h1, by rw [hc]; exact e.ex, by rw [hc]; exact e.kp, by rw [hc]; exact e.su, by rw [hc]; exact e.ty⟩
theorem exm_ok {G : Glob} {c x : Str} (hG : G.cls = clsA G.K) (z : ∃ C, PySem.W.nsIn G.K mainGlobals c = some (some (.ref C)) ∧ Err G.K C) (y : ∃ C, PySem.W.nsIn G.K mainGlobals x = some (some (.ref C)) ∧ Err G.K C)
    (s : PySem.W.subIn G.K (.ref (clsA G.K c)) (.ref (clsA G.K x)) = some true) : PySem.W.exmOne G.K (.ref (G.cls c)) (.ref (G.cls x)) = some true := by
  obtain ⟨C, h1, e⟩ := z
  obtain ⟨D, h2, e2⟩ := y
  rw [hG]
  rw [clsA_of h1, clsA_of h2] at s ⊢
  exact exm_of e.su e2 s
theorem sub_mk {K : PySem.W.Frag} {c x : Str} {C D : Addr} (h1 : PySem.W.nsIn K mainGlobals c = some (some (.ref C))) (h2 : PySem.W.nsIn K mainGlobals x = some (some (.ref D))) (s : PySem.W.subIn K (.ref C) (.ref D) = some true) : PySem.W.subIn K (.ref (clsA K c)) (.ref (clsA K x)) = some true := by rw [clsA_of h1, clsA_of h2]; exact s
theorem cls_mk {K : PySem.W.Frag} {x : Str} {C : Addr} {P : PySem.W.Frag → Addr → Prop} (h : PySem.W.nsIn K mainGlobals x = some (some (.ref C))) (e : P K C) : ∃ C, PySem.W.nsIn K mainGlobals x = some (some (.ref C)) ∧ P K C := ⟨C, h, e⟩
theorem has_mk {K : PySem.W.Frag} {f : Str} {s : Stmt} {a : Addr} {oc : Value} {od : Option Addr} {kV dc pm : Value} {an : Option Addr} {cd ct : Value} {sl : Array (Option Value)} (h1 : PySem.W.nsIn K mainGlobals f = some (some (.ref a)))
  (h2 : K.lookup a = some ⟨oc, od, .func (PySem.W.fnOf f f (defArgs s) (defBody s) (defScope s) .none kV dc pm an cd ct), sl⟩) (h3 : PySem.W.codeIn K cd f = true) (h4 : PySem.W.keepIn K (.ref a) = true) : Has K f s := ⟨_, _, _, _, _, _, _, _, _, _, h1, h2, h3, h4⟩
theorem hasM_mk {K : PySem.W.Frag} {C : Addr} {m q : Str} {s : Stmt} {a : Addr} {oc : Value} {od : Option Addr} {kV dc pm : Value} {an : Option Addr} {cd ct : Value} {sl : Array (Option Value)} (h1 : PySem.W.findIn K (.ref C) m = some (some (.ref a))) (hf : PySem.W.isFn K (.ref a) = true)
  (h2 : K.lookup a = some ⟨oc, od, .func (PySem.W.fnOf m q (defArgs s) (defBody s) (defScope s) .none kV dc pm an cd ct), sl⟩) (h3 : PySem.W.codeIn K cd q = true) (h4 : PySem.W.keepIn K (.ref a) = true) : HasM K C m q s := ⟨_, _, _, _, _, _, _, _, _, _, h1, hf, h2, h3, h4⟩
theorem int_mk {K : PySem.W.Frag} {x : Str} {i : Int} {t : Tok} (h : PySem.W.nsIn K mainGlobals x = some (some (.int i t))) : ∃ t, PySem.W.nsIn K mainGlobals x = some (some (.int i t)) := ⟨t, h⟩
theorem mk_VARIABLES {K : PySem.W.Frag} {a : Addr} {n : Nat} {sl : Array (Option Value)} {t0 t1 t2 t3 : Tok} (h1 : PySem.W.nsIn K mainGlobals "VARIABLES" = some (some (.ref a))) (h2 : K.lookup a = some ⟨.type "tuple", none, .seq #[.str "a" t0, .str "b" t1, .str "c" t2, .str "d" t3] n, sl⟩) :
  ∃ (a : Addr) (n : Nat) (sl : Array (Option Value)) (t0 t1 t2 t3 : Tok), PySem.W.nsIn K mainGlobals "VARIABLES" = some (some (.ref a)) ∧ K.lookup a = some ⟨.type "tuple", none, .seq #[.str "a" t0, .str "b" t1, .str "c" t2, .str "d" t3] n, sl⟩ := ⟨_, _, _, _, _, _, _, h1, h2⟩
structure Top (K : PySem.W.Frag) : Prop where
  h_is_integer : Has K "is_integer" s_is_integer
  h_is_event : Has K "is_event" s_is_event
  h_is_run : Has K "is_run" s_is_run
  h_one_row : Has K "one_row" s_one_row
  h_letters_once : Has K "letters_once" s_letters_once
  h__is_row : Has K "_is_row" s__is_row
  h__is_named : Has K "_is_named" s__is_named
  h__is_variable : Has K "_is_variable" s__is_variable
  h__are_changes : Has K "_are_changes" s__are_changes
  h__is_change : Has K "_is_change" s__is_change
  h__is_process : Has K "_is_process" s__is_process
  h__sends_of : Has K "_sends_of" s__sends_of
  h__clocks_of : Has K "_clocks_of" s__clocks_of
  h__states_of : Has K "_states_of" s__states_of
  h__balances_of : Has K "_balances_of" s__balances_of
  h__law_draws : Has K "_law_draws" s__law_draws
  h__law_changes : Has K "_law_changes" s__law_changes
  h__law_made : Has K "_law_made" s__law_made
  h__law_all : Has K "_law_all" s__law_all
  h__law_is_cut : Has K "_law_is_cut" s__law_is_cut
  h__law_cuts : Has K "_law_cuts" s__law_cuts
  h__law_state : Has K "_law_state" s__law_state
  h__law_way : Has K "_law_way" s__law_way
  h__law_small : Has K "_law_small" s__law_small
  h_law : Has K "law" s_law
  k_Order : ∃ C, PySem.W.nsIn K mainGlobals "Order" = some (some (.ref C)) ∧ Cls_Order K C
  e_BadRun : ∃ C, PySem.W.nsIn K mainGlobals "BadRun" = some (some (.ref C)) ∧ Err K C
  r_0 : PySem.W.subIn K (.ref (clsA K "BadRun")) (.ref (clsA K "BadRun")) = some true
  c_MOST_PROCESSES : ∃ t, PySem.W.nsIn K mainGlobals "MOST_PROCESSES" = some (some (.int 6 t))
  c_MOST_EVENTS : ∃ t, PySem.W.nsIn K mainGlobals "MOST_EVENTS" = some (some (.int 30 t))
  c_MOST_VALUE : ∃ t, PySem.W.nsIn K mainGlobals "MOST_VALUE" = some (some (.int 1000 t))
  c_MOST_LETTER : ∃ t, PySem.W.nsIn K mainGlobals "MOST_LETTER" = some (some (.int 999 t))
  c_VARIABLES : ∃ (a : Addr) (n : Nat) (sl : Array (Option Value)) (t0 t1 t2 t3 : Tok), PySem.W.nsIn K mainGlobals "VARIABLES" = some (some (.ref a)) ∧ K.lookup a = some ⟨.type "tuple", none, .seq #[.str "a" t0, .str "b" t1, .str "c" t2, .str "d" t3] n, sl⟩
  z_len : PySem.W.nsIn K mainGlobals "len" = some none
  z_int : PySem.W.nsIn K mainGlobals "int" = some none
  z_str : PySem.W.nsIn K mainGlobals "str" = some none
  z_tuple : PySem.W.nsIn K mainGlobals "tuple" = some none
  z_list : PySem.W.nsIn K mainGlobals "list" = some none
  z_sum : PySem.W.nsIn K mainGlobals "sum" = some none
  z_all : PySem.W.nsIn K mainGlobals "all" = some none
  z_max : PySem.W.nsIn K mainGlobals "max" = some none
  z_min : PySem.W.nsIn K mainGlobals "min" = some none
  z_abs : PySem.W.nsIn K mainGlobals "abs" = some none
  z_sorted : PySem.W.nsIn K mainGlobals "sorted" = some none
  z_set : PySem.W.nsIn K mainGlobals "set" = some none
  z_range : PySem.W.nsIn K mainGlobals "range" = some none
  z_type : PySem.W.nsIn K mainGlobals "type" = some none
  z_isinstance : PySem.W.nsIn K mainGlobals "isinstance" = some none
  z_bool : PySem.W.nsIn K mainGlobals "bool" = some none
  z_enumerate : PySem.W.nsIn K mainGlobals "enumerate" = some none
  z_zip : PySem.W.nsIn K mainGlobals "zip" = some none
theorem plain_of {G : Glob} {h : Heap} (X : G.K.In h) (N : h.Ns mainGlobals G.mg) (T : Top G.K) : Plain G where
  bi := fun f => by cases f <;> first | exact PySem.W.mg_none_of X N T.z_len | exact PySem.W.mg_none_of X N T.z_int | exact PySem.W.mg_none_of X N T.z_str | exact PySem.W.mg_none_of X N T.z_tuple | exact PySem.W.mg_none_of X N T.z_list | exact PySem.W.mg_none_of X N T.z_sum | exact PySem.W.mg_none_of X N T.z_all | exact PySem.W.mg_none_of X N T.z_max | exact PySem.W.mg_none_of X N T.z_min | exact PySem.W.mg_none_of X N T.z_abs | exact PySem.W.mg_none_of X N T.z_sorted | exact PySem.W.mg_none_of X N T.z_set
  range := PySem.W.mg_none_of X N T.z_range
  type := PySem.W.mg_none_of X N T.z_type
  isinst := PySem.W.mg_none_of X N T.z_isinstance
  enum := PySem.W.mg_none_of X N T.z_enumerate
  zip_ := PySem.W.mg_none_of X N T.z_zip
  ty := fun t ht => by rcases tyOk_cases ht with rfl | rfl | rfl | rfl | rfl <;> first | exact PySem.W.mg_none_of X N T.z_int | exact PySem.W.mg_none_of X N T.z_bool | exact PySem.W.mg_none_of X N T.z_str | exact PySem.W.mg_none_of X N T.z_tuple | exact PySem.W.mg_none_of X N T.z_list
theorem consts_of {G : Glob} {h : Heap} (X : G.K.In h) (N : h.Ns mainGlobals G.mg) (T : Top G.K) : ConstsOk G L.cs := by
  intro x d e
  have m := lookup_mem e
  simp only [csL, List.mem_cons, Prod.mk.injEq, List.not_mem_nil, or_false] at m
  rcases m with ⟨rfl, rfl⟩ | ⟨rfl, rfl⟩ | ⟨rfl, rfl⟩ | ⟨rfl, rfl⟩ | ⟨rfl, rfl⟩
  · obtain ⟨t, h1⟩ := T.c_MOST_PROCESSES
    exact ⟨_, .int 6, PySem.W.mg_of X N h1, ⟨t, rfl⟩, fun ρ H => rv_int.mpr rfl, fun ds e => nomatch e⟩
  · obtain ⟨t, h1⟩ := T.c_MOST_EVENTS
    exact ⟨_, .int 30, PySem.W.mg_of X N h1, ⟨t, rfl⟩, fun ρ H => rv_int.mpr rfl, fun ds e => nomatch e⟩
  · obtain ⟨t, h1⟩ := T.c_MOST_VALUE
    exact ⟨_, .int 1000, PySem.W.mg_of X N h1, ⟨t, rfl⟩, fun ρ H => rv_int.mpr rfl, fun ds e => nomatch e⟩
  · obtain ⟨t, h1⟩ := T.c_MOST_LETTER
    exact ⟨_, .int 999, PySem.W.mg_of X N h1, ⟨t, rfl⟩, fun ρ H => rv_int.mpr rfl, fun ds e => nomatch e⟩
  · obtain ⟨a, n, sl, t0, t1, t2, t3, h1, h2⟩ := T.c_VARIABLES
    exact ⟨_, .ref a, PySem.W.mg_of X N h1, rfl, fun ρ H => rv_tup.mpr ⟨a, [.str "a", .str "b", .str "c", .str "d"], rfl, .inr ⟨_, _, n, h2, rfl, rfl, by show 4 ≤ sizeLine; rw [sizeLine_eq]; omega, .cons ⟨t0, rfl⟩ (.cons ⟨t1, rfl⟩ (.cons ⟨t2, rfl⟩ (.cons ⟨t3, rfl⟩ (.nil))))⟩, RVs.cons_ (rv_str.mpr rfl) (RVs.cons_ (rv_str.mpr rfl) (RVs.cons_ (rv_str.mpr rfl) (RVs.cons_ (rv_str.mpr rfl) (RVs.nil_))))⟩, fun ds e => ⟨a, _, rfl, h2, rfl, rfl⟩⟩
theorem defs_of {G : Glob} {h : Heap} (X : G.K.In h) (N : h.Ns mainGlobals G.mg) (T : Top G.K) : ∀ f ∈ names, Nonempty (DefOk G L names f) := by
  intro f hf
  simp only [names, List.mem_cons, List.not_mem_nil, or_false] at hf
  rcases hf with rfl | rfl | rfl | rfl | rfl | rfl | rfl | rfl | rfl | rfl | rfl | rfl | rfl | rfl | rfl | rfl | rfl | rfl | rfl | rfl | rfl | rfl | rfl | rfl | rfl
  · exact ok_is_integer X N T.h_is_integer
  · exact ok_is_event X N T.h_is_event
  · exact ok_is_run X N T.h_is_run
  · exact ok_one_row X N T.h_one_row
  · exact ok_letters_once X N T.h_letters_once
  · exact ok__is_row X N T.h__is_row
  · exact ok__is_named X N T.h__is_named
  · exact ok__is_variable X N T.h__is_variable
  · exact ok__are_changes X N T.h__are_changes
  · exact ok__is_change X N T.h__is_change
  · exact ok__is_process X N T.h__is_process
  · exact ok__sends_of X N T.h__sends_of
  · exact ok__clocks_of X N T.h__clocks_of
  · exact ok__states_of X N T.h__states_of
  · exact ok__balances_of X N T.h__balances_of
  · exact ok__law_draws X N T.h__law_draws
  · exact ok__law_changes X N T.h__law_changes
  · exact ok__law_made X N T.h__law_made
  · exact ok__law_all X N T.h__law_all
  · exact ok__law_is_cut X N T.h__law_is_cut
  · exact ok__law_cuts X N T.h__law_cuts
  · exact ok__law_state X N T.h__law_state
  · exact ok__law_way X N T.h__law_way
  · exact ok__law_small X N T.h__law_small
  · exact ok_law X N T.h_law
theorem mths_of {G : Glob} {h : Heap} (X : G.K.In h) (N : h.Ns mainGlobals G.mg) (hG : G.cls = clsA G.K) (T : Top G.K) : ∀ c m d, L.mth c m = some d → Nonempty (MdOk G L names c m d) := by
  intro c m d e
  have q := mth_cases e
  rcases q with ⟨rfl, rfl, rfl⟩ | ⟨rfl, rfl, rfl⟩ | ⟨rfl, rfl, rfl⟩ | ⟨rfl, rfl, rfl⟩ | ⟨rfl, rfl, rfl⟩
  · obtain ⟨C, h1, z⟩ := T.k_Order
    exact ok_Order___init__ X N h1 (by rw [hG]; exact clsA_of h1) z
  · obtain ⟨C, h1, z⟩ := T.k_Order
    exact ok_Order_state X N h1 (by rw [hG]; exact clsA_of h1) z
  · obtain ⟨C, h1, z⟩ := T.k_Order
    exact ok_Order_under_way X N h1 (by rw [hG]; exact clsA_of h1) z
  · obtain ⟨C, h1, z⟩ := T.k_Order
    exact ok_Order__last X N h1 (by rw [hG]; exact clsA_of h1) z
  · obtain ⟨C, h1, z⟩ := T.k_Order
    exact ok_Order_size X N h1 (by rw [hG]; exact clsA_of h1) z
theorem sub_of {G : Glob} {h : Heap} (X : G.K.In h) (N : h.Ns mainGlobals G.mg) (hG : G.cls = clsA G.K) (T : Top G.K) : SubOk G L.sub := by
  constructor
  · intro c x e
    have q := sub_cases e
    rcases q with ⟨rfl, rfl⟩
    · exact ⟨err_ok X N hG T.e_BadRun, err_ok X N hG T.e_BadRun, exm_ok hG T.e_BadRun T.e_BadRun T.r_0⟩
  · intro c f e
    have q := fld_cases e
    rcases q with ⟨rfl, rfl⟩ | ⟨rfl, rfl⟩ | ⟨rfl, rfl⟩ | ⟨rfl, rfl⟩ | ⟨rfl, rfl⟩
    · obtain ⟨C, h1, z⟩ := T.k_Order
      rw [hG, clsA_of h1]
      exact z.n__balances
    · obtain ⟨C, h1, z⟩ := T.k_Order
      rw [hG, clsA_of h1]
      exact z.n__clocks
    · obtain ⟨C, h1, z⟩ := T.k_Order
      rw [hG, clsA_of h1]
      exact z.n__run
    · obtain ⟨C, h1, z⟩ := T.k_Order
      rw [hG, clsA_of h1]
      exact z.n__sends
    · obtain ⟨C, h1, z⟩ := T.k_Order
      rw [hG, clsA_of h1]
      exact z.n__states
theorem kept : Kept L 41 := Th.law_kept
theorem law_fn (kept : Kept L 41) {P : Program} {w : World} {K : PySem.W.Frag} {mg : Str → Option Value} {h : Heap} {fa : Addr} (X : K.In h) (N : h.Ns mainGlobals mg) (hfa : mg "law" = some (.ref fa)) (T : Top K) :
    ∃ fd : FuncData, (∀ (s : Shared) (v : Value), BindsTo s fd ⟨[v], []⟩ [("script", v)]) ∧ ∀ base : Heap, K.In base → base.Ns mainGlobals mg → FnOk P w K mg base (L2.CX P w) 82 fa fd ["script"] (spLaw K) := by
  obtain ⟨a, oc, od, kV, dc, pm, an, cd, ct, sl, h1, h2, h3, h4⟩ := T.h_law
  have e := hfa.symm.trans (PySem.W.mg_of X N h1)
  cases e
  have F := fun_mk (st := s_law) h2 h3 h4
  refine ⟨PySem.W.fnOf "law" "law" (defArgs s_law) (defBody s_law) (defScope s_law) .none kV dc pm an cd ct, fun s v => .of_eq rfl, fun base _ _ => ?_⟩
  let G : Glob := ⟨P, w, K, mg, base, clsA K, L.cs⟩
  have hp : Plain G := plain_of (G := G) X N T
  have hc : ConstsOk G L.cs := consts_of (G := G) X N T
  have hs : SubOk G L.sub := sub_of (G := G) X N rfl T
  have hd := defs_of (G := G) X N T
  have hm := mths_of (G := G) X N rfl T
  have B : BodyOk G L names fd_law := ⟨s_law, _, _, n_law, ["script"], _, _, F, sc_law, F.binds (ps := ["script"]) fun _ _ _ _ _ _ us hl => match us, hl with | [_], _ => rfl, rfl, rfl, mt_law⟩
  have d : FnOk P w K mg base (L2.CX P w) 82 fa (PySem.W.fnOf "law" "law" (defArgs s_law) (defBody s_law) (defScope s_law) .none kV dc pm an cd ct) ["script"] (spD G 1 (callK L 41 "law")) := body_step hp hc hs (calls_ok hp hc hs hd rfl hm 40) (⟨s_law, fa, _, n_law, ["script"], _, _, F, sc_law, F.binds (ps := ["script"]) fun _ _ _ _ _ _ us hl => match us, hl with | [_], _ => rfl, rfl, rfl, mt_law⟩ : BodyOk G L names fd_law) (callK_fn fn_law 40)
  exact d.imp fun vs H Q E q => law_imp (G := G) kept q
theorem walk (kept : Kept L 41) {l : PySem.W.OpenLaw} {q : Program} {loose : List Str} {XP : (Str → Option Value) → Heap → Prop} {YP : World → Heap → Prop} {d : DefRec} {K : Params → PySem.W.Frag} (hn : l.most = some 63) (hdf : d.params.defaults = []) (hname : d.name = "law")
    (hY : ∀ (w : World) (h : Heap), YP w h → (K w.params).In h) (F : ∀ w : World, Top (K w.params)) :
    PySem.W.WalkO q loose XP YP l.row.toRowW d [] (fun f vs => PySem.call f vs) :=
  L2.walk_of (n := 63) (k := 82) (x := "script") (CX := fun w => L2.CX l.prog w) (sp := fun w => spLaw (K w.params)) hn (by rw [sizeLine_eq]; decide) hdf ⟨rfl, by decide, by decide⟩ hY
    (fun w mg fa h X N hm => law_fn kept X N (hname ▸ hm) (F w))
    (fun w H a ns hl o hS => ⟨a, ns, rfl, fq_of o hS, hl, fun _ => rfl⟩) fun w H s e s1 z => by
      obtain ⟨_, _, _, _, _, _, _, _, _, _, _, _, z⟩ := z
      exact z
end KK
open PySem PySem.W PyProof.Rows in
set_option maxRecDepth 100000 in
set_option maxHeartbeats 0 in
theorem PySem.Challenge.cw_cutpapers_k11_states_and_letters_holds : PySem.Challenge.rw_cutpapers_k11_states_and_letters.Holds := by
  w_on; o_law; k_head; (case hw => w_witness2)
  k_fill
  refine KK.walk KK.kept (l := PySem.Challenge.rw_cutpapers_k11_states_and_letters) rfl rfl rfl (fun w h Y => PySem.W.kIn_of Y) ?F
  case F =>
    intro w
    constructor
    case h_is_integer => (refine' KK.has_mk ?h1 ?h2 ?h3 ?h4; (case h1 => k_is); (case h2 => k_is); (case h3 => k_is); (case h4 => k_is))
    case h_is_event => (refine' KK.has_mk ?h1 ?h2 ?h3 ?h4; (case h1 => k_is); (case h2 => k_is); (case h3 => k_is); (case h4 => k_is))
    case h_is_run => (refine' KK.has_mk ?h1 ?h2 ?h3 ?h4; (case h1 => k_is); (case h2 => k_is); (case h3 => k_is); (case h4 => k_is))
    case h_one_row => (refine' KK.has_mk ?h1 ?h2 ?h3 ?h4; (case h1 => k_is); (case h2 => k_is); (case h3 => k_is); (case h4 => k_is))
    case h_letters_once => (refine' KK.has_mk ?h1 ?h2 ?h3 ?h4; (case h1 => k_is); (case h2 => k_is); (case h3 => k_is); (case h4 => k_is))
    case h__is_row => (refine' KK.has_mk ?h1 ?h2 ?h3 ?h4; (case h1 => k_is); (case h2 => k_is); (case h3 => k_is); (case h4 => k_is))
    case h__is_named => (refine' KK.has_mk ?h1 ?h2 ?h3 ?h4; (case h1 => k_is); (case h2 => k_is); (case h3 => k_is); (case h4 => k_is))
    case h__is_variable => (refine' KK.has_mk ?h1 ?h2 ?h3 ?h4; (case h1 => k_is); (case h2 => k_is); (case h3 => k_is); (case h4 => k_is))
    case h__are_changes => (refine' KK.has_mk ?h1 ?h2 ?h3 ?h4; (case h1 => k_is); (case h2 => k_is); (case h3 => k_is); (case h4 => k_is))
    case h__is_change => (refine' KK.has_mk ?h1 ?h2 ?h3 ?h4; (case h1 => k_is); (case h2 => k_is); (case h3 => k_is); (case h4 => k_is))
    case h__is_process => (refine' KK.has_mk ?h1 ?h2 ?h3 ?h4; (case h1 => k_is); (case h2 => k_is); (case h3 => k_is); (case h4 => k_is))
    case h__sends_of => (refine' KK.has_mk ?h1 ?h2 ?h3 ?h4; (case h1 => k_is); (case h2 => k_is); (case h3 => k_is); (case h4 => k_is))
    case h__clocks_of => (refine' KK.has_mk ?h1 ?h2 ?h3 ?h4; (case h1 => k_is); (case h2 => k_is); (case h3 => k_is); (case h4 => k_is))
    case h__states_of => (refine' KK.has_mk ?h1 ?h2 ?h3 ?h4; (case h1 => k_is); (case h2 => k_is); (case h3 => k_is); (case h4 => k_is))
    case h__balances_of => (refine' KK.has_mk ?h1 ?h2 ?h3 ?h4; (case h1 => k_is); (case h2 => k_is); (case h3 => k_is); (case h4 => k_is))
    case h__law_draws => (refine' KK.has_mk ?h1 ?h2 ?h3 ?h4; (case h1 => k_is); (case h2 => k_is); (case h3 => k_is); (case h4 => k_is))
    case h__law_changes => (refine' KK.has_mk ?h1 ?h2 ?h3 ?h4; (case h1 => k_is); (case h2 => k_is); (case h3 => k_is); (case h4 => k_is))
    case h__law_made => (refine' KK.has_mk ?h1 ?h2 ?h3 ?h4; (case h1 => k_is); (case h2 => k_is); (case h3 => k_is); (case h4 => k_is))
    case h__law_all => (refine' KK.has_mk ?h1 ?h2 ?h3 ?h4; (case h1 => k_is); (case h2 => k_is); (case h3 => k_is); (case h4 => k_is))
    case h__law_is_cut => (refine' KK.has_mk ?h1 ?h2 ?h3 ?h4; (case h1 => k_is); (case h2 => k_is); (case h3 => k_is); (case h4 => k_is))
    case h__law_cuts => (refine' KK.has_mk ?h1 ?h2 ?h3 ?h4; (case h1 => k_is); (case h2 => k_is); (case h3 => k_is); (case h4 => k_is))
    case h__law_state => (refine' KK.has_mk ?h1 ?h2 ?h3 ?h4; (case h1 => k_is); (case h2 => k_is); (case h3 => k_is); (case h4 => k_is))
    case h__law_way => (refine' KK.has_mk ?h1 ?h2 ?h3 ?h4; (case h1 => k_is); (case h2 => k_is); (case h3 => k_is); (case h4 => k_is))
    case h__law_small => (refine' KK.has_mk ?h1 ?h2 ?h3 ?h4; (case h1 => k_is); (case h2 => k_is); (case h3 => k_is); (case h4 => k_is))
    case h_law => (refine' KK.has_mk ?h1 ?h2 ?h3 ?h4; (case h1 => k_is); (case h2 => k_is); (case h3 => k_is); (case h4 => k_is))
    case k_Order =>
      refine' KK.cls_mk ?h1 ?h2; (case h1 => k_is)
      case h2 =>
        constructor
        case pg => k_is
        case hd => k_is
        case po => k_is
        case sa => k_is
        case mkI => k_is
        case kp => k_is
        case n__balances => k_is
        case n__clocks => k_is
        case n__run => k_is
        case n__sends => k_is
        case n__states => k_is
        case m___init__ => (refine' KK.hasM_mk ?h1 ?hf ?h2 ?h3 ?h4; (case h1 => k_is); (case hf => k_is); (case h2 => k_is); (case h3 => k_is); (case h4 => k_is))
        case m_state => (refine' KK.hasM_mk ?h1 ?hf ?h2 ?h3 ?h4; (case h1 => k_is); (case hf => k_is); (case h2 => k_is); (case h3 => k_is); (case h4 => k_is))
        case m_under_way => (refine' KK.hasM_mk ?h1 ?hf ?h2 ?h3 ?h4; (case h1 => k_is); (case hf => k_is); (case h2 => k_is); (case h3 => k_is); (case h4 => k_is))
        case m__last => (refine' KK.hasM_mk ?h1 ?hf ?h2 ?h3 ?h4; (case h1 => k_is); (case hf => k_is); (case h2 => k_is); (case h3 => k_is); (case h4 => k_is))
        case m_size => (refine' KK.hasM_mk ?h1 ?hf ?h2 ?h3 ?h4; (case h1 => k_is); (case hf => k_is); (case h2 => k_is); (case h3 => k_is); (case h4 => k_is))
    case e_BadRun =>
      refine' KK.err_mk ?h1 ?h2; (case h1 => k_is)
      case h2 => (constructor; (case ex => k_exc); (case kp => k_is); (case su => k_is); (case ty => k_is); (case is_ => k_is))
    case r_0 => (refine' KK.sub_mk ?h1 ?h2 ?h3; (case h1 => k_is); (case h2 => k_is); (case h3 => first | rfl | k_is))
    case c_MOST_PROCESSES => (refine' KK.int_mk ?h1; (case h1 => k_is))
    case c_MOST_EVENTS => (refine' KK.int_mk ?h1; (case h1 => k_is))
    case c_MOST_VALUE => (refine' KK.int_mk ?h1; (case h1 => k_is))
    case c_MOST_LETTER => (refine' KK.int_mk ?h1; (case h1 => k_is))
    case c_VARIABLES => (refine' KK.mk_VARIABLES ?h1 ?h2; (case h1 => k_is); (case h2 => k_is))
    case z_len => k_is
    case z_int => k_is
    case z_str => k_is
    case z_tuple => k_is
    case z_list => k_is
    case z_sum => k_is
    case z_all => k_is
    case z_max => k_is
    case z_min => k_is
    case z_abs => k_is
    case z_sorted => k_is
    case z_set => k_is
    case z_range => k_is
    case z_type => k_is
    case z_isinstance => k_is
    case z_bool => k_is
    case z_enumerate => k_is
    case z_zip => k_is

