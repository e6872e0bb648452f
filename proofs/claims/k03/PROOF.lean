import PyProof.Rows.All
import HandS.Base
import HandS.Call
import HandS.List
import HandS.Comp
import HandS.Iter
import HandS.Text
import HandS.Ends
import HandS.StrMore
import HandS.More
import HandS.Deep
import HandS.IsInst
import HandS.TupAny
import HandS.TupLe
import HandS.TupMul
import HandS.Exc
import HandS.ExcOwn
import HandS.CallSlots
import HandS.Flow
import HandS.Words
import HandS.WordsExc
import PySem.Challenge.RW_cutpapers_k03_sentences
set_option linter.all false
set_option maxRecDepth 100000
/-! A small language over plain data, and what it means. -/
namespace Mi
open PySem

inductive D where
  | non | bl (b : Bool) | int (i : Int) | str (x : Str) | tup (xs : List D) | fl (xs : List D) | ref (n : Nat)
  deriving Inhabited

/-- what stands in the store -/
inductive MO where
  | lst (xs : List D)
  | dic (t : Bool) (kvs : List (D × D))
  | sett (xs : List D)
  | ins (C : Str) (fs : List (Str × D))
  deriving Inhabited

abbrev Store := List MO
abbrev Env := List (Option D)

inductive Res where
  | ok (d : D) (st : Store) | exc (c : Str) (st : Store) | bad
inductive ResL where
  | ok (d : List D) (st : Store) | exc (c : Str) (st : Store) | bad
inductive Out where
  | nx (env : Env) (st : Store) | rt (d : D) (st : Store) | bk (env : Env) (st : Store) | ct (env : Env) (st : Store) | exc (c : Str) (env : Env) (st : Store) | bad

def Res.bind : Res → (D → Store → Res) → Res
  | .ok d st, k => k d st
  | .exc c st, _ => .exc c st
  | .bad, _ => .bad
def Res.bindL : Res → (D → Store → ResL) → ResL
  | .ok d st, k => k d st
  | .exc c st, _ => .exc c st
  | .bad, _ => .bad
def ResL.bind : ResL → (List D → Store → Res) → Res
  | .ok d st, k => k d st
  | .exc c st, _ => .exc c st
  | .bad, _ => .bad
def ResL.bindL : ResL → (List D → Store → ResL) → ResL
  | .ok d st, k => k d st
  | .exc c st, _ => .exc c st
  | .bad, _ => .bad
def Res.bindO : Res → Env → (D → Store → Out) → Out
  | .ok d st, _, k => k d st
  | .exc c st, env, _ => .exc c env st
  | .bad, _, _ => .bad
def ResL.bindO : ResL → Env → (List D → Store → Out) → Out
  | .ok d st, _, k => k d st
  | .exc c st, env, _ => .exc c env st
  | .bad, _, _ => .bad
def Out.bind : Out → (Env → Store → Out) → Out
  | .nx env st, k => k env st
  | o, _ => o

abbrev Oracle := Str → List D → Store → Res

/-! ### data as the model's comparison reads it -/
mutual
def D.data : D → Option PyData
  | .non => some .none
  | .bl b => some (.bool b)
  | .int i => some (.int i)
  | .str x => some (.str x)
  | .tup xs => (D.dataL xs).map .tuple
  | .fl xs => (D.dataL xs).map .list
  | .ref _ => none
def D.dataL : List D → Option (List PyData)
  | [] => some []
  | x :: xs => match D.data x, D.dataL xs with
    | some d, some ds => some (d :: ds)
    | _, _ => none
end
/-- .. with one list of the store -/
def dataS (st : Store) (d : D) : Option PyData := match d with
  | .ref n => match st[n]? with
    | some (.lst xs) => (D.dataL xs).map .list
    | _ => none
  | d => D.data d

inductive BOp where | add | sub | mul | fdiv | mod | pow
  deriving DecidableEq
inductive COp where | eq | ne | lt | le | gt | ge | isin | notin | is | isnot
  deriving DecidableEq
inductive UOp where | neg
  deriving DecidableEq
/-- built-in functions and types that are called -/
inductive BI where | len | int | str | tuple | list | sum | all | max | min | abs | sorted | set0
  deriving DecidableEq
/-- methods of built-in values -/
inductive MI where | append | pop | extend | add | get | join | split | partition | startswith | endswith | removeprefix | isascii | isdigit | index | count
  deriving DecidableEq

mutual
inductive E where
  | non | bl (b : Bool) | int (i : Int) | str (x : Str)
  | var (i : Nat)
  | glb (x : Str)
  | un (op : UOp) (a : E)
  | bin (op : BOp) (a b : E)
  | cmp (op : COp) (a b : E)
  | chain (op op' : COp) (a b c : E)
  | and (es : Es) | or (es : Es) | not (a : E)
  | ite (c a b : E)
  | tup (es : Es) | lst (es : Es)
  | dic (t : Bool) (ks vs : Es)
  | idx (a b : E)
  | slc (a : E) (lo hi : Oe)
  | call (f : Str) (es : Es)
  | bi (f : BI) (es : Es)
  | mth (m : MI) (a : E) (es : Es)
  | typeIs (neg : Bool) (a : E) (t : Str)
  | isin (a : E) (t : Str)
  | lc (own : List (Str × Nat)) (tg : Tg) (it : Ie) (cs : Es) (elt : E)
  | fstr (es : Es)
  | attr (a : E) (f : Str)
  | new (C : Str) (es : Es)
  | omth (C : Str) (m : Str) (a : E) (es : Es)
inductive Es where
  | nil | cons (e : E) (es : Es)
inductive Oe where
  | none | some (e : E)
/-- what is walked -/
inductive Ie where
  | exp (e : E) | rng1 (a : E) | rng2 (a b : E) | enm (a : E) (lo : Int) | zip (a b : E)
/-- what a loop assigns to: slots -/
inductive Tg where
  | name (i : Nat) | tup (is : List Nat)
end

def LINE : Nat := 16777216

/-! ### operators -/
/-! bounds, kept shut: what is asked of them is never reckoned out by unfolding -/
def in64 (i : Int) : Prop := -(2 ^ 64) < i ∧ i < 2 ^ 64
def okRep (n : Nat) (j : Int) : Prop := -(2 ^ 63) ≤ j ∧ j < 2 ^ 63 ∧ n * j.toNat ≤ LINE
def okRepT (n : Nat) (j : Int) : Prop := n ≠ 0 ∧ 2 ≤ j ∧ j ≤ 1000 ∧ n ≤ 1000
def okDiv (j : Int) : Prop := 0 < j ∧ j < 1073741824
def okPow (i j : Int) : Prop := 0 ≤ j ∧ j ≤ 1000000 ∧ i.natAbs < 2 ^ 64
noncomputable instance (i : Int) : Decidable (in64 i) := Classical.propDecidable _
noncomputable instance (n : Nat) (i : Int) : Decidable (okRep n i) := Classical.propDecidable _
noncomputable instance (n : Nat) (i : Int) : Decidable (okRepT n i) := Classical.propDecidable _
noncomputable instance (i : Int) : Decidable (okDiv i) := Classical.propDecidable _
noncomputable instance (i j : Int) : Decidable (okPow i j) := Classical.propDecidable _
def strLen (x : Str) : Nat := x.cps.toList.length
noncomputable def binop : BOp → D → D → Store → Res
  | .add, .int i, .int j, st => .ok (.int (i + j)) st
  | .add, .str x, .str y, st => if x.length + y.length ≤ LINE then .ok (.str (x ++ y)) st else .bad
  | .add, .tup xs, .tup ys, st => if xs.length + ys.length ≤ LINE then .ok (.tup (xs ++ ys)) st else .bad
  | .add, .ref n, .ref m, st => match st[n]?, st[m]? with
    | some (.lst xs), some (.lst ys) => if xs.length + ys.length ≤ LINE then .ok (.ref st.length) (st ++ [.lst (xs ++ ys)]) else .bad
    | _, _ => .bad
  | .sub, .int i, .int j, st => .ok (.int (i - j)) st
  | .mul, .int i, .int j, st => if in64 i ∨ in64 j then .ok (.int (i * j)) st else .bad
  | .mul, .ref n, .int j, st => match st[n]? with
    | some (.lst xs) => if okRep xs.length j then .ok (.ref st.length) (st ++ [.lst (List.replicate j.toNat xs).flatten]) else .bad
    | _ => .bad
  | .mul, .tup xs, .int j, st => if okRepT xs.length j then .ok (.tup (List.replicate j.toNat xs).flatten) st else .bad
  | .fdiv, .int i, .int j, st => if okDiv j then .ok (.int (i / j)) st else .bad
  | .mod, .int i, .int j, st => if 0 < j then .ok (.int (i % j)) st else .bad
  | .pow, .int i, .int j, st => if okPow i j then .ok (.int (i ^ j.toNat)) st else .bad
  | _, _, _, _ => .bad

/-- the items of what may be searched by in -/
def seqItems (st : Store) : D → Option (List D)
  | .tup xs => some xs
  | .fl xs => some xs
  | .ref n => match st[n]? with
    | some (.lst xs) => some xs
    | _ => none
  | _ => none
end Mi

set_option linter.all false
set_option maxRecDepth 100000
/-! How the small language's values and store lie in the layer's heap. -/
namespace Mi
open PySem L2

/-- a list that stands still: frozen, or of the written part -/
def FqL (K : PySem.W.Frag) (H : Hp) (a : Addr) (xs : List V) : Prop :=
  (∃ o, H a = some (.frz o (.lst xs))) ∨
    ∃ (o : Obj) (its : Array Value) (n : Nat), K.lookup a = some o ∧ o.cls = .type "list" ∧ o.dict = none ∧ o.data = .seq its n ∧ its.size ≤ sizeLine ∧ Vals xs its.toList
theorem FqL.sq {K : PySem.W.Frag} {H : Hp} {a : Addr} {xs : List V} (h : FqL K H a xs) : SqL K H a xs := by
  rcases h with ⟨o, h⟩ | h
  · exact .inl (.inr ⟨o, h⟩)
  · exact .inr h

section
variable (K : PySem.W.Frag) (ρ : List Addr) (H : Hp)
mutual
def RV : V → D → Prop
  | v, .non => v = .non
  | v, .bl b => v = .bl b
  | v, .int i => v = .int i
  | v, .str x => v = .str x
  | v, .tup ds => ∃ a vs, v = .ref a ∧ SqT K H a vs ∧ RVs vs ds
  | v, .fl ds => ∃ a vs, v = .ref a ∧ FqL K H a vs ∧ RVs vs ds
  | v, .ref n => ∃ a, v = .ref a ∧ ρ[n]? = some a
def RVs : List V → List D → Prop
  | vs, [] => vs = []
  | vs, d :: ds => ∃ v r, vs = v :: r ∧ RV v d ∧ RVs r ds
end
end

/-- what a key is at the layer -/
def keyD : D → Option Key
  | .int i => some (.inl i)
  | .str x => some (.inr x)
  | _ => none
def keysD : List D → Option (List Key)
  | [] => some []
  | d :: ds => match keyD d, keysD ds with
    | some k, some ks => some (k :: ks)
    | _, _ => none
def keyT : D → Option (List Key)
  | .tup xs => keysD xs
  | _ => none

/-- the classes' addresses -/
structure Glob where
  P : Program
  w : World
  K : PySem.W.Frag
  mg : Str → Option Value
  base : Heap
  cls : Str → Addr
  consts : Str → Option D

def RFs (K : PySem.W.Frag) (ρ : List Addr) (H : Hp) : List (Str × V) → List (Str × D) → Prop
  | vs, [] => vs = []
  | vs, (f, d) :: ds => ∃ v r, vs = (f, v) :: r ∧ RV K ρ H v d ∧ RFs K ρ H r ds
def RKs (K : PySem.W.Frag) (ρ : List Addr) (H : Hp) : List (Key × V) → List (D × D) → Prop
  | vs, [] => vs = []
  | vs, (k, d) :: ds => ∃ z v r, vs = (z, v) :: r ∧ keyD k = some z ∧ RV K ρ H v d ∧ RKs K ρ H r ds
def RTs (K : PySem.W.Frag) (ρ : List Addr) (H : Hp) : List (List Key × V) → List (D × D) → Prop
  | vs, [] => vs = []
  | vs, (k, d) :: ds => ∃ z v r, vs = (z, v) :: r ∧ keyT k = some z ∧ RV K ρ H v d ∧ RTs K ρ H r ds

def RO (G : Glob) (ρ : List Addr) (H : Hp) (a : Addr) : MO → Prop
  | .lst ds => ∃ vs, H a = some (.lst vs) ∧ RVs G.K ρ H vs ds
  | .dic false kvs => ∃ ks, H a = some (.dK ks) ∧ RKs G.K ρ H ks kvs
  | .dic true kvs => ∃ ks, H a = some (.dT ks) ∧ RTs G.K ρ H ks kvs
  | .ins C fs => ∃ dx vs, H a = some (.ins (G.cls C) dx vs) ∧ RFs G.K ρ H vs fs
  | .sett ds => False

structure Rel (G : Glob) (ρ : List Addr) (H : Hp) (st : Store) : Prop where
  len : ρ.length = st.length
  nd : ρ.Nodup
  obj : ∀ (n : Nat) (mo : MO) (a : Addr), st[n]? = some mo → ρ[n]? = some a → RO G ρ H a mo

/-- nothing that stands still is lost -/
structure Nx (ρ : List Addr) (H : Hp) (ρ' : List Addr) (H' : Hp) : Prop where
  pre : ∃ l, ρ' = ρ ++ l
  tup : ∀ a xs, H a = some (.tup xs) → H' a = some (.tup xs)
  frz : ∀ a o u, H a = some (.frz o u) → H' a = some (.frz o u)
theorem Nx.refl {ρ : List Addr} {H : Hp} : Nx ρ H ρ H := ⟨⟨[], by simp⟩, fun _ _ h => h, fun _ _ _ h => h⟩
theorem Nx.trans {ρ ρ1 ρ2 : List Addr} {H H1 H2 : Hp} (a : Nx ρ H ρ1 H1) (b : Nx ρ1 H1 ρ2 H2) : Nx ρ H ρ2 H2 := by
  obtain ⟨⟨l, e⟩, t, f⟩ := a
  obtain ⟨⟨l', e'⟩, t', f'⟩ := b
  exact ⟨⟨l ++ l', by rw [e', e, List.append_assoc]⟩, fun x xs h => t' x xs (t x xs h), fun x o u h => f' x o u (f x o u h)⟩
section
variable {K : PySem.W.Frag} {ρ ρ' : List Addr} {H H' : Hp}
theorem Nx.at_ (n : Nx ρ H ρ' H') {i : Nat} {a : Addr} (h : ρ[i]? = some a) : ρ'[i]? = some a := by
  obtain ⟨l, e⟩ := n.pre
  obtain ⟨hi, e2⟩ := List.getElem?_eq_some_iff.mp h
  rw [e, List.getElem?_append_left hi]; exact h
theorem Nx.sqT (n : Nx ρ H ρ' H') {a : Addr} {xs : List V} (h : SqT K H a xs) : SqT K H' a xs := by
  rcases h with (h | ⟨o, h⟩) | h
  · exact .inl (.inl (n.tup _ _ h))
  · exact .inl (.inr ⟨o, n.frz _ _ _ h⟩)
  · exact .inr h
theorem Nx.fqL (n : Nx ρ H ρ' H') {a : Addr} {xs : List V} (h : FqL K H a xs) : FqL K H' a xs := by
  rcases h with ⟨o, h⟩ | h
  · exact .inl ⟨o, n.frz _ _ _ h⟩
  · exact .inr h
mutual
theorem RV.mono (n : Nx ρ H ρ' H') : ∀ (d : D) {v : V}, RV K ρ H v d → RV K ρ' H' v d
  | .non, _, h => by unfold RV at h ⊢; exact h
  | .bl _, _, h => by unfold RV at h ⊢; exact h
  | .int _, _, h => by unfold RV at h ⊢; exact h
  | .str _, _, h => by unfold RV at h ⊢; exact h
  | .tup ds, _, h => by
    unfold RV at h ⊢
    obtain ⟨a, vs, e, s, r⟩ := h
    exact ⟨a, vs, e, n.sqT s, RVs.mono n ds r⟩
  | .fl ds, _, h => by
    unfold RV at h ⊢
    obtain ⟨a, vs, e, s, r⟩ := h
    exact ⟨a, vs, e, n.fqL s, RVs.mono n ds r⟩
  | .ref m, _, h => by
    unfold RV at h ⊢
    obtain ⟨a, e, s⟩ := h
    exact ⟨a, e, n.at_ s⟩
theorem RVs.mono (n : Nx ρ H ρ' H') : ∀ (ds : List D) {vs : List V}, RVs K ρ H vs ds → RVs K ρ' H' vs ds
  | [], _, h => by unfold RVs at h ⊢; exact h
  | d :: ds, _, h => by
    unfold RVs at h ⊢
    obtain ⟨v, r, e, h1, h2⟩ := h
    exact ⟨v, r, e, RV.mono n d h1, RVs.mono n ds h2⟩
end
theorem RFs.mono (n : Nx ρ H ρ' H') : ∀ (ds : List (Str × D)) {vs : List (Str × V)}, RFs K ρ H vs ds → RFs K ρ' H' vs ds
  | [], _, h => h
  | (f, d) :: ds, _, h => by
    obtain ⟨v, r, e, h1, h2⟩ := h
    exact ⟨v, r, e, RV.mono n d h1, RFs.mono n ds h2⟩
theorem RKs.mono (n : Nx ρ H ρ' H') : ∀ (ds : List (D × D)) {vs : List (Key × V)}, RKs K ρ H vs ds → RKs K ρ' H' vs ds
  | [], _, h => h
  | (f, d) :: ds, _, h => by
    obtain ⟨z, v, r, e, h0, h1, h2⟩ := h
    exact ⟨z, v, r, e, h0, RV.mono n d h1, RKs.mono n ds h2⟩
theorem RTs.mono (n : Nx ρ H ρ' H') : ∀ (ds : List (D × D)) {vs : List (List Key × V)}, RTs K ρ H vs ds → RTs K ρ' H' vs ds
  | [], _, h => h
  | (f, d) :: ds, _, h => by
    obtain ⟨z, v, r, e, h0, h1, h2⟩ := h
    exact ⟨z, v, r, e, h0, RV.mono n d h1, RTs.mono n ds h2⟩
theorem RO.mono {G : Glob} {a : Addr} (n : Nx ρ H ρ' H') (e : H' a = H a) : ∀ {mo : MO}, RO G ρ H a mo → RO G ρ' H' a mo
  | .lst ds, ⟨vs, h, r⟩ => ⟨vs, e.trans h, RVs.mono n ds r⟩
  | .dic false kvs, ⟨vs, h, r⟩ => ⟨vs, e.trans h, RKs.mono n kvs r⟩
  | .dic true kvs, ⟨vs, h, r⟩ => ⟨vs, e.trans h, RTs.mono n kvs r⟩
  | .ins C fs, ⟨dx, vs, h, r⟩ => ⟨dx, vs, e.trans h, RFs.mono n fs r⟩
  | .sett ds, h => h.elim
theorem RO.some_ {G : Glob} {a : Addr} : ∀ {mo : MO}, RO G ρ H a mo → ∃ o, H a = some o ∧ (∀ xs, o ≠ .tup xs) ∧ ∀ ob u, o ≠ .frz ob u
  | .lst ds, ⟨vs, h, r⟩ => ⟨_, h, (fun _ z => nomatch z), (fun _ _ z => nomatch z)⟩
  | .dic false kvs, ⟨vs, h, r⟩ => ⟨_, h, (fun _ z => nomatch z), (fun _ _ z => nomatch z)⟩
  | .dic true kvs, ⟨vs, h, r⟩ => ⟨_, h, (fun _ z => nomatch z), (fun _ _ z => nomatch z)⟩
  | .ins C fs, ⟨dx, vs, h, r⟩ => ⟨_, h, (fun _ z => nomatch z), (fun _ _ z => nomatch z)⟩
  | .sett ds, h => h.elim

theorem RVs.length : ∀ {ds : List D} {vs : List V}, RVs K ρ H vs ds → vs.length = ds.length
  | [], _, h => by unfold RVs at h; subst h; rfl
  | d :: ds, _, h => by
    unfold RVs at h
    obtain ⟨v, r, e, _, h2⟩ := h
    subst e
    simp [RVs.length h2]
theorem RVs.get : ∀ {ds : List D} {vs : List V} {i : Nat} {d : D}, RVs K ρ H vs ds → ds[i]? = some d → ∃ v, vs[i]? = some v ∧ RV K ρ H v d
  | [], _, _, _, _, e => by simp at e
  | x :: ds, _, 0, d, h, e => by
    unfold RVs at h
    obtain ⟨v, r, e2, h1, _⟩ := h
    simp at e; subst e; subst e2
    exact ⟨v, rfl, h1⟩
  | x :: ds, _, i + 1, d, h, e => by
    unfold RVs at h
    obtain ⟨v, r, e2, _, h2⟩ := h
    subst e2
    exact RVs.get (i := i) h2 (by simpa using e)
theorem RVs.nil_ : RVs K ρ H [] [] := by unfold RVs; rfl
theorem RVs.cons_ {v : V} {d : D} {vs : List V} {ds : List D} (h : RV K ρ H v d) (t : RVs K ρ H vs ds) : RVs K ρ H (v :: vs) (d :: ds) := by
  unfold RVs; exact ⟨v, vs, rfl, h, t⟩
theorem RVs.append : ∀ {xs ys : List D} {us vs : List V}, RVs K ρ H us xs → RVs K ρ H vs ys → RVs K ρ H (us ++ vs) (xs ++ ys)
  | [], _, _, _, h, t => by unfold RVs at h; subst h; exact t
  | x :: xs, _, _, _, h, t => by
    unfold RVs at h
    obtain ⟨v, r, e2, h1, h2⟩ := h
    subst e2
    exact RVs.cons_ h1 (RVs.append h2 t)
theorem RVs.take : ∀ {xs : List D} {us : List V} (n : Nat), RVs K ρ H us xs → RVs K ρ H (us.take n) (xs.take n)
  | xs, us, 0, h => by simp; exact RVs.nil_
  | [], _, n + 1, h => by unfold RVs at h; subst h; exact RVs.nil_
  | x :: xs, _, n + 1, h => by
    unfold RVs at h
    obtain ⟨v, r, e2, h1, h2⟩ := h
    subst e2
    exact RVs.cons_ h1 (RVs.take n h2)
theorem RVs.drop : ∀ {xs : List D} {us : List V} (n : Nat), RVs K ρ H us xs → RVs K ρ H (us.drop n) (xs.drop n)
  | xs, us, 0, h => h
  | [], _, n + 1, h => by unfold RVs at h; subst h; exact RVs.nil_
  | x :: xs, _, n + 1, h => by
    unfold RVs at h
    obtain ⟨v, r, e2, h1, h2⟩ := h
    subst e2
    exact RVs.drop n h2
theorem RVs.set : ∀ {xs : List D} {us : List V} {v : V} {d : D} (n : Nat), RV K ρ H v d → RVs K ρ H us xs → RVs K ρ H (us.set n v) (xs.set n d)
  | [], _, _, _, _, _, h => by unfold RVs at h; subst h; exact RVs.nil_
  | x :: xs, _, v, d, 0, hv, h => by
    unfold RVs at h
    obtain ⟨v, r, e2, h1, h2⟩ := h
    subst e2
    exact RVs.cons_ hv h2
  | x :: xs, _, v, d, n + 1, hv, h => by
    unfold RVs at h
    obtain ⟨v, r, e2, h1, h2⟩ := h
    subst e2
    exact RVs.cons_ h1 (RVs.set n hv h2)
theorem RVs.erase : ∀ {xs : List D} {us : List V} (n : Nat), RVs K ρ H us xs → RVs K ρ H (us.eraseIdx n) (xs.eraseIdx n)
  | [], _, _, h => by unfold RVs at h; subst h; exact RVs.nil_
  | x :: xs, _, 0, h => by
    unfold RVs at h
    obtain ⟨v, r, e2, h1, h2⟩ := h
    subst e2
    exact h2
  | x :: xs, _, n + 1, h => by
    unfold RVs at h
    obtain ⟨v, r, e2, h1, h2⟩ := h
    subst e2
    exact RVs.cons_ h1 (RVs.erase n h2)
theorem RVs.rep {xs : List D} {us : List V} (h : RVs K ρ H us xs) : ∀ k : Nat, RVs K ρ H (List.replicate k us).flatten (List.replicate k xs).flatten
  | 0 => RVs.nil_
  | k + 1 => by
    rw [List.replicate_succ, List.replicate_succ, List.flatten_cons, List.flatten_cons]
    exact RVs.append h (RVs.rep h k)
end

section
variable {G : Glob} {ρ ρ' : List Addr} {H H' : Hp} {st : Store}
theorem nx_laid {p : Addr} {o : HO} (h : H p = none) : Nx ρ H ρ (upd H p o) := by
  refine ⟨⟨[], by simp⟩, fun a xs e => ?_, fun a ob u e => ?_⟩
  · rw [upd_ne (ne_of_none e h)]; exact e
  · rw [upd_ne (ne_of_none e h)]; exact e
theorem nx_new {p : Addr} {o : HO} (h : H p = none) : Nx ρ H (ρ ++ [p]) (upd H p o) := ⟨⟨[p], rfl⟩, (nx_laid (ρ := ρ) h).tup, (nx_laid (ρ := ρ) h).frz⟩
theorem Rel.at_ (R : Rel G ρ H st) {n : Nat} {a : Addr} (h : ρ[n]? = some a) : ∃ mo, st[n]? = some mo ∧ RO G ρ H a mo := by
  obtain ⟨hi, e⟩ := List.getElem?_eq_some_iff.mp h
  have hi' : n < st.length := by rw [← R.len]; exact hi
  exact ⟨st[n], by simp [hi'], R.obj n _ a (by simp [hi']) h⟩
theorem Rel.addr (R : Rel G ρ H st) {n : Nat} {mo : MO} (h : st[n]? = some mo) : ∃ a, ρ[n]? = some a ∧ RO G ρ H a mo := by
  obtain ⟨hi, e⟩ := List.getElem?_eq_some_iff.mp h
  have hi' : n < ρ.length := by rw [R.len]; exact hi
  exact ⟨ρ[n], by simp [hi'], R.obj n mo _ h (by simp [hi'])⟩
theorem Rel.ne_new (R : Rel G ρ H st) {n : Nat} {a p : Addr} (h : ρ[n]? = some a) (hp : H p = none) : a ≠ p := by
  obtain ⟨mo, _, r⟩ := R.at_ h
  obtain ⟨o, e, _⟩ := r.some_
  exact ne_of_none e hp
theorem Rel.ne_at (R : Rel G ρ H st) {n m : Nat} {a b : Addr} (h : ρ[n]? = some a) (h' : ρ[m]? = some b) (e : n ≠ m) : a ≠ b := by
  rintro rfl
  obtain ⟨hn, e1⟩ := List.getElem?_eq_some_iff.mp h
  obtain ⟨hm, e2⟩ := List.getElem?_eq_some_iff.mp h'
  exact e ((List.getElem_inj R.nd).mp (e1.trans e2.symm))
/-- a thing that stands still is laid -/
theorem Rel.laid {p : Addr} {o : HO} (R : Rel G ρ H st) (h : H p = none) : Rel G ρ (upd H p o) st :=
  ⟨R.len, R.nd, fun n mo a e1 e2 => (R.obj n mo a e1 e2).mono (nx_laid h) (upd_ne (R.ne_new e2 h))⟩
/-- a new object of the store -/
theorem Rel.new {p : Addr} {o : HO} {mo : MO} (R : Rel G ρ H st) (h : H p = none) (r : RO G (ρ ++ [p]) (upd H p o) p mo) : Rel G (ρ ++ [p]) (upd H p o) (st ++ [mo]) := by
  refine ⟨by simp [R.len], ?_, fun n m a e1 e2 => ?_⟩
  · rw [List.nodup_append]
    refine ⟨R.nd, by simp, fun a ha b hb => ?_⟩
    simp at hb; subst hb
    obtain ⟨n, hn⟩ := List.getElem?_of_mem ha
    exact R.ne_new hn h
  · by_cases hn : n < ρ.length
    · have hn' : n < st.length := by rw [← R.len]; exact hn
      rw [List.getElem?_append_left hn'] at e1
      rw [List.getElem?_append_left hn] at e2
      exact (R.obj n m a e1 e2).mono (nx_new h) (upd_ne (R.ne_new e2 h))
    · have hn' : ¬ n < st.length := by rw [← R.len]; exact hn
      rw [List.getElem?_append_right (by omega)] at e1 e2
      have hk : n - st.length = 0 := by
        obtain ⟨z, _⟩ := List.getElem?_eq_some_iff.mp e1
        simp at z; exact z
      have hk2 : n - ρ.length = 0 := by rw [R.len]; exact hk
      rw [hk] at e1; rw [hk2] at e2
      simp at e1 e2
      subst e1; subst e2
      exact r
theorem nx_put {n : Nat} {a : Addr} {o : HO} (R : Rel G ρ H st) (h : ρ[n]? = some a) : Nx ρ H ρ (upd H a o) := by
  obtain ⟨mo, _, r⟩ := R.at_ h
  obtain ⟨u, e, ht, hf⟩ := r.some_
  refine ⟨⟨[], by simp⟩, fun b xs q => ?_, fun b ob v q => ?_⟩
  · rw [upd_ne]; exact q
    rintro rfl; rw [e] at q; cases q; exact ht _ rfl
  · rw [upd_ne]; exact q
    rintro rfl; rw [e] at q; cases q; exact hf _ _ rfl
/-- an object of the store is changed -/
theorem Rel.put {n : Nat} {a : Addr} {o : HO} {mo : MO} (R : Rel G ρ H st) (h : ρ[n]? = some a) (r : RO G ρ (upd H a o) a mo) : Rel G ρ (upd H a o) (st.set n mo) := by
  refine ⟨by simp [R.len], R.nd, fun m mo' b e1 e2 => ?_⟩
  by_cases hm : m = n
  · subst hm
    rw [h] at e2; cases e2
    obtain ⟨mo0, h0, _⟩ := R.at_ h
    obtain ⟨hi, _⟩ := List.getElem?_eq_some_iff.mp h0
    rw [List.getElem?_set_self hi] at e1; cases e1
    exact r
  · rw [List.getElem?_set_ne (Ne.symm hm)] at e1
    exact (R.obj m mo' b e1 e2).mono (nx_put R h) (upd_ne (R.ne_at e2 h hm))
end
end Mi

set_option linter.all false
set_option maxRecDepth 100000
/-! What the small language means. -/
namespace Mi
open PySem L2
open Classical

theorem Res.bind_ok {d : D} {st : Store} {k : D → Store → Res} : (Res.ok d st).bind k = k d st := rfl
theorem Res.bind_exc {c : Str} {st : Store} {k : D → Store → Res} : (Res.exc c st).bind k = .exc c st := rfl
theorem Res.bind_bad {k : D → Store → Res} : Res.bad.bind k = .bad := rfl
theorem Res.bindL_ok {d : D} {st : Store} {k : D → Store → ResL} : (Res.ok d st).bindL k = k d st := rfl
theorem Res.bindL_exc {c : Str} {st : Store} {k : D → Store → ResL} : (Res.exc c st).bindL k = .exc c st := rfl
theorem Res.bindL_bad {k : D → Store → ResL} : Res.bad.bindL k = .bad := rfl
theorem ResL.bind_ok {d : List D} {st : Store} {k : List D → Store → Res} : (ResL.ok d st).bind k = k d st := rfl
theorem ResL.bind_exc {c : Str} {st : Store} {k : List D → Store → Res} : (ResL.exc c st).bind k = .exc c st := rfl
theorem ResL.bind_bad {k : List D → Store → Res} : ResL.bad.bind k = .bad := rfl
theorem ResL.bindL_ok {d : List D} {st : Store} {k : List D → Store → ResL} : (ResL.ok d st).bindL k = k d st := rfl
theorem ResL.bindL_exc {c : Str} {st : Store} {k : List D → Store → ResL} : (ResL.exc c st).bindL k = .exc c st := rfl
theorem ResL.bindL_bad {k : List D → Store → ResL} : ResL.bad.bindL k = .bad := rfl
theorem Res.bindO_ok {d : D} {st : Store} {env : Env} {k : D → Store → Out} : (Res.ok d st).bindO env k = k d st := rfl
theorem Res.bindO_exc {c : Str} {st : Store} {env : Env} {k : D → Store → Out} : (Res.exc c st).bindO env k = .exc c env st := rfl
theorem Res.bindO_bad {env : Env} {k : D → Store → Out} : Res.bad.bindO env k = .bad := rfl

def tyName : D → Option String
  | .non => some "NoneType"
  | .bl _ => some "bool"
  | .int _ => some "int"
  | .str _ => some "str"
  | .tup _ => some "tuple"
  | _ => none
def tyNameS (st : Store) : D → Option String
  | .ref n => match st[n]? with
    | some (.lst _) => some "list"
    | _ => none
  | d => tyName d
/-- isinstance(x, T) of a value of type a: T is a, or a is bool and T is int -/
def instOf (a b : String) : Bool := a == b || (a == "bool" && b == "int")

def eqD (st : Store) (x y : D) : Option Bool := match dataS st x, dataS st y with
  | some a, some b => if SeqAt.shaped a && SeqAt.shaped b then some (PyData.eqv a b) else none
  | _, _ => none
def flatD : D → Bool
  | .non => true | .bl _ => true | .int _ => true | .str _ => true
  | _ => false
def inD (st : Store) (x y : D) : Option Bool := match y with
  | .str t => match x with
    | .str s => some (!(Builtin.Str.occurrences t s 0 t.length 1).isEmpty)
    | _ => none
  | .tup ys => if flatD x && ys.all flatD then match D.data x, D.dataL ys with
      | some d, some ds => some (ds.any fun z => PyData.eqv z d)
      | _, _ => none
    else none
  | .ref n => match st[n]? with
    | some (.lst ys) => match dataS st x, D.dataL ys with
      | some d, some ds => if SeqAt.shaped d && SeqAt.shaped (.list ds) then some (ds.any fun z => PyData.eqv z d) else none
      | _, _ => none
    | _ => none
  | _ => none
def resB (st : Store) : Option Bool → Res
  | some b => .ok (.bl b) st
  | none => .bad
def isNon : D → Bool
  | .non => true
  | _ => false
def cmpop : COp → D → D → Store → Res
  | .eq, x, y, st => resB st (eqD st x y)
  | .ne, x, y, st => resB st ((eqD st x y).map (!·))
  | .lt, .int i, .int j, st => .ok (.bl (decide (i < j))) st
  | .le, .int i, .int j, st => .ok (.bl (decide (i ≤ j))) st
  | .gt, .int i, .int j, st => .ok (.bl (decide (j < i))) st
  | .ge, .int i, .int j, st => .ok (.bl (decide (j ≤ i))) st
  | .lt, .str i, .str j, st => .ok (.bl (decide (i.cps.toList < j.cps.toList))) st
  | .le, .str i, .str j, st => .ok (.bl (!decide (j.cps.toList < i.cps.toList))) st
  | .isin, x, y, st => resB st (inD st x y)
  | .notin, x, y, st => resB st ((inD st x y).map (!·))
  | .is, x, .non, st => .ok (.bl (isNon x)) st
  | .isnot, x, .non, st => .ok (.bl (!isNon x)) st
  | .is, .bl a, .bl b, st => .ok (.bl (decide (a = b))) st
  | .isnot, .bl a, .bl b, st => .ok (.bl (!decide (a = b))) st
  | _, _, _, _ => .bad
def unop : UOp → D → Store → Res
  | .neg, .int i, st => .ok (.int (-i)) st
  | _, _, _ => .bad

def in63 (i : Int) : Prop := -(2 ^ 63) ≤ i ∧ i < 2 ^ 63
noncomputable instance (i : Int) : Decidable (in63 i) := Classical.propDecidable _
def cutG {α : Type} (xs : List α) (lo hi : Option Int) : List α := (xs.drop (HT.sIx xs.length 0 lo)).take (HT.sIx xs.length xs.length hi - HT.sIx xs.length 0 lo)
def idxop : D → D → Store → Res
  | .tup xs, .int i, st => match atI xs i with
    | some d => .ok d st
    | none => .bad
  | .fl xs, .int i, st => match atI xs i with
    | some d => .ok d st
    | none => .bad
  | .ref n, .int i, st => match st[n]? with
    | some (.lst xs) => match atI xs i with
      | some d => .ok d st
      | none => .bad
    | _ => .bad
  | .str z, .int i, st => match atI z.cps.toList i with
    | some c => if z.length ≤ LINE then .ok (.str ⟨#[c]⟩) st else .bad
    | none => .bad
  | _, _, _ => .bad
/-- a part of a slice -/
def partD : D → Option (Option Int)
  | .int i => some (some i)
  | _ => none
def slcop : D → Option Int → Option Int → Store → Res
  | .tup xs, lo, hi, st => .ok (.tup (cutG xs lo hi)) st
  | .str z, lo, hi, st => if z.length ≤ LINE then .ok (.str (cutS z lo hi)) st else .bad
  | .fl xs, lo, hi, st => .ok (.ref st.length) (st ++ [.lst (cutG xs lo hi)])
  | .ref n, lo, hi, st => match st[n]? with
    | some (.lst xs) => .ok (.ref st.length) (st ++ [.lst (cutG xs lo hi)])
    | _ => .bad
  | _, _, _, _ => .bad

def intsD : List D → Option (List Int)
  | [] => some []
  | .int i :: r => (intsD r).map (i :: ·)
  | _ :: _ => none
def blsD : List D → Option (List Bool)
  | [] => some []
  | .bl i :: r => (blsD r).map (i :: ·)
  | _ :: _ => none
def strsD : List D → Option (List Str)
  | [] => some []
  | .str i :: r => (strsD r).map (i :: ·)
  | _ :: _ => none
def lstOf (st : Store) : D → Option (List D)
  | .fl xs => some xs
  | .ref n => match st[n]? with
    | some (.lst xs) => some xs
    | _ => none
  | _ => none
def biop : BI → List D → Store → Res
  | .len, [.tup xs], st => .ok (.int xs.length) st
  | .len, [.str z], st => if z.length ≤ LINE then .ok (.int z.length) st else .bad
  | .len, [x], st => match lstOf st x with
    | some xs => .ok (.int xs.length) st
    | none => .bad
  | .int, [.int i], st => .ok (.int i) st
  | .int, [.bl k], st => .ok (.int (if k then 1 else 0)) st
  | .int, [.str z], st => match PySem.intText? z with
    | some n => if z.length ≤ 640 then .ok (.int n) st else .bad
    | none => .bad
  | .str, [.int i], st => if i.natAbs.log2 < 1920 then .ok (.str (toString i)) st else .bad
  | .tuple, [.tup xs], st => .ok (.tup xs) st
  | .tuple, [x], st => match lstOf st x with
    | some xs => .ok (.tup xs) st
    | none => .bad
  | .list, [.tup xs], st => .ok (.ref st.length) (st ++ [.lst xs])
  | .list, [x], st => match lstOf st x with
    | some xs => .ok (.ref st.length) (st ++ [.lst xs])
    | none => .bad
  | .sum, [x], st => match (lstOf st x).bind intsD with
    | some ns => .ok (.int ns.sum) st
    | none => .bad
  | .all, [x], st => match (lstOf st x).bind blsD with
    | some bs => .ok (.bl (bs.all id)) st
    | none => .bad
  | .max, [.int i, .int j], st => .ok (.int (if j > i then j else i)) st
  | .min, [.int i, .int j], st => .ok (.int (if j < i then j else i)) st
  | .abs, [.int i], st => .ok (.int (if i < 0 then -i else i)) st
  | _, _, _ => .bad
noncomputable def mthop : MI → D → List D → Store → Res
  | .append, .ref n, [y], st => match st[n]? with
    | some (.lst xs) => if xs.length < LINE then .ok .non (st.set n (.lst (xs ++ [y]))) else .bad
    | _ => .bad
  | .pop, .ref n, [.int i], st => match st[n]? with
    | some (.lst xs) => match seqIndex? i xs.length with
      | some k => match xs[k]? with
        | some y => if in63 i then .ok y (st.set n (.lst (xs.eraseIdx k))) else .bad
        | none => .bad
      | none => .bad
    | _ => .bad
  | .extend, .ref n, [.ref m], st => match st[n]?, st[m]? with
    | some (.lst xs), some (.lst ys) => if xs.length + ys.length ≤ LINE then .ok .non (st.set n (.lst (xs ++ ys))) else .bad
    | _, _ => .bad
  | .startswith, .str a, [.str b], st => .ok (.bl (Txt.startswith a b)) st
  | .endswith, .str a, [.str b], st => .ok (.bl (Txt.endswith a b)) st
  | .removeprefix, .str a, [.str b], st => if a.length ≤ LINE then .ok (.str (Txt.removeprefix a b)) st else .bad
  | .isascii, .str a, [], st => .ok (.bl (Txt.isascii a)) st
  | .isdigit, .str a, [], st => .ok (.bl (Txt.isdigit a)) st
  | .split, .str a, [.str b], st => if (b.length == 0) = false ∧ a.length + 2 ≤ LINE then .ok (.ref st.length) (st ++ [.lst ((Txt.split a b).map .str)]) else .bad
  | .partition, .str a, [.str b], st => if (b.length == 0) = false ∧ a.length ≤ LINE then
      .ok (.tup [.str (Txt.partition a b).1, .str (Txt.partition a b).2.1, .str (Txt.partition a b).2.2]) st else .bad
  | .join, .str a, [x], st => match (match x with | .tup xs => some xs | x => lstOf st x) with
    | some xs => match strsD xs with
      | some ys => if (ys.map (·.length)).sum + ys.length * a.length ≤ LINE then .ok (.str (Txt.join a ys)) st else .bad
      | none => .bad
    | none => .bad
  | _, _, _, _ => .bad

/-- what a method is looked up on -/
def recvOk (m : MI) (x : D) (st : Store) : Bool := match m with
  | .append | .pop | .extend => (match x with
    | .ref n => (match st[n]? with
      | some (.lst _) => true
      | _ => false)
    | _ => false)
  | .join | .split | .partition | .startswith | .endswith | .removeprefix | .isascii | .isdigit => (match x with
    | .str _ => true
    | _ => false)
  | _ => false
/-- what a loop goes over: the items, and the list that must stand meanwhile -/
inductive ItR where
  | ok (items : List D) (gd : Option (Nat × List D)) (st : Store) | exc (c : Str) (st : Store) | bad
def gdOk (gd : Option (Nat × List D)) (st : Store) : Prop := match gd with
  | none => True
  | some (n, xs) => st[n]? = some (.lst xs)
def itemsOf (st : Store) : D → Option (List D × Option (Nat × List D))
  | .tup xs => some (xs, none)
  | .fl xs => some (xs, none)
  | .str z => some (z.cps.toList.map fun c => .str ⟨#[c]⟩, none)
  | .ref n => match st[n]? with
    | some (.lst xs) => some (xs, some (n, xs))
    | _ => none
  | _ => none
def rangeD (lo hi : Int) : List D := (List.range (hi - lo).toNat).map fun (k : Nat) => .int (lo + (k : Int))
def enumD : Int → List D → List D
  | _, [] => []
  | i, x :: xs => .tup [.int i, x] :: enumD (i + 1) xs
def small62 (i : Int) : Prop := -(2 ^ 62) ≤ i ∧ i < 2 ^ 62
noncomputable instance (i : Int) : Decidable (small62 i) := Classical.propDecidable _

noncomputable def forL (step : D → Env → Store → Out) (gd : Option (Nat × List D)) : List D → Env → Store → Out
  | [], env, st => if gdOk gd st then .nx env st else .bad
  | x :: xs, env, st => if gdOk gd st then (match step x env st with
    | .nx e s => forL step gd xs e s
    | .ct e s => forL step gd xs e s
    | .bk e s => .nx e s
    | o => o) else .bad
/-- a comprehension's turn: the item is kept (some) or left out (none) -/
inductive CRes where
  | ok (d : Option D) (st : Store) | bad
noncomputable def compL (step : D → Store → CRes) (gd : Option (Nat × List D)) (n : Nat) : List D → Store → Res
  | [], st => if gdOk gd st then .ok (.ref n) st else .bad
  | x :: xs, st => if gdOk gd st then (match step x st with
    | .ok none s => compL step gd n xs s
    | .ok (some d) s => match s[n]? with
      | some (.lst acc) => if acc.length < LINE then compL step gd n xs (s.set n (.lst (acc ++ [d]))) else .bad
      | _ => .bad
    | .bad => .bad) else .bad
def whlL (c : Env → Store → Res) (b : Env → Store → Out) : Nat → Env → Store → Out
  | 0, _, _ => .bad
  | k + 1, env, st => match c env st with
    | .ok (.bl true) s => (match b env s with
      | .nx e s => whlL c b k e s
      | .ct e s => whlL c b k e s
      | .bk e s => .nx e s
      | o => o)
    | .ok (.bl false) s => .nx env s
    | .exc x s => .exc x env s
    | _ => .bad

/-- slots are filled by a loop's item -/
def setMany : List Nat → List D → Env → Option Env
  | [], [], env => some env
  | i :: is, d :: ds, env => setMany is ds (env.set i (some d))
  | _, _, _ => none
def tgSet : Tg → D → Env → Option Env
  | .name i, d, env => some (env.set i (some d))
  | .tup is, .tup ds, env => setMany is ds env
  | _, _, _ => none
def wipeE (env : Env) : List Nat → Env
  | [] => env
  | i :: is => (wipeE env is).set i none

/-- truth where it is plain -/
def truth (st : Store) : D → Option Bool
  | .bl b => some b
  | .ref n => match st[n]? with
    | some (.lst xs) => some (!xs.isEmpty)
    | _ => none
  | _ => none

section
variable (C : Oracle) (cs : Str → Option D)
mutual
noncomputable def evE : E → Env → Store → Res
  | .non, _, st => .ok .non st
  | .bl b, _, st => .ok (.bl b) st
  | .int i, _, st => .ok (.int i) st
  | .str x, _, st => .ok (.str x) st
  | .var i, env, st => match env[i]? with
    | some (some d) => .ok d st
    | _ => .bad
  | .glb x, _, st => match cs x with
    | some d => .ok d st
    | none => .bad
  | .un op a, env, st => (evE a env st).bind fun x st => unop op x st
  | .bin op a b, env, st => (evE a env st).bind fun x st => (evE b env st).bind fun y st => binop op x y st
  | .cmp op a b, env, st => (evE a env st).bind fun x st => (evE b env st).bind fun y st => cmpop op x y st
  | .chain o o' a b c, env, st => (evE a env st).bind fun x st => (evE b env st).bind fun y st => (cmpop o x y st).bind fun r st => match r with
    | .bl true => (evE c env st).bind fun z st => cmpop o' y z st
    | .bl false => .ok (.bl false) st
    | _ => .bad
  | .and es, env, st => evAnd es env st
  | .or es, env, st => evOr es env st
  | .not a, env, st => (evE a env st).bind fun x st => match x with
    | .bl b => .ok (.bl (!b)) st
    | _ => .bad
  | .ite c a b, env, st => (evE c env st).bind fun x st => match x with
    | .bl true => evE a env st
    | .bl false => evE b env st
    | _ => .bad
  | .tup es, env, st => (evEs es env st).bind fun ds st => if ds.length ≤ LINE then .ok (.tup ds) st else .bad
  | .lst es, env, st => (evEs es env st).bind fun ds st => if ds.length ≤ LINE then .ok (.ref st.length) (st ++ [.lst ds]) else .bad
  | .dic t .nil .nil, env, st => .ok (.ref st.length) (st ++ [.dic t []])
  | .dic t ks vs, env, st => .bad
  | .idx a b, env, st => (evE a env st).bind fun x st => (evE b env st).bind fun y st => idxop x y st
  | .slc a lo hi, env, st => (evE a env st).bind fun x st => match evO lo env st with
    | (some l, st) => (match evO hi env st with
      | (some h, st) => slcop x l h st
      | _ => .bad)
    | _ => .bad
  | .call f es, env, st => (evEs es env st).bind fun ds st => C f ds st
  | .bi f es, env, st => (evEs es env st).bind fun ds st => biop f ds st
  | .mth m a es, env, st => (evE a env st).bind fun x st => if recvOk m x st = true then (evEs es env st).bind fun ds st => mthop m x ds st else .bad
  | .typeIs n a t, env, st => (evE a env st).bind fun x st => match tyNameS st x with
    | some u => .ok (.bl (if n then !decide ((t : Str) = u) else decide ((t : Str) = u))) st
    | none => .bad
  | .isin a t, env, st => (evE a env st).bind fun x st => match tyNameS st x with
    | some u => .ok (.bl (decide ((t : Str) = u) || (u == "bool" && decide ((t : Str) = ("int" : String))))) st
    | none => .bad
  | .lc own tg it cs elt, env, st => match evI it env st with
    | .ok xs gd st => compL (fun x s => match tgSet tg x (wipeE env (own.map (·.2))) with
        | some env' => (match evAll cs env' s with
          | .ok (.bl true) s => (match evE elt env' s with
            | .ok d s => .ok (some d) s
            | _ => .bad)
          | .ok (.bl false) s => .ok none s
          | _ => .bad)
        | none => .bad) gd st.length xs (st ++ [.lst []])
    | .exc c st => .exc c st
    | .bad => .bad
  | .fstr es, env, st => .bad
  | .attr a f, env, st => (evE a env st).bind fun x st => match x with
    | .ref n => (match st[n]? with
      | some (.ins _ fs) => (match fs.lookup f with
        | some d => .ok d st
        | none => .bad)
      | _ => .bad)
    | _ => .bad
  | .new c es, env, st => (evEs es env st).bind fun ds st => .bad
  | .omth c m a es, env, st => (evE a env st).bind fun x st => (evEs es env st).bind fun ds st => .bad
noncomputable def evEs : Es → Env → Store → ResL
  | .nil, _, st => .ok [] st
  | .cons e es, env, st => (evE e env st).bindL fun d st => (evEs es env st).bindL fun ds st => .ok (d :: ds) st
/-- and, or: values; all but the last are True or False -/
noncomputable def evAnd : Es → Env → Store → Res
  | .nil, _, _ => .bad
  | .cons e .nil, env, st => evE e env st
  | .cons e es, env, st => (evE e env st).bind fun x st => match x with
    | .bl true => evAnd es env st
    | .bl false => .ok (.bl false) st
    | _ => .bad
noncomputable def evOr : Es → Env → Store → Res
  | .nil, _, _ => .bad
  | .cons e .nil, env, st => evE e env st
  | .cons e es, env, st => (evE e env st).bind fun x st => match x with
    | .bl true => .ok (.bl true) st
    | .bl false => evOr es env st
    | _ => .bad
/-- a comprehension's ifs -/
noncomputable def evAll : Es → Env → Store → Res
  | .nil, _, st => .ok (.bl true) st
  | .cons e es, env, st => (evE e env st).bind fun x st => match x with
    | .bl true => evAll es env st
    | .bl false => .ok (.bl false) st
    | _ => .bad
noncomputable def evO : Oe → Env → Store → Option (Option Int) × Store
  | .none, _, st => (some none, st)
  | .some e, env, st => match evE e env st with
    | .ok (.int i) st => (some (some i), st)
    | _ => (none, st)
noncomputable def evI : Ie → Env → Store → ItR
  | .rng1 a, env, st => match evE a env st with
    | .ok (.int j) st => if small62 j then .ok (rangeD 0 j) none st else .bad
    | .exc c st => .exc c st
    | _ => .bad
  | .rng2 a b, env, st => match evE a env st with
    | .ok (.int i) st => (match evE b env st with
      | .ok (.int j) st => if small62 i ∧ small62 j then .ok (rangeD i j) none st else .bad
      | .exc c st => .exc c st
      | _ => .bad)
    | .exc c st => .exc c st
    | _ => .bad
  | .enm _ _, _, _ => .bad
  | .zip _ _, _, _ => .bad
  | .exp e, env, st => match evE e env st with
    | .ok d st => (match itemsOf st d with
      | some (xs, gd) => .ok xs gd st
      | none => .bad)
    | .exc c st => .exc c st
    | .bad => .bad
end
end

mutual
inductive S where
  | expr (e : E)
  | set (i : Nat) (e : E)
  | unp (is : List Nat) (e : E)
  | setIx (o i e : E)
  | setAt (o : E) (f : Str) (e : E)
  | aug (i : Nat) (op : BOp) (e : E)
  | augIx (o i : E) (op : BOp) (e : E)
  | ret (e : E) | ret0
  | iff (c : E) (a b : Ss)
  | for (tg : Tg) (it : Ie) (b : Ss)
  | whl (c : E) (b : Ss)
  | raise (c : Str)
  | tryE (b : Ss) (x : Str) (s : Ss)
  | pass | brk | cnt
inductive Ss where
  | nil | cons (s : S) (ss : Ss)
end
def setIxop (o i d : D) (st : Store) : Option Store := match o, i with
  | .ref n, .int k => match st[n]? with
    | some (.lst xs) => match ixN xs.length k with
      | some j => some (st.set n (.lst (xs.set j d)))
      | none => none
    | _ => none
  | _, _ => none
section
variable (C : Oracle) (cs : Str → Option D) (sub : Str → Str → Bool) (wf : Nat)
mutual
noncomputable def evS : S → Env → Store → Out
  | .expr e, env, st => (evE C cs e env st).bindO env fun _ st => .nx env st
  | .set i e, env, st => (evE C cs e env st).bindO env fun d st => .nx (env.set i (some d)) st
  | .unp is e, env, st => (evE C cs e env st).bindO env fun d st => match d with
    | .tup ds => (match setMany is ds env with
      | some env => .nx env st
      | none => .bad)
    | _ => .bad
  | .setIx o i e, env, st => (evE C cs e env st).bindO env fun d st => (evE C cs o env st).bindO env fun x st => (evE C cs i env st).bindO env fun y st => match setIxop x y d st with
    | some st => .nx env st
    | none => .bad
  | .setAt o f e, env, st => .bad
  | .aug i op e, env, st => match env[i]? with
    | some (some x) => (evE C cs e env st).bindO env fun y st => match op with
      | .add => (match binop .add x y st with
        | .ok (.int z) st => .nx (env.set i (some (.int z))) st
        | _ => .bad)
      | .sub => (match binop .sub x y st with
        | .ok (.int z) st => .nx (env.set i (some (.int z))) st
        | _ => .bad)
      | _ => .bad
    | _ => .bad
  | .augIx o i op e, env, st => (evE C cs o env st).bindO env fun x st => (evE C cs i env st).bindO env fun y st => match idxop x y st with
    | .ok (.int v) st => (evE C cs e env st).bindO env fun z st => (match binop op (.int v) z st with
      | .ok d st => (match setIxop x y d st with
        | some st => .nx env st
        | none => .bad)
      | _ => .bad)
    | _ => .bad
  | .ret e, env, st => (evE C cs e env st).bindO env fun d st => .rt d st
  | .ret0, env, st => .rt .non st
  | .iff c a b, env, st => (evE C cs c env st).bindO env fun x st => match truth st x with
    | some true => evSs a env st
    | some false => evSs b env st
    | none => .bad
  | .for tg it b, env, st => match evI C cs it env st with
    | .ok xs gd st => forL (fun x env st => match tgSet tg x env with
      | some env => evSs b env st
      | none => .bad) gd xs env st
    | .exc c st => .exc c env st
    | .bad => .bad
  | .whl c b, env, st => whlL (fun env st => match evE C cs c env st with
    | .ok d st => (match truth st d with
      | some t => .ok (.bl t) st
      | none => .bad)
    | r => r) (fun env st => evSs b env st) wf env st
  | .raise c, env, st => .exc c env st
  | .tryE b x s, env, st => match evSs b env st with
    | .exc c env st => if sub c x then evSs s env st else .exc c env st
    | o => o
  | .pass, env, st => .nx env st
  | .brk, env, st => .bk env st
  | .cnt, env, st => .ct env st
noncomputable def evSs : Ss → Env → Store → Out
  | .nil, env, st => .nx env st
  | .cons s ss, env, st => match evS s env st with
    | .nx env st => evSs ss env st
    | o => o
end
end

/-! ### what is left behind a call: new things that nothing holds are let go -/
mutual
def closedD (n : Nat) : D → Bool
  | .tup xs => closedDs n xs
  | .fl xs => closedDs n xs
  | .ref m => decide (m < n)
  | _ => true
def closedDs (n : Nat) : List D → Bool
  | [] => true
  | x :: xs => closedD n x && closedDs n xs
end
def closedMO (n : Nat) : MO → Bool
  | .lst xs => closedDs n xs
  | .dic _ kvs => kvs.all fun p => closedD n p.2
  | .sett xs => closedDs n xs
  | .ins _ fs => fs.all fun p => closedD n p.2
def gcOk (st st' : Store) : Prop := st.length ≤ st'.length ∧ ∀ i, i < st.length → st'[i]? = st[i]? ∨ ∃ mo, st'[i]? = some mo ∧ closedMO st.length mo = true
noncomputable def gc (st : Store) : Res → Res
  | .ok d st' => if gcOk st st' ∧ closedD st.length d = true then .ok d (st'.take st.length) else .ok d st'
  | .exc c st' => if gcOk st st' then .exc c (st'.take st.length) else .exc c st'
  | .bad => .bad

def Out.fin : Out → Res
  | .nx _ st => .ok .non st
  | .rt d st => .ok d st
  | .exc c _ st => .exc c st
  | _ => .bad
structure Fd where
  n : Nat      -- parameters
  slots : Nat
  body : Ss
def startE (fd : Fd) (ds : List D) : Env := ds.map some ++ List.replicate (fd.slots - ds.length) none
structure Lang where
  fns : Str → Option Fd
  cs : Str → Option D
  sub : Str → Str → Bool
  wf : Nat
noncomputable def runF (L : Lang) (C : Oracle) (fd : Fd) (ds : List D) (st : Store) : Res :=
  if ds.length = fd.n then (evSs C L.cs L.sub L.wf fd.body (startE fd ds) st).fin else .bad
noncomputable def callK (L : Lang) : Nat → Oracle
  | 0, _, _, _ => .bad
  | k + 1, f, ds, st => match L.fns f with
    | some fd => gc st (runF L (callK L k) fd ds st)
    | none => .bad
end Mi

set_option linter.all false
set_option maxRecDepth 100000
/-! Operators: what the layer's rules say of the small language's values. -/
namespace Mi
open PySem L2 PyProof.Rows

theorem line_eq : LINE = sizeLine := by rw [sizeLine_eq]; rfl

/-- an answer without an exception -/
def PR (G : Glob) (ρ : List Addr) (H : Hp) (Q : VK) (r : Res) : Prop :=
  ∃ d st', r = .ok d st' ∧ ∀ v ρ' H', Nx ρ H ρ' H' → Rel G ρ' H' st' → RV G.K ρ' H' v d → Q v H'
def rD2 (G : Glob) (f : D → D → Store → Res) : R2 := fun x y H Q =>
  ∃ ρ st dx dy, Rel G ρ H st ∧ RV G.K ρ H x dx ∧ RV G.K ρ H y dy ∧ PR G ρ H Q (f dx dy st)
def rD1 (G : Glob) (f : D → Store → Res) : V → Hp → VK → Prop := fun x H Q =>
  ∃ ρ st dx, Rel G ρ H st ∧ RV G.K ρ H x dx ∧ PR G ρ H Q (f dx st)
def rDs (G : Glob) (f : List D → Store → Res) : List V → Hp → VK → Prop := fun xs H Q =>
  ∃ ρ st ds, Rel G ρ H st ∧ RVs G.K ρ H xs ds ∧ PR G ρ H Q (f ds st)
def rDm (G : Glob) (f : D → List D → Store → Res) : V → List V → Hp → VK → Prop := fun x xs H Q =>
  ∃ ρ st dx ds, Rel G ρ H st ∧ RV G.K ρ H x dx ∧ RVs G.K ρ H xs ds ∧ PR G ρ H Q (f dx ds st)

section
variable {G : Glob} {ρ : List Addr} {H : Hp} {st : Store} {Q : VK}
theorem rv_non {v : V} : RV G.K ρ H v .non ↔ v = .non := by unfold RV; exact Iff.rfl
theorem rv_bl {v : V} {b : Bool} : RV G.K ρ H v (.bl b) ↔ v = .bl b := by unfold RV; exact Iff.rfl
theorem rv_int {v : V} {b : Int} : RV G.K ρ H v (.int b) ↔ v = .int b := by unfold RV; exact Iff.rfl
theorem rv_str {v : V} {b : Str} : RV G.K ρ H v (.str b) ↔ v = .str b := by unfold RV; exact Iff.rfl
theorem rv_tup {v : V} {ds : List D} : RV G.K ρ H v (.tup ds) ↔ ∃ a vs, v = .ref a ∧ SqT G.K H a vs ∧ RVs G.K ρ H vs ds := by conv => lhs; unfold RV
theorem rv_fl {v : V} {ds : List D} : RV G.K ρ H v (.fl ds) ↔ ∃ a vs, v = .ref a ∧ FqL G.K H a vs ∧ RVs G.K ρ H vs ds := by conv => lhs; unfold RV
theorem rv_ref {v : V} {n : Nat} : RV G.K ρ H v (.ref n) ↔ ∃ a, v = .ref a ∧ ρ[n]? = some a := by conv => lhs; unfold RV
theorem rvs_nil {vs : List V} : RVs G.K ρ H vs [] ↔ vs = [] := by unfold RVs; exact Iff.rfl
theorem rvs_cons {vs : List V} {d : D} {ds : List D} : RVs G.K ρ H vs (d :: ds) ↔ ∃ v r, vs = v :: r ∧ RV G.K ρ H v d ∧ RVs G.K ρ H r ds := by conv => lhs; unfold RVs
theorem rvs_1 {vs : List V} {d : D} : RVs G.K ρ H vs [d] ↔ ∃ v, vs = [v] ∧ RV G.K ρ H v d := by
  rw [rvs_cons]
  constructor
  · rintro ⟨v, r, rfl, h, t⟩
    rw [rvs_nil] at t; subst t
    exact ⟨v, rfl, h⟩
  · rintro ⟨v, rfl, h⟩
    exact ⟨v, [], rfl, h, rvs_nil.mpr rfl⟩
theorem rvs_2 {vs : List V} {d e : D} : RVs G.K ρ H vs [d, e] ↔ ∃ v w, vs = [v, w] ∧ RV G.K ρ H v d ∧ RV G.K ρ H w e := by
  rw [rvs_cons]
  constructor
  · rintro ⟨v, r, rfl, h, t⟩
    obtain ⟨w, rfl, h2⟩ := rvs_1.mp t
    exact ⟨v, w, rfl, h, h2⟩
  · rintro ⟨v, w, rfl, h, h2⟩
    exact ⟨v, [w], rfl, h, rvs_1.mpr ⟨w, rfl, h2⟩⟩

/-- a plain answer, nothing new -/
theorem PR.plain {d : D} {v : V} (R : Rel G ρ H st) (h : PR G ρ H Q (.ok d st)) (r : RV G.K ρ H v d) : Q v H := by
  obtain ⟨d', st', e, q⟩ := h
  cases e
  exact q v ρ H .refl R r
/-- a new tuple -/
theorem PR.tup {ds : List D} {vs : List V} {p : Addr} (R : Rel G ρ H st) (h : PR G ρ H Q (.ok (.tup ds) st)) (r : RVs G.K ρ H vs ds) (hp : H p = none) : Q (.ref p) (upd H p (.tup vs)) := by
  obtain ⟨d', st', e, q⟩ := h
  cases e
  exact q _ ρ _ (nx_laid hp) (R.laid hp) (rv_tup.mpr ⟨p, vs, rfl, SqT.of upd_same, RVs.mono (nx_laid hp) ds r⟩)
/-- a new list -/
theorem PR.lst {ds : List D} {vs : List V} {p : Addr} (R : Rel G ρ H st) (h : PR G ρ H Q (.ok (.ref st.length) (st ++ [.lst ds]))) (r : RVs G.K ρ H vs ds) (hp : H p = none) : Q (.ref p) (upd H p (.lst vs)) := by
  obtain ⟨d', st', e, q⟩ := h
  cases e
  refine q _ (ρ ++ [p]) _ (nx_new hp) (R.new hp ⟨vs, upd_same, RVs.mono (nx_new hp) ds r⟩) (rv_ref.mpr ⟨p, rfl, ?_⟩)
  rw [← R.len]; simp
/-- a list of the store is changed -/
theorem PR.put {n : Nat} {a : Addr} {ds : List D} {vs : List V} {d : D} {v : V} (R : Rel G ρ H st) (ha : ρ[n]? = some a) (h : PR G ρ H Q (.ok d (st.set n (.lst ds)))) (r : RVs G.K ρ H vs ds) (rv : RV G.K ρ H v d) : Q v (upd H a (.lst vs)) := by
  obtain ⟨d', st', e, q⟩ := h
  cases e
  exact q v ρ _ (nx_put R ha) (R.put ha ⟨vs, upd_same, RVs.mono (nx_put R ha) ds r⟩) (RV.mono (nx_put R ha) d rv)
theorem PR.bad {P : Prop} (h : PR G ρ H Q .bad) : P := by
  obtain ⟨_, _, e, _⟩ := h; cases e
theorem Rel.lst_ {n : Nat} {ds : List D} (R : Rel G ρ H st) (h : st[n]? = some (.lst ds)) : ∃ a vs, ρ[n]? = some a ∧ H a = some (.lst vs) ∧ RVs G.K ρ H vs ds := by
  obtain ⟨a, h1, vs, h2, h3⟩ := R.addr h
  exact ⟨a, vs, h1, h2, h3⟩
theorem Rel.lstAt {n : Nat} {a : Addr} {ds : List D} (R : Rel G ρ H st) (ha : ρ[n]? = some a) (h : st[n]? = some (.lst ds)) : ∃ vs, H a = some (.lst vs) ∧ RVs G.K ρ H vs ds := by
  obtain ⟨b, vs, h1, h2, h3⟩ := R.lst_ h
  rw [ha] at h1; cases h1
  exact ⟨vs, h2, h3⟩

theorem RVs.nil_iff {vs : List V} {ds : List D} (h : RVs G.K ρ H vs ds) : vs = [] ↔ ds = [] := by
  have := h.length
  constructor
  · rintro rfl; cases ds with
    | nil => rfl
    | cons _ _ => simp at this
  · rintro rfl; cases vs with
    | nil => rfl
    | cons _ _ => simp at this
theorem RVs.cut {vs : List V} {ds : List D} (h : RVs G.K ρ H vs ds) (lo hi : Option Int) : RVs G.K ρ H (cutV vs lo hi) (cutG ds lo hi) := by
  unfold cutV cutG
  rw [h.length]
  exact (RVs.drop _ h).take _
theorem RVs.atI {vs : List V} {ds : List D} {i : Int} {d : D} (h : RVs G.K ρ H vs ds) (e : atI ds i = some d) : ∃ v, L2.atI vs i = some v ∧ RV G.K ρ H v d := by
  unfold L2.atI at e ⊢
  rw [h.length]
  cases q : ixN ds.length i with
  | none => rw [q] at e; cases e
  | some j =>
    rw [q] at e
    exact h.get (i := j) e

/-! data -/
mutual
theorem dp_of : ∀ (d : D) {v : V} {p : PyData}, RV G.K ρ H v d → D.data d = some p → Dp G.K H v p
  | .non, _, _, h, e => by rw [rv_non] at h; subst h; cases e; exact .non
  | .bl b, _, _, h, e => by rw [rv_bl] at h; subst h; cases e; exact .bl b
  | .int b, _, _, h, e => by rw [rv_int] at h; subst h; cases e; exact .int b
  | .str b, _, _, h, e => by rw [rv_str] at h; subst h; cases e; exact .str b
  | .tup ds, _, _, h, e => by
    obtain ⟨a, vs, rfl, s, r⟩ := rv_tup.mp h
    unfold D.data at e
    cases q : D.dataL ds with
    | none => rw [q] at e; cases e
    | some ps => rw [q] at e; cases e; exact .tup s (dps_of ds r q)
  | .fl ds, _, _, h, e => by
    obtain ⟨a, vs, rfl, s, r⟩ := rv_fl.mp h
    unfold D.data at e
    cases q : D.dataL ds with
    | none => rw [q] at e; cases e
    | some ps => rw [q] at e; cases e; exact .lst s.sq (dps_of ds r q)
  | .ref n, _, _, h, e => by unfold D.data at e; cases e
theorem dps_of : ∀ (ds : List D) {vs : List V} {ps : List PyData}, RVs G.K ρ H vs ds → D.dataL ds = some ps → DpAll G.K H vs ps
  | [], _, _, h, e => by rw [rvs_nil] at h; subst h; unfold D.dataL at e; cases e; exact .nil
  | d :: ds, _, _, h, e => by
    obtain ⟨v, r, rfl, h1, h2⟩ := rvs_cons.mp h
    unfold D.dataL at e
    cases q : D.data d with
    | none => rw [q] at e; cases e
    | some p =>
      cases q2 : D.dataL ds with
      | none => rw [q, q2] at e; cases e
      | some ps => rw [q, q2] at e; cases e; exact .cons (dp_of d h1 q) (dps_of ds h2 q2)
end
theorem dpS_of {d : D} {v : V} {p : PyData} (R : Rel G ρ H st) (h : RV G.K ρ H v d) (e : dataS st d = some p) : Dp G.K H v p := by
  cases d with
  | ref n =>
    obtain ⟨a, rfl, ha⟩ := rv_ref.mp h
    unfold dataS at e
    simp only at e
    split at e
    · rename_i xs hx
      obtain ⟨vs, h1, h2⟩ := R.lstAt ha hx
      cases q : D.dataL xs with
      | none => rw [q] at e; cases e
      | some ps => rw [q] at e; cases e; exact .lst (SqL.of h1) (dps_of xs h2 q)
    · cases e
  | _ => exact dp_of _ h e
end

section
variable {X : Cx} {G : Glob}

theorem op_addD (hK : X.K = G.K) : OpR X (binaryOp .Add) (rD2 G (binop .add)) := by
  intro pins s σ H x y v u Q I rx ry h
  obtain ⟨ρ, st, dx, dy, R, hx, hy, h⟩ := h
  cases dx <;> cases dy <;> simp only [binop] at h <;> try exact h.bad
  · rw [rv_int] at hx hy; subst hx; subst hy
    exact op_add pins s σ H _ _ v u Q I rx ry ⟨_, _, rfl, rfl, h.plain R (rv_int.mpr rfl)⟩
  · rw [rv_str] at hx hy; subst hx; subst hy
    split at h
    · rename_i hl
      exact op_add_str pins s σ H _ _ v u Q I rx ry ⟨_, _, rfl, rfl, by rw [← line_eq]; exact hl, h.plain R (rv_str.mpr rfl)⟩
    · exact h.bad
  · obtain ⟨a, vs, rfl, t1, r1⟩ := rv_tup.mp hx
    obtain ⟨b, ws, rfl, t2, r2⟩ := rv_tup.mp hy
    split at h
    · rename_i hl
      refine op_catA pins s σ H _ _ v u Q I rx ry ⟨a, b, vs, ws, rfl, rfl, by rw [hK]; exact t1, by rw [hK]; exact t2, by rw [← line_eq, r1.length, r2.length]; exact hl, fun z => ?_, fun z z2 => ?_, fun z z2 p hp => ?_⟩
      · have e := r1.nil_iff.mp z; subst e
        exact h.plain R hy
      · have e := r2.nil_iff.mp z2; subst e
        rw [List.append_nil] at h
        exact h.plain R hx
      · exact h.tup R (r1.append r2) hp
    · exact h.bad
  · obtain ⟨a, rfl, ha⟩ := rv_ref.mp hx
    obtain ⟨b, rfl, hb⟩ := rv_ref.mp hy
    split at h
    · rename_i xs ys e1 e2
      split at h
      · rename_i hl
        obtain ⟨vs, h1, r1⟩ := R.lstAt ha e1
        obtain ⟨ws, h2, r2⟩ := R.lstAt hb e2
        exact op_cat pins s σ H _ _ v u Q I rx ry ⟨a, b, vs, ws, rfl, rfl, h1, h2, by rw [← line_eq, r1.length, r2.length]; exact hl, fun p hp => h.lst R (r1.append r2) hp⟩
      · exact h.bad
    · exact h.bad
theorem op_subD : OpR X (binaryOp .Sub) (rD2 G (binop .sub)) := by
  intro pins s σ H x y v u Q I rx ry h
  obtain ⟨ρ, st, dx, dy, R, hx, hy, h⟩ := h
  cases dx <;> cases dy <;> simp only [binop] at h <;> try exact h.bad
  rw [rv_int] at hx hy; subst hx; subst hy
  exact op_sub pins s σ H _ _ v u Q I rx ry ⟨_, _, rfl, rfl, h.plain R (rv_int.mpr rfl)⟩
theorem op_mulD (hK : X.K = G.K) : OpR X (binaryOp .Mult) (rD2 G (binop .mul)) := by
  intro pins s σ H x y v u Q I rx ry h
  obtain ⟨ρ, st, dx, dy, R, hx, hy, h⟩ := h
  cases dx <;> cases dy <;> simp only [binop] at h <;> try exact h.bad
  · rw [rv_int] at hx hy; subst hx; subst hy
    split at h
    · rename_i hl
      exact op_mul pins s σ H _ _ v u Q I rx ry ⟨_, _, rfl, rfl, hl, h.plain R (rv_int.mpr rfl)⟩
    · exact h.bad
  · obtain ⟨a, vs, rfl, hT, r1⟩ := rv_tup.mp hx
    rw [rv_int] at hy; subst hy
    split at h
    · rename_i hl
      obtain ⟨h1, h2, h3, h4⟩ := hl
      have rl := r1.length

      exact op_repT pins s σ H _ _ v u Q I rx ry ⟨a, _, vs, rfl, rfl, by rw [hK]; exact hT, (fun e => by subst e; simp at rl; omega), h2, h3, by omega, fun p hp => h.tup R (r1.rep _) hp⟩
    · exact h.bad
  · obtain ⟨a, rfl, ha⟩ := rv_ref.mp hx
    rw [rv_int] at hy; subst hy
    split at h
    · rename_i xs e1
      split at h
      · rename_i hl
        obtain ⟨vs, h1, r1⟩ := R.lstAt ha e1
        exact op_rep pins s σ H _ _ v u Q I rx ry ⟨a, _, vs, rfl, rfl, h1, hl.1, hl.2.1, by rw [← line_eq, r1.length]; exact hl.2.2, fun p hp => h.lst R (r1.rep _) hp⟩
      · exact h.bad
    · exact h.bad
theorem op_fdivD : OpR X (binaryOp .FloorDiv) (rD2 G (binop .fdiv)) := by
  intro pins s σ H x y v u Q I rx ry h
  obtain ⟨ρ, st, dx, dy, R, hx, hy, h⟩ := h
  cases dx <;> cases dy <;> simp only [binop] at h <;> try exact h.bad
  rw [rv_int] at hx hy; subst hx; subst hy
  split at h
  · rename_i hl
    exact op_fdiv pins s σ H _ _ v u Q I rx ry ⟨_, _, rfl, rfl, hl, h.plain R (rv_int.mpr rfl)⟩
  · exact h.bad
theorem op_modD : OpR X (binaryOp .Mod) (rD2 G (binop .mod)) := by
  intro pins s σ H x y v u Q I rx ry h
  obtain ⟨ρ, st, dx, dy, R, hx, hy, h⟩ := h
  cases dx <;> cases dy <;> simp only [binop] at h <;> try exact h.bad
  rw [rv_int] at hx hy; subst hx; subst hy
  split at h
  · rename_i hl
    exact op_mod pins s σ H _ _ v u Q I rx ry ⟨_, _, rfl, rfl, hl, h.plain R (rv_int.mpr rfl)⟩
  · exact h.bad
theorem op_powD : OpR X (binaryOp .Pow) (rD2 G (binop .pow)) := by
  intro pins s σ H x y v u Q I rx ry h
  obtain ⟨ρ, st, dx, dy, R, hx, hy, h⟩ := h
  cases dx <;> cases dy <;> simp only [binop] at h <;> try exact h.bad
  rw [rv_int] at hx hy; subst hx; subst hy
  split at h
  · rename_i hl
    exact op_pow pins s σ H _ _ v u Q I rx ry ⟨_, _, rfl, rfl, hl, h.plain R (rv_int.mpr rfl)⟩
  · exact h.bad
theorem un_negD : UnR X (unaryOp .USub) (rD1 G (unop .neg)) := by
  intro pins s σ H x v Q I rx h
  obtain ⟨ρ, st, dx, R, hx, h⟩ := h
  cases dx <;> simp only [unop] at h <;> try exact h.bad
  rw [rv_int] at hx; subst hx
  exact un_neg pins s σ H _ v Q I rx ⟨_, rfl, h.plain R (rv_int.mpr rfl)⟩

theorem resB_ok {ρ : List Addr} {H : Hp} {st : Store} {Q : VK} {o : Option Bool} (R : Rel G ρ H st) (h : PR G ρ H Q (resB st o)) : ∃ b, o = some b ∧ Q (.bl b) H := by
  cases o with
  | none => exact h.bad
  | some b => exact ⟨b, rfl, h.plain R (rv_bl.mpr rfl)⟩
theorem op_eqD' (hK : X.K = G.K) (hu : X.A.units + 64 < cLine) : OpR X (compareOp .Eq) (rD2 G (cmpop .eq)) := by
  intro pins s σ H x y v u Q I rx ry h
  obtain ⟨ρ, st, dx, dy, R, hx, hy, h⟩ := h
  simp only [cmpop] at h
  obtain ⟨b, e, q⟩ := resB_ok R h
  unfold eqD at e
  split at e
  · rename_i a c ea ec
    split at e
    · rename_i hs
      cases e
      simp only [Bool.and_eq_true] at hs
      exact op_eqD hu pins s σ H _ _ v u Q I rx ry ⟨a, c, by rw [hK]; exact dpS_of R hx ea, by rw [hK]; exact dpS_of R hy ec, hs.1, hs.2, q⟩
    · cases e
  · cases e
theorem op_neD' (hK : X.K = G.K) (hu : X.A.units + 64 < cLine) : OpR X (compareOp .NotEq) (rD2 G (cmpop .ne)) := by
  intro pins s σ H x y v u Q I rx ry h
  obtain ⟨ρ, st, dx, dy, R, hx, hy, h⟩ := h
  simp only [cmpop] at h
  obtain ⟨b, e, q⟩ := resB_ok R h
  unfold eqD at e
  split at e
  · rename_i a c ea ec
    split at e
    · rename_i hs
      cases e
      simp only [Bool.and_eq_true] at hs
      exact op_neD hu pins s σ H _ _ v u Q I rx ry ⟨a, c, by rw [hK]; exact dpS_of R hx ea, by rw [hK]; exact dpS_of R hy ec, hs.1, hs.2, q⟩
    · cases e
  · cases e
theorem op_ltD : OpR X (compareOp .Lt) (rD2 G (cmpop .lt)) := by
  intro pins s σ H x y v u Q I rx ry h
  obtain ⟨ρ, st, dx, dy, R, hx, hy, h⟩ := h
  cases dx <;> cases dy <;> simp only [cmpop] at h <;> try exact h.bad
  · rw [rv_int] at hx hy; subst hx; subst hy
    exact op_lt pins s σ H _ _ v u Q I rx ry ⟨_, _, rfl, rfl, h.plain R (rv_bl.mpr rfl)⟩
  · rw [rv_str] at hx hy; subst hx; subst hy
    exact op_lt_str pins s σ H _ _ v u Q I rx ry ⟨_, _, rfl, rfl, h.plain R (rv_bl.mpr rfl)⟩
theorem op_leD : OpR X (compareOp .LtE) (rD2 G (cmpop .le)) := by
  intro pins s σ H x y v u Q I rx ry h
  obtain ⟨ρ, st, dx, dy, R, hx, hy, h⟩ := h
  cases dx <;> cases dy <;> simp only [cmpop] at h <;> try exact h.bad
  · rw [rv_int] at hx hy; subst hx; subst hy
    exact op_le pins s σ H _ _ v u Q I rx ry ⟨_, _, rfl, rfl, h.plain R (rv_bl.mpr rfl)⟩
  · rw [rv_str] at hx hy; subst hx; subst hy
    exact op_le_str pins s σ H _ _ v u Q I rx ry ⟨_, _, rfl, rfl, h.plain R (rv_bl.mpr rfl)⟩
theorem op_gtD : OpR X (compareOp .Gt) (rD2 G (cmpop .gt)) := by
  intro pins s σ H x y v u Q I rx ry h
  obtain ⟨ρ, st, dx, dy, R, hx, hy, h⟩ := h
  cases dx <;> cases dy <;> simp only [cmpop] at h <;> try exact h.bad
  rw [rv_int] at hx hy; subst hx; subst hy
  exact op_gt pins s σ H _ _ v u Q I rx ry ⟨_, _, rfl, rfl, h.plain R (rv_bl.mpr rfl)⟩
theorem op_geD : OpR X (compareOp .GtE) (rD2 G (cmpop .ge)) := by
  intro pins s σ H x y v u Q I rx ry h
  obtain ⟨ρ, st, dx, dy, R, hx, hy, h⟩ := h
  cases dx <;> cases dy <;> simp only [cmpop] at h <;> try exact h.bad
  rw [rv_int] at hx hy; subst hx; subst hy
  exact op_ge pins s σ H _ _ v u Q I rx ry ⟨_, _, rfl, rfl, h.plain R (rv_bl.mpr rfl)⟩
theorem isNon_of {ρ : List Addr} {H : Hp} {x : V} {d : D} (h : RV G.K ρ H x d) : decide (x = .non) = isNon d := by
  cases d with
  | non => rw [rv_non] at h; subst h; rfl
  | bl b => rw [rv_bl] at h; subst h; rfl
  | int b => rw [rv_int] at h; subst h; rfl
  | str b => rw [rv_str] at h; subst h; rfl
  | tup ds => obtain ⟨a, vs, rfl, _⟩ := rv_tup.mp h; rfl
  | fl ds => obtain ⟨a, vs, rfl, _⟩ := rv_fl.mp h; rfl
  | ref n => obtain ⟨a, rfl, _⟩ := rv_ref.mp h; rfl
theorem op_isD : OpR X (compareOp .Is) (rD2 G (cmpop .is)) := by
  intro pins s σ H x y v u Q I rx ry h
  obtain ⟨ρ, st, dx, dy, R, hx, hy, h⟩ := h
  cases dy with
  | non =>
    simp only [cmpop] at h
    rw [rv_non] at hy; subst hy
    exact op_isN pins s σ H _ _ v u Q I rx ry ⟨rfl, by rw [isNon_of hx]; exact h.plain R (rv_bl.mpr rfl)⟩
  | bl b =>
    cases dx <;> simp only [cmpop] at h <;> try exact h.bad
    rw [rv_bl] at hx hy; subst hx; subst hy
    exact op_is_bl pins s σ H _ _ v u Q I rx ry ⟨_, _, rfl, rfl, h.plain R (rv_bl.mpr rfl)⟩
  | _ => cases dx <;> simp only [cmpop] at h <;> exact h.bad
theorem op_isnotD : OpR X (compareOp .IsNot) (rD2 G (cmpop .isnot)) := by
  intro pins s σ H x y v u Q I rx ry h
  obtain ⟨ρ, st, dx, dy, R, hx, hy, h⟩ := h
  cases dy with
  | non =>
    simp only [cmpop] at h
    rw [rv_non] at hy; subst hy
    exact op_notN pins s σ H _ _ v u Q I rx ry ⟨rfl, by rw [isNon_of hx]; exact h.plain R (rv_bl.mpr rfl)⟩
  | bl b =>
    cases dx <;> simp only [cmpop] at h <;> try exact h.bad
    rw [rv_bl] at hx hy; subst hx; subst hy
    exact op_isnot_bl pins s σ H _ _ v u Q I rx ry ⟨_, _, rfl, rfl, h.plain R (rv_bl.mpr rfl)⟩
  | _ => cases dx <;> simp only [cmpop] at h <;> exact h.bad
end
end Mi

set_option linter.all false
set_option maxRecDepth 100000
/-! More operators: in, items, slices, built-in calls. -/
namespace Mi
open PySem L2 PyProof.Rows
section
variable {G : Glob} {ρ : List Addr} {H : Hp} {st : Store} {Q : VK}
theorem flat_of {d : D} {v : V} (h : RV G.K ρ H v d) (f : flatD d = true) : flatV v = true := by
  cases d with
  | non => rw [rv_non] at h; subst h; rfl
  | bl b => rw [rv_bl] at h; subst h; rfl
  | int b => rw [rv_int] at h; subst h; rfl
  | str b => rw [rv_str] at h; subst h; rfl
  | _ => cases f
theorem flats_of : ∀ {ds : List D} {vs : List V}, RVs G.K ρ H vs ds → ds.all flatD = true → vs.all flatV = true
  | [], _, h, _ => by rw [rvs_nil] at h; subst h; rfl
  | d :: ds, _, h, f => by
    obtain ⟨v, r, rfl, h1, h2⟩ := rvs_cons.mp h
    rw [List.all_cons, Bool.and_eq_true] at f
    rw [List.all_cons, flat_of h1 f.1, flats_of h2 f.2]; rfl
theorem eqV_eqv {d e : D} {v w : V} {p q : PyData} (h : RV G.K ρ H v d) (h' : RV G.K ρ H w e) (f : flatD d = true) (f' : flatD e = true) (ed : D.data d = some p) (ee : D.data e = some q) : eqV v w = PyData.eqv p q := by
  cases d <;> try (cases f)
  all_goals (cases e <;> try (cases f'))
  all_goals (simp only [rv_non, rv_bl, rv_int, rv_str] at h h'; subst h; subst h'; cases ed; cases ee; simp [eqV, PyData.eqv])
theorem any_eqv {d : D} {v : V} {p : PyData} (h : RV G.K ρ H v d) (f : flatD d = true) (ed : D.data d = some p) : ∀ {ds : List D} {vs : List V} {ps : List PyData}, RVs G.K ρ H vs ds → ds.all flatD = true → D.dataL ds = some ps →
    inV v vs = ps.any fun z => PyData.eqv z p
  | [], _, _, h, _, e => by rw [rvs_nil] at h; subst h; unfold D.dataL at e; cases e; rfl
  | c :: ds, _, _, hs, fs, e => by
    obtain ⟨w, r, rfl, h1, h2⟩ := rvs_cons.mp hs
    rw [List.all_cons, Bool.and_eq_true] at fs
    unfold D.dataL at e
    cases q : D.data c with
    | none => rw [q] at e; cases e
    | some a =>
      cases q2 : D.dataL ds with
      | none => rw [q, q2] at e; cases e
      | some as =>
        rw [q, q2] at e; cases e
        have ih := any_eqv h f ed h2 fs.2 q2
        unfold inV at ih ⊢
        rw [List.any_cons, List.any_cons, ih, eqV_eqv h1 h fs.1 f q ed]
end
section
variable {X : Cx} {G : Glob}
theorem inD_run {neg : Bool} (hK : X.K = G.K) (hu : X.A.units + 65 < cLine) {pins : List (Addr × Obj)} {s : Shared} {σ : L2.St} {H : Hp} {x y : V} {v u : Value} {Q : VK} {ρ : List Addr} {st : Store} {dx dy : D} {b : Bool}
    (I : Inv X pins σ H s) (rx : RelV x v) (ry : RelV y u) (R : Rel G ρ H st) (hx : RV G.K ρ H x dx) (hy : RV G.K ρ H y dy) (e : inD st dx dy = some b) (q : Q (.bl (if neg then !b else b)) H) :
    wpAny (model X.prog X.w) X.A (compareOp (if neg then .NotIn else .In) v u) (EP X pins σ Q) X.xe s := by
  unfold inD at e
  split at e
  · rename_i t
    split at e
    · rename_i z
      rw [rv_str] at hx hy; subst hx; subst hy
      cases e
      cases neg
      · exact op_in_str pins s σ H _ _ v u Q I rx ry ⟨_, _, rfl, rfl, q⟩
      · exact op_notin_str pins s σ H _ _ v u Q I rx ry ⟨_, _, rfl, rfl, q⟩
    · cases e
  · rename_i ys
    split at e
    · rename_i f
      rw [Bool.and_eq_true] at f
      split at e
      · rename_i p ps e1 e2
        cases e
        obtain ⟨a, vs, rfl, t, r⟩ := rv_tup.mp hy
        rw [← any_eqv hx f.1 e1 r f.2 e2] at q
        cases neg
        · exact op_in_seq pins s σ H _ _ v u Q I rx ry ⟨a, vs, rfl, .inr (by rw [hK]; exact t), flat_of hx f.1, flats_of r f.2, q⟩
        · exact op_notIn_seq pins s σ H _ _ v u Q I rx ry ⟨a, vs, rfl, .inr (by rw [hK]; exact t), flat_of hx f.1, flats_of r f.2, q⟩
      · cases e
    · cases e
  · rename_i n
    split at e
    · rename_i ys hys
      split at e
      · rename_i p ps e1 e2
        split at e
        · rename_i hs
          rw [Bool.and_eq_true] at hs
          cases e
          obtain ⟨a, rfl, ha⟩ := rv_ref.mp hy
          obtain ⟨vs, h1, r⟩ := R.lstAt ha hys
          have dl : Dp X.K H (.ref a) (.list ps) := by rw [hK]; exact .lst (SqL.of h1) (dps_of ys r e2)
          have dd : Dp X.K H x p := by rw [hK]; exact dpS_of R hx e1
          cases neg
          · exact op_inD hu pins s σ H _ _ v u Q I rx ry ⟨p, ps, dd, dl, hs.1, hs.2, q⟩
          · exact op_notInD hu pins s σ H _ _ v u Q I rx ry ⟨p, ps, dd, dl, hs.1, hs.2, q⟩
        · cases e
      · cases e
    · cases e
  · cases e
theorem op_inD' (hK : X.K = G.K) (hu : X.A.units + 65 < cLine) : OpR X (compareOp .In) (rD2 G (cmpop .isin)) := by
  intro pins s σ H x y v u Q I rx ry h
  obtain ⟨ρ, st, dx, dy, R, hx, hy, h⟩ := h
  simp only [cmpop] at h
  obtain ⟨b, e, q⟩ := resB_ok R h
  exact inD_run (neg := false) hK hu I rx ry R hx hy e q
theorem op_notinD' (hK : X.K = G.K) (hu : X.A.units + 65 < cLine) : OpR X (compareOp .NotIn) (rD2 G (cmpop .notin)) := by
  intro pins s σ H x y v u Q I rx ry h
  obtain ⟨ρ, st, dx, dy, R, hx, hy, h⟩ := h
  simp only [cmpop] at h
  obtain ⟨b, e, q⟩ := resB_ok R h
  cases e2 : inD st dx dy with
  | none => rw [e2] at e; cases e
  | some c =>
    rw [e2] at e; cases e
    exact inD_run (neg := true) hK hu I rx ry R hx hy e2 q

theorem ix_D (hK : X.K = G.K) : IxR X (rD2 G idxop) := by
  intro value slice pins s σ H x y v u Q I rx ry h hs
  obtain ⟨ρ, st, dx, dy, R, hx, hy, h⟩ := h
  cases dx <;> cases dy <;> simp only [idxop] at h <;> try exact h.bad
  · rw [rv_str, rv_int] at *; subst hx; subst hy
    split at h
    · rename_i c e
      split at h
      · rename_i hl
        exact ix_str value slice pins s σ H _ _ v u Q I rx ry ⟨_, _, c, rfl, rfl, by rw [← line_eq]; exact hl, e, h.plain R (rv_str.mpr rfl)⟩ hs
      · exact h.bad
    · exact h.bad
  · rw [rv_int] at hy; subst hy
    obtain ⟨a, vs, rfl, t, r⟩ := rv_tup.mp hx
    split at h
    · rename_i d e
      obtain ⟨w, e2, rw_⟩ := r.atI e
      exact ix_tup value slice pins s σ H _ _ v u Q I rx ry ⟨a, vs, _, w, rfl, rfl, by rw [hK]; exact t, e2, h.plain R rw_⟩ hs
    · exact h.bad
  · rw [rv_int] at hy; subst hy
    obtain ⟨a, vs, rfl, t, r⟩ := rv_fl.mp hx
    split at h
    · rename_i d e
      obtain ⟨w, e2, rw_⟩ := r.atI e
      exact ix_list value slice pins s σ H _ _ v u Q I rx ry ⟨a, vs, _, w, rfl, rfl, by rw [hK]; exact t.sq, e2, h.plain R rw_⟩ hs
    · exact h.bad
  · rw [rv_int] at hy; subst hy
    obtain ⟨a, rfl, ha⟩ := rv_ref.mp hx
    split at h
    · rename_i xs hxs
      split at h
      · rename_i d e
        obtain ⟨vs, h1, r⟩ := R.lstAt ha hxs
        obtain ⟨w, e2, rw_⟩ := r.atI e
        exact ix_list value slice pins s σ H _ _ v u Q I rx ry ⟨a, vs, _, w, rfl, rfl, SqL.of h1, e2, h.plain R rw_⟩ hs
      · exact h.bad
    · exact h.bad

def rSlD (G : Glob) : V → Option Int → Option Int → Hp → VK → Prop := fun x lo hi H Q =>
  ∃ ρ st dx, Rel G ρ H st ∧ RV G.K ρ H x dx ∧ PR G ρ H Q (slcop dx lo hi st)
theorem cut_whole {α : Type} {xs : List α} {lo hi : Option Int} (h : HT.sIx xs.length 0 lo = 0 ∧ HT.sIx xs.length xs.length hi = xs.length) : cutG xs lo hi = xs := by
  unfold cutG
  rw [h.1, h.2]
  simp
theorem sl_D (hK : X.K = G.K) : SlR X (rSlD G) := by
  intro pins s σ H x v vl vu lo hi sl Q I rx hs pl pu h
  obtain ⟨ρ, st, dx, R, hx, h⟩ := h
  cases dx <;> simp only [slcop] at h <;> try exact h.bad
  · rw [rv_str] at hx; subst hx
    split at h
    · rename_i hl
      exact sl_str pins s σ H _ v vl vu lo hi sl Q I rx hs pl pu ⟨_, rfl, by rw [← line_eq]; exact hl, h.plain R (rv_str.mpr rfl)⟩
    · exact h.bad
  · obtain ⟨a, vs, rfl, t, r⟩ := rv_tup.mp hx
    refine sl_tupA pins s σ H _ v vl vu lo hi sl Q I rx hs pl pu ⟨a, vs, rfl, by rw [hK]; exact t, fun w => ?_, fun w p hp => ?_⟩
    · rw [r.length] at w
      rw [cut_whole w] at h
      exact h.plain R hx
    · exact h.tup R (r.cut lo hi) hp
  · obtain ⟨a, vs, rfl, t, r⟩ := rv_fl.mp hx
    exact sl_list pins s σ H _ v vl vu lo hi sl Q I rx hs pl pu ⟨a, vs, rfl, by rw [hK]; exact t.sq, fun p hp => h.lst R (r.cut lo hi) hp⟩
  · obtain ⟨a, rfl, ha⟩ := rv_ref.mp hx
    split at h
    · rename_i xs hxs
      obtain ⟨vs, h1, r⟩ := R.lstAt ha hxs
      exact sl_list pins s σ H _ v vl vu lo hi sl Q I rx hs pl pu ⟨a, vs, rfl, SqL.of h1, fun p hp => h.lst R (r.cut lo hi) hp⟩
    · exact h.bad

/-! ### built-in calls -/
theorem lstOf_sq {ρ : List Addr} {H : Hp} {st : Store} {x : V} {d : D} {xs : List D} (R : Rel G ρ H st) (h : RV G.K ρ H x d) (e : lstOf st d = some xs) : ∃ a vs, x = .ref a ∧ SqL G.K H a vs ∧ RVs G.K ρ H vs xs := by
  cases d <;> simp only [lstOf] at e <;> try (cases e)
  · obtain ⟨a, vs, rfl, t, r⟩ := rv_fl.mp h
    exact ⟨a, vs, rfl, t.sq, r⟩
  · obtain ⟨a, rfl, ha⟩ := rv_ref.mp h
    split at e
    · rename_i ys hys
      cases e
      obtain ⟨vs, h1, r⟩ := R.lstAt ha hys
      exact ⟨a, vs, rfl, SqL.of h1, r⟩
    · cases e
theorem ints_of {K : PySem.W.Frag} {ρ : List Addr} {H : Hp} : ∀ {ds : List D} {vs : List V} {ns : List Int}, RVs K ρ H vs ds → intsD ds = some ns → vs = ns.map V.int
  | [], _, _, h, e => by unfold RVs at h; subst h; cases e; rfl
  | .int i :: ds, _, _, h, e => by
    unfold RVs at h
    obtain ⟨v, r, rfl, h1, h2⟩ := h
    unfold RV at h1; subst h1
    simp only [intsD] at e
    cases q : intsD ds with
    | none => rw [q] at e; cases e
    | some ms => rw [q] at e; cases e; rw [ints_of h2 q]; rfl
  | .non :: _, _, _, _, e => by cases e
  | .bl _ :: _, _, _, _, e => by cases e
  | .str _ :: _, _, _, _, e => by cases e
  | .tup _ :: _, _, _, _, e => by cases e
  | .fl _ :: _, _, _, _, e => by cases e
  | .ref _ :: _, _, _, _, e => by cases e
theorem bls_of {K : PySem.W.Frag} {ρ : List Addr} {H : Hp} : ∀ {ds : List D} {vs : List V} {ns : List Bool}, RVs K ρ H vs ds → blsD ds = some ns → vs = ns.map V.bl
  | [], _, _, h, e => by unfold RVs at h; subst h; cases e; rfl
  | .bl i :: ds, _, _, h, e => by
    unfold RVs at h
    obtain ⟨v, r, rfl, h1, h2⟩ := h
    unfold RV at h1; subst h1
    simp only [blsD] at e
    cases q : blsD ds with
    | none => rw [q] at e; cases e
    | some ms => rw [q] at e; cases e; rw [bls_of h2 q]; rfl
  | .non :: _, _, _, _, e => by cases e
  | .int _ :: _, _, _, _, e => by cases e
  | .str _ :: _, _, _, _, e => by cases e
  | .tup _ :: _, _, _, _, e => by cases e
  | .fl _ :: _, _, _, _, e => by cases e
  | .ref _ :: _, _, _, _, e => by cases e
theorem strs_of {K : PySem.W.Frag} {ρ : List Addr} {H : Hp} : ∀ {ds : List D} {vs : List V} {ns : List Str}, RVs K ρ H vs ds → strsD ds = some ns → vs = ns.map V.str
  | [], _, _, h, e => by unfold RVs at h; subst h; cases e; rfl
  | .str i :: ds, _, _, h, e => by
    unfold RVs at h
    obtain ⟨v, r, rfl, h1, h2⟩ := h
    unfold RV at h1; subst h1
    simp only [strsD] at e
    cases q : strsD ds with
    | none => rw [q] at e; cases e
    | some ms => rw [q] at e; cases e; rw [strs_of h2 q]; rfl
  | .non :: _, _, _, _, e => by cases e
  | .int _ :: _, _, _, _, e => by cases e
  | .bl _ :: _, _, _, _, e => by cases e
  | .tup _ :: _, _, _, _, e => by cases e
  | .fl _ :: _, _, _, _, e => by cases e
  | .ref _ :: _, _, _, _, e => by cases e

theorem call_lenD (hK : X.K = G.K) : CallR X (.builtin "len") (rDs G (biop .len)) := by
  intro pins s σ H xs us Q I r h
  obtain ⟨ρ, st, ds, R, hs, h⟩ := h
  unfold biop at h
  split at h <;> try exact h.bad
  all_goals (rename_i heq; try (cases heq))
  · obtain ⟨v, rfl, hv⟩ := rvs_1.mp hs
    obtain ⟨a, vs, rfl, t, r1⟩ := rv_tup.mp hv
    exact call_len_seq pins s σ H _ us Q I r ⟨a, vs, rfl, .inr (by rw [hK]; exact t), by rw [r1.length]; exact h.plain R (rv_int.mpr rfl)⟩
  · obtain ⟨v, rfl, hv⟩ := rvs_1.mp hs
    rw [rv_str] at hv; subst hv
    split at h
    · rename_i hl
      exact call_len_str pins s σ H _ us Q I r ⟨_, rfl, by rw [← line_eq]; exact hl, h.plain R (rv_int.mpr rfl)⟩
    · exact h.bad
  · obtain ⟨v, rfl, hv⟩ := rvs_1.mp hs
    split at h
    · rename_i xs e
      obtain ⟨a, vs, rfl, t, r1⟩ := lstOf_sq R hv e
      exact call_len_seq pins s σ H _ us Q I r ⟨a, vs, rfl, .inl (by rw [hK]; exact t), by rw [r1.length]; exact h.plain R (rv_int.mpr rfl)⟩
    · exact h.bad

theorem call_intD : CallR X (.type "int") (rDs G (biop .int)) := by
  intro pins s σ H xs us Q I r h
  obtain ⟨ρ, st, ds, R, hs, h⟩ := h
  unfold biop at h
  split at h <;> try exact h.bad
  all_goals (rename_i heq; try (cases heq))
  · obtain ⟨v, rfl, hv⟩ := rvs_1.mp hs
    rw [rv_int] at hv; subst hv
    exact call_int1 pins s σ H _ us Q I r (.inl ⟨_, rfl, h.plain R (rv_int.mpr rfl)⟩)
  · obtain ⟨v, rfl, hv⟩ := rvs_1.mp hs
    rw [rv_bl] at hv; subst hv
    exact call_int1 pins s σ H _ us Q I r (.inr ⟨_, rfl, h.plain R (rv_int.mpr rfl)⟩)
  · obtain ⟨v, rfl, hv⟩ := rvs_1.mp hs
    rw [rv_str] at hv; subst hv
    split at h
    · rename_i n e
      split at h
      · rename_i hl
        exact call_int_str pins s σ H _ us Q I r ⟨_, n, rfl, e, hl, h.plain R (rv_int.mpr rfl)⟩
      · exact h.bad
    · exact h.bad
theorem call_strD : CallR X (.type "str") (rDs G (biop .str)) := by
  intro pins s σ H xs us Q I r h
  obtain ⟨ρ, st, ds, R, hs, h⟩ := h
  unfold biop at h
  split at h <;> try exact h.bad
  all_goals (rename_i heq; try (cases heq))
  obtain ⟨v, rfl, hv⟩ := rvs_1.mp hs
  rw [rv_int] at hv; subst hv
  split at h
  · rename_i hl
    exact call_str_int pins s σ H _ us Q I r ⟨_, rfl, hl, h.plain R (rv_str.mpr rfl)⟩
  · exact h.bad
theorem call_tupleD (hK : X.K = G.K) : CallR X (.type "tuple") (rDs G (biop .tuple)) := by
  intro pins s σ H xs us Q I r h
  obtain ⟨ρ, st, ds, R, hs, h⟩ := h
  unfold biop at h
  split at h <;> try exact h.bad
  all_goals (rename_i heq; try (cases heq))
  · obtain ⟨v, rfl, hv⟩ := rvs_1.mp hs
    obtain ⟨a, vs, rfl, t, r1⟩ := rv_tup.mp hv
    exact call_tuple_of pins s σ H _ us Q I r ⟨a, vs, rfl, .inr ⟨by rw [hK]; exact t, h.plain R hv⟩⟩
  · obtain ⟨v, rfl, hv⟩ := rvs_1.mp hs
    split at h
    · rename_i xs e
      obtain ⟨a, vs, rfl, t, r1⟩ := lstOf_sq R hv e
      exact call_tuple_of pins s σ H _ us Q I r ⟨a, vs, rfl, .inl ⟨by rw [hK]; exact t, fun p hp => h.tup R r1 hp⟩⟩
    · exact h.bad
theorem call_listD (hK : X.K = G.K) : CallR X (.type "list") (rDs G (biop .list)) := by
  intro pins s σ H xs us Q I r h
  obtain ⟨ρ, st, ds, R, hs, h⟩ := h
  unfold biop at h
  split at h <;> try exact h.bad
  all_goals (rename_i heq; try (cases heq))
  · obtain ⟨v, rfl, hv⟩ := rvs_1.mp hs
    obtain ⟨a, vs, rfl, t, r1⟩ := rv_tup.mp hv
    exact call_list_of pins s σ H _ us Q I r ⟨a, vs, rfl, .inr (by rw [hK]; exact t), fun p hp => h.lst R r1 hp⟩
  · obtain ⟨v, rfl, hv⟩ := rvs_1.mp hs
    split at h
    · rename_i xs e
      obtain ⟨a, vs, rfl, t, r1⟩ := lstOf_sq R hv e
      exact call_list_of pins s σ H _ us Q I r ⟨a, vs, rfl, .inl (by rw [hK]; exact t), fun p hp => h.lst R r1 hp⟩
    · exact h.bad
theorem call_sumD (hK : X.K = G.K) (hc : X.calm = true) : CallR X (.builtin "sum") (rDs G (biop .sum)) := by
  intro pins s σ H xs us Q I r h
  obtain ⟨ρ, st, ds, R, hs, h⟩ := h
  unfold biop at h
  split at h <;> try exact h.bad
  all_goals (rename_i heq; try (cases heq))
  obtain ⟨v, rfl, hv⟩ := rvs_1.mp hs
  split at h
  · rename_i ns e
    obtain ⟨xs, e1, e2⟩ := Option.bind_eq_some_iff.mp e
    obtain ⟨a, vs, rfl, t, r1⟩ := lstOf_sq R hv e1
    rw [ints_of r1 e2] at t
    exact cr_sum hc pins s σ H _ us Q I r ⟨a, ns, rfl, by rw [hK]; exact t, h.plain R (rv_int.mpr rfl)⟩
  · exact h.bad
theorem call_allD (hK : X.K = G.K) (hc : X.calm = true) : CallR X (.builtin "all") (rDs G (biop .all)) := by
  intro pins s σ H xs us Q I r h
  obtain ⟨ρ, st, ds, R, hs, h⟩ := h
  unfold biop at h
  split at h <;> try exact h.bad
  all_goals (rename_i heq; try (cases heq))
  obtain ⟨v, rfl, hv⟩ := rvs_1.mp hs
  split at h
  · rename_i ns e
    obtain ⟨xs, e1, e2⟩ := Option.bind_eq_some_iff.mp e
    obtain ⟨a, vs, rfl, t, r1⟩ := lstOf_sq R hv e1
    rw [bls_of r1 e2] at t
    exact cr_all hc pins s σ H _ us Q I r ⟨a, ns, rfl, by rw [hK]; exact t, h.plain R (rv_bl.mpr rfl)⟩
  · exact h.bad
theorem call_maxD (hc : X.calm = true) : CallR X (.builtin "max") (rDs G (biop .max)) := by
  intro pins s σ H xs us Q I r h
  obtain ⟨ρ, st, ds, R, hs, h⟩ := h
  unfold biop at h
  split at h <;> try exact h.bad
  all_goals (rename_i heq; try (cases heq))
  obtain ⟨v, w, rfl, hv, hw⟩ := rvs_2.mp hs
  rw [rv_int] at hv hw; subst hv; subst hw
  exact call_max2 hc pins s σ H _ us Q I r ⟨_, _, rfl, h.plain R (rv_int.mpr rfl)⟩
theorem call_minD (hc : X.calm = true) : CallR X (.builtin "min") (rDs G (biop .min)) := by
  intro pins s σ H xs us Q I r h
  obtain ⟨ρ, st, ds, R, hs, h⟩ := h
  unfold biop at h
  split at h <;> try exact h.bad
  all_goals (rename_i heq; try (cases heq))
  obtain ⟨v, w, rfl, hv, hw⟩ := rvs_2.mp hs
  rw [rv_int] at hv hw; subst hv; subst hw
  exact call_min2 hc pins s σ H _ us Q I r ⟨_, _, rfl, h.plain R (rv_int.mpr rfl)⟩
theorem call_absD : CallR X (.builtin "abs") (rDs G (biop .abs)) := by
  intro pins s σ H xs us Q I r h
  obtain ⟨ρ, st, ds, R, hs, h⟩ := h
  unfold biop at h
  split at h <;> try exact h.bad
  all_goals (rename_i heq; try (cases heq))
  obtain ⟨v, rfl, hv⟩ := rvs_1.mp hs
  rw [rv_int] at hv; subst hv
  exact call_abs pins s σ H _ us Q I r ⟨_, rfl, h.plain R (rv_int.mpr rfl)⟩

/-! ### methods of lists and texts -/
theorem mt_appendD : MtM X "list.append" (rDm G (mthop .append)) := by
  intro pins s σ H x xs v us Q I rx rs h
  obtain ⟨ρ, st, dx, ds, R, hx, hs, h⟩ := h
  unfold mthop at h
  split at h <;> try exact h.bad
  all_goals (rename_i heq; try (cases heq))
  obtain ⟨y, rfl, hy⟩ := rvs_1.mp hs
  obtain ⟨a, rfl, ha⟩ := rv_ref.mp hx
  split at h
  · rename_i zs e
    split at h
    · rename_i hl
      obtain ⟨vs, h1, r1⟩ := R.lstAt ha e
      exact mt_append pins s σ H _ _ v us Q I rx rs ⟨a, vs, y, rfl, rfl, h1, by rw [← line_eq, r1.length]; exact hl, h.put R ha (r1.append (rvs_1.mpr ⟨y, rfl, hy⟩)) (rv_non.mpr rfl)⟩
    · exact h.bad
  · exact h.bad
theorem mt_popD : MtM X "list.pop" (rDm G (mthop .pop)) := by
  intro pins s σ H x xs v us Q I rx rs h
  obtain ⟨ρ, st, dx, ds, R, hx, hs, h⟩ := h
  unfold mthop at h
  split at h <;> try exact h.bad
  all_goals (rename_i heq; try (cases heq))
  obtain ⟨y, rfl, hy⟩ := rvs_1.mp hs
  rw [rv_int] at hy; subst hy
  obtain ⟨a, rfl, ha⟩ := rv_ref.mp hx
  split at h
  · rename_i zs e
    split at h
    · rename_i k ek
      split at h
      · rename_i d ed
        split at h
        · rename_i hl
          obtain ⟨vs, h1, r1⟩ := R.lstAt ha e
          obtain ⟨w, hw, rw_⟩ := r1.get ed
          exact mt_popAt pins s σ H _ _ v us Q I rx rs ⟨a, vs, _, k, w, rfl, rfl, h1, hl.1, hl.2, by rw [r1.length]; exact ek, hw, h.put R ha (r1.erase k) rw_⟩
        · exact h.bad
      · exact h.bad
    · exact h.bad
  · exact h.bad
theorem mt_extendD : MtM X "list.extend" (rDm G (mthop .extend)) := by
  intro pins s σ H x xs v us Q I rx rs h
  obtain ⟨ρ, st, dx, ds, R, hx, hs, h⟩ := h
  unfold mthop at h
  split at h <;> try exact h.bad
  all_goals (rename_i heq; try (cases heq))
  obtain ⟨y, rfl, hy⟩ := rvs_1.mp hs
  obtain ⟨a, rfl, ha⟩ := rv_ref.mp hx
  obtain ⟨b, rfl, hb⟩ := rv_ref.mp hy
  split at h
  · rename_i zs ys e e'
    split at h
    · rename_i hl
      obtain ⟨vs, h1, r1⟩ := R.lstAt ha e
      obtain ⟨ws, h2, r2⟩ := R.lstAt hb e'
      exact mt_extend pins s σ H _ _ v us Q I rx rs ⟨a, b, vs, ws, rfl, rfl, h1, h2, by rw [← line_eq, r1.length, r2.length]; exact hl, h.put R ha (r1.append r2) (rv_non.mpr rfl)⟩
    · exact h.bad
  · exact h.bad
theorem mt_startswithD : MtR X "str.startswith" (rDm G (mthop .startswith)) := by
  intro pins s σ H x xs v us Q I rx rs h
  obtain ⟨ρ, st, dx, ds, R, hx, hs, h⟩ := h
  unfold mthop at h
  split at h <;> try exact h.bad
  all_goals (rename_i heq; try (cases heq))
  obtain ⟨y, rfl, hy⟩ := rvs_1.mp hs
  rw [rv_str] at hx hy; subst hx; subst hy
  exact mt_startswith pins s σ H _ _ v us Q I rx rs ⟨_, _, rfl, rfl, h.plain R (rv_bl.mpr rfl)⟩
theorem mt_endswithD : MtR X "str.endswith" (rDm G (mthop .endswith)) := by
  intro pins s σ H x xs v us Q I rx rs h
  obtain ⟨ρ, st, dx, ds, R, hx, hs, h⟩ := h
  unfold mthop at h
  split at h <;> try exact h.bad
  all_goals (rename_i heq; try (cases heq))
  obtain ⟨y, rfl, hy⟩ := rvs_1.mp hs
  rw [rv_str] at hx hy; subst hx; subst hy
  exact mt_endswith pins s σ H _ _ v us Q I rx rs ⟨_, _, rfl, rfl, h.plain R (rv_bl.mpr rfl)⟩
theorem mt_removeprefixD : MtR X "str.removeprefix" (rDm G (mthop .removeprefix)) := by
  intro pins s σ H x xs v us Q I rx rs h
  obtain ⟨ρ, st, dx, ds, R, hx, hs, h⟩ := h
  unfold mthop at h
  split at h <;> try exact h.bad
  all_goals (rename_i heq; try (cases heq))
  obtain ⟨y, rfl, hy⟩ := rvs_1.mp hs
  rw [rv_str] at hx hy; subst hx; subst hy
  split at h
  · rename_i hl
    exact mt_removeprefix pins s σ H _ _ v us Q I rx rs ⟨_, _, rfl, rfl, by rw [← line_eq]; exact hl, h.plain R (rv_str.mpr rfl)⟩
  · exact h.bad
theorem mt_isasciiD : MtR X "str.isascii" (rDm G (mthop .isascii)) := by
  intro pins s σ H x xs v us Q I rx rs h
  obtain ⟨ρ, st, dx, ds, R, hx, hs, h⟩ := h
  unfold mthop at h
  split at h <;> try exact h.bad
  all_goals (rename_i heq; try (cases heq))
  rw [rvs_nil] at hs; subst hs
  rw [rv_str] at hx; subst hx
  exact mt_isascii pins s σ H _ _ v us Q I rx rs ⟨_, rfl, rfl, trivial, h.plain R (rv_bl.mpr rfl)⟩
theorem mt_isdigitD : MtR X "str.isdigit" (rDm G (mthop .isdigit)) := by
  intro pins s σ H x xs v us Q I rx rs h
  obtain ⟨ρ, st, dx, ds, R, hx, hs, h⟩ := h
  unfold mthop at h
  split at h <;> try exact h.bad
  all_goals (rename_i heq; try (cases heq))
  rw [rvs_nil] at hs; subst hs
  rw [rv_str] at hx; subst hx
  exact mt_isdigit pins s σ H _ _ v us Q I rx rs ⟨_, rfl, rfl, trivial, h.plain R (rv_bl.mpr rfl)⟩
theorem rvs_strs {K : PySem.W.Frag} {ρ : List Addr} {H : Hp} : ∀ (xs : List Str), RVs K ρ H (xs.map V.str) (xs.map D.str)
  | [] => RVs.nil_
  | x :: xs => RVs.cons_ (by unfold RV; rfl) (rvs_strs xs)
theorem mt_splitD : MtR X "str.split" (rDm G (mthop .split)) := by
  intro pins s σ H x xs v us Q I rx rs h
  obtain ⟨ρ, st, dx, ds, R, hx, hs, h⟩ := h
  unfold mthop at h
  split at h <;> try exact h.bad
  all_goals (rename_i heq; try (cases heq))
  obtain ⟨y, rfl, hy⟩ := rvs_1.mp hs
  rw [rv_str] at hx hy; subst hx; subst hy
  split at h
  · rename_i hl
    exact mt_split pins s σ H _ _ v us Q I rx rs ⟨_, _, rfl, rfl, hl.1, by rw [← line_eq]; exact hl.2, fun p hp => h.lst R (rvs_strs _) hp⟩
  · exact h.bad
theorem mt_partitionD : MtR X "str.partition" (rDm G (mthop .partition)) := by
  intro pins s σ H x xs v us Q I rx rs h
  obtain ⟨ρ, st, dx, ds, R, hx, hs, h⟩ := h
  unfold mthop at h
  split at h <;> try exact h.bad
  all_goals (rename_i heq; try (cases heq))
  obtain ⟨y, rfl, hy⟩ := rvs_1.mp hs
  rw [rv_str] at hx hy; subst hx; subst hy
  split at h
  · rename_i hl
    exact mt_partition pins s σ H _ _ v us Q I rx rs ⟨_, _, rfl, rfl, hl.1, by rw [← line_eq]; exact hl.2, fun p hp => h.tup R (rvs_strs [_, _, _]) hp⟩
  · exact h.bad
theorem mt_joinD (hK : X.K = G.K) : MtR X "str.join" (rDm G (mthop .join)) := by
  intro pins s σ H x xs v us Q I rx rs h
  obtain ⟨ρ, st, dx, ds, R, hx, hs, h⟩ := h
  unfold mthop at h
  split at h <;> try exact h.bad
  all_goals (rename_i heq; try (cases heq))
  obtain ⟨y, rfl, hy⟩ := rvs_1.mp hs
  rw [rv_str] at hx; subst hx
  split at h
  · rename_i zs e
    split at h
    · rename_i ys ey
      split at h
      · rename_i hl
        have fin : ∃ a vs, y = .ref a ∧ (SqL G.K H a vs ∨ SqT G.K H a vs) ∧ RVs G.K ρ H vs zs := by
          split at e
          · cases e
            obtain ⟨a, vs, rfl, t, r1⟩ := rv_tup.mp hy
            exact ⟨a, vs, rfl, .inr t, r1⟩
          · obtain ⟨a, vs, rfl, t, r1⟩ := lstOf_sq R hy e
            exact ⟨a, vs, rfl, .inl t, r1⟩
        obtain ⟨a, vs, rfl, t, r1⟩ := fin
        rw [strs_of r1 ey] at t
        exact mt_join pins s σ H _ _ v us Q I rx rs ⟨_, a, ys, rfl, rfl, by rw [hK]; exact t, hl, h.plain R (rv_str.mpr rfl)⟩
      · exact h.bad
    · exact h.bad
  · exact h.bad
end
end Mi

set_option linter.all false
set_option maxRecDepth 100000
/-! A text is the small language's: how it is looked at. -/
namespace Mi
open PySem L2

def asConst : Expr → Option Const
  | .Constant c _ _ => some c
  | _ => none
def asName : Expr → Option Str
  | .Name x _ => some x
  | _ => none
def asUn : Expr → Option (UnaryOp × Expr)
  | .UnaryOp o a _ => some (o, a)
  | _ => none
def asBin : Expr → Option (Expr × Operator × Expr)
  | .BinOp a o b _ => some (a, o, b)
  | _ => none
def asCmp : Expr → Option (Expr × CmpOp × Expr)
  | .Compare a [o] [b] _ => some (a, o, b)
  | _ => none
def asChain : Expr → Option (Expr × CmpOp × Expr × CmpOp × Expr)
  | .Compare a [o, o'] [b, c] _ => some (a, o, b, o', c)
  | _ => none
def asBool : Expr → Option (BoolOp × List Expr)
  | .BoolOp o es _ => some (o, es)
  | _ => none
def asIf : Expr → Option (Expr × Expr × Expr)
  | .IfExp c a b _ => some (c, a, b)
  | _ => none
def asTup : Expr → Option (List Expr)
  | .Tuple es _ _ => some es
  | _ => none
def asLst : Expr → Option (List Expr)
  | .List es _ => some es
  | _ => none
def asSub : Expr → Option (Expr × Expr)
  | .Subscript a b _ => some (a, b)
  | _ => none
def asSlc : Expr → Option (Expr × Option Expr × Option Expr)
  | .Subscript a (.Slice lo hi none _) _ => some (a, lo, hi)
  | _ => none
def asCall : Expr → Option (Str × List Expr)
  | .Call (.Name f _) es [] _ => some (f, es)
  | _ => none
def asMth : Expr → Option (Expr × Str × List Expr)
  | .Call (.Attribute o m ap) es [] p => if ap.endLine == p.line then some (o, m, es) else none
  | _ => none
def asLC : Expr → Option (Expr × Expr × Expr × List Expr × Scope)
  | .ListComp el [⟨tg, it, ifs, 0⟩] sc _ => some (el, tg, it, ifs, sc)
  | _ => none
def asAttr : Expr → Option (Expr × Str)
  | .Attribute a f _ => some (a, f)
  | _ => none
def asDict0 : Expr → Bool
  | .Dict [] [] _ => true
  | _ => false

theorem asConst_eq {e : Expr} {c : Const} (h : asConst e = some c) : ∃ k p, e = .Constant c k p := by
  cases e <;> simp [asConst] at h; subst h; exact ⟨_, _, rfl⟩
theorem asName_eq {e : Expr} {c : Str} (h : asName e = some c) : ∃ p, e = .Name c p := by
  cases e <;> simp [asName] at h; subst h; exact ⟨_, rfl⟩
theorem asUn_eq {e a : Expr} {o : UnaryOp} (h : asUn e = some (o, a)) : ∃ p, e = .UnaryOp o a p := by
  cases e <;> simp [asUn] at h; obtain ⟨rfl, rfl⟩ := h; exact ⟨_, rfl⟩
theorem asBin_eq {e a b : Expr} {o : Operator} (h : asBin e = some (a, o, b)) : ∃ p, e = .BinOp a o b p := by
  cases e <;> simp [asBin] at h; obtain ⟨rfl, rfl, rfl⟩ := h; exact ⟨_, rfl⟩
theorem asCmp_eq {e a b : Expr} {o : CmpOp} (h : asCmp e = some (a, o, b)) : ∃ p, e = .Compare a [o] [b] p := by
  unfold asCmp at h
  split at h
  · cases h; exact ⟨_, rfl⟩
  · cases h
theorem asChain_eq {e a b c : Expr} {o o' : CmpOp} (h : asChain e = some (a, o, b, o', c)) : ∃ p, e = .Compare a [o, o'] [b, c] p := by
  unfold asChain at h
  split at h
  · cases h; exact ⟨_, rfl⟩
  · cases h
theorem asBool_eq {e : Expr} {o : BoolOp} {es : List Expr} (h : asBool e = some (o, es)) : ∃ p, e = .BoolOp o es p := by
  cases e <;> simp [asBool] at h; obtain ⟨rfl, rfl⟩ := h; exact ⟨_, rfl⟩
theorem asIf_eq {e a b c : Expr} (h : asIf e = some (c, a, b)) : ∃ p, e = .IfExp c a b p := by
  cases e <;> simp [asIf] at h; obtain ⟨rfl, rfl, rfl⟩ := h; exact ⟨_, rfl⟩
theorem asTup_eq {e : Expr} {es : List Expr} (h : asTup e = some es) : ∃ k p, e = .Tuple es k p := by
  cases e <;> simp [asTup] at h; subst h; exact ⟨_, _, rfl⟩
theorem asLst_eq {e : Expr} {es : List Expr} (h : asLst e = some es) : ∃ p, e = .List es p := by
  cases e <;> simp [asLst] at h; subst h; exact ⟨_, rfl⟩
theorem asSub_eq {e a b : Expr} (h : asSub e = some (a, b)) : ∃ p, e = .Subscript a b p := by
  cases e <;> simp [asSub] at h; obtain ⟨rfl, rfl⟩ := h; exact ⟨_, rfl⟩
theorem asSlc_eq {e a : Expr} {lo hi : Option Expr} (h : asSlc e = some (a, lo, hi)) : ∃ p q, e = .Subscript a (.Slice lo hi none p) q := by
  unfold asSlc at h
  split at h
  · cases h; exact ⟨_, _, rfl⟩
  · cases h
theorem asCall_eq {e : Expr} {f : Str} {es : List Expr} (h : asCall e = some (f, es)) : ∃ p q, e = .Call (.Name f p) es [] q := by
  unfold asCall at h
  split at h
  · cases h; exact ⟨_, _, rfl⟩
  · cases h
theorem asMth_eq {e o : Expr} {m : Str} {es : List Expr} (h : asMth e = some (o, m, es)) : ∃ ap p, e = .Call (.Attribute o m ap) es [] p ∧ (ap.endLine == p.line) = true := by
  unfold asMth at h
  split at h
  · split at h
    · cases h; exact ⟨_, _, rfl, by assumption⟩
    · cases h
  · cases h
theorem asLC_eq {e el tg it : Expr} {ifs : List Expr} {sc : Scope} (h : asLC e = some (el, tg, it, ifs, sc)) : ∃ p, e = .ListComp el [⟨tg, it, ifs, 0⟩] sc p := by
  unfold asLC at h
  split at h
  · cases h; exact ⟨_, rfl⟩
  · cases h
theorem asAttr_eq {e a : Expr} {f : Str} (h : asAttr e = some (a, f)) : ∃ p, e = .Attribute a f p := by
  cases e <;> simp [asAttr] at h; obtain ⟨rfl, rfl⟩ := h; exact ⟨_, rfl⟩
theorem asDict0_eq {e : Expr} (h : asDict0 e = true) : ∃ p, e = .Dict [] [] p := by
  unfold asDict0 at h
  split at h
  · exact ⟨_, rfl⟩
  · cases h

/-- a part that may stand as an index, an argument, behind in -/
def okE : Expr → Bool
  | .Slice .. => false
  | .Starred .. => false
  | .Set .. => false
  | _ => true
theorem okE_ix {b : Expr} (h : okE b = true) : PlainIx b := by
  intro o i
  cases b <;> first | rfl | cases h
theorem okE_star {e : Expr} {es : List Expr} {env : PySem.Env} (h : okE e = true) : starEach (e :: es) env = (false, eval e env) :: starEach es env := by
  cases e <;> first | rfl | cases h
theorem okE_mark {op : CmpOp} {e : Expr} (h : okE e = true) : behindInMarks op e = false := by
  cases e <;> first | rfl | cases h
theorem okE_fold {e : Expr} {env : PySem.Env} {x : Value} (h : okE e = true) : foldedSetIterable e env x = pure x := by
  cases e <;> first | rfl | cases h
/-- not a call without arguments: no super() -/
def baseE : Expr → Bool
  | .Call _ [] [] _ => false
  | _ => true
theorem baseE_eq {e : Expr} {f : Str} {env : PySem.Env} {t : Sem Value} (h : baseE e = true) : attributeBase e f env t = t := by
  unfold attributeBase
  split
  · cases h
  · rfl
/-- its truth is its value's -/
def plainT : Expr → Bool
  | .UnaryOp .Not _ _ => false
  | .BoolOp .. => false
  | .IfExp .. => false
  | .Compare .. => false
  | _ => true
theorem plainT_eq {e : Expr} {env : PySem.Env} (h : plainT e = true) : ∀ whole, isTrue e env whole = (do let v ← whole; standAt e.pos; holding [v] (truthy v)) := by
  intro whole
  cases e with
  | UnaryOp o a p => cases o <;> first | rfl | cases h
  | BoolOp => cases h
  | IfExp => cases h
  | Compare => cases h
  | _ => rfl
def notComp : Expr → Bool
  | .ListComp .. => false
  | .SetComp .. => false
  | .DictComp .. => false
  | _ => true
theorem notComp_eq {e : Expr} {t : Option Expr} {l : Nat} {env : PySem.Env} (h : notComp e = true) : swapsWith e t l env = pure false := by
  cases e <;> first | rfl | cases h

def visS (sc : Scope) (x : Str) : Bool := match sc.names.lookup x with
  | some .local => true
  | some .cell => true
  | some .free => true
  | _ => false
def locS (sc : Scope) (x : Str) : Bool := match sc.names.lookup x with
  | some .local => true
  | some .cell => true
  | _ => false
def gloS (sc : Scope) (x : Str) : Bool := match sc.names.lookup x with
  | some .globalImplicit => true
  | _ => false
def noDbg (x : Str) : Bool := !(x == ("__debug__" : Str)) && !(x == ("__classdict__" : Str)) && !(x == ("__name__" : Str))

def opIs : BOp → Operator → Bool
  | .add, .Add => true | .sub, .Sub => true | .mul, .Mult => true | .fdiv, .FloorDiv => true | .mod, .Mod => true | .pow, .Pow => true
  | _, _ => false
def cmpIs : COp → CmpOp → Bool
  | .eq, .Eq => true | .ne, .NotEq => true | .lt, .Lt => true | .le, .LtE => true | .gt, .Gt => true | .ge, .GtE => true
  | .isin, .In => true | .notin, .NotIn => true | .is, .Is => true | .isnot, .IsNot => true
  | _, _ => false
def biName : BI → Str
  | .len => "len" | .int => "int" | .str => "str" | .tuple => "tuple" | .list => "list" | .sum => "sum" | .all => "all" | .max => "max" | .min => "min"
  | .abs => "abs" | .sorted => "sorted" | .set0 => "set"
def miName : MI → Str
  | .append => "append" | .pop => "pop" | .extend => "extend" | .add => "add" | .get => "get" | .join => "join" | .split => "split" | .partition => "partition"
  | .startswith => "startswith" | .endswith => "endswith" | .removeprefix => "removeprefix" | .isascii => "isascii" | .isdigit => "isdigit" | .index => "index" | .count => "count"
def shapeOk : MI → Nat → Bool
  | .append, 1 | .pop, 1 | .extend, 1 => true
  | .join, 1 | .split, 1 | .partition, 1 | .startswith, 1 | .endswith, 1 | .removeprefix, 1 => true
  | .isascii, 0 | .isdigit, 0 => true
  | _, _ => false
def tyOk (t : Str) : Bool := decide (t = ("int" : Str)) || decide (t = ("bool" : Str)) || decide (t = ("str" : Str)) || decide (t = ("tuple" : Str)) || decide (t = ("list" : Str))

/-- what a comprehension's target, a loop's target looks like -/
def nameAt (N : List Str) (sc : Scope) (i : Nat) (e : Expr) : Bool := match asName e with
  | some x => decide (N[i]? = some x) && locS sc x
  | none => false
def namesAt (N : List Str) (sc : Scope) : List Nat → List Expr → Bool
  | [], [] => true
  | i :: is, e :: es => nameAt N sc i e && namesAt N sc is es
  | _, _ => false
def mtT (N : List Str) (sc : Scope) : Tg → Expr → Bool
  | .name i, e => nameAt N sc i e
  | .tup is, e => match asTup e with
    | some es => namesAt N sc is es && decide (2 ≤ es.length)
    | none => false

section
variable (fs : List Str) (N : List Str)
mutual
def mtE : Scope → E → Expr → Bool
  | _, .non, e => match asConst e with | some .none => true | _ => false
  | _, .bl b, e => match asConst e with | some (.bool c) => decide (b = c) | _ => false
  | _, .int i, e => match asConst e with | some (.int j) => decide (i = j) | _ => false
  | _, .str x, e => match asConst e with | some (.str y) => decide (x = y) | _ => false
  | sc, .var i, e => match asName e with | some x => decide (N[i]? = some x) && visS sc x && noDbg x | none => false
  | sc, .glb y, e => match asName e with | some x => decide (x = y) && gloS sc x && noDbg x | none => false
  | sc, .un .neg a, e => match asUn e with | some (.USub, a') => mtE sc a a' | _ => false
  | sc, .bin op a b, e => match asBin e with | some (a', o, b') => opIs op o && (mtE sc a a' && mtE sc b b') | none => false
  | sc, .cmp op a b, e => match asCmp e with | some (a', o, b') => cmpIs op o && okE b' && (mtE sc a a' && mtE sc b b') | none => false
  | sc, .chain op op' a b c, e => match asChain e with | some (a', o, b', o', c') => cmpIs op o && cmpIs op' o' && okE b' && okE c' && (mtE sc a a' && (mtE sc b b' && mtE sc c c')) | none => false
  | sc, .and es, e => match asBool e with | some (.And, es') => mtEs sc es es' | _ => false
  | sc, .or es, e => match asBool e with | some (.Or, es') => mtEs sc es es' | _ => false
  | sc, .not a, e => match asUn e with | some (.Not, a') => mtE sc a a' | _ => false
  | sc, .ite c a b, e => match asIf e with | some (c', a', b') => mtE sc c c' && (mtE sc a a' && mtE sc b b') | none => false
  | sc, .tup es, e => match asTup e with | some es' => mtEs sc es es' | none => false
  | sc, .lst es, e => match asLst e with | some es' => mtEs sc es es' | none => false
  | _, .dic _ _ _, _ => false
  | sc, .idx a b, e => match asSub e with | some (a', b') => okE b' && (mtE sc a a' && mtE sc b b') | none => false
  | sc, .slc a lo hi, e => match asSlc e with | some (a', lo', hi') => mtE sc a a' && (mtO sc lo lo' && mtO sc hi hi') | none => false
  | sc, .call f es, e => match asCall e with | some (g, es') => decide (f = g) && decide (f ∈ fs) && gloS sc g && noDbg g && !es'.isEmpty && mtEs sc es es' | none => false
  | sc, .bi f es, e => match asCall e with | some (g, es') => decide (biName f = g) && gloS sc g && noDbg g && !es'.isEmpty && mtEs sc es es' | none => false
  | sc, .mth m a es, e => match asMth e with | some (a', g, es') => decide (miName m = g) && baseE a' && shapeOk m es'.length && (mtE sc a a' && mtEs sc es es') | none => false
  | sc, .typeIs n a t, e => match asCmp e with
    | some (l, o, r) => (match asCall l, asName r with
      | some (g, [a']), some t' => decide (g = ("type" : Str)) && decide (t = t') && gloS sc g && gloS sc t' && noDbg t' && tyOk t' && okE a' && decide (o = if n then .IsNot else .Is) && mtE sc a a'
      | _, _ => false)
    | none => false
  | sc, .isin a t, e => match asCall e with
    | some (g, [a', r]) => (match asName r with
      | some t' => decide (g = ("isinstance" : Str)) && decide (t = t') && gloS sc g && gloS sc t' && noDbg t' && tyOk t' && okE a' && mtE sc a a'
      | none => false)
    | _ => false
  | sc, .lc own tg it cs elt, e => match asLC e with
    | some (el, tg', it', ifs, sc') => blkC N sc sc' own && mtT N sc' tg tg' && decide (ifs.length ≤ 1) && okE it' && (mtI sc it it' && (mtEs sc' cs ifs && mtE sc' elt el))
    | none => false
  | _, _, _ => false
def mtEs : Scope → Es → List Expr → Bool
  | _, .nil, [] => true
  | sc, .cons m ms, e :: es => okE e && (mtE sc m e && mtEs sc ms es)
  | _, _, _ => false
def mtI : Scope → Ie → Expr → Bool
  | sc, .exp m, e => mtE sc m e
  | sc, .rng1 a, e => match asCall e with
    | some (g, [a']) => decide (g = ("range" : Str)) && gloS sc g && okE a' && mtE sc a a'
    | _ => false
  | sc, .rng2 a b, e => match asCall e with
    | some (g, [a', b']) => decide (g = ("range" : Str)) && gloS sc g && okE a' && okE b' && (mtE sc a a' && mtE sc b b')
    | _ => false
  | _, _, _ => false
def mtO : Scope → Oe → Option Expr → Bool
  | _, .none, none => true
  | sc, .some m, some e => mtE sc m e
  | _, _, _ => false
end
end
end Mi

set_option linter.all false
set_option maxRecDepth 100000
/-! What an expression of the text means: the small language's answer. -/
namespace Mi
open PySem L2 PyProof.Rows

structure GoodX (G : Glob) (X : Cx) (N : List Str) (sc : Scope) (W : WX) (k : Nat) : Prop where
  prog : X.prog = G.P
  w : X.w = G.w
  K : X.K = G.K
  mg : X.mg = G.mg
  base : X.base = G.base
  ns : X.N = N
  nd : N.Nodup
  vis : ∀ x, visS sc x = true → Vis X.env.scope x
  loc : ∀ x, locS sc x = true → Loc X.env.scope x ∧ (X.fn x = true ∨ X.env.scope.names.lookup x = some .local)
  glo : ∀ x, gloS sc x = true → Gl X x
  fr : ∀ x, (sc.names.lookup x = some .cell ∨ sc.names.lookup x = some .free) → (X.env.scope.names.lookup x = some .cell ∨ X.env.scope.names.lookup x = some .free)
  calm : X.calm = true
  room : Room k X.A
  tk : Takes X W

def REnv (K : PySem.W.Frag) (ρ : List Addr) (H : Hp) (σ : L2.St) (env : Env) : Prop := σ.length = env.length ∧ ∀ (i : Nat) (d : D), env[i]? = some (some d) → ∃ v, σ[i]? = some (some v) ∧ RV K ρ H v d
theorem REnv.mono {K : PySem.W.Frag} {ρ ρ' : List Addr} {H H' : Hp} {σ : L2.St} {env : Env} (E : REnv K ρ H σ env) (n : Nx ρ H ρ' H') : REnv K ρ' H' σ env :=
  ⟨E.1, fun i d e => let ⟨v, h1, h2⟩ := E.2 i d e; ⟨v, h1, RV.mono n d h2⟩⟩
theorem REnv.set {K : PySem.W.Frag} {ρ : List Addr} {H : Hp} {σ : L2.St} {env : Env} {v : V} {d : D} (E : REnv K ρ H σ env) (i : Nat) (h : RV K ρ H v d) : REnv K ρ H (σ.set i (some v)) (env.set i (some d)) := by
  refine ⟨by simp [E.1], fun j c e => ?_⟩
  by_cases hj : j = i
  · subst hj
    by_cases hl : j < env.length
    · rw [List.getElem?_set_self hl] at e; cases e
      rw [List.getElem?_set_self (by rw [E.1]; exact hl)]
      exact ⟨v, rfl, h⟩
    · rw [List.getElem?_eq_none (by simp; omega)] at e; cases e
  · rw [List.getElem?_set_ne (Ne.symm hj)] at e
    rw [List.getElem?_set_ne (Ne.symm hj)]
    exact E.2 j c e
theorem REnv.unset {K : PySem.W.Frag} {ρ : List Addr} {H : Hp} {σ : L2.St} {env : Env} (E : REnv K ρ H σ env) (i : Nat) : REnv K ρ H (σ.set i none) (env.set i none) := by
  refine ⟨by simp [E.1], fun j c e => ?_⟩
  by_cases hj : j = i
  · subst hj
    by_cases hl : j < env.length
    · rw [List.getElem?_set_self hl] at e; cases e
    · rw [List.getElem?_eq_none (by simp; omega)] at e; cases e
  · rw [List.getElem?_set_ne (Ne.symm hj)] at e
    rw [List.getElem?_set_ne (Ne.symm hj)]
    exact E.2 j c e
theorem REnv.wipe {K : PySem.W.Frag} {ρ : List Addr} {H : Hp} {σ : L2.St} {env : Env} (E : REnv K ρ H σ env) : ∀ is : List Nat, REnv K ρ H (L2.wipe σ is) (wipeE env is)
  | [] => E
  | i :: is => by
    unfold L2.wipe wipeE
    exact (REnv.wipe E is).unset i

section
variable (G : Glob) (W : WX) (σ : L2.St)
def PQ (ρ : List Addr) (H : Hp) (Q : VK) : Res → Prop
  | .ok d st => ∀ v ρ' H', Nx ρ H ρ' H' → Rel G ρ' H' st → RV G.K ρ' H' v d → Q v H'
  | .exc c st => ∀ ρ' H', Nx ρ H ρ' H' → Rel G ρ' H' st → W (.ref (G.cls c)) none σ H'
  | .bad => False
def PTQ (ρ : List Addr) (H : Hp) (Q : Bool → Hp → Prop) : Res → Prop
  | .ok d st => ∃ b, truth st d = some b ∧ ∀ ρ' H', Nx ρ H ρ' H' → Rel G ρ' H' st → Q b H'
  | .exc c st => ∀ ρ' H', Nx ρ H ρ' H' → Rel G ρ' H' st → W (.ref (G.cls c)) none σ H'
  | .bad => False
def PLQ (ρ : List Addr) (H : Hp) (Q : List V → Hp → Prop) : ResL → Prop
  | .ok ds st => ∀ vs ρ' H', Nx ρ H ρ' H' → Rel G ρ' H' st → RVs G.K ρ' H' vs ds → Q vs H'
  | .exc c st => ∀ ρ' H', Nx ρ H ρ' H' → Rel G ρ' H' st → W (.ref (G.cls c)) none σ H'
  | .bad => False
end
def tE (G : Glob) (W : WX) (f : Env → Store → Res) : TE := fun σ H Q => ∃ ρ env st, Rel G ρ H st ∧ REnv G.K ρ H σ env ∧ PQ G W σ ρ H Q (f env st)
def tT (G : Glob) (W : WX) (f : Env → Store → Res) : TT := fun σ H Q => ∃ ρ env st, Rel G ρ H st ∧ REnv G.K ρ H σ env ∧ PTQ G W σ ρ H Q (f env st)
def tA (G : Glob) (W : WX) (f : Env → Store → ResL) : TA := fun σ H Q => ∃ ρ env st, Rel G ρ H st ∧ REnv G.K ρ H σ env ∧ PLQ G W σ ρ H Q (f env st)

section
variable {G : Glob} {W : WX} {σ : L2.St} {ρ : List Addr} {H : Hp} {Q : VK}
theorem PQ.imp {Q' : VK} : ∀ {r : Res}, PQ G W σ ρ H Q r → (∀ v H', Q v H' → Q' v H') → PQ G W σ ρ H Q' r
  | .ok d st, h, f => fun v ρ' H' n R r => f _ _ (h v ρ' H' n R r)
  | .exc c st, h, f => h
  | .bad, h, f => h
theorem PLQ.imp {Q Q' : List V → Hp → Prop} : ∀ {r : ResL}, PLQ G W σ ρ H Q r → (∀ v H', Q v H' → Q' v H') → PLQ G W σ ρ H Q' r
  | .ok d st, h, f => fun v ρ' H' n R r => f _ _ (h v ρ' H' n R r)
  | .exc c st, h, f => h
  | .bad, h, f => h
theorem PTQ.imp {Q Q' : Bool → Hp → Prop} : ∀ {r : Res}, PTQ G W σ ρ H Q r → (∀ v H', Q v H' → Q' v H') → PTQ G W σ ρ H Q' r
  | .ok d st, ⟨b, e, h⟩, f => ⟨b, e, fun ρ' H' n R => f _ _ (h ρ' H' n R)⟩
  | .exc c st, h, f => h
  | .bad, h, f => h
theorem PQ.at_ {ρ1 : List Addr} {H1 : Hp} (n : Nx ρ H ρ1 H1) : ∀ {r : Res}, PQ G W σ ρ H Q r → PQ G W σ ρ1 H1 Q r
  | .ok d st, h => fun v ρ' H' n' R r => h v ρ' H' (n.trans n') R r
  | .exc c st, h => fun ρ' H' n' R => h ρ' H' (n.trans n') R
  | .bad, h => h
theorem PLQ.at_ {Q : List V → Hp → Prop} {ρ1 : List Addr} {H1 : Hp} (n : Nx ρ H ρ1 H1) : ∀ {r : ResL}, PLQ G W σ ρ H Q r → PLQ G W σ ρ1 H1 Q r
  | .ok d st, h => fun v ρ' H' n' R r => h v ρ' H' (n.trans n') R r
  | .exc c st, h => fun ρ' H' n' R => h ρ' H' (n.trans n') R
  | .bad, h => h
theorem PTQ.at_ {Q : Bool → Hp → Prop} {ρ1 : List Addr} {H1 : Hp} (n : Nx ρ H ρ1 H1) : ∀ {r : Res}, PTQ G W σ ρ H Q r → PTQ G W σ ρ1 H1 Q r
  | .ok d st, ⟨b, e, h⟩ => ⟨b, e, fun ρ' H' n' R => h ρ' H' (n.trans n') R⟩
  | .exc c st, h => fun ρ' H' n' R => h ρ' H' (n.trans n') R
  | .bad, h => h
/-- one after the other: what stands between -/
structure Mid (G : Glob) (ρ : List Addr) (H : Hp) (v : V) (H1 : Hp) (d : D) (st1 : Store) (ρ1 : List Addr) : Prop where
  nx : Nx ρ H ρ1 H1
  rel : Rel G ρ1 H1 st1
  rv : RV G.K ρ1 H1 v d
theorem PQ.bind {k : D → Store → Res} : ∀ {f : Res}, PQ G W σ ρ H Q (f.bind k) → PQ G W σ ρ H (fun v H1 => ∃ d st1 ρ1, Mid G ρ H v H1 d st1 ρ1 ∧ PQ G W σ ρ1 H1 Q (k d st1)) f
  | .ok d st, h => fun v ρ' H' n R r => ⟨d, st, ρ', ⟨n, R, r⟩, PQ.at_ n h⟩
  | .exc c st, h => h
  | .bad, h => h
theorem PQ.bindT {k : D → Store → Res} {Q : Bool → Hp → Prop} : ∀ {f : Res}, PTQ G W σ ρ H Q (f.bind k) → PQ G W σ ρ H (fun v H1 => ∃ d st1 ρ1, Mid G ρ H v H1 d st1 ρ1 ∧ PTQ G W σ ρ1 H1 Q (k d st1)) f
  | .ok d st, h => fun v ρ' H' n R r => ⟨d, st, ρ', ⟨n, R, r⟩, PTQ.at_ n h⟩
  | .exc c st, h => h
  | .bad, h => h
theorem PLQ.bind {k : List D → Store → Res} : ∀ {f : ResL}, PQ G W σ ρ H Q (f.bind k) → PLQ G W σ ρ H (fun vs H1 => ∃ ds st1 ρ1, Nx ρ H ρ1 H1 ∧ Rel G ρ1 H1 st1 ∧ RVs G.K ρ1 H1 vs ds ∧ PQ G W σ ρ1 H1 Q (k ds st1)) f
  | .ok d st, h => fun v ρ' H' n R r => ⟨d, st, ρ', n, R, r, PQ.at_ n h⟩
  | .exc c st, h => h
  | .bad, h => h
theorem PQ.bindL {k : D → Store → ResL} {Q : List V → Hp → Prop} : ∀ {f : Res}, PLQ G W σ ρ H Q (f.bindL k) → PQ G W σ ρ H (fun v H1 => ∃ d st1 ρ1, Mid G ρ H v H1 d st1 ρ1 ∧ PLQ G W σ ρ1 H1 Q (k d st1)) f
  | .ok d st, h => fun v ρ' H' n R r => ⟨d, st, ρ', ⟨n, R, r⟩, PLQ.at_ n h⟩
  | .exc c st, h => h
  | .bad, h => h
theorem PLQ.bindL {k : List D → Store → ResL} {Q : List V → Hp → Prop} : ∀ {f : ResL}, PLQ G W σ ρ H Q (f.bindL k) → PLQ G W σ ρ H (fun vs H1 => ∃ ds st1 ρ1, Nx ρ H ρ1 H1 ∧ Rel G ρ1 H1 st1 ∧ RVs G.K ρ1 H1 vs ds ∧ PLQ G W σ ρ1 H1 Q (k ds st1)) f
  | .ok d st, h => fun v ρ' H' n R r => ⟨d, st, ρ', n, R, r, PLQ.at_ n h⟩
  | .exc c st, h => h
  | .bad, h => h
/-- an operator's answer: no exception -/
def NoE (r : Res) : Prop := ∀ c st, r ≠ .exc c st
theorem PQ.pr {r : Res} (n : NoE r) (h : PQ G W σ ρ H Q r) : PR G ρ H Q r := by
  cases r with
  | ok d st => exact ⟨d, st, rfl, h⟩
  | exc c st => exact absurd rfl (n c st)
  | bad => exact h.elim
theorem PQ.false_ {P : Prop} (h : PQ G W σ ρ H Q .bad) : P := h.elim
end

theorem noe_ok {d : D} {st : Store} : NoE (.ok d st) := fun _ _ h => by cases h
theorem noe_bad : NoE .bad := fun _ _ h => by cases h
theorem noe_resB {st : Store} {o : Option Bool} : NoE (resB st o) := by
  cases o <;> intro _ _ h <;> cases h
theorem noe_binop (op : BOp) (x y : D) (st : Store) : NoE (binop op x y st) := by
  cases op <;> cases x <;> cases y <;> simp only [binop] <;> (repeat' split) <;> first | exact noe_ok | exact noe_bad
theorem noe_cmpop (op : COp) (x y : D) (st : Store) : NoE (cmpop op x y st) := by
  cases op <;> cases x <;> cases y <;> simp only [cmpop] <;> first | exact noe_ok | exact noe_bad | exact noe_resB
theorem noe_unop (op : UOp) (x : D) (st : Store) : NoE (unop op x st) := by
  cases op <;> cases x <;> simp only [unop] <;> first | exact noe_ok | exact noe_bad
theorem noe_idxop (x y : D) (st : Store) : NoE (idxop x y st) := by
  cases x <;> cases y <;> simp only [idxop] <;> (repeat' split) <;> first | exact noe_ok | exact noe_bad
theorem noe_slcop (x : D) (lo hi : Option Int) (st : Store) : NoE (slcop x lo hi st) := by
  cases x <;> simp only [slcop] <;> (repeat' split) <;> first | exact noe_ok | exact noe_bad
theorem noe_biop (f : BI) (ds : List D) (st : Store) : NoE (biop f ds st) := by
  unfold biop
  (repeat' split) <;> first | exact noe_ok | exact noe_bad
theorem noe_mthop (m : MI) (x : D) (ds : List D) (st : Store) : NoE (mthop m x ds st) := by
  unfold mthop
  (repeat' split) <;> first | exact noe_ok | exact noe_bad
theorem cmpop_bl {op : COp} {x y d : D} {st st' : Store} (h : cmpop op x y st = .ok d st') : ∃ b, d = .bl b ∧ st' = st := by
  have rb : ∀ o, resB st o = .ok d st' → ∃ b, d = .bl b ∧ st' = st := fun o h => by
    cases o with
    | none => cases h
    | some b => cases h; exact ⟨b, rfl, rfl⟩
  cases op <;> cases x <;> cases y <;> simp only [cmpop] at h <;> first | exact rb _ h | (cases h; done) | (cases h; exact ⟨_, rfl, rfl⟩)

theorem _root_.L2.PE.weak {X : Cx} {e : Expr} {t t' : TE} (h : PE X e t) (w : ∀ σ H Q, t' σ H Q → t σ H Q) : PE X e t' := ⟨fun pins s σ H Q I q => h.run pins s σ H Q I (w σ H Q q)⟩
theorem _root_.L2.PT.weak {X : Cx} {e : Expr} {t t' : TT} (h : PT X e t) (w : ∀ σ H Q, t' σ H Q → t σ H Q) : PT X e t' := ⟨fun pins s σ H Q I q => h.run pins s σ H Q I (w σ H Q q)⟩
theorem _root_.L2.PW.weak {X : Cx} {e : Expr} {t t' : TT} (h : PW X e t) (w : ∀ σ H Q, t' σ H Q → t σ H Q) : PW X e t' := ⟨fun wh pins s σ H Q I q => h.run wh pins s σ H Q I (w σ H Q q)⟩
theorem _root_.L2.PA.weak {X : Cx} {e : List Expr} {t t' : TA} (h : PA X e t) (w : ∀ σ H Q, t' σ H Q → t σ H Q) : PA X e t' := ⟨fun p pins s σ H Q I q => h.run p pins s σ H Q I (w σ H Q q)⟩
theorem _root_.L2.PE.none {X : Cx} {e : Expr} {t : TE} (w : ∀ σ H Q, ¬ t σ H Q) : PE X e t := ⟨fun pins s σ H Q I q => absurd q (w σ H Q)⟩

section
variable {G : Glob} {X : Cx} {N : List Str} {sc : Scope} {W : WX} {k : Nat} {cs : Str → Option D}
theorem truV_of {ρ : List Addr} {H : Hp} {st : Store} {v : V} {d : D} {b : Bool} (R : Rel G ρ H st) (h : RV G.K ρ H v d) (e : truth st d = some b) : TruV G.K v H b := by
  cases d <;> simp only [truth] at e <;> try (cases e)
  · rw [rv_bl] at h; subst h; rfl
  · obtain ⟨a, rfl, ha⟩ := rv_ref.mp h
    split at e
    · rename_i xs hx
      cases e
      obtain ⟨vs, h1, r⟩ := R.lstAt ha hx
      refine .inl ⟨vs, SqL.of h1, ?_⟩
      have := r.length
      cases vs <;> cases xs <;> simp at this <;> rfl
    · cases e
/-- a test by its value -/
theorem pt_of (g : GoodX G X N sc W k) {e : Expr} {f : Env → Store → Res} (h : PE X e (tE G W f)) (hp : plainT e = true) : PT X e (tT G W f) := by
  refine (pt_truth h (plainT_eq hp)).weak fun σ H Q ⟨ρ, env, st, R, E, q⟩ => ⟨ρ, env, st, R, E, ?_⟩
  cases hf : f env st with
  | ok d st' =>
    rw [hf] at q
    obtain ⟨b, e, q⟩ := q
    intro v ρ' H' n R' r
    exact ⟨b, by rw [g.K]; exact truV_of R' r e, q ρ' H' n R'⟩
  | exc c st' => rw [hf] at q; exact q
  | bad => rw [hf] at q; exact q
/-- .. of a comparison: its value is True or False -/
theorem ptq_bl {σ : L2.St} {ρ : List Addr} {H : Hp} {Q : Bool → Hp → Prop} {op : COp} {x y : D} {st : Store} (h : PTQ G W σ ρ H Q (cmpop op x y st)) : PR G ρ H (fun z H3 => ∃ k, z = .bl k ∧ Q k H3) (cmpop op x y st) := by
  cases hf : cmpop op x y st with
  | ok d st' =>
    rw [hf] at h
    obtain ⟨c, rfl, rfl⟩ := cmpop_bl hf
    obtain ⟨b, e, q⟩ := h
    cases e
    refine ⟨_, _, rfl, fun v ρ' H' n R r => ⟨c, rv_bl.mp r, q ρ' H' n R⟩⟩
  | exc c st' => exact absurd hf (noe_cmpop _ _ _ _ c st')
  | bad => rw [hf] at h; exact h.elim

theorem cmp_rule (g : GoodX G X N sc W k) : ∀ (op : COp) {o : CmpOp}, cmpIs op o = true → OpR X (compareOp o) (rD2 G (cmpop op))
  | .eq, o, h => by cases o <;> first | exact absurd h (by decide) | exact op_eqD' g.K g.room.units
  | .ne, o, h => by cases o <;> first | exact absurd h (by decide) | exact op_neD' g.K g.room.units
  | .lt, o, h => by cases o <;> first | exact absurd h (by decide) | exact op_ltD
  | .le, o, h => by cases o <;> first | exact absurd h (by decide) | exact op_leD
  | .gt, o, h => by cases o <;> first | exact absurd h (by decide) | exact op_gtD
  | .ge, o, h => by cases o <;> first | exact absurd h (by decide) | exact op_geD
  | .isin, o, h => by cases o <;> first | exact absurd h (by decide) | exact op_inD' g.K (by have := g.room.un; omega)
  | .notin, o, h => by cases o <;> first | exact absurd h (by decide) | exact op_notinD' g.K (by have := g.room.un; omega)
  | .is, o, h => by cases o <;> first | exact absurd h (by decide) | exact op_isD
  | .isnot, o, h => by cases o <;> first | exact absurd h (by decide) | exact op_isnotD
theorem bin_rule (g : GoodX G X N sc W k) : ∀ (op : BOp) {o : Operator}, opIs op o = true → OpR X (binaryOp o) (rD2 G (binop op))
  | .add, o, h => by cases o <;> first | exact absurd h (by decide) | exact op_addD g.K
  | .sub, o, h => by cases o <;> first | exact absurd h (by decide) | exact op_subD
  | .mul, o, h => by cases o <;> first | exact absurd h (by decide) | exact op_mulD g.K
  | .fdiv, o, h => by cases o <;> first | exact absurd h (by decide) | exact op_fdivD
  | .mod, o, h => by cases o <;> first | exact absurd h (by decide) | exact op_modD
  | .pow, o, h => by cases o <;> first | exact absurd h (by decide) | exact op_powD

/-! one lemma a form -/
variable {C : Oracle}
theorem s_const (g : GoodX G X N sc W k) {e : Expr} {v : V} {d : D} (h : PE X e (tC v)) (r : ∀ ρ H, RV G.K ρ H v d) : PE X e (tE G W fun _ st => .ok d st) :=
  h.weak fun σ H Q ⟨ρ, env, st, R, E, q⟩ => q v ρ H .refl R (r ρ H)
theorem s_un (g : GoodX G X N sc W k) {a : Expr} {f : Env → Store → Res} {p : Pos} (ha : PE X a (tE G W f)) : PE X (.UnaryOp .USub a p) (tE G W fun env st => (f env st).bind fun x st => unop .neg x st) :=
  (pe_un (un_negD (G := G)) ha).weak fun σ H Q ⟨ρ, env, st, R, E, q⟩ => ⟨ρ, env, st, R, E, (PQ.bind q).imp fun x H1 ⟨d, st1, ρ1, m, q1⟩ => ⟨ρ1, st1, d, m.rel, m.rv, q1.pr (noe_unop _ _ _)⟩⟩
theorem s_two {r : R2} {op : D → D → Store → Res} {a b : Expr} {f h : Env → Store → Res} (hn : ∀ x y st, NoE (op x y st)) {σ : L2.St} {H : Hp} {Q : VK}
    (q : tE G W (fun env st => (f env st).bind fun x st => (h env st).bind fun y st => op x y st) σ H Q) : tOp (rD2 G op) (tE G W f) (tE G W h) σ H Q := by
  obtain ⟨ρ, env, st, R, E, q⟩ := q
  exact ⟨ρ, env, st, R, E, (PQ.bind q).imp fun x H1 ⟨d, st1, ρ1, m, q1⟩ => ⟨ρ1, env, st1, m.rel, E.mono m.nx, (PQ.bind q1).imp fun y H2 ⟨d2, st2, ρ2, m2, q2⟩ =>
    ⟨ρ2, st2, d, d2, m2.rel, RV.mono m2.nx _ m.rv, m2.rv, q2.pr (hn _ _ _)⟩⟩⟩
theorem s_bin (g : GoodX G X N sc W k) {op : BOp} {o : Operator} {a b : Expr} {f h : Env → Store → Res} {p : Pos} (ho : opIs op o = true) (ha : PE X a (tE G W f)) (hb : PE X b (tE G W h)) :
    PE X (.BinOp a o b p) (tE G W fun env st => (f env st).bind fun x st => (h env st).bind fun y st => binop op x y st) :=
  (pe_op (bin_rule g op ho) ha hb).weak fun σ H Q q => s_two (r := fun _ _ _ _ => True) (a := a) (b := b) (noe_binop op) q
theorem s_cmp (g : GoodX G X N sc W k) {op : COp} {o : CmpOp} {a b : Expr} {f h : Env → Store → Res} {p : Pos} (ho : cmpIs op o = true) (ok : okE b = true) (ha : PE X a (tE G W f)) (hb : PE X b (tE G W h)) :
    PE X (.Compare a [o] [b] p) (tE G W fun env st => (f env st).bind fun x st => (h env st).bind fun y st => cmpop op x y st) :=
  (pe_cmpR (cmp_rule g op ho) ha hb (okE_mark ok)).weak fun σ H Q q => s_two (r := fun _ _ _ _ => True) (a := a) (b := b) (noe_cmpop op) q
theorem s_cmpT (g : GoodX G X N sc W k) {op : COp} {o : CmpOp} {a b : Expr} {f h : Env → Store → Res} {p : Pos} (ho : cmpIs op o = true) (ok : okE b = true) (ha : PE X a (tE G W f)) (hb : PE X b (tE G W h)) :
    PT X (.Compare a [o] [b] p) (tT G W fun env st => (f env st).bind fun x st => (h env st).bind fun y st => cmpop op x y st) :=
  (pt_cmpR (cmp_rule g op ho) ha hb (okE_mark ok)).weak fun σ H Q ⟨ρ, env, st, R, E, q⟩ =>
    ⟨ρ, env, st, R, E, (PQ.bindT q).imp fun x H1 ⟨d, st1, ρ1, m, q1⟩ => ⟨ρ1, env, st1, m.rel, E.mono m.nx, (PQ.bindT q1).imp fun y H2 ⟨d2, st2, ρ2, m2, q2⟩ =>
      ⟨ρ2, st2, d, d2, m2.rel, RV.mono m2.nx _ m.rv, m2.rv, ptq_bl q2⟩⟩⟩
theorem s_idx (g : GoodX G X N sc W k) {a b : Expr} {f h : Env → Store → Res} {p : Pos} (ok : okE b = true) (ha : PE X a (tE G W f)) (hb : PE X b (tE G W h)) :
    PE X (.Subscript a b p) (tE G W fun env st => (f env st).bind fun x st => (h env st).bind fun y st => idxop x y st) :=
  (pe_ix (ix_D g.K) ha hb (okE_ix ok)).weak fun σ H Q q => s_two (r := fun _ _ _ _ => True) (a := a) (b := b) noe_idxop q
end
end Mi

set_option linter.all false
set_option maxRecDepth 100000
/-! More forms of expressions; what is walked; comprehensions. -/
namespace Mi
open PySem L2 PyProof.Rows

section
variable {G : Glob} {X : Cx} {N : List Str} {sc : Scope} {W : WX} {k : Nat} {cs : Str → Option D}

/-! ### chains, and, or, not, if -/
def chainF (o o' : COp) (f h j : Env → Store → Res) : Env → Store → Res := fun env st =>
  (f env st).bind fun x st => (h env st).bind fun y st => (cmpop o x y st).bind fun r st => match r with
    | .bl true => (j env st).bind fun z st => cmpop o' y z st
    | .bl false => .ok (.bl false) st
    | _ => .bad
theorem chain_run {o o' : COp} {f h j : Env → Store → Res} {σ : L2.St} {H : Hp} {Q : VK} {ρ : List Addr} {env : Env} {st : Store} (R : Rel G ρ H st) (E : REnv G.K ρ H σ env) (q : PQ G W σ ρ H Q (chainF o o' f h j env st)) :
    tChain (rD2 G (cmpop o)) (rD2 G (cmpop o')) (tE G W f) (tE G W h) (tE G W j) σ H Q := by
  refine ⟨ρ, env, st, R, E, (PQ.bind q).imp fun x H1 ⟨d, st1, ρ1, m, q1⟩ => ⟨ρ1, env, st1, m.rel, E.mono m.nx, (PQ.bind q1).imp fun y H2 ⟨d2, st2, ρ2, m2, q2⟩ => ?_⟩⟩
  refine ⟨ρ2, st2, d, d2, m2.rel, RV.mono m2.nx _ m.rv, m2.rv, ?_⟩
  cases hc : cmpop o d d2 st2 with
  | ok c st3 =>
    obtain ⟨b, rfl, rfl⟩ := cmpop_bl hc
    rw [hc] at q2
    refine ⟨_, _, rfl, fun v ρ3 H3 n3 R3 r3 => ⟨b, rv_bl.mp r3, ?_⟩⟩
    cases b with
    | true =>
      have q3 := PQ.at_ n3 (show PQ G W σ ρ2 H2 Q ((j env st3).bind fun z st => cmpop o' d2 z st) from q2)
      exact ⟨ρ3, env, st3, R3, E.mono (m.nx.trans (m2.nx.trans n3)), (PQ.bind q3).imp fun z H4 ⟨d4, st4, ρ4, m4, q4⟩ => ⟨ρ4, st4, d2, d4, m4.rel, RV.mono (n3.trans m4.nx) _ m2.rv, m4.rv, q4.pr (noe_cmpop _ _ _ _)⟩⟩
    | false => exact (show PQ G W σ ρ2 H2 Q (.ok (.bl false) st3) from q2) _ ρ3 H3 n3 R3 (rv_bl.mpr rfl)
  | exc c st3 => exact absurd hc (noe_cmpop _ _ _ _ c st3)
  | bad => rw [hc] at q2; exact q2.elim
theorem okE_last {o o' : CmpOp} {b c : Expr} (h : okE c = true) : lastMarks [o, o'] [b, c] = false := by
  show behindInMarks o' c = false
  exact okE_mark h
theorem s_chain (g : GoodX G X N sc W k) {o o' : COp} {p p' : CmpOp} {a b c : Expr} {f h j : Env → Store → Res} {pos : Pos} (ho : cmpIs o p = true) (ho' : cmpIs o' p' = true) (okc : okE c = true)
    (ha : PE X a (tE G W f)) (hb : PE X b (tE G W h)) (hc : PE X c (tE G W j)) : PE X (.Compare a [p, p'] [b, c] pos) (tE G W (chainF o o' f h j)) :=
  (pe_chain (cmp_rule g o ho) (cmp_rule g o' ho') ha hb hc (okE_last okc)).weak fun σ H Q ⟨ρ, env, st, R, E, q⟩ => chain_run R E q
theorem bl_only {P : Prop} {σ : L2.St} {ρ : List Addr} {H : Hp} {Q : Bool → Hp → Prop} {r : Res} (hb : ∀ d st, r = .ok d st → ∃ b, d = .bl b) (h : PTQ G W σ ρ H Q r) : PQ G W σ ρ H (fun z H3 => ∃ k, z = .bl k ∧ Q k H3) r := by
  cases r with
  | ok d st =>
    obtain ⟨c, rfl⟩ := hb _ _ rfl
    obtain ⟨b, e, q⟩ := h
    cases e
    exact fun v ρ' H' n R r => ⟨c, rv_bl.mp r, q ρ' H' n R⟩
  | exc c st => exact h
  | bad => exact h
theorem chain_bl {o o' : COp} {f h j : Env → Store → Res} {env : Env} {st : Store} : ∀ d st', chainF o o' f h j env st = .ok d st' → ∃ b, d = .bl b := by
  intro d st' e
  unfold chainF at e
  cases h1 : f env st with
  | ok x s1 =>
    rw [h1] at e
    cases h2 : h env s1 with
    | ok y s2 =>
      simp only [Res.bind, h2] at e
      cases h3 : cmpop o x y s2 with
      | ok z s3 =>
        rw [h3] at e
        obtain ⟨b, rfl, rfl⟩ := cmpop_bl h3
        cases b with
        | true =>
          simp only at e
          cases h4 : j env s3 with
          | ok z' s4 => rw [h4] at e; obtain ⟨b, rfl, _⟩ := cmpop_bl e; exact ⟨b, rfl⟩
          | exc c s4 => rw [h4] at e; cases e
          | bad => rw [h4] at e; cases e
        | false => cases e; exact ⟨_, rfl⟩
      | exc c s3 => rw [h3] at e; cases e
      | bad => rw [h3] at e; cases e
    | exc c s2 => simp only [Res.bind, h2] at e; cases e
    | bad => simp only [Res.bind, h2] at e; cases e
  | exc c s1 => rw [h1] at e; cases e
  | bad => rw [h1] at e; cases e
theorem s_chainT (g : GoodX G X N sc W k) {o o' : COp} {p p' : CmpOp} {a b c : Expr} {f h j : Env → Store → Res} {pos : Pos} (ho : cmpIs o p = true) (ho' : cmpIs o' p' = true) (okc : okE c = true)
    (ha : PE X a (tE G W f)) (hb : PE X b (tE G W h)) (hc : PE X c (tE G W j)) : PT X (.Compare a [p, p'] [b, c] pos) (tT G W (chainF o o' f h j)) :=
  (pt_chain (cmp_rule g o ho) (cmp_rule g o' ho') ha hb hc (okE_last okc)).weak fun σ H Q ⟨ρ, env, st, R, E, q⟩ => chain_run R E (bl_only (P := True) chain_bl q)

def andF (f h : Env → Store → Res) : Env → Store → Res := fun env st => (f env st).bind fun x st => match x with
  | .bl true => h env st
  | .bl false => .ok (.bl false) st
  | _ => .bad
def orF (f h : Env → Store → Res) : Env → Store → Res := fun env st => (f env st).bind fun x st => match x with
  | .bl true => .ok (.bl true) st
  | .bl false => h env st
  | _ => .bad
def notF (f : Env → Store → Res) : Env → Store → Res := fun env st => (f env st).bind fun x st => match x with
  | .bl b => .ok (.bl (!b)) st
  | _ => .bad
def iteF_ (c f h : Env → Store → Res) : Env → Store → Res := fun env st => (c env st).bind fun x st => match x with
  | .bl true => f env st
  | .bl false => h env st
  | _ => .bad
theorem s_and (g : GoodX G X N sc W k) {a b : Expr} {r : List Expr} {f h : Env → Store → Res} {p : Pos} (ha : PE X a (tE G W f)) (hb : PE X (.BoolOp .And (b :: r) p) (tE G W h)) : PE X (.BoolOp .And (a :: b :: r) p) (tE G W (andF f h)) :=
  (pe_and ha hb).weak fun σ H Q ⟨ρ, env, st, R, E, q⟩ => ⟨ρ, env, st, R, E, (PQ.bind q).imp fun x H1 ⟨d, st1, ρ1, m, q1⟩ => by
    cases d with
    | bl c =>
      refine ⟨c, rv_bl.mp m.rv, ?_⟩
      cases c with
      | true => exact ⟨ρ1, env, st1, m.rel, E.mono m.nx, q1⟩
      | false => exact q1 _ ρ1 H1 .refl m.rel (rv_bl.mpr rfl)
    | _ => exact q1.elim⟩
theorem s_or (g : GoodX G X N sc W k) {a b : Expr} {r : List Expr} {f h : Env → Store → Res} {p : Pos} (ha : PE X a (tE G W f)) (hb : PE X (.BoolOp .Or (b :: r) p) (tE G W h)) : PE X (.BoolOp .Or (a :: b :: r) p) (tE G W (orF f h)) :=
  (pe_or ha hb).weak fun σ H Q ⟨ρ, env, st, R, E, q⟩ => ⟨ρ, env, st, R, E, (PQ.bind q).imp fun x H1 ⟨d, st1, ρ1, m, q1⟩ => by
    cases d with
    | bl c =>
      refine ⟨c, rv_bl.mp m.rv, ?_⟩
      cases c with
      | false => exact ⟨ρ1, env, st1, m.rel, E.mono m.nx, q1⟩
      | true => exact q1 _ ρ1 H1 .refl m.rel (rv_bl.mpr rfl)
    | _ => exact q1.elim⟩
theorem s_not (g : GoodX G X N sc W k) {a : Expr} {f : Env → Store → Res} {p : Pos} (ha : PE X a (tE G W f)) : PE X (.UnaryOp .Not a p) (tE G W (notF f)) :=
  (pe_not ha).weak fun σ H Q ⟨ρ, env, st, R, E, q⟩ => ⟨ρ, env, st, R, E, (PQ.bind q).imp fun x H1 ⟨d, st1, ρ1, m, q1⟩ => by
    cases d with
    | bl c => exact ⟨c, rv_bl.mp m.rv, q1 _ ρ1 H1 .refl m.rel (rv_bl.mpr rfl)⟩
    | _ => exact q1.elim⟩
/-- a test's two ways, from a PTQ of a bind -/
theorem PTQ.bind {σ : L2.St} {ρ : List Addr} {H : Hp} {Q Q' : Bool → Hp → Prop} {c : D → Store → Res} : ∀ {f : Res}, PTQ G W σ ρ H Q (f.bind c) →
    (∀ b st1 ρ1 H1, Nx ρ H ρ1 H1 → Rel G ρ1 H1 st1 → PTQ G W σ ρ1 H1 Q (c (.bl b) st1) → Q' b H1) → (∀ d st1, (∀ b, d ≠ .bl b) → c d st1 = .bad) → PTQ G W σ ρ H Q' f
  | .ok d st, h, k1, k2 => by
    by_cases hb : ∃ b, d = .bl b
    · obtain ⟨b, rfl⟩ := hb
      exact ⟨b, rfl, fun ρ' H' n R => k1 b st ρ' H' n R (PTQ.at_ n h)⟩
    · have e := k2 d st (fun b z => hb ⟨b, z⟩)
      have h' : PTQ G W σ ρ H Q (c d st) := h
      rw [e] at h'
      exact h'.elim
  | .exc x st, h, _, _ => h
  | .bad, h, _, _ => h
theorem s_andT (g : GoodX G X N sc W k) {a b : Expr} {r : List Expr} {f h : Env → Store → Res} {p : Pos} (ha : PT X a (tT G W f)) (hb : PW X (.BoolOp .And (b :: r) p) (tT G W h)) : PW X (.BoolOp .And (a :: b :: r) p) (tT G W (andF f h)) :=
  (pw_and ha hb).weak fun σ H Q ⟨ρ, env, st, R, E, q⟩ => ⟨ρ, env, st, R, E, PTQ.bind q (fun c st1 ρ1 H1 n R1 q1 => by
    cases c with
    | true => exact ⟨ρ1, env, st1, R1, E.mono n, q1⟩
    | false =>
      obtain ⟨z, e, q1⟩ := q1
      cases e
      exact q1 ρ1 H1 .refl R1) (fun d st1 hd => by cases d <;> first | rfl | exact absurd rfl (hd _))⟩
theorem s_orT (g : GoodX G X N sc W k) {a b : Expr} {r : List Expr} {f h : Env → Store → Res} {p : Pos} (ha : PT X a (tT G W f)) (hb : PW X (.BoolOp .Or (b :: r) p) (tT G W h)) : PW X (.BoolOp .Or (a :: b :: r) p) (tT G W (orF f h)) :=
  (pw_or ha hb).weak fun σ H Q ⟨ρ, env, st, R, E, q⟩ => ⟨ρ, env, st, R, E, PTQ.bind q (fun c st1 ρ1 H1 n R1 q1 => by
    cases c with
    | false => exact ⟨ρ1, env, st1, R1, E.mono n, q1⟩
    | true =>
      obtain ⟨z, e, q1⟩ := q1
      cases e
      exact q1 ρ1 H1 .refl R1) (fun d st1 hd => by cases d <;> first | rfl | exact absurd rfl (hd _))⟩
theorem s_notT (g : GoodX G X N sc W k) {a : Expr} {f : Env → Store → Res} {p : Pos} (ha : PT X a (tT G W f)) : PT X (.UnaryOp .Not a p) (tT G W (notF f)) :=
  (pt_not ha).weak fun σ H Q ⟨ρ, env, st, R, E, q⟩ => ⟨ρ, env, st, R, E, PTQ.bind q (fun c st1 ρ1 H1 n R1 q1 => by
    obtain ⟨z, e, q1⟩ := q1
    cases e
    exact q1 ρ1 H1 .refl R1) (fun d st1 hd => by cases d <;> first | rfl | exact absurd rfl (hd _))⟩
/-- the value of a condition, by its test -/
theorem PQ.bindC {σ : L2.St} {ρ : List Addr} {H : Hp} {Q : VK} {Q' : Bool → Hp → Prop} {c : D → Store → Res} : ∀ {f : Res}, PQ G W σ ρ H Q (f.bind c) →
    (∀ b st1 ρ1 H1, Nx ρ H ρ1 H1 → Rel G ρ1 H1 st1 → PQ G W σ ρ1 H1 Q (c (.bl b) st1) → Q' b H1) → (∀ d st1, (∀ b, d ≠ .bl b) → c d st1 = .bad) → PTQ G W σ ρ H Q' f
  | .ok d st, h, k1, k2 => by
    by_cases hb : ∃ b, d = .bl b
    · obtain ⟨b, rfl⟩ := hb
      exact ⟨b, rfl, fun ρ' H' n R => k1 b st ρ' H' n R (PQ.at_ n h)⟩
    · have e := k2 d st (fun b z => hb ⟨b, z⟩)
      have h' : PQ G W σ ρ H Q (c d st) := h
      rw [e] at h'
      exact h'.elim
  | .exc x st, h, _, _ => h
  | .bad, h, _, _ => h
theorem s_ite (g : GoodX G X N sc W k) {c a b : Expr} {fc f h : Env → Store → Res} {p : Pos} (hc : PT X c (tT G W fc)) (ha : PE X a (tE G W f)) (hb : PE X b (tE G W h)) : PE X (.IfExp c a b p) (tE G W (iteF_ fc f h)) :=
  (pe_ifExp hc ha hb).weak fun σ H Q ⟨ρ, env, st, R, E, q⟩ => ⟨ρ, env, st, R, E, PQ.bindC q (fun c st1 ρ1 H1 n R1 q1 => by
    cases c with
    | true => exact ⟨ρ1, env, st1, R1, E.mono n, q1⟩
    | false => exact ⟨ρ1, env, st1, R1, E.mono n, q1⟩) (fun d st1 hd => by cases d <;> first | rfl | exact absurd rfl (hd _))⟩

/-! ### arguments, displays -/
theorem s_nil : PA X [] (tA G W fun _ st => .ok [] st) := pa_nil.weak fun σ H Q ⟨ρ, env, st, R, E, q⟩ => q [] ρ H .refl R RVs.nil_
theorem s_cons {e : Expr} {es : List Expr} {f : Env → Store → Res} {h : Env → Store → ResL} (ok : okE e = true) (he : PE X e (tE G W f)) (hs : PA X es (tA G W h)) :
    PA X (e :: es) (tA G W fun env st => (f env st).bindL fun d st => (h env st).bindL fun ds st => .ok (d :: ds) st) :=
  (pa_cons he hs (okE_star ok)).weak fun σ H Q ⟨ρ, env, st, R, E, q⟩ => ⟨ρ, env, st, R, E, (PQ.bindL q).imp fun x H1 ⟨d, st1, ρ1, m, q1⟩ => ⟨ρ1, env, st1, m.rel, E.mono m.nx, (PLQ.bindL q1).imp fun xs H2 ⟨ds, st2, ρ2, n2, R2, r2, q2⟩ =>
    q2 _ ρ2 H2 .refl R2 (RVs.cons_ (RV.mono n2 _ m.rv) r2)⟩⟩
theorem s_tup {es : List Expr} {h : Env → Store → ResL} {i : Nat} {p : Pos} (hs : PA X es (tA G W h)) : PE X (.Tuple es i p) (tE G W fun env st => (h env st).bind fun ds st => if ds.length ≤ LINE then .ok (.tup ds) st else .bad) :=
  (pe_tup hs).weak fun σ H Q ⟨ρ, env, st, R, E, q⟩ => ⟨ρ, env, st, R, E, (PLQ.bind q).imp fun xs H1 ⟨ds, st1, ρ1, n1, R1, r1, q1⟩ => by
    split at q1
    · rename_i hl
      refine ⟨by rw [← line_eq, r1.length]; exact hl, fun p hp => ?_⟩
      exact (q1.pr noe_ok).tup R1 r1 hp
    · exact q1.elim⟩
theorem s_lst {es : List Expr} {h : Env → Store → ResL} {p : Pos} (hs : PA X es (tA G W h)) : PE X (.List es p) (tE G W fun env st => (h env st).bind fun ds st => if ds.length ≤ LINE then .ok (.ref st.length) (st ++ [.lst ds]) else .bad) :=
  (pe_lst hs).weak fun σ H Q ⟨ρ, env, st, R, E, q⟩ => ⟨ρ, env, st, R, E, (PLQ.bind q).imp fun xs H1 ⟨ds, st1, ρ1, n1, R1, r1, q1⟩ => by
    split at q1
    · rename_i hl
      refine ⟨by rw [← line_eq, r1.length]; exact hl, fun p hp => ?_⟩
      exact (q1.pr noe_ok).lst R1 r1 hp
    · exact q1.elim⟩

/-! ### slices -/
def poF : Option (Env → Store → Res) → Env → Store → Option (Option Int) × Store
  | none, _, st => (some none, st)
  | some f, env, st => match f env st with
    | .ok (.int i) st => (some (some i), st)
    | _ => (none, st)
def tO (G : Glob) (f : Env → Store → Option (Option Int) × Store) : TO := fun σ H Q => ∃ ρ env st, Rel G ρ H st ∧ REnv G.K ρ H σ env ∧ ∃ o st', f env st = (some o, st') ∧ ∀ ρ' H', Nx ρ H ρ' H' → Rel G ρ' H' st' → Q o H'
theorem s_pnone : PO X none (tO G fun _ st => (some none, st)) := ⟨fun pins s σ H Q I ⟨ρ, env, st, R, E, o, st', e, q⟩ => by
  cases e
  exact po_none.run pins s σ H Q I (q ρ H .refl R)⟩
def oF (f : Env → Store → Res) : Env → Store → Option (Option Int) × Store := fun env st => match f env st with
  | .ok (.int i) st => (some (some i), st)
  | _ => (none, st)
theorem s_psome {e : Expr} {f : Env → Store → Res} (he : PE X e (tE G W f)) : PO X (some e) (tO G (oF f)) := ⟨fun pins s σ H Q I ⟨ρ, env, st, R, E, o, st', e, q⟩ => by
  refine (po_some he).run pins s σ H Q I ⟨ρ, env, st, R, E, ?_⟩
  unfold oF at e
  cases hf : f env st with
  | ok d st1 =>
    rw [hf] at e
    cases d <;> simp only at e <;> cases e
    intro v ρ' H' n R' r
    exact ⟨_, rv_int.mp r, q ρ' H' n R'⟩
  | exc c st1 => rw [hf] at e; cases e
  | bad => rw [hf] at e; cases e⟩
def slcF (f : Env → Store → Res) (lo hi : Env → Store → Option (Option Int) × Store) : Env → Store → Res := fun env st => (f env st).bind fun x st => match lo env st with
  | (some l, st) => (match hi env st with
    | (some h, st) => slcop x l h st
    | _ => .bad)
  | _ => .bad
theorem s_slc (g : GoodX G X N sc W k) {a : Expr} {lo hi : Option Expr} {f : Env → Store → Res} {fl fh : Env → Store → Option (Option Int) × Store} {p q : Pos} (ha : PE X a (tE G W f)) (hl : PO X lo (tO G fl)) (hh : PO X hi (tO G fh)) :
    PE X (.Subscript a (.Slice lo hi none p) q) (tE G W (slcF f fl fh)) :=
  (pe_slice (sl_D g.K) ha hl hh).weak fun σ H Q ⟨ρ, env, st, R, E, q⟩ => ⟨ρ, env, st, R, E, (PQ.bind q).imp fun x H1 ⟨d, st1, ρ1, m, q1⟩ => by
    cases h1 : fl env st1 with
    | mk o st2 =>
      simp only [h1] at q1
      cases o with
      | none => exact q1.elim
      | some l =>
        simp only at q1
        refine ⟨ρ1, env, st1, m.rel, E.mono m.nx, l, st2, h1, fun ρ2 H2 n2 R2 => ?_⟩
        cases h2 : fh env st2 with
        | mk o2 st3 =>
          simp only [h2] at q1
          cases o2 with
          | none => exact q1.elim
          | some u =>
            simp only at q1
            exact ⟨ρ2, env, st2, R2, E.mono (m.nx.trans n2), u, st3, h2, fun ρ3 H3 n3 R3 => ⟨ρ3, st3, d, R3, RV.mono (n2.trans n3) _ m.rv, (PQ.at_ (n2.trans n3) q1).pr (noe_slcop _ _ _ _)⟩⟩⟩
end

/-! ### calls -/
/-- a def's promise -/
def spD (G : Glob) (n : Nat) (f : List D → Store → Res) : Sp := fun vs H Q E => vs.length = n ∧ ∃ ρ st ds, Rel G ρ H st ∧ RVs G.K ρ H vs ds ∧ (match f ds st with
  | .ok d st' => ∀ v ρ' H', Nx ρ H ρ' H' → Rel G ρ' H' st' → RV G.K ρ' H' v d → Q v H'
  | .exc c st' => ∀ ρ' H', Nx ρ H ρ' H' → Rel G ρ' H' st' → E (.ref (G.cls c)) none H'
  | .bad => False)
structure FOk (G : Glob) (C : Oracle) (k : Nat) (f : Str) where
  a : Addr
  fd : FuncData
  ps : List Str
  mg : G.mg f = some (.ref a)
  kp : PySem.W.keepIn G.K (.ref a) = true
  b : Binds G.K fd ps []
  ar : ∀ ds st, ds.length ≠ ps.length → C f ds st = .bad
  ok : FnOk G.P G.w G.K G.mg G.base (L2.CX G.P G.w) k a fd ps (spD G ps.length (C f))
def CallsOk (G : Glob) (fs : List Str) (C : Oracle) (k : Nat) : Prop := ∀ f ∈ fs, Nonempty (FOk G C k f)
/-- built-in names stand for the built-in things -/
structure Plain (G : Glob) : Prop where
  bi : ∀ f : BI, G.mg (biName f) = none
  range : G.mg "range" = none
  type : G.mg "type" = none
  isinst : G.mg "isinstance" = none
  ty : ∀ t : Str, tyOk t = true → G.mg t = none
end Mi

set_option linter.all false
set_option maxRecDepth 100000
/-! Calls, methods, types; walks, targets, comprehensions. -/
namespace Mi
open PySem L2 PyProof.Rows

section
variable {G : Glob} {X : Cx} {N : List Str} {sc : Scope} {W : WX} {k : Nat}

theorem noDbg_1 {x : Str} (h : noDbg x = true) : (x == ("__debug__" : Str)) = false := by
  unfold noDbg at h; simp only [Bool.and_eq_true, Bool.not_eq_true'] at h; exact h.1.1
theorem noDbg_2 {x : Str} (h : noDbg x = true) : (x == ("__classdict__" : Str)) = false := by
  unfold noDbg at h; simp only [Bool.and_eq_true, Bool.not_eq_true'] at h; exact h.1.2
theorem noDbg_3 {x : Str} (h : noDbg x = true) : x ≠ "__name__" := by
  unfold noDbg at h; simp only [Bool.and_eq_true, Bool.not_eq_true'] at h
  intro e; subst e; simp at h

def varF (i : Nat) : Env → Store → Res := fun env st => match env[i]? with
  | some (some d) => .ok d st
  | _ => .bad
theorem s_var (g : GoodX G X N sc W k) {i : Nat} {x : Str} {p : Pos} (h1 : N[i]? = some x) (h2 : visS sc x = true) (h3 : noDbg x = true) :
    PE X (.Name x p) (tE G W (varF i)) :=
  (pe_var (i := i) (by rw [g.ns]; exact h1) (g.vis x h2) (noDbg_1 h3) (noDbg_2 h3)).weak fun σ H Q ⟨ρ, env, st, R, E, q⟩ => by
    unfold varF at q
    split at q
    · rename_i d e
      obtain ⟨v, h1, r⟩ := E.2 i d e
      exact ⟨v, h1, q v ρ H .refl R r⟩
    · exact q.elim
/-- the module's constants -/
def ConstsOk (G : Glob) (cs : Str → Option D) : Prop := ∀ x d, cs x = some d → ∃ u v, G.mg x = some u ∧ RelV v u ∧ ∀ ρ H, RV G.K ρ H v d
def glbF (cs : Str → Option D) (x : Str) : Env → Store → Res := fun _ st => match cs x with
  | some d => .ok d st
  | none => .bad
theorem s_glb (g : GoodX G X N sc W k) {cs : Str → Option D} (hc : ConstsOk G cs) {x : Str} {p : Pos} (h2 : gloS sc x = true) (h3 : noDbg x = true) : PE X (.Name x p) (tE G W (glbF cs x)) := by
  cases e : cs x with
  | none => exact PE.none fun σ H Q ⟨ρ, env, st, R, E, q⟩ => by unfold glbF at q; rw [e] at q; exact q.elim
  | some d =>
    obtain ⟨u, v, h4, h5, h6⟩ := hc x d e
    exact (pe_glob (g.glo x h2) (by rw [g.mg]; exact h4) h5 (noDbg_1 h3)).weak fun σ H Q ⟨ρ, env, st, R, E, q⟩ => by
      unfold glbF at q; rw [e] at q; exact q v ρ H .refl R (h6 ρ H)

theorem stars_no {p : Pos} {env : PySem.Env} : ∀ {es : List Expr}, es.all okE = true → (backTo p (starEach es env)).any (·.1) = false
  | [], _ => rfl
  | e :: es, h => by
    rw [List.all_cons, Bool.and_eq_true] at h
    rw [okE_star h.1]
    show (false || (backTo p (starEach es env)).any (·.1)) = false
    rw [stars_no h.2]; rfl
theorem stars_all {p : Pos} {env : PySem.Env} : ∀ {es : List Expr}, es.all okE = true → (backTo p (starEach es env)).all (fun x => !x.1) = true
  | [], _ => rfl
  | e :: es, h => by
    rw [List.all_cons, Bool.and_eq_true] at h
    rw [okE_star h.1]
    show (!false && (backTo p (starEach es env)).all (fun x => !x.1)) = true
    rw [stars_all h.2]; rfl

def callF (f : List D → Store → Res) (h : Env → Store → ResL) : Env → Store → Res := fun env st => (h env st).bind fun ds st => f ds st
theorem s_call (g : GoodX G X N sc W k) {fs : List Str} {C : Oracle} (hC : CallsOk G fs C k) {f : Str} (hf : f ∈ fs) {e : Expr} {es : List Expr} {h : Env → Store → ResL} {p q : Pos} (h1 : gloS sc f = true) (h2 : noDbg f = true) (ok : (e :: es).all okE = true) (hs : PA X (e :: es) (tA G W h)) :
    PE X (.Call (.Name f p) (e :: es) [] q) (tE G W (callF (C f) h)) := by
  have ok2 := ok
  rw [List.all_cons, Bool.and_eq_true] at ok2
  obtain ⟨F⟩ := hC f hf
  have Fo : FnOk X.prog X.w X.K X.mg X.base (L2.CX X.prog X.w) k F.a F.fd F.ps (spD G F.ps.length (C f)) := by
    rw [g.prog, g.w, g.K, g.mg, g.base]; exact F.ok
  refine (pe_callSD (dvs := []) (ds := []) (E := WE W) Fo g.room (g.glo f h1) (by rw [g.mg]; exact F.mg) (by rw [g.K]; exact F.kp) (by rw [g.K]; exact F.b) .nil (fun σ => passAt g.tk σ) hs (noDbg_1 h2) (okE_star ok2.1) (stars_no ok2.2)).weak
    fun σ H Q ⟨ρ, env, st, R, E, q⟩ => ⟨ρ, env, st, R, E, (PLQ.bind q).imp fun vs H1 ⟨ds, st1, ρ1, n1, R1, r1, q1⟩ => ?_⟩
  show spD G F.ps.length (C f) (vs ++ []) H1 Q (WE W σ)
  rw [List.append_nil]
  have hl : ds.length = F.ps.length := by
    refine Decidable.byContradiction fun z => ?_
    rw [F.ar ds st1 z] at q1
    exact q1.elim
  refine ⟨by rw [r1.length]; exact hl, ρ1, st1, ds, R1, r1, ?_⟩
  cases hr : C f ds st1 with
  | ok d st2 => rw [hr] at q1; exact q1
  | exc c st2 => rw [hr] at q1; exact q1
  | bad => rw [hr] at q1; exact q1.elim

/-! ### built-in calls -/
theorem bi_rest {f : BI} {h : Env → Store → ResL} {σ : L2.St} {H : Hp} {Q : VK} (q : tE G W (callF (biop f) h) σ H Q) : tCB (rDs G (biop f)) (tA G W h) σ H Q := by
  obtain ⟨ρ, env, st, R, E, q⟩ := q
  exact ⟨ρ, env, st, R, E, (PLQ.bind q).imp fun vs H1 ⟨ds, st1, ρ1, n1, R1, r1, q1⟩ => ⟨ρ1, st1, ds, R1, r1, q1.pr (noe_biop _ _ _)⟩⟩
theorem s_bi (g : GoodX G X N sc W k) (hp : Plain G) {f : BI} {e : Expr} {es : List Expr} {h : Env → Store → ResL} {p q : Pos} (h1 : gloS sc (biName f) = true) (ok : (e :: es).all okE = true) (hs : PA X (e :: es) (tA G W h)) :
    PE X (.Call (.Name (biName f) p) (e :: es) [] q) (tE G W (callF (biop f) h)) := by
  rw [List.all_cons, Bool.and_eq_true] at ok
  have hm : X.mg (biName f) = none := by rw [g.mg]; exact hp.bi f
  have hg := g.glo _ h1
  have fin : ∀ {id : String}, CallR X (.builtin id) (rDs G (biop f)) → bootBuiltins (biName f) = some (.builtin id) → biName f ≠ "__name__" → (biName f == ("__debug__" : Str)) = false → PE X (.Call (.Name (biName f) p) (e :: es) [] q) (tE G W (callF (biop f) h)) :=
    fun r hv n1 n2 => (pe_callB r hg hm hv hs n1 n2 (okE_star ok.1) (stars_no ok.2)).weak fun σ H Q q => bi_rest q
  have finT : ∀ {id : String}, CallR X (.type id) (rDs G (biop f)) → bootBuiltins (biName f) = some (.type id) → biName f ≠ "__name__" → (biName f == ("__debug__" : Str)) = false → PE X (.Call (.Name (biName f) p) (e :: es) [] q) (tE G W (callF (biop f) h)) :=
    fun r hv n1 n2 => (pe_callTy r hg hm hv hs n1 n2 (okE_star ok.1) (stars_no ok.2)).weak fun σ H Q q => bi_rest q
  have badB : (∀ ds st, biop f ds st = .bad) → ∀ (t : TE), PE X (.Call (.Name (biName f) p) (e :: es) [] q) t → PE X (.Call (.Name (biName f) p) (e :: es) [] q) t := fun _ _ h => h
  cases f with
  | len => exact fin (call_lenD g.K) PySem.boot_len (by decide) (by decide)
  | int => exact finT call_intD (by decide +kernel) (by decide) (by decide)
  | str => exact finT call_strD (by decide +kernel) (by decide) (by decide)
  | tuple => exact finT (call_tupleD g.K) (by decide +kernel) (by decide) (by decide)
  | list => exact finT (call_listD g.K) (by decide +kernel) (by decide) (by decide)
  | sum => exact fin (call_sumD g.K g.calm) (by decide +kernel) (by decide) (by decide)
  | all => exact fin (call_allD g.K g.calm) (by decide +kernel) (by decide) (by decide)
  | max => exact fin (call_maxD g.calm) (by decide +kernel) (by decide) (by decide)
  | min => exact fin (call_minD g.calm) (by decide +kernel) (by decide) (by decide)
  | abs => exact fin call_absD (by decide +kernel) (by decide) (by decide)
  | sorted => exact fin (id := "sorted") (fun pins s σ H xs us Q I r h => by obtain ⟨ρ, st, ds, R, hs, h⟩ := h; simp only [biop] at h; exact h.bad) (by decide +kernel) (by decide) (by decide)
  | set0 => exact finT (id := "set") (fun pins s σ H xs us Q I r h => by obtain ⟨ρ, st, ds, R, hs, h⟩ := h; simp only [biop] at h; exact h.bad) (by decide +kernel) (by decide) (by decide)

/-! ### methods of built-in values -/
noncomputable def mthF (m : MI) (f : Env → Store → Res) (h : Env → Store → ResL) : Env → Store → Res := fun env st => (f env st).bind fun x st => if recvOk m x st = true then (h env st).bind fun ds st => mthop m x ds st else .bad
theorem recv_lst {ρ : List Addr} {H : Hp} {st : Store} {v : V} {d : D} {m : MI} (hm : m = .append ∨ m = .pop ∨ m = .extend) (R : Rel G ρ H st) (h : RV G.K ρ H v d) (ok : recvOk m d st = true) : tyV G.K "list" v H := by
  have : ∃ n xs, d = .ref n ∧ st[n]? = some (.lst xs) := by
    rcases hm with rfl | rfl | rfl <;> (cases d <;> simp only [recvOk] at ok <;> first | (cases ok; done) | (split at ok <;> first | exact ⟨_, _, rfl, by assumption⟩ | cases ok))
  obtain ⟨n, xs, rfl, hx⟩ := this
  obtain ⟨a, rfl, ha⟩ := rv_ref.mp h
  obtain ⟨vs, h1, r⟩ := R.lstAt ha hx
  exact .inl ⟨rfl, vs, SqL.of h1⟩
theorem recv_str {ρ : List Addr} {H : Hp} {st : Store} {v : V} {d : D} {m : MI} (hm : m = .join ∨ m = .split ∨ m = .partition ∨ m = .startswith ∨ m = .endswith ∨ m = .removeprefix ∨ m = .isascii ∨ m = .isdigit) (h : RV G.K ρ H v d) (ok : recvOk m d st = true) : ∃ a, v = .str a := by
  have : ∃ z, d = .str z := by
    rcases hm with rfl | rfl | rfl | rfl | rfl | rfl | rfl | rfl <;> (cases d <;> simp only [recvOk] at ok <;> first | (cases ok; done) | exact ⟨_, rfl⟩)
  obtain ⟨z, rfl⟩ := this
  exact ⟨z, rv_str.mp h⟩
theorem s_mthL (g : GoodX G X N sc W k) {m : MI} (hm : m = .append ∨ m = .pop ∨ m = .extend) {id : String} {name : Str} (slot : Slot "list" name id) (ty : typeOf (.builtin id) = pure (.type "method_descriptor")) (rule : MtR X id (rDm G (mthop m)))
    {o e : Expr} {es : List Expr} {f : Env → Store → Res} {h : Env → Store → ResL} {ap p : Pos} (hb : baseE o = true) (hl : (ap.endLine == p.line) = true) (few : (e :: es).length < 5) (ok : (e :: es).all okE = true) (ho : PE X o (tE G W f)) (hs : PA X (e :: es) (tA G W h)) :
    PE X (.Call (.Attribute o name ap) (e :: es) [] p) (tE G W (mthF m f h)) := by
  have ok2 := ok
  rw [List.all_cons, Bool.and_eq_true] at ok2
  refine (pe_bm PySem.F.plainAttrs_list slot ty rule ho hs (baseE_eq hb) ?_ hl (okE_star ok2.1) (stars_no ok2.2)).weak fun σ H Q ⟨ρ, env, st, R, E, q⟩ => ⟨ρ, env, st, R, E, (PQ.bind q).imp fun x H1 ⟨d, st1, ρ1, m1, q1⟩ => ?_⟩
  · rw [stars_all ok]
    have : decide ((e :: es).length + ([] : List Keyword).length + (if ([] : List Keyword).isEmpty = true then 0 else 1) < 30) = true := by
      apply decide_eq_true
      simp at few ⊢
      omega
    rw [this]; rfl
  · split at q1
    · rename_i hr
      refine ⟨by rw [g.K]; exact recv_lst hm m1.rel m1.rv hr, ρ1, env, st1, m1.rel, E.mono m1.nx, (PLQ.bind q1).imp fun vs H2 ⟨ds, st2, ρ2, n2, R2, r2, q2⟩ => ⟨ρ2, st2, d, ds, R2, RV.mono n2 _ m1.rv, r2, q2.pr (noe_mthop _ _ _ _)⟩⟩
    · exact q1.elim
theorem s_mthS0 (g : GoodX G X N sc W k) {m : MI} (hm : m = .join ∨ m = .split ∨ m = .partition ∨ m = .startswith ∨ m = .endswith ∨ m = .removeprefix ∨ m = .isascii ∨ m = .isdigit) {id : String} {name : Str} (slot : Slot "str" name id) (ty : typeOf (.builtin id) = pure (.type "method_descriptor")) (rule : MtR X id (rDm G (mthop m)))
    {o : Expr} {f : Env → Store → Res} {ap p : Pos} (hb : baseE o = true) (hl : (ap.endLine == p.line) = true) (ho : PE X o (tE G W f)) :
    PE X (.Call (.Attribute o name ap) [] [] p) (tE G W (mthF m f fun _ st => .ok [] st)) := by
  refine (pe_m0 slot ty rule ho (baseE_eq hb) hl).weak fun σ H Q ⟨ρ, env, st, R, E, q⟩ => ⟨ρ, env, st, R, E, (PQ.bind q).imp fun x H1 ⟨d, st1, ρ1, m1, q1⟩ => ?_⟩
  split at q1
  · rename_i hr
    exact ⟨recv_str hm m1.rv hr, ρ1, st1, d, [], m1.rel, m1.rv, RVs.nil_, (show PQ G W σ ρ1 H1 Q (mthop m d [] st1) from q1).pr (noe_mthop _ _ _ _)⟩
  · exact q1.elim
theorem s_mthS1 (g : GoodX G X N sc W k) {m : MI} (hm : m = .join ∨ m = .split ∨ m = .partition ∨ m = .startswith ∨ m = .endswith ∨ m = .removeprefix ∨ m = .isascii ∨ m = .isdigit) {id : String} {name : Str} (slot : Slot "str" name id) (ty : typeOf (.builtin id) = pure (.type "method_descriptor")) (rule : MtR X id (rDm G (mthop m)))
    {o e : Expr} {f h : Env → Store → Res} {ap p : Pos} (hb : baseE o = true) (hl : (ap.endLine == p.line) = true) (ok : okE e = true) (ho : PE X o (tE G W f)) (he : PE X e (tE G W h)) :
    PE X (.Call (.Attribute o name ap) [e] [] p) (tE G W (mthF m f fun env st => (h env st).bindL fun d st => .ok [d] st)) := by
  refine (pe_m1 slot ty rule ho he (okE_star ok) (baseE_eq hb) hl).weak fun σ H Q ⟨ρ, env, st, R, E, q⟩ => ⟨ρ, env, st, R, E, (PQ.bind q).imp fun x H1 ⟨d, st1, ρ1, m1, q1⟩ => ?_⟩
  split at q1
  · rename_i hr
    refine ⟨recv_str hm m1.rv hr, ρ1, env, st1, m1.rel, E.mono m1.nx, ?_⟩
    cases hh : h env st1 with
    | ok c st2 =>
      simp only [hh] at q1
      intro y ρ2 H2 n2 R2 r2
      exact ⟨ρ2, st2, d, [c], R2, RV.mono n2 _ m1.rv, rvs_1.mpr ⟨y, rfl, r2⟩, (PQ.at_ n2 (show PQ G W σ ρ1 H1 Q (mthop m d [c] st2) from q1)).pr (noe_mthop _ _ _ _)⟩
    | exc c st2 => simp only [hh] at q1; exact q1
    | bad => simp only [hh] at q1; exact q1
  · exact q1.elim

/-! ### types -/
def tyIsF (n : Bool) (f : Env → Store → Res) (t : Str) : Env → Store → Res := fun env st => (f env st).bind fun x st => match tyNameS st x with
  | some u => .ok (.bl (if n then !decide ((t : Str) = u) else decide ((t : Str) = u))) st
  | none => .bad
def isinF (f : Env → Store → Res) (t : Str) : Env → Store → Res := fun env st => (f env st).bind fun x st => match tyNameS st x with
  | some u => .ok (.bl (decide ((t : Str) = u) || (u == "bool" && decide ((t : Str) = ("int" : String))))) st
  | none => .bad

theorem tyOk_cases {t : Str} (h : tyOk t = true) : t = ("int" : Str) ∨ t = ("bool" : Str) ∨ t = ("str" : Str) ∨ t = ("tuple" : Str) ∨ t = ("list" : Str) := by
  unfold tyOk at h
  simp only [Bool.or_eq_true, decide_eq_true_eq] at h
  rcases h with (((h | h) | h) | h) | h
  · exact .inl h
  · exact .inr (.inl h)
  · exact .inr (.inr (.inl h))
  · exact .inr (.inr (.inr (.inl h)))
  · exact .inr (.inr (.inr (.inr h)))
/-- the type's name as a value -/
theorem pe_ty (g : GoodX G X N sc W k) (hp : Plain G) {t : Str} {p : Pos} (ht : tyOk t = true) (h1 : gloS sc t = true) : ∃ T : String, (t : Str) = T ∧ (T = "int" ∨ T = "bool" ∨ T = "str" ∨ T = "tuple" ∨ T = "list") ∧ PE X (.Name t p) (tC (.ty T)) := by
  have hm : X.mg t = none := by rw [g.mg]; exact hp.ty t ht
  have hg := g.glo t h1
  rcases tyOk_cases ht with rfl | rfl | rfl | rfl | rfl
  · exact ⟨"int", rfl, .inl rfl, pe_bltn hg hm (by decide +kernel) rfl⟩
  · exact ⟨"bool", rfl, .inr (.inl rfl), pe_bltn hg hm (by decide +kernel) rfl⟩
  · exact ⟨"str", rfl, .inr (.inr (.inl rfl)), pe_bltn hg hm (by decide +kernel) rfl⟩
  · exact ⟨"tuple", rfl, .inr (.inr (.inr (.inl rfl))), pe_bltn hg hm (by decide +kernel) rfl⟩
  · exact ⟨"list", rfl, .inr (.inr (.inr (.inr rfl))), pe_bltn hg hm (by decide +kernel) rfl⟩
end
end Mi

set_option linter.all false
set_option maxRecDepth 100000
/-! Types of values; what is walked; targets. -/
namespace Mi
open PySem L2 PyProof.Rows

section
variable {G : Glob} {X : Cx} {N : List Str} {sc : Scope} {W : WX} {k : Nat}

def rTyD (G : Glob) : List V → Hp → VK → Prop := fun xs H Q => ∃ x ρ st d u, xs = [x] ∧ Rel G ρ H st ∧ RV G.K ρ H x d ∧ tyNameS st d = some u ∧ Q (.ty u) H
theorem call_typeD (hK : X.K = G.K) : CallR X (.type "type") (rTyD G) := by
  intro pins s σ H xs us Q I r h
  obtain ⟨x, ρ, st, d, u, rfl, R, hx, e, q⟩ := h
  obtain ⟨v, rfl, rx⟩ := vals1 r
  have fin : ∀ T, u = T → EP X pins σ Q (.type T) s := fun T z => ⟨.ty T, H, I, rfl, by rw [← z]; exact q⟩
  cases d with
  | non => rw [rv_non] at hx; subst hx; cases e; cases (show v = Value.none from rx); exact call_type_of (Tx := "NoneType") rfl (by decide +kernel) (fin _ rfl)
  | bl b => rw [rv_bl] at hx; subst hx; cases e; cases (show v = Value.bool b from rx); exact call_type_of (Tx := "bool") rfl (by decide +kernel) (fin _ rfl)
  | int i => rw [rv_int] at hx; subst hx; cases e; obtain ⟨t, rfl⟩ := (show ∃ t, v = Value.int i t from rx); exact call_type_of (Tx := "int") rfl (by decide +kernel) (fin _ rfl)
  | str z => rw [rv_str] at hx; subst hx; cases e; obtain ⟨t, rfl⟩ := (show ∃ t, v = Value.str z t from rx); exact call_type_of (Tx := "str") rfl (by decide +kernel) (fin _ rfl)
  | tup ds =>
    obtain ⟨a, vs, rfl, t, r1⟩ := rv_tup.mp hx
    cases e
    cases (show v = Value.ref a from rx)
    rw [← hK] at t
    obtain ⟨its, _, ⟨ob, h1, h2, _⟩, _⟩ := I.tuple t
    exact call_type_of (Tx := "tuple") ⟨ob, h1, h2⟩ (by decide +kernel) (fin _ rfl)
  | fl ds => cases e
  | ref n =>
    obtain ⟨a, rfl, ha⟩ := rv_ref.mp hx
    cases (show v = Value.ref a from rx)
    simp only [tyNameS] at e
    split at e
    · rename_i ds hd
      cases e
      obtain ⟨vs, h1, r1⟩ := R.lstAt ha hd
      obtain ⟨its, _, p, _⟩ := I.list (SqL.of h1)
      obtain ⟨ob, h1, h2, _⟩ := p.isList
      exact call_type_of (Tx := "list") ⟨ob, h1, h2⟩ (by decide +kernel) (fin _ rfl)
    · cases e
theorem str_inj {a b : String} (ha : a = "NoneType" ∨ a = "bool" ∨ a = "int" ∨ a = "str" ∨ a = "tuple" ∨ a = "list") (hb : b = "int" ∨ b = "bool" ∨ b = "str" ∨ b = "tuple" ∨ b = "list") : decide ((b : Str) = (a : Str)) = decide (a = b) := by
  rcases ha with rfl | rfl | rfl | rfl | rfl | rfl <;> rcases hb with rfl | rfl | rfl | rfl | rfl <;> decide
theorem tyName_cases {st : Store} {d : D} {u : String} (e : tyNameS st d = some u) : u = "NoneType" ∨ u = "bool" ∨ u = "int" ∨ u = "str" ∨ u = "tuple" ∨ u = "list" := by
  cases d with
  | non => cases e; simp
  | bl b => cases e; simp
  | int b => cases e; simp
  | str b => cases e; simp
  | tup b => cases e; simp
  | fl b => cases e
  | ref n =>
    simp only [tyNameS] at e
    split at e
    · cases e; simp
    · cases e
theorem ty_run {n : Bool} {f : Env → Store → Res} {T : String} (hT : T = "int" ∨ T = "bool" ∨ T = "str" ∨ T = "tuple" ∨ T = "list") {σ : L2.St} {H : Hp} {Q : VK} (q : tE G W (tyIsF n f T) σ H Q) :
    tCB (rTyD G) (tA G W fun env st => (f env st).bindL fun d st => (ResL.ok [] st).bindL fun ds st => .ok (d :: ds) st) σ H (fun x H1 => ∃ u : String, x = .ty u ∧ Q (.bl (if n then !decide (u = T) else decide (u = T))) H1) := by
  obtain ⟨ρ, env, st, R, E, q⟩ := q
  refine ⟨ρ, env, st, R, E, ?_⟩
  unfold tyIsF at q
  cases hf : f env st with
  | ok d st1 =>
    simp only [hf, Res.bind_ok, Res.bindL_ok, ResL.bindL_ok] at q ⊢
    intro vs ρ1 H1 n1 R1 r1
    obtain ⟨x, rfl, hx⟩ := rvs_1.mp r1
    have q := PQ.at_ n1 q
    cases hu : tyNameS st1 d with
    | none => rw [hu] at q; exact q.elim
    | some u =>
      rw [hu] at q
      refine ⟨x, ρ1, st1, d, u, rfl, R1, hx, hu, u, rfl, ?_⟩
      have := q _ ρ1 H1 .refl R1 (rv_bl.mpr rfl)
      rw [str_inj (tyName_cases hu) hT] at this
      exact this
  | exc c st1 => simp only [hf, Res.bind_exc, Res.bindL_exc] at q ⊢; exact q
  | bad => simp only [hf, Res.bind_bad] at q; exact q.elim
theorem ty_bl {n : Bool} {f : Env → Store → Res} {t : Str} {env : Env} {st : Store} : ∀ d st', tyIsF n f t env st = .ok d st' → ∃ b, d = .bl b := by
  intro d st' e
  unfold tyIsF at e
  cases hf : f env st with
  | ok x s1 =>
    simp only [hf, Res.bind_ok] at e
    cases hu : tyNameS s1 x with
    | none => rw [hu] at e; cases e
    | some u => rw [hu] at e; cases e; exact ⟨_, rfl⟩
  | exc c s1 => rw [hf] at e; cases e
  | bad => rw [hf] at e; cases e
theorem pe_tyCall (g : GoodX G X N sc W k) (hp : Plain G) {a : Expr} {f : Env → Store → Res} {p q : Pos} (hg : gloS sc ("type" : Str) = true) (ok : okE a = true) (ha : PE X a (tE G W f)) :
    PE X (.Call (.Name "type" p) [a] [] q) (tCB (rTyD G) (tA G W fun env st => (f env st).bindL fun d st => (ResL.ok [] st).bindL fun ds st => .ok (d :: ds) st)) :=
  pe_callTy (call_typeD g.K) (g.glo _ hg) (by rw [g.mg]; exact hp.type) (by decide +kernel) (s_cons ok ha s_nil) (by decide) (by decide) (okE_star ok) rfl
theorem s_typeIs (g : GoodX G X N sc W k) (hp : Plain G) {n : Bool} {a : Expr} {f : Env → Store → Res} {t : Str} {o : CmpOp} {p q p' pos : Pos} (ho : o = if n then .IsNot else .Is) (hg : gloS sc ("type" : Str) = true) (ht : tyOk t = true) (h1 : gloS sc t = true) (ok : okE a = true) (ha : PE X a (tE G W f)) :
    PE X (.Compare (.Call (.Name "type" p) [a] [] q) [o] [.Name t p'] pos) (tE G W (tyIsF n f t)) := by
  obtain ⟨T, rfl, hT, hty⟩ := pe_ty (p := p') g hp ht h1
  have h1 := pe_tyCall (p := p) (q := q) g hp hg ok ha
  cases n with
  | false =>
    subst ho
    refine (pe_cmpR op_isTy h1 hty (nomark _)).weak fun σ H Q q => ?_
    obtain ⟨ρ, env, st, R, E, q⟩ := ty_run hT q
    exact ⟨ρ, env, st, R, E, q.imp fun vs H1 ⟨x, ρ1, st1, d, u, e1, e2, e3, e4, u', e5, q'⟩ => ⟨x, ρ1, st1, d, u, e1, e2, e3, e4, u', T, e5, rfl, q'⟩⟩
  | true =>
    subst ho
    refine (pe_cmpR op_isNotTy h1 hty (nomark _)).weak fun σ H Q q => ?_
    obtain ⟨ρ, env, st, R, E, q⟩ := ty_run hT q
    exact ⟨ρ, env, st, R, E, q.imp fun vs H1 ⟨x, ρ1, st1, d, u, e1, e2, e3, e4, u', e5, q'⟩ => ⟨x, ρ1, st1, d, u, e1, e2, e3, e4, u', T, e5, rfl, q'⟩⟩
theorem s_typeIsT (g : GoodX G X N sc W k) (hp : Plain G) {n : Bool} {a : Expr} {f : Env → Store → Res} {t : Str} {o : CmpOp} {p q p' pos : Pos} (ho : o = if n then .IsNot else .Is) (hg : gloS sc ("type" : Str) = true) (ht : tyOk t = true) (h1 : gloS sc t = true) (ok : okE a = true) (ha : PE X a (tE G W f)) :
    PT X (.Compare (.Call (.Name "type" p) [a] [] q) [o] [.Name t p'] pos) (tT G W (tyIsF n f t)) := by
  obtain ⟨T, rfl, hT, hty⟩ := pe_ty (p := p') g hp ht h1
  have h1 := pe_tyCall (p := p) (q := q) g hp hg ok ha
  have mk : ∀ {σ H} {Q : Bool → Hp → Prop}, tT G W (tyIsF n f T) σ H Q → tE G W (tyIsF n f T) σ H (fun z H3 => ∃ k, z = .bl k ∧ Q k H3) := fun ⟨ρ, env, st, R, E, q⟩ => ⟨ρ, env, st, R, E, bl_only (P := True) ty_bl q⟩
  cases n with
  | false =>
    subst ho
    refine (pt_cmpR op_isTy h1 hty (nomark _)).weak fun σ H Q q => ?_
    obtain ⟨ρ, env, st, R, E, q⟩ := ty_run hT (mk q)
    exact ⟨ρ, env, st, R, E, q.imp fun vs H1 ⟨x, ρ1, st1, d, u, e1, e2, e3, e4, u', e5, q'⟩ => ⟨x, ρ1, st1, d, u, e1, e2, e3, e4, u', T, e5, rfl, q'⟩⟩
  | true =>
    subst ho
    refine (pt_cmpR op_isNotTy h1 hty (nomark _)).weak fun σ H Q q => ?_
    obtain ⟨ρ, env, st, R, E, q⟩ := ty_run hT (mk q)
    exact ⟨ρ, env, st, R, E, q.imp fun vs H1 ⟨x, ρ1, st1, d, u, e1, e2, e3, e4, u', e5, q'⟩ => ⟨x, ρ1, st1, d, u, e1, e2, e3, e4, u', T, e5, rfl, q'⟩⟩

/-! isinstance -/
theorem tyX_of {ρ : List Addr} {H : Hp} {st : Store} {v : V} {d : D} {u : String} (R : Rel G ρ H st) (h : RV G.K ρ H v d) (e : tyNameS st d = some u) : TyX G.K H v (.type u) := by
  cases d with
  | non => rw [rv_non] at h; subst h; cases e; exact .base .non
  | bl b => rw [rv_bl] at h; subst h; cases e; exact .base (.bl b)
  | int b => rw [rv_int] at h; subst h; cases e; exact .base (.int b)
  | str b => rw [rv_str] at h; subst h; cases e; exact .base (.str b)
  | tup ds =>
    obtain ⟨a, vs, rfl, t, r⟩ := rv_tup.mp h
    cases e
    rcases t with (t | ⟨o, t⟩) | ⟨o, its, n, h1, h2, _⟩
    · exact .base (.tup t)
    · exact .fTuple t
    · exact .kTuple h1 h2
  | fl ds => cases e
  | ref n =>
    obtain ⟨a, rfl, ha⟩ := rv_ref.mp h
    simp only [tyNameS] at e
    split at e
    · rename_i ds hd
      cases e
      obtain ⟨vs, h1, r1⟩ := R.lstAt ha hd
      exact .base (.lst h1)
    · cases e
theorem kit_all {K : PySem.W.Frag} {u T : String} (hu : u = "NoneType" ∨ u = "bool" ∨ u = "int" ∨ u = "str" ∨ u = "tuple" ∨ u = "list") (hT : T = "int" ∨ T = "bool" ∨ T = "str" ∨ T = "tuple" ∨ T = "list") :
    PySem.W.kitOne K (.type u) (.type T) = some (decide ((T : Str) = u) || (u == "bool" && decide ((T : Str) = ("int" : String)))) := by
  rcases hu with rfl | rfl | rfl | rfl | rfl | rfl <;> rcases hT with rfl | rfl | rfl | rfl | rfl <;> exact kit_ty (by decide +kernel)
theorem s_isin (g : GoodX G X N sc W k) (hp : Plain G) {a : Expr} {f : Env → Store → Res} {t : Str} {p q p' : Pos} (hg : gloS sc ("isinstance" : Str) = true) (ht : tyOk t = true) (h1 : gloS sc t = true) (ok : okE a = true) (ha : PE X a (tE G W f)) :
    PE X (.Call (.Name "isinstance" p) [a, .Name t p'] [] q) (tE G W (isinF f t)) := by
  obtain ⟨T, rfl, hT, hty⟩ := pe_ty (p := p') g hp ht h1
  have hm : X.mg "isinstance" = none := by rw [g.mg]; exact hp.isinst
  refine (pe_callB call_isi (g.glo _ hg) hm (by decide +kernel) (pa_cons ha (pa_cons hty pa_nil rfl) (okE_star ok)) (by decide) (by decide) (okE_star ok) rfl).weak fun σ H Q ⟨ρ, env, st, R, E, q⟩ => ⟨ρ, env, st, R, E, ?_⟩
  refine (PQ.bind q).imp fun x H1 ⟨d, st1, ρ1, m, q1⟩ => ?_
  cases hu : tyNameS st1 d with
  | none => rw [hu] at q1; exact q1.elim
  | some u =>
    rw [hu] at q1
    exact ⟨x, .ty T, .type u, .type T, _, rfl, .ty T, by rw [g.K]; exact tyX_of m.rel m.rv hu, kit_all (tyName_cases hu) hT, q1 _ ρ1 H1 .refl m.rel (rv_bl.mpr rfl)⟩
end
end Mi

set_option linter.all false
set_option maxRecDepth 100000
/-! What is walked; what a loop assigns to; comprehensions. -/
namespace Mi
open PySem L2 PyProof.Rows

/-- an iterator over these items, while the guard holds -/
structure Trip (G : Glob) (ρ₀ : List Addr) (H₀ : Hp) (items : List D) (gd : Option (Nat × List D)) (J : It) : Prop where
  go : ∀ (i : Nat) (ρ : List Addr) (H : Hp) (st : Store), Nx ρ₀ H₀ ρ H → Rel G ρ H st → gdOk gd st → i < items.length → J.go i H
  stop : ∀ (i : Nat) (ρ : List Addr) (H : Hp) (st : Store), Nx ρ₀ H₀ ρ H → Rel G ρ H st → gdOk gd st → items.length ≤ i → J.stop i H
  yld : ∀ (i : Nat) (ρ : List Addr) (H : Hp) (st : Store) (x : V) (H' : Hp) (d : D), Nx ρ₀ H₀ ρ H → Rel G ρ H st → gdOk gd st → items[i]? = some d → J.yld i H x H' → ∃ ρ', Nx ρ H ρ' H' ∧ Rel G ρ' H' st ∧ RV G.K ρ' H' x d

def PIQ (G : Glob) (W : WX) (σ : L2.St) (ρ : List Addr) (H : Hp) (R : It → Hp → Prop) : ItR → Prop
  | .ok items gd st => ∀ ρ' H' J, Nx ρ H ρ' H' → Rel G ρ' H' st → Trip G ρ' H' items gd J → R J H'
  | .exc c st => ∀ ρ' H', Nx ρ H ρ' H' → Rel G ρ' H' st → W (.ref (G.cls c)) none σ H'
  | .bad => False
def tI (G : Glob) (W : WX) (f : Env → Store → ItR) : TI := fun σ H R => ∃ ρ env st, Rel G ρ H st ∧ REnv G.K ρ H σ env ∧ PIQ G W σ ρ H R (f env st)
theorem _root_.L2.PI.weak {X : Cx} {tg e : Expr} {t t' : TI} (h : PI X tg e t) (w : ∀ σ H R, t' σ H R → t σ H R) : PI X tg e t' := ⟨fun pins s σ H R I q => h.run pins s σ H R I (w σ H R q)⟩
theorem _root_.L2.PI.none {X : Cx} {tg e : Expr} {t : TI} (w : ∀ σ H R, ¬ t σ H R) : PI X tg e t := ⟨fun pins s σ H R I q => absurd q (w σ H R)⟩

section
variable {G : Glob} {X : Cx} {N : List Str} {sc : Scope} {W : WX} {k : Nat}

theorem trip_tup {ρ₀ : List Addr} {H₀ : Hp} {a : Addr} {vs : List V} {ds : List D} (t : SqT G.K H₀ a vs) (r : RVs G.K ρ₀ H₀ vs ds) : Trip G ρ₀ H₀ ds none (Itt G.K a) := by
  have get : ∀ {i : Nat} {d : D} {ρ H}, Nx ρ₀ H₀ ρ H → ds[i]? = some d → ∃ v, vs[i]? = some v ∧ RV G.K ρ H v d := fun n e =>
    let ⟨v, h1, h2⟩ := r.get e
    ⟨v, h1, RV.mono n _ h2⟩
  refine ⟨fun i ρ H st n R g hi => ?_, fun i ρ H st n R g hi => ⟨vs, n.sqT t, by rw [r.length]; exact hi⟩, fun i ρ H st x H' d n R g e y => ?_⟩
  · obtain ⟨v, h1, _⟩ := get n (show ds[i]? = some ds[i] by simp [hi])
    exact ⟨vs, v, n.sqT t, h1⟩
  · obtain ⟨rfl, y⟩ := y
    obtain ⟨v, h1, h2⟩ := get n e
    have := y vs (n.sqT t)
    rw [h1] at this; cases this
    exact ⟨ρ, .refl, R, h2⟩
theorem trip_fl {ρ₀ : List Addr} {H₀ : Hp} {a : Addr} {vs : List V} {ds : List D} (t : FqL G.K H₀ a vs) (r : RVs G.K ρ₀ H₀ vs ds) : Trip G ρ₀ H₀ ds none (Itl G.K a) := by
  have get : ∀ {i : Nat} {d : D} {ρ H}, Nx ρ₀ H₀ ρ H → ds[i]? = some d → ∃ v, vs[i]? = some v ∧ RV G.K ρ H v d := fun n e =>
    let ⟨v, h1, h2⟩ := r.get e
    ⟨v, h1, RV.mono n _ h2⟩
  refine ⟨fun i ρ H st n R g hi => ?_, fun i ρ H st n R g hi => ⟨vs, (n.fqL t).sq, by rw [r.length]; exact hi⟩, fun i ρ H st x H' d n R g e y => ?_⟩
  · obtain ⟨v, h1, _⟩ := get n (show ds[i]? = some ds[i] by simp [hi])
    exact ⟨vs, v, (n.fqL t).sq, h1⟩
  · obtain ⟨rfl, y⟩ := y
    obtain ⟨v, h1, h2⟩ := get n e
    have := y vs (n.fqL t).sq
    rw [h1] at this; cases this
    exact ⟨ρ, .refl, R, h2⟩
theorem trip_ref {ρ₀ : List Addr} {H₀ : Hp} {a : Addr} {n : Nat} {ds : List D} (ha : ρ₀[n]? = some a) : Trip G ρ₀ H₀ ds (some (n, ds)) (Itl G.K a) := by
  refine ⟨fun i ρ H st nx R g hi => ?_, fun i ρ H st nx R g hi => ?_, fun i ρ H st x H' d nx R g e y => ?_⟩
  · obtain ⟨vs, h1, r⟩ := R.lstAt (nx.at_ ha) g
    obtain ⟨v, h2, _⟩ := r.get (show ds[i]? = some ds[i] by simp [hi])
    exact ⟨vs, v, SqL.of h1, h2⟩
  · obtain ⟨vs, h1, r⟩ := R.lstAt (nx.at_ ha) g
    exact ⟨vs, SqL.of h1, by rw [r.length]; exact hi⟩
  · obtain ⟨rfl, y⟩ := y
    obtain ⟨vs, h1, r⟩ := R.lstAt (nx.at_ ha) g
    obtain ⟨v, h2, h3⟩ := r.get e
    have := y vs (SqL.of h1)
    rw [h2] at this; cases this
    exact ⟨ρ, .refl, R, h3⟩
theorem trip_str {ρ₀ : List Addr} {H₀ : Hp} (z : Str) : Trip G ρ₀ H₀ (z.cps.toList.map fun c => .str ⟨#[c]⟩) none (Its z) := by
  have hl : (z.cps.toList.map fun c => D.str ⟨#[c]⟩).length = z.cps.size := by simp
  refine ⟨fun i ρ H st nx R g hi => by rw [hl] at hi; exact hi, fun i ρ H st nx R g hi => by rw [hl] at hi; exact hi, fun i ρ H st x H' d nx R g e y => ?_⟩
  obtain ⟨rfl, c, hc, rfl⟩ := y
  rw [List.getElem?_map, Array.getElem?_toList, hc] at e
  cases e
  exact ⟨ρ, .refl, R, rv_str.mpr rfl⟩
theorem trip_rng {ρ₀ : List Addr} {H₀ : Hp} (lo hi : Int) : Trip G ρ₀ H₀ (rangeD lo hi) none (Itr lo (hi - lo).toNat) := by
  have hl : (rangeD lo hi).length = (hi - lo).toNat := by simp [rangeD]
  refine ⟨fun i ρ H st nx R g hi => by rw [hl] at hi; exact hi, fun i ρ H st nx R g hi => by rw [hl] at hi; exact hi, fun i ρ H st x H' d nx R g e y => ?_⟩
  obtain ⟨rfl, rfl⟩ := y
  unfold rangeD at e
  rw [List.getElem?_map] at e
  cases h : (List.range (hi - lo).toNat)[i]? with
  | none => rw [h] at e; cases e
  | some j =>
    rw [h] at e; cases e
    obtain ⟨h1, h2⟩ := List.getElem?_eq_some_iff.mp h
    simp at h2; subst h2
    exact ⟨ρ, .refl, R, rv_int.mpr rfl⟩

/-- the iterator of any value that the small language walks -/
def anyF (f : Env → Store → Res) : Env → Store → ItR := fun env st => match f env st with
  | .ok d st => (match itemsOf st d with
    | some (xs, gd) => .ok xs gd st
    | none => .bad)
  | .exc c st => .exc c st
  | .bad => .bad
theorem s_any (g : GoodX G X N sc W k) {tg e : Expr} {f : Env → Store → Res} (he : PE X e (tE G W f)) : PI X tg e (tI G W (anyF f)) := by
  refine ⟨fun pins s σ H R I ⟨ρ, env, st, Rl, E, q⟩ => ?_⟩
  have key : PQ G W σ ρ H (fun v H1 => ∃ d st1 ρ1 items gd, Mid G ρ H v H1 d st1 ρ1 ∧ itemsOf st1 d = some (items, gd) ∧ ∀ ρ' H' J, Nx ρ1 H1 ρ' H' → Rel G ρ' H' st1 → Trip G ρ' H' items gd J → R J H') (f env st) := by
    unfold anyF at q
    cases hf : f env st with
    | ok d st1 =>
      simp only [hf] at q
      intro v ρ1 H1 n1 R1 r1
      cases hi : itemsOf st1 d with
      | none => rw [hi] at q; exact q.elim
      | some p =>
        obtain ⟨items, gd⟩ := p
        rw [hi] at q
        exact ⟨d, st1, ρ1, items, gd, ⟨n1, R1, r1⟩, hi, fun ρ' H' J n' => q ρ' H' J (n1.trans n')⟩
    | exc c st1 => simp only [hf] at q; exact q
    | bad => simp only [hf] at q; exact q
  refine thn (he.run pins s σ H _ I ⟨ρ, env, st, Rl, E, key⟩) fun u s1 ⟨x, H1, I1, r1, d, st1, ρ1, items, gd, m, hi, q1⟩ => ?_
  have walkL : ∀ {a : Addr} {vs : List V}, u = .ref a → SqL X.K H1 a vs → Trip G ρ1 H1 items gd (Itl G.K a) → wpAny (model X.prog X.w) X.A (pyIter u) (PIE X pins σ tg R) X.xe s1 := by
    rintro a vs rfl hq t
    obtain ⟨its, rv, p, hz⟩ := I1.list hq
    refine wpAny_pyIter_list p.isList ?_
    refine ⟨s1.heap.objs.size, [s1.heap.objs.size], _, Itl X.K a, H1, rfl, I1.kept (t' := s1.toks) fun b o e => Heap.get?_push_of_some _ e, turn_list a _, ⟨_, Heap.get?_push_size _ rfl, rfl, rfl⟩, fun b hb => ?_, ?_⟩
    · obtain rfl : b = s1.heap.objs.size := by simpa using hb
      exact I1.fpOk (Nat.le_refl _) (I1.hok.fresh (Nat.le_refl _))
    · rw [g.K]; exact q1 ρ1 H1 _ .refl m.rel t
  cases d with
  | tup ds =>
    obtain ⟨a, vs, rfl, t, r⟩ := rv_tup.mp m.rv
    cases hi
    cases (show u = Value.ref a from r1)
    have t' : SqT X.K H1 a vs := by rw [g.K]; exact t
    obtain ⟨its, rv, p, hz⟩ := I1.tuple t'
    refine wpAny_pyIter_tuple (show s1.heap.IsTuple a its.toArray from p) ?_
    refine ⟨s1.heap.objs.size, [s1.heap.objs.size], _, Itt X.K a, H1, rfl, I1.kept (t' := s1.toks) fun b o e => Heap.get?_push_of_some _ e, turn_tuple a _, ⟨_, Heap.get?_push_size _ rfl, rfl, rfl⟩, fun b hb => ?_, ?_⟩
    · obtain rfl : b = s1.heap.objs.size := by simpa using hb
      exact I1.fpOk (Nat.le_refl _) (I1.hok.fresh (Nat.le_refl _))
    · rw [g.K]
      exact q1 ρ1 H1 _ .refl m.rel (trip_tup t r)
  | fl ds =>
    obtain ⟨a, vs, rfl, t, r⟩ := rv_fl.mp m.rv
    cases hi
    exact walkL (show u = Value.ref a from r1) (by rw [g.K]; exact t.sq) (trip_fl t r)
  | str z =>
    have e := rv_str.mp m.rv
    subst e
    cases hi
    obtain ⟨t, rfl⟩ := r1
    cases ha : z.cps.all (· < 128)
    · exact wpAny_pyIter_wide ha (pi_one (tk := s1.toks) I1 _ (turn_str _ z t "str_iterator" (.inr rfl)) ⟨_, Heap.get?_push_size _ rfl, rfl, rfl⟩ (q1 ρ1 H1 _ .refl m.rel (trip_str z)))
    · exact wpAny_pyIter_ascii ha (pi_one (tk := s1.toks) I1 _ (turn_str _ z t "str_ascii_iterator" (.inl rfl)) ⟨_, Heap.get?_push_size _ rfl, rfl, rfl⟩ (q1 ρ1 H1 _ .refl m.rel (trip_str z)))
  | ref n =>
    obtain ⟨a, rfl, ha⟩ := rv_ref.mp m.rv
    simp only [itemsOf] at hi
    split at hi
    · rename_i xs hx
      cases hi
      obtain ⟨vs, h1, r⟩ := m.rel.lstAt ha hx
      exact walkL (show u = Value.ref a from r1) (SqL.of h1) (trip_ref ha)
    · cases hi
  | non => cases hi
  | bl _ => cases hi
  | int _ => cases hi

/-! ranges -/
noncomputable def rng1F (f : Env → Store → Res) : Env → Store → ItR := fun env st => match f env st with
  | .ok (.int j) st => if small62 j then .ok (rangeD 0 j) none st else .bad
  | .exc c st => .exc c st
  | _ => .bad
noncomputable def rng2F (f h : Env → Store → Res) : Env → Store → ItR := fun env st => match f env st with
  | .ok (.int i) st => (match h env st with
    | .ok (.int j) st => if small62 i ∧ small62 j then .ok (rangeD i j) none st else .bad
    | .exc c st => .exc c st
    | _ => .bad)
  | .exc c st => .exc c st
  | _ => .bad
end
end Mi

set_option linter.all false
set_option maxRecDepth 100000
/-! What a loop assigns to; ranges; comprehensions. -/
namespace Mi
open PySem L2 PyProof.Rows

section
variable {G : Glob} {X : Cx} {N : List Str} {sc : Scope} {W : WX} {k : Nat}

/-- what a context must give for names to be stored -/
structure GoodN (X : Cx) (N : List Str) (sc : Scope) : Prop where
  ns : X.N = N
  nd : N.Nodup
  loc : ∀ x, locS sc x = true → Loc X.env.scope x ∧ (X.fn x = true ∨ X.env.scope.names.lookup x = some .local)
  calm : X.calm = true
theorem GoodX.toN (g : GoodX G X N sc W k) : GoodN X N sc := ⟨g.ns, g.nd, g.loc, g.calm⟩

def tgIs : Tg → List Nat
  | .name i => [i]
  | .tup is => is
/-- only these slots may differ -/
def But (is : List Nat) (σ σ' : L2.St) : Prop := σ'.length = σ.length ∧ ∀ j, j ∉ is → σ'[j]? = σ[j]?
def gD (G : Glob) (tg : Tg) : TG := fun v σ H Q => ∃ ρ env d env', RV G.K ρ H v d ∧ REnv G.K ρ H σ env ∧ tgSet tg d env = some env' ∧ ∀ σ', REnv G.K ρ H σ' env' → But (tgIs tg) σ σ' → Q σ' H
def gDs (G : Glob) (is : List Nat) : TGs := fun vs σ H Q => ∃ ρ env ds env', RVs G.K ρ H vs ds ∧ REnv G.K ρ H σ env ∧ setMany is ds env = some env' ∧ ∀ σ', REnv G.K ρ H σ' env' → But is σ σ' → Q σ' H
theorem _root_.L2.PG.weak {X : Cx} {e : Expr} {t t' : TG} (h : PG X e t) (w : ∀ v σ H Q, t' v σ H Q → t v σ H Q) : PG X e t' := ⟨fun pins s σ H v u Q I r q => h.run pins s σ H v u Q I r (w v σ H Q q)⟩
theorem _root_.L2.PGs.weak {X : Cx} {e : List Expr} {t t' : TGs} (h : PGs X e t) (w : ∀ v σ H Q, t' v σ H Q → t v σ H Q) : PGs X e t' := ⟨fun pins s σ H v u Q I r q => h.run pins s σ H v u Q I r (w v σ H Q q)⟩
theorem But.set {i : Nat} {σ : L2.St} {v : Option V} : But [i] σ (σ.set i v) := ⟨by simp, fun j hj => by rw [List.getElem?_set_ne]; intro e; subst e; simp at hj⟩
theorem pg_one (g : GoodN X N sc) {i : Nat} {x : Str} {p : Pos} (h1 : N[i]? = some x) (h2 : locS sc x = true) : PG X (.Name x p) (gName i) :=
  pg_name (by rw [g.ns]; exact g.nd) (by rw [g.ns]; exact h1) (g.loc x h2).1 (g.loc x h2).2
theorem nameAt_inv {i : Nat} {e : Expr} (h : nameAt N sc i e = true) : ∃ x p, e = .Name x p ∧ N[i]? = some x ∧ locS sc x = true := by
  unfold nameAt at h
  cases q : asName e with
  | none => rw [q] at h; cases h
  | some x =>
    rw [q] at h
    simp only [Bool.and_eq_true, decide_eq_true_eq] at h
    obtain ⟨p, rfl⟩ := asName_eq q
    exact ⟨x, p, rfl, h.1, h.2⟩
theorem s_names (g : GoodN X N sc) : ∀ {is : List Nat} {es : List Expr}, namesAt N sc is es = true → PGs X es (gDs G is)
  | [], [], _ => pgs_nil.weak fun vs σ H Q ⟨ρ, env, ds, env', r, E, e, q⟩ => by
    cases ds with
    | nil => cases e; exact ⟨rvs_nil.mp r, q σ E ⟨rfl, fun _ _ => rfl⟩⟩
    | cons _ _ => cases e
  | i :: is, e :: es, h => by
    unfold namesAt at h
    rw [Bool.and_eq_true] at h
    obtain ⟨x, p, rfl, h1, h2⟩ := nameAt_inv h.1
    refine (pgs_cons (pg_one g h1 h2) (s_names g h.2)).weak fun vs σ H Q ⟨ρ, env, ds, env', r, E, e, q⟩ => ?_
    cases ds with
    | nil => cases e
    | cons d ds =>
      obtain ⟨v, vr, rfl, r1, r2⟩ := rvs_cons.mp r
      refine ⟨v, vr, rfl, ρ, env.set i (some d), ds, env', r2, E.set i r1, e, fun σ' E' b => q σ' E' ⟨by rw [b.1]; simp, fun j hj => ?_⟩⟩
      rw [b.2 j (fun z => hj (List.mem_cons_of_mem _ z)), List.getElem?_set_ne]
      intro z; subst z; exact hj List.mem_cons_self
  | [], _ :: _, h => by cases h
  | _ :: _, [], h => by cases h
theorem each_len {env : PySem.Env} : ∀ {es : List Expr}, (assignEach es env).length = es.length
  | [] => rfl
  | e :: es => by cases e <;> (show (assignEach es env).length + 1 = es.length + 1; rw [each_len])
theorem names_find {env : PySem.Env} : ∀ {is : List Nat} {es : List Expr}, namesAt N sc is es = true → (assignEach es env).findIdx? (·.1) = none
  | [], [], _ => rfl
  | i :: is, e :: es, h => by
    unfold namesAt at h
    rw [Bool.and_eq_true] at h
    obtain ⟨x, p, rfl, h1, h2⟩ := nameAt_inv h.1
    have ih := names_find (env := env) h.2
    show ((false, assign (.Name x p) env) :: assignEach es env).findIdx? (·.1) = none
    rw [List.findIdx?_cons]
    simp [ih]
  | [], _ :: _, h => by cases h
  | _ :: _, [], h => by cases h
theorem setMany_len : ∀ {is : List Nat} {ds : List D} {env env' : Env}, setMany is ds env = some env' → ds.length = is.length
  | [], [], _, _, _ => rfl
  | i :: is, d :: ds, env, env', h => by simp [setMany_len (show setMany is ds _ = some env' from h)]
  | [], _ :: _, _, _, h => by cases h
  | _ :: _, [], _, _, h => by cases h
theorem names_len : ∀ {is : List Nat} {es : List Expr}, namesAt N sc is es = true → es.length = is.length
  | [], [], _ => rfl
  | i :: is, e :: es, h => by
    unfold namesAt at h
    rw [Bool.and_eq_true] at h
    simp [names_len h.2]
  | [], _ :: _, h => by cases h
  | _ :: _, [], h => by cases h
theorem s_tg (hK : X.K = G.K) (g : GoodN X N sc) {tg : Tg} {e : Expr} (h : mtT N sc tg e = true) : PG X e (gD G tg) := by
  cases tg with
  | name i =>
    obtain ⟨x, p, rfl, h1, h2⟩ := nameAt_inv (show nameAt N sc i e = true from h)
    exact (pg_one g h1 h2).weak fun v σ H Q ⟨ρ, env, d, env', r, E, e, q⟩ => by
      cases e
      exact q _ (E.set i r) But.set
  | tup is =>
    simp only [mtT] at h
    cases q : asTup e with
    | none => rw [q] at h; cases h
    | some es =>
      rw [q] at h
      simp only [Bool.and_eq_true, decide_eq_true_eq] at h
      obtain ⟨i, p, rfl⟩ := asTup_eq q
      refine (pg_tup g.calm (s_names (G := G) g h.1) each_len (names_find h.1)).weak fun v σ H Q ⟨ρ, env, d, env', r, E, e, q⟩ => ?_
      cases d <;> try (cases e; done)
      rename_i ds
      obtain ⟨a, vs, rfl, t, r1⟩ := rv_tup.mp r
      refine ⟨a, vs, rfl, by rw [hK]; exact t, ?_, ρ, env, ds, env', r1, E, e, q⟩
      rw [r1.length, setMany_len e, names_len h.1]

/-! ### ranges -/
theorem s_rng1 (g : GoodX G X N sc W k) (hp : Plain G) {tg a : Expr} {f : Env → Store → Res} {p q : Pos} (hg : gloS sc ("range" : Str) = true) (ok : okE a = true) (ha : PE X a (tE G W f)) : PI X tg (.Call (.Name "range" p) [a] [] q) (tI G W (rng1F f)) :=
  (pi_range1 (g.glo _ hg) (by rw [g.mg]; exact hp.range) (s_cons ok ha s_nil) (okE_star ok)).weak fun σ H R ⟨ρ, env, st, Rl, E, q⟩ => by
    refine ⟨ρ, env, st, Rl, E, ?_⟩
    unfold rng1F at q
    cases hf : f env st with
    | ok d st1 =>
      simp only [hf] at q
      simp only [hf, Res.bindL_ok, ResL.bindL_ok]
      intro vs ρ1 H1 n1 R1 r1
      obtain ⟨x, rfl, hx⟩ := rvs_1.mp r1
      cases d <;> try (exact q.elim)
      rw [rv_int] at hx; subst hx
      simp only at q
      split at q
      · rename_i hs
        exact ⟨_, rfl, hs.1, hs.2, by have := q ρ1 H1 _ n1 R1 (trip_rng _ _); rw [Int.sub_zero] at this; exact this⟩
      · exact q.elim
    | exc c st1 => simp only [hf] at q; simp only [hf, Res.bindL_exc]; exact q
    | bad => simp only [hf] at q; exact q.elim
theorem s_rng2 (g : GoodX G X N sc W k) (hp : Plain G) {tg a b : Expr} {f h : Env → Store → Res} {p q : Pos} (hg : gloS sc ("range" : Str) = true) (ok : okE a = true) (ok' : okE b = true) (ha : PE X a (tE G W f)) (hb : PE X b (tE G W h)) :
    PI X tg (.Call (.Name "range" p) [a, b] [] q) (tI G W (rng2F f h)) :=
  (pi_range2 (g.glo _ hg) (by rw [g.mg]; exact hp.range) (s_cons ok ha (s_cons ok' hb s_nil)) (by rw [okE_star ok, okE_star ok']; rfl) (by rw [okE_star ok']; rfl)).weak fun σ H R ⟨ρ, env, st, Rl, E, q⟩ => by
    refine ⟨ρ, env, st, Rl, E, ?_⟩
    unfold rng2F at q
    cases hf : f env st with
    | ok d st1 =>
      simp only [hf] at q
      simp only [hf, Res.bindL_ok]
      cases hh : h env st1 with
      | ok d2 st2 =>
        simp only [Res.bindL_ok, ResL.bindL_ok]
        intro vs ρ1 H1 n1 R1 r1
        obtain ⟨x, y, rfl, hx, hy⟩ := rvs_2.mp r1
        cases d <;> try (exact q.elim)
        simp only [hh] at q
        cases d2 <;> try (exact q.elim)
        rw [rv_int] at hx hy; subst hx; subst hy
        simp only at q
        split at q
        · rename_i hs
          exact ⟨_, _, rfl, ⟨hs.1.1, hs.1.2, hs.2.1, hs.2.2⟩, q ρ1 H1 _ n1 R1 (trip_rng _ _)⟩
        · exact q.elim
      | exc c st2 =>
        cases d <;> try (exact q.elim)
        simp only [hh] at q
        simp only [Res.bindL_exc, ResL.bindL_exc]
        exact q
      | bad =>
        cases d <;> try (exact q.elim)
        simp only [hh] at q
        exact q.elim
    | exc c st1 => simp only [hf] at q; simp only [hf, Res.bindL_exc]; exact q
    | bad => simp only [hf] at q; exact q.elim

/-! ### comprehensions -/
theorem wipe_at (σ : L2.St) : ∀ (vs : List Nat) (j : Nat), (L2.wipe σ vs)[j]? = if j ∈ vs ∧ j < σ.length then some none else σ[j]?
  | [], j => by simp [L2.wipe]
  | v :: vs, j => by
    unfold L2.wipe
    by_cases hj : j = v
    · subst hj
      by_cases hl : j < σ.length
      · rw [List.getElem?_set_self (by rw [wipe_length]; exact hl), if_pos ⟨List.mem_cons_self, hl⟩]
      · rw [List.getElem?_eq_none (by simp [wipe_length]; omega), if_neg (fun z => hl z.2), List.getElem?_eq_none (by omega)]
    · rw [List.getElem?_set_ne (Ne.symm hj), wipe_at σ vs j]
      simp [hj]
theorem wipe_but {σ σ' : L2.St} {is vs : List Nat} (b : But is (L2.wipe σ vs) σ') (h : ∀ i ∈ is, i ∈ vs) : L2.wipe σ' vs = L2.wipe σ vs := by
  apply List.ext_getElem?
  intro j
  rw [wipe_at σ' vs j, wipe_at σ vs j]
  have hl : σ'.length = σ.length := by rw [b.1, wipe_length]
  by_cases hj : j ∈ vs
  · by_cases h2 : j < σ.length
    · rw [if_pos ⟨hj, by rw [hl]; exact h2⟩, if_pos ⟨hj, h2⟩]
    · rw [if_neg (fun z => h2 (by rw [← hl]; exact z.2)), if_neg (fun z => h2 z.2), List.getElem?_eq_none (by omega), List.getElem?_eq_none (by omega)]
  · rw [if_neg (fun z => hj z.1), if_neg (fun z => hj z.1), b.2 j (fun z => hj (h j z)), wipe_at σ vs j, if_neg (fun z => hj z.1)]

/-- a block of a comprehension: no exception leaves it -/
abbrev W0 : WX := fun _ _ _ _ => False
theorem lookup_mapK (f : Str → NameKind → NameKind) (x : Str) : ∀ l : List (Str × NameKind), (l.map fun p => (p.1, f p.1 p.2)).lookup x = (l.lookup x).map (f x)
  | [] => rfl
  | (n, y) :: l => by
    rw [List.map_cons, List.lookup_cons, List.lookup_cons]
    by_cases e : x = n
    · subst e
      simp
    · have e' : (x == n) = false := beq_eq_false_iff_ne.mpr e
      simp only [e']
      exact lookup_mapK f x l
theorem lookup_relabel {env : PySem.Env} {sc : Scope} {x : Str} {y : NameKind} (h : sc.names.lookup x = some y) : (relabel sc env).names.lookup x = some (if (y == NameKind.free && env.scope.kind == ScopeKind.function && env.kindOf x == some NameKind.cell) = true then NameKind.cell else y) := by
  have e : (relabel sc env).names = sc.names.map fun p => (p.1, if (p.2 == NameKind.free && env.scope.kind == ScopeKind.function && env.kindOf p.1 == some NameKind.cell) = true then NameKind.cell else p.2) := by
    show (sc.names.map fun (n, k) => if (k == NameKind.free && env.scope.kind == ScopeKind.function && env.kindOf n == some NameKind.cell) = true then (n, NameKind.cell) else (n, k)) = _
    apply List.map_congr_left
    rintro ⟨n, k⟩ _
    show (if (k == NameKind.free && env.scope.kind == ScopeKind.function && env.kindOf n == some NameKind.cell) = true then (n, NameKind.cell) else (n, k)) = (n, if (k == NameKind.free && env.scope.kind == ScopeKind.function && env.kindOf n == some NameKind.cell) = true then NameKind.cell else k)
    split <;> rfl
  rw [e, lookup_mapK (fun n k => if (k == NameKind.free && env.scope.kind == ScopeKind.function && env.kindOf n == some NameKind.cell) = true then NameKind.cell else k), h]
  rfl
theorem takes_none {X : Cx} : Takes X W0 := fun _ _ x => by
  obtain ⟨_, _, _, _, _, _, _, _, _, _, _, _, _, _, _, _, z⟩ := x
  exact z.elim
theorem good_blk (g : GoodX G X N sc W k) {sc' : Scope} {own : List (Str × Nat)} (ok : BlkOk N X.env.scope sc' own) (s : Shared) (H : Hp) (Cc : Addr) (cl : List (Str × Addr)) (fp : List Addr) :
    GoodX G (X.blk s H sc' (compEnvC sc' cl Cc X.env) fp) N sc' W0 k where
  prog := g.prog
  w := g.w
  K := g.K
  mg := g.mg
  base := g.base
  ns := g.ns
  nd := g.nd
  vis := fun x h => by
    unfold visS at h
    show (relabel sc' X.env).names.lookup x = some .local ∨ (relabel sc' X.env).names.lookup x = some .cell ∨ (relabel sc' X.env).names.lookup x = some .free
    cases e : sc'.names.lookup x with
    | none => rw [e] at h; cases h
    | some y =>
      rw [lookup_relabel e]
      rw [e] at h
      split
      · exact .inr (.inl rfl)
      · cases y <;> simp at h ⊢
  loc := fun x h => by
    unfold locS at h
    show ((relabel sc' X.env).names.lookup x = some .local ∨ (relabel sc' X.env).names.lookup x = some .cell) ∧ ((List.lookup x sc'.names == some NameKind.cell) = true ∨ (relabel sc' X.env).names.lookup x = some .local)
    cases e : sc'.names.lookup x with
    | none => rw [e] at h; cases h
    | some y =>
      rw [lookup_relabel e]
      rw [e] at h
      cases y <;> simp at h ⊢
  glo := fun x h => by
    unfold gloS at h
    show (relabel sc' X.env).names.lookup x = some .globalImplicit
    cases e : sc'.names.lookup x with
    | none => rw [e] at h; cases h
    | some y =>
      rw [lookup_relabel e]
      rw [e] at h
      cases y <;> simp at h ⊢
  fr := fun x h => by
    show (relabel sc' X.env).names.lookup x = some .cell ∨ (relabel sc' X.env).names.lookup x = some .free
    rcases h with h | h <;> rw [lookup_relabel h]
    · exact .inl rfl
    · split
      · exact .inl rfl
      · exact .inr rfl
  calm := g.calm
  room := g.room
  tk := takes_none
end
end Mi

set_option linter.all false
set_option maxRecDepth 100000
/-! Comprehensions. -/
namespace Mi
open PySem L2 PyProof.Rows

def stepF (own : List Nat) (tg : Tg) (fc fe : Env → Store → Res) (env : Env) : D → Store → CRes := fun x s => match tgSet tg x (wipeE env own) with
  | some env' => (match fc env' s with
    | .ok (.bl true) s => (match fe env' s with
      | .ok d s => .ok (some d) s
      | _ => .bad)
    | .ok (.bl false) s => .ok none s
    | _ => .bad)
  | none => .bad
noncomputable def lcF (own : List Nat) (tg : Tg) (fi : Env → Store → ItR) (fc fe : Env → Store → Res) : Env → Store → Res := fun env st => match fi env st with
  | .ok xs gd st => compL (stepF own tg fc fe env) gd st.length xs (st ++ [.lst []])
  | .exc c st => .exc c st
  | .bad => .bad

section
variable {G : Glob} {X : Cx} {N : List Str} {sc : Scope} {W : WX} {k : Nat}

theorem PTs.weak {X : Cx} {e : List Expr} {t t' : TT} (h : PTs X e t) (w : ∀ σ H Q, t' σ H Q → t σ H Q) : PTs X e t' := ⟨fun pins s σ H Q I q => h.run pins s σ H Q I (w σ H Q q)⟩
theorem s_ifs0 : PTs X [] (tT G W fun _ st => .ok (.bl true) st) := PTs.weak pts_nil fun σ H Q ⟨ρ, env, st, R, E, b, e, q⟩ => by cases e; exact q ρ H .refl R
/-- one if -/
def if1F (f : Env → Store → Res) : Env → Store → Res := fun env st => (f env st).bind fun x st => match x with
  | .bl true => .ok (.bl true) st
  | .bl false => .ok (.bl false) st
  | _ => .bad
theorem s_ifs1 {c : Expr} {f : Env → Store → Res} (h : PT X c (tT G W f)) : PTs X [c] (tT G W (if1F f)) := PTs.weak (pts_one h) fun σ H Q ⟨ρ, env, st, R, E, q⟩ =>
  ⟨ρ, env, st, R, E, PTQ.bind q (fun b st1 ρ1 H1 n R1 q1 => by
    cases b with
    | true => obtain ⟨z, e, q1⟩ := q1; cases e; exact q1 ρ1 H1 .refl R1
    | false => obtain ⟨z, e, q1⟩ := q1; cases e; exact q1 ρ1 H1 .refl R1) (fun d st1 hd => by cases d <;> first | rfl | exact absurd rfl (hd _))⟩

theorem own_of (ok : BlkOk N sc sc' own) (nd : N.Nodup) {i : Nat} {x : Str} (h1 : N[i]? = some x) (h2 : locS sc' x = true) : i ∈ own.map (·.2) := by
  have hm : ∃ y ∈ sc'.names, y.1 = x ∧ (y.2 = .local ∨ y.2 = .cell) := by
    unfold locS at h2
    cases e : sc'.names.lookup x with
    | none => rw [e] at h2; cases h2
    | some y =>
      rw [e] at h2
      exact ⟨(x, y), PySem.mem_of_lookup e, rfl, by cases y <;> simp at h2 ⊢⟩
  obtain ⟨⟨y, kk⟩, hy, rfl, hk⟩ := hm
  rcases ok.own _ hy hk with h | h
  · obtain ⟨p, hp, e⟩ := List.mem_map.mp h
    have := ok.ix p hp
    rw [e] at this
    rw [← nodup_ix nd this h1]
    exact List.mem_map_of_mem hp
  · exact absurd (List.mem_of_getElem? h1) h
theorem owns_of {is : List Nat} {es : List Expr} (ok : BlkOk N sc sc' own) (nd : N.Nodup) : namesAt N sc' is es = true → ∀ i ∈ is, i ∈ own.map (·.2) := by
  induction is generalizing es with
  | nil => intro _ i h; cases h
  | cons j is ih =>
    cases es with
    | nil => intro h; cases h
    | cons e es =>
      intro h i hi
      unfold namesAt at h
      rw [Bool.and_eq_true] at h
      rcases List.mem_cons.mp hi with rfl | hi
      · obtain ⟨x, p, _, h1, h2⟩ := nameAt_inv h.1
        exact own_of ok nd h1 h2
      · exact ih h.2 i hi
theorem tg_own {tg : Tg} {e : Expr} (ok : BlkOk N sc sc' own) (nd : N.Nodup) (h : mtT N sc' tg e = true) : ∀ i ∈ tgIs tg, i ∈ own.map (·.2) := by
  cases tg with
  | name i =>
    obtain ⟨x, p, _, h1, h2⟩ := nameAt_inv (show nameAt N sc' i e = true from h)
    intro j hj
    obtain rfl : j = i := by simpa [tgIs] using hj
    exact own_of ok nd h1 h2
  | tup is =>
    simp only [mtT] at h
    cases q : asTup e with
    | none => rw [q] at h; cases h
    | some es =>
      rw [q] at h
      simp only [Bool.and_eq_true] at h
      exact owns_of ok nd h.1

theorem blk_of (g : GoodX G X N sc W k) {sc' : Scope} {own : List (Str × Nat)} (h : blkC N sc sc' own = true) : BlkOk N X.env.scope sc' own := by
  have b := blkOk_by h
  exact ⟨b.kind, b.uniq, b.ix, fun y hy e => g.fr _ (b.free y hy e), b.own⟩

theorem lc_run (g : GoodX G X N sc W k) {sc' : Scope} {own : List (Str × Nat)} {tg : Tg} {tg' : Expr} {fi : Env → Store → ItR} {fc fe : Env → Store → Res} (ok : BlkOk N X.env.scope sc' own) (ht : mtT N sc' tg tg' = true) {σ : L2.St} {H : Hp} {Q : VK}
    (q : tE G W (lcF (own.map (·.2)) tg fi fc fe) σ H Q) : tLc (tI G W fi) (gD G tg) (tT G W0 fc) (tE G W0 fe) (own.map (·.2)) σ H Q := by
  obtain ⟨ρ, env, st, R, E, q⟩ := q
  refine ⟨ρ, env, st, R, E, ?_⟩
  unfold lcF at q
  cases hf : fi env st with
  | exc c st1 => simp only [hf] at q ⊢; exact q
  | bad => simp only [hf] at q; exact q.elim
  | ok items gd st1 =>
    simp only [hf] at q ⊢
    intro ρ1 H1 J n1 R1 T D hD
    -- the new list
    have R2 : Rel G (ρ1 ++ [D]) (upd H1 D (.lst [])) (st1 ++ [.lst []]) := R1.new hD ⟨[], upd_same, RVs.nil_⟩
    have n2 : Nx ρ1 H1 (ρ1 ++ [D]) (upd H1 D (.lst [])) := nx_new hD
    have hat : (ρ1 ++ [D])[st1.length]? = some D := by rw [← R1.len]; simp
    have E1 := E.mono n1
    refine ⟨fun i m H' => ∃ ρ' st', Nx (ρ1 ++ [D]) (upd H1 D (.lst [])) ρ' H' ∧ Rel G ρ' H' st' ∧ i ≤ items.length ∧ m = items.length - i ∧ PQ G W σ ρ' H' Q (compL (stepF (own.map (·.2)) tg fc fe env) gd st1.length (items.drop i) st'),
      ⟨items.length, ρ1 ++ [D], st1 ++ [.lst []], .refl, R2, Nat.zero_le _, by omega, by rw [List.drop_zero]; exact PQ.at_ (n1.trans n2) q⟩, ?_⟩
    rintro i m H' ⟨ρ', st', n3, R3, hle, rfl, q3⟩
    have base : Nx ρ1 H1 ρ' H' := n2.trans n3
    by_cases hlt : i < items.length
    · rw [List.drop_eq_getElem_cons hlt] at q3
      unfold compL at q3
      split at q3
      · rename_i gok
        refine .inr ⟨T.go i ρ' H' st' base R3 gok hlt, fun H'' => ∃ ρ'' st'', Nx (ρ1 ++ [D]) (upd H1 D (.lst [])) ρ'' H'' ∧ Rel G ρ'' H'' st'' ∧ PQ G W σ ρ'' H'' Q (compL (stepF (own.map (·.2)) tg fc fe env) gd st1.length (items.drop (i + 1)) st''),
          fun H'' ⟨ρ'', st'', a, b, c⟩ => ⟨items.length - (i + 1), by omega, ρ'', st'', a, b, hlt, rfl, c⟩, fun x H4 hy => ?_⟩
        obtain ⟨ρ4, n4, R4, r4⟩ := T.yld i ρ' H' st' x H4 items[i] base R3 gok (by simp [hlt]) hy
        have q4 := PQ.at_ n4 q3
        have E4 := (E1.mono (base.trans n4)).wipe (own.map (·.2))
        unfold stepF at q4
        cases ht2 : tgSet tg items[i] (wipeE env (own.map (·.2))) with
        | none => simp only [ht2] at q4; exact q4.elim
        | some env' =>
          simp only [ht2] at q4
          refine ⟨ρ4, _, items[i], env', r4, E4, ht2, fun σ5 E5 b5 => ⟨wipe_but b5 (tg_own ok g.nd ht), ρ4, env', st', R4, E5, ?_⟩⟩
          cases hc2 : fc env' st' with
          | exc c s => simp only [hc2] at q4; exact q4.elim
          | bad => simp only [hc2] at q4; exact q4.elim
          | ok cd s =>
            simp only [hc2] at q4
            cases cd <;> try (exact q4.elim)
            rename_i bb
            refine ⟨bb, rfl, fun ρ6 H6 n6 R6 => ?_⟩
            cases bb with
            | false =>
              simp only at q4
              exact ⟨ρ6, s, n3.trans (n4.trans n6), R6, PQ.at_ n6 q4⟩
            | true =>
              simp only at q4
              refine ⟨ρ6, env', s, R6, E5.mono n6, ?_⟩
              cases he2 : fe env' s with
              | exc c s2 => simp only [he2] at q4; exact q4.elim
              | bad => simp only [he2] at q4; exact q4.elim
              | ok y s2 =>
                simp only [he2] at q4
                intro w ρ7 H7 n7 R7 r7
                cases ha : s2[st1.length]? with
                | none => rw [ha] at q4; exact q4.elim
                | some mo =>
                  rw [ha] at q4
                  cases mo <;> try (exact q4.elim)
                  rename_i acc
                  simp only at q4
                  split at q4
                  · rename_i hl
                    have hat7 : ρ7[st1.length]? = some D := (n3.trans (n4.trans (n6.trans n7))).at_ hat
                    obtain ⟨vs, h1, r1⟩ := R7.lstAt hat7 ha
                    have n8 : Nx ρ7 H7 ρ7 (upd H7 D (.lst (vs ++ [w]))) := nx_put R7 hat7
                    refine ⟨vs, h1, by rw [r1.length, ← line_eq]; exact hl, ρ7, s2.set st1.length (.lst (acc ++ [y])), n3.trans (n4.trans (n6.trans (n7.trans n8))),
                      R7.put hat7 ⟨vs ++ [w], upd_same, RVs.mono n8 _ (r1.append (rvs_1 (G := G) |>.mpr ⟨w, rfl, r7⟩))⟩, PQ.at_ (n6.trans (n7.trans n8)) q4⟩
                  · exact q4.elim
      · exact q3.elim
    · have e : i = items.length := by omega
      subst e
      rw [List.drop_length] at q3
      unfold compL at q3
      split at q3
      · rename_i gok
        exact .inl ⟨T.stop _ ρ' H' st' base R3 gok (Nat.le_refl _), q3 _ ρ' H' .refl R3 (rv_ref.mpr ⟨D, rfl, n3.at_ hat⟩)⟩
      · exact q3.elim
theorem s_lc (g : GoodX G X N sc W k) {sc' : Scope} {own : List (Str × Nat)} {tg : Tg} {tg' it elt : Expr} {ifs : List Expr} {p : Pos} {fi : Env → Store → ItR} {fc fe : Env → Store → Res} (hb : blkC N sc sc' own = true) (ht : mtT N sc' tg tg' = true) (oki : okE it = true)
    (hi : PI X tg' it (tI G W fi))
    (hc : ∀ (s : Shared) (H : Hp) (C : Addr) (cl : List (Str × Addr)) (fp : List Addr), PTs (X.blk s H sc' (compEnvC sc' cl C X.env) fp) ifs (tT G W0 fc))
    (he : ∀ (s : Shared) (H : Hp) (C : Addr) (cl : List (Str × Addr)) (fp : List Addr), PE (X.blk s H sc' (compEnvC sc' cl C X.env) fp) elt (tE G W0 fe)) :
    PE X (.ListComp elt [⟨tg', it, ifs, 0⟩] sc' p) (tE G W (lcF (own.map (·.2)) tg fi fc fe)) := by
  have ok := blk_of g hb
  have okN : BlkOk X.N X.env.scope sc' own := by rw [g.ns]; exact ok
  exact (pe_lc g.calm (by rw [g.ns]; exact g.nd) hi okN (fun s H Cc cl fp => s_tg (X := X.blk s H sc' (compEnvC sc' cl Cc X.env) fp) (G := G) (tg := tg) g.K (good_blk g ok s H Cc cl fp).toN ht) hc he (fun x => okE_fold oki)).weak fun σ H Q q => lc_run g ok ht q
theorem s_setLc (g : GoodX G X N sc W k) {i : Nat} {y : Str} {py sp : Pos} {sc' : Scope} {own : List (Str × Nat)} {tg : Tg} {tg' it elt : Expr} {ifs : List Expr} {p : Pos} {fi : Env → Store → ItR} {fc fe : Env → Store → Res} (hy : N[i]? = some y) (hyl : X.env.scope.names.lookup y = some .local)
    (hsw : swapsWith (.ListComp elt [⟨tg', it, ifs, 0⟩] sc' p) (some (.Name y py)) sp.line X.env = pure true) (hb : blkC N sc sc' own = true) (ht : mtT N sc' tg tg' = true) (oki : okE it = true)
    (hi : PI X tg' it (tI G W fi))
    (hc : ∀ (s : Shared) (H : Hp) (C : Addr) (cl : List (Str × Addr)) (fp : List Addr), PTs (X.blk s H sc' (compEnvC sc' cl C X.env) fp) ifs (tT G W0 fc))
    (he : ∀ (s : Shared) (H : Hp) (C : Addr) (cl : List (Str × Addr)) (fp : List Addr), PE (X.blk s H sc' (compEnvC sc' cl C X.env) fp) elt (tE G W0 fe)) :
    PS X (.Assign [.Name y py] (.ListComp elt [⟨tg', it, ifs, 0⟩] sc' p) sp) (tAsg (tLc (tI G W fi) (gD G tg) (tT G W0 fc) (tE G W0 fe) (own.map (·.2))) (gName i)) := by
  have ok := blk_of g hb
  have okN : BlkOk X.N X.env.scope sc' own := by rw [g.ns]; exact ok
  exact ps_setLc g.calm (by rw [g.ns]; exact g.nd) (by rw [g.ns]; exact hy) hyl hsw hi okN (fun s H Cc cl fp => s_tg (X := X.blk s H sc' (compEnvC sc' cl Cc X.env) fp) (G := G) (tg := tg) g.K (good_blk g ok s H Cc cl fp).toN ht) hc he (fun x => okE_fold oki)
end
end Mi

set_option linter.all false
set_option maxRecDepth 100000
set_option maxHeartbeats 1000000
/-! All expressions. -/
namespace Mi
open PySem L2 PyProof.Rows

structure SE (G : Glob) (C : Oracle) (cs : Str → Option D) (W : WX) (X : Cx) (m : E) (e : Expr) : Prop where
  pe : PE X e (tE G W (evE C cs m))
  pt : PT X e (tT G W (evE C cs m))
structure SEs (G : Glob) (C : Oracle) (cs : Str → Option D) (W : WX) (X : Cx) (ms : Es) (l : List Expr) : Prop where
  ok : l.all okE = true
  pa : PA X l (tA G W (evEs C cs ms))
  and : ∀ p, l ≠ [] → PE X (.BoolOp .And l p) (tE G W (evAnd C cs ms)) ∧ PW X (.BoolOp .And l p) (tT G W (evAnd C cs ms))
  or : ∀ p, l ≠ [] → PE X (.BoolOp .Or l p) (tE G W (evOr C cs ms)) ∧ PW X (.BoolOp .Or l p) (tT G W (evOr C cs ms))
  ifs : l.length ≤ 1 → PTs X l (tT G W (evAll C cs ms))
  one : ∀ e, l = [e] → ∃ m, ms = .cons m .nil ∧ PE X e (tE G W (evE C cs m))
  nil : l = [] → ms = .nil
  bare : ms = .nil → l = []

section
variable {G : Glob} {fs : List Str} {C : Oracle} {cs : Str → Option D} {k : Nat} {X : Cx} {N : List Str} {sc : Scope} {W : WX}
theorem SE.of (g : GoodX G X N sc W k) {m : E} {e : Expr} (h : PE X e (tE G W (evE C cs m))) (hp : plainT e = true) : SE G C cs W X m e := ⟨h, pt_of g h hp⟩

theorem pt_ifx {c a b : Expr} {p : Pos} {tc t1 t2 : TT} (hc : PT X c tc) (ha : PT X a t1) (hb : PT X b t2) : PT X (.IfExp c a b p) (fun σ H Q => tc σ H fun d H1 => if d = true then t1 σ H1 Q else t2 σ H1 Q) := ⟨fun pins s σ H Q I h => by
  show wpAny _ _ (do if ← isTrue c X.env (eval c X.env) then isTrue a X.env (eval a X.env) else isTrue b X.env (eval b X.env)) _ _ s
  refine wpAny_bind (thn (hc.run pins s σ H _ I h) fun d s1 ⟨H1, I1, q1⟩ => ?_)
  cases d with
  | true => exact ha.run pins s1 σ H1 Q I1 q1
  | false => exact hb.run pins s1 σ H1 Q I1 q1⟩
theorem s_iteT (g : GoodX G X N sc W k) {c a b : Expr} {fc f h : Env → Store → Res} {p : Pos} (hc : PT X c (tT G W fc)) (ha : PT X a (tT G W f)) (hb : PT X b (tT G W h)) : PT X (.IfExp c a b p) (tT G W (iteF_ fc f h)) :=
  (pt_ifx hc ha hb).weak fun σ H Q ⟨ρ, env, st, R, E, q⟩ => ⟨ρ, env, st, R, E, PTQ.bind q (fun c st1 ρ1 H1 n R1 q1 => by
    cases c with
    | true => exact ⟨ρ1, env, st1, R1, E.mono n, q1⟩
    | false => exact ⟨ρ1, env, st1, R1, E.mono n, q1⟩) (fun d st1 hd => by cases d <;> first | rfl | exact absurd rfl (hd _))⟩
theorem se_mth1 (g : GoodX G X N sc W k) {m : MI} {a m1 : E} {o e : Expr} {ap p : Pos} (sh : shapeOk m 1 = true) (hb : baseE o = true) (hl : (ap.endLine == p.line) = true) (ok : okE e = true) (ho : PE X o (tE G W (evE C cs a))) (he : PE X e (tE G W (evE C cs m1))) :
    PE X (.Call (.Attribute o (miName m) ap) [e] [] p) (tE G W (evE C cs (.mth m a (.cons m1 .nil)))) := by
  have hs : PA X [e] (tA G W (evEs C cs (.cons m1 .nil))) := s_cons ok he s_nil
  have okl : [e].all okE = true := by rw [List.all_cons, ok]; rfl
  cases m <;> first
    | exact absurd sh (by decide)
    | exact s_mthL (m := .append) g (by simp) PySem.F.slot_list_append PySem.F.type_list_append mt_appendD hb hl (by show 1 < 5; omega) okl ho hs
    | exact s_mthL (m := .pop) g (by simp) PySem.F.slot_list_pop PySem.F.type_list_pop mt_popD hb hl (by show 1 < 5; omega) okl ho hs
    | exact s_mthL (m := .extend) g (by simp) PySem.F.slot_list_extend PySem.F.type_list_extend mt_extendD hb hl (by show 1 < 5; omega) okl ho hs
    | exact s_mthS1 (m := .join) g (by simp) PySem.F.slot_str_join PySem.F.type_str_join (mt_joinD g.K) hb hl ok ho he
    | exact s_mthS1 (m := .split) g (by simp) PySem.F.slot_str_split PySem.F.type_str_split mt_splitD hb hl ok ho he
    | exact s_mthS1 (m := .partition) g (by simp) PySem.F.slot_str_partition PySem.F.type_str_partition mt_partitionD hb hl ok ho he
    | exact s_mthS1 (m := .startswith) g (by simp) PySem.F.slot_str_startswith PySem.F.type_str_startswith mt_startswithD hb hl ok ho he
    | exact s_mthS1 (m := .endswith) g (by simp) PySem.F.slot_str_endswith PySem.F.type_str_endswith mt_endswithD hb hl ok ho he
    | exact s_mthS1 (m := .removeprefix) g (by simp) PySem.F.slot_str_removeprefix PySem.F.type_str_removeprefix mt_removeprefixD hb hl ok ho he
theorem se_mth0 (g : GoodX G X N sc W k) {m : MI} {a : E} {o : Expr} {ap p : Pos} (sh : shapeOk m 0 = true) (hb : baseE o = true) (hl : (ap.endLine == p.line) = true) (ho : PE X o (tE G W (evE C cs a))) :
    PE X (.Call (.Attribute o (miName m) ap) [] [] p) (tE G W (evE C cs (.mth m a .nil))) := by
  cases m <;> first
    | exact absurd sh (by decide)
    | exact s_mthS0 (m := .isascii) g (by simp) PySem.F.slot_str_isascii PySem.F.type_str_isascii mt_isasciiD hb hl ho
    | exact s_mthS0 (m := .isdigit) g (by simp) PySem.F.slot_str_isdigit PySem.F.type_str_isdigit mt_isdigitD hb hl ho
end

section
variable {G : Glob} {fs : List Str} {C : Oracle} {cs : Str → Option D} {k : Nat} (hC : CallsOk G fs C k) (hp : Plain G) (hcs : ConstsOk G cs)
include hC hp hcs
mutual
theorem seE : ∀ (m : E) {X : Cx} {N : List Str} {sc : Scope} {W : WX}, GoodX G X N sc W k → ∀ {e : Expr}, mtE fs N sc m e = true → SE G C cs W X m e
  | .non, X, N, sc, W, g, e, h => by
    simp only [mtE] at h
    split at h
    · rename_i q
      obtain ⟨_, _, rfl⟩ := asConst_eq q
      exact .of g (s_const g pe_non fun ρ H => rv_non.mpr rfl) rfl
    · cases h
  | .bl b, X, N, sc, W, g, e, h => by
    simp only [mtE] at h
    split at h
    · rename_i c q
      obtain rfl := of_decide_eq_true h
      obtain ⟨_, _, rfl⟩ := asConst_eq q
      exact .of g (s_const g pe_bl fun ρ H => rv_bl.mpr rfl) rfl
    · cases h
  | .int i, X, N, sc, W, g, e, h => by
    simp only [mtE] at h
    split at h
    · rename_i c q
      obtain rfl := of_decide_eq_true h
      obtain ⟨_, _, rfl⟩ := asConst_eq q
      exact .of g (s_const g pe_int fun ρ H => rv_int.mpr rfl) rfl
    · cases h
  | .str x, X, N, sc, W, g, e, h => by
    simp only [mtE] at h
    split at h
    · rename_i c q
      obtain rfl := of_decide_eq_true h
      obtain ⟨_, _, rfl⟩ := asConst_eq q
      exact .of g (s_const g pe_str fun ρ H => rv_str.mpr rfl) rfl
    · cases h
  | .var i, X, N, sc, W, g, e, h => by
    simp only [mtE] at h
    split at h
    · rename_i x q
      simp only [Bool.and_eq_true, decide_eq_true_eq] at h
      obtain ⟨_, rfl⟩ := asName_eq q
      exact .of g (s_var g h.1.1 h.1.2 h.2) rfl
    · cases h
  | .glb y, X, N, sc, W, g, e, h => by
    simp only [mtE] at h
    split at h
    · rename_i x q
      simp only [Bool.and_eq_true, decide_eq_true_eq] at h
      obtain ⟨_, rfl⟩ := asName_eq q
      obtain ⟨⟨rfl, h2⟩, h3⟩ := h
      exact .of g (s_glb g hcs h2 h3) rfl
    · cases h
  | .un .neg a, X, N, sc, W, g, e, h => by
    simp only [mtE] at h
    split at h
    · rename_i a' q
      obtain ⟨_, rfl⟩ := asUn_eq q
      exact .of g (s_un g (seE a g h).pe) rfl
    · cases h
  | .bin op a b, X, N, sc, W, g, e, h => by
    simp only [mtE] at h
    split at h
    · rename_i a' o b' q
      simp only [Bool.and_eq_true] at h
      obtain ⟨_, rfl⟩ := asBin_eq q
      exact .of g (s_bin g h.1 (seE a g h.2.1).pe (seE b g h.2.2).pe) rfl
    · cases h
  | .cmp op a b, X, N, sc, W, g, e, h => by
    simp only [mtE] at h
    split at h
    · rename_i a' o b' q
      simp only [Bool.and_eq_true] at h
      obtain ⟨_, rfl⟩ := asCmp_eq q
      exact ⟨s_cmp g h.1.1 h.1.2 (seE a g h.2.1).pe (seE b g h.2.2).pe, s_cmpT g h.1.1 h.1.2 (seE a g h.2.1).pe (seE b g h.2.2).pe⟩
    · cases h
  | .chain op op' a b c, X, N, sc, W, g, e, h => by
    simp only [mtE] at h
    split at h
    · rename_i a' o b' o' c' q
      simp only [Bool.and_eq_true] at h
      obtain ⟨_, rfl⟩ := asChain_eq q
      have ha := (seE a g h.2.1).pe
      have hb := (seE b g h.2.2.1).pe
      have hc := (seE c g h.2.2.2).pe
      exact ⟨s_chain g h.1.1.1.1 h.1.1.1.2 h.1.2 ha hb hc, s_chainT g h.1.1.1.1 h.1.1.1.2 h.1.2 ha hb hc⟩
    · cases h
  | .and es, X, N, sc, W, g, e, h => by
    simp only [mtE] at h
    split at h
    · rename_i es' q
      obtain ⟨_, rfl⟩ := asBool_eq q
      have hs := seEs es g h
      by_cases he : es' = []
      · subst he
        have := hs.nil rfl
        subst this
        exact ⟨PE.none fun σ H Q ⟨ρ, env, st, R, E, q⟩ => q.elim, ⟨fun pins s σ H Q I ⟨ρ, env, st, R, E, q⟩ => q.elim⟩⟩
      · exact ⟨(hs.and _ he).1, (hs.and _ he).2.pt⟩
    · cases h
  | .or es, X, N, sc, W, g, e, h => by
    simp only [mtE] at h
    split at h
    · rename_i es' q
      obtain ⟨_, rfl⟩ := asBool_eq q
      have hs := seEs es g h
      by_cases he : es' = []
      · subst he
        have := hs.nil rfl
        subst this
        exact ⟨PE.none fun σ H Q ⟨ρ, env, st, R, E, q⟩ => q.elim, ⟨fun pins s σ H Q I ⟨ρ, env, st, R, E, q⟩ => q.elim⟩⟩
      · exact ⟨(hs.or _ he).1, (hs.or _ he).2.pt⟩
    · cases h
  | .not a, X, N, sc, W, g, e, h => by
    simp only [mtE] at h
    split at h
    · rename_i a' q
      obtain ⟨_, rfl⟩ := asUn_eq q
      exact ⟨s_not g (seE a g h).pe, s_notT g (seE a g h).pt⟩
    · cases h
  | .ite c a b, X, N, sc, W, g, e, h => by
    simp only [mtE] at h
    split at h
    · rename_i c' a' b' q
      simp only [Bool.and_eq_true] at h
      obtain ⟨_, rfl⟩ := asIf_eq q
      exact ⟨s_ite g (seE c g h.1).pt (seE a g h.2.1).pe (seE b g h.2.2).pe, s_iteT g (seE c g h.1).pt (seE a g h.2.1).pt (seE b g h.2.2).pt⟩
    · cases h
  | .tup es, X, N, sc, W, g, e, h => by
    simp only [mtE] at h
    split at h
    · rename_i es' q
      obtain ⟨_, _, rfl⟩ := asTup_eq q
      exact .of g (s_tup (seEs es g h).pa) rfl
    · cases h
  | .lst es, X, N, sc, W, g, e, h => by
    simp only [mtE] at h
    split at h
    · rename_i es' q
      obtain ⟨_, rfl⟩ := asLst_eq q
      exact .of g (s_lst (seEs es g h).pa) rfl
    · cases h
  | .dic _ _ _, X, N, sc, W, g, e, h => by simp only [mtE] at h; cases h
  | .idx a b, X, N, sc, W, g, e, h => by
    simp only [mtE] at h
    split at h
    · rename_i a' b' q
      simp only [Bool.and_eq_true] at h
      obtain ⟨_, rfl⟩ := asSub_eq q
      exact .of g (s_idx g h.1 (seE a g h.2.1).pe (seE b g h.2.2).pe) rfl
    · cases h
  | .slc a lo hi, X, N, sc, W, g, e, h => by
    simp only [mtE] at h
    split at h
    · rename_i a' lo' hi' q
      simp only [Bool.and_eq_true] at h
      obtain ⟨_, _, rfl⟩ := asSlc_eq q
      exact .of g (s_slc g (seE a g h.1).pe (seO lo g h.2.1) (seO hi g h.2.2)) rfl
    · cases h
  | .call f es, X, N, sc, W, g, e, h => by
    simp only [mtE] at h
    split at h
    · rename_i f' es' q
      simp only [Bool.and_eq_true, decide_eq_true_eq, Bool.not_eq_true'] at h
      obtain ⟨⟨⟨⟨⟨rfl, h1⟩, h2⟩, h3⟩, h4⟩, h5⟩ := h
      obtain ⟨_, _, rfl⟩ := asCall_eq q
      have hs := seEs es g h5
      cases es' with
      | nil => cases h4
      | cons e0 r => exact .of g (s_call g hC h1 h2 h3 hs.ok hs.pa) rfl
    · cases h
  | .bi f es, X, N, sc, W, g, e, h => by
    simp only [mtE] at h
    split at h
    · rename_i f' es' q
      simp only [Bool.and_eq_true, decide_eq_true_eq, Bool.not_eq_true'] at h
      obtain ⟨⟨⟨⟨rfl, h2⟩, h3⟩, h4⟩, h5⟩ := h
      obtain ⟨_, _, rfl⟩ := asCall_eq q
      have hs := seEs es g h5
      cases es' with
      | nil => cases h4
      | cons e0 r => exact .of g (s_bi g hp h2 hs.ok hs.pa) rfl
    · cases h
  | .mth m a es, X, N, sc, W, g, e, h => by
    simp only [mtE] at h
    split at h
    · rename_i a' m' es' q
      simp only [Bool.and_eq_true, decide_eq_true_eq] at h
      obtain ⟨⟨⟨rfl, h1⟩, h2⟩, h3, h4⟩ := h
      obtain ⟨ap, p, rfl, hl⟩ := asMth_eq q
      have ho := (seE a g h3).pe
      have hs := seEs es g h4
      match es', h2, hs with
      | [], h2, hs =>
        have := hs.nil rfl
        subst this
        exact .of g (se_mth0 g h2 h1 hl ho) rfl
      | [e0], h2, hs =>
        obtain ⟨m1, rfl, he⟩ := hs.one e0 rfl
        have ok := hs.ok
        rw [List.all_cons, Bool.and_eq_true] at ok
        exact .of g (se_mth1 g h2 h1 hl ok.1 ho he) rfl
      | _ :: _ :: r, h2, hs => cases m <;> cases h2
    · cases h
  | .typeIs n a t, X, N, sc, W, g, e, h => by
    simp only [mtE] at h
    split at h
    · rename_i l o r q
      split at h
      · rename_i f a' t' q1 q2
        simp only [Bool.and_eq_true, decide_eq_true_eq] at h
        obtain ⟨⟨⟨⟨⟨⟨⟨⟨rfl, rfl⟩, h1⟩, h2⟩, h3⟩, h4⟩, h5⟩, h6⟩, h7⟩ := h
        obtain ⟨_, rfl⟩ := asCmp_eq q
        obtain ⟨_, _, rfl⟩ := asCall_eq q1
        obtain ⟨_, rfl⟩ := asName_eq q2
        exact ⟨s_typeIs g hp h6 h1 h4 h2 h5 (seE a g h7).pe, s_typeIsT g hp h6 h1 h4 h2 h5 (seE a g h7).pe⟩
      · cases h
    · cases h
  | .isin a t, X, N, sc, W, g, e, h => by
    simp only [mtE] at h
    split at h
    · rename_i f a' r q
      split at h
      · rename_i t' q2
        simp only [Bool.and_eq_true, decide_eq_true_eq] at h
        obtain ⟨⟨⟨⟨⟨⟨⟨rfl, rfl⟩, h1⟩, h2⟩, h3⟩, h4⟩, h5⟩, h7⟩ := h
        obtain ⟨_, _, rfl⟩ := asCall_eq q
        obtain ⟨_, rfl⟩ := asName_eq q2
        exact .of g (s_isin g hp h1 h4 h2 h5 (seE a g h7).pe) rfl
      · cases h
    · cases h
  | .lc own tg it cc elt, X, N, sc, W, g, e, h => by
    simp only [mtE] at h
    split at h
    · rename_i el tg' it' ifs sc' q
      simp only [Bool.and_eq_true, decide_eq_true_eq] at h
      obtain ⟨⟨⟨⟨h1, h2⟩, h3⟩, h4⟩, h5, h6, h7⟩ := h
      obtain ⟨_, rfl⟩ := asLC_eq q
      refine .of g (s_lc g h1 h2 h4 (seI it g h5 _) (fun s H Cc cl fp => (seEs cc (good_blk g (blk_of g h1) s H Cc cl fp) h6).ifs h3) (fun s H Cc cl fp => (seE elt (good_blk g (blk_of g h1) s H Cc cl fp) h7).pe)) rfl
    · cases h
  | .fstr _, X, N, sc, W, g, e, h => by simp only [mtE] at h; cases h
  | .attr _ _, X, N, sc, W, g, e, h => by simp only [mtE] at h; cases h
  | .new _ _, X, N, sc, W, g, e, h => by simp only [mtE] at h; cases h
  | .omth _ _ _ _, X, N, sc, W, g, e, h => by simp only [mtE] at h; cases h
theorem seEs : ∀ (ms : Es) {X : Cx} {N : List Str} {sc : Scope} {W : WX}, GoodX G X N sc W k → ∀ {l : List Expr}, mtEs fs N sc ms l = true → SEs G C cs W X ms l
  | .nil, X, N, sc, W, g, l, h => by
    cases l with
    | nil => exact ⟨rfl, s_nil, fun _ z => absurd rfl z, fun _ z => absurd rfl z, fun _ => s_ifs0, (fun _ z => nomatch z), fun _ => rfl, fun _ => rfl⟩
    | cons _ _ => simp only [mtEs] at h; cases h
  | .cons m ms, X, N, sc, W, g, l, h => by
    cases l with
    | nil => simp only [mtEs] at h; cases h
    | cons e es =>
      simp only [mtEs, Bool.and_eq_true] at h
      obtain ⟨h1, h2, h3⟩ := h
      have he := seE m g h2
      have hs := seEs ms g h3
      refine ⟨by rw [List.all_cons, h1, hs.ok]; rfl, s_cons h1 he.pe hs.pa, fun p _ => ?_, fun p _ => ?_, fun hl => ?_, fun e' z => ?_, (fun z => nomatch z), (fun z => nomatch z)⟩
      · cases es with
        | nil =>
          have := hs.nil rfl
          subst this
          exact ⟨pe_one he.pe, pw_and1 he.pt⟩
        | cons e2 r =>
          cases ms with
          | nil => cases hs.bare rfl
          | cons m2 mr =>
            have := hs.and p (by simp)
            exact ⟨s_and g he.pe this.1, s_andT g he.pt this.2⟩
      · cases es with
        | nil =>
          have := hs.nil rfl
          subst this
          exact ⟨pe_one he.pe, pw_or1 he.pt⟩
        | cons e2 r =>
          cases ms with
          | nil => cases hs.bare rfl
          | cons m2 mr =>
            have := hs.or p (by simp)
            exact ⟨s_or g he.pe this.1, s_orT g he.pt this.2⟩
      · cases es with
        | nil =>
          have := hs.nil rfl
          subst this
          exact s_ifs1 he.pt
        | cons e2 r => simp at hl
      · cases z
        have := hs.nil rfl
        subst this
        exact ⟨m, rfl, he.pe⟩
theorem seO : ∀ (m : Oe) {X : Cx} {N : List Str} {sc : Scope} {W : WX}, GoodX G X N sc W k → ∀ {e : Option Expr}, mtO fs N sc m e = true → PO X e (tO G (evO C cs m))
  | .none, X, N, sc, W, g, e, h => by
    cases e with
    | none => exact s_pnone
    | some _ => simp only [mtO] at h; cases h
  | .some m, X, N, sc, W, g, e, h => by
    cases e with
    | none => simp only [mtO] at h; cases h
    | some e => simp only [mtO] at h; exact s_psome (seE m g h).pe
theorem seI : ∀ (m : Ie) {X : Cx} {N : List Str} {sc : Scope} {W : WX}, GoodX G X N sc W k → ∀ {e : Expr}, mtI fs N sc m e = true → ∀ tg, PI X tg e (tI G W (evI C cs m))
  | .exp m, X, N, sc, W, g, e, h, tg => by
    simp only [mtI] at h
    exact s_any g (seE m g h).pe
  | .rng1 a, X, N, sc, W, g, e, h, tg => by
    simp only [mtI] at h
    split at h
    · rename_i f a' q
      simp only [Bool.and_eq_true, decide_eq_true_eq] at h
      obtain ⟨⟨⟨rfl, h1⟩, h2⟩, h3⟩ := h
      obtain ⟨_, _, rfl⟩ := asCall_eq q
      exact s_rng1 g hp h1 h2 (seE a g h3).pe
    · cases h
  | .rng2 a b, X, N, sc, W, g, e, h, tg => by
    simp only [mtI] at h
    split at h
    · rename_i f a' b' q
      simp only [Bool.and_eq_true, decide_eq_true_eq] at h
      obtain ⟨⟨⟨⟨rfl, h1⟩, h2⟩, h3⟩, h4, h5⟩ := h
      obtain ⟨_, _, rfl⟩ := asCall_eq q
      exact s_rng2 g hp h1 h2 h3 (seE a g h4).pe (seE b g h5).pe
    · cases h
  | .enm _ _, X, N, sc, W, g, e, h, tg => by simp only [mtI] at h; cases h
  | .zip _ _, X, N, sc, W, g, e, h, tg => by simp only [mtI] at h; cases h
end
end
end Mi

set_option linter.all false
set_option maxRecDepth 100000
set_option maxHeartbeats 1000000
/-! Statements. -/
namespace Mi
open PySem L2 PyProof.Rows

structure GoodS (G : Glob) (X : Cx) (N : List Str) (sc : Scope) (W : WX) (k : Nat) : Prop extends GoodX G X N sc W k where
  scq : X.env.scope = sc
  kind : sc.kind = .function
  po : PassesOwn (model X.prog X.w) X.A X.env X.xe
  stk : X.stack = X.env :: X.outer
  frm : X.env.frame = some X.env.locals

def POut (G : Glob) (W : WX) (Dn : Ends) (ρ : List Addr) (H : Hp) : Out → Prop
  | .nx env st => ∀ σ' ρ' H', Nx ρ H ρ' H' → Rel G ρ' H' st → REnv G.K ρ' H' σ' env → Dn.nx σ' H'
  | .rt d st => ∀ v ρ' H', Nx ρ H ρ' H' → Rel G ρ' H' st → RV G.K ρ' H' v d → Dn.rt v H'
  | .bk env st => ∀ σ' ρ' H', Nx ρ H ρ' H' → Rel G ρ' H' st → REnv G.K ρ' H' σ' env → Dn.bk σ' H'
  | .ct env st => ∀ σ' ρ' H', Nx ρ H ρ' H' → Rel G ρ' H' st → REnv G.K ρ' H' σ' env → Dn.ct σ' H'
  | .exc c env st => ∀ σ' ρ' H', Nx ρ H ρ' H' → Rel G ρ' H' st → REnv G.K ρ' H' σ' env → W (.ref (G.cls c)) none σ' H'
  | .bad => False
def tS (G : Glob) (W : WX) (f : Env → Store → Out) : TS := fun Dn σ H => ∃ ρ env st, Rel G ρ H st ∧ REnv G.K ρ H σ env ∧ POut G W Dn ρ H (f env st)
section
variable {G : Glob} {W : WX} {Dn : Ends} {ρ : List Addr} {H : Hp}
theorem POut.at_ {ρ1 : List Addr} {H1 : Hp} (n : Nx ρ H ρ1 H1) : ∀ {o : Out}, POut G W Dn ρ H o → POut G W Dn ρ1 H1 o
  | .nx env st, h => fun σ' ρ' H' n' => h σ' ρ' H' (n.trans n')
  | .rt d st, h => fun v ρ' H' n' => h v ρ' H' (n.trans n')
  | .bk env st, h => fun σ' ρ' H' n' => h σ' ρ' H' (n.trans n')
  | .ct env st, h => fun σ' ρ' H' n' => h σ' ρ' H' (n.trans n')
  | .exc c env st, h => fun σ' ρ' H' n' => h σ' ρ' H' (n.trans n')
  | .bad, h => h
theorem POut.bindO {σ : L2.St} {env : Env} (E : REnv G.K ρ H σ env) {c : D → Store → Out} : ∀ {f : Res}, POut G W Dn ρ H (f.bindO env c) → PQ G W σ ρ H (fun v H1 => ∃ d st1 ρ1, Mid G ρ H v H1 d st1 ρ1 ∧ POut G W Dn ρ1 H1 (c d st1)) f
  | .ok d st, h => fun v ρ' H' n R r => ⟨d, st, ρ', ⟨n, R, r⟩, POut.at_ n h⟩
  | .exc x st, h => fun ρ' H' n R => h σ ρ' H' n R (E.mono n)
  | .bad, h => h
theorem _root_.L2.PS.weak {X : Cx} {s : Stmt} {t t' : TS} (h : PS X s t) (w : ∀ Dn σ H, t' Dn σ H → t Dn σ H) : PS X s t' := ⟨fun pins s σ H Dn I q => h.run pins s σ H Dn I (w Dn σ H q)⟩
theorem _root_.L2.PSs.weak {X : Cx} {s : List Stmt} {t t' : TS} (h : PSs X s t) (w : ∀ Dn σ H, t' Dn σ H → t Dn σ H) : PSs X s t' := ⟨fun pins s σ H Dn I q => h.run pins s σ H Dn I (w Dn σ H q)⟩
end

section
variable {G : Glob} {X : Cx} {N : List Str} {sc : Scope} {W : WX} {k : Nat}

theorem t_expr (g : GoodS G X N sc W k) {e : Expr} {f : Env → Store → Res} {p : Pos} (he : PE X e (tE G W f)) (nc : notComp e = true) : PS X (.Expr e p) (tS G W fun env st => (f env st).bindO env fun _ st => .nx env st) :=
  (ps_expr he (notComp_eq nc)).weak fun Dn σ H ⟨ρ, env, st, R, E, q⟩ => ⟨ρ, env, st, R, E, (POut.bindO E q).imp fun v H1 ⟨d, st1, ρ1, m, q1⟩ => q1 σ ρ1 H1 .refl m.rel (E.mono m.nx)⟩
theorem t_ret (g : GoodS G X N sc W k) {e : Expr} {f : Env → Store → Res} {p : Pos} (he : PE X e (tE G W f)) : PS X (.Return (some e) p) (tS G W fun env st => (f env st).bindO env fun d st => .rt d st) :=
  (ps_ret he).weak fun Dn σ H ⟨ρ, env, st, R, E, q⟩ => ⟨ρ, env, st, R, E, (POut.bindO E q).imp fun v H1 ⟨d, st1, ρ1, m, q1⟩ => q1 v ρ1 H1 .refl m.rel m.rv⟩
theorem t_ret0 {p : Pos} : PS X (.Return none p) (tS G W fun env st => .rt .non st) :=
  ps_retN.weak fun Dn σ H ⟨ρ, env, st, R, E, q⟩ => q _ ρ H .refl R (rv_non.mpr rfl)
theorem t_pass {p : Pos} : PS X (.Pass p) (tS G W fun env st => .nx env st) := ps_pass.weak fun Dn σ H ⟨ρ, env, st, R, E, q⟩ => q σ ρ H .refl R E
theorem t_brk {p : Pos} : PS X (.Break p) (tS G W fun env st => .bk env st) := ps_break.weak fun Dn σ H ⟨ρ, env, st, R, E, q⟩ => q σ ρ H .refl R E
theorem t_cnt {p : Pos} : PS X (.Continue p) (tS G W fun env st => .ct env st) := ps_continue.weak fun Dn σ H ⟨ρ, env, st, R, E, q⟩ => q σ ρ H .refl R E
theorem t_nil : PSs X [] (tS G W fun env st => .nx env st) := pss_nil.weak fun Dn σ H ⟨ρ, env, st, R, E, q⟩ => q σ ρ H .refl R E
def seqF (f h : Env → Store → Out) : Env → Store → Out := fun env st => match f env st with
  | .nx env st => h env st
  | o => o
theorem t_cons {s : Stmt} {ss : List Stmt} {f h : Env → Store → Out} (hs : PS X s (tS G W f)) (hr : PSs X ss (tS G W h)) : PSs X (s :: ss) (tS G W (seqF f h)) :=
  (pss_cons hs hr).weak fun Dn σ H ⟨ρ, env, st, R, E, q⟩ => ⟨ρ, env, st, R, E, by
    unfold seqF at q
    cases hf : f env st with
    | nx env1 st1 =>
      rw [hf] at q
      exact fun σ' ρ' H' n R' E' => ⟨ρ', env1, st1, R', E', POut.at_ n q⟩
    | rt d st1 => rw [hf] at q; exact q
    | bk env1 st1 => rw [hf] at q; exact q
    | ct env1 st1 => rw [hf] at q; exact q
    | exc c env1 st1 => rw [hf] at q; exact q
    | bad => rw [hf] at q; exact q⟩
def iffF (c : Env → Store → Res) (f h : Env → Store → Out) : Env → Store → Out := fun env st => (c env st).bindO env fun x st => match truth st x with
  | some true => f env st
  | some false => h env st
  | none => .bad
theorem t_if {c : Expr} {a b : List Stmt} {fc : Env → Store → Res} {f h : Env → Store → Out} {p : Pos} (hc : PT X c (tT G W fc)) (ha : PSs X a (tS G W f)) (hb : PSs X b (tS G W h)) : PS X (.If c a b p) (tS G W (iffF fc f h)) :=
  (ps_if hc ha hb).weak fun Dn σ H ⟨ρ, env, st, R, E, q⟩ => ⟨ρ, env, st, R, E, by
    unfold iffF at q
    cases hf : fc env st with
    | ok d st1 =>
      simp only [hf, Res.bindO_ok] at q
      cases ht : truth st1 d with
      | none => rw [ht] at q; exact q.elim
      | some z =>
        rw [ht] at q
        refine ⟨z, ht, fun ρ1 H1 n1 R1 => ?_⟩
        cases z with
        | true => exact ⟨ρ1, env, st1, R1, E.mono n1, POut.at_ n1 q⟩
        | false => exact ⟨ρ1, env, st1, R1, E.mono n1, POut.at_ n1 q⟩
    | exc c st1 => simp only [hf, Res.bindO_exc] at q; exact fun ρ' H' n R' => q σ ρ' H' n R' (E.mono n)
    | bad => simp only [hf, Res.bindO_bad] at q; exact q⟩

/-! ### assignments -/
theorem notComp_sole {t e : Expr} {l : Nat} {env : PySem.Env} (h : notComp e = true) : swapsWithSole [t] e l env = pure false := by
  unfold swapsWithSole
  exact notComp_eq h
def setF (i : Nat) (f : Env → Store → Res) : Env → Store → Out := fun env st => (f env st).bindO env fun d st => .nx (env.set i (some d)) st
theorem set_run {i : Nat} {f : Env → Store → Res} {Dn : Ends} {σ : L2.St} {H : Hp} (q : tS G W (setF i f) Dn σ H) : tE G W f σ H (fun x H1 => gName i x σ H1 Dn.nx) := by
  obtain ⟨ρ, env, st, R, E, q⟩ := q
  exact ⟨ρ, env, st, R, E, (POut.bindO E q).imp fun v H1 ⟨d, st1, ρ1, m, q1⟩ => q1 _ ρ1 H1 .refl m.rel ((E.mono m.nx).set i m.rv)⟩
theorem t_set (g : GoodS G X N sc W k) {i : Nat} {x : Str} {e : Expr} {f : Env → Store → Res} {p p' : Pos} (h1 : N[i]? = some x) (h2 : locS sc x = true) (he : PE X e (tE G W f)) (hs : swapsWith e (some (.Name x p')) p.line X.env = pure false) : PS X (.Assign [.Name x p'] e p) (tS G W (setF i f)) :=
  (ps_asg he (pg_one g.toN h1 h2) hs).weak fun Dn σ H q => set_run q
theorem t_setLc (g : GoodS G X N sc W k) {i : Nat} {y : Str} {py sp : Pos} {sc' : Scope} {own : List (Str × Nat)} {tg : Tg} {tg' it elt : Expr} {ifs : List Expr} {p : Pos} {fi : Env → Store → ItR} {fc fe : Env → Store → Res} (hy : N[i]? = some y) (hyl : sc.names.lookup y = some .local)
    (hsw : swapsWith (.ListComp elt [⟨tg', it, ifs, 0⟩] sc' p) (some (.Name y py)) sp.line X.env = pure true) (hb : blkC N sc sc' own = true) (ht : mtT N sc' tg tg' = true) (oki : okE it = true)
    (hi : PI X tg' it (tI G W fi))
    (hc : ∀ (s : Shared) (H : Hp) (C : Addr) (cl : List (Str × Addr)) (fp : List Addr), PTs (X.blk s H sc' (compEnvC sc' cl C X.env) fp) ifs (tT G W0 fc))
    (he : ∀ (s : Shared) (H : Hp) (C : Addr) (cl : List (Str × Addr)) (fp : List Addr), PE (X.blk s H sc' (compEnvC sc' cl C X.env) fp) elt (tE G W0 fe)) :
    PS X (.Assign [.Name y py] (.ListComp elt [⟨tg', it, ifs, 0⟩] sc' p) sp) (tS G W (setF i (lcF (own.map (·.2)) tg fi fc fe))) :=
  (s_setLc g.toGoodX hy (by rw [g.scq]; exact hyl) hsw hb ht oki hi hc he).weak fun Dn σ H q => lc_run g.toGoodX (blk_of g.toGoodX hb) ht (set_run q)
def unpF (is : List Nat) (f : Env → Store → Res) : Env → Store → Out := fun env st => (f env st).bindO env fun d st => match d with
  | .tup ds => (match setMany is ds env with
    | some env => .nx env st
    | none => .bad)
  | _ => .bad
def notTup : Expr → Bool
  | .Tuple .. => false
  | _ => true
theorem swapped_none {es : List Expr} {kk : Nat} {p : Pos} {e : Expr} {env : PySem.Env} (h : notTup e = true) : swappedStores [.Tuple es kk p] e env = pure none := by
  cases e <;> first | rfl | cases h
theorem t_unp (g : GoodS G X N sc W k) {is : List Nat} {tg e : Expr} {f : Env → Store → Res} {p : Pos} (ht : mtT N sc (.tup is) tg = true) (nt : notTup e = true) (nc : notComp e = true) (he : PE X e (tE G W f)) : PS X (.Assign [tg] e p) (tS G W (unpF is f)) := by
  have ht0 := ht
  simp only [mtT] at ht
  cases q : asTup tg with
  | none => rw [q] at ht; cases ht
  | some es =>
    obtain ⟨kk, p', rfl⟩ := asTup_eq q
    refine (ps_asg he (s_tg (G := G) (tg := .tup is) g.K g.toN ht0) (notComp_sole nc) (swapped_none nt)).weak fun Dn σ H ⟨ρ, env, st, R, E, q⟩ => ⟨ρ, env, st, R, E, (POut.bindO E q).imp fun v H1 ⟨d, st1, ρ1, m, q1⟩ => ?_⟩
    cases d <;> try (exact q1.elim)
    rename_i ds
    simp only at q1
    cases hm : setMany is ds env with
    | none => rw [hm] at q1; exact q1.elim
    | some env' =>
      rw [hm] at q1
      exact ⟨ρ1, env, _, env', m.rv, E.mono m.nx, hm, fun σ' E' _ => q1 σ' ρ1 H1 .refl m.rel E'⟩
def setIxF (fo fi f : Env → Store → Res) : Env → Store → Out := fun env st => (f env st).bindO env fun d st => (fo env st).bindO env fun x st => (fi env st).bindO env fun y st => match setIxop x y d st with
  | some st => .nx env st
  | none => .bad
theorem setIx_run {ρ : List Addr} {H : Hp} {st st' : Store} {x y v : V} {dx dy d : D} {Q : Hp → Prop} (R : Rel G ρ H st) (hx : RV G.K ρ H x dx) (hy : RV G.K ρ H y dy) (hv : RV G.K ρ H v d) (e : setIxop dx dy d st = some st') (q : ∀ ρ' H', Nx ρ H ρ' H' → Rel G ρ' H' st' → Q H') : rSetL x y v H Q := by
  unfold setIxop at e
  split at e
  · rename_i n kk
    split at e
    · rename_i xs hxs
      split at e
      · rename_i j hj
        cases e
        obtain ⟨a, rfl, ha⟩ := rv_ref.mp hx
        have := rv_int.mp hy
        subst this
        obtain ⟨vs, h1, r1⟩ := R.lstAt ha hxs
        have n1 : Nx ρ H ρ (upd H a (.lst (vs.set j v))) := nx_put R ha
        exact ⟨a, vs, kk, j, rfl, rfl, h1, by rw [r1.length]; exact hj, q ρ _ n1 (R.put ha ⟨_, upd_same, RVs.mono n1 _ (RVs.set j hv r1)⟩)⟩
      · cases e
    · cases e
  · cases e
theorem okE_asg {o i : Expr} {p : Pos} {env : PySem.Env} (h : okE i = true) : ∀ v, assign (.Subscript o i p) env v = (do
      let ov ← holding [v] (eval o env)
      let iv ← holding [v, ov] (eval i env)
      standAt p
      holding [v, ov, iv] (setItem ov iv v)
      release [v, ov, iv] []) := by
  intro v
  cases i <;> first | rfl | cases h
theorem t_setIx (g : GoodS G X N sc W k) {o i e : Expr} {fo fi f : Env → Store → Res} {p p' : Pos} (oki : okE i = true) (ho : PE X o (tE G W fo)) (hi : PE X i (tE G W fi)) (he : PE X e (tE G W f)) (nc : notComp e = true) : PS X (.Assign [.Subscript o i p'] e p) (tS G W (setIxF fo fi f)) :=
  (ps_asg he (pg_sub ho hi set_list (okE_asg oki)) (notComp_sole nc)).weak fun Dn σ H ⟨ρ, env, st, R, E, q⟩ => ⟨ρ, env, st, R, E, (POut.bindO E q).imp fun v H1 ⟨d, st1, ρ1, m1, q1⟩ =>
    ⟨ρ1, env, st1, m1.rel, E.mono m1.nx, (POut.bindO (E.mono m1.nx) q1).imp fun x H2 ⟨dx, st2, ρ2, m2, q2⟩ => ⟨ρ2, env, st2, m2.rel, E.mono (m1.nx.trans m2.nx), (POut.bindO (E.mono (m1.nx.trans m2.nx)) q2).imp fun y H3 ⟨dy, st3, ρ3, m3, q3⟩ => by
      cases hz : setIxop dx dy d st3 with
      | none => rw [hz] at q3; exact q3.elim
      | some st4 =>
        rw [hz] at q3
        exact setIx_run m3.rel (RV.mono m3.nx _ m2.rv) m3.rv (RV.mono (m2.nx.trans m3.nx) _ m1.rv) hz fun ρ4 H4 n4 R4 => q3 σ ρ4 H4 n4 R4 (E.mono (m1.nx.trans (m2.nx.trans (m3.nx.trans n4))))⟩⟩⟩

/-! ### loops -/
def bodyF (tg : Tg) (f : Env → Store → Out) : D → Env → Store → Out := fun x env st => match tgSet tg x env with
  | some env => f env st
  | none => .bad
noncomputable def forF (tg : Tg) (fi : Env → Store → ItR) (f : Env → Store → Out) : Env → Store → Out := fun env st => match fi env st with
  | .ok xs gd st => forL (bodyF tg f) gd xs env st
  | .exc c st => .exc c env st
  | .bad => .bad
theorem t_for (g : GoodS G X N sc W k) {tg : Tg} {tg' it : Expr} {b : List Stmt} {fi : Env → Store → ItR} {f : Env → Store → Out} {p : Pos} (ht : mtT N sc tg tg' = true) (hi : PI X tg' it (tI G W fi)) (hb : PSs X b (tS G W f)) (oki : okE it = true) :
    PS X (.For tg' it b [] p) (tS G W (forF tg fi f)) := by
  refine (ps_for (hs := fun x => okE_fold oki) g.po g.calm hi (s_tg (G := G) (tg := tg) g.K g.toN ht) hb).weak fun Dn σ H ⟨ρ, env, st, R, E, q⟩ => ⟨ρ, env, st, R, E, ?_⟩
  unfold forF at q
  cases hf : fi env st with
  | exc c st1 => simp only [hf] at q; exact fun ρ' H' n R' => q σ ρ' H' n R' (E.mono n)
  | bad => simp only [hf] at q; exact q.elim
  | ok items gd st1 =>
    simp only [hf] at q
    intro ρ1 H1 J n1 R1 T
    refine ⟨fun i m σ' H' => ∃ ρ' env' st', Nx ρ1 H1 ρ' H' ∧ Rel G ρ' H' st' ∧ REnv G.K ρ' H' σ' env' ∧ i ≤ items.length ∧ m = items.length - i ∧ POut G W Dn ρ' H' (forL (bodyF tg f) gd (items.drop i) env' st'),
      ⟨items.length, ρ1, env, st1, .refl, R1, E.mono n1, Nat.zero_le _, by omega, by rw [List.drop_zero]; exact POut.at_ n1 q⟩, ?_⟩
    rintro i m σ' H' ⟨ρ', env', st', n3, R3, E3, hle, rfl, q3⟩
    by_cases hlt : i < items.length
    · rw [List.drop_eq_getElem_cons hlt] at q3
      unfold forL at q3
      split at q3
      · rename_i gok
        refine .inr ⟨T.go i ρ' H' st' n3 R3 gok hlt, fun σ'' H'' => ∃ ρ'' env'' st'', Nx ρ1 H1 ρ'' H'' ∧ Rel G ρ'' H'' st'' ∧ REnv G.K ρ'' H'' σ'' env'' ∧ POut G W Dn ρ'' H'' (forL (bodyF tg f) gd (items.drop (i + 1)) env'' st''),
          fun σ'' H'' ⟨ρ'', env'', st'', a, b, e, c⟩ => ⟨items.length - (i + 1), by omega, ρ'', env'', st'', a, b, e, hlt, rfl, c⟩, fun x H4 hy => ?_⟩
        obtain ⟨ρ4, n4, R4, r4⟩ := T.yld i ρ' H' st' x H4 items[i] n3 R3 gok (by simp [hlt]) hy
        have q4 := POut.at_ n4 q3
        unfold bodyF at q4
        cases ht2 : tgSet tg items[i] env' with
        | none => simp only [ht2] at q4; exact q4.elim
        | some env2 =>
          simp only [ht2] at q4
          refine ⟨ρ4, env', items[i], env2, r4, E3.mono n4, ht2, fun σ5 E5 b5 => ⟨ρ4, env2, st', R4, E5, ?_⟩⟩
          cases hb2 : f env2 st' with
          | nx e s => simp only [hb2] at q4; exact fun σ6 ρ6 H6 n6 R6 E6 => ⟨ρ6, e, s, n3.trans (n4.trans n6), R6, E6, POut.at_ n6 q4⟩
          | ct e s => simp only [hb2] at q4; exact fun σ6 ρ6 H6 n6 R6 E6 => ⟨ρ6, e, s, n3.trans (n4.trans n6), R6, E6, POut.at_ n6 q4⟩
          | bk e s => simp only [hb2] at q4; exact q4
          | rt d s => simp only [hb2] at q4; exact q4
          | exc c e s => simp only [hb2] at q4; exact q4
          | bad => simp only [hb2] at q4; exact q4
      · exact q3.elim
    · have e : i = items.length := by omega
      subst e
      rw [List.drop_length] at q3
      unfold forL at q3
      split at q3
      · rename_i gok
        exact .inl ⟨T.stop _ ρ' H' st' n3 R3 gok (Nat.le_refl _), q3 σ' ρ' H' .refl R3 E3⟩
      · exact q3.elim
def condF (fc : Env → Store → Res) : Env → Store → Res := fun env st => match fc env st with
  | .ok d st => (match truth st d with
    | some t => .ok (.bl t) st
    | none => .bad)
  | r => r
theorem t_whl (g : GoodS G X N sc W k) {c : Expr} {b : List Stmt} {fc : Env → Store → Res} {f : Env → Store → Out} {wf : Nat} {p : Pos} (hc : PT X c (tT G W fc)) (hb : PSs X b (tS G W f)) :
    PS X (.While c b [] p) (tS G W fun env st => whlL (condF fc) f wf env st) := by
  refine (ps_while g.po hc hb).weak fun Dn σ H ⟨ρ, env, st, R, E, q⟩ => ?_
  refine ⟨fun m σ' H' => ∃ ρ' env' st', Rel G ρ' H' st' ∧ REnv G.K ρ' H' σ' env' ∧ POut G W Dn ρ' H' (whlL (condF fc) f m env' st'), ⟨wf, ρ, env, st, R, E, q⟩, ?_⟩
  rintro m σ' H' ⟨ρ', env', st', R', E', q'⟩
  cases m with
  | zero => exact q'.elim
  | succ m =>
    unfold whlL at q'
    refine ⟨ρ', env', st', R', E', ?_⟩
    unfold condF at q'
    cases hf : fc env' st' with
    | ok d st1 =>
      simp only [hf] at q'
      cases ht : truth st1 d with
      | none => simp only [ht] at q'; exact q'.elim
      | some z =>
        simp only [ht] at q'
        refine ⟨z, ht, fun ρ1 H1 n1 R1 => ?_⟩
        cases z with
        | false => exact (POut.at_ n1 q') σ' ρ1 H1 .refl R1 (E'.mono n1)
        | true =>
          simp only at q'
          refine ⟨fun σ'' H'' => ∃ ρ'' env'' st'', Rel G ρ'' H'' st'' ∧ REnv G.K ρ'' H'' σ'' env'' ∧ POut G W Dn ρ'' H'' (whlL (condF fc) f m env'' st''), fun σ'' H'' w => ⟨m, Nat.lt_succ_self m, w⟩, ρ1, env', st1, R1, E'.mono n1, ?_⟩
          have q2 := POut.at_ n1 q'
          cases hb2 : f env' st1 with
          | nx e s => simp only [hb2] at q2; exact fun σ6 ρ6 H6 n6 R6 E6 => ⟨ρ6, e, s, R6, E6, POut.at_ n6 q2⟩
          | ct e s => simp only [hb2] at q2; exact fun σ6 ρ6 H6 n6 R6 E6 => ⟨ρ6, e, s, R6, E6, POut.at_ n6 q2⟩
          | bk e s => simp only [hb2] at q2; exact q2
          | rt d s => simp only [hb2] at q2; exact q2
          | exc c e s => simp only [hb2] at q2; exact q2
          | bad => simp only [hb2] at q2; exact q2
    | exc c st1 => simp only [hf] at q'; exact fun ρ1 H1 n R1 => q' σ' ρ1 H1 n R1 (E'.mono n)
    | bad => simp only [hf] at q'; exact q'
end
end Mi

set_option linter.all false
set_option maxRecDepth 100000
set_option maxHeartbeats 1000000
/-! All statements. -/
namespace Mi
open PySem L2 PyProof.Rows

def asExprS : Stmt → Option Expr
  | .Expr e _ => some e
  | _ => none
def asAsg : Stmt → Option (Expr × Expr)
  | .Assign [t] e _ => some (t, e)
  | _ => none
def asAugS : Stmt → Option (Expr × Operator × Expr)
  | .AugAssign t o e _ => some (t, o, e)
  | _ => none
def asRet : Stmt → Option (Option Expr)
  | .Return e _ => some e
  | _ => none
def asIfS : Stmt → Option (Expr × List Stmt × List Stmt)
  | .If c a b _ => some (c, a, b)
  | _ => none
def asForS : Stmt → Option (Expr × Expr × List Stmt)
  | .For t i b [] _ => some (t, i, b)
  | _ => none
def asWhlS : Stmt → Option (Expr × List Stmt)
  | .While c b [] _ => some (c, b)
  | _ => none
theorem asExprS_eq {s : Stmt} {e : Expr} (h : asExprS s = some e) : ∃ p, s = .Expr e p := by
  cases s <;> simp [asExprS] at h; subst h; exact ⟨_, rfl⟩
theorem asAsg_eq {s : Stmt} {t e : Expr} (h : asAsg s = some (t, e)) : ∃ p, s = .Assign [t] e p := by
  unfold asAsg at h
  split at h
  · cases h; exact ⟨_, rfl⟩
  · cases h
theorem asAugS_eq {s : Stmt} {t e : Expr} {o : Operator} (h : asAugS s = some (t, o, e)) : ∃ p, s = .AugAssign t o e p := by
  cases s <;> simp [asAugS] at h; obtain ⟨rfl, rfl, rfl⟩ := h; exact ⟨_, rfl⟩
theorem asRet_eq {s : Stmt} {e : Option Expr} (h : asRet s = some e) : ∃ p, s = .Return e p := by
  cases s <;> simp [asRet] at h; subst h; exact ⟨_, rfl⟩
theorem asIfS_eq {s : Stmt} {c : Expr} {a b : List Stmt} (h : asIfS s = some (c, a, b)) : ∃ p, s = .If c a b p := by
  cases s <;> simp [asIfS] at h; obtain ⟨rfl, rfl, rfl⟩ := h; exact ⟨_, rfl⟩
theorem asForS_eq {s : Stmt} {t i : Expr} {b : List Stmt} (h : asForS s = some (t, i, b)) : ∃ p, s = .For t i b [] p := by
  unfold asForS at h
  split at h
  · cases h; exact ⟨_, rfl⟩
  · cases h
theorem asWhlS_eq {s : Stmt} {c : Expr} {b : List Stmt} (h : asWhlS s = some (c, b)) : ∃ p, s = .While c b [] p := by
  unfold asWhlS at h
  split at h
  · cases h; exact ⟨_, rfl⟩
  · cases h
def isPass : Stmt → Bool
  | .Pass _ => true
  | _ => false
def isBrk : Stmt → Bool
  | .Break _ => true
  | _ => false
def isCnt : Stmt → Bool
  | .Continue _ => true
  | _ => false

def swB (sc : Scope) (t e : Expr) : Bool := match t, e with
  | .Name x p, .ListComp _ _ s vp => (sc.names.lookup x == some .local) && p.line == vp.line && !(s.names.any fun (n, k) => n == x && (k == .local || k == .cell))
  | _, _ => false
theorem swaps_lc {sc : Scope} {env : PySem.Env} {el : Expr} {gs : List Comprehension} {s : Scope} {vp p : Pos} {x : Str} {l : Nat} (h1 : env.scope = sc) (h2 : sc.kind = .function) :
    swapsWith (.ListComp el gs s vp) (some (.Name x p)) l env = pure (swB sc (.Name x p) (.ListComp el gs s vp)) := by
  have hb : env.blockKind = .function := by
    unfold PySem.Env.blockKind
    rw [h1, h2]; rfl
  have hk : env.kindOf x = sc.names.lookup x := by
    unfold PySem.Env.kindOf
    rw [h1]
  show (pure (env.blockKind == .function && env.kindOf x == some .local && p.line == vp.line && !(s.names.any fun (n, k) => n == x && (k == .local || k == .cell))) : Sem Bool) = _
  rw [hb, hk]
  rfl
def isLc : E → Bool
  | .lc .. => true
  | _ => false
/-- a local, not a cell -/
def lclS (sc : Scope) (x : Str) : Bool := decide (sc.names.lookup x = some .local)

section
variable (fs : List Str) (N : List Str) (sc : Scope)
mutual
def mtS : S → Stmt → Bool
  | .expr m, s => match asExprS s with
    | some e => notComp e && mtE fs N sc m e
    | none => false
  | .set i m, s => match asAsg s with
    | some (t, e) => nameAt N sc i t && mtE fs N sc m e && (notComp e || isLc m)
    | none => false
  | .unp is m, s => match asAsg s with
    | some (t, e) => mtT N sc (.tup is) t && notTup e && notComp e && mtE fs N sc m e
    | none => false
  | .setIx o i m, s => match asAsg s with
    | some (t, e) => (match asSub t with
      | some (o', i') => okE i' && notComp e && (mtE fs N sc o o' && (mtE fs N sc i i' && mtE fs N sc m e))
      | none => false)
    | none => false
  | .setAt _ _ _, _ => false
  | .aug i op m, s => match asAugS s with
    | some (t, o, e) => nameAt N sc i t && opIs op o && (decide (op = .add) || decide (op = .sub)) && mtE fs N sc m e
    | none => false
  | .augIx _ _ _ _, _ => false
  | .ret m, s => match asRet s with
    | some (some e) => mtE fs N sc m e
    | _ => false
  | .ret0, s => match asRet s with
    | some none => true
    | _ => false
  | .iff c a b, s => match asIfS s with
    | some (c', a', b') => mtE fs N sc c c' && (mtSs a a' && mtSs b b')
    | none => false
  | .for tg it b, s => match asForS s with
    | some (t, i, b') => mtT N sc tg t && okE i && mtI fs N sc it i && mtSs b b'
    | none => false
  | .whl c b, s => match asWhlS s with
    | some (c', b') => mtE fs N sc c c' && mtSs b b'
    | none => false
  | .raise _, _ => false
  | .tryE _ _ _, _ => false
  | .pass, s => isPass s
  | .brk, s => isBrk s
  | .cnt, s => isCnt s
def mtSs : Ss → List Stmt → Bool
  | .nil, [] => true
  | .cons m ms, s :: ss => mtS m s && mtSs ms ss
  | _, _ => false
end
end

section
variable {G : Glob} {X : Cx} {N : List Str} {sc : Scope} {W : WX} {k : Nat}
noncomputable def augF (i : Nat) (op : BOp) (f : Env → Store → Res) : Env → Store → Out := fun env st => match env[i]? with
    | some (some x) => (f env st).bindO env fun y st => match op with
      | .add => (match binop .add x y st with
        | .ok (.int z) st => .nx (env.set i (some (.int z))) st
        | _ => .bad)
      | .sub => (match binop .sub x y st with
        | .ok (.int z) st => .nx (env.set i (some (.int z))) st
        | _ => .bad)
      | _ => .bad
    | _ => .bad
theorem add_int_inv {x y : D} {st st' : Store} {z : Int} (h : binop .add x y st = .ok (.int z) st') : ∃ i j, x = .int i ∧ y = .int j ∧ z = i + j ∧ st' = st := by
  cases x <;> cases y <;> simp only [binop] at h <;> first | (cases h; exact ⟨_, _, rfl, rfl, rfl, rfl⟩) | (cases h; done) | (repeat' split at h) <;> cases h
theorem sub_int_inv {x y : D} {st st' : Store} {z : Int} (h : binop .sub x y st = .ok (.int z) st') : ∃ i j, x = .int i ∧ y = .int j ∧ z = i - j ∧ st' = st := by
  cases x <;> cases y <;> simp only [binop] at h <;> first | (cases h; exact ⟨_, _, rfl, rfl, rfl, rfl⟩) | (cases h; done)
theorem t_aug (g : GoodS G X N sc W k) {i : Nat} {x : Str} {op : BOp} {o : Operator} {e : Expr} {f : Env → Store → Res} {p p' : Pos} (h1 : N[i]? = some x) (h2 : locS sc x = true) (ho : opIs op o = true) (h3 : op = .add ∨ op = .sub) (he : PE X e (tE G W f)) :
    PS X (.AugAssign (.Name x p') o e p) (tS G W (augF i op f)) := by
  have run : ∀ {Dn : Ends} {σ : L2.St} {H : Hp}, tS G W (augF i op f) Dn σ H → ∃ v, σ[i]? = some (some v) ∧ tE G W f σ H (fun y H1 => ∃ a b z, v = .int a ∧ y = .int b ∧ ((op = .add ∧ z = a + b) ∨ (op = .sub ∧ z = a - b)) ∧ Dn.nx (σ.set i (some (.int z))) H1) := by
    rintro Dn σ H ⟨ρ, env, st, R, E, q⟩
    unfold augF at q
    split at q
    · rename_i d hd
      obtain ⟨v, hv, rv⟩ := E.2 i d hd
      refine ⟨v, hv, ρ, env, st, R, E, (POut.bindO E q).imp fun y H1 ⟨c, st1, ρ1, m, q1⟩ => ?_⟩
      rcases h3 with rfl | rfl
      · simp only at q1
        split at q1
        · rename_i z st2 hb
          obtain ⟨a, b, rfl, rfl, rfl, rfl⟩ := add_int_inv hb
          exact ⟨a, b, _, rv_int.mp rv, rv_int.mp m.rv, .inl ⟨rfl, rfl⟩, q1 _ ρ1 H1 .refl m.rel ((E.mono m.nx).set i (rv_int.mpr rfl))⟩
        · exact q1.elim
      · simp only at q1
        split at q1
        · rename_i z st2 hb
          obtain ⟨a, b, rfl, rfl, rfl, rfl⟩ := sub_int_inv hb
          exact ⟨a, b, _, rv_int.mp rv, rv_int.mp m.rv, .inr ⟨rfl, rfl⟩, q1 _ ρ1 H1 .refl m.rel ((E.mono m.nx).set i (rv_int.mpr rfl))⟩
        · exact q1.elim
    · exact q.elim
  have hl := g.loc x h2
  rcases h3 with rfl | rfl
  · obtain rfl : o = .Add := by cases o <;> first | rfl | exact absurd ho (by decide)
    refine (ps_aug (i := i) (by rw [g.ns]; exact g.nd) (by rw [g.ns]; exact h1) hl.1 he ip_add hl.2).weak fun Dn σ H q => ?_
    obtain ⟨v, hv, ρ, env, st, R, E, q⟩ := run q
    refine ⟨v, hv, ρ, env, st, R, E, q.imp fun y H1 ⟨a, b, z, e1, e2, e3, e4⟩ => ⟨a, b, e1, e2, ?_⟩⟩
    rcases e3 with ⟨_, rfl⟩ | ⟨z, _⟩
    · exact e4
    · cases z
  · obtain rfl : o = .Sub := by cases o <;> first | rfl | exact absurd ho (by decide)
    refine (ps_aug (i := i) (by rw [g.ns]; exact g.nd) (by rw [g.ns]; exact h1) hl.1 he ip_sub hl.2).weak fun Dn σ H q => ?_
    obtain ⟨v, hv, ρ, env, st, R, E, q⟩ := run q
    refine ⟨v, hv, ρ, env, st, R, E, q.imp fun y H1 ⟨a, b, z, e1, e2, e3, e4⟩ => ⟨a, b, e1, e2, ?_⟩⟩
    rcases e3 with ⟨z, _⟩ | ⟨_, rfl⟩
    · cases z
    · exact e4
end

section
variable {G : Glob} {fs : List Str} {C : Oracle} {cs : Str → Option D} {sub : Str → Str → Bool} {wf : Nat} {k : Nat} (hC : CallsOk G fs C k) (hp : Plain G) (hcs : ConstsOk G cs)
include hC hp hcs
mutual
theorem seS : ∀ (m : S) {X : Cx} {N : List Str} {sc : Scope} {W : WX}, GoodS G X N sc W k → ∀ {s : Stmt}, mtS fs N sc m s = true → PS X s (tS G W (evS C cs sub wf m))
  | .expr m, X, N, sc, W, g, s, h => by
    simp only [mtS] at h
    split at h
    · rename_i e q
      rw [Bool.and_eq_true] at h
      obtain ⟨_, rfl⟩ := asExprS_eq q
      exact t_expr g (seE hC hp hcs m g.toGoodX h.2).pe h.1
    · cases h
  | .set i m, X, N, sc, W, g, s, h => by
    simp only [mtS] at h
    split at h
    · rename_i t e q
      simp only [Bool.and_eq_true, Bool.or_eq_true] at h
      obtain ⟨⟨h1, h2⟩, h3⟩ := h
      obtain ⟨_, rfl⟩ := asAsg_eq q
      obtain ⟨x, p', rfl, h4, h5⟩ := nameAt_inv h1
      have he := (seE hC hp hcs m g.toGoodX h2).pe
      by_cases nc : notComp e = true
      · exact t_set g h4 h5 he (notComp_eq nc)
      · have h3 := h3.resolve_left nc
        cases m with
        | lc own tg it cc elt =>
          simp only [mtE] at h2
          split at h2
          · rename_i el tg' it' ifs sc' q2
            simp only [Bool.and_eq_true, decide_eq_true_eq] at h2
            obtain ⟨⟨⟨⟨b1, b2⟩, b3⟩, b4⟩, b5, b6, b7⟩ := h2
            obtain ⟨vp, rfl⟩ := asLC_eq q2
            by_cases sw : swB sc (.Name x p') (.ListComp el [⟨tg', it', ifs, 0⟩] sc' vp) = true
            · have hl : sc.names.lookup x = some .local := by
                simp only [swB, Bool.and_eq_true, beq_iff_eq] at sw
                exact sw.1.1
              have hsw := swaps_lc (el := el) (gs := [⟨tg', it', ifs, 0⟩]) (s := sc') (vp := vp) (p := p') (x := x) (l := 0) g.scq g.kind
              refine t_setLc g h4 hl ?_ b1 b2 b4 (seI hC hp hcs it g.toGoodX b5 _) (fun s H Cc cl fp => (seEs hC hp hcs cc (good_blk g.toGoodX (blk_of g.toGoodX b1) s H Cc cl fp) b6).ifs b3) (fun s H Cc cl fp => (seE hC hp hcs elt (good_blk g.toGoodX (blk_of g.toGoodX b1) s H Cc cl fp) b7).pe)
              rw [swaps_lc g.scq g.kind, sw]
            · refine t_set g h4 h5 he ?_
              rw [swaps_lc g.scq g.kind, Bool.eq_false_iff.mpr sw]
          · cases h2
        | _ => cases h3
    · cases h
  | .unp is m, X, N, sc, W, g, s, h => by
    simp only [mtS] at h
    split at h
    · rename_i t e q
      simp only [Bool.and_eq_true] at h
      obtain ⟨_, rfl⟩ := asAsg_eq q
      exact t_unp g h.1.1.1 h.1.1.2 h.1.2 (seE hC hp hcs m g.toGoodX h.2).pe
    · cases h
  | .setIx o i m, X, N, sc, W, g, s, h => by
    simp only [mtS] at h
    split at h
    · rename_i t e q
      split at h
      · rename_i o' i' q2
        simp only [Bool.and_eq_true] at h
        obtain ⟨_, rfl⟩ := asAsg_eq q
        obtain ⟨_, rfl⟩ := asSub_eq q2
        exact t_setIx g h.1.1 (seE hC hp hcs o g.toGoodX h.2.1).pe (seE hC hp hcs i g.toGoodX h.2.2.1).pe (seE hC hp hcs m g.toGoodX h.2.2.2).pe h.1.2
      · cases h
    · cases h
  | .setAt _ _ _, X, N, sc, W, g, s, h => by simp only [mtS] at h; cases h
  | .aug i op m, X, N, sc, W, g, s, h => by
    simp only [mtS] at h
    split at h
    · rename_i t o e q
      simp only [Bool.and_eq_true, Bool.or_eq_true, decide_eq_true_eq] at h
      obtain ⟨⟨⟨h1, h2⟩, h3⟩, h4⟩ := h
      obtain ⟨_, rfl⟩ := asAugS_eq q
      obtain ⟨x, p', rfl, h5, h6⟩ := nameAt_inv h1
      exact t_aug g h5 h6 h2 h3 (seE hC hp hcs m g.toGoodX h4).pe
    · cases h
  | .augIx _ _ _ _, X, N, sc, W, g, s, h => by simp only [mtS] at h; cases h
  | .ret m, X, N, sc, W, g, s, h => by
    simp only [mtS] at h
    split at h
    · rename_i e q
      obtain ⟨_, rfl⟩ := asRet_eq q
      exact t_ret g (seE hC hp hcs m g.toGoodX h).pe
    · cases h
  | .ret0, X, N, sc, W, g, s, h => by
    simp only [mtS] at h
    split at h
    · rename_i q
      obtain ⟨_, rfl⟩ := asRet_eq q
      exact t_ret0
    · cases h
  | .iff c a b, X, N, sc, W, g, s, h => by
    simp only [mtS] at h
    split at h
    · rename_i c' a' b' q
      simp only [Bool.and_eq_true] at h
      obtain ⟨_, rfl⟩ := asIfS_eq q
      exact t_if (seE hC hp hcs c g.toGoodX h.1).pt (seSs a g h.2.1) (seSs b g h.2.2)
    · cases h
  | .for tg it b, X, N, sc, W, g, s, h => by
    simp only [mtS] at h
    split at h
    · rename_i t i b' q
      simp only [Bool.and_eq_true] at h
      obtain ⟨_, rfl⟩ := asForS_eq q
      exact t_for g h.1.1.1 (seI hC hp hcs it g.toGoodX h.1.2 _) (seSs b g h.2) h.1.1.2
    · cases h
  | .whl c b, X, N, sc, W, g, s, h => by
    simp only [mtS] at h
    split at h
    · rename_i c' b' q
      simp only [Bool.and_eq_true] at h
      obtain ⟨_, rfl⟩ := asWhlS_eq q
      exact t_whl g (seE hC hp hcs c g.toGoodX h.1).pt (seSs b g h.2)
    · cases h
  | .raise _, X, N, sc, W, g, s, h => by simp only [mtS] at h; cases h
  | .tryE _ _ _, X, N, sc, W, g, s, h => by simp only [mtS] at h; cases h
  | .pass, X, N, sc, W, g, s, h => by
    simp only [mtS] at h
    cases s <;> first | exact t_pass | cases h
  | .brk, X, N, sc, W, g, s, h => by
    simp only [mtS] at h
    cases s <;> first | exact t_brk | cases h
  | .cnt, X, N, sc, W, g, s, h => by
    simp only [mtS] at h
    cases s <;> first | exact t_cnt | cases h
theorem seSs : ∀ (m : Ss) {X : Cx} {N : List Str} {sc : Scope} {W : WX}, GoodS G X N sc W k → ∀ {s : List Stmt}, mtSs fs N sc m s = true → PSs X s (tS G W (evSs C cs sub wf m))
  | .nil, X, N, sc, W, g, s, h => by
    cases s with
    | nil => exact t_nil
    | cons _ _ => simp only [mtSs] at h; cases h
  | .cons m ms, X, N, sc, W, g, s, h => by
    cases s with
    | nil => simp only [mtSs] at h; cases h
    | cons s ss =>
      simp only [mtSs, Bool.and_eq_true] at h
      exact t_cons (seS m g h.1) (seSs ms g h.2)
end
end
end Mi

set_option linter.all false
set_option maxRecDepth 100000
set_option maxHeartbeats 1000000
/-! Defs: what a call means. -/
namespace Mi
open PySem L2 PyProof.Rows

section
variable {K : PySem.W.Frag} {ρ l : List Addr} {H : Hp}
mutual
theorem RV.closed : ∀ (d : D) {v : V}, RV K ρ H v d → closedD ρ.length d = true
  | .non, _, _ => rfl
  | .bl _, _, _ => rfl
  | .int _, _, _ => rfl
  | .str _, _, _ => rfl
  | .tup ds, _, h => by unfold RV at h; obtain ⟨a, vs, _, _, r⟩ := h; exact RVs.closed ds r
  | .fl ds, _, h => by unfold RV at h; obtain ⟨a, vs, _, _, r⟩ := h; exact RVs.closed ds r
  | .ref n, _, h => by
    unfold RV at h
    obtain ⟨a, _, h⟩ := h
    obtain ⟨hi, _⟩ := List.getElem?_eq_some_iff.mp h
    exact decide_eq_true hi
theorem RVs.closed : ∀ (ds : List D) {vs : List V}, RVs K ρ H vs ds → closedDs ρ.length ds = true
  | [], _, _ => rfl
  | d :: ds, _, h => by
    unfold RVs at h
    obtain ⟨v, r, _, h1, h2⟩ := h
    unfold closedDs
    rw [RV.closed d h1, RVs.closed ds h2]; rfl
end
mutual
theorem RV.shrink : ∀ (d : D) {v : V}, closedD ρ.length d = true → RV K (ρ ++ l) H v d → RV K ρ H v d
  | .non, _, _, h => by unfold RV at h ⊢; exact h
  | .bl _, _, _, h => by unfold RV at h ⊢; exact h
  | .int _, _, _, h => by unfold RV at h ⊢; exact h
  | .str _, _, _, h => by unfold RV at h ⊢; exact h
  | .tup ds, _, c, h => by unfold RV at h ⊢; obtain ⟨a, vs, e, s, r⟩ := h; exact ⟨a, vs, e, s, RVs.shrink ds c r⟩
  | .fl ds, _, c, h => by unfold RV at h ⊢; obtain ⟨a, vs, e, s, r⟩ := h; exact ⟨a, vs, e, s, RVs.shrink ds c r⟩
  | .ref n, _, c, h => by
    unfold RV at h ⊢
    obtain ⟨a, e, h⟩ := h
    have c : n < ρ.length := of_decide_eq_true c
    rw [List.getElem?_append_left c] at h
    exact ⟨a, e, h⟩
theorem RVs.shrink : ∀ (ds : List D) {vs : List V}, closedDs ρ.length ds = true → RVs K (ρ ++ l) H vs ds → RVs K ρ H vs ds
  | [], _, _, h => by unfold RVs at h ⊢; exact h
  | d :: ds, _, c, h => by
    unfold RVs at h ⊢
    unfold closedDs at c
    rw [Bool.and_eq_true] at c
    obtain ⟨v, r, e, h1, h2⟩ := h
    exact ⟨v, r, e, RV.shrink d c.1 h1, RVs.shrink ds c.2 h2⟩
end
theorem RFs.closed : ∀ (ds : List (Str × D)) {vs : List (Str × V)}, RFs K ρ H vs ds → ds.all (fun p => closedD ρ.length p.2) = true
  | [], _, _ => rfl
  | (f, d) :: ds, _, h => by
    obtain ⟨v, r, _, h1, h2⟩ := h
    rw [List.all_cons, RV.closed d h1, RFs.closed ds h2]; rfl
theorem RKs.closed : ∀ (ds : List (D × D)) {vs : List (Key × V)}, RKs K ρ H vs ds → ds.all (fun p => closedD ρ.length p.2) = true
  | [], _, _ => rfl
  | (f, d) :: ds, _, h => by
    obtain ⟨z, v, r, _, _, h1, h2⟩ := h
    rw [List.all_cons, RV.closed d h1, RKs.closed ds h2]; rfl
theorem RTs.closed : ∀ (ds : List (D × D)) {vs : List (List Key × V)}, RTs K ρ H vs ds → ds.all (fun p => closedD ρ.length p.2) = true
  | [], _, _ => rfl
  | (f, d) :: ds, _, h => by
    obtain ⟨z, v, r, _, _, h1, h2⟩ := h
    rw [List.all_cons, RV.closed d h1, RTs.closed ds h2]; rfl
theorem RFs.shrink : ∀ (ds : List (Str × D)) {vs : List (Str × V)}, ds.all (fun p => closedD ρ.length p.2) = true → RFs K (ρ ++ l) H vs ds → RFs K ρ H vs ds
  | [], _, _, h => h
  | (f, d) :: ds, _, c, h => by
    rw [List.all_cons, Bool.and_eq_true] at c
    obtain ⟨v, r, e, h1, h2⟩ := h
    exact ⟨v, r, e, RV.shrink d c.1 h1, RFs.shrink ds c.2 h2⟩
theorem RKs.shrink : ∀ (ds : List (D × D)) {vs : List (Key × V)}, ds.all (fun p => closedD ρ.length p.2) = true → RKs K (ρ ++ l) H vs ds → RKs K ρ H vs ds
  | [], _, _, h => h
  | (f, d) :: ds, _, c, h => by
    rw [List.all_cons, Bool.and_eq_true] at c
    obtain ⟨z, v, r, e, e2, h1, h2⟩ := h
    exact ⟨z, v, r, e, e2, RV.shrink d c.1 h1, RKs.shrink ds c.2 h2⟩
theorem RTs.shrink : ∀ (ds : List (D × D)) {vs : List (List Key × V)}, ds.all (fun p => closedD ρ.length p.2) = true → RTs K (ρ ++ l) H vs ds → RTs K ρ H vs ds
  | [], _, _, h => h
  | (f, d) :: ds, _, c, h => by
    rw [List.all_cons, Bool.and_eq_true] at c
    obtain ⟨z, v, r, e, e2, h1, h2⟩ := h
    exact ⟨z, v, r, e, e2, RV.shrink d c.1 h1, RTs.shrink ds c.2 h2⟩
theorem RO.closed {G : Glob} {a : Addr} : ∀ {mo : MO}, RO G ρ H a mo → closedMO ρ.length mo = true
  | .lst ds, ⟨vs, h, r⟩ => RVs.closed ds r
  | .dic false kvs, ⟨vs, h, r⟩ => RKs.closed kvs r
  | .dic true kvs, ⟨vs, h, r⟩ => RTs.closed kvs r
  | .ins C fs, ⟨dx, vs, h, r⟩ => RFs.closed fs r
  | .sett ds, h => h.elim
theorem RO.shrink {G : Glob} {a : Addr} : ∀ {mo : MO}, closedMO ρ.length mo = true → RO G (ρ ++ l) H a mo → RO G ρ H a mo
  | .lst ds, c, ⟨vs, h, r⟩ => ⟨vs, h, RVs.shrink ds c r⟩
  | .dic false kvs, c, ⟨vs, h, r⟩ => ⟨vs, h, RKs.shrink kvs c r⟩
  | .dic true kvs, c, ⟨vs, h, r⟩ => ⟨vs, h, RTs.shrink kvs c r⟩
  | .ins C fs, c, ⟨dx, vs, h, r⟩ => ⟨dx, vs, h, RFs.shrink fs c r⟩
  | .sett ds, c, h => h.elim
end

theorem gc_rel {G : Glob} {ρ ρ' : List Addr} {H H' : Hp} {st st' : Store} (R : Rel G ρ H st) (n : Nx ρ H ρ' H') (R' : Rel G ρ' H' st') (h : gcOk st st') : Rel G ρ H' (st'.take st.length) ∧ Nx ρ H ρ H' := by
  obtain ⟨l, rfl⟩ := n.pre
  refine ⟨⟨?_, R.nd, fun i mo a e1 e2 => ?_⟩, ⟨⟨[], by simp⟩, n.tup, n.frz⟩⟩
  · rw [List.length_take, R.len]
    have := h.1
    omega
  · obtain ⟨hi, _⟩ := List.getElem?_eq_some_iff.mp e2
    have hi' : i < st.length := by rw [← R.len]; exact hi
    rw [List.getElem?_take_of_lt hi'] at e1
    have ro := R'.obj i mo a e1 (by rw [List.getElem?_append_left hi]; exact e2)
    refine RO.shrink ?_ ro
    rcases h.2 i hi' with e | ⟨mo', e, c⟩
    · rw [e1] at e
      exact (R.obj i mo a e.symm e2).closed
    · rw [e1] at e
      cases e
      rw [R.len]; exact c
theorem gc_val {G : Glob} {ρ ρ' : List Addr} {H H' : Hp} {st : Store} {v : V} {d : D} (R : Rel G ρ H st) (n : Nx ρ H ρ' H') (c : closedD st.length d = true) (r : RV G.K ρ' H' v d) : RV G.K ρ H' v d := by
  obtain ⟨l, rfl⟩ := n.pre
  exact RV.shrink d (by rw [R.len]; exact c) r

/-- a def of the text -/
structure DefOk (G : Glob) (L : Lang) (fs : List Str) (f : Str) where
  st : Stmt
  a : Addr
  fd : FuncData
  N : List Str
  ps : List Str
  d : Fd
  fn : L.fns f = some d
  F : Fun G.K f f st a fd
  S : FnScope N ps (defScope st)
  mg : G.mg f = some (.ref a)
  b : Binds G.K fd ps []
  np : ps.length = d.n
  nn : N.length = d.slots
  mt : mtSs fs N (defScope st) d.body (defBody st) = true

theorem env_start {G : Glob} {ρ : List Addr} {H : Hp} {N : List Str} {fd : Fd} {vs : List V} {ds : List D} (r : RVs G.K ρ H vs ds) (hn : N.length = fd.slots) : REnv G.K ρ H (start N vs) (startE fd ds) := by
  have hl := r.length
  refine ⟨?_, fun i d e => ?_⟩
  · unfold L2.start startE
    simp [hl, hn]
  · unfold startE at e
    by_cases hi : i < ds.length
    · rw [List.getElem?_append_left (by simpa using hi), List.getElem?_map] at e
      cases q : ds[i]? with
      | none => rw [q] at e; cases e
      | some c =>
        rw [q] at e; cases e
        obtain ⟨v, h1, h2⟩ := r.get q
        refine ⟨v, ?_, h2⟩
        unfold L2.start
        rw [List.getElem?_append_left (by simp [hl]; exact hi), List.getElem?_map, h1]; rfl
    · rw [List.getElem?_append_right (by simpa using hi), List.getElem?_replicate] at e
      split at e <;> cases e

theorem good_def {G : Glob} {N ps : List Str} {st : Stmt} {a : Addr} {cdv : Value} {A : Around} {outer : List PySem.Env} {s : Shared} {H : Hp} {E : XK} {k : Nat} {f : Str} (S : FnScope N ps (defScope st)) (hr : Room k (A.deeper (envOfC f (defScope st) s.heap.objs.size a cdv))) :
    GoodS G (cxOf (L2.CX G.P G.w) G.P G.w G.K G.mg G.base N f (defScope st) a cdv A outer s H E) N (defScope st) (fun cls d _ H => E cls d H) k where
  prog := rfl
  w := rfl
  K := rfl
  mg := rfl
  base := rfl
  ns := rfl
  nd := S.nd
  vis := fun x h => by
    unfold visS at h
    show (defScope st).names.lookup x = some .local ∨ (defScope st).names.lookup x = some .cell ∨ (defScope st).names.lookup x = some .free
    cases e : (defScope st).names.lookup x with
    | none => rw [e] at h; cases h
    | some y => rw [e] at h; cases y <;> simp at h ⊢
  loc := fun x h => by
    unfold locS at h
    refine ⟨?_, .inl rfl⟩
    show (defScope st).names.lookup x = some .local ∨ (defScope st).names.lookup x = some .cell
    cases e : (defScope st).names.lookup x with
    | none => rw [e] at h; cases h
    | some y => rw [e] at h; cases y <;> simp at h ⊢
  glo := fun x h => by
    unfold gloS at h
    show (defScope st).names.lookup x = some .globalImplicit
    cases e : (defScope st).names.lookup x with
    | none => rw [e] at h; cases h
    | some y => rw [e] at h; cases y <;> simp at h ⊢
  fr := fun x h => h
  calm := rfl
  room := hr
  tk := takes_of rfl rfl rfl rfl
  scq := rfl
  kind := S.kind
  po := passes_of rfl
  stk := rfl
  frm := rfl

theorem callK_ar {L : Lang} {fs : List Str} {G : Glob} {f : Str} (d : DefOk G L fs f) : ∀ (n : Nat) (ds : List D) (st : Store), ds.length ≠ d.ps.length → callK L n f ds st = .bad
  | 0, _, _, _ => rfl
  | n + 1, ds, st, h => by
    unfold callK
    rw [d.fn]
    show gc st (runF L (callK L n) d.d ds st) = .bad
    unfold runF
    rw [if_neg (by rw [← d.np]; exact h)]
    rfl

theorem fn_step {G : Glob} {L : Lang} {fs : List Str} (hp : Plain G) (hcs : ConstsOk G L.cs) {n : Nat} (ih : CallsOk G fs (callK L n) n) {f : Str} (d : DefOk G L fs f) :
    FnOk G.P G.w G.K G.mg G.base (L2.CX G.P G.w) (n + 1) d.a d.fd d.ps (spD G d.ps.length (callK L (n + 1) f)) := by
  refine d.F.okX d.S (fun vs H Q E h => h.1) fun cdv A outer s H vs Q E hr hsp => ?_
  obtain ⟨hl, ρ, st, ds, R, r, q⟩ := hsp
  have g : GoodS G (cxOf (L2.CX G.P G.w) G.P G.w G.K G.mg G.base d.N f (defScope d.st) d.a cdv A outer s H E) d.N (defScope d.st) (fun cls dd _ H => E cls dd H) n := good_def d.S hr
  refine ⟨_, seSs (sub := L.sub) (wf := L.wf) ih hp hcs d.d.body g d.mt, ρ, startE d.d ds, st, R, env_start r d.nn, ?_⟩
  have hlen : ds.length = d.d.n := by rw [← d.np, ← hl, r.length]
  unfold callK at q
  rw [d.fn] at q
  simp only at q
  unfold runF at q
  rw [if_pos hlen] at q
  cases ho : evSs (callK L n) L.cs L.sub L.wf d.d.body (startE d.d ds) st with
  | nx env1 st1 =>
    simp only [ho, Out.fin] at q
    intro σ' ρ' H' n' R' E'
    unfold gc at q
    by_cases c : gcOk st st1 ∧ closedD st.length .non = true
    · simp only [if_pos c] at q
      obtain ⟨R2, n2⟩ := gc_rel R n' R' c.1
      exact q _ ρ H' n2 R2 (rv_non.mpr rfl)
    · simp only [if_neg c] at q
      exact q _ ρ' H' n' R' (rv_non.mpr rfl)
  | rt v st1 =>
    simp only [ho, Out.fin] at q
    intro w ρ' H' n' R' r'
    unfold gc at q
    by_cases c : gcOk st st1 ∧ closedD st.length v = true
    · simp only [if_pos c] at q
      obtain ⟨R2, n2⟩ := gc_rel R n' R' c.1
      exact q _ ρ H' n2 R2 (gc_val R n' c.2 r')
    · simp only [if_neg c] at q
      exact q _ ρ' H' n' R' r'
  | exc x env1 st1 =>
    simp only [ho, Out.fin] at q
    intro σ' ρ' H' n' R' E'
    unfold gc at q
    by_cases c : gcOk st st1
    · simp only [if_pos c] at q
      obtain ⟨R2, n2⟩ := gc_rel R n' R' c
      exact q ρ H' n2 R2
    · simp only [if_neg c] at q
      exact q ρ' H' n' R'
  | bk _ _ => simp only [ho, Out.fin, gc] at q
  | ct _ _ => simp only [ho, Out.fin, gc] at q
  | bad => simp only [ho, Out.fin, gc] at q
theorem calls_ok {G : Glob} {L : Lang} {fs : List Str} (hp : Plain G) (hcs : ConstsOk G L.cs) (hd : ∀ f ∈ fs, Nonempty (DefOk G L fs f)) : ∀ n, CallsOk G fs (callK L n) n
  | 0 => fun f hf => by
    obtain ⟨d⟩ := hd f hf
    exact ⟨⟨d.a, d.fd, d.ps, d.mg, d.F.kp, d.b, callK_ar d 0, ⟨fun vs H Q E h => h.1, fun A outer s H args us vs Q E hr he hb hv h => by
      obtain ⟨_, ρ, st, ds, _, _, h⟩ := h
      exact h.elim⟩⟩⟩
  | n + 1 => fun f hf => by
    obtain ⟨d⟩ := hd f hf
    exact ⟨⟨d.a, d.fd, d.ps, d.mg, d.F.kp, d.b, callK_ar d (n + 1), fn_step hp hcs (calls_ok hp hcs hd n) d⟩⟩
end Mi

set_option linter.all false
set_option maxRecDepth 100000
/-! A law's own end. -/
namespace Mi
open PySem L2 PyProof.Rows
theorem lookup_mem {β : Type} {x : Str} {d : β} : ∀ {l : List (Str × β)}, l.lookup x = some d → (x, d) ∈ l
  | [], h => by cases h
  | (y, e) :: l, h => by
    rw [List.lookup_cons] at h
    by_cases q : x = y
    · subst q
      simp only [beq_self_eq_true] at h
      cases h
      exact List.mem_cons_self
    · have q' : (x == y) = false := beq_eq_false_iff_ne.mpr q
      simp only [q'] at h
      exact List.mem_cons_of_mem _ (lookup_mem h)
theorem fq_of {K : PySem.W.Frag} {H : Hp} {a : Addr} {xs : List V} (o : Only H) (h : SqL K H a xs) : FqL K H a xs := by
  rcases h with (h | h) | h
  · rcases o a with z | ⟨u, ys, z⟩
    · rw [h] at z; cases z
    · rw [h] at z; cases z
  · exact .inl h
  · exact .inr h
theorem rvs_ints {K : PySem.W.Frag} {ρ : List Addr} {H : Hp} : ∀ (ns : List Int), RVs K ρ H (ns.map V.int) (ns.map D.int)
  | [] => RVs.nil_
  | n :: ns => RVs.cons_ (by unfold RV; rfl) (rvs_ints ns)
/-- the law's promise -/
def spLaw (K : PySem.W.Frag) : Sp := fun vs H Q _ => ∃ (a : Addr) (ns : List Int), vs = [V.ref a] ∧ FqL K H a (ns.map V.int) ∧ ns.length ≤ 63 ∧ ∀ H', Q (.bl true) H'
/-- a law is kept: its call says True at every script -/
def Kept (L : Lang) (n : Nat) : Prop := ∀ ns : List Int, ns.length ≤ 63 → ∃ st, callK L n "law" [.fl (ns.map D.int)] [] = .ok (.bl true) st
theorem law_imp {G : Glob} {L : Lang} {n : Nat} (h : Kept L n) {vs : List V} {H : Hp} {Q : VK} {E : XK} (q : spLaw G.K vs H Q E) : spD G 1 (callK L n "law") vs H Q E := by
  obtain ⟨a, ns, rfl, hf, hl, q⟩ := q
  obtain ⟨st, e⟩ := h ns hl
  refine ⟨rfl, [], [], [.fl (ns.map D.int)], ⟨rfl, List.nodup_nil, fun n mo a h => by simp at h⟩, rvs_1.mpr ⟨_, rfl, rv_fl.mpr ⟨a, _, rfl, hf, rvs_ints ns⟩⟩, ?_⟩
  rw [e]
  intro v ρ' H' _ _ r
  rw [rv_bl] at r
  subst r
  exact q H'
end Mi

set_option linter.all false
set_option maxRecDepth 100000
/-! The small language's equations, for simp. -/
namespace Mi
open PySem L2

@[simp] theorem bind_ok {d : D} {st : Store} {k : D → Store → Res} : (Res.ok d st).bind k = k d st := rfl
@[simp] theorem bind_exc {c : Str} {st : Store} {k : D → Store → Res} : (Res.exc c st).bind k = .exc c st := rfl
@[simp] theorem bind_bad {k : D → Store → Res} : Res.bad.bind k = .bad := rfl
@[simp] theorem bindL_ok {d : D} {st : Store} {k : D → Store → ResL} : (Res.ok d st).bindL k = k d st := rfl
@[simp] theorem lbind_ok {d : List D} {st : Store} {k : List D → Store → Res} : (ResL.ok d st).bind k = k d st := rfl
@[simp] theorem lbindL_ok {d : List D} {st : Store} {k : List D → Store → ResL} : (ResL.ok d st).bindL k = k d st := rfl
@[simp] theorem bindO_ok {d : D} {st : Store} {env : Env} {k : D → Store → Out} : (Res.ok d st).bindO env k = k d st := rfl
@[simp] theorem bindO_exc {c : Str} {st : Store} {env : Env} {k : D → Store → Out} : (Res.exc c st).bindO env k = .exc c env st := rfl

/-! what follows a truth value, a test, a type -/
def casB : D → Res → Res → Res
  | .bl true, a, _ => a
  | .bl false, _, b => b
  | _, _, _ => .bad
def casO : Option Bool → Out → Out → Out
  | some true, a, _ => a
  | some false, _, b => b
  | none, _, _ => .bad
def notB : D → Store → Res
  | .bl b, st => .ok (.bl (!b)) st
  | _, _ => .bad
def tyB (n : Bool) (t : Str) (o : Option String) (st : Store) : Res := match o with
  | some u => .ok (.bl (if n then !decide ((t : Str) = u) else decide ((t : Str) = u))) st
  | none => .bad
def inB (t : Str) (o : Option String) (st : Store) : Res := match o with
  | some u => .ok (.bl (decide ((t : Str) = u) || (u == "bool" && decide ((t : Str) = ("int" : String))))) st
  | none => .bad
def varB (o : Option (Option D)) (st : Store) : Res := match o with
  | some (some d) => .ok d st
  | _ => .bad
def glbB (o : Option D) (st : Store) : Res := match o with
  | some d => .ok d st
  | none => .bad
@[simp] theorem casB_bl {b : Bool} {x y : Res} : casB (.bl b) x y = if b = true then x else y := by cases b <;> rfl
@[simp] theorem casO_some {b : Bool} {x y : Out} : casO (some b) x y = if b = true then x else y := by cases b <;> rfl
@[simp] theorem notB_bl {b : Bool} {st : Store} : notB (.bl b) st = .ok (.bl (!b)) st := rfl
@[simp] theorem varB_some {d : D} {st : Store} : varB (some (some d)) st = .ok d st := rfl
@[simp] theorem glbB_some {d : D} {st : Store} : glbB (some d) st = .ok d st := rfl
theorem ofString_inj {a b : String} : Str.ofString a = Str.ofString b ↔ a = b := by
  constructor
  · intro h
    rw [Str.ofString_eq_toList, Str.ofString_eq_toList] at h
    have h1 := congrArg (fun s : Str => s.cps.toList) h
    simp only [List.toList_toArray] at h1
    have h2 : a.toList = b.toList := by
      have inj : ∀ (l m : List Char), l.map Char.toNat = m.map Char.toNat → l = m := by
        intro l
        induction l with
        | nil => intro m e; cases m with
          | nil => rfl
          | cons _ _ => simp at e
        | cons c l ih =>
          intro m e
          cases m with
          | nil => simp at e
          | cons d m =>
            simp only [List.map_cons, List.cons.injEq] at e
            rw [ih m e.2, Char.toNat_inj.mp e.1]
      exact inj _ _ h1
    exact String.toList_inj.mp h2
  · rintro rfl; rfl
@[simp] theorem tyB_some {n : Bool} {t u : String} {st : Store} : tyB n t (some u) st = .ok (.bl (if n then !decide (t = u) else decide (t = u))) st := by
  unfold tyB
  simp only [ofString_inj]
@[simp] theorem inB_some {t u : String} {st : Store} : inB t (some u) st = .ok (.bl (decide (t = u) || (u == "bool" && decide (t = "int")))) st := by
  unfold inB
  simp only [ofString_inj]
@[simp] theorem obind_nx {env : Env} {st : Store} {k : Env → Store → Out} : (Out.nx env st).bind k = k env st := rfl
@[simp] theorem obind_rt {d : D} {st : Store} {k : Env → Store → Out} : (Out.rt d st).bind k = .rt d st := rfl
@[simp] theorem obind_bk {env : Env} {st : Store} {k : Env → Store → Out} : (Out.bk env st).bind k = .bk env st := rfl
@[simp] theorem obind_ct {env : Env} {st : Store} {k : Env → Store → Out} : (Out.ct env st).bind k = .ct env st := rfl
@[simp] theorem obind_exc {c : Str} {env : Env} {st : Store} {k : Env → Store → Out} : (Out.exc c env st).bind k = .exc c env st := rfl
@[simp] theorem obind_ite {c : Prop} [Decidable c] {a b : Out} {k : Env → Store → Out} : (if c then a else b).bind k = if c then a.bind k else b.bind k := by split <;> rfl
@[simp] theorem fin_ite {c : Prop} [Decidable c] {a b : Out} : (if c then a else b).fin = if c then a.fin else b.fin := by split <;> rfl
@[simp] theorem bind_ite {c : Prop} [Decidable c] {a b : Res} {k : D → Store → Res} : (if c then a else b).bind k = if c then a.bind k else b.bind k := by split <;> rfl
@[simp] theorem bindO_ite {c : Prop} [Decidable c] {a b : Res} {env : Env} {k : D → Store → Out} : (if c then a else b).bindO env k = if c then a.bindO env k else b.bindO env k := by split <;> rfl
@[simp] theorem bindL_ite {c : Prop} [Decidable c] {a b : Res} {k : D → Store → ResL} : (if c then a else b).bindL k = if c then a.bindL k else b.bindL k := by split <;> rfl
@[simp] theorem gc_ite {c : Prop} [Decidable c] {a b : Res} {st : Store} : gc st (if c then a else b) = if c then gc st a else gc st b := by split <;> rfl

theorem bind_congr {f : Res} {k j : D → Store → Res} (h : ∀ d st, k d st = j d st) : f.bind k = f.bind j := by
  cases f <;> first | exact h _ _ | rfl
theorem bindO_congr {f : Res} {env : Env} {k j : D → Store → Out} (h : ∀ d st, k d st = j d st) : f.bindO env k = f.bindO env j := by
  cases f <;> first | exact h _ _ | rfl
noncomputable def rng1R : Res → ItR
  | .ok (.int j) st => if small62 j then .ok (rangeD 0 j) none st else .bad
  | .exc c st => .exc c st
  | _ => .bad
noncomputable def rng2R : Res → (Store → Res) → ItR
  | .ok (.int i) st, k => (match k st with
    | .ok (.int j) st => if small62 i ∧ small62 j then .ok (rangeD i j) none st else .bad
    | .exc c st => .exc c st
    | _ => .bad)
  | .exc c st, _ => .exc c st
  | _, _ => .bad
def expR : Res → ItR
  | .ok d st => (match itemsOf st d with
    | some (xs, gd) => .ok xs gd st
    | none => .bad)
  | .exc c st => .exc c st
  | .bad => .bad
def ItR.toRes : ItR → (List D → Option (Nat × List D) → Store → Res) → Res
  | .ok xs gd st, k => k xs gd st
  | .exc c st, _ => .exc c st
  | .bad, _ => .bad
def ItR.toOut : ItR → Env → (List D → Option (Nat × List D) → Store → Out) → Out
  | .ok xs gd st, _, k => k xs gd st
  | .exc c st, env, _ => .exc c env st
  | .bad, _, _ => .bad
@[simp] theorem rng1R_ok {j : Int} {st : Store} (h : small62 j) : rng1R (.ok (.int j) st) = .ok (rangeD 0 j) none st := by simp only [rng1R, if_pos h]
theorem rng2R_ok {i : Int} {st : Store} {k : Store → Res} : rng2R (.ok (.int i) st) k = match k st with
    | .ok (.int j) st => if small62 i ∧ small62 j then .ok (rangeD i j) none st else .bad
    | .exc c st => .exc c st
    | _ => .bad := rfl
theorem rng2R_run {i j : Int} {st st' : Store} {k : Store → Res} (h : k st = .ok (.int j) st') (hi : small62 i) (hj : small62 j) : rng2R (.ok (.int i) st) k = .ok (rangeD i j) none st' := by simp only [rng2R, h, if_pos (And.intro hi hj)]
@[simp] theorem expR_tup {st : Store} {xs : List D} : expR (.ok (.tup xs) st) = .ok xs none st := rfl
@[simp] theorem expR_fl {st : Store} {xs : List D} : expR (.ok (.fl xs) st) = .ok xs none st := rfl
theorem expR_ref {st : Store} {n : Nat} {xs : List D} (h : st[n]? = some (.lst xs)) : expR (.ok (.ref n) st) = .ok xs (some (n, xs)) st := by simp only [expR, itemsOf, h]
theorem expR_str {st : Store} {z : Str} : expR (.ok (.str z) st) = .ok (z.cps.toList.map fun c => .str ⟨#[c]⟩) none st := rfl
@[simp] theorem toRes_ok {xs : List D} {gd : Option (Nat × List D)} {st : Store} {k : List D → Option (Nat × List D) → Store → Res} : (ItR.ok xs gd st).toRes k = k xs gd st := rfl
@[simp] theorem toOut_ok {xs : List D} {gd : Option (Nat × List D)} {st : Store} {env : Env} {k : List D → Option (Nat × List D) → Store → Out} : (ItR.ok xs gd st).toOut env k = k xs gd st := rfl
/-- what is run behind a statement -/
noncomputable def kSs (C : Oracle) (cs : Str → Option D) (sub : Str → Str → Bool) (wf : Nat) (ss : Ss) : Env → Store → Out := fun env st => evSs C cs sub wf ss env st
section
variable (C : Oracle) (cs : Str → Option D) (sub : Str → Str → Bool) (wf : Nat) (env : Env) (st : Store)
@[simp] theorem evE_non : evE C cs .non env st = .ok .non st := rfl
@[simp] theorem evE_bl (b : Bool) : evE C cs (.bl b) env st = .ok (.bl b) st := rfl
@[simp] theorem evE_int (i : Int) : evE C cs (.int i) env st = .ok (.int i) st := rfl
@[simp] theorem evE_str (x : Str) : evE C cs (.str x) env st = .ok (.str x) st := rfl
@[simp] theorem evE_var (i : Nat) : evE C cs (.var i) env st = varB env[i]? st := rfl
@[simp] theorem evE_glb (x : Str) : evE C cs (.glb x) env st = glbB (cs x) st := rfl
@[simp] theorem evE_un (op : UOp) (a : E) : evE C cs (.un op a) env st = (evE C cs a env st).bind fun x st => unop op x st := rfl
@[simp] theorem evE_bin (op : BOp) (a b : E) : evE C cs (.bin op a b) env st = (evE C cs a env st).bind fun x st => (evE C cs b env st).bind fun y st => binop op x y st := rfl
@[simp] theorem evE_cmp (op : COp) (a b : E) : evE C cs (.cmp op a b) env st = (evE C cs a env st).bind fun x st => (evE C cs b env st).bind fun y st => cmpop op x y st := rfl
@[simp] theorem evE_chain (o o' : COp) (a b c : E) : evE C cs (.chain o o' a b c) env st = (evE C cs a env st).bind fun x st => (evE C cs b env st).bind fun y st => (cmpop o x y st).bind fun r st => casB r ((evE C cs c env st).bind fun z st => cmpop o' y z st) (.ok (.bl false) st) := bind_congr fun x st => bind_congr fun y st => bind_congr fun x st => by cases x with | bl b => cases b <;> rfl | _ => rfl
@[simp] theorem evE_and (es : Es) : evE C cs (.and es) env st = evAnd C cs es env st := rfl
@[simp] theorem evE_or (es : Es) : evE C cs (.or es) env st = evOr C cs es env st := rfl
@[simp] theorem evE_not (a : E) : evE C cs (.not a) env st = (evE C cs a env st).bind notB := bind_congr fun x st => by cases x <;> rfl
@[simp] theorem evE_ite (c a b : E) : evE C cs (.ite c a b) env st = (evE C cs c env st).bind fun x st => casB x (evE C cs a env st) (evE C cs b env st) := bind_congr fun x st => by cases x with | bl b => cases b <;> rfl | _ => rfl
@[simp] theorem evE_tup (es : Es) : evE C cs (.tup es) env st = (evEs C cs es env st).bind fun ds st => if ds.length ≤ LINE then .ok (.tup ds) st else .bad := rfl
@[simp] theorem evE_lst (es : Es) : evE C cs (.lst es) env st = (evEs C cs es env st).bind fun ds st => if ds.length ≤ LINE then .ok (.ref st.length) (st ++ [.lst ds]) else .bad := rfl
@[simp] theorem evE_idx (a b : E) : evE C cs (.idx a b) env st = (evE C cs a env st).bind fun x st => (evE C cs b env st).bind fun y st => idxop x y st := rfl
@[simp] theorem evE_slc (a : E) (lo hi : Oe) : evE C cs (.slc a lo hi) env st = (evE C cs a env st).bind fun x st => match evO C cs lo env st with
    | (some l, st) => (match evO C cs hi env st with
      | (some h, st) => slcop x l h st
      | _ => .bad)
    | _ => .bad := rfl
@[simp] theorem evE_call (f : Str) (es : Es) : evE C cs (.call f es) env st = (evEs C cs es env st).bind fun ds st => C f ds st := rfl
@[simp] theorem evE_bi (f : BI) (es : Es) : evE C cs (.bi f es) env st = (evEs C cs es env st).bind fun ds st => biop f ds st := rfl
@[simp] theorem evE_mth (m : MI) (a : E) (es : Es) : evE C cs (.mth m a es) env st = (evE C cs a env st).bind fun x st => if recvOk m x st = true then (evEs C cs es env st).bind fun ds st => mthop m x ds st else .bad := rfl
@[simp] theorem evE_typeIs (n : Bool) (a : E) (t : Str) : evE C cs (.typeIs n a t) env st = (evE C cs a env st).bind fun x st => tyB n t (tyNameS st x) st := rfl
@[simp] theorem evE_isin (a : E) (t : Str) : evE C cs (.isin a t) env st = (evE C cs a env st).bind fun x st => inB t (tyNameS st x) st := rfl
@[simp] theorem evE_lc (own : List (Str × Nat)) (tg : Tg) (it : Ie) (cc : Es) (elt : E) : evE C cs (.lc own tg it cc elt) env st = (evI C cs it env st).toRes fun xs gd st => compL (stepF (own.map Prod.snd) tg (evAll C cs cc) (evE C cs elt) env) gd st.length xs (st ++ [.lst []]) := by
  show ((match evI C cs it env st with
  | .ok xs gd st => compL (stepF (own.map Prod.snd) tg (evAll C cs cc) (evE C cs elt) env) gd st.length xs (st ++ [.lst []])
  | .exc c st => .exc c st
  | .bad => .bad) : Res) = _
  cases evI C cs it env st <;> rfl
@[simp] theorem evEs_nil : evEs C cs .nil env st = .ok [] st := rfl
@[simp] theorem evEs_cons (e : E) (es : Es) : evEs C cs (.cons e es) env st = (evE C cs e env st).bindL fun d st => (evEs C cs es env st).bindL fun ds st => .ok (d :: ds) st := rfl
@[simp] theorem evAnd_one (e : E) : evAnd C cs (.cons e .nil) env st = evE C cs e env st := rfl
@[simp] theorem evAnd_cons (e a : E) (es : Es) : evAnd C cs (.cons e (.cons a es)) env st = (evE C cs e env st).bind fun x st => casB x (evAnd C cs (.cons a es) env st) (.ok (.bl false) st) := bind_congr fun x st => by cases x with | bl b => cases b <;> rfl | _ => rfl
@[simp] theorem evOr_one (e : E) : evOr C cs (.cons e .nil) env st = evE C cs e env st := rfl
@[simp] theorem evOr_cons (e a : E) (es : Es) : evOr C cs (.cons e (.cons a es)) env st = (evE C cs e env st).bind fun x st => casB x (.ok (.bl true) st) (evOr C cs (.cons a es) env st) := bind_congr fun x st => by cases x with | bl b => cases b <;> rfl | _ => rfl
@[simp] theorem evAll_nil : evAll C cs .nil env st = .ok (.bl true) st := rfl
@[simp] theorem evAll_cons (e : E) (es : Es) : evAll C cs (.cons e es) env st = (evE C cs e env st).bind fun x st => casB x (evAll C cs es env st) (.ok (.bl false) st) := bind_congr fun x st => by cases x with | bl b => cases b <;> rfl | _ => rfl
@[simp] theorem evO_none : evO C cs .none env st = (some none, st) := rfl
@[simp] theorem evO_some (e : E) : evO C cs (.some e) env st = match evE C cs e env st with
    | .ok (.int i) st => (some (some i), st)
    | _ => (none, st) := rfl
@[simp] theorem evI_exp (e : E) : evI C cs (.exp e) env st = expR (evE C cs e env st) := by
  show ((match evE C cs e env st with
    | .ok d st => (match itemsOf st d with
      | some (xs, gd) => .ok xs gd st
      | none => .bad)
    | .exc c st => .exc c st
    | .bad => .bad) : ItR) = _
  cases evE C cs e env st <;> rfl
@[simp] theorem evI_rng1 (a : E) : evI C cs (.rng1 a) env st = rng1R (evE C cs a env st) := by
  show ((match evE C cs a env st with
    | .ok (.int j) st => if small62 j then .ok (rangeD 0 j) none st else .bad
    | .exc c st => .exc c st
    | _ => .bad) : ItR) = _
  cases evE C cs a env st with
  | ok d s => cases d <;> rfl
  | _ => rfl
@[simp] theorem evI_rng2 (a b : E) : evI C cs (.rng2 a b) env st = rng2R (evE C cs a env st) (fun st => evE C cs b env st) := by
  show ((match evE C cs a env st with
    | .ok (.int i) st => (match evE C cs b env st with
      | .ok (.int j) st => if small62 i ∧ small62 j then .ok (rangeD i j) none st else .bad
      | .exc c st => .exc c st
      | _ => .bad)
    | .exc c st => .exc c st
    | _ => .bad) : ItR) = _
  cases evE C cs a env st with
  | ok d s => cases d <;> rfl
  | _ => rfl

@[simp] theorem evS_expr (e : E) : evS C cs sub wf (.expr e) env st = (evE C cs e env st).bindO env fun _ st => .nx env st := rfl
@[simp] theorem evS_set (i : Nat) (e : E) : evS C cs sub wf (.set i e) env st = (evE C cs e env st).bindO env fun d st => .nx (env.set i (some d)) st := rfl
theorem evS_setIx (o i e : E) : evS C cs sub wf (.setIx o i e) env st = (evE C cs e env st).bindO env fun d st => (evE C cs o env st).bindO env fun x st => (evE C cs i env st).bindO env fun y st => match setIxop x y d st with
    | some st => .nx env st
    | none => .bad := rfl
@[simp] theorem evS_ret (e : E) : evS C cs sub wf (.ret e) env st = (evE C cs e env st).bindO env fun d st => .rt d st := rfl
@[simp] theorem evS_ret0 : evS C cs sub wf .ret0 env st = .rt .non st := rfl
@[simp] theorem evS_iff (c : E) (a b : Ss) : evS C cs sub wf (.iff c a b) env st = (evE C cs c env st).bindO env fun x st => casO (truth st x) (evSs C cs sub wf a env st) (evSs C cs sub wf b env st) := by
  refine bindO_congr (f := evE C cs c env st) fun x st => ?_
  cases truth st x with
  | none => rfl
  | some b => cases b <;> rfl
@[simp] theorem evS_for (tg : Tg) (it : Ie) (b : Ss) : evS C cs sub wf (.for tg it b) env st = (evI C cs it env st).toOut env fun xs gd st => forL (bodyF tg (evSs C cs sub wf b)) gd xs env st := by
  show ((match evI C cs it env st with
    | .ok xs gd st => forL (bodyF tg (evSs C cs sub wf b)) gd xs env st
    | .exc c st => .exc c env st
    | .bad => .bad) : Out) = _
  cases evI C cs it env st <;> rfl
@[simp] theorem evS_pass : evS C cs sub wf .pass env st = .nx env st := rfl
@[simp] theorem evS_brk : evS C cs sub wf .brk env st = .bk env st := rfl
@[simp] theorem evS_cnt : evS C cs sub wf .cnt env st = .ct env st := rfl
@[simp] theorem evSs_nil : evSs C cs sub wf .nil env st = .nx env st := rfl
@[simp] theorem kSs_app (ss : Ss) : kSs C cs sub wf ss env st = evSs C cs sub wf ss env st := rfl
@[simp] theorem evSs_cons (s : S) (ss : Ss) : evSs C cs sub wf (.cons s ss) env st = (evS C cs sub wf s env st).bind (kSs C cs sub wf ss) := by
  show seqF (evS C cs sub wf s) (evSs C cs sub wf ss) env st = _
  unfold seqF
  cases evS C cs sub wf s env st <;> rfl
end
@[simp] theorem fin_nx (env : Env) (st : Store) : (Out.nx env st).fin = .ok .non st := rfl
@[simp] theorem fin_rt (d : D) (st : Store) : (Out.rt d st).fin = .ok d st := rfl
@[simp] theorem fin_exc (c : Str) (env : Env) (st : Store) : (Out.exc c env st).fin = .exc c st := rfl
@[simp] theorem truth_bl (st : Store) (b : Bool) : truth st (.bl b) = some b := rfl

@[simp] theorem ok_ite_bl {c : Prop} [Decidable c] {x y : Bool} {st : Store} : (if c then Res.ok (.bl x) st else Res.ok (.bl y) st) = .ok (.bl (if c then x else y)) st := by split <;> rfl
@[simp] theorem ty_non (st : Store) : tyNameS st .non = some "NoneType" := rfl
@[simp] theorem ty_bl' (st : Store) (b : Bool) : tyNameS st (.bl b) = some "bool" := rfl
@[simp] theorem ty_int (st : Store) (b : Int) : tyNameS st (.int b) = some "int" := rfl
@[simp] theorem ty_str (st : Store) (b : Str) : tyNameS st (.str b) = some "str" := rfl
@[simp] theorem ty_tup (st : Store) (b : List D) : tyNameS st (.tup b) = some "tuple" := rfl
@[simp] theorem add_ii (i j : Int) (st : Store) : binop .add (.int i) (.int j) st = .ok (.int (i + j)) st := rfl
@[simp] theorem sub_ii (i j : Int) (st : Store) : binop .sub (.int i) (.int j) st = .ok (.int (i - j)) st := rfl
@[simp] theorem lt_ii (i j : Int) (st : Store) : cmpop .lt (.int i) (.int j) st = .ok (.bl (decide (i < j))) st := rfl
@[simp] theorem le_ii (i j : Int) (st : Store) : cmpop .le (.int i) (.int j) st = .ok (.bl (decide (i ≤ j))) st := rfl
@[simp] theorem gt_ii (i j : Int) (st : Store) : cmpop .gt (.int i) (.int j) st = .ok (.bl (decide (j < i))) st := rfl
@[simp] theorem ge_ii (i j : Int) (st : Store) : cmpop .ge (.int i) (.int j) st = .ok (.bl (decide (j ≤ i))) st := rfl
theorem eq_run {x y : D} {st : Store} {p q : PyData} (h1 : dataS st x = some p) (h2 : dataS st y = some q) (h3 : SeqAt.shaped p = true) (h4 : SeqAt.shaped q = true) : cmpop .eq x y st = .ok (.bl (PyData.eqv p q)) st := by
  simp [cmpop, eqD, h1, h2, h3, h4, resB]
theorem ne_run {x y : D} {st : Store} {p q : PyData} (h1 : dataS st x = some p) (h2 : dataS st y = some q) (h3 : SeqAt.shaped p = true) (h4 : SeqAt.shaped q = true) : cmpop .ne x y st = .ok (.bl (!PyData.eqv p q)) st := by
  simp [cmpop, eqD, h1, h2, h3, h4, resB]
@[simp] theorem shaped_int (i : Int) : SeqAt.shaped (.int i) = true := rfl
@[simp] theorem shaped_bl (i : Bool) : SeqAt.shaped (.bool i) = true := rfl
@[simp] theorem shaped_non : SeqAt.shaped .none = true := rfl
theorem shaped_str (x : Str) : SeqAt.shaped (.str x) = PyData.strOk x := by
  show (PyData.strOk x && decide (PyData.depth (.str x) ≤ 64)) = _
  simp [PyData.depth]
@[simp] theorem eq_ii (i j : Int) (st : Store) : cmpop .eq (.int i) (.int j) st = .ok (.bl (decide (i = j))) st := by
  rw [eq_run rfl rfl rfl rfl]
  simp [PyData.eqv]; rfl
@[simp] theorem ne_ii (i j : Int) (st : Store) : cmpop .ne (.int i) (.int j) st = .ok (.bl (!decide (i = j))) st := by
  rw [ne_run rfl rfl rfl rfl]
  simp [PyData.eqv]; rfl
@[simp] theorem ne_bb (i j : Bool) (st : Store) : cmpop .ne (.bl i) (.bl j) st = .ok (.bl (!decide (i = j))) st := by
  rw [ne_run rfl rfl rfl rfl]
  cases i <;> cases j <;> rfl
@[simp] theorem len_tup (xs : List D) (st : Store) : biop .len [.tup xs] st = .ok (.int xs.length) st := rfl
theorem atI_nn {α : Type} {xs : List α} {i : Int} (h : 0 ≤ i) : atI xs i = xs[i.toNat]? := by
  unfold atI ixN
  rw [if_pos h]
  by_cases h2 : i < xs.length
  · rw [if_pos h2]; rfl
  · rw [if_neg h2, List.getElem?_eq_none (by omega)]; rfl
theorem atI_nat' {α : Type} {xs : List α} (i : Nat) : atI xs (i : Int) = xs[i]? := by rw [atI_nn (by omega)]; simp
@[simp] theorem atI_0 {α : Type} {xs : List α} : atI xs 0 = xs[0]? := atI_nn (by decide)
@[simp] theorem atI_1 {α : Type} {xs : List α} : atI xs 1 = xs[1]? := atI_nn (by decide)
@[simp] theorem atI_2 {α : Type} {xs : List α} : atI xs 2 = xs[2]? := atI_nn (by decide)
@[simp] theorem atI_3 {α : Type} {xs : List α} : atI xs 3 = xs[3]? := atI_nn (by decide)
@[simp] theorem atI_m1 {α : Type} {xs : List α} : atI xs (-1) = xs.getLast? := by
  unfold atI ixN
  rw [if_neg (by decide)]
  cases xs with
  | nil => rfl
  | cons x r =>
    rw [if_pos (by simp; omega), List.getLast?_eq_getElem?]
    show (x :: r)[_]? = _
    congr 1
    simp only [List.length_cons]
    omega
@[simp] theorem idx_tup (xs : List D) (i : Int) (st : Store) : idxop (.tup xs) (.int i) st = glbB (atI xs i) st := by
  simp only [idxop]
  cases atI xs i <;> rfl
theorem idx_ref {n : Nat} {xs : List D} {st : Store} (i : Int) (h : st[n]? = some (.lst xs)) : idxop (.ref n) (.int i) st = glbB (atI xs i) st := by
  simp only [idxop, h]
  cases atI xs i <;> rfl
@[simp] theorem idx_fl (xs : List D) (i : Int) (st : Store) : idxop (.fl xs) (.int i) st = glbB (atI xs i) st := by
  simp only [idxop]
  cases atI xs i <;> rfl
@[simp] theorem in64_iff {i : Int} : in64 i ↔ (-18446744073709551616 < i ∧ i < 18446744073709551616) := Iff.rfl
@[simp] theorem okDiv_iff {i : Int} : okDiv i ↔ (0 < i ∧ i < 1073741824) := Iff.rfl
@[simp] theorem okPow_iff {i j : Int} : okPow i j ↔ (0 ≤ j ∧ j ≤ 1000000 ∧ i.natAbs < 18446744073709551616) := Iff.rfl
theorem in64_mk {i : Int} (h : -18446744073709551616 < i) (k : i < 18446744073709551616) : in64 i := ⟨h, k⟩
@[simp] theorem okRepT_iff {n : Nat} {j : Int} : okRepT n j ↔ (n ≠ 0 ∧ 2 ≤ j ∧ j ≤ 1000 ∧ n ≤ 1000) := Iff.rfl
@[simp] theorem mul_ti (xs : List D) (j : Int) (st : Store) : binop .mul (.tup xs) (.int j) st = if okRepT xs.length j then .ok (.tup (List.replicate j.toNat xs).flatten) st else .bad := rfl
@[simp] theorem neg_i (i : Int) (st : Store) : unop .neg (.int i) st = .ok (.int (-i)) st := rfl
/-- a comprehension's step -/
def cstep (r : Res) (k : Store → Res) : CRes := match r with
  | .ok (.bl true) s => (match k s with
    | .ok d s => .ok (some d) s
    | _ => .bad)
  | .ok (.bl false) s => .ok none s
  | _ => .bad
theorem stepF_name (own : List Nat) (i : Nat) (fc fe : Env → Store → Res) (env : Env) (x : D) (s : Store) : stepF own (.name i) fc fe env x s = cstep (fc ((wipeE env own).set i (some x)) s) (fun s => fe ((wipeE env own).set i (some x)) s) := rfl
@[simp] theorem cstep_yes {s s' : Store} {d : D} {k : Store → Res} (h : k s = .ok d s') : cstep (.ok (.bl true) s) k = .ok (some d) s' := by
  simp only [cstep, h]
/-- a comprehension whose items are reckoned without a trace -/
theorem comp_map {step : D → Store → CRes} {g : D → D} {st : Store} : ∀ {xs acc : List D}, (∀ x ∈ xs, ∀ l, step x (st ++ [.lst l]) = .ok (some (g x)) (st ++ [.lst l])) → acc.length + xs.length ≤ LINE →
    compL step none st.length xs (st ++ [.lst acc]) = .ok (.ref st.length) (st ++ [.lst (acc ++ xs.map g)])
  | [], acc, _, _ => by simp [compL, gdOk]
  | x :: xs, acc, h, hl => by
    simp only [List.length_cons] at hl
    have hx := h x List.mem_cons_self acc
    have ih := comp_map (acc := acc ++ [g x]) (fun y hy l => h y (List.mem_cons_of_mem _ hy) l) (by simp; omega)
    have e : (st ++ [MO.lst acc]).set st.length (.lst (acc ++ [g x])) = st ++ [.lst (acc ++ [g x])] := by simp
    simp only [compL, gdOk, if_true, hx]
    rw [List.getElem?_append_right (Nat.le_refl _)]
    simp only [Nat.sub_self, List.getElem?_cons_zero]
    rw [if_pos (by omega), e, ih]
    simp
theorem comp_run {step : D → Store → CRes} {g : D → D} {st : Store} {xs : List D} (h : ∀ x ∈ xs, ∀ l, step x (st ++ [.lst l]) = .ok (some (g x)) (st ++ [.lst l])) (hl : xs.length ≤ LINE) :
    compL step none st.length xs (st ++ [.lst []]) = .ok (.ref st.length) (st ++ [.lst (xs.map g)]) := by
  have := comp_map (acc := []) h (by simpa using hl)
  simpa using this
theorem bls_map (p : D → Bool) : ∀ xs : List D, blsD (xs.map fun x => D.bl (p x)) = some (xs.map p)
  | [] => rfl
  | x :: xs => by simp [blsD, bls_map p xs]
@[simp] theorem all_new {st : Store} {xs : List D} {p : D → Bool} : biop .all [.ref st.length] (st ++ [.lst (xs.map fun x => .bl (p x))]) = .ok (.bl (xs.all p)) (st ++ [.lst (xs.map fun x => .bl (p x))]) := by
  simp [biop, lstOf, bls_map, List.all_map]
@[simp] theorem items_tup (st : Store) (xs : List D) : itemsOf st (.tup xs) = some (xs, none) := rfl
/-- a def's call, opened -/
theorem call_open {L : Lang} {n : Nat} {f : Str} {fd : Fd} {ds : List D} {st : Store} (h : L.fns f = some fd) (hl : ds.length = fd.n) :
    callK L (n + 1) f ds st = gc st (evSs (callK L n) L.cs L.sub L.wf fd.body (startE fd ds) st).fin := by
  show (match L.fns f with
    | some fd => gc st (runF L (callK L n) fd ds st)
    | none => .bad) = _
  rw [h]
  simp only [runF, if_pos hl]
theorem gcOk_refl (st : Store) : gcOk st st := ⟨Nat.le_refl _, fun i h => .inl rfl⟩
@[simp] theorem gc_same {st : Store} {d : D} : gc st (.ok d st) = .ok d st := by
  unfold gc
  by_cases h : gcOk st st ∧ closedD st.length d = true
  · simp only [if_pos h, List.take_length]
  · simp only [if_neg h]
theorem gc_app {st g : Store} {d : D} (h : closedD st.length d = true) : gc st (.ok d (st ++ g)) = .ok d st := by
  have ok : gcOk st (st ++ g) := ⟨by simp, fun i h => .inl (List.getElem?_append_left h)⟩
  unfold gc
  simp only [if_pos (And.intro ok h), List.take_left']
@[simp] theorem gc_app_int {st g : Store} {i : Int} : gc st (.ok (.int i) (st ++ g)) = .ok (.int i) st := gc_app rfl
@[simp] theorem gc_app_bl {st g : Store} {i : Bool} : gc st (.ok (.bl i) (st ++ g)) = .ok (.bl i) st := gc_app rfl
@[simp] theorem gc_app_str {st g : Store} {i : Str} : gc st (.ok (.str i) (st ++ g)) = .ok (.str i) st := gc_app rfl
@[simp] theorem gc_app_non {st g : Store} : gc st (.ok .non (st ++ g)) = .ok .non st := gc_app rfl

end Mi

set_option linter.all false
set_option Elab.async false
set_option maxRecDepth 100000
set_option maxHeartbeats 4000000
/-! The text's defs as terms; the language. -/
namespace LL
open PySem L2 Mi
def fd_is_integer : Fd := ⟨3, 3,
    (.cons (.ret (.and (.cons (.typeIs false (.var 0) "int") (.cons (.chain .le .le (.var 1) (.var 0) (.var 2)) .nil))))
    .nil)⟩
def fd_is_sentence : Fd := ⟨2, 2,
    (.cons (.ret (.and (.cons (.call "is_integer" (.cons (.var 0) (.cons (.int 1) (.cons (.glb "MOST_PROCESSES") .nil)))) (.cons (.call "_is_nested" (.cons (.var 0) (.cons (.var 1) (.cons (.glb "MOST_NESTING") .nil)))) .nil))))
    .nil)⟩
def fd__is_row : Fd := ⟨3, 3,
    (.cons (.ret (.and (.cons (.typeIs false (.var 0) "tuple") (.cons (.chain .le .le (.var 1) (.bi .len (.cons (.var 0) .nil)) (.var 2)) .nil))))
    .nil)⟩
def fd__is_named : Fd := ⟨1, 1,
    (.cons (.ret (.and (.cons (.typeIs false (.var 0) "tuple") (.cons (.cmp .gt (.bi .len (.cons (.var 0) .nil)) (.int 0)) (.cons (.typeIs false (.idx (.var 0) (.int 0)) "str") .nil)))))
    .nil)⟩
def fd__is_variable : Fd := ⟨1, 1,
    (.cons (.ret (.and (.cons (.typeIs false (.var 0) "str") (.cons (.cmp .isin (.var 0) (.glb "VARIABLES")) .nil))))
    .nil)⟩
def fd__is_nested : Fd := ⟨3, 4,
    (.cons (.iff (.or (.cons (.cmp .eq (.var 2) (.int 0)) (.cons (.not (.call "_is_named" (.cons (.var 1) .nil))) .nil)))
      (.cons (.ret (.bl false))
      .nil)
      .nil)
    (.cons (.iff (.cmp .eq (.idx (.var 1) (.int 0)) (.str "not"))
      (.cons (.ret (.and (.cons (.cmp .eq (.bi .len (.cons (.var 1) .nil)) (.int 2)) (.cons (.call "_is_nested" (.cons (.var 0) (.cons (.idx (.var 1) (.int 1)) (.cons (.bin .sub (.var 2) (.int 1)) .nil)))) .nil))))
      .nil)
      .nil)
    (.cons (.iff (.cmp .isin (.idx (.var 1) (.int 0)) (.tup (.cons (.str "and") (.cons (.str "or") .nil))))
      (.cons (.ret (.and (.cons (.cmp .eq (.bi .len (.cons (.var 1) .nil)) (.int 3)) (.cons (.bi .all (.cons (.lc [("part", 3)] (.name 3) (.exp (.slc (.var 1) (.some (.int 1)) .none)) .nil (.call "_is_nested" (.cons (.var 0) (.cons (.var 3) (.cons (.bin .sub (.var 2) (.int 1)) .nil))))) .nil)) .nil))))
      .nil)
      .nil)
    (.cons (.ret (.call "_is_plain" (.cons (.var 0) (.cons (.var 1) .nil))))
    .nil))))⟩
def fd__is_plain : Fd := ⟨2, 2,
    (.cons (.iff (.cmp .eq (.idx (.var 1) (.int 0)) (.str "at"))
      (.cons (.ret (.and (.cons (.cmp .eq (.bi .len (.cons (.var 1) .nil)) (.int 4)) (.cons (.call "_is_place" (.cons (.var 0) (.cons (.idx (.var 1) (.int 1)) (.cons (.idx (.var 1) (.int 2)) .nil)))) (.cons (.call "_is_bound" (.cons (.idx (.var 1) (.int 3)) .nil)) .nil)))))
      .nil)
      .nil)
    (.cons (.iff (.cmp .eq (.idx (.var 1) (.int 0)) (.str "way"))
      (.cons (.ret (.and (.cons (.cmp .eq (.bi .len (.cons (.var 1) .nil)) (.int 2)) (.cons (.call "is_integer" (.cons (.idx (.var 1) (.int 1)) (.cons (.int 0) (.cons (.glb "MOST_LETTER") .nil)))) .nil))))
      .nil)
      .nil)
    (.cons (.iff (.cmp .eq (.idx (.var 1) (.int 0)) (.str "sum"))
      (.cons (.ret (.and (.cons (.cmp .eq (.bi .len (.cons (.var 1) .nil)) (.int 3)) (.cons (.call "_are_terms" (.cons (.var 0) (.cons (.idx (.var 1) (.int 1)) .nil))) (.cons (.call "_is_bound" (.cons (.idx (.var 1) (.int 2)) .nil)) .nil)))))
      .nil)
      .nil)
    (.cons (.ret (.bl false))
    .nil))))⟩
def fd__is_place : Fd := ⟨3, 3,
    (.cons (.ret (.and (.cons (.call "is_integer" (.cons (.var 1) (.cons (.int 0) (.cons (.bin .sub (.var 0) (.int 1)) .nil)))) (.cons (.call "_is_variable" (.cons (.var 2) .nil)) .nil))))
    .nil)⟩
def fd__is_bound : Fd := ⟨1, 1,
    (.cons (.ret (.call "is_integer" (.cons (.var 0) (.cons (.un .neg (.glb "MOST_BOUND")) (.cons (.glb "MOST_BOUND") .nil)))))
    .nil)⟩
def fd__are_terms : Fd := ⟨2, 3,
    (.cons (.ret (.and (.cons (.call "_is_row" (.cons (.var 1) (.cons (.int 1) (.cons (.glb "MOST_TERMS") .nil)))) (.cons (.bi .all (.cons (.lc [("term", 2)] (.name 2) (.exp (.var 1)) .nil (.call "_is_term" (.cons (.var 0) (.cons (.var 2) .nil)))) .nil)) .nil))))
    .nil)⟩
def fd__is_term : Fd := ⟨2, 2,
    (.cons (.iff (.or (.cons (.not (.call "_is_row" (.cons (.var 1) (.cons (.int 3) (.cons (.int 3) .nil))))) (.cons (.not (.call "is_integer" (.cons (.idx (.var 1) (.int 0)) (.cons (.un .neg (.glb "MOST_WEIGHT")) (.cons (.glb "MOST_WEIGHT") .nil))))) .nil)))
      (.cons (.ret (.bl false))
      .nil)
      .nil)
    (.cons (.ret (.call "_is_place" (.cons (.var 0) (.cons (.idx (.var 1) (.int 1)) (.cons (.idx (.var 1) (.int 2)) .nil)))))
    .nil))⟩
def fd__law_bag : Fd := ⟨2, 3,
    (.cons (.set 2 (.int 0))
    (.cons (.iff (.cmp .lt (.var 1) (.bi .len (.cons (.var 0) .nil)))
      (.cons (.set 2 (.bi .int (.cons (.idx (.var 0) (.var 1)) .nil)))
      .nil)
      .nil)
    (.cons (.iff (.cmp .ge (.var 2) (.bin .pow (.int 10) (.int 18)))
      (.cons (.ret (.lst (.cons (.var 2) (.cons (.var 2) (.cons (.var 1) .nil)))))
      .nil)
      .nil)
    (.cons (.ret (.lst (.cons (.int 0) (.cons (.var 2) (.cons (.var 1) .nil)))))
    .nil))))⟩
def fd__law_draw : Fd := ⟨2, 4,
    (.cons (.iff (.cmp .eq (.idx (.var 0) (.int 0)) (.int 0))
      (.cons (.set 3 (.bin .mod (.bi .int (.cons (.bin .add (.bin .add (.bin .mul (.idx (.var 0) (.int 1)) (.int 48271)) (.bin .mul (.idx (.var 0) (.int 2)) (.int 69621))) (.int 11)) .nil)) (.int 2147483647)))
      (.cons (.setIx (.var 0) (.int 0) (.bin .add (.bin .mul (.var 3) (.int 2147483629)) (.bin .mod (.bi .int (.cons (.bin .add (.bin .mul (.var 3) (.var 3)) (.bin .mul (.idx (.var 0) (.int 2)) (.int 16807))) .nil)) (.int 2147483629))))
      (.cons (.setIx (.var 0) (.int 1) (.var 3))
      .nil)))
      .nil)
    (.cons (.set 2 (.idx (.var 0) (.int 0)))
    (.cons (.setIx (.var 0) (.int 0) (.bin .fdiv (.var 2) (.var 1)))
    (.cons (.ret (.bin .mod (.bi .int (.cons (.var 2) .nil)) (.var 1)))
    .nil))))⟩
def fd__law_is_int : Fd := ⟨3, 3,
    (.cons (.ret (.and (.cons (.isin (.var 0) "int") (.cons (.not (.isin (.var 0) "bool")) (.cons (.cmp .le (.var 1) (.var 0)) (.cons (.cmp .le (.var 0) (.var 2)) .nil))))))
    .nil)⟩
def fd__law_bound : Fd := ⟨1, 1,
    (.cons (.ret (.idx (.lst (.cons (.int 0) (.cons (.int 1) (.cons (.un .neg (.int 1)) (.cons (.int 5) (.cons (.int 100000) (.cons (.un .neg (.int 100000)) (.cons (.bin .sub (.call "_law_draw" (.cons (.var 0) (.cons (.int 4001) .nil))) (.int 2000)) .nil)))))))) (.call "_law_draw" (.cons (.var 0) (.cons (.int 7) .nil)))))
    .nil)⟩
def fd__law_sentence : Fd := ⟨3, 9,
    (.cons (.set 3 (.idx (.lst (.cons (.str "at") (.cons (.str "at") (.cons (.str "way") (.cons (.str "sum") (.cons (.str "not") (.cons (.str "and") (.cons (.str "or") (.cons (.str "and") .nil))))))))) (.call "_law_draw" (.cons (.var 0) (.cons (.int 8) .nil)))))
    (.cons (.iff (.and (.cons (.cmp .eq (.var 2) (.int 1)) (.cons (.cmp .isin (.var 3) (.lst (.cons (.str "not") (.cons (.str "and") (.cons (.str "or") .nil))))) .nil)))
      (.cons (.set 3 (.str "at"))
      .nil)
      .nil)
    (.cons (.set 4 (.call "_law_draw" (.cons (.var 0) (.cons (.var 1) .nil))))
    (.cons (.set 5 (.idx (.str "abcd") (.call "_law_draw" (.cons (.var 0) (.cons (.int 4) .nil)))))
    (.cons (.iff (.cmp .eq (.var 3) (.str "at"))
      (.cons (.ret (.tup (.cons (.var 3) (.cons (.var 4) (.cons (.var 5) (.cons (.call "_law_bound" (.cons (.var 0) .nil)) .nil))))))
      .nil)
      .nil)
    (.cons (.iff (.cmp .eq (.var 3) (.str "way"))
      (.cons (.ret (.tup (.cons (.var 3) (.cons (.idx (.lst (.cons (.int 0) (.cons (.int 1) (.cons (.int 2) (.cons (.int 3) (.cons (.int 999) .nil)))))) (.call "_law_draw" (.cons (.var 0) (.cons (.int 5) .nil)))) .nil))))
      .nil)
      .nil)
    (.cons (.iff (.cmp .eq (.var 3) (.str "sum"))
      (.cons (.set 7 (.lst .nil))
      (.cons (.for (.name 8) (.rng1 (.bin .add (.int 1) (.call "_law_draw" (.cons (.var 0) (.cons (.int 6) .nil)))))
        (.cons (.expr (.mth .append (.var 7) (.cons (.tup (.cons (.bin .sub (.call "_law_draw" (.cons (.var 0) (.cons (.int 19) .nil))) (.int 9)) (.cons (.call "_law_draw" (.cons (.var 0) (.cons (.var 1) .nil))) (.cons (.idx (.str "abcd") (.call "_law_draw" (.cons (.var 0) (.cons (.int 4) .nil)))) .nil)))) .nil)))
        .nil))
      (.cons (.ret (.tup (.cons (.var 3) (.cons (.bi .tuple (.cons (.var 7) .nil)) (.cons (.call "_law_bound" (.cons (.var 0) .nil)) .nil)))))
      .nil)))
      .nil)
    (.cons (.set 6 (.call "_law_sentence" (.cons (.var 0) (.cons (.var 1) (.cons (.bin .sub (.var 2) (.int 1)) .nil)))))
    (.cons (.iff (.cmp .eq (.var 3) (.str "not"))
      (.cons (.ret (.tup (.cons (.var 3) (.cons (.var 6) .nil))))
      .nil)
      .nil)
    (.cons (.ret (.tup (.cons (.var 3) (.cons (.var 6) (.cons (.call "_law_sentence" (.cons (.var 0) (.cons (.var 1) (.cons (.bin .sub (.var 2) (.int 1)) .nil)))) .nil)))))
    .nil))))))))))⟩
def fd__law_is_variable : Fd := ⟨1, 1,
    (.cons (.ret (.and (.cons (.isin (.var 0) "str") (.cons (.cmp .isin (.var 0) (.lst (.cons (.str "a") (.cons (.str "b") (.cons (.str "c") (.cons (.str "d") .nil)))))) .nil))))
    .nil)⟩
def fd__law_is_terms : Fd := ⟨2, 3,
    (.cons (.iff (.or (.cons (.not (.isin (.var 1) "tuple")) (.cons (.cmp .lt (.bi .len (.cons (.var 1) .nil)) (.int 1)) (.cons (.cmp .gt (.bi .len (.cons (.var 1) .nil)) (.int 6)) .nil))))
      (.cons (.ret (.bl false))
      .nil)
      .nil)
    (.cons (.for (.name 2) (.exp (.var 1))
      (.cons (.iff (.or (.cons (.not (.isin (.var 2) "tuple")) (.cons (.cmp .ne (.bi .len (.cons (.var 2) .nil)) (.int 3)) (.cons (.not (.call "_law_is_int" (.cons (.idx (.var 2) (.int 0)) (.cons (.un .neg (.int 9)) (.cons (.int 9) .nil))))) .nil))))
        (.cons (.ret (.bl false))
        .nil)
        .nil)
      (.cons (.iff (.or (.cons (.not (.call "_law_is_int" (.cons (.idx (.var 2) (.int 1)) (.cons (.int 0) (.cons (.bin .sub (.var 0) (.int 1)) .nil))))) (.cons (.not (.call "_law_is_variable" (.cons (.idx (.var 2) (.int 2)) .nil))) .nil)))
        (.cons (.ret (.bl false))
        .nil)
        .nil)
      .nil)))
    (.cons (.ret (.bl true))
    .nil)))⟩
def fd__law_is_sentence : Fd := ⟨3, 5,
    (.cons (.iff (.or (.cons (.not (.call "_law_is_int" (.cons (.var 0) (.cons (.int 1) (.cons (.int 6) .nil))))) (.cons (.cmp .gt (.var 2) (.int 6)) (.cons (.not (.isin (.var 1) "tuple")) (.cons (.cmp .lt (.bi .len (.cons (.var 1) .nil)) (.int 2)) .nil)))))
      (.cons (.ret (.bl false))
      .nil)
      .nil)
    (.cons (.set 3 (.idx (.var 1) (.int 0)))
    (.cons (.iff (.not (.isin (.var 3) "str"))
      (.cons (.ret (.bl false))
      .nil)
      .nil)
    (.cons (.iff (.cmp .isin (.tup (.cons (.var 3) (.cons (.bi .len (.cons (.var 1) .nil)) .nil))) (.lst (.cons (.tup (.cons (.str "not") (.cons (.int 2) .nil))) (.cons (.tup (.cons (.str "and") (.cons (.int 3) .nil))) (.cons (.tup (.cons (.str "or") (.cons (.int 3) .nil))) .nil)))))
      (.cons (.ret (.cmp .eq (.bi .len (.cons (.lc [("part", 4)] (.name 4) (.exp (.slc (.var 1) (.some (.int 1)) .none)) (.cons (.call "_law_is_sentence" (.cons (.var 0) (.cons (.var 4) (.cons (.bin .add (.var 2) (.int 1)) .nil)))) .nil) (.var 4)) .nil)) (.bin .sub (.bi .len (.cons (.var 1) .nil)) (.int 1))))
      .nil)
      .nil)
    (.cons (.iff (.cmp .eq (.tup (.cons (.var 3) (.cons (.bi .len (.cons (.var 1) .nil)) .nil))) (.tup (.cons (.str "way") (.cons (.int 2) .nil))))
      (.cons (.ret (.call "_law_is_int" (.cons (.idx (.var 1) (.int 1)) (.cons (.int 0) (.cons (.int 999) .nil)))))
      .nil)
      .nil)
    (.cons (.iff (.or (.cons (.cmp .notin (.tup (.cons (.var 3) (.cons (.bi .len (.cons (.var 1) .nil)) .nil))) (.lst (.cons (.tup (.cons (.str "at") (.cons (.int 4) .nil))) (.cons (.tup (.cons (.str "sum") (.cons (.int 3) .nil))) .nil)))) (.cons (.not (.call "_law_is_int" (.cons (.idx (.var 1) (.un .neg (.int 1))) (.cons (.un .neg (.int 100000)) (.cons (.int 100000) .nil))))) .nil)))
      (.cons (.ret (.bl false))
      .nil)
      .nil)
    (.cons (.iff (.cmp .eq (.var 3) (.str "sum"))
      (.cons (.ret (.call "_law_is_terms" (.cons (.var 0) (.cons (.idx (.var 1) (.int 1)) .nil))))
      .nil)
      .nil)
    (.cons (.ret (.and (.cons (.call "_law_is_int" (.cons (.idx (.var 1) (.int 1)) (.cons (.int 0) (.cons (.bin .sub (.var 0) (.int 1)) .nil)))) (.cons (.call "_law_is_variable" (.cons (.idx (.var 1) (.int 2)) .nil)) .nil))))
    .nil))))))))⟩
def fd__law_spoilt : Fd := ⟨3, 5,
    (.cons (.iff (.or (.cons (.not (.isin (.var 1) "tuple")) (.cons (.cmp .eq (.bi .len (.cons (.var 1) .nil)) (.int 0)) (.cons (.cmp .eq (.call "_law_draw" (.cons (.var 0) (.cons (.int 5) .nil))) (.int 0)) .nil))))
      (.cons (.ret (.var 2))
      .nil)
      .nil)
    (.cons (.set 3 (.call "_law_draw" (.cons (.var 0) (.cons (.bi .len (.cons (.var 1) .nil)) .nil))))
    (.cons (.set 4 (.call "_law_draw" (.cons (.var 0) (.cons (.int 8) .nil))))
    (.cons (.iff (.cmp .eq (.var 4) (.int 0))
      (.cons (.ret (.bin .add (.slc (.var 1) .none (.some (.var 3))) (.slc (.var 1) (.some (.bin .add (.var 3) (.int 1))) .none)))
      .nil)
      .nil)
    (.cons (.iff (.cmp .eq (.var 4) (.int 1))
      (.cons (.ret (.bin .add (.bin .add (.slc (.var 1) .none (.some (.var 3))) (.tup (.cons (.var 2) .nil))) (.slc (.var 1) (.some (.var 3)) .none)))
      .nil)
      .nil)
    (.cons (.iff (.cmp .eq (.var 4) (.int 2))
      (.cons (.ret (.bin .add (.bin .add (.slc (.var 1) .none (.some (.var 3))) (.slc (.var 1) (.some (.var 3)) (.some (.bin .add (.var 3) (.int 1))))) (.slc (.var 1) (.some (.var 3)) .none)))
      .nil)
      .nil)
    (.cons (.iff (.cmp .eq (.var 4) (.int 3))
      (.cons (.ret (.bin .add (.bin .add (.bin .add (.slc (.var 1) .none (.some (.var 3))) (.slc (.var 1) (.some (.bin .add (.var 3) (.int 1))) (.some (.bin .add (.var 3) (.int 2))))) (.slc (.var 1) (.some (.var 3)) (.some (.bin .add (.var 3) (.int 1))))) (.slc (.var 1) (.some (.bin .add (.var 3) (.int 2))) .none)))
      .nil)
      .nil)
    (.cons (.ret (.bin .add (.bin .add (.slc (.var 1) .none (.some (.var 3))) (.tup (.cons (.call "_law_spoilt" (.cons (.var 0) (.cons (.idx (.var 1) (.var 3)) (.cons (.var 2) .nil)))) .nil))) (.slc (.var 1) (.some (.bin .add (.var 3) (.int 1))) .none)))
    .nil))))))))⟩
def fd__law_odd : Fd := ⟨2, 3,
    (.cons (.set 2 (.lst (.cons (.int 0) (.cons (.un .neg (.int 1)) (.cons (.int 9) (.cons (.int 10) (.cons (.un .neg (.int 10)) (.cons (.int 999) (.cons (.int 1000) (.cons (.int 100000) (.cons (.int 100001) (.cons (.un .neg (.int 100001)) (.cons (.var 1) (.cons (.bin .sub (.var 1) (.int 1)) (.cons (.bl true) (.cons (.bl false) (.cons .non (.cons (.str "") (.cons (.str "a") (.cons (.str "e") (.cons (.str "ab") (.cons (.str "at") (.cons (.tup .nil) .nil)))))))))))))))))))))))
    (.cons (.set 2 (.bin .add (.var 2) (.lst (.cons (.tup (.cons (.str "way") (.cons (.int 1) .nil))) (.cons (.tup (.cons (.str "at") (.cons (.int 0) (.cons (.str "a") (.cons (.int 0) .nil))))) (.cons (.tup (.cons (.str "at") (.cons (.var 1) (.cons (.str "a") (.cons (.int 0) .nil))))) (.cons (.tup (.cons (.int 1) (.cons (.int 0) (.cons (.str "a") .nil)))) (.cons (.tup (.cons (.tup (.cons (.int 1) (.cons (.int 0) (.cons (.str "a") .nil)))) .nil)) (.cons (.bin .mul (.tup (.cons (.tup (.cons (.int 1) (.cons (.int 0) (.cons (.str "a") .nil)))) .nil)) (.int 7)) (.cons (.lst (.cons (.str "way") (.cons (.int 1) .nil))) .nil))))))))))
    (.cons (.ret (.idx (.var 2) (.call "_law_draw" (.cons (.var 0) (.cons (.int 28) .nil)))))
    .nil)))⟩
def fd__law_built : Fd := ⟨2, 5,
    (.cons (.set 2 (.call "_law_sentence" (.cons (.var 0) (.cons (.var 1) (.cons (.bin .add (.int 1) (.call "_law_draw" (.cons (.var 0) (.cons (.int 6) .nil)))) .nil)))))
    (.cons (.iff (.cmp .eq (.call "_law_draw" (.cons (.var 0) (.cons (.int 3) .nil))) (.int 0))
      (.cons (.for (.name 4) (.rng1 (.call "_law_draw" (.cons (.var 0) (.cons (.int 4) .nil))))
        (.cons (.set 2 (.idx (.lst (.cons (.tup (.cons (.str "not") (.cons (.var 2) .nil))) (.cons (.tup (.cons (.str "and") (.cons (.tup (.cons (.str "way") (.cons (.var 4) .nil))) (.cons (.var 2) .nil)))) (.cons (.tup (.cons (.str "or") (.cons (.var 2) (.cons (.tup (.cons (.str "at") (.cons (.int 0) (.cons (.str "d") (.cons (.var 4) .nil))))) .nil)))) .nil)))) (.call "_law_draw" (.cons (.var 0) (.cons (.int 3) .nil)))))
        .nil))
      .nil)
      .nil)
    (.cons (.set 3 (.call "_law_draw" (.cons (.var 0) (.cons (.int 6) .nil))))
    (.cons (.iff (.cmp .lt (.var 3) (.int 2))
      (.cons (.ret (.call "_law_spoilt" (.cons (.var 0) (.cons (.var 2) (.cons (.call "_law_odd" (.cons (.var 0) (.cons (.var 1) .nil))) .nil)))))
      .nil)
      .nil)
    (.cons (.iff (.cmp .eq (.var 3) (.int 2))
      (.cons (.ret (.bin .add (.tup (.cons (.idx (.lst (.cons (.str "at") (.cons (.str "way") (.cons (.str "sum") (.cons (.str "not") (.cons (.str "and") (.cons (.str "or") (.cons (.str "xor") (.cons (.str "") (.cons (.int 5) (.cons .non .nil))))))))))) (.call "_law_draw" (.cons (.var 0) (.cons (.int 10) .nil)))) .nil)) (.slc (.var 2) (.some (.int 1)) .none)))
      .nil)
      .nil)
    (.cons (.ret (.var 2))
    .nil))))))⟩
def fd_law : Fd := ⟨1, 6,
    (.cons (.for (.name 1) (.rng1 (.bi .max (.cons (.int 1) (.cons (.bi .min (.cons (.int 20) (.cons (.bi .len (.cons (.var 0) .nil)) .nil))) .nil))))
      (.cons (.set 2 (.call "_law_bag" (.cons (.var 0) (.cons (.var 1) .nil))))
      (.cons (.set 3 (.bin .add (.int 1) (.call "_law_draw" (.cons (.var 2) (.cons (.int 6) .nil)))))
      (.cons (.set 4 (.call "_law_built" (.cons (.var 2) (.cons (.var 3) .nil))))
      (.cons (.iff (.cmp .eq (.call "_law_draw" (.cons (.var 2) (.cons (.int 5) .nil))) (.int 0))
        (.cons (.set 3 (.idx (.lst (.cons (.int 1) (.cons (.int 2) (.cons (.int 3) (.cons (.int 6) (.cons (.int 0) (.cons (.int 7) (.cons (.un .neg (.int 1)) (.cons (.bl true) (.cons .non (.cons (.str "2") .nil))))))))))) (.call "_law_draw" (.cons (.var 2) (.cons (.int 10) .nil)))))
        .nil)
        .nil)
      (.cons (.set 5 (.call "is_sentence" (.cons (.var 3) (.cons (.var 4) .nil))))
      (.cons (.iff (.or (.cons (.not (.isin (.var 5) "bool")) (.cons (.cmp .ne (.var 5) (.call "_law_is_sentence" (.cons (.var 3) (.cons (.var 4) (.cons (.int 1) .nil))))) .nil)))
        (.cons (.ret (.bl false))
        .nil)
        .nil)
      .nil)))))))
    (.cons (.ret (.and (.cons (.cmp .is (.call "is_sentence" (.cons (.int 1) (.cons .non .nil))) (.bl false)) (.cons (.cmp .is (.call "is_sentence" (.cons (.int 1) (.cons (.str "way") .nil))) (.bl false)) .nil))))
    .nil))⟩
def fns : List (Str × Fd) := [("is_integer", fd_is_integer), ("is_sentence", fd_is_sentence), ("_is_row", fd__is_row), ("_is_named", fd__is_named), ("_is_variable", fd__is_variable), ("_is_nested", fd__is_nested), ("_is_plain", fd__is_plain), ("_is_place", fd__is_place), ("_is_bound", fd__is_bound), ("_are_terms", fd__are_terms), ("_is_term", fd__is_term), ("_law_bag", fd__law_bag), ("_law_draw", fd__law_draw), ("_law_is_int", fd__law_is_int), ("_law_bound", fd__law_bound), ("_law_sentence", fd__law_sentence), ("_law_is_variable", fd__law_is_variable), ("_law_is_terms", fd__law_is_terms), ("_law_is_sentence", fd__law_is_sentence), ("_law_spoilt", fd__law_spoilt), ("_law_odd", fd__law_odd), ("_law_built", fd__law_built), ("law", fd_law)]
def csL : List (Str × D) := [("MOST_PROCESSES", (.int 6)), ("MOST_LETTER", (.int 999)), ("MOST_TERMS", (.int 6)), ("MOST_WEIGHT", (.int 9)), ("MOST_BOUND", (.int 100000)), ("MOST_NESTING", (.int 6)), ("VARIABLES", (.tup [(.str "a"), (.str "b"), (.str "c"), (.str "d")]))]
def L : Lang := ⟨fun f => fns.lookup f, fun x => csL.lookup x, fun _ _ => false, 0⟩
def names : List Str := ["is_integer", "is_sentence", "_is_row", "_is_named", "_is_variable", "_is_nested", "_is_plain", "_is_place", "_is_bound", "_are_terms", "_is_term", "_law_bag", "_law_draw", "_law_is_int", "_law_bound", "_law_sentence", "_law_is_variable", "_law_is_terms", "_law_is_sentence", "_law_spoilt", "_law_odd", "_law_built", "law"]
theorem fn_is_integer : L.fns "is_integer" = some fd_is_integer := rfl
theorem fn_is_sentence : L.fns "is_sentence" = some fd_is_sentence := rfl
theorem fn__is_row : L.fns "_is_row" = some fd__is_row := rfl
theorem fn__is_named : L.fns "_is_named" = some fd__is_named := rfl
theorem fn__is_variable : L.fns "_is_variable" = some fd__is_variable := rfl
theorem fn__is_nested : L.fns "_is_nested" = some fd__is_nested := rfl
theorem fn__is_plain : L.fns "_is_plain" = some fd__is_plain := rfl
theorem fn__is_place : L.fns "_is_place" = some fd__is_place := rfl
theorem fn__is_bound : L.fns "_is_bound" = some fd__is_bound := rfl
theorem fn__are_terms : L.fns "_are_terms" = some fd__are_terms := rfl
theorem fn__is_term : L.fns "_is_term" = some fd__is_term := rfl
theorem fn__law_bag : L.fns "_law_bag" = some fd__law_bag := rfl
theorem fn__law_draw : L.fns "_law_draw" = some fd__law_draw := rfl
theorem fn__law_is_int : L.fns "_law_is_int" = some fd__law_is_int := rfl
theorem fn__law_bound : L.fns "_law_bound" = some fd__law_bound := rfl
theorem fn__law_sentence : L.fns "_law_sentence" = some fd__law_sentence := rfl
theorem fn__law_is_variable : L.fns "_law_is_variable" = some fd__law_is_variable := rfl
theorem fn__law_is_terms : L.fns "_law_is_terms" = some fd__law_is_terms := rfl
theorem fn__law_is_sentence : L.fns "_law_is_sentence" = some fd__law_is_sentence := rfl
theorem fn__law_spoilt : L.fns "_law_spoilt" = some fd__law_spoilt := rfl
theorem fn__law_odd : L.fns "_law_odd" = some fd__law_odd := rfl
theorem fn__law_built : L.fns "_law_built" = some fd__law_built := rfl
theorem fn_law : L.fns "law" = some fd_law := rfl
theorem cs_MOST_PROCESSES : L.cs "MOST_PROCESSES" = some (.int 6) := rfl
theorem cs_MOST_LETTER : L.cs "MOST_LETTER" = some (.int 999) := rfl
theorem cs_MOST_TERMS : L.cs "MOST_TERMS" = some (.int 6) := rfl
theorem cs_MOST_WEIGHT : L.cs "MOST_WEIGHT" = some (.int 9) := rfl
theorem cs_MOST_BOUND : L.cs "MOST_BOUND" = some (.int 100000) := rfl
theorem cs_MOST_NESTING : L.cs "MOST_NESTING" = some (.int 6) := rfl
theorem cs_VARIABLES : L.cs "VARIABLES" = some (.tup [(.str "a"), (.str "b"), (.str "c"), (.str "d")]) := rfl
end LL

set_option linter.all false
set_option maxRecDepth 100000
set_option maxHeartbeats 1000000
/-! What the forms' defs answer: events and integers. -/
namespace Th
open PySem L2 Mi LL

def tyD : D → String
  | .non => "NoneType" | .bl _ => "bool" | .int _ => "int" | .str _ => "str" | .tup _ => "tuple" | .fl _ => "?" | .ref _ => "list"
mutual
/-- a value as the drawn ones are: what it holds by name are lists -/
def Wf (st : Store) : D → Prop
  | .tup xs => WfL st xs ∧ xs.length ≤ LINE
  | .fl _ => False
  | .ref n => ∃ xs, st[n]? = some (.lst xs)
  | .str x => PyData.strOk x = true
  | _ => True
def WfL (st : Store) : List D → Prop
  | [] => True
  | x :: xs => Wf st x ∧ WfL st xs
end
theorem wfL_mem {st : Store} : ∀ {xs : List D}, WfL st xs → ∀ x ∈ xs, Wf st x
  | y :: ys, h, x, hx => by
    rcases List.mem_cons.mp hx with rfl | hx
    · exact h.1
    · exact wfL_mem h.2 x hx
theorem wfL_of {st : Store} : ∀ {xs : List D}, (∀ x ∈ xs, Wf st x) → WfL st xs
  | [], _ => trivial
  | y :: ys, h => ⟨h y List.mem_cons_self, wfL_of fun x hx => h x (List.mem_cons_of_mem _ hx)⟩
theorem wf_get {st : Store} {xs : List D} {i : Nat} {d : D} (h : Wf st (.tup xs)) (e : xs[i]? = some d) : Wf st d := wfL_mem h.1 d (List.mem_of_getElem? e)
mutual
theorem wf_mono {st st' : Store} (k : ∀ (n : Nat) (xs : List D), st[n]? = some (MO.lst xs) → ∃ ys, st'[n]? = some (MO.lst ys)) : ∀ {d : D}, Wf st d → Wf st' d
  | .tup xs, h => ⟨wfL_mono k h.1, h.2⟩
  | .fl _, h => h.elim
  | .ref n, ⟨xs, e⟩ => k n xs e
  | .str x, h => h
  | .non, _ => trivial
  | .bl _, _ => trivial
  | .int _, _ => trivial
theorem wfL_mono {st st' : Store} (k : ∀ (n : Nat) (xs : List D), st[n]? = some (MO.lst xs) → ∃ ys, st'[n]? = some (MO.lst ys)) : ∀ {xs : List D}, WfL st xs → WfL st' xs
  | [], _ => trivial
  | _ :: _, h => ⟨wf_mono k h.1, wfL_mono k h.2⟩
end
theorem wf_app {st g : Store} {d : D} (h : Wf st d) : Wf (st ++ g) d := wf_mono (fun n xs e => ⟨xs, by
  obtain ⟨hi, _⟩ := List.getElem?_eq_some_iff.mp e
  rw [List.getElem?_append_left hi]; exact e⟩) h
theorem ty_wf {st : Store} {d : D} (h : Wf st d) : tyNameS st d = some (tyD d) := by
  cases d <;> try rfl
  · exact h.elim
  · obtain ⟨xs, e⟩ := h
    simp [tyNameS, e, tyD]

def isIntD (a b : Int) : D → Bool
  | .int i => decide (a ≤ i) && decide (i ≤ b)
  | _ => false
def isRowD (a b : Int) : D → Bool
  | .tup xs => decide (a ≤ xs.length) && decide ((xs.length : Int) ≤ b)
  | _ => false
def isNamedD : D → Bool
  | .tup (.str _ :: _) => true
  | _ => false
def isVarD : D → Bool
  | .str x => Str.ofString "a" == x || (Str.ofString "b" == x || (Str.ofString "c" == x || Str.ofString "d" == x))
  | _ => false
def isChangeD : D → Bool
  | .tup [v, w] => isVarD v && isIntD (-1000) 1000 w
  | _ => false

theorem pred_ {n c : Nat} (h : c + 1 ≤ n) : ∃ m, n = m + 1 ∧ c ≤ m := ⟨n - 1, by omega, by omega⟩

section
variable {st : Store}
theorem is_integer_ok {n : Nat} (hn : 1 ≤ n) {d : D} {a b : Int} (h : Wf st d) : callK L n "is_integer" [d, .int a, .int b] st = .ok (.bl (isIntD a b d)) st := by
  obtain ⟨m, rfl, _⟩ := pred_ hn
  rw [call_open fn_is_integer rfl]
  have ht := ty_wf h
  cases d <;> simp [fd_is_integer, startE, isIntD, ht, tyD]
theorem row_ok {n : Nat} (hn : 1 ≤ n) {d : D} {a b : Int} (h : Wf st d) : callK L n "_is_row" [d, .int a, .int b] st = .ok (.bl (isRowD a b d)) st := by
  obtain ⟨m, rfl, _⟩ := pred_ hn
  rw [call_open fn__is_row rfl]
  have ht := ty_wf h
  cases d <;> simp [fd__is_row, startE, isRowD, ht, tyD]
theorem named_ok {n : Nat} (hn : 1 ≤ n) {d : D} (h : Wf st d) : callK L n "_is_named" [d] st = .ok (.bl (isNamedD d)) st := by
  obtain ⟨m, rfl, _⟩ := pred_ hn
  rw [call_open fn__is_named rfl]
  have ht := ty_wf h
  cases d with
  | tup xs =>
    cases xs with
    | nil => simp [fd__is_named, startE, isNamedD, ht, tyD]
    | cons x xs =>
      have h2 := ty_wf h.1.1
      have hp : (0 : Int) < (xs.length : Int) + 1 := by omega
      cases x <;> simp [fd__is_named, startE, isNamedD, ht, tyD, h2, hp]
  | _ => simp [fd__is_named, startE, isNamedD, ht, tyD]

theorem variable_ok {n : Nat} (hn : 1 ≤ n) {d : D} (h : Wf st d) : callK L n "_is_variable" [d] st = .ok (.bl (isVarD d)) st := by
  obtain ⟨m, rfl, _⟩ := pred_ hn
  rw [call_open fn__is_variable rfl]
  have ht := ty_wf h
  cases d with
  | str x =>
    simp [fd__is_variable, startE, isVarD, ht, tyD, cs_VARIABLES, cmpop, inD, flatD, D.data, D.dataL, PyData.eqv, resB]
  | _ => simp [fd__is_variable, startE, isVarD, ht, tyD]
theorem wf_2 {v w : D} (h : Wf st (.tup [v, w])) : Wf st v ∧ Wf st w := ⟨h.1.1, h.1.2.1⟩
end
end Th

set_option linter.all false
set_option maxRecDepth 100000
set_option maxHeartbeats 1000000
/-! What holds behind a run. -/
namespace Th
open PySem L2 Mi LL

def WR (r : Res) (Q : D → Store → Prop) (E : Str → Store → Prop) : Prop := match r with
  | .ok d st => Q d st
  | .exc c st => E c st
  | .bad => False
def WL (r : ResL) (Q : List D → Store → Prop) (E : Str → Store → Prop) : Prop := match r with
  | .ok d st => Q d st
  | .exc c st => E c st
  | .bad => False
def WO (o : Out) (Q : Out → Prop) : Prop := match o with
  | .bad => False
  | o => Q o
def noE : Str → Store → Prop := fun _ _ => False
section
variable {Q : D → Store → Prop} {E : Str → Store → Prop} {P : Out → Prop} {QL : List D → Store → Prop}
@[simp] theorem wr_ok {d : D} {st : Store} : WR (.ok d st) Q E = Q d st := rfl
@[simp] theorem wr_exc {d : Str} {st : Store} : WR (.exc d st) Q E = E d st := rfl
@[simp] theorem wr_bad : WR .bad Q E = False := rfl
@[simp] theorem wl_ok {d : List D} {st : Store} : WL (.ok d st) QL E = QL d st := rfl
@[simp] theorem wr_bind {r : Res} {k : D → Store → Res} : WR (r.bind k) Q E = WR r (fun d s => WR (k d s) Q E) E := by cases r <;> rfl
@[simp] theorem wl_bind {r : ResL} {k : List D → Store → Res} : WR (r.bind k) Q E = WL r (fun d s => WR (k d s) Q E) E := by cases r <;> rfl
@[simp] theorem wr_bindL {r : Res} {k : D → Store → ResL} : WL (r.bindL k) QL E = WR r (fun d s => WL (k d s) QL E) E := by cases r <;> rfl
@[simp] theorem wl_bindL {r : ResL} {k : List D → Store → ResL} : WL (r.bindL k) QL E = WL r (fun d s => WL (k d s) QL E) E := by cases r <;> rfl
@[simp] theorem wo_bindO {r : Res} {env : Mi.Env} {k : D → Store → Out} : WO (r.bindO env k) P = WR r (fun d s => WO (k d s) P) (fun c s => P (.exc c env s)) := by cases r <;> rfl
@[simp] theorem wo_nx {env : Mi.Env} {st : Store} : WO (.nx env st) P = P (.nx env st) := rfl
@[simp] theorem wo_rt {d : D} {st : Store} : WO (.rt d st) P = P (.rt d st) := rfl
@[simp] theorem wo_bk {env : Mi.Env} {st : Store} : WO (.bk env st) P = P (.bk env st) := rfl
@[simp] theorem wo_ct {env : Mi.Env} {st : Store} : WO (.ct env st) P = P (.ct env st) := rfl
@[simp] theorem wo_exc {c : Str} {env : Mi.Env} {st : Store} : WO (.exc c env st) P = P (.exc c env st) := rfl
@[simp] theorem bindO_bind {r : Res} {env : Mi.Env} {j : D → Store → Out} {k : Mi.Env → Store → Out} : (r.bindO env j).bind k = r.bindO env (fun d s => (j d s).bind k) := by cases r <;> rfl
@[simp] theorem out_bind_bind {o : Out} {j k : Mi.Env → Store → Out} : (o.bind j).bind k = o.bind (fun e s => (j e s).bind k) := by cases o <;> rfl
@[simp] theorem wr_ite {c : Prop} [Decidable c] {a b : Res} : WR (if c then a else b) Q E = ((c → WR a Q E) ∧ (¬ c → WR b Q E)) := by split <;> simp [*]
@[simp] theorem wl_ite {c : Prop} [Decidable c] {a b : ResL} : WL (if c then a else b) QL E = ((c → WL a QL E) ∧ (¬ c → WL b QL E)) := by split <;> simp [*]
@[simp] theorem wo_ite {c : Prop} [Decidable c] {a b : Out} : WO (if c then a else b) P = ((c → WO a P) ∧ (¬ c → WO b P)) := by split <;> simp [*]
@[simp] theorem out_ite_bind {c : Prop} [Decidable c] {a b : Out} {k : Mi.Env → Store → Out} : (if c then a else b).bind k = if c then a.bind k else b.bind k := by split <;> rfl
theorem wo_seq {o : Out} {k : Mi.Env → Store → Out} {R : Out → Prop} (h : WO o R) (g : ∀ o, R o → WO (o.bind k) P) : WO (o.bind k) P := by
  cases o <;> first | exact g _ h | exact h.elim
theorem wo_mono {o : Out} {R : Out → Prop} (h : WO o R) (g : ∀ o, R o → P o) : WO o P := by
  cases o <;> first | exact g _ h | exact h.elim
theorem wr_mono {r : Res} {Q' : D → Store → Prop} {E' : Str → Store → Prop} (h : WR r Q' E') (g : ∀ d s, Q' d s → Q d s) (ge : ∀ d s, E' d s → E d s) : WR r Q E := by
  cases r
  · exact g _ _ h
  · exact ge _ _ h
  · exact h
theorem wr_no {r : Res} {Q' : D → Store → Prop} (h : WR r Q' noE) (g : ∀ d s, Q' d s → Q d s) : WR r Q E := wr_mono h g fun _ _ h => h.elim
theorem wr_eq {r : Res} {d : D} {st : Store} (h : r = .ok d st) (g : Q d st) : WR r Q E := by rw [h]; exact g
theorem wr_get {r : Res} (h : WR r Q noE) : ∃ d st, r = .ok d st ∧ Q d st := by
  cases r
  · exact ⟨_, _, rfl, h⟩
  · exact h.elim
  · exact h.elim
end
theorem call_wr {L : Lang} {n : Nat} {f : Str} {fd : Fd} {ds : List D} {st : Store} {Q : D → Store → Prop} {E : Str → Store → Prop} (h : L.fns f = some fd) (hl : ds.length = fd.n)
    (w : WO (evSs (callK L n) L.cs L.sub L.wf fd.body (startE fd ds) st) (fun o => WR (gc st o.fin) Q E)) : WR (callK L (n + 1) f ds st) Q E := by
  rw [call_open h hl]
  revert w
  cases evSs (callK L n) L.cs L.sub L.wf fd.body (startE fd ds) st <;> intro w <;> first | exact w | exact w.elim

/-! ### the bag -/
def Bag (st : Store) (n : Nat) : Prop := ∃ a b c : Int, st[n]? = some (.lst [.int a, .int b, .int c])
/-- later: the bag stands, all else of before stands as it stood -/
structure Ext (n : Nat) (st st' : Store) : Prop where
  le : st.length ≤ st'.length
  bag : Bag st' n
  keep : ∀ i, i < st.length → i ≠ n → st'[i]? = st[i]?
theorem Bag.lt {st : Store} {n : Nat} (b : Bag st n) : n < st.length := by
  obtain ⟨a, b, c, h⟩ := b
  exact (List.getElem?_eq_some_iff.mp h).1
theorem Bag.app {st g : Store} {n : Nat} (b : Bag st n) : Bag (st ++ g) n := by
  have := b.lt
  obtain ⟨a, b, c, h⟩ := b
  exact ⟨a, b, c, by rw [List.getElem?_append_left this]; exact h⟩
theorem Ext.refl {st : Store} {n : Nat} (b : Bag st n) : Ext n st st := ⟨Nat.le_refl _, b, fun _ _ _ => rfl⟩
theorem Ext.trans {n : Nat} {a b c : Store} (h : Ext n a b) (k : Ext n b c) : Ext n a c := ⟨Nat.le_trans h.le k.le, k.bag, fun i hi hn => by
  rw [k.keep i (Nat.lt_of_lt_of_le hi h.le) hn, h.keep i hi hn]⟩
theorem Ext.app {n : Nat} {st g : Store} (b : Bag st n) : Ext n st (st ++ g) := ⟨by simp, b.app, fun i hi _ => List.getElem?_append_left hi⟩
theorem Ext.of_app {n : Nat} {st g st' : Store} (b : Bag st n) (h : Ext n (st ++ g) st') : Ext n st st' := (Ext.app b).trans h
theorem Ext.get {n : Nat} {st st' : Store} {i : Nat} {mo : MO} (h : Ext n st st') (hn : i ≠ n) (e : st[i]? = some mo) : st'[i]? = some mo := by
  rw [h.keep i (List.getElem?_eq_some_iff.mp e).1 hn]; exact e
theorem Ext.new {n : Nat} {st g st' : Store} {mo : MO} (b : Bag st n) (h : Ext n (st ++ mo :: g) st') : st'[st.length]? = some mo := by
  rw [h.keep st.length (by simp) (by have := b.lt; omega)]
  simp
theorem Ext.wf {n : Nat} {st st' : Store} (h : Ext n st st') {d : D} (w : Wf st d) : Wf st' d := wf_mono (fun i xs e => by
  by_cases q : i = n
  · subst q
    obtain ⟨a, b, c, h⟩ := h.bag
    exact ⟨_, h⟩
  · exact ⟨xs, h.get q e⟩) w
mutual
theorem wf_take {st : Store} {k : Nat} : ∀ {d : D}, Wf st d → closedD k d = true → Wf (st.take k) d
  | .tup xs, h, c => ⟨wfL_take h.1 c, h.2⟩
  | .fl _, h, _ => h.elim
  | .ref n, ⟨xs, e⟩, c => ⟨xs, by rw [List.getElem?_take, if_pos (by simpa [closedD] using c)]; exact e⟩
  | .str x, h, _ => h
  | .non, _, _ => trivial
  | .bl _, _, _ => trivial
  | .int _, _, _ => trivial
theorem wfL_take {st : Store} {k : Nat} : ∀ {xs : List D}, WfL st xs → closedDs k xs = true → WfL (st.take k) xs
  | [], _, _ => trivial
  | _ :: _, h, c => ⟨wf_take h.1 (by simp only [closedDs, Bool.and_eq_true] at c; exact c.1), wfL_take h.2 (by simp only [closedDs, Bool.and_eq_true] at c; exact c.2)⟩
end
theorem Ext.take {n : Nat} {st st' : Store} (b : Bag st n) (h : Ext n st st') : Ext n st (st'.take st.length) := by
  refine ⟨by rw [List.length_take]; have := h.le; omega, ?_, fun i hi hn => ?_⟩
  · obtain ⟨x, y, z, e⟩ := h.bag
    exact ⟨x, y, z, by rw [List.getElem?_take, if_pos b.lt]; exact e⟩
  · rw [List.getElem?_take, if_pos hi]; exact h.keep i hi hn
/-- what a call leaves, when new things are let go -/
theorem wr_gc {n : Nat} {st st' : Store} {d : D} {Q : D → Store → Prop} {E : Str → Store → Prop} (b : Bag st n) (h : Ext n st st') (w : Wf st' d) (g : ∀ s, Ext n st s → Wf s d → Q d s) : WR (gc st (.ok d st')) Q E := by
  unfold gc
  by_cases c : gcOk st st' ∧ closedD st.length d = true
  · simp only [if_pos c]
    exact g _ (h.take b) (wf_take w c.2)
  · simp only [if_neg c]
    exact g _ h w
theorem truth_ {st : Store} {b : Bool} : truth st (.bl b) = some b := rfl
theorem setIx_run {st : Store} {n k : Nat} {xs : List D} {i : Int} {d : D} (h : st[n]? = some (.lst xs)) (e : ixN xs.length i = some k) : setIxop (.ref n) (.int i) d st = some (st.set n (.lst (xs.set k d))) := by
  simp [setIxop, h, e]
def setB (o : Option Store) (env : Mi.Env) : Out := match o with
  | some st => .nx env st
  | none => .bad
@[simp] theorem setB_some {st : Store} {env : Mi.Env} : setB (some st) env = .nx env st := rfl
@[simp] theorem evS_setIx' {C : Oracle} {cs : Str → Option D} {sub : Str → Str → Bool} {wf : Nat} {env : Mi.Env} {st : Store} (o i e : E) : evS C cs sub wf (.setIx o i e) env st = (evE C cs e env st).bindO env fun d st => (evE C cs o env st).bindO env fun x st => (evE C cs i env st).bindO env fun y st => setB (setIxop x y d st) env := rfl
theorem get_set {st : Store} {n : Nat} {mo m : MO} (h : st[n]? = some m) : (st.set n mo)[n]? = some mo := by
  rw [List.getElem?_set_self (List.getElem?_eq_some_iff.mp h).1]
@[simp] theorem mod_ii (i j : Int) (st : Store) : binop .mod (.int i) (.int j) st = if 0 < j then .ok (.int (i % j)) st else .bad := rfl
@[simp] theorem fdiv_ii (i j : Int) (st : Store) : binop .fdiv (.int i) (.int j) st = if okDiv j then .ok (.int (i / j)) st else .bad := rfl
@[simp] theorem mul_ii (i j : Int) (st : Store) : binop .mul (.int i) (.int j) st = if in64 i ∨ in64 j then .ok (.int (i * j)) st else .bad := rfl
@[simp] theorem int_ii (i : Int) (st : Store) : biop .int [.int i] st = .ok (.int i) st := rfl

@[simp high] theorem app_get {st g : Store} {k : Nat} : (st ++ g)[st.length + k]? = g[k]? := by rw [List.getElem?_append_right (by omega)]; congr 1; omega
@[simp high] theorem app_get2 {st g : Store} : (st ++ g)[st.length + 1 + 1]? = g[2]? := app_get (k := 2)
@[simp high] theorem app_get3 {st g : Store} : (st ++ g)[st.length + 1 + 1 + 1]? = g[3]? := app_get (k := 3)
@[simp high] theorem app_get4 {st g : Store} : (st ++ g)[st.length + 1 + 1 + 1 + 1]? = g[4]? := app_get (k := 4)
end Th

set_option linter.all false
set_option maxRecDepth 100000
set_option maxHeartbeats 1000000
/-! The laws' draws. -/
namespace Th
open PySem L2 Mi LL

theorem bag_set {st : Store} {n : Nat} {a b c : Int} {m : MO} (h : st[n]? = some m) : Bag (st.set n (.lst [.int a, .int b, .int c])) n := ⟨a, b, c, get_set h⟩
theorem ext_set {st : Store} {n : Nat} {a b c : Int} {m : MO} (h : st[n]? = some m) : Ext n st (st.set n (.lst [.int a, .int b, .int c])) :=
  ⟨by simp, bag_set h, fun i hi hn => List.getElem?_set_ne (Ne.symm hn)⟩
theorem six0 {st : Store} {n : Nat} {a b c d : D} (h : st[n]? = some (.lst [a, b, c])) : setIxop (.ref n) (.int 0) d st = some (st.set n (.lst [d, b, c])) := setIx_run (k := 0) h rfl
theorem six1 {st : Store} {n : Nat} {a b c d : D} (h : st[n]? = some (.lst [a, b, c])) : setIxop (.ref n) (.int 1) d st = some (st.set n (.lst [a, d, c])) := setIx_run (k := 1) h rfl
theorem draw_wr {N n : Nat} {k : Int} {st : Store} (hN : 1 ≤ N) (b : Bag st n) (hk : 0 < k) (hk2 : k < 1073741824) :
    WR (callK L N "_law_draw" [.ref n, .int k] st) (fun d s => ∃ v : Int, d = .int v ∧ 0 ≤ v ∧ v < k ∧ Ext n st s) noE := by
  obtain ⟨N, rfl, _⟩ := pred_ hN
  refine call_wr fn__law_draw rfl ?_
  have bl := b.lt
  obtain ⟨x, y, z, h⟩ := b
  have e0 : ∀ {a b c : D}, ixN [a, b, c].length 0 = some 0 := rfl
  have e1 : ∀ {a b c : D}, ixN [a, b, c].length 1 = some 1 := rfl
  have hx := fun i => idx_ref (st := st) (n := n) (xs := [.int x, .int y, .int z]) i h
  have fin : ∀ {v w : Int} {st' : Store}, 0 ≤ v → v < k → Ext n st st' → WR (gc st (.ok (.int v) st')) (fun d s => ∃ v : Int, d = .int v ∧ 0 ≤ v ∧ v < k ∧ Ext n st s) noE := by
    intro v w st' h0 h1 hs
    exact wr_gc ⟨x, y, z, h⟩ hs trivial fun s hs _ => ⟨v, rfl, h0, h1, hs⟩
  by_cases hz : x = 0
  · subst hz
    have key : ∀ (v : Int) (o : Int), 0 ≤ v → v < 2 ^ 31 → WO (Out.rt (.int (o % k)) ((((st.set n (.lst [.int o, .int y, .int z])).set n (.lst [.int o, .int v, .int z])).set n (.lst [.int (o / k), .int v, .int z])))) (fun o => WR (gc st o.fin) (fun d s => ∃ v : Int, d = .int v ∧ 0 ≤ v ∧ v < k ∧ Ext n st s) noE) := by
      intro v o hv hv2
      simp only [wo_rt, fin_rt]
      refine fin (w := 0) (Int.emod_nonneg _ (by omega)) (Int.emod_lt_of_pos _ hk) ?_
      rw [List.set_set, List.set_set]
      exact ext_set h
    have s1 : ∀ (d : D), setIxop (.ref n) (.int 0) d st = some (st.set n (.lst [d, .int y, .int z])) := fun d => six0 h
    have s2 : ∀ (d e : D), setIxop (.ref n) (.int 1) d (st.set n (.lst [e, .int y, .int z])) = some (st.set n (.lst [e, d, .int z])) := fun d e => by rw [six1 (get_set h), List.set_set]
    have s3 : ∀ (d e f : D), setIxop (.ref n) (.int 0) d (st.set n (.lst [e, f, .int z])) = some (st.set n (.lst [d, f, .int z])) := fun d e f => by rw [six0 (get_set h), List.set_set]
    have i2 : ∀ (e f : D) i, idxop (.ref n) (.int i) (st.set n (.lst [e, f, .int z])) = glbB (atI [e, f, .int z] i) (st.set n (.lst [e, f, .int z])) := fun e f i => idx_ref i (get_set h)
    have v0 : 0 ≤ (y * 48271 + z * 69621 + 11) % 2147483647 := Int.emod_nonneg _ (by omega)
    have v1 : (y * 48271 + z * 69621 + 11) % 2147483647 < 2147483647 := Int.emod_lt_of_pos _ (by omega)
    have v2 : -18446744073709551616 < (y * 48271 + z * 69621 + 11) % 2147483647 := by omega
    have v3 : (y * 48271 + z * 69621 + 11) % 2147483647 < 18446744073709551616 := by omega
    simp [fd__law_draw, startE, hx, s1, s2, s3, i2, hk, hk2, v2, v3]
    have := key _ ((y * 48271 + z * 69621 + 11) % 2147483647 * 2147483629 + (((y * 48271 + z * 69621 + 11) % 2147483647) * ((y * 48271 + z * 69621 + 11) % 2147483647) + z * 16807) % 2147483629) v0 (by omega)
    simpa using this
  · have s1 : ∀ (d : D), setIxop (.ref n) (.int 0) d st = some (st.set n (.lst [d, .int y, .int z])) := fun d => six0 h
    simp [fd__law_draw, startE, hx, s1, hk, hk2, hz]
    exact fin (w := 0) (Int.emod_nonneg _ (by omega)) (Int.emod_lt_of_pos _ hk) (ext_set h)
end Th

set_option linter.all false
set_option maxRecDepth 100000
set_option maxHeartbeats 1000000
/-! Loops; drawn values. -/
namespace Th
open PySem L2 Mi LL

def Lp (J : Mi.Env → Store → Prop) (Q : Out → Prop) : Out → Prop
  | .nx e s => J e s
  | .ct e s => J e s
  | .bk e s => Q (.nx e s)
  | o => Q o
@[simp] theorem lp_nx {J : Mi.Env → Store → Prop} {Q : Out → Prop} {e : Mi.Env} {s : Store} : Lp J Q (.nx e s) = J e s := rfl
@[simp] theorem lp_ct {J : Mi.Env → Store → Prop} {Q : Out → Prop} {e : Mi.Env} {s : Store} : Lp J Q (.ct e s) = J e s := rfl
@[simp] theorem lp_bk {J : Mi.Env → Store → Prop} {Q : Out → Prop} {e : Mi.Env} {s : Store} : Lp J Q (.bk e s) = Q (.nx e s) := rfl
@[simp] theorem lp_rt {J : Mi.Env → Store → Prop} {Q : Out → Prop} {e : D} {s : Store} : Lp J Q (.rt e s) = Q (.rt e s) := rfl
@[simp] theorem lp_exc {J : Mi.Env → Store → Prop} {Q : Out → Prop} {c : Str} {e : Mi.Env} {s : Store} : Lp J Q (.exc c e s) = Q (.exc c e s) := rfl
theorem for_list {step : D → Mi.Env → Store → Out} {gd : Option (Nat × List D)} {Q : Out → Prop} (I : List D → Mi.Env → Store → Prop)
    (h : ∀ x xs env st, I (x :: xs) env st → gdOk gd st ∧ WO (step x env st) (Lp (I xs) Q)) (h0 : ∀ env st, I [] env st → gdOk gd st ∧ Q (.nx env st)) :
    ∀ xs env st, I xs env st → WO (forL step gd xs env st) Q
  | [], env, st, i => by
    obtain ⟨g, q⟩ := h0 env st i
    simp only [forL, if_pos g]
    exact q
  | x :: xs, env, st, i => by
    obtain ⟨g, q⟩ := h x xs env st i
    simp only [forL, if_pos g]
    revert q
    cases step x env st with
    | nx e s => exact fun q => for_list I h h0 xs e s q
    | ct e s => exact fun q => for_list I h h0 xs e s q
    | bk e s => exact fun q => q
    | rt d s => exact fun q => q
    | exc c e s => exact fun q => q
    | bad => exact fun q => q
@[simp] theorem gd_none {st : Store} : gdOk none st = True := rfl
@[simp] theorem bodyF_name {i : Nat} {f : Mi.Env → Store → Out} {x : D} {env : Mi.Env} {st : Store} : bodyF (.name i) f x env st = f (env.set i (some x)) st := rfl
theorem wr_pick {xs : List D} {w : Int} {st : Store} {Q : D → Store → Prop} {E : Str → Store → Prop} (h0 : 0 ≤ w) (h1 : w < xs.length) (g : ∀ d ∈ xs, Q d st) : WR (glbB (atI xs w) st) Q E := by
  rw [atI_nn h0, List.getElem?_eq_getElem (by omega)]
  exact g _ (List.getElem_mem _)
theorem Ext.set_new {n c : Nat} {st s : Store} {mo : MO} (h : Ext n st s) (b : Bag st n) (hc : st.length ≤ c) : Ext n st (s.set c mo) := by
  have := b.lt
  refine ⟨by simp [h.le], ?_, fun i hi hn => ?_⟩
  · obtain ⟨x, y, z, e⟩ := h.bag
    exact ⟨x, y, z, by rw [List.getElem?_set_ne (by omega)]; exact e⟩
  · rw [List.getElem?_set_ne (by omega)]; exact h.keep i hi hn
theorem wf_set {s : Store} {c : Nat} {l m : List D} {d : D} (h : s[c]? = some (.lst m)) (w : Wf s d) : Wf (s.set c (.lst l)) d := wf_mono (fun i xs e => by
  by_cases q : c = i
  · subst q; exact ⟨l, get_set h⟩
  · exact ⟨xs, by rw [List.getElem?_set_ne q]; exact e⟩) w
theorem append_run {s : Store} {c : Nat} {xs : List D} {d : D} (h : s[c]? = some (.lst xs)) (hl : xs.length < LINE) : mthop .append (.ref c) [d] s = .ok .non (s.set c (.lst (xs ++ [d]))) := by
  simp [mthop, h, hl]
theorem recv_app {s : Store} {c : Nat} {xs : List D} (h : s[c]? = some (.lst xs)) : recvOk .append (.ref c) s = true := by
  simp [recvOk, h]
theorem tuple_run {s : Store} {c : Nat} {xs : List D} (h : s[c]? = some (.lst xs)) : biop .tuple [.ref c] s = .ok (.tup xs) s := by
  simp [biop, lstOf, h]

/-- depth at most k, tuples of at most W -/
def Sz (W : Nat) : Nat → D → Prop
  | 0, .tup _ => False
  | k + 1, .tup xs => xs.length ≤ W ∧ ∀ x ∈ xs, Sz W k x
  | _, _ => True
def ChgSh (d : D) : Prop := ∃ c i, d = .tup [.str c, .int i]
theorem sz_chg {d : D} (h : ChgSh d) : Sz 4 1 d := by
  obtain ⟨c, i, rfl⟩ := h
  refine ⟨by simp, fun x hx => ?_⟩
  simp at hx
  rcases hx with rfl | rfl <;> trivial
section
variable {st : Store} {n : Nat}
def WfQ (n : Nat) (st : Store) : D → Store → Prop := fun d s => Wf s d ∧ Ext n st s
end
end Th

set_option linter.all false
set_option maxRecDepth 100000
set_option maxHeartbeats 1000000
/-! Drawn values that are odd, spoilt. -/
namespace Th
open PySem L2 Mi LL
def addB (o p : Option MO) (st : Store) : Res := match o, p with
  | some (.lst xs), some (.lst ys) => if xs.length + ys.length ≤ LINE then .ok (.ref st.length) (st ++ [.lst (xs ++ ys)]) else .bad
  | _, _ => .bad
@[simp] theorem add_rr (n m : Nat) (st : Store) : binop .add (.ref n) (.ref m) st = addB st[n]? st[m]? st := rfl
@[simp] theorem addB_some {xs ys : List D} {st : Store} : addB (some (.lst xs)) (some (.lst ys)) st = if xs.length + ys.length ≤ LINE then .ok (.ref st.length) (st ++ [.lst (xs ++ ys)]) else .bad := rfl
theorem Ext.newk {n : Nat} {st g s : Store} {mo : MO} {k : Nat} (b : Bag st n) (h : Ext n (st ++ g) s) (e : g[k]? = some mo) : s[st.length + k]? = some mo := by
  have hk := (List.getElem?_eq_some_iff.mp e).1
  rw [h.keep _ (by simp; omega) (by have := b.lt; omega), app_get]
  exact e
theorem cutG_mem {α : Type} {xs : List α} {lo hi : Option Int} {d : α} (h : d ∈ cutG xs lo hi) : d ∈ xs := List.mem_of_mem_drop (List.mem_of_mem_take h)
theorem cutG_len {α : Type} {xs : List α} {lo hi : Option Int} : (cutG xs lo hi).length ≤ xs.length := by
  unfold cutG
  simp only [List.length_take, List.length_drop]
  omega
@[simp] theorem slc_tup (xs : List D) (lo hi : Option Int) (st : Store) : slcop (.tup xs) lo hi st = .ok (.tup (cutG xs lo hi)) st := rfl
@[simp] theorem add_tt (xs ys : List D) (st : Store) : binop .add (.tup xs) (.tup ys) st = if xs.length + ys.length ≤ LINE then .ok (.tup (xs ++ ys)) st else .bad := rfl
@[simp] theorem evE_slc1 {C : Oracle} {cs : Str → Option D} {env : Mi.Env} {st : Store} (a hi : E) : evE C cs (.slc a .none (.some hi)) env st = (evE C cs a env st).bind fun x st => match evE C cs hi env st with
  | .ok (.int i) st => slcop x none (some i) st
  | _ => .bad := by
  refine bind_congr fun x s => ?_
  simp only [evO_none, evO_some]
  cases evE C cs hi env s with
  | ok d s => cases d <;> rfl
  | _ => rfl
@[simp] theorem evE_slc2 {C : Oracle} {cs : Str → Option D} {env : Mi.Env} {st : Store} (a lo : E) : evE C cs (.slc a (.some lo) .none) env st = (evE C cs a env st).bind fun x st => match evE C cs lo env st with
  | .ok (.int i) st => slcop x (some i) none st
  | _ => .bad := by
  refine bind_congr fun x s => ?_
  simp only [evO_none, evO_some]
  cases evE C cs lo env s with
  | ok d s => cases d <;> rfl
  | _ => rfl
section
variable {n : Nat}
theorem spoilt_wr {W : Nat} (hW : 4 * W + 1 ≤ LINE) : ∀ (k : Nat) {N : Nat} {st : Store} {d o : D}, k + 2 ≤ N → Bag st n → Sz W k d → Wf st d → Wf st o → WR (callK L N "_law_spoilt" [.ref n, d, o] st) (WfQ n st) noE := by
  intro k
  induction k with
  | zero =>
    intro N st d o hN b sz wd wo
    obtain ⟨N, rfl, hM⟩ := pred_ hN
    refine call_wr fn__law_spoilt rfl ?_
    have ht := ty_wf wd
    cases d with
    | tup xs => exact sz.elim
    | _ =>
      simp [fd__law_spoilt, startE, ht, tyD]
      exact ⟨wo, Ext.refl b⟩
  | succ k ih =>
    intro N st d o hN b sz wd wo
    obtain ⟨N, rfl, hM⟩ := pred_ hN
    refine call_wr fn__law_spoilt rfl ?_
    have ht := ty_wf wd
    cases d with
    | tup xs =>
      obtain ⟨sl, sx⟩ := sz
      simp [fd__law_spoilt, startE, ht, tyD]
      refine ⟨fun _ => ⟨wo, Ext.refl b⟩, fun hne => ?_⟩
      have hp : 0 < xs.length := List.length_pos_iff.mpr hne
      refine wr_no (draw_wr (by omega) b (by omega) (by omega)) ?_
      rintro _ s1 ⟨v1, rfl, _, _, e1⟩
      simp
      refine ⟨fun _ => wr_gc b e1 (e1.wf wo) fun s h w => ⟨w, h⟩, fun _ => ?_⟩
      refine wr_no (draw_wr (by omega) e1.bag (by omega) (by have h := hW; simp only [LINE] at h; omega)) ?_
      rintro _ s2 ⟨v2, rfl, h20, h21, e2⟩
      simp
      refine wr_no (draw_wr (by omega) e2.bag (by omega) (by omega)) ?_
      rintro _ s3 ⟨v3, rfl, _, _, e3⟩
      have e123 := (e1.trans e2).trans e3
      have c1 := fun lo hi => cutG_len (xs := xs) (lo := lo) (hi := hi)
      have w3 : ∀ x ∈ xs, Wf s3 x := wfL_mem (e123.wf wd).1
      have out : ∀ {s' : Store} (ys : List D), Ext n s3 s' → (∀ y ∈ ys, y ∈ xs ∨ Wf s' y) → ys.length ≤ LINE → WR (gc st (.ok (.tup ys) s')) (WfQ n st) noE := fun ys e h hl =>
        wr_gc b (e123.trans e) ⟨wfL_of fun y hy => (h y hy).elim (fun hx => e.wf (w3 y hx)) id, hl⟩ fun s h w => ⟨w, h⟩
      have l1 := c1 none (some v2)
      have l2 := c1 (some (v2 + 1)) none
      have l3 := c1 (some v2) none
      have l4 := c1 (some v2) (some (v2 + 1))
      have l5 := c1 (some (v2 + 1)) (some (v2 + 2))
      have l6 := c1 (some (v2 + 2)) none
      simp
      refine ⟨fun _ => ⟨fun _ => ?_, by omega⟩, fun _ => ⟨fun _ => ⟨fun _ => ⟨fun _ => ⟨fun _ => ?_, by omega⟩, by omega⟩, by omega⟩, fun _ => ⟨fun _ => ⟨fun _ => ⟨fun _ => ?_, by omega⟩, by omega⟩, fun _ => ⟨fun _ => ⟨fun _ => ⟨fun _ => ⟨fun _ => ?_, by omega⟩, by omega⟩, by omega⟩, fun _ => ?_⟩⟩⟩⟩
      · refine out _ (Ext.refl e3.bag) (fun y hy => ?_) (by simp; omega)
        simp only [List.mem_append] at hy
        rcases hy with h | h <;> exact .inl (cutG_mem h)
      · refine out _ (Ext.refl e3.bag) (fun y hy => ?_) (by simp; omega)
        simp only [List.mem_append, List.mem_cons] at hy
        rcases hy with h | rfl | h
        · exact .inl (cutG_mem h)
        · exact .inr (e123.wf wo)
        · exact .inl (cutG_mem h)
      · refine out _ (Ext.refl e3.bag) (fun y hy => ?_) (by simp; omega)
        simp only [List.mem_append] at hy
        rcases hy with h | h | h <;> exact .inl (cutG_mem h)
      · refine out _ (Ext.refl e3.bag) (fun y hy => ?_) (by simp; omega)
        simp only [List.mem_append] at hy
        rcases hy with h | h | h | h <;> exact .inl (cutG_mem h)
      · refine wr_pick h20 h21 fun d hd => ?_
        refine wr_no (ih (by omega) e3.bag (sx d hd) (w3 d hd) (e123.wf wo)) ?_
        rintro d' s4 ⟨wd', e4⟩
        refine ⟨fun _ => ⟨fun _ => ⟨fun _ => ?_, by omega⟩, by omega⟩, by omega⟩
        refine out _ e4 (fun y hy => ?_) (by simp; omega)
        simp only [List.mem_append, List.mem_cons] at hy
        rcases hy with h | rfl | h
        · exact .inl (cutG_mem h)
        · exact .inr wd'
        · exact .inl (cutG_mem h)
    | _ =>
      simp [fd__law_spoilt, startE, ht, tyD]
      exact ⟨wo, Ext.refl b⟩
end
end Th

set_option linter.all false
set_option maxRecDepth 100000
set_option maxHeartbeats 1000000
/-! Strings compared; all of a comprehension; slices from 1. -/
namespace Th
open PySem L2 Mi LL
theorem eq_str {x y : Str} {st : Store} (hx : PyData.strOk x = true) (hy : PyData.strOk y = true) : cmpop .eq (.str x) (.str y) st = .ok (.bl (x == y)) st := by
  rw [eq_run rfl rfl (by rw [shaped_str]; exact hx) (by rw [shaped_str]; exact hy)]
  simp [PyData.eqv]
theorem ne_str {x y : Str} {st : Store} (hx : PyData.strOk x = true) (hy : PyData.strOk y = true) : cmpop .ne (.str x) (.str y) st = .ok (.bl (!(x == y))) st := by
  rw [ne_run rfl rfl (by rw [shaped_str]; exact hx) (by rw [shaped_str]; exact hy)]
  simp [PyData.eqv]
theorem str_ne {a b : String} (h : a ≠ b) : (Str.ofString a == Str.ofString b) = false := beq_eq_false_iff_ne.mpr fun e => h (ofString_inj.mp e)
@[simp] theorem notin2 (k a b : Str) (st : Store) : cmpop .notin (.str k) (.tup [.str a, .str b]) st = .ok (.bl (!(a == k || b == k))) st := by
  simp [cmpop, inD, flatD, D.data, D.dataL, PyData.eqv, resB]
@[simp] theorem isin2 (k a b : Str) (st : Store) : cmpop .isin (.str k) (.tup [.str a, .str b]) st = .ok (.bl (a == k || b == k)) st := by
  simp [cmpop, inD, flatD, D.data, D.dataL, PyData.eqv, resB]
@[simp] theorem str_beq {a b : String} : (Str.ofString a == Str.ofString b) = decide (a = b) := by
  by_cases h : a = b
  · subst h; simp
  · rw [str_ne h]; simp [h]
theorem ok_ofString {a : String} (h : PyData.strOk (Str.ofString a) = true) : PyData.strOk (Str.ofString a) = true := h
theorem cutG_1 {α : Type} {x : α} {xs : List α} : cutG (x :: xs) (some 1) none = xs := by
  have e : HT.sIx (x :: xs).length 0 (some 1) = 1 := by
    have := HT.sIx_nat (x :: xs).length 0 1
    rw [show ((1 : Nat) : Int) = 1 from rfl] at this
    rw [this]; simp
  unfold cutG
  rw [e, HT.sIx_none]
  simp
theorem all_run {s : Store} {c : Nat} {xs : List D} {p : D → Bool} (h : s[c]? = some (.lst (xs.map fun x => .bl (p x)))) : biop .all [.ref c] s = .ok (.bl (xs.all p)) s := by
  simp [biop, lstOf, h, bls_map, List.all_map]
/-! what stands at a place, asked once -/
def getB (o : Option MO) (k : List D → Res) : Res := match o with
  | some (.lst xs) => k xs
  | _ => .bad
@[simp] theorem getB_some {xs : List D} {k : List D → Res} : getB (some (.lst xs)) k = k xs := rfl
@[simp] theorem len_ref (j : Nat) (s : Store) : biop .len [.ref j] s = getB s[j]? fun xs => .ok (.int xs.length) s := by
  cases h : s[j]? with
  | none => simp [biop, lstOf, h, getB]
  | some o => cases o <;> simp [biop, lstOf, h, getB]
@[simp] theorem idx_ref' (j : Nat) (i : Int) (s : Store) : idxop (.ref j) (.int i) s = getB s[j]? fun xs => glbB (atI xs i) s := by
  cases h : s[j]? with
  | none => simp [idxop, h, getB]
  | some o => cases o <;> simp only [idxop, h, getB] <;> cases atI _ i <;> rfl
@[simp] theorem tuple_ref (j : Nat) (s : Store) : biop .tuple [.ref j] s = getB s[j]? fun xs => .ok (.tup xs) s := by
  cases h : s[j]? with
  | none => simp [biop, lstOf, h, getB]
  | some o => cases o <;> simp [biop, lstOf, h, getB]
@[simp] theorem list_ref (j : Nat) (s : Store) : biop .list [.ref j] s = getB s[j]? fun xs => .ok (.ref s.length) (s ++ [.lst xs]) := by
  cases h : s[j]? with
  | none => simp [biop, lstOf, h, getB]
  | some o => cases o <;> simp [biop, lstOf, h, getB]
end Th

set_option linter.all false
set_option maxRecDepth 100000
set_option maxHeartbeats 1000000
/-! Comprehensions that leave out; loops that leave by False; the laws' small forms. -/
namespace Th
open PySem L2 Mi LL
theorem comp_filt0 {step : D → Store → CRes} {p : D → Bool} {g : D → D} {st : Store} : ∀ {xs acc : List D}, (∀ x ∈ xs, ∀ l, step x (st ++ [.lst l]) = .ok (if p x then some (g x) else none) (st ++ [.lst l])) → acc.length + xs.length ≤ LINE →
    compL step none st.length xs (st ++ [.lst acc]) = .ok (.ref st.length) (st ++ [.lst (acc ++ (xs.filter p).map g)])
  | [], acc, _, _ => by simp [compL, gdOk]
  | x :: xs, acc, h, hl => by
    simp only [List.length_cons] at hl
    have hx := h x List.mem_cons_self acc
    cases q : p x
    · have ih := comp_filt0 (p := p) (g := g) (acc := acc) (fun y hy l => h y (List.mem_cons_of_mem _ hy) l) (by omega)
      rw [q] at hx
      simp only [compL, gdOk, if_true, hx]
      simp [ih, q]
    · have ih := comp_filt0 (p := p) (g := g) (acc := acc ++ [g x]) (fun y hy l => h y (List.mem_cons_of_mem _ hy) l) (by simp; omega)
      have e : (st ++ [MO.lst acc]).set st.length (.lst (acc ++ [g x])) = st ++ [.lst (acc ++ [g x])] := by simp
      rw [q] at hx
      simp only [compL, gdOk, if_true, hx]
      rw [List.getElem?_append_right (Nat.le_refl _)]
      simp only [Nat.sub_self, List.getElem?_cons_zero]
      rw [if_pos (by omega), e, ih]
      simp [q]
theorem comp_filt {step : D → Store → CRes} {p : D → Bool} {g : D → D} {st : Store} {xs : List D} (h : ∀ x ∈ xs, ∀ l, step x (st ++ [.lst l]) = .ok (if p x then some (g x) else none) (st ++ [.lst l])) (hl : xs.length ≤ LINE) :
    compL step none st.length xs (st ++ [.lst []]) = .ok (.ref st.length) (st ++ [.lst ((xs.filter p).map g)]) := by
  have := comp_filt0 (acc := []) h (by simpa using hl)
  simpa using this
theorem len_run {s : Store} {c : Nat} {xs : List D} (h : s[c]? = some (.lst xs)) : biop .len [.ref c] s = .ok (.int xs.length) s := by simp [biop, lstOf, h]

theorem for_allB {step : D → Mi.Env → Store → Out} {p : D → Bool} {st : Store} (I : Mi.Env → Prop) : ∀ {xs : List D} {env : Mi.Env}, (∀ x ∈ xs, ∀ env, I env → if p x = true then ∃ e', I e' ∧ step x env st = .nx e' st else step x env st = .rt (.bl false) st) → I env →
    if xs.all p = true then ∃ e', I e' ∧ forL step none xs env st = .nx e' st else forL step none xs env st = .rt (.bl false) st
  | [], env, h, i => by simp [forL, gdOk]; exact i
  | x :: xs, env, h, i => by
    have hx := h x List.mem_cons_self env i
    cases q : p x
    · rw [q] at hx
      simp at hx
      simp [forL, gdOk, hx, q]
    · rw [q] at hx
      simp at hx
      obtain ⟨e', i', hx⟩ := hx
      have ih := for_allB (xs := xs) I (fun y hy => h y (List.mem_cons_of_mem _ hy)) i'
      simp only [forL, gdOk, if_true, hx, List.all_cons, q, Bool.true_and]
      exact ih
@[simp] theorem toOut_bind {r : ItR} {env : Mi.Env} {k : List D → Option (Nat × List D) → Store → Out} {j : Mi.Env → Store → Out} : (r.toOut env k).bind j = r.toOut env (fun xs gd s => (k xs gd s).bind j) := by cases r <;> rfl
theorem wo_rng1 {r : Res} {env : Mi.Env} {k : List D → Option (Nat × List D) → Store → Out} {P : Out → Prop} (h : WR r (fun d s => ∃ j, d = .int j ∧ small62 j ∧ WO (k (rangeD 0 j) none s) P) noE) : WO ((rng1R r).toOut env k) P := by
  obtain ⟨d, s, rfl, j, rfl, hj, h⟩ := wr_get h
  rw [rng1R_ok hj]
  exact h
theorem rangeD_mem {d : D} {lo hi : Int} (h : d ∈ rangeD lo hi) : ∃ k : Int, d = .int k ∧ lo ≤ k ∧ k < hi := by
  unfold rangeD at h
  obtain ⟨k, hk, rfl⟩ := List.mem_map.mp h
  have := List.mem_range.mp hk
  exact ⟨lo + k, rfl, by omega, by omega⟩
theorem rangeD_len {hi : Int} : (rangeD 0 hi).length = hi.toNat := by simp [rangeD]
theorem in_vars {k : Str} (hk : PyData.strOk k = true) (st : Store) : cmpop .isin (.str k) (.ref st.length) (st ++ [.lst [.str (Str.ofString "a"), .str (Str.ofString "b"), .str (Str.ofString "c"), .str (Str.ofString "d")]]) = .ok (.bl (isVarD (.str k))) (st ++ [.lst [.str (Str.ofString "a"), .str (Str.ofString "b"), .str (Str.ofString "c"), .str (Str.ofString "d")]]) := by
  have h1 : SeqAt.shaped (.list [.str (Str.ofString "a"), .str (Str.ofString "b"), .str (Str.ofString "c"), .str (Str.ofString "d")]) = true := by decide +kernel
  have h2 : SeqAt.shaped (.str k) = true := by rw [shaped_str]; exact hk
  simp [cmpop, inD, dataS, D.data, D.dataL, PyData.eqv, resB, h1, h2, isVarD]
section
variable {st : Store}
theorem lint_ok {n : Nat} (hn : 1 ≤ n) {d : D} {a b : Int} (h : Wf st d) : callK L n "_law_is_int" [d, .int a, .int b] st = .ok (.bl (isIntD a b d)) st := by
  obtain ⟨m, rfl, hm⟩ := pred_ hn
  rw [call_open fn__law_is_int rfl]
  have ht := ty_wf h
  cases d <;> simp [fd__law_is_int, startE, isIntD, ht, tyD]
theorem lvar_ok {n : Nat} (hn : 1 ≤ n) {d : D} (h : Wf st d) : callK L n "_law_is_variable" [d] st = .ok (.bl (isVarD d)) st := by
  obtain ⟨m, rfl, hm⟩ := pred_ hn
  rw [call_open fn__law_is_variable rfl]
  have ht := ty_wf h
  cases d with
  | str x => simp [fd__law_is_variable, startE, ht, tyD, LINE, in_vars (show PyData.strOk x = true from h)]
  | _ => simp [fd__law_is_variable, startE, ht, tyD, isVarD]
end
end Th

set_option linter.all false
set_option maxRecDepth 100000
set_option maxHeartbeats 1000000
/-! The laws' bags; what a law's end wants. -/
namespace Th
open PySem L2 Mi LL
@[simp] theorem len_fl (xs : List D) (st : Store) : biop .len [.fl xs] st = .ok (.int xs.length) st := rfl
@[simp] theorem max_ii (i j : Int) (st : Store) : biop .max [.int i, .int j] st = .ok (.int (if j > i then j else i)) st := rfl
@[simp] theorem min_ii (i j : Int) (st : Store) : biop .min [.int i, .int j] st = .ok (.int (if j < i then j else i)) st := rfl
@[simp] theorem is_non (x : D) (st : Store) : cmpop .is x .non st = .ok (.bl (isNon x)) st := by cases x <;> rfl
@[simp] theorem isnot_non (x : D) (st : Store) : cmpop .isnot x .non st = .ok (.bl (!isNon x)) st := by cases x <;> rfl
@[simp] theorem is_bb (a b : Bool) (st : Store) : cmpop .is (.bl a) (.bl b) st = .ok (.bl (decide (a = b))) st := rfl
@[simp] theorem isnot_bb (a b : Bool) (st : Store) : cmpop .isnot (.bl a) (.bl b) st = .ok (.bl (!decide (a = b))) st := rfl
@[simp] theorem pow_ii (i j : Int) (st : Store) : binop .pow (.int i) (.int j) st = if okPow i j then .ok (.int (i ^ j.toNat)) st else .bad := rfl
theorem gc_bl {st s : Store} {b : Bool} : ∃ s', gc st (.ok (.bl b) s) = .ok (.bl b) s' := by
  unfold gc
  by_cases c : gcOk st s ∧ closedD st.length (.bl b) = true
  · exact ⟨s.take st.length, by simp only [if_pos c]⟩
  · exact ⟨s, by simp only [if_neg c]⟩
theorem gc_open {st s : Store} {d : D} (h : closedD st.length d = false) : gc st (.ok d s) = .ok d s := by
  unfold gc
  have c : ¬ (gcOk st s ∧ closedD st.length d = true) := fun k => by rw [h] at k; exact Bool.false_ne_true k.2
  simp only [if_neg c]
theorem bag_ok {n : Nat} {st : Store} (hn : 1 ≤ n) {ns : List Int} {k : Int} (hk : 0 ≤ k) : ∃ a b c : Int, callK L n "_law_bag" [.fl (ns.map D.int), .int k] st = .ok (.ref st.length) (st ++ [.lst [.int a, .int b, .int c]]) := by
  obtain ⟨m, rfl, hm⟩ := pred_ hn
  rw [call_open fn__law_bag rfl]
  have g : ∀ a b c : Int, gc st (.ok (.ref st.length) (st ++ [.lst [.int a, .int b, .int c]])) = .ok (.ref st.length) (st ++ [.lst [.int a, .int b, .int c]]) := fun a b c => gc_open (by simp [closedD])
  by_cases h : k < (ns.length : Int)
  · have e : atI (ns.map D.int) k = some (.int (ns[k.toNat]'(by omega))) := by
      rw [atI_nn hk, List.getElem?_map, List.getElem?_eq_getElem (by omega)]; rfl
    by_cases h2 : 1000000000000000000 ≤ ns[k.toNat]'(by omega)
    · exact ⟨_, _, _, by simp [fd__law_bag, startE, h, e, h2, LINE]; exact g _ _ _⟩
    · exact ⟨_, _, _, by simp [fd__law_bag, startE, h, e, h2, LINE]; exact g _ _ _⟩
  · exact ⟨_, _, _, by simp [fd__law_bag, startE, h, LINE]; exact g _ _ _⟩
/-- a law's turns, told by slots that stay -/
theorem turns {body : Mi.Env → Store → Out} {M : Int} {I : Mi.Env → Prop} {env : Mi.Env} {st : Store} (i : I env)
    (h : ∀ k env st, 0 ≤ k → I env → WO (body (env.set 1 (some (.int k))) st) (Lp (fun e _ => I e) (fun _ => False))) :
    WO (forL (bodyF (.name 1) body) none (rangeD 0 M) env st) (fun o => ∃ e s, o = .nx e s ∧ I e) :=
  for_list (fun ys e _ => I e ∧ ∀ y ∈ ys, ∃ k, y = .int k ∧ 0 ≤ k) (by
    rintro q ys e s ⟨he, hy⟩
    obtain ⟨k, rfl, hk⟩ := hy q List.mem_cons_self
    refine ⟨trivial, ?_⟩
    rw [bodyF_name]
    refine wo_mono (h k e s hk he) fun o ho => ?_
    cases o <;> first | exact ⟨ho, fun y h => hy y (List.mem_cons_of_mem _ h)⟩ | exact ho.elim) (by
    rintro e s ⟨he, _⟩
    exact ⟨trivial, e, s, rfl, he⟩) _ _ _ ⟨i, fun y hy => by
      obtain ⟨k, rfl, h, _⟩ := rangeD_mem hy
      exact ⟨k, rfl, h⟩⟩
end Th

set_option linter.all false
set_option maxRecDepth 100000
set_option maxHeartbeats 1000000
/-! What is_sentence answers. -/
namespace Th
open PySem L2 Mi LL
def isPlaceD (c : Int) (p v : D) : Bool := isIntD 0 (c - 1) p && isVarD v
def isBoundD : D → Bool := isIntD (-100000) 100000
def isTermD (c : Int) : D → Bool
  | .tup [w, p, v] => isIntD (-9) 9 w && isPlaceD c p v
  | _ => false
def areTermsD (c : Int) : D → Bool
  | .tup xs => isRowD 1 6 (.tup xs) && xs.all (isTermD c)
  | _ => false
def isPlainD (c : Int) : D → Bool
  | .tup (.str k :: r) =>
    if k == Str.ofString "at" then (match r with | [p, v, b] => isPlaceD c p v && isBoundD b | _ => false)
    else if k == Str.ofString "way" then (match r with | [n] => isIntD 0 999 n | _ => false)
    else if k == Str.ofString "sum" then (match r with | [t, b] => areTermsD c t && isBoundD b | _ => false)
    else false
  | _ => false
def nestD (c : Int) : Nat → D → Bool
  | 0, _ => false
  | k + 1, .tup (.str w :: r) =>
    if w == Str.ofString "not" then (match r with | [x] => nestD c k x | _ => false)
    else if Str.ofString "and" == w || Str.ofString "or" == w then (match r with | [x, y] => nestD c k x && nestD c k y | _ => false)
    else isPlainD c (.tup (.str w :: r))
  | _ + 1, _ => false
section
variable {st : Store}
theorem place_ok {n : Nat} (hn : 2 ≤ n) {c : Int} {p v : D} (hp : Wf st p) (hv : Wf st v) : callK L n "_is_place" [.int c, p, v] st = .ok (.bl (isPlaceD c p v)) st := by
  obtain ⟨m, rfl, hm⟩ := pred_ hn
  rw [call_open fn__is_place rfl]
  simp [fd__is_place, startE, is_integer_ok hm hp, variable_ok hm hv, isPlaceD]
theorem bound_ok {n : Nat} (hn : 2 ≤ n) {b : D} (hp : Wf st b) : callK L n "_is_bound" [b] st = .ok (.bl (isBoundD b)) st := by
  obtain ⟨m, rfl, hm⟩ := pred_ hn
  rw [call_open fn__is_bound rfl]
  simp [fd__is_bound, startE, is_integer_ok hm hp, isBoundD, cs_MOST_BOUND]
theorem term_ok {n : Nat} (hn : 3 ≤ n) {c : Int} {d : D} (h : Wf st d) : callK L n "_is_term" [.int c, d] st = .ok (.bl (isTermD c d)) st := by
  obtain ⟨m, rfl, hm⟩ := pred_ hn
  rw [call_open fn__is_term rfl]
  have h1 := row_ok (by omega : 1 ≤ m) (a := 3) (b := 3) h
  match d, h, h1 with
  | .tup [w, p, v], h, h1 =>
    obtain ⟨hw, hp, hv, _⟩ := h.1
    have h2 := is_integer_ok (by omega : 1 ≤ m) (a := -9) (b := 9) hw
    have h3 := place_ok hm (c := c) hp hv
    cases q : isIntD (-9) 9 w <;> simp [fd__is_term, startE, h1, h2, h3, q, isTermD, isRowD, cs_MOST_WEIGHT]
  | .tup [], h, h1 => simp [fd__is_term, startE, h1, isTermD, isRowD]
  | .tup [_], h, h1 => simp [fd__is_term, startE, h1, isTermD, isRowD]
  | .tup [_, _], h, h1 => simp [fd__is_term, startE, h1, isTermD, isRowD]
  | .tup (_ :: _ :: _ :: _ :: r), h, h1 =>
    have : ¬ ((r.length : Int) + 1 + 1 + 1 + 1 ≤ 3) := by omega
    simp [fd__is_term, startE, h1, isTermD, isRowD, this]
  | .non, h, h1 => simp [fd__is_term, startE, h1, isTermD, isRowD]
  | .bl _, h, h1 => simp [fd__is_term, startE, h1, isTermD, isRowD]
  | .int _, h, h1 => simp [fd__is_term, startE, h1, isTermD, isRowD]
  | .str _, h, h1 => simp [fd__is_term, startE, h1, isTermD, isRowD]
  | .ref _, h, h1 => simp [fd__is_term, startE, h1, isTermD, isRowD]
theorem terms_ok {n : Nat} (hn : 4 ≤ n) {c : Int} {d : D} (h : Wf st d) : callK L n "_are_terms" [.int c, d] st = .ok (.bl (areTermsD c d)) st := by
  obtain ⟨m, rfl, hm⟩ := pred_ hn
  rw [call_open fn__are_terms rfl]
  have h1 := row_ok (by omega : 1 ≤ m) (a := 1) (b := 6) h
  cases d with
  | tup xs =>
    have hx : ∀ x ∈ xs, ∀ g, Wf (st ++ g) x := fun x hx g => wf_app (wfL_mem h.1 x hx)
    have c1 : compL (stepF [2] (.name 2) (evAll (callK L m) L.cs .nil) (evE (callK L m) L.cs (.call "_is_term" (.cons (.var 0) (.cons (.var 2) .nil)))) [some (.int c), some (.tup xs), none]) none st.length xs (st ++ [.lst []]) = .ok (.ref st.length) (st ++ [.lst (xs.map fun x => .bl (isTermD c x))]) :=
      comp_run (fun x hx' l => by simp [stepF_name, wipeE, cstep, term_ok hm (hx x hx' _)]) h.2
    cases q : isRowD 1 6 (.tup xs) <;> simp [fd__are_terms, startE, h1, q, areTermsD, cs_MOST_TERMS, c1]
  | _ => simp [fd__are_terms, startE, h1, areTermsD, isRowD, cs_MOST_TERMS]
theorem ok_s : PyData.strOk (Str.ofString "at") = true ∧ PyData.strOk (Str.ofString "way") = true ∧ PyData.strOk (Str.ofString "sum") = true ∧ PyData.strOk (Str.ofString "not") = true ∧ PyData.strOk (Str.ofString "and") = true ∧ PyData.strOk (Str.ofString "or") = true := by decide +kernel
theorem plain_ok {n : Nat} (hn : 5 ≤ n) {c : Int} {k : Str} {r : List D} (h : Wf st (.tup (.str k :: r))) : callK L n "_is_plain" [.int c, .tup (.str k :: r)] st = .ok (.bl (isPlainD c (.tup (.str k :: r)))) st := by
  obtain ⟨m, rfl, hm⟩ := pred_ hn
  rw [call_open fn__is_plain rfl]
  have hk : PyData.strOk k = true := h.1.1
  have hr := wfL_mem h.1.2
  have e1 := fun s : Store => eq_str (st := s) hk ok_s.1
  have e2 := fun s : Store => eq_str (st := s) hk ok_s.2.1
  have e3 := fun s : Store => eq_str (st := s) hk ok_s.2.2.1
  cases q1 : k == Str.ofString "at"
  · cases q2 : k == Str.ofString "way"
    · cases q3 : k == Str.ofString "sum"
      · simp [fd__is_plain, startE, e1, e2, e3, q1, q2, q3, isPlainD]
      · rcases r with _ | ⟨t, _ | ⟨b, _ | ⟨x, r⟩⟩⟩
        · simp [fd__is_plain, startE, e1, e2, e3, q1, q2, q3, isPlainD]
        · simp [fd__is_plain, startE, e1, e2, e3, q1, q2, q3, isPlainD]
        · have a1 := terms_ok hm (c := c) (hr t (by simp))
          have a2 := bound_ok (by omega : 2 ≤ m) (hr b (by simp))
          simp [fd__is_plain, startE, e1, e2, e3, q1, q2, q3, isPlainD, a1, a2]
        · have : ¬ ((r.length : Int) + 1 + 1 + 1 + 1 = 3) := by omega
          simp [fd__is_plain, startE, e1, e2, e3, q1, q2, q3, isPlainD, this]
    · rcases r with _ | ⟨t, _ | ⟨b, r⟩⟩
      · simp [fd__is_plain, startE, e1, e2, q1, q2, isPlainD]
      · have a1 := is_integer_ok (by omega : 1 ≤ m) (a := 0) (b := 999) (hr t (by simp))
        simp [fd__is_plain, startE, e1, e2, q1, q2, isPlainD, a1, cs_MOST_LETTER]
      · have : ¬ ((r.length : Int) + 1 + 1 + 1 = 2) := by omega
        simp [fd__is_plain, startE, e1, e2, q1, q2, isPlainD, this]
  · rcases r with _ | ⟨p, _ | ⟨v, _ | ⟨b, _ | ⟨x, r⟩⟩⟩⟩
    · simp [fd__is_plain, startE, e1, q1, isPlainD]
    · simp [fd__is_plain, startE, e1, q1, isPlainD]
    · simp [fd__is_plain, startE, e1, q1, isPlainD]
    · have a1 := place_ok (by omega : 2 ≤ m) (c := c) (hr p (by simp)) (hr v (by simp))
      have a2 := bound_ok (by omega : 2 ≤ m) (hr b (by simp))
      simp [fd__is_plain, startE, e1, q1, isPlainD, a1, a2]
    · have : ¬ ((r.length : Int) + 1 + 1 + 1 + 1 + 1 = 4) := by omega
      simp [fd__is_plain, startE, e1, q1, isPlainD, this]
theorem nested_ok : ∀ (k : Nat) {n : Nat} {st : Store} {c : Int} {d : D}, k + 6 ≤ n → Wf st d → callK L n "_is_nested" [.int c, d, .int k] st = .ok (.bl (nestD c k d)) st := by
  intro k
  induction k with
  | zero =>
    intro n st c d hn h
    obtain ⟨m, rfl, hm⟩ := pred_ hn
    rw [call_open fn__is_nested rfl]
    simp [fd__is_nested, startE, LINE, nestD]
  | succ k ih =>
    intro n st c d hn h
    obtain ⟨m, rfl, hm⟩ := pred_ hn
    rw [call_open fn__is_nested rfl]
    have h1 := named_ok (by omega : 1 ≤ m) h
    have k0 : ¬ ((k : Int) + 1 = 0) := by omega
    have k1 : (k : Int) + 1 - 1 = k := by omega
    by_cases hd : isNamedD d = true
    · match d, hd, h, h1 with
      | .tup (.str w :: r), hd, h, h1 =>
        have hk : PyData.strOk w = true := h.1.1
        have hr := wfL_mem h.1.2
        have e1 := fun s : Store => eq_str (st := s) hk ok_s.2.2.2.1
        cases q1 : w == Str.ofString "not"
        · cases q2 : (Str.ofString "and" == w || Str.ofString "or" == w)
          · have a1 := plain_ok (by omega : 5 ≤ m) (c := c) h
            simp [fd__is_nested, startE, LINE, nestD, k0, k1, h1, hd, e1, q1, q2, a1]
          · rcases r with _ | ⟨x, _ | ⟨y, _ | ⟨z, r⟩⟩⟩
            · simp [fd__is_nested, startE, LINE, nestD, k0, k1, h1, hd, e1, q1, q2]
            · simp [fd__is_nested, startE, LINE, nestD, k0, k1, h1, hd, e1, q1, q2]
            · have wx := hr x (by simp)
              have wy := hr y (by simp)
              have hxy : ∀ z ∈ [x, y], ∀ g, Wf (st ++ g) z := fun z hz g => by
                simp at hz
                rcases hz with rfl | rfl <;> exact wf_app (by assumption)
              have c1 : compL (stepF [3] (.name 3) (evAll (callK L m) L.cs .nil) (evE (callK L m) L.cs (.call "_is_nested" (.cons (.var 0) (.cons (.var 3) (.cons (.bin .sub (.var 2) (.int 1)) .nil))))) [some (.int c), some (.tup [.str w, x, y]), some (.int ((k : Int) + 1)), none]) none st.length [x, y] (st ++ [.lst []]) = .ok (.ref st.length) (st ++ [.lst ([x, y].map fun x => .bl (nestD c k x))]) :=
                comp_run (fun z hz l => by simp [stepF_name, wipeE, cstep, k1, ih hm (hxy z hz _)]) (by simp [LINE])
              have c2 : cutG [D.str w, x, y] (some 1) none = [x, y] := cutG_1
              have c3 := all_new (st := st) (xs := [x, y]) (p := nestD c k)
              simp only [List.map_cons, List.map_nil, List.all_cons, List.all_nil, Bool.and_true] at c1 c3
              simp [fd__is_nested, startE, LINE, nestD, k0, h1, hd, e1, q1, q2, c2, c1, c3]
            · have : ¬ ((r.length : Int) + 1 + 1 + 1 + 1 = 3) := by omega
              simp [fd__is_nested, startE, LINE, nestD, k0, k1, h1, hd, e1, q1, q2, this]
        · rcases r with _ | ⟨x, _ | ⟨y, r⟩⟩
          · simp [fd__is_nested, startE, LINE, nestD, k0, k1, h1, hd, e1, q1]
          · have a1 := ih hm (c := c) (hr x (by simp))
            simp [fd__is_nested, startE, LINE, nestD, k0, k1, h1, hd, e1, q1, a1]
          · have : ¬ ((r.length : Int) + 1 + 1 + 1 = 2) := by omega
            simp [fd__is_nested, startE, LINE, nestD, k0, k1, h1, hd, e1, q1, this]
    · have e : nestD c (k + 1) d = false := by
        match d, hd with
        | .tup (.str w :: r), hd => exact absurd rfl hd
        | .tup [], _ => rfl
        | .tup (.non :: _), _ => rfl
        | .tup (.bl _ :: _), _ => rfl
        | .tup (.int _ :: _), _ => rfl
        | .tup (.tup _ :: _), _ => rfl
        | .tup (.fl _ :: _), _ => rfl
        | .tup (.ref _ :: _), _ => rfl
        | .non, _ => rfl
        | .bl _, _ => rfl
        | .int _, _ => rfl
        | .str _, _ => rfl
        | .fl _, _ => rfl
        | .ref _, _ => rfl
      simp [fd__is_nested, startE, LINE, k0, h1, hd, e]
def isCountD : D → Bool := isIntD 1 6
def isSentD (c d : D) : Bool := match c with
  | .int c => isIntD 1 6 (.int c) && nestD c 6 d
  | _ => false
theorem sentence_ok {n : Nat} (hn : 13 ≤ n) {c d : D} (hc : Wf st c) (h : Wf st d) : callK L n "is_sentence" [c, d] st = .ok (.bl (isSentD c d)) st := by
  obtain ⟨m, rfl, hm⟩ := pred_ hn
  rw [call_open fn_is_sentence rfl]
  have h1 := is_integer_ok (by omega : 1 ≤ m) (a := 1) (b := 6) hc
  cases c with
  | int c =>
    have a1 : callK L m "_is_nested" [.int c, d, .int 6] st = .ok (.bl (nestD c 6 d)) st := nested_ok 6 hm h
    cases q : isIntD 1 6 (.int c) <;> simp [fd_is_sentence, startE, cs_MOST_PROCESSES, cs_MOST_NESTING, h1, q, isSentD, a1]
  | _ => simp [fd_is_sentence, startE, cs_MOST_PROCESSES, cs_MOST_NESTING, h1, isSentD, isIntD]
end
end Th

set_option linter.all false
set_option maxRecDepth 100000
set_option maxHeartbeats 1000000
/-! What the law's own is_sentence answers. -/
namespace Th
open PySem L2 Mi LL
section
variable {st : Store}
theorem lterms_ok {n : Nat} (hn : 2 ≤ n) {c : Int} {d : D} (h : Wf st d) : callK L n "_law_is_terms" [.int c, d] st = .ok (.bl (areTermsD c d)) st := by
  obtain ⟨m, rfl, hm⟩ := pred_ hn
  rw [call_open fn__law_is_terms rfl]
  have ht := ty_wf h
  cases d with
  | tup xs =>
    have hx := wfL_mem h.1
    by_cases h1 : (xs.length : Int) < 1
    · have e : isRowD 1 6 (.tup xs) = false := by simp [isRowD]; omega
      simp [fd__law_is_terms, startE, ht, tyD, h1, areTermsD, e]
    · by_cases h2 : (6 : Int) < xs.length
      · have e : isRowD 1 6 (.tup xs) = false := by simp [isRowD]; omega
        simp [fd__law_is_terms, startE, ht, tyD, h1, h2, areTermsD, e]
      · have e : isRowD 1 6 (.tup xs) = true := by simp [isRowD]; omega
        simp [fd__law_is_terms, startE, ht, tyD, h1, h2, areTermsD, e]
        generalize hb : (Ss.cons _ _ : Ss) = body
        have key := for_allB (step := bodyF (.name 2) (evSs (callK L m) L.cs L.sub L.wf body)) (p := isTermD c) (st := st) (fun e => ∃ x, e = [some (.int c), some (.tup xs), x]) (xs := xs) (env := [some (.int c), some (.tup xs), none]) ?_ ⟨_, rfl⟩
        · cases q : xs.all (isTermD c)
          · rw [q] at key
            simp at key
            simp [key, q]
          · rw [q] at key
            simp at key
            obtain ⟨x, key⟩ := key
            simp [key, q]
        · rintro x hx' _ ⟨y, rfl⟩
          have wx := hx x hx'
          have tx := ty_wf wx
          rw [bodyF_name, ← hb]
          match x, wx, tx with
          | .tup [w, p, v], wx, tx =>
            obtain ⟨hw, hp, hv, _⟩ := wx.1
            have h2 := lint_ok hm (a := -9) (b := 9) hw
            have h3 := lint_ok hm (a := 0) (b := c - 1) hp
            have h4 := lvar_ok hm hv
            cases q1 : isIntD (-9) 9 w <;> cases q2 : isIntD 0 (c - 1) p <;> cases q3 : isVarD v <;> simp [tx, tyD, h2, h3, h4, q1, q2, q3, isTermD, isPlaceD]
          | .tup [], wx, tx => simp [tx, tyD, isTermD]
          | .tup [_], wx, tx => simp [tx, tyD, isTermD]
          | .tup [_, _], wx, tx => simp [tx, tyD, isTermD]
          | .tup (_ :: _ :: _ :: _ :: r), wx, tx =>
            have : ¬ ((r.length : Int) + 1 + 1 + 1 + 1 = 3) := by omega
            simp [tx, tyD, isTermD, this]
          | .non, wx, tx => simp [tx, tyD, isTermD]
          | .bl _, wx, tx => simp [tx, tyD, isTermD]
          | .int _, wx, tx => simp [tx, tyD, isTermD]
          | .str _, wx, tx => simp [tx, tyD, isTermD]
          | .ref _, wx, tx => simp [tx, tyD, isTermD]
  | _ => simp [fd__law_is_terms, startE, ht, tyD, areTermsD]
end
end Th

set_option linter.all false
set_option maxRecDepth 100000
set_option maxHeartbeats 2000000
/-! The law's own is_sentence. -/
namespace Th
open PySem L2 Mi LL
theorem int_beq' (a n : Int) : (a == n) = decide (n = a) := by
  by_cases h : n = a
  · subst h; simp
  · rw [decide_eq_false h]; exact beq_eq_false_iff_ne.mpr (Ne.symm h)
theorem shp {k : Str} {n : Int} (hk : PyData.strOk k = true) : SeqAt.shaped (.tuple [.str k, .int n]) = true := by
  simp [SeqAt.shaped, PyData.canLay0, PyData.canLayAll0, PyData.depth, PyData.depthAll, hk]
abbrev prs : List D := [.tup [.str (Str.ofString "not"), .int 2], .tup [.str (Str.ofString "and"), .int 3], .tup [.str (Str.ofString "or"), .int 3]]
abbrev prs2 : List D := [.tup [.str (Str.ofString "at"), .int 4], .tup [.str (Str.ofString "sum"), .int 3]]
theorem in_prs {k : Str} {n : Int} (hk : PyData.strOk k = true) (s : Store) (j : Nat) (hs : s[j]? = some (.lst prs)) : cmpop .isin (.tup [.str k, .int n]) (.ref j) s = .ok (.bl ((k == Str.ofString "not" && decide (n = 2)) || ((Str.ofString "and" == k || Str.ofString "or" == k) && decide (n = 3)))) s := by
  have h1 : SeqAt.shaped (.list [.tuple [.str (Str.ofString "not"), .int 2], .tuple [.str (Str.ofString "and"), .int 3], .tuple [.str (Str.ofString "or"), .int 3]]) = true := by decide +kernel
  have h2 := shp (n := n) hk
  have e1 : (Str.ofString "not" == k) = (k == Str.ofString "not") := Bool.beq_comm
  have e4 : decide (2 = n) = decide (n = 2) := by simp [eq_comm]
  have e5 : decide (3 = n) = decide (n = 3) := by simp [eq_comm]
  cases q1 : k == Str.ofString "not" <;> cases q2 : Str.ofString "and" == k <;> cases q3 : Str.ofString "or" == k <;> simp [hs, cmpop, inD, dataS, D.data, D.dataL, PyData.eqv, PyData.eqvAll, resB, h1, h2, e1, q1, q2, q3, int_beq']
theorem nin_prs2 {k : Str} {n : Int} (hk : PyData.strOk k = true) (s : Store) (j : Nat) (hs : s[j]? = some (.lst prs2)) : cmpop .notin (.tup [.str k, .int n]) (.ref j) s = .ok (.bl (!((k == Str.ofString "at" && decide (n = 4)) || (k == Str.ofString "sum" && decide (n = 3))))) s := by
  have h1 : SeqAt.shaped (.list [.tuple [.str (Str.ofString "at"), .int 4], .tuple [.str (Str.ofString "sum"), .int 3]]) = true := by decide +kernel
  have h2 := shp (n := n) hk
  have e1 : (Str.ofString "at" == k) = (k == Str.ofString "at") := Bool.beq_comm
  have e2 : (Str.ofString "sum" == k) = (k == Str.ofString "sum") := Bool.beq_comm
  cases q1 : k == Str.ofString "at" <;> cases q2 : k == Str.ofString "sum" <;> simp [hs, cmpop, inD, dataS, D.data, D.dataL, PyData.eqv, PyData.eqvAll, resB, h1, h2, e1, e2, q1, q2, int_beq']
theorem eq_way {k : Str} {n : Int} (hk : PyData.strOk k = true) (st : Store) : cmpop .eq (.tup [.str k, .int n]) (.tup [.str (Str.ofString "way"), .int 2]) st = .ok (.bl (k == Str.ofString "way" && decide (n = 2))) st := by
  rw [eq_run rfl rfl (shp hk) (by decide +kernel)]
  simp [PyData.eqv, PyData.eqvAll]
  rfl
theorem ofs_ne {k : Str} {a b : String} (h : a ≠ b) (q : (k == Str.ofString a) = true) : (k == Str.ofString b) = false := by
  have := beq_iff_eq.mp q; subst this; exact str_ne h
theorem ofs_ne' {k : Str} {a b : String} (h : a ≠ b) (q : (k == Str.ofString a) = true) : (Str.ofString b == k) = false := by
  have := beq_iff_eq.mp q; subst this; exact str_ne (Ne.symm h)
theorem filter_two {p : D → Bool} {x y : D} : (([x, y].filter p).length = 2) ↔ (p x = true ∧ p y = true) := by
  cases hx : p x <;> cases hy : p y <;> simp [hx, hy]
theorem filter_one {p : D → Bool} {x : D} : (([x].filter p).length = 1) ↔ p x = true := by
  cases hx : p x <;> simp [hx]
section
/-- the comprehension of the law's parts -/
theorem lparts {m : Nat} {st : Store} {k : Nat} {c : Int} {v : D} {w : D} (xs : List D) (p : D → Bool) (hx : ∀ x ∈ xs, ∀ g, callK L m "_law_is_sentence" [.int c, x, .int (7 - (k : Int))] (st ++ g) = .ok (.bl (p x)) (st ++ g)) (hl : xs.length ≤ LINE) :
    compL (stepF [4] (.name 4) (evAll (callK L m) L.cs (.cons (.call "_law_is_sentence" (.cons (.var 0) (.cons (.var 4) (.cons (.bin .add (.var 2) (.int 1)) .nil)))) .nil)) (evE (callK L m) L.cs (.var 4)) [some (.int c), some v, some (.int (7 - ((k : Int) + 1))), some w, none]) none st.length xs (st ++ [.lst []]) = .ok (.ref st.length) (st ++ [.lst (xs.filter p)]) := by
  have e : (7 : Int) - (↑k + 1) + 1 = 7 - ↑k := by omega
  have := comp_filt (st := st) (xs := xs) (p := p) (g := id) (step := stepF [4] (.name 4) (evAll (callK L m) L.cs (.cons (.call "_law_is_sentence" (.cons (.var 0) (.cons (.var 4) (.cons (.bin .add (.var 2) (.int 1)) .nil)))) .nil)) (evE (callK L m) L.cs (.var 4)) [some (.int c), some v, some (.int (7 - ((k : Int) + 1))), some w, none]) (fun x hx' l => by
    cases q : p x <;> simp [stepF_name, wipeE, e, hx x hx', q, cstep]) hl
  simpa using this
theorem lsent_int : ∀ (k : Nat) {n : Nat} {st : Store} {c : Int} {d : D}, k ≤ 6 → k + 4 ≤ n → isIntD 1 6 (.int c) = true → Wf st d → callK L n "_law_is_sentence" [.int c, d, .int (7 - (k : Int))] st = .ok (.bl (nestD c k d)) st := by
  intro k
  induction k with
  | zero =>
    intro n st c d h6 hn hc h
    obtain ⟨m, rfl, hm⟩ := pred_ hn
    rw [call_open fn__law_is_sentence rfl]
    have h1 := lint_ok (st := st) (by omega : 1 ≤ m) (a := 1) (b := 6) (d := .int c) trivial
    simp [fd__law_is_sentence, startE, nestD, h1, hc]
  | succ k ih =>
    intro n st c d h6 hn hc h
    obtain ⟨m, rfl, hm⟩ := pred_ hn
    rw [call_open fn__law_is_sentence rfl]
    have h1 := lint_ok (st := st) (by omega : 1 ≤ m) (a := 1) (b := 6) (d := .int c) trivial
    have k0 : ¬ ((6 : Int) < 7 - (↑k + 1)) := by omega
    have ht := ty_wf h
    have lp := fun (w v : D) (xs : List D) (hx : ∀ x ∈ xs, Wf st x) (hl : xs.length ≤ LINE) => lparts (m := m) (st := st ++ [.lst prs]) (k := k) (c := c) (v := v) (w := w) xs (nestD c k) (fun x hx' g => ih (by omega) hm hc (wf_app (wf_app (hx x hx')))) hl
    match d, h, ht with
    | .tup [], h, ht => simp [fd__law_is_sentence, startE, nestD, h1, hc, k0, ht, tyD]
    | .tup [x], h, ht =>
      have e : nestD c (k + 1) (.tup [x]) = false := by
        cases x <;> simp [nestD, isPlainD]
      simp [fd__law_is_sentence, startE, h1, hc, k0, ht, tyD, e]
    | .tup (w :: x :: r), h, ht =>
      have tw := ty_wf h.1.1
      have l0 : ¬ ((r.length : Int) + 1 + 1 < 2) := by omega
      by_cases hw : ∃ s, w = .str s
      · obtain ⟨w, rfl⟩ := hw
        have hk : PyData.strOk w = true := h.1.1
        have hr := wfL_mem h.1.2
        have i1 := fun (n : Int) (s : Store) (j : Nat) => in_prs (n := n) hk s j
        have i2 := fun (n : Int) (s : Store) (j : Nat) => nin_prs2 (n := n) hk s j
        have i3 := fun (n : Int) (s : Store) => eq_way (n := n) hk s
        have e3 := fun s : Store => eq_str (st := s) hk ok_s.2.2.1
        cases q1 : w == Str.ofString "not"
        · cases q2 : (Str.ofString "and" == w || Str.ofString "or" == w)
          · cases q4 : w == Str.ofString "way"
            · cases q5 : w == Str.ofString "at"
              · cases q6 : w == Str.ofString "sum"
                · simp [fd__law_is_sentence, startE, LINE, nestD, isPlainD, h1, hc, k0, ht, tw, tyD, l0, i1, i2, i3, q1, q2, q4, q5, q6]
                · rcases r with _ | ⟨b, _ | ⟨y, r⟩⟩
                  · simp [fd__law_is_sentence, startE, LINE, nestD, isPlainD, h1, hc, k0, ht, tw, tyD, i1, i2, i3, q1, q2, q4, q5, q6]
                  · have a1 := fun g : Store => lterms_ok (st := st ++ g) (by omega : 2 ≤ m) (c := c) (wf_app (hr x (by simp)))
                    have a2 := fun g : Store => lint_ok (st := st ++ g) (by omega : 1 ≤ m) (a := -100000) (b := 100000) (wf_app (hr b (by simp)))
                    cases q7 : isIntD (-100000) 100000 b <;> simp [fd__law_is_sentence, startE, LINE, nestD, isPlainD, isBoundD, h1, hc, k0, ht, tw, tyD, i1, i2, i3, e3, q1, q2, q4, q5, q6, q7, a1, a2]
                  · have : ¬ ((r.length : Int) + 1 + 1 + 1 + 1 = 3) := by omega
                    have : ¬ ((r.length : Int) + 1 + 1 + 1 + 1 < 2) := by omega
                    simp [fd__law_is_sentence, startE, LINE, nestD, isPlainD, h1, hc, k0, ht, tw, tyD, i1, i2, i3, q1, q2, q4, q5, q6, *]
              · have q6 : (w == Str.ofString "sum") = false := ofs_ne (by decide) q5
                rcases r with _ | ⟨v, _ | ⟨b, _ | ⟨y, r⟩⟩⟩
                · simp [fd__law_is_sentence, startE, LINE, nestD, isPlainD, h1, hc, k0, ht, tw, tyD, i1, i2, i3, q1, q2, q4, q5, q6]
                · simp [fd__law_is_sentence, startE, LINE, nestD, isPlainD, h1, hc, k0, ht, tw, tyD, i1, i2, i3, q1, q2, q4, q5, q6]
                · have a1 := fun g : Store => lint_ok (st := st ++ g) (by omega : 1 ≤ m) (a := 0) (b := c - 1) (wf_app (hr x (by simp)))
                  have a2 := fun g : Store => lint_ok (st := st ++ g) (by omega : 1 ≤ m) (a := -100000) (b := 100000) (wf_app (hr b (by simp)))
                  have a3 := fun g : Store => lvar_ok (st := st ++ g) (by omega : 1 ≤ m) (wf_app (hr v (by simp)))
                  cases q7 : isIntD (-100000) 100000 b <;> cases q8 : isIntD 0 (c - 1) x <;> simp [fd__law_is_sentence, startE, LINE, nestD, isPlainD, isPlaceD, isBoundD, h1, hc, k0, ht, tw, tyD, i1, i2, i3, e3, q1, q2, q4, q5, q6, q7, q8, a1, a2, a3]
                · have : ¬ ((r.length : Int) + 1 + 1 + 1 + 1 + 1 = 4) := by omega
                  have : ¬ ((r.length : Int) + 1 + 1 + 1 + 1 + 1 < 2) := by omega
                  simp [fd__law_is_sentence, startE, LINE, nestD, isPlainD, h1, hc, k0, ht, tw, tyD, i1, i2, i3, q1, q2, q4, q5, q6, *]
            · have q5 : (w == Str.ofString "at") = false := ofs_ne (by decide) q4
              have q6 : (w == Str.ofString "sum") = false := ofs_ne (by decide) q4
              rcases r with _ | ⟨b, r⟩
              · have a1 := fun g : Store => lint_ok (st := st ++ g) (by omega : 1 ≤ m) (a := 0) (b := 999) (wf_app (hr x (by simp)))
                simp [fd__law_is_sentence, startE, LINE, nestD, isPlainD, h1, hc, k0, ht, tw, tyD, i1, i2, i3, q1, q2, q4, q5, q6, a1]
              · have : ¬ ((r.length : Int) + 1 + 1 + 1 = 2) := by omega
                have : ¬ ((r.length : Int) + 1 + 1 + 1 < 2) := by omega
                simp [fd__law_is_sentence, startE, LINE, nestD, isPlainD, h1, hc, k0, ht, tw, tyD, i1, i2, i3, q1, q2, q4, q5, q6, *]
          · have q4 : (w == Str.ofString "way") = false := by
              cases q : w == Str.ofString "way"
              · rfl
              · rw [ofs_ne' (by decide) q, ofs_ne' (by decide) q] at q2; cases q2
            have q5 : (w == Str.ofString "at") = false := by
              cases q : w == Str.ofString "at"
              · rfl
              · rw [ofs_ne' (by decide) q, ofs_ne' (by decide) q] at q2; cases q2
            have q6 : (w == Str.ofString "sum") = false := by
              cases q : w == Str.ofString "sum"
              · rfl
              · rw [ofs_ne' (by decide) q, ofs_ne' (by decide) q] at q2; cases q2
            rcases r with _ | ⟨y, _ | ⟨z, r⟩⟩
            · simp [fd__law_is_sentence, startE, LINE, nestD, isPlainD, h1, hc, k0, ht, tw, tyD, i1, i2, i3, q1, q2, q4, q5, q6]
            · have lp1 := lp (.str w) (.tup [.str w, x, y]) [x, y] (fun y hy => hr y hy) (by simp [LINE])
              have c2 : cutG [D.str w, x, y] (some 1) none = [x, y] := cutG_1
              have fl := filter_two (p := nestD c k) (x := x) (y := y)
              simp at lp1
              cases q7 : nestD c k x <;> cases q8 : nestD c k y <;> simp [q7, q8] at lp1 <;> simp [fd__law_is_sentence, startE, LINE, nestD, h1, hc, k0, ht, tw, tyD, i1, i2, i3, q1, q2, c2, lp1, q7, q8]
            · have : ¬ ((r.length : Int) + 1 + 1 + 1 + 1 = 3) := by omega
              have : ¬ ((r.length : Int) + 1 + 1 + 1 + 1 < 2) := by omega
              simp [fd__law_is_sentence, startE, LINE, nestD, isPlainD, h1, hc, k0, ht, tw, tyD, i1, i2, i3, q1, q2, q4, q5, q6, *]
        · have q2 : (Str.ofString "and" == w || Str.ofString "or" == w) = false := by rw [ofs_ne' (by decide) q1, ofs_ne' (by decide) q1]; rfl
          have q4 := ofs_ne (b := "way") (by decide) q1
          have q5 := ofs_ne (b := "at") (by decide) q1
          have q6 := ofs_ne (b := "sum") (by decide) q1
          rcases r with _ | ⟨y, r⟩
          · have lp1 := lp (.str w) (.tup [.str w, x]) [x] (fun y hy => hr y hy) (by simp [LINE])
            have c2 : cutG [D.str w, x] (some 1) none = [x] := cutG_1
            simp at lp1
            cases q7 : nestD c k x <;> simp [q7] at lp1 <;> simp [fd__law_is_sentence, startE, LINE, nestD, h1, hc, k0, ht, tw, tyD, i1, i2, i3, q1, q2, c2, lp1, q7]
          · have : ¬ ((r.length : Int) + 1 + 1 + 1 = 2) := by omega
            have : ¬ ((r.length : Int) + 1 + 1 + 1 < 2) := by omega
            simp [fd__law_is_sentence, startE, LINE, nestD, isPlainD, h1, hc, k0, ht, tw, tyD, i1, i2, i3, q1, q2, q4, q5, q6, *]
      · have e : nestD c (k + 1) (.tup (w :: x :: r)) = false := by
          cases w <;> first | rfl | exact absurd ⟨_, rfl⟩ hw
        have tn : tyD w ≠ "str" := by
          cases w <;> first | (simp [tyD]; done) | exact absurd ⟨_, rfl⟩ hw
        have tn2 : ¬ ("str" = tyD w) := fun e => tn e.symm
        simp [fd__law_is_sentence, startE, h1, hc, k0, tw, e, l0, tn2]
    | .non, h, ht => simp [fd__law_is_sentence, startE, nestD, h1, hc, k0, ht, tyD]
    | .bl _, h, ht => simp [fd__law_is_sentence, startE, nestD, h1, hc, k0, ht, tyD]
    | .int _, h, ht => simp [fd__law_is_sentence, startE, nestD, h1, hc, k0, ht, tyD]
    | .str _, h, ht => simp [fd__law_is_sentence, startE, nestD, h1, hc, k0, ht, tyD]
    | .ref _, h, ht => simp [fd__law_is_sentence, startE, nestD, h1, hc, k0, ht, tyD]
end
end Th

set_option linter.all false
set_option maxRecDepth 100000
set_option maxHeartbeats 2000000
namespace Th
open PySem L2 Mi LL
theorem lsent_ok {n : Nat} {st : Store} (hn : 10 ≤ n) {c d : D} (hc : Wf st c) (h : Wf st d) : callK L n "_law_is_sentence" [c, d, .int 1] st = .ok (.bl (isSentD c d)) st := by
  by_cases q : isIntD 1 6 c = true
  · cases c with
    | int c =>
      have := lsent_int 6 (n := n) (c := c) (by omega) hn q h
      simp only [isSentD, q, Bool.true_and]
      exact this
    | _ => cases q
  · obtain ⟨m, rfl, hm⟩ := pred_ hn
    rw [call_open fn__law_is_sentence rfl]
    have h1 := lint_ok (by omega : 1 ≤ m) (a := 1) (b := 6) hc
    have e : isSentD c d = false := by
      cases c <;> first | rfl | simp [isSentD, q]
    simp [fd__law_is_sentence, startE, h1, q, e]
section
variable {st : Store} {n : Nat}
theorem lbound_wr {N : Nat} (hN : 2 ≤ N) (b : Bag st n) : WR (callK L N "_law_bound" [.ref n] st) (fun d s => (∃ i, d = .int i) ∧ Ext n st s) noE := by
  obtain ⟨N, rfl, hM⟩ := pred_ hN
  refine call_wr fn__law_bound rfl ?_
  simp [fd__law_bound, startE, LINE]
  refine wr_no (draw_wr (by omega) b (by omega) (by omega)) ?_
  rintro _ s ⟨v, rfl, _, _, e1⟩
  simp
  refine wr_no (draw_wr (by omega) e1.bag.app (by omega) (by omega)) ?_
  rintro _ s2 ⟨w, rfl, h0, h1, e2⟩
  have e3 := e2.of_app e1.bag
  simp [e2.new e1.bag]
  refine wr_pick h0 (by simp; omega) ?_
  intro d hd
  have hi : ∃ i, d = .int i := by
    simp at hd
    rcases hd with rfl | rfl | rfl | rfl | rfl | rfl | rfl <;> exact ⟨_, rfl⟩
  refine wr_gc b (e1.trans e3) ?_ fun s h w => ⟨hi, h⟩
  obtain ⟨i, rfl⟩ := hi
  trivial
theorem sz_mono {W : Nat} : ∀ {k j : Nat} {d : D}, k ≤ j → Sz W k d → Sz W j d
  | 0, j, d, _, h => by cases d <;> cases j <;> first | exact h.elim | trivial
  | k + 1, 0, d, hl, h => by omega
  | k + 1, j + 1, .tup xs, hl, h => ⟨h.1, fun x hx => sz_mono (by omega) (h.2 x hx)⟩
  | k + 1, j + 1, .non, _, _ => trivial
  | k + 1, j + 1, .bl _, _, _ => trivial
  | k + 1, j + 1, .int _, _, _ => trivial
  | k + 1, j + 1, .str _, _, _ => trivial
  | k + 1, j + 1, .fl _, _, _ => trivial
  | k + 1, j + 1, .ref _, _, _ => trivial
/-- flat -/
def Fl : D → Prop
  | .int _ => True
  | .str x => PyData.strOk x = true
  | _ => False
theorem fl_sz {W k : Nat} {d : D} (h : Fl d) : Sz W k d := by cases d <;> first | exact h.elim | (cases k <;> trivial)
theorem fl_wf {st : Store} {d : D} (h : Fl d) : Wf st d := by cases d <;> first | exact h.elim | trivial | exact h
theorem term_wf {st : Store} {xs : List D} (h : ∀ x ∈ xs, Fl x) (hl : xs.length ≤ 7) : Wf st (.tup xs) ∧ Sz 7 1 (.tup xs) := ⟨⟨wfL_of fun x hx => fl_wf (h x hx), by simp only [LINE]; omega⟩, hl, fun x hx => fl_sz (h x hx)⟩
theorem strOk_abcd (c : Str) (h : c = "a" ∨ c = "b" ∨ c = "c" ∨ c = "d") : PyData.strOk c = true := by
  rcases h with rfl | rfl | rfl | rfl <;> decide +kernel
theorem abcd_pick {w : Int} {s : Store} {Q : D → Store → Prop} {E : Str → Store → Prop} (h0 : 0 ≤ w) (h1 : w < 4) (g : ∀ c : Str, PyData.strOk c = true → (c = "a" ∨ c = "b" ∨ c = "c" ∨ c = "d") → Q (.str c) s) : WR (idxop (.str (Str.ofString "abcd")) (.int w) s) Q E := by
  have hl : (Str.ofString "abcd").length ≤ LINE := by
    have : (Str.ofString "abcd").length = 4 := by decide +kernel
    rw [this]; simp [LINE]
  have : w = 0 ∨ w = 1 ∨ w = 2 ∨ w = 3 := by omega
  have e : ∀ (i : Nat) (c : String), i < 4 → (Str.ofString "abcd").cps.toList[i]? = (Str.ofString c).cps.toList[0]? → (Str.ofString c).cps.toList.length = 1 → (c = "a" ∨ c = "b" ∨ c = "c" ∨ c = "d") → WR (idxop (.str (Str.ofString "abcd")) (.int i) s) Q E := by
    intro i c _ e1 e2 hc
    have hn : atI (Str.ofString "abcd").cps.toList (i : Int) = (Str.ofString c).cps.toList[0]? := by rw [atI_nat', e1]
    obtain ⟨x, hx⟩ : ∃ x, (Str.ofString c).cps.toList = [x] := List.length_eq_one_iff.mp e2
    have hc' : Str.ofString c = ⟨#[x]⟩ := by
      cases hs : Str.ofString c with
      | mk a =>
        rw [hs] at hx
        congr 1
        exact Array.toList_inj.mp hx
    rw [hx] at hn
    simp only [idxop, hn, List.getElem?_cons_zero]
    rw [if_pos hl, ← hc']
    refine g _ (strOk_abcd _ ?_) ?_
    all_goals rcases hc with rfl | rfl | rfl | rfl <;> simp
  rcases this with rfl | rfl | rfl | rfl
  · exact e 0 "a" (by omega) (by decide +kernel) (by decide +kernel) (by simp)
  · exact e 1 "b" (by omega) (by decide +kernel) (by decide +kernel) (by simp)
  · exact e 2 "c" (by omega) (by decide +kernel) (by decide +kernel) (by simp)
  · exact e 3 "d" (by omega) (by decide +kernel) (by decide +kernel) (by simp)
end
end Th

set_option linter.all false
set_option maxRecDepth 100000
set_option maxHeartbeats 4000000
namespace Th
open PySem L2 Mi LL
def sentRest : Ss := match fd__law_sentence.body with
  | .cons _ (.cons _ r) => r
  | _ => .nil
def SentQ (n : Nat) (st : Store) (k : Nat) : D → Store → Prop := fun d s => WfQ n st d s ∧ Sz 7 (k + 2) d ∧ ∃ xs, d = .tup xs
def sentEnv (n : Nat) (c k : Int) (kd : Str) : Mi.Env := [some (.ref n), some (.int c), some (.int k), some (.str kd), none, none, none, none, none]
theorem Ext.wfs {n : Nat} {st st' : Store} (h : Ext n st st') {xs : List D} (w : ∀ x ∈ xs, Wf st x) : ∀ x ∈ xs, Wf st' x := fun x hx => h.wf (w x hx)
theorem sent_out {n : Nat} {st s : Store} {k : Nat} {xs : List D} (b : Bag st n) (e : Ext n st s) (hl : xs.length ≤ 7) (hw : ∀ x ∈ xs, Wf s x ∧ Sz 7 (k + 1) x) : WR (gc st (.ok (.tup xs) s)) (SentQ n st k) noE :=
  wr_gc b e ⟨wfL_of fun x hx => (hw x hx).1, by simp only [LINE]; omega⟩ fun s' h w => ⟨⟨w, h⟩, ⟨hl, fun x hx => (hw x hx).2⟩, _, rfl⟩
section
variable {n : Nat} {c : Int} (hc : 1 ≤ c) (hc6 : c ≤ 6)
include hc hc6
theorem sent_at {N k : Nat} {j : Int} {st s : Store} (hN : 2 ≤ N) (b : Bag st n) (e : Ext n st s) : WO (evSs (callK L N) L.cs L.sub L.wf sentRest (sentEnv n c j "at") s) (fun o => WR (gc st o.fin) (SentQ n st k) noE) := by
  unfold sentRest sentEnv
  delta fd__law_sentence
  simp
  refine wr_no (draw_wr (by omega) e.bag (by omega) (by omega)) ?_
  rintro _ s1 ⟨p, rfl, _, _, e1⟩
  try simp
  refine wr_no (draw_wr (by omega) e1.bag (by omega) (by omega)) ?_
  rintro _ s2 ⟨v, rfl, h0, h1, e2⟩
  refine abcd_pick h0 h1 fun x hx _ => ?_
  simp [eq_str ok_s.1 ok_s.1, LINE]
  refine wr_no (lbound_wr hN e2.bag) ?_
  rintro _ s3 ⟨⟨i, rfl⟩, e3⟩
  refine sent_out b (((e.trans e1).trans e2).trans e3) (by simp) fun y hy => ?_
  simp at hy
  have : Fl y := by rcases hy with rfl | rfl | rfl | rfl <;> first | trivial | exact hx | exact ok_s.1
  exact ⟨fl_wf this, fl_sz this⟩
theorem sent_way {N k : Nat} {j : Int} {st s : Store} (hN : 2 ≤ N) (b : Bag st n) (e : Ext n st s) : WO (evSs (callK L N) L.cs L.sub L.wf sentRest (sentEnv n c j "way") s) (fun o => WR (gc st o.fin) (SentQ n st k) noE) := by
  unfold sentRest sentEnv
  delta fd__law_sentence
  simp
  refine wr_no (draw_wr (by omega) e.bag (by omega) (by omega)) ?_
  rintro _ s1 ⟨p, rfl, _, _, e1⟩
  try simp
  refine wr_no (draw_wr (by omega) e1.bag (by omega) (by omega)) ?_
  rintro _ s2 ⟨v, rfl, h0, h1, e2⟩
  refine abcd_pick h0 h1 fun x hx _ => ?_
  simp [eq_str ok_s.2.1 ok_s.1, eq_str ok_s.2.1 ok_s.2.1, LINE]
  refine wr_no (draw_wr (by omega) e2.bag.app (by omega) (by omega)) ?_
  rintro _ s3 ⟨w, rfl, h2, h3, e3⟩
  simp [e3.new e2.bag]
  refine wr_pick h2 (by simp; omega) fun d hd => ?_
  have hd' : Fl d := by simp at hd; rcases hd with rfl | rfl | rfl | rfl | rfl <;> trivial
  refine sent_out b (((e.trans e1).trans e2).trans (e3.of_app e2.bag)) (by simp) fun y hy => ?_
  simp at hy
  have : Fl y := by rcases hy with rfl | rfl <;> first | exact hd' | exact ok_s.2.1
  exact ⟨fl_wf this, fl_sz this⟩
theorem sent_sum {N k : Nat} {j : Int} {st s : Store} (hN : 2 ≤ N) (b : Bag st n) (e : Ext n st s) : WO (evSs (callK L N) L.cs L.sub L.wf sentRest (sentEnv n c j "sum") s) (fun o => WR (gc st o.fin) (SentQ n st (k + 1)) noE) := by
  unfold sentRest sentEnv
  delta fd__law_sentence
  simp
  refine wr_no (draw_wr (by omega) e.bag (by omega) (by omega)) ?_
  rintro _ s1 ⟨p, rfl, _, _, e1⟩
  try simp
  refine wr_no (draw_wr (by omega) e1.bag (by omega) (by omega)) ?_
  rintro _ s2 ⟨v, rfl, h0, h1, e2⟩
  refine abcd_pick h0 h1 fun x hx _ => ?_
  simp [eq_str ok_s.2.2.1 ok_s.1, eq_str ok_s.2.2.1 ok_s.2.1, eq_str ok_s.2.2.1 ok_s.2.2.1, LINE]
  have b2 := e2.bag
  have e02 := (e.trans e1).trans e2
  refine wo_rng1 ?_
  simp
  refine wr_no (draw_wr (by omega) b2.app (by omega) (by omega)) ?_
  rintro _ s3 ⟨m, rfl, hm0, hm6, e3⟩
  simp
  refine ⟨⟨by omega, by omega⟩, ?_⟩
  have ha3 := e3.new b2
  have e03 := e02.trans (e3.of_app b2)
  refine wo_seq (R := fun o => ∃ y s acc, o = .nx [some (.ref n), some (.int c), some (.int j), some (.str (Str.ofString "sum")), some (.int p), some (.str x), none, some (.ref s2.length), y] s ∧ Ext n st s ∧ s[s2.length]? = some (.lst acc) ∧ acc.length ≤ 6 ∧ ∀ d ∈ acc, Wf s d ∧ Sz 7 1 d) (for_list (fun ys env s => ∃ y acc, env = [some (.ref n), some (.int c), some (.int j), some (.str (Str.ofString "sum")), some (.int p), some (.str x), none, some (.ref s2.length), y] ∧ Ext n st s ∧ s[s2.length]? = some (.lst acc) ∧ acc.length + ys.length ≤ 6 ∧ (∀ d ∈ acc, Wf s d ∧ Sz 7 1 d)) ?_ ?_ _ _ _ ?_) ?_
  · rintro y ys _ s ⟨y', acc, rfl, e, ha, hl, hw⟩
    refine ⟨trivial, ?_⟩
    simp [recv_app ha]
    refine wr_no (draw_wr (by omega) e.bag (by omega) (by omega)) ?_
    rintro _ s4 ⟨v1, rfl, _, _, e4⟩
    simp
    refine wr_no (draw_wr (by omega) e4.bag (by omega) (by omega)) ?_
    rintro _ s5 ⟨v2, rfl, _, _, e5⟩
    refine wr_no (draw_wr (by omega) e5.bag (by omega) (by omega)) ?_
    rintro _ s6 ⟨v3, rfl, h30, h31, e6⟩
    refine abcd_pick h30 h31 fun z hz _ => ?_
    have ne : s2.length ≠ n := by have := b2.lt; omega
    have e46 := (e4.trans e5).trans e6
    have ha6 := e46.get ne ha
    have tw : ∀ s, Wf s (.tup [.int (v1 - 9), .int v2, .str z]) ∧ Sz 7 1 (.tup [.int (v1 - 9), .int v2, .str z]) := fun s => term_wf (fun q hq => by simp at hq; rcases hq with rfl | rfl | rfl <;> first | trivial | exact hz) (by simp)
    simp only [List.length_cons] at hl
    simp [LINE, append_run (d := .tup [.int (v1 - 9), .int v2, .str z]) ha6 (by simp only [LINE]; omega)]
    refine ⟨(e.trans e46).set_new b (by have := e02.le; omega), _, get_set ha6, by simp; omega, ?_⟩
    intro q hq
    rcases List.mem_append.mp hq with hq | hq
    · exact ⟨wf_set ha6 (e46.wf (hw q hq).1), (hw q hq).2⟩
    · rw [List.mem_singleton.mp hq]
      exact tw _
  · rintro _ s ⟨y, acc, rfl, e, ha, hl, hw⟩
    exact ⟨trivial, y, s, acc, rfl, e, ha, by simpa using hl, hw⟩
  · exact ⟨none, [], rfl, e03, ha3, by rw [rangeD_len]; simp; omega, by simp⟩
  · rintro _ ⟨y, s, acc, rfl, e, ha, hl, hw⟩
    simp [ha, LINE]
    refine wr_no (lbound_wr hN e.bag) ?_
    rintro _ s4 ⟨⟨i, rfl⟩, e4⟩
    refine sent_out b (e.trans e4) (by simp) fun q hq => ?_
    simp at hq
    rcases hq with rfl | rfl | rfl
    · exact ⟨ok_s.2.2.1, fl_sz ok_s.2.2.1⟩
    · exact ⟨⟨wfL_of fun d hd => e4.wf (hw d hd).1, by simp only [LINE]; omega⟩, by omega, fun d hd => sz_mono (by omega) (hw d hd).2⟩
    · exact ⟨trivial, trivial⟩
end
end Th

set_option linter.all false
set_option maxRecDepth 100000
set_option maxHeartbeats 4000000
namespace Th
open PySem L2 Mi LL
theorem wfq_at {n : Nat} {st : Store} {d : D} {s : Store} (h : WfQ n st d s) : Wf s d ∧ Ext n st s := h
theorem kind_of {d : D} (hd : d ∈ [D.str (Str.ofString "at"), D.str (Str.ofString "at"), D.str (Str.ofString "way"), D.str (Str.ofString "sum"), D.str (Str.ofString "not"), D.str (Str.ofString "and"), D.str (Str.ofString "or"), D.str (Str.ofString "and")]) :
    ∃ kd : String, d = .str (Str.ofString kd) ∧ (kd = "at" ∨ kd = "way" ∨ kd = "sum" ∨ kd = "not" ∨ kd = "and" ∨ kd = "or") := by
  simp only [List.mem_cons, List.not_mem_nil, or_false] at hd
  rcases hd with rfl | rfl | rfl | rfl | rfl | rfl | rfl | rfl <;> exact ⟨_, rfl, by simp⟩
theorem ok_kind {kd : String} (h : kd = "at" ∨ kd = "way" ∨ kd = "sum" ∨ kd = "not" ∨ kd = "and" ∨ kd = "or") : PyData.strOk (Str.ofString kd) = true := by
  rcases h with rfl | rfl | rfl | rfl | rfl | rfl <;> decide +kernel
section
variable {n : Nat} {c : Int} (hc : 1 ≤ c) (hc6 : c ≤ 6)
include hc hc6
theorem sent_one {N k : Nat} {st s : Store} (hN : 2 ≤ N) (b : Bag st n) (e : Ext n st s) (ih : ∀ {st : Store}, Bag st n → WR (callK L N "_law_sentence" [.ref n, .int c, .int k] st) (SentQ n st k) noE) :
    WO (evSs (callK L N) L.cs L.sub L.wf sentRest (sentEnv n c (k + 1) "not") s) (fun o => WR (gc st o.fin) (SentQ n st (k + 1)) noE) := by
  unfold sentRest sentEnv
  delta fd__law_sentence
  simp
  refine wr_no (draw_wr (by omega) e.bag (by omega) (by omega)) ?_
  rintro _ s1 ⟨p, rfl, _, _, e1⟩
  refine wr_no (draw_wr (by omega) e1.bag (by omega) (by omega)) ?_
  rintro _ s2 ⟨v, rfl, h0, h1, e2⟩
  refine abcd_pick h0 h1 fun x hx _ => ?_
  have o4 := ok_s.2.2.2.1
  simp [eq_str o4 ok_s.1, eq_str o4 ok_s.2.1, eq_str o4 ok_s.2.2.1, eq_str o4 o4, LINE]
  refine wr_no (ih e2.bag) ?_
  rintro d s3 ⟨⟨w3, e3⟩, z3, _⟩
  refine sent_out b (((e.trans e1).trans e2).trans e3) (by simp) fun y hy => ?_
  simp at hy
  rcases hy with rfl | rfl
  · exact ⟨o4, fl_sz o4⟩
  · exact ⟨w3, sz_mono (by omega) z3⟩
theorem sent_two {N k : Nat} {st s : Store} {kd : String} (hk : kd = "and" ∨ kd = "or") (hN : 2 ≤ N) (b : Bag st n) (e : Ext n st s) (ih : ∀ {st : Store}, Bag st n → WR (callK L N "_law_sentence" [.ref n, .int c, .int k] st) (SentQ n st k) noE) :
    WO (evSs (callK L N) L.cs L.sub L.wf sentRest (sentEnv n c (k + 1) kd) s) (fun o => WR (gc st o.fin) (SentQ n st (k + 1)) noE) := by
  unfold sentRest sentEnv
  delta fd__law_sentence
  simp
  refine wr_no (draw_wr (by omega) e.bag (by omega) (by omega)) ?_
  rintro _ s1 ⟨p, rfl, _, _, e1⟩
  refine wr_no (draw_wr (by omega) e1.bag (by omega) (by omega)) ?_
  rintro _ s2 ⟨v, rfl, h0, h1, e2⟩
  refine abcd_pick h0 h1 fun x hx _ => ?_
  have o5 : PyData.strOk (Str.ofString kd) = true := by rcases hk with rfl | rfl <;> decide +kernel
  have n1 : ¬ (kd = "at") := by rcases hk with rfl | rfl <;> decide
  have n2 : ¬ (kd = "way") := by rcases hk with rfl | rfl <;> decide
  have n3 : ¬ (kd = "sum") := by rcases hk with rfl | rfl <;> decide
  have n4 : ¬ (kd = "not") := by rcases hk with rfl | rfl <;> decide
  simp [eq_str o5 ok_s.1, eq_str o5 ok_s.2.1, eq_str o5 ok_s.2.2.1, eq_str o5 ok_s.2.2.2.1, LINE, n1, n2, n3, n4]
  refine wr_no (ih e2.bag) ?_
  rintro d s3 ⟨⟨w3, e3⟩, z3, _⟩
  refine wr_no (ih e3.bag) ?_
  rintro d' s4 ⟨⟨w4, e4⟩, z4, _⟩
  refine sent_out b ((((e.trans e1).trans e2).trans e3).trans e4) (by simp) fun y hy => ?_
  simp at hy
  rcases hy with rfl | rfl | rfl
  · exact ⟨o5, fl_sz o5⟩
  · exact ⟨e4.wf w3, sz_mono (by omega) z3⟩
  · exact ⟨w4, sz_mono (by omega) z4⟩
omit hc hc6 in
theorem in_not {kd : String} {j : Nat} {s : Store} (hk : PyData.strOk (Str.ofString kd) = true) (hs : s[j]? = some (.lst [.str (Str.ofString "not"), .str (Str.ofString "and"), .str (Str.ofString "or")])) : cmpop .isin (.str (Str.ofString kd)) (.ref j) s = .ok (.bl (decide (kd = "not" ∨ kd = "and" ∨ kd = "or"))) s := by
  have h1 : SeqAt.shaped (.list [.str (Str.ofString "not"), .str (Str.ofString "and"), .str (Str.ofString "or")]) = true := by decide +kernel
  have h2 : SeqAt.shaped (.str (Str.ofString kd)) = true := by rw [shaped_str]; exact hk
  simp [cmpop, inD, dataS, hs, D.data, D.dataL, PyData.eqv, resB, h1, h2, eq_comm]
theorem lsentence_wr : ∀ (k : Nat) {N : Nat} {st : Store}, k + 3 ≤ N → Bag st n → WR (callK L N "_law_sentence" [.ref n, .int c, .int (k + 1 : Nat)] st) (SentQ n st (k + 1)) noE := by
  intro k
  induction k with
  | zero =>
    intro N st hN b
    obtain ⟨N, rfl, hM⟩ := pred_ hN
    refine call_wr fn__law_sentence rfl ?_
    simp [fd__law_sentence, startE, LINE]
    refine wr_no (draw_wr (by omega) b.app (by omega) (by omega)) ?_
    rintro _ s ⟨v, rfl, h0, h1, e1⟩
    simp [e1.new b]
    have e := e1.of_app b
    refine wr_pick h0 (by simp; omega) fun d hd => ?_
    obtain ⟨kd, rfl, hk⟩ := kind_of hd
    have ea : ∀ g : Store, Ext n st (s ++ g) := fun g => e.trans (Ext.app e.bag)
    refine wr_eq (in_not (ok_kind hk) (by simp)) ?_
    simp only [truth_bl, casO_some, out_ite_bind, obind_nx, kSs_app, wo_ite, decide_eq_true_eq]
    refine ⟨fun _ => sent_at hc hc6 (k := 1) (by omega) b (ea _), fun h => ?_⟩
    rcases hk with rfl | rfl | rfl | rfl | rfl | rfl
    · exact sent_at hc hc6 (k := 1) (by omega) b (ea _)
    · exact sent_way hc hc6 (k := 1) (by omega) b (ea _)
    · exact sent_sum hc hc6 (k := 0) (by omega) b (ea _)
    · exact absurd (by simp) h
    · exact absurd (by simp) h
    · exact absurd (by simp) h
  | succ k ih =>
    intro N st hN b
    obtain ⟨N, rfl, hM⟩ := pred_ hN
    refine call_wr fn__law_sentence rfl ?_
    have k1 : ¬ ((k : Int) + 1 + 1 = 1) := by omega
    simp [fd__law_sentence, startE, LINE, k1]
    refine wr_no (draw_wr (by omega) b.app (by omega) (by omega)) ?_
    rintro _ s ⟨v, rfl, h0, h1, e1⟩
    simp [e1.new b]
    have e := e1.of_app b
    refine wr_pick h0 (by simp; omega) fun d hd => ?_
    obtain ⟨kd, rfl, hk⟩ := kind_of hd
    have ih' : ∀ {st : Store}, Bag st n → WR (callK L N "_law_sentence" [.ref n, .int c, .int (k + 1 : Nat)] st) (SentQ n st (k + 1)) noE := fun b => ih hM b
    rcases hk with rfl | rfl | rfl | rfl | rfl | rfl
    · have r := sent_at hc hc6 (k := k + 2) (j := (k : Int) + 1 + 1) (by omega : 2 ≤ N) b e
      unfold sentRest sentEnv at r
      delta fd__law_sentence at r
      simp at r
      exact r
    · have r := sent_way hc hc6 (k := k + 2) (j := (k : Int) + 1 + 1) (by omega : 2 ≤ N) b e
      unfold sentRest sentEnv at r
      delta fd__law_sentence at r
      simp at r
      exact r
    · have r := sent_sum hc hc6 (k := k + 1) (j := (k : Int) + 1 + 1) (by omega : 2 ≤ N) b e
      unfold sentRest sentEnv at r
      delta fd__law_sentence at r
      simp at r
      exact r
    · have r := sent_one hc hc6 (k := k + 1) (by omega : 2 ≤ N) b e ih'
      unfold sentRest sentEnv at r
      delta fd__law_sentence at r
      simp at r
      exact r
    · have r := sent_two hc hc6 (k := k + 1) (kd := "and") (by simp) (by omega : 2 ≤ N) b e ih'
      unfold sentRest sentEnv at r
      delta fd__law_sentence at r
      simp at r
      exact r
    · have r := sent_two hc hc6 (k := k + 1) (kd := "or") (by simp) (by omega : 2 ≤ N) b e ih'
      unfold sentRest sentEnv at r
      delta fd__law_sentence at r
      simp at r
      exact r
end
end Th

set_option linter.all false
set_option maxRecDepth 100000
set_option maxHeartbeats 4000000
namespace Th
open PySem L2 Mi LL
section
variable {n : Nat} {c : Int} (hc : 1 ≤ c) (hc6 : c ≤ 6)
theorem odd_wr {N : Nat} {st : Store} (hN : 2 ≤ N) (b : Bag st n) : WR (callK L N "_law_odd" [.ref n, .int c] st) (WfQ n st) noE := by
  obtain ⟨N, rfl, hM⟩ := pred_ hN
  refine call_wr fn__law_odd rfl ?_
  simp [fd__law_odd, startE, LINE]
  refine wr_no (draw_wr hM b.app (by omega) (by omega)) ?_
  rintro _ s ⟨v, rfl, h0, h1, e1⟩
  have e2 := e1.of_app b
  simp only [idx_ref v (e1.newk b (k := 3) rfl)]
  have r1 := e1.newk b (k := 1) rfl
  refine wr_pick h0 (by simp; omega) fun d hd => wr_gc b e2 (wfL_mem ?_ d hd) fun s h w => ⟨w, h⟩
  simp only [List.cons_append, List.nil_append, WfL, Wf]
  repeat' (first | exact trivial | apply And.intro)
  all_goals first | exact ⟨_, r1⟩ | decide +kernel | simp [LINE]
include hc hc6
theorem built_wr {N : Nat} {st : Store} (hN : 20 ≤ N) (b : Bag st n) : WR (callK L N "_law_built" [.ref n, .int c] st) (WfQ n st) noE := by
  obtain ⟨N, rfl, hM⟩ := pred_ hN
  refine call_wr fn__law_built rfl ?_
  simp [fd__law_built, startE, LINE]
  refine wr_no (draw_wr (by omega) b (by omega) (by omega)) ?_
  rintro _ s ⟨v, rfl, h0, h1, e1⟩
  simp
  have hv : (1 : Int) + v = ((v.toNat + 1 : Nat) : Int) := by omega
  rw [hv]
  refine wr_no (lsentence_wr hc hc6 v.toNat (by omega) e1.bag) ?_
  rintro d s2 ⟨⟨w2, e2⟩, z2, t2⟩
  refine wr_no (draw_wr (by omega) e2.bag (by omega) (by omega)) ?_
  rintro _ s3 ⟨v3, rfl, _, _, e3⟩
  refine wr_eq (eq_ii _ _ _) ?_
  have z2 : Sz 7 8 d := sz_mono (by omega) z2
  have e13 := (e1.trans e2).trans e3
  refine wo_seq (R := fun o => ∃ d x s, o = .nx [some (.ref n), some (.int c), some d, none, x] s ∧ Ext n st s ∧ Wf s d ∧ Sz 7 11 d ∧ ∃ xs, d = .tup xs) ?_ ?_
  · simp only [truth_bl, casO_some, wo_ite, decide_eq_true_eq]
    refine ⟨fun _ => ?_, fun _ => ⟨d, none, s3, rfl, e13, e3.wf w2, sz_mono (by omega) z2, t2⟩⟩
    refine wo_rng1 ?_
    refine wr_no (draw_wr (by omega) e3.bag (by omega) (by omega)) ?_
    rintro _ s4 ⟨v4, rfl, h40, h41, e4⟩
    refine ⟨_, rfl, ⟨by omega, by omega⟩, ?_⟩
    refine wo_seq (R := fun o => ∃ d x s, o = .nx [some (.ref n), some (.int c), some d, none, x] s ∧ Ext n st s ∧ Wf s d ∧ Sz 7 11 d ∧ ∃ xs, d = .tup xs) (for_list (Q := fun o => ∃ d x s, o = .nx [some (.ref n), some (.int c), some d, none, x] s ∧ Ext n st s ∧ Wf s d ∧ Sz 7 11 d ∧ ∃ xs, d = .tup xs) (fun ys env s => ∃ d x, env = [some (.ref n), some (.int c), some d, none, x] ∧ Ext n st s ∧ Wf s d ∧ (ys.length ≤ 3 ∧ Sz 7 (11 - ys.length) d) ∧ (∀ y ∈ ys, ∃ i, y = .int i) ∧ ∃ xs, d = .tup xs) ?_ ?_ _ _ _ ?_) (by rintro _ ⟨d, x, s, rfl, h⟩; exact ⟨d, x, s, rfl, h⟩)
    · rintro y ys _ s ⟨d, x, rfl, e, w, ⟨hl, z⟩, hy, t⟩
      obtain ⟨i, rfl⟩ := hy y List.mem_cons_self
      refine ⟨trivial, ?_⟩
      simp [LINE]
      refine wr_no (draw_wr (by omega) e.bag.app (by omega) (by omega)) ?_
      rintro _ s5 ⟨v5, rfl, h50, h51, e5⟩
      simp [e5.new e.bag]
      refine wr_pick h50 (by simp; omega) fun d' hd' => ?_
      have e6 := e5.of_app e.bag
      have w6 := e6.wf w
      simp only [List.length_cons] at hl z
      refine ⟨e.trans e6, ?_, ⟨by omega, ?_⟩, fun y h => hy y (List.mem_cons_of_mem _ h), ?_⟩
      all_goals
        simp only [List.mem_cons, List.not_mem_nil, or_false] at hd'
      · rcases hd' with rfl | rfl | rfl
        · exact ⟨⟨ok_s.2.2.2.1, w6, trivial⟩, by simp [LINE]⟩
        · exact ⟨⟨ok_s.2.2.2.2.1, ⟨⟨ok_s.2.1, trivial, trivial⟩, by simp [LINE]⟩, w6, trivial⟩, by simp [LINE]⟩
        · exact ⟨⟨ok_s.2.2.2.2.2, w6, ⟨⟨ok_s.1, trivial, strOk_abcd _ (by simp), trivial, trivial⟩, by simp [LINE]⟩, trivial⟩, by simp [LINE]⟩
      · obtain ⟨q, hq⟩ : ∃ q, 11 - ys.length = (11 - (ys.length + 1)) + 1 := ⟨0, by omega⟩
        rw [hq]
        have zf : ∀ {m : Nat} {xs : List D}, (∀ x ∈ xs, Fl x) → xs.length ≤ 7 → Sz 7 (m + 1) (.tup xs) := fun hx hl => ⟨hl, fun x h => fl_sz (hx x h)⟩
        obtain ⟨m, hm⟩ : ∃ m, 11 - (ys.length + 1) = m + 1 := ⟨10 - (ys.length + 1), by omega⟩
        rcases hd' with rfl | rfl | rfl
        · refine ⟨by simp, fun x hx => ?_⟩
          simp at hx
          rcases hx with rfl | rfl
          · exact fl_sz ok_s.2.2.2.1
          · exact z
        · refine ⟨by simp, fun x hx => ?_⟩
          simp at hx
          rcases hx with rfl | rfl | rfl
          · exact fl_sz ok_s.2.2.2.2.1
          · rw [hm]; exact zf (fun x hx => by simp at hx; rcases hx with rfl | rfl <;> first | exact ok_s.2.1 | trivial) (by simp)
          · exact z
        · refine ⟨by simp, fun x hx => ?_⟩
          simp at hx
          rcases hx with rfl | rfl | rfl
          · exact fl_sz ok_s.2.2.2.2.2
          · exact z
          · rw [hm]; exact zf (fun x hx => by simp at hx; rcases hx with rfl | rfl | rfl | rfl <;> first | exact ok_s.1 | exact strOk_abcd _ (by simp) | trivial) (by simp)
      · rcases hd' with rfl | rfl | rfl <;> exact ⟨_, rfl⟩
    · rintro _ s ⟨d, x, rfl, e, w, ⟨_, z⟩, _, t⟩
      exact ⟨trivial, d, x, s, rfl, e, w, z, t⟩
    · exact ⟨d, none, rfl, e13.trans e4, e4.wf (e3.wf w2), ⟨by rw [rangeD_len]; omega, sz_mono (by rw [rangeD_len]; omega) z2⟩, fun y hy => by obtain ⟨k, rfl, _⟩ := rangeD_mem hy; exact ⟨k, rfl⟩, t2⟩
  · rintro _ ⟨d, x, s, rfl, e, w, z, xs, rfl⟩
    simp
    refine wr_no (draw_wr (by omega) e.bag (by omega) (by omega)) ?_
    rintro _ s4 ⟨v4, rfl, h40, h41, e4⟩
    simp
    refine ⟨fun _ => ?_, fun _ => ?_⟩
    · refine wr_no (odd_wr (by omega) e4.bag) ?_
      rintro o s5 ⟨w5, e5⟩
      refine wr_no (spoilt_wr (W := 7) (by simp [LINE]) 11 (by omega) e5.bag z (e5.wf (e4.wf w)) w5) ?_
      rintro d s6 ⟨w6, e6⟩
      exact wr_gc b (((e.trans e4).trans e5).trans e6) w6 fun s h w => ⟨w, h⟩
    · refine ⟨fun _ => ?_, fun _ => ?_⟩
      · simp [LINE]
        refine wr_no (draw_wr (by omega) e4.bag.app (by omega) (by omega)) ?_
        rintro _ s5 ⟨v5, rfl, h50, h51, e5⟩
        simp [e5.new e4.bag]
        refine wr_pick h50 (by simp; omega) fun d' hd' => ?_
        have e6 := e5.of_app e4.bag
        have e46 := e4.trans e6
        have hw : Wf s5 d' := by
          simp only [List.mem_cons, List.not_mem_nil, or_false] at hd'
          rcases hd' with rfl | rfl | rfl | rfl | rfl | rfl | rfl | rfl | rfl | rfl <;> first | trivial | (show PyData.strOk _ = true; decide +kernel)
        have hc := cutG_len (xs := xs) (lo := some 1) (hi := none)
        have hx := z.1
        have wx := wfL_mem (e46.wf w).1
        have wr := wr_gc (Q := WfQ n st) (E := noE) b (e.trans e46) (d := .tup (d' :: cutG xs (some 1) none)) ⟨⟨hw, wfL_of fun y hy => wx y (cutG_mem hy)⟩, by simp only [LINE, List.length_cons]; omega⟩ fun s h w => ⟨w, h⟩
        have hl : 1 + (cutG xs (some 1) none).length ≤ 16777216 := by omega
        simp [hl]
        exact wr
      · exact wr_gc b (e.trans e4) (e4.wf w) fun s h w => ⟨w, h⟩
end
end Th

set_option linter.all false
set_option maxRecDepth 100000
set_option maxHeartbeats 4000000
namespace Th
open PySem L2 Mi LL
def lawBody : Ss := match fd_law.body with
  | .cons (.for _ _ b) _ => b
  | _ => .nil
def LawEnv (ns : List Int) (env : Mi.Env) : Prop := ∃ x1 x2 x3 x4 x5, env = [some (.fl (ns.map D.int)), x1, x2, x3, x4, x5]
theorem law_turn {m : Nat} (hm : 21 ≤ m) {ns : List Int} (k : Int) (env : Mi.Env) (st : Store) (hk : 0 ≤ k) (he : LawEnv ns env) : WO (evSs (callK L m) L.cs L.sub L.wf lawBody (env.set 1 (some (.int k))) st) (Lp (fun e _ => LawEnv ns e) (fun _ => False)) := by
  obtain ⟨x1, x2, x3, x4, x5, rfl⟩ := he
  obtain ⟨a, b, c, hb⟩ := bag_ok (st := st) (n := m) (by omega) (ns := ns) hk
  have b0 : Bag (st ++ [.lst [.int a, .int b, .int c]]) st.length := ⟨a, b, c, by simp⟩
  unfold lawBody
  delta fd_law
  simp [hb]
  refine wr_no (draw_wr (by omega) b0 (by omega) (by omega)) ?_
  rintro _ s1 ⟨v1, rfl, h10, h11, e1⟩
  simp
  refine wr_no (built_wr (by omega) (by omega) (by omega) e1.bag) ?_
  rintro value s2 ⟨w2, e2⟩
  refine wr_no (draw_wr (by omega) e2.bag (by omega) (by omega)) ?_
  rintro _ s3 ⟨v3, rfl, _, _, e3⟩
  refine wr_eq (eq_ii _ _ _) ?_
  have w3 := e3.wf w2
  refine wo_seq (R := fun o => ∃ c s, o = .nx [some (.fl (ns.map D.int)), some (.int k), some (.ref st.length), some c, some value, x5] s ∧ Wf s c ∧ Wf s value) ?_ ?_
  · simp only [truth_bl, casO_some, wo_ite, decide_eq_true_eq]
    refine ⟨fun _ => ?_, fun _ => ⟨_, _, rfl, trivial, w3⟩⟩
    simp [LINE]
    refine wr_no (draw_wr (by omega) e3.bag.app (by omega) (by omega)) ?_
    rintro _ s4 ⟨v4, rfl, h40, h41, e4⟩
    simp [e4.new e3.bag]
    refine wr_pick h40 (by simp; omega) fun d hd => ?_
    refine ⟨d, s4, ⟨rfl, rfl⟩, ?_, (e4.of_app e3.bag).wf w3⟩
    simp only [List.mem_cons, List.not_mem_nil, or_false] at hd
    rcases hd with rfl | rfl | rfl | rfl | rfl | rfl | rfl | rfl | rfl | rfl <;> first | trivial | (show PyData.strOk _ = true; decide +kernel)
  · rintro _ ⟨c, s, rfl, wc, wv⟩
    simp [sentence_ok (by omega : 13 ≤ m) wc wv, lsent_ok (by omega : 10 ≤ m) wc wv]
    exact ⟨_, _, _, _, _, rfl⟩
theorem law_kept {n : Nat} (hn : 22 ≤ n) : Kept L n := by
  intro ns hns
  obtain ⟨m, rfl, hm⟩ := pred_ hn
  have key : WR (callK L (m + 1) "law" [.fl (ns.map D.int)] []) (fun d _ => d = .bl true) noE := by
    refine call_wr fn_law rfl ?_
    obtain ⟨M, eM, hM⟩ : ∃ M : Int, (if (if (ns.length : Int) < 20 then (ns.length : Int) else 20) > 1 then (if (ns.length : Int) < 20 then (ns.length : Int) else 20) else 1) = M ∧ small62 M := ⟨_, rfl, by split <;> (try split) <;> constructor <;> omega⟩
    have i1 : ∀ s : Store, callK L m "is_sentence" [.int 1, .non] s = .ok (.bl false) s := fun s => sentence_ok (by omega) (d := .non) trivial trivial
    have i2 : ∀ s : Store, callK L m "is_sentence" [.int 1, .str (Str.ofString "way")] s = .ok (.bl false) s := fun s => sentence_ok (by omega) (d := .str _) trivial ok_s.2.1
    simp [fd_law, startE, eM, hM]
    change WO (Out.bind (forL (bodyF (.name 1) (evSs (callK L m) L.cs L.sub L.wf lawBody)) none (rangeD 0 M) _ []) _) _
    refine wo_seq (turns (I := LawEnv ns) ⟨_, _, _, _, _, rfl⟩ (fun k env st hk he => law_turn hm k env st hk he)) ?_
    rintro _ ⟨e, s, rfl, _⟩
    obtain ⟨s', es⟩ := gc_bl (st := []) (s := s) (b := true)
    simp [i1, i2, es]
  obtain ⟨d, st, e, rfl⟩ := wr_get key
  exact ⟨st, e⟩
end Th

set_option linter.all false
set_option Elab.async false
set_option maxRecDepth 100000
set_option maxHeartbeats 4000000
namespace KK
open PySem L2 Mi LL PyProof.Rows
def topS (i : Nat) : Stmt := PySem.Challenge.pw_cutpapers_k03_sentences.main.body.getD i (.Pass ⟨0, 0, 0, 0⟩)
abbrev s_is_integer : Stmt := topS 7
abbrev n_is_integer : List Str := ["value", "least", "greatest"]
theorem mt_is_integer : mtSs names n_is_integer (defScope s_is_integer) fd_is_integer.body (defBody s_is_integer) = true := by decide +kernel
theorem sc_is_integer : FnScope n_is_integer ["value", "least", "greatest"] (defScope s_is_integer) := ⟨rfl, rfl, rfl, by decide +kernel, rfl, by decide +kernel, by decide +kernel⟩
abbrev s_is_sentence : Stmt := topS 10
abbrev n_is_sentence : List Str := ["count", "value"]
theorem mt_is_sentence : mtSs names n_is_sentence (defScope s_is_sentence) fd_is_sentence.body (defBody s_is_sentence) = true := by decide +kernel
theorem sc_is_sentence : FnScope n_is_sentence ["count", "value"] (defScope s_is_sentence) := ⟨rfl, rfl, rfl, by decide +kernel, rfl, by decide +kernel, by decide +kernel⟩
abbrev s__is_row : Stmt := topS 11
abbrev n__is_row : List Str := ["value", "least", "greatest"]
theorem mt__is_row : mtSs names n__is_row (defScope s__is_row) fd__is_row.body (defBody s__is_row) = true := by decide +kernel
theorem sc__is_row : FnScope n__is_row ["value", "least", "greatest"] (defScope s__is_row) := ⟨rfl, rfl, rfl, by decide +kernel, rfl, by decide +kernel, by decide +kernel⟩
abbrev s__is_named : Stmt := topS 12
abbrev n__is_named : List Str := ["value"]
theorem mt__is_named : mtSs names n__is_named (defScope s__is_named) fd__is_named.body (defBody s__is_named) = true := by decide +kernel
theorem sc__is_named : FnScope n__is_named ["value"] (defScope s__is_named) := ⟨rfl, rfl, rfl, by decide +kernel, rfl, by decide +kernel, by decide +kernel⟩
abbrev s__is_variable : Stmt := topS 13
abbrev n__is_variable : List Str := ["value"]
theorem mt__is_variable : mtSs names n__is_variable (defScope s__is_variable) fd__is_variable.body (defBody s__is_variable) = true := by decide +kernel
theorem sc__is_variable : FnScope n__is_variable ["value"] (defScope s__is_variable) := ⟨rfl, rfl, rfl, by decide +kernel, rfl, by decide +kernel, by decide +kernel⟩
abbrev s__is_nested : Stmt := topS 14
abbrev n__is_nested : List Str := ["count", "value", "depth", "part"]
theorem mt__is_nested : mtSs names n__is_nested (defScope s__is_nested) fd__is_nested.body (defBody s__is_nested) = true := by decide +kernel
theorem sc__is_nested : FnScope n__is_nested ["count", "value", "depth"] (defScope s__is_nested) := ⟨rfl, rfl, rfl, by decide +kernel, rfl, by decide +kernel, by decide +kernel⟩
abbrev s__is_plain : Stmt := topS 15
abbrev n__is_plain : List Str := ["count", "value"]
theorem mt__is_plain : mtSs names n__is_plain (defScope s__is_plain) fd__is_plain.body (defBody s__is_plain) = true := by decide +kernel
theorem sc__is_plain : FnScope n__is_plain ["count", "value"] (defScope s__is_plain) := ⟨rfl, rfl, rfl, by decide +kernel, rfl, by decide +kernel, by decide +kernel⟩
abbrev s__is_place : Stmt := topS 16
abbrev n__is_place : List Str := ["count", "process", "variable"]
theorem mt__is_place : mtSs names n__is_place (defScope s__is_place) fd__is_place.body (defBody s__is_place) = true := by decide +kernel
theorem sc__is_place : FnScope n__is_place ["count", "process", "variable"] (defScope s__is_place) := ⟨rfl, rfl, rfl, by decide +kernel, rfl, by decide +kernel, by decide +kernel⟩
abbrev s__is_bound : Stmt := topS 17
abbrev n__is_bound : List Str := ["value"]
theorem mt__is_bound : mtSs names n__is_bound (defScope s__is_bound) fd__is_bound.body (defBody s__is_bound) = true := by decide +kernel
theorem sc__is_bound : FnScope n__is_bound ["value"] (defScope s__is_bound) := ⟨rfl, rfl, rfl, by decide +kernel, rfl, by decide +kernel, by decide +kernel⟩
abbrev s__are_terms : Stmt := topS 18
abbrev n__are_terms : List Str := ["count", "value", "term"]
theorem mt__are_terms : mtSs names n__are_terms (defScope s__are_terms) fd__are_terms.body (defBody s__are_terms) = true := by decide +kernel
theorem sc__are_terms : FnScope n__are_terms ["count", "value"] (defScope s__are_terms) := ⟨rfl, rfl, rfl, by decide +kernel, rfl, by decide +kernel, by decide +kernel⟩
abbrev s__is_term : Stmt := topS 19
abbrev n__is_term : List Str := ["count", "value"]
theorem mt__is_term : mtSs names n__is_term (defScope s__is_term) fd__is_term.body (defBody s__is_term) = true := by decide +kernel
theorem sc__is_term : FnScope n__is_term ["count", "value"] (defScope s__is_term) := ⟨rfl, rfl, rfl, by decide +kernel, rfl, by decide +kernel, by decide +kernel⟩
abbrev s__law_bag : Stmt := topS 21
abbrev n__law_bag : List Str := ["script", "k", "cell"]
theorem mt__law_bag : mtSs names n__law_bag (defScope s__law_bag) fd__law_bag.body (defBody s__law_bag) = true := by decide +kernel
theorem sc__law_bag : FnScope n__law_bag ["script", "k"] (defScope s__law_bag) := ⟨rfl, rfl, rfl, by decide +kernel, rfl, by decide +kernel, by decide +kernel⟩
abbrev s__law_draw : Stmt := topS 22
abbrev n__law_draw : List Str := ["bag", "many", "rest", "seed"]
theorem mt__law_draw : mtSs names n__law_draw (defScope s__law_draw) fd__law_draw.body (defBody s__law_draw) = true := by decide +kernel
theorem sc__law_draw : FnScope n__law_draw ["bag", "many"] (defScope s__law_draw) := ⟨rfl, rfl, rfl, by decide +kernel, rfl, by decide +kernel, by decide +kernel⟩
abbrev s__law_is_int : Stmt := topS 23
abbrev n__law_is_int : List Str := ["value", "least", "most"]
theorem mt__law_is_int : mtSs names n__law_is_int (defScope s__law_is_int) fd__law_is_int.body (defBody s__law_is_int) = true := by decide +kernel
theorem sc__law_is_int : FnScope n__law_is_int ["value", "least", "most"] (defScope s__law_is_int) := ⟨rfl, rfl, rfl, by decide +kernel, rfl, by decide +kernel, by decide +kernel⟩
abbrev s__law_bound : Stmt := topS 24
abbrev n__law_bound : List Str := ["bag"]
theorem mt__law_bound : mtSs names n__law_bound (defScope s__law_bound) fd__law_bound.body (defBody s__law_bound) = true := by decide +kernel
theorem sc__law_bound : FnScope n__law_bound ["bag"] (defScope s__law_bound) := ⟨rfl, rfl, rfl, by decide +kernel, rfl, by decide +kernel, by decide +kernel⟩
abbrev s__law_sentence : Stmt := topS 25
abbrev n__law_sentence : List Str := ["bag", "count", "depth", "kind", "process", "variable", "first", "terms", "k"]
theorem mt__law_sentence : mtSs names n__law_sentence (defScope s__law_sentence) fd__law_sentence.body (defBody s__law_sentence) = true := by decide +kernel
theorem sc__law_sentence : FnScope n__law_sentence ["bag", "count", "depth"] (defScope s__law_sentence) := ⟨rfl, rfl, rfl, by decide +kernel, rfl, by decide +kernel, by decide +kernel⟩
abbrev s__law_is_variable : Stmt := topS 26
abbrev n__law_is_variable : List Str := ["value"]
theorem mt__law_is_variable : mtSs names n__law_is_variable (defScope s__law_is_variable) fd__law_is_variable.body (defBody s__law_is_variable) = true := by decide +kernel
theorem sc__law_is_variable : FnScope n__law_is_variable ["value"] (defScope s__law_is_variable) := ⟨rfl, rfl, rfl, by decide +kernel, rfl, by decide +kernel, by decide +kernel⟩
abbrev s__law_is_terms : Stmt := topS 27
abbrev n__law_is_terms : List Str := ["count", "value", "term"]
theorem mt__law_is_terms : mtSs names n__law_is_terms (defScope s__law_is_terms) fd__law_is_terms.body (defBody s__law_is_terms) = true := by decide +kernel
theorem sc__law_is_terms : FnScope n__law_is_terms ["count", "value"] (defScope s__law_is_terms) := ⟨rfl, rfl, rfl, by decide +kernel, rfl, by decide +kernel, by decide +kernel⟩
abbrev s__law_is_sentence : Stmt := topS 28
abbrev n__law_is_sentence : List Str := ["count", "value", "depth", "kind", "part"]
theorem mt__law_is_sentence : mtSs names n__law_is_sentence (defScope s__law_is_sentence) fd__law_is_sentence.body (defBody s__law_is_sentence) = true := by decide +kernel
theorem sc__law_is_sentence : FnScope n__law_is_sentence ["count", "value", "depth"] (defScope s__law_is_sentence) := ⟨rfl, rfl, rfl, by decide +kernel, rfl, by decide +kernel, by decide +kernel⟩
abbrev s__law_spoilt : Stmt := topS 29
abbrev n__law_spoilt : List Str := ["bag", "value", "odd", "at", "choice"]
theorem mt__law_spoilt : mtSs names n__law_spoilt (defScope s__law_spoilt) fd__law_spoilt.body (defBody s__law_spoilt) = true := by decide +kernel
theorem sc__law_spoilt : FnScope n__law_spoilt ["bag", "value", "odd"] (defScope s__law_spoilt) := ⟨rfl, rfl, rfl, by decide +kernel, rfl, by decide +kernel, by decide +kernel⟩
abbrev s__law_odd : Stmt := topS 30
abbrev n__law_odd : List Str := ["bag", "count", "odd"]
theorem mt__law_odd : mtSs names n__law_odd (defScope s__law_odd) fd__law_odd.body (defBody s__law_odd) = true := by decide +kernel
theorem sc__law_odd : FnScope n__law_odd ["bag", "count"] (defScope s__law_odd) := ⟨rfl, rfl, rfl, by decide +kernel, rfl, by decide +kernel, by decide +kernel⟩
abbrev s__law_built : Stmt := topS 31
abbrev n__law_built : List Str := ["bag", "count", "value", "choice", "k"]
theorem mt__law_built : mtSs names n__law_built (defScope s__law_built) fd__law_built.body (defBody s__law_built) = true := by decide +kernel
theorem sc__law_built : FnScope n__law_built ["bag", "count"] (defScope s__law_built) := ⟨rfl, rfl, rfl, by decide +kernel, rfl, by decide +kernel, by decide +kernel⟩
abbrev s_law : Stmt := topS 32
abbrev n_law : List Str := ["script", "k", "bag", "count", "value", "actual"]
theorem mt_law : mtSs names n_law (defScope s_law) fd_law.body (defBody s_law) = true := by decide +kernel
theorem sc_law : FnScope n_law ["script"] (defScope s_law) := ⟨rfl, rfl, rfl, by decide +kernel, rfl, by decide +kernel, by decide +kernel⟩
def Has (K : PySem.W.Frag) (f : Str) (s : Stmt) : Prop := ∃ (a : Addr) (oc : Value) (od : Option Addr) (kV dc pm : Value) (an : Option Addr) (cd ct : Value) (sl : Array (Option Value)),
  PySem.W.nsIn K mainGlobals f = some (some (.ref a)) ∧ K.lookup a = some ⟨oc, od, .func (PySem.W.fnOf f f (defArgs s) (defBody s) (defScope s) .none kV dc pm an cd ct), sl⟩ ∧ PySem.W.codeIn K cd f = true ∧ PySem.W.keepIn K (.ref a) = true
theorem ok_is_integer {G : Glob} {h : Heap} (X : G.K.In h) (N : h.Ns mainGlobals G.mg) (z : Has G.K "is_integer" s_is_integer) : Nonempty (DefOk G L names "is_integer") := by
  obtain ⟨a, oc, od, kV, dc, pm, an, cd, ct, sl, h1, h2, h3, h4⟩ := z
  have F := fun_mk (st := s_is_integer) h2 h3 h4
  exact ⟨⟨s_is_integer, a, _, n_is_integer, ["value", "least", "greatest"], fd_is_integer, fn_is_integer, F, sc_is_integer, PySem.W.mg_of X N h1, F.binds (ps := ["value", "least", "greatest"]) fun _ _ _ _ _ _ us hl => match us, hl with | [_, _, _], _ => rfl, rfl, rfl, mt_is_integer⟩⟩
theorem ok_is_sentence {G : Glob} {h : Heap} (X : G.K.In h) (N : h.Ns mainGlobals G.mg) (z : Has G.K "is_sentence" s_is_sentence) : Nonempty (DefOk G L names "is_sentence") := by
  obtain ⟨a, oc, od, kV, dc, pm, an, cd, ct, sl, h1, h2, h3, h4⟩ := z
  have F := fun_mk (st := s_is_sentence) h2 h3 h4
  exact ⟨⟨s_is_sentence, a, _, n_is_sentence, ["count", "value"], fd_is_sentence, fn_is_sentence, F, sc_is_sentence, PySem.W.mg_of X N h1, F.binds (ps := ["count", "value"]) fun _ _ _ _ _ _ us hl => match us, hl with | [_, _], _ => rfl, rfl, rfl, mt_is_sentence⟩⟩
theorem ok__is_row {G : Glob} {h : Heap} (X : G.K.In h) (N : h.Ns mainGlobals G.mg) (z : Has G.K "_is_row" s__is_row) : Nonempty (DefOk G L names "_is_row") := by
  obtain ⟨a, oc, od, kV, dc, pm, an, cd, ct, sl, h1, h2, h3, h4⟩ := z
  have F := fun_mk (st := s__is_row) h2 h3 h4
  exact ⟨⟨s__is_row, a, _, n__is_row, ["value", "least", "greatest"], fd__is_row, fn__is_row, F, sc__is_row, PySem.W.mg_of X N h1, F.binds (ps := ["value", "least", "greatest"]) fun _ _ _ _ _ _ us hl => match us, hl with | [_, _, _], _ => rfl, rfl, rfl, mt__is_row⟩⟩
theorem ok__is_named {G : Glob} {h : Heap} (X : G.K.In h) (N : h.Ns mainGlobals G.mg) (z : Has G.K "_is_named" s__is_named) : Nonempty (DefOk G L names "_is_named") := by
  obtain ⟨a, oc, od, kV, dc, pm, an, cd, ct, sl, h1, h2, h3, h4⟩ := z
  have F := fun_mk (st := s__is_named) h2 h3 h4
  exact ⟨⟨s__is_named, a, _, n__is_named, ["value"], fd__is_named, fn__is_named, F, sc__is_named, PySem.W.mg_of X N h1, F.binds (ps := ["value"]) fun _ _ _ _ _ _ us hl => match us, hl with | [_], _ => rfl, rfl, rfl, mt__is_named⟩⟩
theorem ok__is_variable {G : Glob} {h : Heap} (X : G.K.In h) (N : h.Ns mainGlobals G.mg) (z : Has G.K "_is_variable" s__is_variable) : Nonempty (DefOk G L names "_is_variable") := by
  obtain ⟨a, oc, od, kV, dc, pm, an, cd, ct, sl, h1, h2, h3, h4⟩ := z
  have F := fun_mk (st := s__is_variable) h2 h3 h4
  exact ⟨⟨s__is_variable, a, _, n__is_variable, ["value"], fd__is_variable, fn__is_variable, F, sc__is_variable, PySem.W.mg_of X N h1, F.binds (ps := ["value"]) fun _ _ _ _ _ _ us hl => match us, hl with | [_], _ => rfl, rfl, rfl, mt__is_variable⟩⟩
theorem ok__is_nested {G : Glob} {h : Heap} (X : G.K.In h) (N : h.Ns mainGlobals G.mg) (z : Has G.K "_is_nested" s__is_nested) : Nonempty (DefOk G L names "_is_nested") := by
  obtain ⟨a, oc, od, kV, dc, pm, an, cd, ct, sl, h1, h2, h3, h4⟩ := z
  have F := fun_mk (st := s__is_nested) h2 h3 h4
  exact ⟨⟨s__is_nested, a, _, n__is_nested, ["count", "value", "depth"], fd__is_nested, fn__is_nested, F, sc__is_nested, PySem.W.mg_of X N h1, F.binds (ps := ["count", "value", "depth"]) fun _ _ _ _ _ _ us hl => match us, hl with | [_, _, _], _ => rfl, rfl, rfl, mt__is_nested⟩⟩
theorem ok__is_plain {G : Glob} {h : Heap} (X : G.K.In h) (N : h.Ns mainGlobals G.mg) (z : Has G.K "_is_plain" s__is_plain) : Nonempty (DefOk G L names "_is_plain") := by
  obtain ⟨a, oc, od, kV, dc, pm, an, cd, ct, sl, h1, h2, h3, h4⟩ := z
  have F := fun_mk (st := s__is_plain) h2 h3 h4
  exact ⟨⟨s__is_plain, a, _, n__is_plain, ["count", "value"], fd__is_plain, fn__is_plain, F, sc__is_plain, PySem.W.mg_of X N h1, F.binds (ps := ["count", "value"]) fun _ _ _ _ _ _ us hl => match us, hl with | [_, _], _ => rfl, rfl, rfl, mt__is_plain⟩⟩
theorem ok__is_place {G : Glob} {h : Heap} (X : G.K.In h) (N : h.Ns mainGlobals G.mg) (z : Has G.K "_is_place" s__is_place) : Nonempty (DefOk G L names "_is_place") := by
  obtain ⟨a, oc, od, kV, dc, pm, an, cd, ct, sl, h1, h2, h3, h4⟩ := z
  have F := fun_mk (st := s__is_place) h2 h3 h4
  exact ⟨⟨s__is_place, a, _, n__is_place, ["count", "process", "variable"], fd__is_place, fn__is_place, F, sc__is_place, PySem.W.mg_of X N h1, F.binds (ps := ["count", "process", "variable"]) fun _ _ _ _ _ _ us hl => match us, hl with | [_, _, _], _ => rfl, rfl, rfl, mt__is_place⟩⟩
theorem ok__is_bound {G : Glob} {h : Heap} (X : G.K.In h) (N : h.Ns mainGlobals G.mg) (z : Has G.K "_is_bound" s__is_bound) : Nonempty (DefOk G L names "_is_bound") := by
  obtain ⟨a, oc, od, kV, dc, pm, an, cd, ct, sl, h1, h2, h3, h4⟩ := z
  have F := fun_mk (st := s__is_bound) h2 h3 h4
  exact ⟨⟨s__is_bound, a, _, n__is_bound, ["value"], fd__is_bound, fn__is_bound, F, sc__is_bound, PySem.W.mg_of X N h1, F.binds (ps := ["value"]) fun _ _ _ _ _ _ us hl => match us, hl with | [_], _ => rfl, rfl, rfl, mt__is_bound⟩⟩
theorem ok__are_terms {G : Glob} {h : Heap} (X : G.K.In h) (N : h.Ns mainGlobals G.mg) (z : Has G.K "_are_terms" s__are_terms) : Nonempty (DefOk G L names "_are_terms") := by
  obtain ⟨a, oc, od, kV, dc, pm, an, cd, ct, sl, h1, h2, h3, h4⟩ := z
  have F := fun_mk (st := s__are_terms) h2 h3 h4
  exact ⟨⟨s__are_terms, a, _, n__are_terms, ["count", "value"], fd__are_terms, fn__are_terms, F, sc__are_terms, PySem.W.mg_of X N h1, F.binds (ps := ["count", "value"]) fun _ _ _ _ _ _ us hl => match us, hl with | [_, _], _ => rfl, rfl, rfl, mt__are_terms⟩⟩
theorem ok__is_term {G : Glob} {h : Heap} (X : G.K.In h) (N : h.Ns mainGlobals G.mg) (z : Has G.K "_is_term" s__is_term) : Nonempty (DefOk G L names "_is_term") := by
  obtain ⟨a, oc, od, kV, dc, pm, an, cd, ct, sl, h1, h2, h3, h4⟩ := z
  have F := fun_mk (st := s__is_term) h2 h3 h4
  exact ⟨⟨s__is_term, a, _, n__is_term, ["count", "value"], fd__is_term, fn__is_term, F, sc__is_term, PySem.W.mg_of X N h1, F.binds (ps := ["count", "value"]) fun _ _ _ _ _ _ us hl => match us, hl with | [_, _], _ => rfl, rfl, rfl, mt__is_term⟩⟩
theorem ok__law_bag {G : Glob} {h : Heap} (X : G.K.In h) (N : h.Ns mainGlobals G.mg) (z : Has G.K "_law_bag" s__law_bag) : Nonempty (DefOk G L names "_law_bag") := by
  obtain ⟨a, oc, od, kV, dc, pm, an, cd, ct, sl, h1, h2, h3, h4⟩ := z
  have F := fun_mk (st := s__law_bag) h2 h3 h4
  exact ⟨⟨s__law_bag, a, _, n__law_bag, ["script", "k"], fd__law_bag, fn__law_bag, F, sc__law_bag, PySem.W.mg_of X N h1, F.binds (ps := ["script", "k"]) fun _ _ _ _ _ _ us hl => match us, hl with | [_, _], _ => rfl, rfl, rfl, mt__law_bag⟩⟩
theorem ok__law_draw {G : Glob} {h : Heap} (X : G.K.In h) (N : h.Ns mainGlobals G.mg) (z : Has G.K "_law_draw" s__law_draw) : Nonempty (DefOk G L names "_law_draw") := by
  obtain ⟨a, oc, od, kV, dc, pm, an, cd, ct, sl, h1, h2, h3, h4⟩ := z
  have F := fun_mk (st := s__law_draw) h2 h3 h4
  exact ⟨⟨s__law_draw, a, _, n__law_draw, ["bag", "many"], fd__law_draw, fn__law_draw, F, sc__law_draw, PySem.W.mg_of X N h1, F.binds (ps := ["bag", "many"]) fun _ _ _ _ _ _ us hl => match us, hl with | [_, _], _ => rfl, rfl, rfl, mt__law_draw⟩⟩
theorem ok__law_is_int {G : Glob} {h : Heap} (X : G.K.In h) (N : h.Ns mainGlobals G.mg) (z : Has G.K "_law_is_int" s__law_is_int) : Nonempty (DefOk G L names "_law_is_int") := by
  obtain ⟨a, oc, od, kV, dc, pm, an, cd, ct, sl, h1, h2, h3, h4⟩ := z
  have F := fun_mk (st := s__law_is_int) h2 h3 h4
  exact ⟨⟨s__law_is_int, a, _, n__law_is_int, ["value", "least", "most"], fd__law_is_int, fn__law_is_int, F, sc__law_is_int, PySem.W.mg_of X N h1, F.binds (ps := ["value", "least", "most"]) fun _ _ _ _ _ _ us hl => match us, hl with | [_, _, _], _ => rfl, rfl, rfl, mt__law_is_int⟩⟩
theorem ok__law_bound {G : Glob} {h : Heap} (X : G.K.In h) (N : h.Ns mainGlobals G.mg) (z : Has G.K "_law_bound" s__law_bound) : Nonempty (DefOk G L names "_law_bound") := by
  obtain ⟨a, oc, od, kV, dc, pm, an, cd, ct, sl, h1, h2, h3, h4⟩ := z
  have F := fun_mk (st := s__law_bound) h2 h3 h4
  exact ⟨⟨s__law_bound, a, _, n__law_bound, ["bag"], fd__law_bound, fn__law_bound, F, sc__law_bound, PySem.W.mg_of X N h1, F.binds (ps := ["bag"]) fun _ _ _ _ _ _ us hl => match us, hl with | [_], _ => rfl, rfl, rfl, mt__law_bound⟩⟩
theorem ok__law_sentence {G : Glob} {h : Heap} (X : G.K.In h) (N : h.Ns mainGlobals G.mg) (z : Has G.K "_law_sentence" s__law_sentence) : Nonempty (DefOk G L names "_law_sentence") := by
  obtain ⟨a, oc, od, kV, dc, pm, an, cd, ct, sl, h1, h2, h3, h4⟩ := z
  have F := fun_mk (st := s__law_sentence) h2 h3 h4
  exact ⟨⟨s__law_sentence, a, _, n__law_sentence, ["bag", "count", "depth"], fd__law_sentence, fn__law_sentence, F, sc__law_sentence, PySem.W.mg_of X N h1, F.binds (ps := ["bag", "count", "depth"]) fun _ _ _ _ _ _ us hl => match us, hl with | [_, _, _], _ => rfl, rfl, rfl, mt__law_sentence⟩⟩
theorem ok__law_is_variable {G : Glob} {h : Heap} (X : G.K.In h) (N : h.Ns mainGlobals G.mg) (z : Has G.K "_law_is_variable" s__law_is_variable) : Nonempty (DefOk G L names "_law_is_variable") := by
  obtain ⟨a, oc, od, kV, dc, pm, an, cd, ct, sl, h1, h2, h3, h4⟩ := z
  have F := fun_mk (st := s__law_is_variable) h2 h3 h4
  exact ⟨⟨s__law_is_variable, a, _, n__law_is_variable, ["value"], fd__law_is_variable, fn__law_is_variable, F, sc__law_is_variable, PySem.W.mg_of X N h1, F.binds (ps := ["value"]) fun _ _ _ _ _ _ us hl => match us, hl with | [_], _ => rfl, rfl, rfl, mt__law_is_variable⟩⟩
theorem ok__law_is_terms {G : Glob} {h : Heap} (X : G.K.In h) (N : h.Ns mainGlobals G.mg) (z : Has G.K "_law_is_terms" s__law_is_terms) : Nonempty (DefOk G L names "_law_is_terms") := by
  obtain ⟨a, oc, od, kV, dc, pm, an, cd, ct, sl, h1, h2, h3, h4⟩ := z
  have F := fun_mk (st := s__law_is_terms) h2 h3 h4
  exact ⟨⟨s__law_is_terms, a, _, n__law_is_terms, ["count", "value"], fd__law_is_terms, fn__law_is_terms, F, sc__law_is_terms, PySem.W.mg_of X N h1, F.binds (ps := ["count", "value"]) fun _ _ _ _ _ _ us hl => match us, hl with | [_, _], _ => rfl, rfl, rfl, mt__law_is_terms⟩⟩
theorem ok__law_is_sentence {G : Glob} {h : Heap} (X : G.K.In h) (N : h.Ns mainGlobals G.mg) (z : Has G.K "_law_is_sentence" s__law_is_sentence) : Nonempty (DefOk G L names "_law_is_sentence") := by
  obtain ⟨a, oc, od, kV, dc, pm, an, cd, ct, sl, h1, h2, h3, h4⟩ := z
  have F := fun_mk (st := s__law_is_sentence) h2 h3 h4
  exact ⟨⟨s__law_is_sentence, a, _, n__law_is_sentence, ["count", "value", "depth"], fd__law_is_sentence, fn__law_is_sentence, F, sc__law_is_sentence, PySem.W.mg_of X N h1, F.binds (ps := ["count", "value", "depth"]) fun _ _ _ _ _ _ us hl => match us, hl with | [_, _, _], _ => rfl, rfl, rfl, mt__law_is_sentence⟩⟩
theorem ok__law_spoilt {G : Glob} {h : Heap} (X : G.K.In h) (N : h.Ns mainGlobals G.mg) (z : Has G.K "_law_spoilt" s__law_spoilt) : Nonempty (DefOk G L names "_law_spoilt") := by
  obtain ⟨a, oc, od, kV, dc, pm, an, cd, ct, sl, h1, h2, h3, h4⟩ := z
  have F := fun_mk (st := s__law_spoilt) h2 h3 h4
  exact ⟨⟨s__law_spoilt, a, _, n__law_spoilt, ["bag", "value", "odd"], fd__law_spoilt, fn__law_spoilt, F, sc__law_spoilt, PySem.W.mg_of X N h1, F.binds (ps := ["bag", "value", "odd"]) fun _ _ _ _ _ _ us hl => match us, hl with | [_, _, _], _ => rfl, rfl, rfl, mt__law_spoilt⟩⟩
theorem ok__law_odd {G : Glob} {h : Heap} (X : G.K.In h) (N : h.Ns mainGlobals G.mg) (z : Has G.K "_law_odd" s__law_odd) : Nonempty (DefOk G L names "_law_odd") := by
  obtain ⟨a, oc, od, kV, dc, pm, an, cd, ct, sl, h1, h2, h3, h4⟩ := z
  have F := fun_mk (st := s__law_odd) h2 h3 h4
  exact ⟨⟨s__law_odd, a, _, n__law_odd, ["bag", "count"], fd__law_odd, fn__law_odd, F, sc__law_odd, PySem.W.mg_of X N h1, F.binds (ps := ["bag", "count"]) fun _ _ _ _ _ _ us hl => match us, hl with | [_, _], _ => rfl, rfl, rfl, mt__law_odd⟩⟩
theorem ok__law_built {G : Glob} {h : Heap} (X : G.K.In h) (N : h.Ns mainGlobals G.mg) (z : Has G.K "_law_built" s__law_built) : Nonempty (DefOk G L names "_law_built") := by
  obtain ⟨a, oc, od, kV, dc, pm, an, cd, ct, sl, h1, h2, h3, h4⟩ := z
  have F := fun_mk (st := s__law_built) h2 h3 h4
  exact ⟨⟨s__law_built, a, _, n__law_built, ["bag", "count"], fd__law_built, fn__law_built, F, sc__law_built, PySem.W.mg_of X N h1, F.binds (ps := ["bag", "count"]) fun _ _ _ _ _ _ us hl => match us, hl with | [_, _], _ => rfl, rfl, rfl, mt__law_built⟩⟩
theorem ok_law {G : Glob} {h : Heap} (X : G.K.In h) (N : h.Ns mainGlobals G.mg) (z : Has G.K "law" s_law) : Nonempty (DefOk G L names "law") := by
  obtain ⟨a, oc, od, kV, dc, pm, an, cd, ct, sl, h1, h2, h3, h4⟩ := z
  have F := fun_mk (st := s_law) h2 h3 h4
  exact ⟨⟨s_law, a, _, n_law, ["script"], fd_law, fn_law, F, sc_law, PySem.W.mg_of X N h1, F.binds (ps := ["script"]) fun _ _ _ _ _ _ us hl => match us, hl with | [_], _ => rfl, rfl, rfl, mt_law⟩⟩
theorem has_mk {K : PySem.W.Frag} {f : Str} {s : Stmt} {a : Addr} {oc : Value} {od : Option Addr} {kV dc pm : Value} {an : Option Addr} {cd ct : Value} {sl : Array (Option Value)} (h1 : PySem.W.nsIn K mainGlobals f = some (some (.ref a)))
  (h2 : K.lookup a = some ⟨oc, od, .func (PySem.W.fnOf f f (defArgs s) (defBody s) (defScope s) .none kV dc pm an cd ct), sl⟩) (h3 : PySem.W.codeIn K cd f = true) (h4 : PySem.W.keepIn K (.ref a) = true) : Has K f s := ⟨_, _, _, _, _, _, _, _, _, _, h1, h2, h3, h4⟩
theorem int_mk {K : PySem.W.Frag} {x : Str} {i : Int} {t : Tok} (h : PySem.W.nsIn K mainGlobals x = some (some (.int i t))) : ∃ t, PySem.W.nsIn K mainGlobals x = some (some (.int i t)) := ⟨t, h⟩
theorem mk_VARIABLES {K : PySem.W.Frag} {a : Addr} {dd : Option Addr} {n : Nat} {sl : Array (Option Value)} {t0 t1 t2 t3 : Tok} (h1 : PySem.W.nsIn K mainGlobals "VARIABLES" = some (some (.ref a))) (h2 : K.lookup a = some ⟨.type "tuple", dd, .seq #[.str "a" t0, .str "b" t1, .str "c" t2, .str "d" t3] n, sl⟩) :
  ∃ (a : Addr) (dd : Option Addr) (n : Nat) (sl : Array (Option Value)) (t0 t1 t2 t3 : Tok), PySem.W.nsIn K mainGlobals "VARIABLES" = some (some (.ref a)) ∧ K.lookup a = some ⟨.type "tuple", dd, .seq #[.str "a" t0, .str "b" t1, .str "c" t2, .str "d" t3] n, sl⟩ := ⟨_, _, _, _, _, _, _, _, h1, h2⟩
structure Top (K : PySem.W.Frag) : Prop where
  h_is_integer : Has K "is_integer" s_is_integer
  h_is_sentence : Has K "is_sentence" s_is_sentence
  h__is_row : Has K "_is_row" s__is_row
  h__is_named : Has K "_is_named" s__is_named
  h__is_variable : Has K "_is_variable" s__is_variable
  h__is_nested : Has K "_is_nested" s__is_nested
  h__is_plain : Has K "_is_plain" s__is_plain
  h__is_place : Has K "_is_place" s__is_place
  h__is_bound : Has K "_is_bound" s__is_bound
  h__are_terms : Has K "_are_terms" s__are_terms
  h__is_term : Has K "_is_term" s__is_term
  h__law_bag : Has K "_law_bag" s__law_bag
  h__law_draw : Has K "_law_draw" s__law_draw
  h__law_is_int : Has K "_law_is_int" s__law_is_int
  h__law_bound : Has K "_law_bound" s__law_bound
  h__law_sentence : Has K "_law_sentence" s__law_sentence
  h__law_is_variable : Has K "_law_is_variable" s__law_is_variable
  h__law_is_terms : Has K "_law_is_terms" s__law_is_terms
  h__law_is_sentence : Has K "_law_is_sentence" s__law_is_sentence
  h__law_spoilt : Has K "_law_spoilt" s__law_spoilt
  h__law_odd : Has K "_law_odd" s__law_odd
  h__law_built : Has K "_law_built" s__law_built
  h_law : Has K "law" s_law
  c_MOST_PROCESSES : ∃ t, PySem.W.nsIn K mainGlobals "MOST_PROCESSES" = some (some (.int 6 t))
  c_MOST_LETTER : ∃ t, PySem.W.nsIn K mainGlobals "MOST_LETTER" = some (some (.int 999 t))
  c_MOST_TERMS : ∃ t, PySem.W.nsIn K mainGlobals "MOST_TERMS" = some (some (.int 6 t))
  c_MOST_WEIGHT : ∃ t, PySem.W.nsIn K mainGlobals "MOST_WEIGHT" = some (some (.int 9 t))
  c_MOST_BOUND : ∃ t, PySem.W.nsIn K mainGlobals "MOST_BOUND" = some (some (.int 100000 t))
  c_MOST_NESTING : ∃ t, PySem.W.nsIn K mainGlobals "MOST_NESTING" = some (some (.int 6 t))
  c_VARIABLES : ∃ (a : Addr) (dd : Option Addr) (n : Nat) (sl : Array (Option Value)) (t0 t1 t2 t3 : Tok), PySem.W.nsIn K mainGlobals "VARIABLES" = some (some (.ref a)) ∧ K.lookup a = some ⟨.type "tuple", dd, .seq #[.str "a" t0, .str "b" t1, .str "c" t2, .str "d" t3] n, sl⟩
  z_len : PySem.W.nsIn K mainGlobals "len" = some none
  z_int : PySem.W.nsIn K mainGlobals "int" = some none
  z_str : PySem.W.nsIn K mainGlobals "str" = some none
  z_tuple : PySem.W.nsIn K mainGlobals "tuple" = some none
  z_list : PySem.W.nsIn K mainGlobals "list" = some none
  z_sum : PySem.W.nsIn K mainGlobals "sum" = some none
  z_all : PySem.W.nsIn K mainGlobals "all" = some none
  z_max : PySem.W.nsIn K mainGlobals "max" = some none
  z_min : PySem.W.nsIn K mainGlobals "min" = some none
  z_abs : PySem.W.nsIn K mainGlobals "abs" = some none
  z_sorted : PySem.W.nsIn K mainGlobals "sorted" = some none
  z_set : PySem.W.nsIn K mainGlobals "set" = some none
  z_range : PySem.W.nsIn K mainGlobals "range" = some none
  z_type : PySem.W.nsIn K mainGlobals "type" = some none
  z_isinstance : PySem.W.nsIn K mainGlobals "isinstance" = some none
  z_bool : PySem.W.nsIn K mainGlobals "bool" = some none
theorem plain_of {G : Glob} {h : Heap} (X : G.K.In h) (N : h.Ns mainGlobals G.mg) (T : Top G.K) : Plain G where
  bi := fun f => by cases f <;> first | exact PySem.W.mg_none_of X N T.z_len | exact PySem.W.mg_none_of X N T.z_int | exact PySem.W.mg_none_of X N T.z_str | exact PySem.W.mg_none_of X N T.z_tuple | exact PySem.W.mg_none_of X N T.z_list | exact PySem.W.mg_none_of X N T.z_sum | exact PySem.W.mg_none_of X N T.z_all | exact PySem.W.mg_none_of X N T.z_max | exact PySem.W.mg_none_of X N T.z_min | exact PySem.W.mg_none_of X N T.z_abs | exact PySem.W.mg_none_of X N T.z_sorted | exact PySem.W.mg_none_of X N T.z_set
  range := PySem.W.mg_none_of X N T.z_range
  type := PySem.W.mg_none_of X N T.z_type
  isinst := PySem.W.mg_none_of X N T.z_isinstance
  ty := fun t ht => by rcases tyOk_cases ht with rfl | rfl | rfl | rfl | rfl <;> first | exact PySem.W.mg_none_of X N T.z_int | exact PySem.W.mg_none_of X N T.z_bool | exact PySem.W.mg_none_of X N T.z_str | exact PySem.W.mg_none_of X N T.z_tuple | exact PySem.W.mg_none_of X N T.z_list
theorem consts_of {G : Glob} {h : Heap} (X : G.K.In h) (N : h.Ns mainGlobals G.mg) (T : Top G.K) : ConstsOk G L.cs := by
  intro x d e
  have m := lookup_mem e
  simp only [csL, List.mem_cons, Prod.mk.injEq, List.not_mem_nil, or_false] at m
  rcases m with ⟨rfl, rfl⟩ | ⟨rfl, rfl⟩ | ⟨rfl, rfl⟩ | ⟨rfl, rfl⟩ | ⟨rfl, rfl⟩ | ⟨rfl, rfl⟩ | ⟨rfl, rfl⟩
  · obtain ⟨t, h1⟩ := T.c_MOST_PROCESSES
    exact ⟨_, .int 6, PySem.W.mg_of X N h1, ⟨t, rfl⟩, fun ρ H => rv_int.mpr rfl⟩
  · obtain ⟨t, h1⟩ := T.c_MOST_LETTER
    exact ⟨_, .int 999, PySem.W.mg_of X N h1, ⟨t, rfl⟩, fun ρ H => rv_int.mpr rfl⟩
  · obtain ⟨t, h1⟩ := T.c_MOST_TERMS
    exact ⟨_, .int 6, PySem.W.mg_of X N h1, ⟨t, rfl⟩, fun ρ H => rv_int.mpr rfl⟩
  · obtain ⟨t, h1⟩ := T.c_MOST_WEIGHT
    exact ⟨_, .int 9, PySem.W.mg_of X N h1, ⟨t, rfl⟩, fun ρ H => rv_int.mpr rfl⟩
  · obtain ⟨t, h1⟩ := T.c_MOST_BOUND
    exact ⟨_, .int 100000, PySem.W.mg_of X N h1, ⟨t, rfl⟩, fun ρ H => rv_int.mpr rfl⟩
  · obtain ⟨t, h1⟩ := T.c_MOST_NESTING
    exact ⟨_, .int 6, PySem.W.mg_of X N h1, ⟨t, rfl⟩, fun ρ H => rv_int.mpr rfl⟩
  · obtain ⟨a, dd, n, sl, t0, t1, t2, t3, h1, h2⟩ := T.c_VARIABLES
    exact ⟨_, .ref a, PySem.W.mg_of X N h1, rfl, fun ρ H => rv_tup.mpr ⟨a, [.str "a", .str "b", .str "c", .str "d"], rfl, .inr ⟨_, _, n, h2, rfl, rfl, by show 4 ≤ sizeLine; rw [sizeLine_eq]; omega, .cons ⟨t0, rfl⟩ (.cons ⟨t1, rfl⟩ (.cons ⟨t2, rfl⟩ (.cons ⟨t3, rfl⟩ (.nil))))⟩, RVs.cons_ (rv_str.mpr rfl) (RVs.cons_ (rv_str.mpr rfl) (RVs.cons_ (rv_str.mpr rfl) (RVs.cons_ (rv_str.mpr rfl) (RVs.nil_))))⟩⟩
theorem defs_of {G : Glob} {h : Heap} (X : G.K.In h) (N : h.Ns mainGlobals G.mg) (T : Top G.K) : ∀ f ∈ names, Nonempty (DefOk G L names f) := by
  intro f hf
  simp only [names, List.mem_cons, List.not_mem_nil, or_false] at hf
  rcases hf with rfl | rfl | rfl | rfl | rfl | rfl | rfl | rfl | rfl | rfl | rfl | rfl | rfl | rfl | rfl | rfl | rfl | rfl | rfl | rfl | rfl | rfl | rfl
  · exact ok_is_integer X N T.h_is_integer
  · exact ok_is_sentence X N T.h_is_sentence
  · exact ok__is_row X N T.h__is_row
  · exact ok__is_named X N T.h__is_named
  · exact ok__is_variable X N T.h__is_variable
  · exact ok__is_nested X N T.h__is_nested
  · exact ok__is_plain X N T.h__is_plain
  · exact ok__is_place X N T.h__is_place
  · exact ok__is_bound X N T.h__is_bound
  · exact ok__are_terms X N T.h__are_terms
  · exact ok__is_term X N T.h__is_term
  · exact ok__law_bag X N T.h__law_bag
  · exact ok__law_draw X N T.h__law_draw
  · exact ok__law_is_int X N T.h__law_is_int
  · exact ok__law_bound X N T.h__law_bound
  · exact ok__law_sentence X N T.h__law_sentence
  · exact ok__law_is_variable X N T.h__law_is_variable
  · exact ok__law_is_terms X N T.h__law_is_terms
  · exact ok__law_is_sentence X N T.h__law_is_sentence
  · exact ok__law_spoilt X N T.h__law_spoilt
  · exact ok__law_odd X N T.h__law_odd
  · exact ok__law_built X N T.h__law_built
  · exact ok_law X N T.h_law
theorem kept : Kept L 41 := Th.law_kept (by omega)
theorem law_fn (kept : Kept L 41) {P : Program} {w : World} {K : PySem.W.Frag} {mg : Str → Option Value} {h : Heap} {fa : Addr} (X : K.In h) (N : h.Ns mainGlobals mg) (hfa : mg "law" = some (.ref fa)) (T : Top K) :
    ∃ fd : FuncData, (∀ (s : Shared) (v : Value), BindsTo s fd ⟨[v], []⟩ [("script", v)]) ∧ ∀ base : Heap, K.In base → base.Ns mainGlobals mg → FnOk P w K mg base (L2.CX P w) 41 fa fd ["script"] (spLaw K) := by
  obtain ⟨a, oc, od, kV, dc, pm, an, cd, ct, sl, h1, h2, h3, h4⟩ := T.h_law
  have e := hfa.symm.trans (PySem.W.mg_of X N h1)
  cases e
  have F := fun_mk (st := s_law) h2 h3 h4
  refine ⟨PySem.W.fnOf "law" "law" (defArgs s_law) (defBody s_law) (defScope s_law) .none kV dc pm an cd ct, fun s v => .of_eq rfl, fun base _ _ => ?_⟩
  let G : Glob := ⟨P, w, K, mg, base, fun _ => 0, L.cs⟩
  have hp : Plain G := plain_of (G := G) X N T
  have hc : ConstsOk G L.cs := consts_of (G := G) X N T
  have hd := defs_of (G := G) X N T
  have d : FnOk P w K mg base (L2.CX P w) 41 _ _ _ _ := fn_step hp hc (calls_ok hp hc hd 40) (⟨s_law, _, _, n_law, ["script"], fd_law, fn_law, F, sc_law, PySem.W.mg_of X N h1, F.binds (ps := ["script"]) fun _ _ _ _ _ _ us hl => match us, hl with | [_], _ => rfl, rfl, rfl, mt_law⟩ : DefOk G L names "law")
  exact d.imp fun vs H Q E q => law_imp (G := G) kept q
theorem walk (kept : Kept L 41) {l : PySem.W.OpenLaw} {q : Program} {loose : List Str} {XP : (Str → Option Value) → Heap → Prop} {YP : World → Heap → Prop} {d : DefRec} {K : Params → PySem.W.Frag} (hn : l.most = some 63) (hdf : d.params.defaults = []) (hname : d.name = "law")
    (hY : ∀ (w : World) (h : Heap), YP w h → (K w.params).In h) (F : ∀ w : World, Top (K w.params)) :
    PySem.W.WalkO q loose XP YP l.row.toRowW d [] (fun f vs => PySem.call f vs) :=
  L2.walk_of (n := 63) (k := 41) (x := "script") (CX := fun w => L2.CX l.prog w) (sp := fun w => spLaw (K w.params)) hn (by rw [sizeLine_eq]; decide) hdf ⟨rfl, by decide, by decide⟩ hY
    (fun w mg fa h X N hm => law_fn kept X N (hname ▸ hm) (F w))
    (fun w H a ns hl o hS => ⟨a, ns, rfl, fq_of o hS, hl, fun _ => rfl⟩) fun w H s e s1 z => by
      obtain ⟨_, _, _, _, _, _, _, _, _, _, _, _, z⟩ := z
      exact z
end KK
open PySem PySem.W PyProof.Rows in
set_option maxRecDepth 100000 in
set_option maxHeartbeats 0 in
theorem PySem.Challenge.cw_cutpapers_k03_sentences_holds : PySem.Challenge.rw_cutpapers_k03_sentences.Holds := by
  w_on; o_law; k_head; (case hw => w_witness2)
  k_fill
  refine KK.walk KK.kept (l := PySem.Challenge.rw_cutpapers_k03_sentences) rfl rfl rfl (fun w h Y => PySem.W.kIn_of Y) ?F
  case F =>
    intro w
    constructor
    case h_is_integer => (refine' KK.has_mk ?h1 ?h2 ?h3 ?h4; (case h1 => k_is); (case h2 => k_is); (case h3 => k_is); (case h4 => k_is))
    case h_is_sentence => (refine' KK.has_mk ?h1 ?h2 ?h3 ?h4; (case h1 => k_is); (case h2 => k_is); (case h3 => k_is); (case h4 => k_is))
    case h__is_row => (refine' KK.has_mk ?h1 ?h2 ?h3 ?h4; (case h1 => k_is); (case h2 => k_is); (case h3 => k_is); (case h4 => k_is))
    case h__is_named => (refine' KK.has_mk ?h1 ?h2 ?h3 ?h4; (case h1 => k_is); (case h2 => k_is); (case h3 => k_is); (case h4 => k_is))
    case h__is_variable => (refine' KK.has_mk ?h1 ?h2 ?h3 ?h4; (case h1 => k_is); (case h2 => k_is); (case h3 => k_is); (case h4 => k_is))
    case h__is_nested => (refine' KK.has_mk ?h1 ?h2 ?h3 ?h4; (case h1 => k_is); (case h2 => k_is); (case h3 => k_is); (case h4 => k_is))
    case h__is_plain => (refine' KK.has_mk ?h1 ?h2 ?h3 ?h4; (case h1 => k_is); (case h2 => k_is); (case h3 => k_is); (case h4 => k_is))
    case h__is_place => (refine' KK.has_mk ?h1 ?h2 ?h3 ?h4; (case h1 => k_is); (case h2 => k_is); (case h3 => k_is); (case h4 => k_is))
    case h__is_bound => (refine' KK.has_mk ?h1 ?h2 ?h3 ?h4; (case h1 => k_is); (case h2 => k_is); (case h3 => k_is); (case h4 => k_is))
    case h__are_terms => (refine' KK.has_mk ?h1 ?h2 ?h3 ?h4; (case h1 => k_is); (case h2 => k_is); (case h3 => k_is); (case h4 => k_is))
    case h__is_term => (refine' KK.has_mk ?h1 ?h2 ?h3 ?h4; (case h1 => k_is); (case h2 => k_is); (case h3 => k_is); (case h4 => k_is))
    case h__law_bag => (refine' KK.has_mk ?h1 ?h2 ?h3 ?h4; (case h1 => k_is); (case h2 => k_is); (case h3 => k_is); (case h4 => k_is))
    case h__law_draw => (refine' KK.has_mk ?h1 ?h2 ?h3 ?h4; (case h1 => k_is); (case h2 => k_is); (case h3 => k_is); (case h4 => k_is))
    case h__law_is_int => (refine' KK.has_mk ?h1 ?h2 ?h3 ?h4; (case h1 => k_is); (case h2 => k_is); (case h3 => k_is); (case h4 => k_is))
    case h__law_bound => (refine' KK.has_mk ?h1 ?h2 ?h3 ?h4; (case h1 => k_is); (case h2 => k_is); (case h3 => k_is); (case h4 => k_is))
    case h__law_sentence => (refine' KK.has_mk ?h1 ?h2 ?h3 ?h4; (case h1 => k_is); (case h2 => k_is); (case h3 => k_is); (case h4 => k_is))
    case h__law_is_variable => (refine' KK.has_mk ?h1 ?h2 ?h3 ?h4; (case h1 => k_is); (case h2 => k_is); (case h3 => k_is); (case h4 => k_is))
    case h__law_is_terms => (refine' KK.has_mk ?h1 ?h2 ?h3 ?h4; (case h1 => k_is); (case h2 => k_is); (case h3 => k_is); (case h4 => k_is))
    case h__law_is_sentence => (refine' KK.has_mk ?h1 ?h2 ?h3 ?h4; (case h1 => k_is); (case h2 => k_is); (case h3 => k_is); (case h4 => k_is))
    case h__law_spoilt => (refine' KK.has_mk ?h1 ?h2 ?h3 ?h4; (case h1 => k_is); (case h2 => k_is); (case h3 => k_is); (case h4 => k_is))
    case h__law_odd => (refine' KK.has_mk ?h1 ?h2 ?h3 ?h4; (case h1 => k_is); (case h2 => k_is); (case h3 => k_is); (case h4 => k_is))
    case h__law_built => (refine' KK.has_mk ?h1 ?h2 ?h3 ?h4; (case h1 => k_is); (case h2 => k_is); (case h3 => k_is); (case h4 => k_is))
    case h_law => (refine' KK.has_mk ?h1 ?h2 ?h3 ?h4; (case h1 => k_is); (case h2 => k_is); (case h3 => k_is); (case h4 => k_is))
    case c_MOST_PROCESSES => (refine' KK.int_mk ?h1; (case h1 => k_is))
    case c_MOST_LETTER => (refine' KK.int_mk ?h1; (case h1 => k_is))
    case c_MOST_TERMS => (refine' KK.int_mk ?h1; (case h1 => k_is))
    case c_MOST_WEIGHT => (refine' KK.int_mk ?h1; (case h1 => k_is))
    case c_MOST_BOUND => (refine' KK.int_mk ?h1; (case h1 => k_is))
    case c_MOST_NESTING => (refine' KK.int_mk ?h1; (case h1 => k_is))
    case c_VARIABLES => (refine' KK.mk_VARIABLES ?h1 ?h2; (case h1 => k_is); (case h2 => k_is))
    case z_len => k_is
    case z_int => k_is
    case z_str => k_is
    case z_tuple => k_is
    case z_list => k_is
    case z_sum => k_is
    case z_all => k_is
    case z_max => k_is
    case z_min => k_is
    case z_abs => k_is
    case z_sorted => k_is
    case z_set => k_is
    case z_range => k_is
    case z_type => k_is
    case z_isinstance => k_is
    case z_bool => k_is

