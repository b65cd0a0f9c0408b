import PyProof.Rows.All
import Wide.All
import OpenK.AllK
import Wide.FinOn
import HandS.ForMost
import HandS.ForExc
import HandS.Wide
import HandS.Style
import HandS.IsInst
import HandS.Flow
import HandS.Codes
import HandS.TupAny
import HandS.TupMul
import HandS.Zip
import KE.GoesMore
import KE.GoesZip
import KE.KTurns
import KE.KDictZip
import PyProof.ListNew
import HandS.Keys
import HandS.NoneIn
import HandS.Lambda
import KE.KDictKeyed
import KE.KDictDisplayH
import KE.KIsAll
import HandS.Star
import KE.DataMinMax
import HandS.Gcd
import HandS.RevRange
import HandS.Conv
import HandS.More
import HandS.Flow
import KE.SortKeyHeap
import HandS.Style
import KE.KRevSl
import HandS.WideBits
import HandS.Deep
import HandS.Property
import PySem.Challenge.RW_gluewhole_k01_whole_sums_and_products_of
set_option Elab.async false
set_option linter.all false
set_option maxRecDepth 100000
set_option maxHeartbeats 4000000
namespace Mir
open PySem PySem.Spec PyProof.Rows L2
set_option linter.all false

/-! ### data and what it is on the heap; an instance that never changes is a dict that begins with (None, its class's name) -/
/-- the tables of code objects of the defs that hold lambdas, with the name of what they make -/
class Tb where
  l : List (Addr × Str)
  /-- the defs that are values -/
  fs : List Addr
  /-- the classes whose instances are data, by name -/
  cs : List (Str × Addr)
/-- what isinstance asks of such a class -/
structure ObF (K : PySem.W.Frag) (C : Addr) : Prop where
  ins : C8.InsC K C
  no : ∀ T : String, T = "NoneType" ∨ T = "bool" ∨ T = "int" ∨ T = "str" ∨ T = "list" ∨ T = "tuple" ∨ T = "dict" → PySem.W.kitOne K (.ref C) (.type T) = some false
/-- a key as data -/
def kD : Key → PyData
  | .inl i => .int i
  | .inr x => .str x
mutual
/-- data as such a key; no text in it, so its hash asks no world -/
def keyN : PyData → Option NestedKey
  | .none => some .none
  | .bool b => some (.num (if b = true then 1 else 0))
  | .int i => some (.num i)
  | .tuple ds => (keyNs ds).map .tup
  | _ => none
def keyNs : List PyData → Option (List NestedKey)
  | [] => some []
  | d :: r => (keyN d).bind fun k => (keyNs r).map fun ks => k :: ks
end
/-- the dict's own entries, told for good: key, where the key stands, value -/
def FrzD (H : Hp) (a : Addr) (xs : List (NestedKey × Addr × Value)) : Prop := ∃ o u es ep, H a = some (.frz o u) ∧ (a == sysModules) = false ∧ o.ExactDict ∧ o.data = .dict es ep ∧ (∀ w : World, es.toList = xs.map fun x => ⟨x.1.hash w, .ref x.2.1, x.2.2⟩) ∧ (xs.map (·.1)).Nodup
section data
variable [Tb]
mutual
def Dq (K : PySem.W.Frag) (H : Hp) : PyData → V → Prop
  | .none, v => v = .non
  | .bool b, v => v = .bl b
  | .int i, v => v = .int i
  | .str x, v => v = .str x
  | .list ds, v => ∃ a xs, v = .ref a ∧ H a = some (.lst xs) ∧ DqA K H ds xs
  | .tuple ds, v => ∃ a xs, v = .ref a ∧ SqT K H a xs ∧ DqA K H ds xs
  | .dict kvs, v => DqO K H kvs v
def DqA (K : PySem.W.Frag) (H : Hp) : List PyData → List V → Prop
  | [], vs => vs = []
  | d :: ds, vs => ∃ v r, vs = v :: r ∧ Dq K H d v ∧ DqA K H ds r
def DqO (K : PySem.W.Frag) (H : Hp) : List (PyData × PyData) → V → Prop
  | [], v => ∃ a, v = .ref a ∧ H a = some (.dK [])
  | p :: kvs, v => (∃ a c C dx fs, v = .ref a ∧ p = (.none, .str c) ∧ (Tb.cs.lookup c = some C ∧ ObF K C) ∧ H a = some (.ins C dx fs) ∧ DqF K H kvs fs) ∨
    (∃ a o k u t, v = .ref a ∧ H a = some (.frz o (.dK ((k, u) :: t))) ∧ DqE K H p k u ∧ DqK K H kvs t) ∨ ∃ a x t, v = .ref a ∧ FrzD H a (x :: t) ∧ DqG K H p x ∧ DqH K H kvs t
def DqF (K : PySem.W.Frag) (H : Hp) : List (PyData × PyData) → List (Str × V) → Prop
  | [], fs => fs = []
  | p :: r, fs => ∃ f v t, fs = (f, v) :: t ∧ DqP K H p f v ∧ DqF K H r t
def DqP (K : PySem.W.Frag) (H : Hp) : PyData × PyData → Str → V → Prop
  | (k, d), f, v => k = .str f ∧ Dq K H d v
/-- the entries of a dict that never changes -/
def DqK (K : PySem.W.Frag) (H : Hp) : List (PyData × PyData) → List (Key × V) → Prop
  | [], ks => ks = []
  | p :: r, ks => ∃ k u t, ks = (k, u) :: t ∧ DqE K H p k u ∧ DqK K H r t
def DqE (K : PySem.W.Frag) (H : Hp) : PyData × PyData → Key → V → Prop
  | (x, d), k, u => x = kD k ∧ Dq K H d u
/-- the entries of one whose keys are tuples -/
def DqH (K : PySem.W.Frag) (H : Hp) : List (PyData × PyData) → List (NestedKey × Addr × Value) → Prop
  | [], xs => xs = []
  | p :: r, xs => ∃ x t, xs = x :: t ∧ DqG K H p x ∧ DqH K H r t
def DqG (K : PySem.W.Frag) (H : Hp) : PyData × PyData → NestedKey × Addr × Value → Prop
  | (x, d), e => keyN x = some e.1 ∧ e.1.depth ≤ 8 ∧ Dq K H x (.ref e.2.1) ∧ ∃ v, RelV v e.2.2 ∧ Dq K H d v
end
section
variable {K : PySem.W.Frag} {H H' : Hp}
theorem sql_mono {a : Addr} {xs : List V} (e : Same H H') (h : SqL K H a xs) : SqL K H' a xs := e.seq h
theorem sqt_mono {a : Addr} {xs : List V} (e : Same H H') (h : SqT K H a xs) : SqT K H' a xs := by
  rcases h with (h | ⟨o, h⟩) | h
  · exact .inl (.inl (e _ _ h))
  · exact .inl (.inr ⟨o, e _ _ h⟩)
  · exact .inr h
mutual
theorem Dq.mono (e : Same H H') : ∀ (d : PyData) (v : V), Dq K H d v → Dq K H' d v
  | .none, _, h => h
  | .bool _, _, h => h
  | .int _, _, h => h
  | .str _, _, h => h
  | .list ds, _, h => by
    obtain ⟨a, xs, e1, h1, h2⟩ := h
    exact ⟨a, xs, e1, e _ _ h1, DqA.mono e ds xs h2⟩
  | .tuple ds, _, h => by
    obtain ⟨a, xs, e1, h1, h2⟩ := h
    exact ⟨a, xs, e1, sqt_mono e h1, DqA.mono e ds xs h2⟩
  | .dict kvs, v, h => DqO.mono e kvs v h
theorem DqA.mono (e : Same H H') : ∀ (ds : List PyData) (vs : List V), DqA K H ds vs → DqA K H' ds vs
  | [], _, h => h
  | d :: ds, _, h => by
    obtain ⟨v, r, e1, h1, h2⟩ := h
    exact ⟨v, r, e1, Dq.mono e d v h1, DqA.mono e ds r h2⟩
theorem DqO.mono (e : Same H H') : ∀ (kvs : List (PyData × PyData)) (v : V), DqO K H kvs v → DqO K H' kvs v
  | [], _, h => by
    obtain ⟨a, e1, h1⟩ := h
    exact ⟨a, e1, e _ _ h1⟩
  | p :: kvs, _, h => by
    rcases h with ⟨a, c, C, dx, fs, e1, e2, e3, h1, h2⟩ | ⟨a, o, k, u, t, e1, h1, h2, h3⟩ | ⟨a, x, t, e1, ⟨o, u, es, ep, h0, h1⟩, h2, h3⟩
    · exact .inl ⟨a, c, C, dx, fs, e1, e2, e3, e _ _ h1, DqF.mono e kvs fs h2⟩
    · exact .inr (.inl ⟨a, o, k, u, t, e1, e _ _ h1, DqE.mono e p k u h2, DqK.mono e kvs t h3⟩)
    · exact .inr (.inr ⟨a, x, t, e1, ⟨o, u, es, ep, e _ _ h0, h1⟩, DqG.mono e p x h2, DqH.mono e kvs t h3⟩)
theorem DqF.mono (e : Same H H') : ∀ (kvs : List (PyData × PyData)) (fs : List (Str × V)), DqF K H kvs fs → DqF K H' kvs fs
  | [], _, h => h
  | p :: r, _, h => by
    obtain ⟨f, v, t, e1, h1, h2⟩ := h
    exact ⟨f, v, t, e1, DqP.mono e p f v h1, DqF.mono e r t h2⟩
theorem DqP.mono (e : Same H H') : ∀ (p : PyData × PyData) (f : Str) (v : V), DqP K H p f v → DqP K H' p f v
  | (_, d), _, v, h => ⟨h.1, Dq.mono e d v h.2⟩
theorem DqK.mono (e : Same H H') : ∀ (kvs : List (PyData × PyData)) (ks : List (Key × V)), DqK K H kvs ks → DqK K H' kvs ks
  | [], _, h => h
  | p :: r, _, h => by
    obtain ⟨k, u, t, e1, h1, h2⟩ := h
    exact ⟨k, u, t, e1, DqE.mono e p k u h1, DqK.mono e r t h2⟩
theorem DqE.mono (e : Same H H') : ∀ (p : PyData × PyData) (k : Key) (u : V), DqE K H p k u → DqE K H' p k u
  | (_, d), _, u, h => ⟨h.1, Dq.mono e d u h.2⟩
theorem DqH.mono (e : Same H H') : ∀ (kvs : List (PyData × PyData)) (xs : List (NestedKey × Addr × Value)), DqH K H kvs xs → DqH K H' kvs xs
  | [], _, h => h
  | p :: r, _, h => by
    obtain ⟨x, t, e1, h1, h2⟩ := h
    exact ⟨x, t, e1, DqG.mono e p x h1, DqH.mono e r t h2⟩
theorem DqG.mono (e : Same H H') : ∀ (p : PyData × PyData) (x : NestedKey × Addr × Value), DqG K H p x → DqG K H' p x
  | (y, d), x, h => by
    obtain ⟨h1, h2, h3, v, h4, h5⟩ := h
    exact ⟨h1, h2, Dq.mono e y _ h3, v, h4, Dq.mono e d v h5⟩
end
theorem kD_ne {k : Key} : kD k ≠ .none := by cases k <;> intro z <;> cases z
/-- a key that is a tuple -/
def isTk : PyData → Bool
  | .tuple _ => true
  | _ => false
theorem DqG.tk : ∀ {p : PyData × PyData} {x : NestedKey × Addr × Value}, DqG K H p x → isTk p.1 = true
  | (y, d), x, h => by
    obtain ⟨h1, _, h3, _⟩ := h
    cases y with
    | tuple ds => rfl
    | none => cases (show V.ref _ = _ from h3)
    | bool b => cases (show V.ref _ = _ from h3)
    | int i => cases (show V.ref _ = _ from h3)
    | str s => cases h1
    | list ds => cases h1
    | dict kvs => cases h1
theorem kD_tk {k : Key} : isTk (kD k) = false := by cases k <;> rfl
theorem DqA.length : ∀ {ds : List PyData} {vs : List V}, DqA K H ds vs → vs.length = ds.length
  | [], _, h => by
    have h' : _ = [] := h
    subst h'
    rfl
  | d :: ds, _, h => by
    obtain ⟨v, r, rfl, _, h2⟩ := h
    rw [List.length_cons, List.length_cons, DqA.length h2]
theorem DqA.get : ∀ {ds : List PyData} {vs : List V} {i : Nat} {d : PyData}, DqA K H ds vs → ds[i]? = some d → ∃ v, vs[i]? = some v ∧ Dq K H d v
  | [], _, _, _, _, e => by simp at e
  | x :: ds, _, 0, d, h, e => by
    obtain ⟨v, r, rfl, h1, _⟩ := h
    have e' : x = d := by simpa using e
    subst e'
    exact ⟨v, rfl, h1⟩
  | x :: ds, _, i + 1, d, h, e => by
    obtain ⟨v, r, rfl, _, h2⟩ := h
    obtain ⟨u, a, b⟩ := DqA.get (i := i) (d := d) h2 (by simpa using e)
    exact ⟨u, by simpa using a, b⟩
theorem DqA.append : ∀ {ds es : List PyData} {vs us : List V}, DqA K H ds vs → DqA K H es us → DqA K H (ds ++ es) (vs ++ us)
  | [], _, _, _, h, g => by
    have h' : _ = [] := h
    subst h'
    exact g
  | d :: ds, es, _, us, h, g => by
    obtain ⟨v, r, rfl, h1, h2⟩ := h
    exact ⟨v, r ++ us, rfl, h1, DqA.append h2 g⟩
theorem DqA.snoc {ds : List PyData} {vs : List V} {d : PyData} {v : V} (h : DqA K H ds vs) (g : Dq K H d v) : DqA K H (ds ++ [d]) (vs ++ [v]) :=
  DqA.append h ⟨v, [], rfl, g, rfl⟩
theorem DqA.take : ∀ {ds : List PyData} {vs : List V} (n : Nat), DqA K H ds vs → DqA K H (ds.take n) (vs.take n)
  | [], _, n, h => by
    have h' : _ = [] := h
    subst h'
    simpa [DqA] using h
  | _ :: _, _, 0, _ => by simp [DqA]
  | d :: ds, _, n + 1, h => by
    obtain ⟨v, r, rfl, h1, h2⟩ := h
    exact ⟨v, r.take n, rfl, h1, DqA.take n h2⟩
theorem DqA.drop : ∀ {ds : List PyData} {vs : List V} (n : Nat), DqA K H ds vs → DqA K H (ds.drop n) (vs.drop n)
  | [], _, n, h => by
    have h' : _ = [] := h
    subst h'
    simpa [DqA] using h
  | _ :: _, _, 0, h => h
  | d :: ds, _, n + 1, h => by
    obtain ⟨v, r, rfl, h1, h2⟩ := h
    exact DqA.drop n h2
theorem DqA.set : ∀ {ds : List PyData} {vs : List V} {d : PyData} {v : V} (i : Nat), DqA K H ds vs → Dq K H d v → DqA K H (ds.set i d) (vs.set i v)
  | [], _, _, _, i, h, g => by
    have h' : _ = [] := h
    subst h'
    exact h
  | x :: ds, _, d, v, 0, h, g => by
    obtain ⟨u, r, rfl, h1, h2⟩ := h
    exact ⟨v, r, rfl, g, h2⟩
  | x :: ds, _, d, v, i + 1, h, g => by
    obtain ⟨u, r, rfl, h1, h2⟩ := h
    exact ⟨u, r.set i v, rfl, h1, DqA.set i h2 g⟩
mutual
theorem Dq.dp : ∀ (d : PyData) (v : V), PyData.canLay0 d = true → Dq K H d v → Dp K H v d
  | .none, _, _, h => by cases h; exact .non
  | .bool b, _, _, h => by cases h; exact .bl b
  | .int i, _, _, h => by cases h; exact .int i
  | .str x, _, _, h => by cases h; exact .str x
  | .list ds, _, c, h => by
    obtain ⟨a, xs, rfl, h1, h2⟩ := h
    exact .lst (SqL.of h1) (DqA.dp ds xs (by simpa [PyData.canLay0] using c) h2)
  | .tuple ds, _, c, h => by
    obtain ⟨a, xs, rfl, h1, h2⟩ := h
    exact .tup h1 (DqA.dp ds xs (by simpa [PyData.canLay0] using c) h2)
  | .dict kvs, _, c, _ => by simp [PyData.canLay0] at c
theorem DqA.dp : ∀ (ds : List PyData) (vs : List V), PyData.canLayAll0 ds = true → DqA K H ds vs → DpAll K H vs ds
  | [], _, _, h => by
    have h' : _ = [] := h
    subst h'
    exact .nil
  | d :: ds, _, c, h => by
    obtain ⟨v, r, rfl, h1, h2⟩ := h
    have c' : PyData.canLay0 d = true ∧ PyData.canLayAll0 ds = true := by simpa [PyData.canLayAll0] using c
    exact .cons (Dq.dp d v c'.1 h1) (DqA.dp ds r c'.2 h2)
end
end

end data
/-! ### the mirror's states and outcomes -/
inductive Sl where
  | d (x : PyData)
  | c (n : Nat)
  /-- a list of ints that is read alone: the script -/
  | s (ns : List Int)
  /-- a def -/
  | f (i : Nat)
  /-- a tuple that holds data and lists of the store -/
  | t (xs : List (PyData ⊕ Nat))
abbrev Sto := List (List PyData)
abbrev Env := List (Option Sl)
structure Exn where
  cls : String
  arg : Option PyData
inductive Out (α : Type) where
  | ok (a : α) (s : Sto)
  | exc (x : Exn) (s : Sto)
  | bad
namespace Out
def bind {α β : Type} (o : Out α) (k : α → Sto → Out β) : Out β := match o with
  | .ok a s => k a s
  | .exc x s => .exc x s
  | .bad => .bad
@[simp] theorem bind_ok {α β : Type} (a : α) (s : Sto) (k : α → Sto → Out β) : (Out.ok a s).bind k = k a s := rfl
@[simp] theorem bind_bad {α β : Type} (k : α → Sto → Out β) : (Out.bad : Out α).bind k = .bad := rfl
end Out
abbrev ME := Env → Sto → Out PyData
abbrev MT := Env → Sto → Out Bool
abbrev ML := Env → Sto → Out Sl
abbrev MA := Env → Sto → Out (List Sl)
abbrev MD := Env → Sto → Out (List PyData)
inductive Fl where
  | nx (ρ : Env) (s : Sto)
  | rt (x : Sl) (s : Sto)
  | bk (ρ : Env) (s : Sto)
  | ct (ρ : Env) (s : Sto)
  | exc (x : Exn) (s : Sto)
  | bad
abbrev MS := Env → Sto → Fl
abbrev XRel := Exn → Hp → Value → Option Addr → Prop

theorem tabs_ext {l : List (Addr × Str)} {H H' : Hp} (t : LamX.Tabs l H) (e : ∀ b o, H b = some o → H' b = some o) : LamX.Tabs l H' := fun p m => (t p m).ext e
theorem tabs_upd {l : List (Addr × Str)} {H : Hp} {p : Addr} {o : HO} (t : LamX.Tabs l H) (n : H p = none) : LamX.Tabs l (upd H p o) := tabs_ext t fun b u e => by rw [upd_ne (ne_of_none e n)]; exact e
theorem tabs_put {l : List (Addr × Str)} {H : Hp} {p : Addr} {xs : List V} {o : HO} (t : LamX.Tabs l H) (n : H p = some (.lst xs)) : LamX.Tabs l (upd H p o) := fun q m => by
  obtain ⟨ps, h1, h2, h3⟩ := t q m
  refine ⟨ps, ?_, h2, fun pos cv e => ?_⟩
  · rw [upd_ne (fun z => by rw [z, n] at h1; cases h1)]
    exact h1
  · obtain ⟨c, e1, e2⟩ := h3 pos cv e
    refine ⟨c, e1, ?_⟩
    rw [upd_ne (fun z => by rw [z, n] at e2; cases e2)]
    exact e2
variable [Tb]
/-- the store: its lists stand at the addresses A, apart from Hi, what never changes -/
structure RS (K : PySem.W.Frag) (A : List Addr) (Hi : Hp) (s : Sto) (H : Hp) : Prop where
  sub : Same Hi H
  out : ∀ a ∈ A, Hi a = none
  nd : A.Nodup
  len : A.length = s.length
  cel : ∀ (i : Nat) (a : Addr) (ds : List PyData), A[i]? = some a → s[i]? = some ds → ∃ xs, H a = some (.lst xs) ∧ DqA K Hi ds xs
  tab : LamX.Tabs Tb.l H
  nt : ∀ (b : Addr) (ps : Array Value), Hi b ≠ some (.tbl ps)
def RT (K : PySem.W.Frag) (A : List Addr) (Hi : Hp) : List (PyData ⊕ Nat) → List V → Prop
  | [], vs => vs = []
  | .inl d :: r, vs => ∃ v t, vs = v :: t ∧ Dq K Hi d v ∧ RT K A Hi r t
  | .inr n :: r, vs => ∃ a t, vs = .ref a :: t ∧ A[n]? = some a ∧ RT K A Hi r t
def RSl (K : PySem.W.Frag) (A : List Addr) (Hi : Hp) : Sl → V → Prop
  | .d x, v => Dq K Hi x v
  | .c n, v => ∃ a, A[n]? = some a ∧ v = .ref a
  | .s ns, v => ∃ a, v = .ref a ∧ SqL K Hi a (ns.map V.int)
  | .f i, v => ∃ a, Tb.fs[i]? = some a ∧ v = .ref a
  | .t xs, v => ∃ a vs, v = .ref a ∧ SqT K Hi a vs ∧ RT K A Hi xs vs
def RE (K : PySem.W.Frag) (A : List Addr) (Hi : Hp) (ρ : Env) (σ : L2.St) : Prop := ρ.length = σ.length ∧ ∀ (i : Nat) (x : Sl), ρ[i]? = some (some x) → ∃ v, σ[i]? = some (some v) ∧ RSl K A Hi x v
def RL (K : PySem.W.Frag) (A : List Addr) (Hi : Hp) : List Sl → List V → Prop
  | [], vs => vs = []
  | x :: xs, vs => ∃ v r, vs = v :: r ∧ RSl K A Hi x v ∧ RL K A Hi xs r
section
variable {K : PySem.W.Frag} {A A' : List Addr} {Hi Hi' : Hp} {s : Sto} {H : Hp} {ρ : Env} {σ : L2.St}
theorem pre_get {A A' : List Addr} {n : Nat} {a : Addr} (p : A <+: A') (h : A[n]? = some a) : A'[n]? = some a := by
  obtain ⟨t, rfl⟩ := p
  rw [List.getElem?_append_left (List.getElem?_eq_some_iff.mp h).1]
  exact h
theorem RT.mono (e : Same Hi Hi') (p : A <+: A') : ∀ {xs : List (PyData ⊕ Nat)} {vs : List V}, RT K A Hi xs vs → RT K A' Hi' xs vs
  | [], _, h => h
  | .inl _ :: _, _, h => by
    obtain ⟨v, t, e1, h1, h2⟩ := h
    exact ⟨v, t, e1, Dq.mono e _ _ h1, RT.mono e p h2⟩
  | .inr _ :: _, _, h => by
    obtain ⟨a, t, e1, h1, h2⟩ := h
    exact ⟨a, t, e1, pre_get p h1, RT.mono e p h2⟩
theorem RSl.mono (e : Same Hi Hi') (p : A <+: A') : ∀ {x : Sl} {v : V}, RSl K A Hi x v → RSl K A' Hi' x v
  | .d x, v, h => Dq.mono e x v h
  | .c n, v, h => by
    obtain ⟨a, h1, h2⟩ := h
    obtain ⟨t, rfl⟩ := p
    refine ⟨a, ?_, h2⟩
    rw [List.getElem?_append_left (List.getElem?_eq_some_iff.mp h1).1]
    exact h1
  | .s ns, v, h => by
    obtain ⟨a, h1, h2⟩ := h
    exact ⟨a, h1, sql_mono e h2⟩
  | .f _, _, h => h
  | .t _, _, h => by
    obtain ⟨a, vs, e1, h1, h2⟩ := h
    exact ⟨a, vs, e1, sqt_mono e h1, h2.mono e p⟩
theorem RE.mono (e : Same Hi Hi') (p : A <+: A') (h : RE K A Hi ρ σ) : RE K A' Hi' ρ σ :=
  ⟨h.1, fun i x q => by
    obtain ⟨v, h1, h2⟩ := h.2 i x q
    exact ⟨v, h1, h2.mono e p⟩⟩
theorem RL.mono (e : Same Hi Hi') (p : A <+: A') : ∀ {xs : List Sl} {vs : List V}, RL K A Hi xs vs → RL K A' Hi' xs vs
  | [], _, h => h
  | _ :: _, _, h => by
    obtain ⟨v, r, e1, h1, h2⟩ := h
    exact ⟨v, r, e1, h1.mono e p, RL.mono e p h2⟩
theorem RE.set {i : Nat} {x : Sl} {v : V} (h : RE K A Hi ρ σ) (g : RSl K A Hi x v) : RE K A Hi (ρ.set i (some x)) (σ.set i (some v)) := by
  refine ⟨by rw [List.length_set, List.length_set]; exact h.1, fun j y q => ?_⟩
  by_cases e : i = j
  · subst e
    rw [List.getElem?_set_self'] at q
    cases hq : ρ[i]? with
    | none => rw [hq] at q; cases q
    | some z =>
      rw [hq] at q
      have e2 : x = y := Option.some.inj (Option.some.inj q)
      subst e2
      refine ⟨v, ?_, g⟩
      have hl : i < σ.length := by
        rw [← h.1]
        exact (List.getElem?_eq_some_iff.mp hq).1
      rw [List.getElem?_set_self hl]
  · rw [List.getElem?_set_ne e] at q
    obtain ⟨u, h1, h2⟩ := h.2 j y q
    exact ⟨u, by rw [List.getElem?_set_ne e]; exact h1, h2⟩
theorem RS.fresh (h : RS K A Hi s H) {p : Addr} (n : H p = none) : Hi p = none := by
  cases q : Hi p with
  | none => rfl
  | some o =>
    have := h.sub _ _ q
    rw [n] at this
    cases this
theorem RS.notin (h : RS K A Hi s H) {p : Addr} (n : H p = none) : p ∉ A := fun m => by
  obtain ⟨i, hi⟩ := List.getElem?_of_mem m
  have hl : i < s.length := by rw [← h.len]; exact (List.getElem?_eq_some_iff.mp hi).1
  obtain ⟨xs, e, _⟩ := h.cel i p _ hi (List.getElem?_eq_getElem hl)
  rw [n] at e
  cases e
theorem same_upd {Hi : Hp} {p : Addr} {o : HO} (n : Hi p = none) : Same Hi (upd Hi p o) := fun b u e => by rw [upd_ne (ne_of_none e n)]; exact e
/-- a new thing that never changes -/
theorem nt_upd {Hi : Hp} {p : Addr} {o : HO} (h : ∀ (b : Addr) (ps : Array Value), Hi b ≠ some (.tbl ps)) (no : ∀ ps : Array Value, o ≠ .tbl ps) : ∀ (b : Addr) (ps : Array Value), upd Hi p o b ≠ some (.tbl ps) := fun b ps => by
  by_cases q : b = p
  · subst q
    rw [upd_same]
    exact fun z => no ps (Option.some.inj z)
  · rw [upd_ne q]
    exact h b ps
theorem RS.new (h : RS K A Hi s H) {p : Addr} {o : HO} (n : H p = none) (no : ∀ ps : Array Value, o ≠ .tbl ps := by intro _ z; cases z) : RS K A (upd Hi p o) s (upd H p o) := by
  refine ⟨fun b u e => ?_, fun a m => ?_, h.nd, h.len, fun i a ds ha hs => ?_, tabs_upd h.tab n, nt_upd h.nt no⟩
  · by_cases q : b = p
    · subst q
      rw [upd_same] at e ⊢
      exact e
    · rw [upd_ne q] at e ⊢
      exact h.sub _ _ e
  · rw [upd_ne (fun q => h.notin n (by rw [← q]; exact m))]
    exact h.out a m
  · obtain ⟨xs, e, d⟩ := h.cel i a ds ha hs
    exact ⟨xs, by rw [upd_ne (ne_of_none e n)]; exact e, DqA.mono (same_upd (h.fresh n)) _ _ d⟩
theorem RS.new1 (h : RS K A Hi s H) {p : Addr} {o : HO} (n : H p = none) : RS K A Hi s (upd H p o) := by
  refine ⟨fun b u e => ?_, h.out, h.nd, h.len, fun i a ds ha hs => ?_, tabs_upd h.tab n, h.nt⟩
  · have q := h.sub _ _ e
    rw [upd_ne (ne_of_none q n)]
    exact q
  · obtain ⟨xs, e, d⟩ := h.cel i a ds ha hs
    exact ⟨xs, by rw [upd_ne (ne_of_none e n)]; exact e, d⟩
/-- what stands beside the store is taken to what never changes -/
theorem RS.own (h : RS K A Hi s H) {p : Addr} {o : HO} (hp : H p = some o) (n : Hi p = none) (m : p ∉ A) (no : ∀ ps : Array Value, o ≠ .tbl ps := by intro _ z; cases z) : RS K A (upd Hi p o) s H := by
  refine ⟨fun b u e => ?_, fun a q => ?_, h.nd, h.len, fun i a ds ha hs => ?_, h.tab, nt_upd h.nt no⟩
  · by_cases z : b = p
    · subst z
      rw [upd_same] at e
      rw [hp]
      exact e
    · rw [upd_ne z] at e
      exact h.sub _ _ e
  · rw [upd_ne (fun z => m (by rw [← z]; exact q))]
    exact h.out a q
  · obtain ⟨xs, e, d⟩ := h.cel i a ds ha hs
    exact ⟨xs, e, DqA.mono (same_upd n) _ _ d⟩
/-- a new list of the store -/
theorem RS.push (h : RS K A Hi s H) {p : Addr} {ds : List PyData} {xs : List V} (n : H p = none) (d : DqA K Hi ds xs) : RS K (A ++ [p]) Hi (s ++ [ds]) (upd H p (.lst xs)) := by
  refine ⟨fun b u e => ?_, fun a m => ?_, ?_, by rw [List.length_append, List.length_append, h.len]; rfl, fun i a es ha hs => ?_, tabs_upd h.tab n, h.nt⟩
  · rw [upd_ne (ne_of_none (h.sub _ _ e) n)]
    exact h.sub _ _ e
  · rcases List.mem_append.mp m with m | m
    · exact h.out a m
    · have : a = p := by simpa using m
      rw [this]
      exact h.fresh n
  · rw [List.nodup_append]
    refine ⟨h.nd, by simp, fun a ha b hb => ?_⟩
    have : b = p := by simpa using hb
    rw [this]
    exact fun q => h.notin n (by rw [← q]; exact ha)
  · by_cases hl : i < A.length
    · rw [List.getElem?_append_left hl] at ha
      rw [List.getElem?_append_left (by rw [← h.len]; exact hl)] at hs
      obtain ⟨ys, e, d'⟩ := h.cel i a es ha hs
      exact ⟨ys, by rw [upd_ne (ne_of_none e n)]; exact e, d'⟩
    · have hl' := (List.getElem?_eq_some_iff.mp ha).1
      rw [List.length_append, List.length_singleton] at hl'
      have hi : i = A.length := by omega
      subst hi
      rw [List.getElem?_append_right (Nat.le_refl _), Nat.sub_self] at ha
      rw [h.len, List.getElem?_append_right (Nat.le_refl _), Nat.sub_self] at hs
      cases ha
      cases hs
      exact ⟨xs, upd_same, d⟩
/-- a list of the store changes -/
theorem RS.put (h : RS K A Hi s H) {n : Nat} {p : Addr} {ds : List PyData} {xs : List V} (ha : A[n]? = some p) (d : DqA K Hi ds xs) : RS K A Hi (s.set n ds) (upd H p (.lst xs)) := by
  have hp : Hi p = none := h.out p (List.mem_of_getElem? ha)
  have hl0 : n < s.length := by rw [← h.len]; exact (List.getElem?_eq_some_iff.mp ha).1
  obtain ⟨ys0, e0, _⟩ := h.cel n p _ ha (List.getElem?_eq_getElem hl0)
  refine ⟨fun b u e => ?_, h.out, h.nd, by rw [List.length_set]; exact h.len, fun i a es hi hs => ?_, tabs_put h.tab e0, h.nt⟩
  · rw [upd_ne (ne_of_none e hp)]
    exact h.sub _ _ e
  · by_cases q : n = i
    · subst q
      rw [ha] at hi
      cases hi
      have hl : n < s.length := by rw [← h.len]; exact (List.getElem?_eq_some_iff.mp ha).1
      rw [List.getElem?_set_self hl] at hs
      cases hs
      exact ⟨xs, upd_same, d⟩
    · rw [List.getElem?_set_ne q] at hs
      obtain ⟨ys, e, d'⟩ := h.cel i a es hi hs
      have hne : a ≠ p := fun z => by
        subst z
        exact q (nd_ix h.nd ha hi)
      exact ⟨ys, by rw [upd_ne hne]; exact e, d'⟩
/-- the lists from n on are forgotten -/
theorem RS.cut (h : RS K A Hi s H) (n : Nat) : RS K (A.take n) Hi (s.take n) H := by
  refine ⟨h.sub, fun a m => h.out a (List.mem_of_mem_take m), h.nd.sublist (List.take_sublist _ _), by rw [List.length_take, List.length_take, h.len], fun i a ds ha hs => ?_, h.tab, h.nt⟩
  rw [List.getElem?_take] at ha hs
  split at ha
  · rename_i q
    rw [if_pos q] at hs
    exact h.cel i a ds ha hs
  · cases ha
/-- a list of the store that is forgotten stands for ever -/
theorem RS.freeze (h : RS K A Hi s H) {n m : Nat} {a : Addr} {xs : List V} (hn : n ≤ m) (ha : A[m]? = some a) (hx : H a = some (.lst xs)) : RS K (A.take n) (upd Hi a (.lst xs)) (s.take n) H := by
  have c := h.cut n
  have hp : Hi a = none := h.out a (List.mem_of_getElem? ha)
  refine ⟨fun b u e => ?_, fun b q => ?_, c.nd, c.len, fun i b ds hb hs => ?_, h.tab, nt_upd h.nt (by intro _ z; cases z)⟩
  · by_cases q : b = a
    · subst q
      rw [upd_same] at e
      rw [hx]
      exact e
    · rw [upd_ne q] at e
      exact h.sub _ _ e
  · have hne : b ≠ a := fun z => by
      subst z
      obtain ⟨i, hi⟩ := List.getElem?_of_mem q
      rw [List.getElem?_take] at hi
      split at hi
      · rename_i l
        have := nd_ix h.nd hi ha
        omega
      · cases hi
    rw [upd_ne hne]
    exact c.out b q
  · obtain ⟨ys, e, d⟩ := c.cel i b ds hb hs
    exact ⟨ys, e, DqA.mono (same_upd hp) _ _ d⟩
end
/-- how heaps go on: what never changes goes on, what is tracked beside the store stands, only new things become unchanging -/
structure Ext (A : List Addr) (Hi H Hi' H' : Hp) : Prop where
  same : Same Hi Hi'
  keep : ∀ b o, b ∉ A → (∀ ps : Array Value, o ≠ .tbl ps) → H b = some o → H' b = some o
  there : ∀ b, H' b = none → H b = none
  new : ∀ b, Hi b = none → H b ≠ none → Hi' b = none
theorem Ext.refl {A : List Addr} {Hi H : Hp} : Ext A Hi H Hi H := ⟨Same.refl _, fun _ _ _ _ e => e, fun _ e => e, fun _ e _ => e⟩
theorem Ext.trans {A : List Addr} {Hi H Hi1 H1 Hi2 H2 : Hp} (a : Ext A Hi H Hi1 H1) (b : Ext A Hi1 H1 Hi2 H2) : Ext A Hi H Hi2 H2 :=
  ⟨a.same.trans b.same, fun c o n k e => b.keep c o n k (a.keep c o n k e), fun c e => a.there c (b.there c e), fun c e n => b.new c (a.new c e n) fun q => n (a.there c q)⟩
theorem Ext.fresh {A : List Addr} {Hi H : Hp} {p : Addr} {o : HO} (n : H p = none) (m : Hi p = none) : Ext A Hi H (upd Hi p o) (upd H p o) := by
  refine ⟨same_upd m, fun b u _ _ e => ?_, fun b e => ?_, fun b e q => ?_⟩
  · rw [upd_ne (ne_of_none e n)]
    exact e
  · by_cases q : b = p
    · subst q
      rw [upd_same] at e
      cases e
    · rw [upd_ne q] at e
      exact e
  · by_cases z : b = p
    · subst z
      exact absurd n q
    · rw [upd_ne z]
      exact e
theorem Ext.fresh1 {A : List Addr} {Hi H : Hp} {p : Addr} {o : HO} (n : H p = none) : Ext A Hi H Hi (upd H p o) := by
  refine ⟨Same.refl _, fun b u _ _ e => ?_, fun b e => ?_, fun b e q => e⟩
  · rw [upd_ne (ne_of_none e n)]
    exact e
  · by_cases q : b = p
    · subst q
      exact n
    · rw [upd_ne q] at e
      exact e
theorem Ext.put {A : List Addr} {Hi H : Hp} {p : Addr} {o : HO} (m : p ∈ A) : Ext A Hi H Hi (upd H p o) := by
  refine ⟨Same.refl _, fun b u q _ e => ?_, fun b e => ?_, fun b e q => e⟩
  · rw [upd_ne (fun z => q (by rw [z]; exact m))]
    exact e
  · by_cases q : b = p
    · subst q
      rw [upd_same] at e
      cases e
    · rw [upd_ne q] at e
      exact e
/-- the same, more lists in the store -/
structure ExtS (A : List Addr) (Hi H : Hp) (A' : List Addr) (Hi' H' : Hp) : Prop where
  ext : Ext A Hi H Hi' H'
  pre : A <+: A'
  nw : ∀ a ∈ A', a ∉ A → H a = none
theorem ExtS.refl {A : List Addr} {Hi H : Hp} : ExtS A Hi H A Hi H := ⟨.refl, List.prefix_refl _, fun _ m n => absurd m n⟩
theorem Ext.s {A : List Addr} {Hi H Hi' H' : Hp} (e : Ext A Hi H Hi' H') : ExtS A Hi H A Hi' H' := ⟨e, List.prefix_refl _, fun _ m n => absurd m n⟩
theorem ExtS.trans {A A1 A2 : List Addr} {Hi H Hi1 H1 Hi2 H2 : Hp} (a : ExtS A Hi H A1 Hi1 H1) (b : ExtS A1 Hi1 H1 A2 Hi2 H2) : ExtS A Hi H A2 Hi2 H2 := by
  refine ⟨⟨a.ext.same.trans b.ext.same, fun c o n k e => ?_, fun c e => a.ext.there c (b.ext.there c e), fun c e n => b.ext.new c (a.ext.new c e n) fun q => n (a.ext.there c q)⟩, a.pre.trans b.pre, fun c m n => ?_⟩
  · refine b.ext.keep c o (fun q => ?_) k (a.ext.keep c o n k e)
    have := a.nw c q n
    rw [e] at this
    cases this
  · by_cases q : c ∈ A1
    · exact a.nw c q n
    · exact a.ext.there c (b.nw c m q)
/-- what is wanted of an outcome -/
def PO {α β : Type} (K : PySem.W.Frag) (A : List Addr) (Hi H : Hp) (XR : XRel) (E : XK) (R : Hp → Hp → α → β → Prop) (Q : β → Hp → Prop) : Out α → Prop
  | .ok x s => ∀ v Hi' H', Ext A Hi H Hi' H' → RS K A Hi' s H' → R Hi' H' x v → Q v H'
  | .exc x s => ∀ cls d Hi' H', Ext A Hi H Hi' H' → RS K A Hi' s H' → XR x Hi' cls d → E cls d H'
  | .bad => False
abbrev RD (K : PySem.W.Frag) : Hp → Hp → PyData → V → Prop := fun Hi _ x v => Dq K Hi x v
abbrev RB : Hp → Hp → Bool → Bool → Prop := fun _ _ b c => b = c
/-- a list that nobody else holds -/
abbrev RF (K : PySem.W.Frag) (A : List Addr) (H0 : Hp) : Hp → Hp → List PyData → V → Prop := fun Hi H ds v => ∃ p xs, v = .ref p ∧ H p = some (.lst xs) ∧ Hi p = none ∧ H0 p = none ∧ p ∉ A ∧ DqA K Hi ds xs
section
variable {K : PySem.W.Frag} {A : List Addr} {Hi H Hi' H' : Hp} {XR : XRel} {E : XK} {α β γ δ : Type} {R : Hp → Hp → α → β → Prop} {R' : Hp → Hp → γ → δ → Prop} {Q : β → Hp → Prop} {Q' : δ → Hp → Prop}
theorem PO.back {o : Out α} (e : Ext A Hi H Hi' H') (h : PO K A Hi H XR E R Q o) : PO K A Hi' H' XR E R Q o := by
  cases o with
  | ok x s => exact fun v H1 H2 e1 r d => h v H1 H2 (e.trans e1) r d
  | exc x s => exact fun c d H1 H2 e1 r q => h c d H1 H2 (e.trans e1) r q
  | bad => exact h
theorem PO.bind {o : Out α} {k : α → Sto → Out γ} (h : PO K A Hi H XR E R' Q' (o.bind k))
    (g : ∀ x s v Hi1 H1, o = .ok x s → Ext A Hi H Hi1 H1 → RS K A Hi1 s H1 → R Hi1 H1 x v → PO K A Hi1 H1 XR E R' Q' (k x s) → Q v H1) : PO K A Hi H XR E R Q o := by
  cases o with
  | ok x s => exact fun v H1 H2 e1 r d => g x s v H1 H2 rfl e1 r d (PO.back e1 h)
  | exc x s => exact h
  | bad => exact h
theorem PO.use {x : α} {s : Sto} {v : β} (h : PO K A Hi H XR E R Q (.ok x s)) (r : RS K A Hi s H) (d : R Hi H x v) : Q v H := h v Hi H .refl r d
theorem PO.out {x : α} {s : Sto} {v : β} (h : PO K A Hi H XR E R Q (.ok x s)) (e : Ext A Hi H Hi' H') (r : RS K A Hi' s H') (d : R Hi' H' x v) : Q v H' := h v Hi' H' e r d
end
/-- what is wanted of a statement's outcome -/
def PF (K : PySem.W.Frag) (A : List Addr) (Hi H : Hp) (XR : XRel) (E : XK) (D : Ends) : Fl → Prop
  | .nx ρ s => ∀ A' Hi' σ' H', ExtS A Hi H A' Hi' H' → RS K A' Hi' s H' → RE K A' Hi' ρ σ' → D.nx σ' H'
  | .bk ρ s => ∀ A' Hi' σ' H', ExtS A Hi H A' Hi' H' → RS K A' Hi' s H' → RE K A' Hi' ρ σ' → D.bk σ' H'
  | .ct ρ s => ∀ A' Hi' σ' H', ExtS A Hi H A' Hi' H' → RS K A' Hi' s H' → RE K A' Hi' ρ σ' → D.ct σ' H'
  | .rt x s => ∀ A' Hi' v H', ExtS A Hi H A' Hi' H' → RS K A' Hi' s H' → RSl K A' Hi' x v → D.rt v H'
  | .exc x s => ∀ cls d A' Hi' H', ExtS A Hi H A' Hi' H' → RS K A' Hi' s H' → XR x Hi' cls d → E cls d H'
  | .bad => False
theorem PF.back {K : PySem.W.Frag} {A A1 : List Addr} {Hi H Hi1 H1 : Hp} {XR : XRel} {E : XK} {D : Ends} {o : Fl} (e : ExtS A Hi H A1 Hi1 H1) (h : PF K A Hi H XR E D o) : PF K A1 Hi1 H1 XR E D o := by
  cases o with
  | nx ρ s => exact fun A' Hi' σ' H' e1 => h A' Hi' σ' H' (e.trans e1)
  | bk ρ s => exact fun A' Hi' σ' H' e1 => h A' Hi' σ' H' (e.trans e1)
  | ct ρ s => exact fun A' Hi' σ' H' e1 => h A' Hi' σ' H' (e.trans e1)
  | rt x s => exact fun A' Hi' v H' e1 => h A' Hi' v H' (e.trans e1)
  | exc x s => exact fun c d A' Hi' H' e1 => h c d A' Hi' H' (e.trans e1)
  | bad => exact h
/-! ### the judgements -/
section
variable (X : Cx) (XR : XRel) (E : XK)
def SE (e : Expr) (f : ME) : Prop := ∃ t, PE X e t ∧ ∀ A Hi ρ s σ H, RS X.K A Hi s H → RE X.K A Hi ρ σ → ∀ Q : VK, PO X.K A Hi H XR E (RD X.K) Q (f ρ s) → t σ H Q
def ST (e : Expr) (f : MT) : Prop := ∃ t, PT X e t ∧ ∀ A Hi ρ s σ H, RS X.K A Hi s H → RE X.K A Hi ρ σ → ∀ Q : Bool → Hp → Prop, PO X.K A Hi H XR E RB Q (f ρ s) → t σ H Q
def SW (e : Expr) (f : MT) : Prop := ∃ t, PW X e t ∧ ∀ A Hi ρ s σ H, RS X.K A Hi s H → RE X.K A Hi ρ σ → ∀ Q : Bool → Hp → Prop, PO X.K A Hi H XR E RB Q (f ρ s) → t σ H Q
def SL (e : Expr) (f : ML) : Prop := ∃ t, PE X e t ∧ ∀ A Hi ρ s σ H, RS X.K A Hi s H → RE X.K A Hi ρ σ → ∀ Q : VK, PO X.K A Hi H XR E (fun Hi _ => RSl X.K A Hi) Q (f ρ s) → t σ H Q
def SA (es : List Expr) (f : MA) : Prop := ∃ t, PA X es t ∧ ∀ A Hi ρ s σ H, RS X.K A Hi s H → RE X.K A Hi ρ σ → ∀ Q : List V → Hp → Prop, PO X.K A Hi H XR E (fun Hi _ => RL X.K A Hi) Q (f ρ s) → t σ H Q
def SD (es : List Expr) (f : MD) : Prop := ∃ t, PA X es t ∧ ∀ A Hi ρ s σ H, RS X.K A Hi s H → RE X.K A Hi ρ σ → ∀ Q : List V → Hp → Prop, PO X.K A Hi H XR E (fun Hi _ => DqA X.K Hi) Q (f ρ s) → t σ H Q
/-- gives a list that nobody else holds -/
def SC (e : Expr) (f : MD) : Prop := ∃ t, PE X e t ∧ ∀ A Hi ρ s σ H, RS X.K A Hi s H → RE X.K A Hi ρ σ → ∀ Q : VK, PO X.K A Hi H XR E (RF X.K A H) Q (f ρ s) → t σ H Q
def SS (st : Stmt) (g : MS) : Prop := ∃ t, PS X st t ∧ ∀ A Hi ρ s σ H, RS X.K A Hi s H → RE X.K A Hi ρ σ → ∀ D, PF X.K A Hi H XR E D (g ρ s) → t D σ H
def SB (sts : List Stmt) (g : MS) : Prop := ∃ t, PSs X sts t ∧ ∀ A Hi ρ s σ H, RS X.K A Hi s H → RE X.K A Hi ρ σ → ∀ D, PF X.K A Hi H XR E D (g ρ s) → t D σ H
end
end Mir

namespace Mir
open PySem PySem.Spec PyProof.Rows L2
variable [Tb]
section
variable {X : Cx} {XR : XRel} {E : XK}

/-! ### names, constants -/
def eVar (i : Nat) : ME := fun ρ s => match ρ[i]? with
  | some (some (.d x)) => .ok x s
  | _ => .bad
def lVar (i : Nat) : ML := fun ρ s => match ρ[i]? with
  | some (some x) => .ok x s
  | _ => .bad
def eC (x : PyData) : ME := fun _ s => .ok x s
theorem se_var (i : Nat) {x : Str} {pos : Pos} (hN : X.N[i]? = some x := by rfl) (hv : Vis X.env.scope x := by first | exact Or.inl rfl | exact Or.inr (Or.inl rfl) | exact Or.inr (Or.inr rfl)) (hd : (x == ("__debug__" : Str)) = false := by decide)
    (hcd : (x == ("__classdict__" : Str)) = false := by decide) : SE X XR E (.Name x pos) (eVar i) := by
  refine ⟨_, pe_var hN hv hd hcd, fun A Hi ρ s σ H r re Q h => ?_⟩
  unfold eVar at h
  split at h
  · rename_i y e
    obtain ⟨v, h1, h2⟩ := re.2 i _ e
    exact ⟨v, h1, h.use r h2⟩
  · exact h.elim
theorem sl_var (i : Nat) {x : Str} {pos : Pos} (hN : X.N[i]? = some x := by rfl) (hv : Vis X.env.scope x := by first | exact Or.inl rfl | exact Or.inr (Or.inl rfl) | exact Or.inr (Or.inr rfl)) (hd : (x == ("__debug__" : Str)) = false := by decide)
    (hcd : (x == ("__classdict__" : Str)) = false := by decide) : SL X XR E (.Name x pos) (lVar i) := by
  refine ⟨_, pe_var hN hv hd hcd, fun A Hi ρ s σ H r re Q h => ?_⟩
  unfold lVar at h
  split at h
  · rename_i y e
    obtain ⟨v, h1, h2⟩ := re.2 i _ e
    exact ⟨v, h1, h.use r h2⟩
  · exact h.elim
theorem se_c {e : Expr} {v : V} {x : PyData} (h : PE X e (tC v)) (d : ∀ Hi, Dq X.K Hi x v) : SE X XR E e (eC x) := ⟨_, h, fun _ Hi _ _ _ _ r _ _ h => h.use r (d Hi)⟩
theorem se_int {i j pos} : SE X XR E (.Constant (.int i) j pos) (eC (.int i)) := se_c pe_int fun _ => rfl
theorem se_bl {b j pos} : SE X XR E (.Constant (.bool b) j pos) (eC (.bool b)) := se_c pe_bl fun _ => rfl
theorem se_non {j pos} : SE X XR E (.Constant .none j pos) (eC .none) := se_c pe_non fun _ => rfl
theorem se_str {x j pos} : SE X XR E (.Constant (.str x) j pos) (eC (.str x)) := se_c pe_str fun _ => rfl
theorem se_gint {x : Str} {i : Int} {t : Tok} {pos : Pos} (hg : Gl X x) (hm : X.mg x = some (.int i t)) (hd : (x == ("__debug__" : Str)) = false := by decide) : SE X XR E (.Name x pos) (eC (.int i)) := se_c (v := .int i) (pe_glob hg hm ⟨_, rfl⟩ hd) fun _ => rfl
def eL (f : ME) : ML := fun ρ s => (f ρ s).bind fun x s => .ok (.d x) s
theorem sl_e {e : Expr} {f : ME} (h : SE X XR E e f) : SL X XR E e (eL f) := by
  obtain ⟨t, p, q⟩ := h
  exact ⟨t, p, fun A Hi ρ s σ H r re Q h => q A Hi ρ s σ H r re Q (PO.bind h fun x s1 v Hi1 H1 _ _ r1 d h1 => PO.use (R := fun Hi _ => RSl X.K A Hi) (x := Sl.d x) h1 r1 d)⟩

/-! ### one, two parts -/
def eUn (g : PyData → Sto → Out PyData) (fa : ME) : ME := fun ρ s => (fa ρ s).bind g
def eBin (g : PyData → PyData → Sto → Out PyData) (fa fb : ME) : ME := fun ρ s => (fa ρ s).bind fun x s1 => (fb ρ s1).bind fun y s2 => g x y s2
def GU (X : Cx) (XR : XRel) (E : XK) (r : V → Hp → VK → Prop) (g : PyData → Sto → Out PyData) : Prop := ∀ A Hi s H x v Q, RS X.K A Hi s H → Dq X.K Hi x v → PO X.K A Hi H XR E (RD X.K) Q (g x s) → r v H Q
def GB (X : Cx) (XR : XRel) (E : XK) (r : R2) (g : PyData → PyData → Sto → Out PyData) : Prop := ∀ A Hi s H x y v w Q, RS X.K A Hi s H → Dq X.K Hi x v → Dq X.K Hi y w → PO X.K A Hi H XR E (RD X.K) Q (g x y s) → r v w H Q
theorem se_un {a e : Expr} {fa : ME} {r : V → Hp → VK → Prop} {g : PyData → Sto → Out PyData} (he : ∀ ta, PE X a ta → PE X e (tUn r ta)) (hg : GU X XR E r g) (ha : SE X XR E a fa) : SE X XR E e (eUn g fa) := by
  obtain ⟨ta, pa, qa⟩ := ha
  exact ⟨_, he _ pa, fun A Hi ρ s σ H r re Q h => qa A Hi ρ s σ H r re _ (PO.bind h fun x s1 v Hi1 H1 _ _ r1 d h1 => hg A Hi1 s1 H1 x v Q r1 d h1)⟩
theorem se_bin {a b e : Expr} {fa fb : ME} {r : R2} {g : PyData → PyData → Sto → Out PyData} (he : ∀ ta tb, PE X a ta → PE X b tb → PE X e (tOp r ta tb)) (hg : GB X XR E r g) (ha : SE X XR E a fa) (hb : SE X XR E b fb) : SE X XR E e (eBin g fa fb) := by
  obtain ⟨ta, pa, qa⟩ := ha
  obtain ⟨tb, pb, qb⟩ := hb
  refine ⟨_, he _ _ pa pb, fun A Hi ρ s σ H r re Q h => ?_⟩
  refine qa A Hi ρ s σ H r re _ (PO.bind h fun x s1 v Hi1 H1 _ e1 r1 d h1 => ?_)
  refine qb A Hi1 ρ s1 σ H1 r1 (re.mono e1.same (List.prefix_refl _)) _ (PO.bind h1 fun y s2 w Hi2 H2 _ e2 r2 d2 h2 => ?_)
  exact hg A Hi2 s2 H2 x y v w Q r2 (Dq.mono e2.same _ _ d) d2 h2

/-! ### arithmetic -/
def CDivB (_ j : Int) : Prop := j ≠ 0 ∧ j.natAbs.log2 < 9000
def CPowB (i j : Int) : Prop := 0 ≤ j ∧ (Builtin.Int.intBits i : Int) * j ≤ 2 ^ 27
def CMulB (i j : Int) : Prop := i.natAbs < 2 ^ 64 ∨ j.natAbs < 2 ^ 64 ∨ i.natAbs.log2 + j.natAbs.log2 < 1000000
instance {i j : Int} : Decidable (CDivB i j) := inferInstanceAs (Decidable (_ ∧ _))
instance {i j : Int} : Decidable (CPowB i j) := inferInstanceAs (Decidable (_ ∧ _))
instance {i j : Int} : Decidable (CMulB i j) := inferInstanceAs (Decidable (_ ∨ _))
theorem op_fdivB : OpR X (binaryOp .FloorDiv) (rI CDivB fun i j => .int (i.fdiv j)) := opI fun _ _ _ _ _ _ _ hc q => floordiv_int hc.1 q (.inl (PyProof.noPylong_of_log2 hc.2))
theorem op_powB : OpR X (binaryOp .Pow) (rI CPowB fun i j => .int (i ^ j.toNat)) := opI fun _ _ _ _ _ _ _ hc q => pow_int hc.1 hc.2 q
theorem op_mulB : OpR X (binaryOp .Mult) (rI CMulB fun i j => .int (i * j)) := opI fun i j _ _ _ _ _ hc q => mul_int q (by
  rcases hc with h | h | h
  · exact CMul.ok (.inl ⟨by omega, by omega⟩)
  · exact CMul.ok (.inr ⟨by omega, by omega⟩)
  · exact CMulW.ok h)
/-- one of two rules, by the values -/
def rOr (r r' : R2) : R2 := fun x y H Q => r x y H Q ∨ r' x y H Q
theorem op_or2 {f : Value → Value → Sem Value} {r r' : R2} (h : OpR X f r) (h' : OpR X f r') : OpR X f (rOr r r') := by
  intro pins s σ H x y v u Q I rx ry q
  rcases q with q | q
  · exact h pins s σ H x y v u Q I rx ry q
  · exact h' pins s σ H x y v u Q I rx ry q
theorem GB.or1 {r r' : R2} {g : PyData → PyData → Sto → Out PyData} {x y : PyData} {s : Sto} {A : List Addr} {Hi H : Hp} {v w : V} {Q : VK} (h : r v w H Q) : rOr r r' v w H Q := .inl h
def gAdd : PyData → PyData → Sto → Out PyData := fun x y s => match x, y with
  | .int i, .int j => .ok (.int (i + j)) s
  | .tuple a, .tuple b => if a.length + b.length ≤ 100000 then .ok (.tuple (a ++ b)) s else .bad
  | .list a, .list b => if a.length + b.length ≤ 100000 then .ok (.list (a ++ b)) s else .bad
  | _, _ => .bad
theorem gb_add : GB X XR E (rOr (rI0 fun i j => .int (i + j)) (rOr (rCatA X.K) rCat)) gAdd := by
  intro A Hi s H x y v w Q r dx dy h
  unfold gAdd at h
  split at h
  · cases (show v = .int _ from dx)
    cases (show w = .int _ from dy)
    exact .inl ⟨_, _, rfl, rfl, h.use r rfl⟩
  · obtain ⟨a, xs, rfl, h1, h2⟩ := dx
    obtain ⟨b, ys, rfl, h3, h4⟩ := dy
    split at h
    · rename_i hl
      have l1 := h2.length
      have l2 := h4.length
      refine .inr (.inl ⟨a, b, xs, ys, rfl, rfl, sqt_mono r.sub h1, sqt_mono r.sub h3, by rw [l1, l2]; exact Nat.le_trans hl (by decide), fun e => ?_, fun _ e => ?_, fun _ _ p hp => ?_⟩)
      · refine h.use r ⟨b, ys, rfl, h3, ?_⟩
        have := DqA.append h2 h4
        rw [e] at this
        exact this
      · refine h.use r ⟨a, xs, rfl, h1, ?_⟩
        have := DqA.append h2 h4
        rw [e, List.append_nil] at this
        exact this
      · refine h.out (Ext.fresh hp (r.fresh hp)) (r.new hp) ⟨p, _, rfl, SqT.of upd_same, ?_⟩
        exact DqA.mono (same_upd (r.fresh hp)) _ _ (DqA.append h2 h4)
    · exact h.elim
  · obtain ⟨a, xs, rfl, h1, h2⟩ := dx
    obtain ⟨b, ys, rfl, h3, h4⟩ := dy
    split at h
    · rename_i hl
      have l1 := h2.length
      have l2 := h4.length
      refine .inr (.inr ⟨a, b, xs, ys, rfl, rfl, r.sub _ _ h1, r.sub _ _ h3, by rw [l1, l2]; exact Nat.le_trans hl (by decide), fun p hp => ?_⟩)
      refine h.out (Ext.fresh hp (r.fresh hp)) (r.new hp) ⟨p, _, rfl, upd_same, ?_⟩
      exact DqA.mono (same_upd (r.fresh hp)) _ _ (DqA.append h2 h4)
    · exact h.elim
  · exact h.elim
def gI (C : Int → Int → Prop) [∀ i j, Decidable (C i j)] (f : Int → Int → Int) : PyData → PyData → Sto → Out PyData := fun x y s => match x, y with
  | .int i, .int j => if C i j then .ok (.int (f i j)) s else .bad
  | _, _ => .bad
theorem gb_i {C : Int → Int → Prop} [∀ i j, Decidable (C i j)] {f : Int → Int → Int} : GB X XR E (rI C fun i j => .int (f i j)) (gI C f) := by
  intro A Hi s H x y v w Q r dx dy h
  unfold gI at h
  split at h
  · cases (show v = .int _ from dx)
    cases (show w = .int _ from dy)
    split at h
    · rename_i hc
      exact ⟨_, _, rfl, rfl, hc, h.use r rfl⟩
    · exact h.elim
  · exact h.elim
def gSub : PyData → PyData → Sto → Out PyData := fun x y s => match x, y with
  | .int i, .int j => .ok (.int (i - j)) s
  | _, _ => .bad
theorem gb_sub : GB X XR E (rI0 fun i j => .int (i - j)) gSub := by
  intro A Hi s H x y v w Q r dx dy h
  unfold gSub at h
  split at h
  · cases (show v = .int _ from dx)
    cases (show w = .int _ from dy)
    exact ⟨_, _, rfl, rfl, h.use r rfl⟩
  · exact h.elim
theorem se_add {a b : Expr} {fa fb : ME} {pos : Pos} (ha : SE X XR E a fa) (hb : SE X XR E b fb) : SE X XR E (.BinOp a .Add b pos) (eBin gAdd fa fb) :=
  se_bin (fun _ _ p q => pe_op (op_or2 op_add (op_or2 op_catA op_cat)) p q) gb_add ha hb
theorem se_sub {a b : Expr} {fa fb : ME} {pos : Pos} (ha : SE X XR E a fa) (hb : SE X XR E b fb) : SE X XR E (.BinOp a .Sub b pos) (eBin gSub fa fb) := se_bin (fun _ _ p q => pe_op op_sub p q) gb_sub ha hb
abbrev gMul := gI CMulB fun i j => i * j
abbrev gMod := gI (fun _ j => 0 < j) fun i j => i % j
abbrev gFdiv := gI CDivB fun i j => i.fdiv j
abbrev gPow := gI CPowB fun i j => i ^ j.toNat
theorem se_mul {a b : Expr} {fa fb : ME} {pos : Pos} (ha : SE X XR E a fa) (hb : SE X XR E b fb) : SE X XR E (.BinOp a .Mult b pos) (eBin gMul fa fb) := se_bin (fun _ _ p q => pe_op op_mulB p q) gb_i ha hb
theorem se_mod {a b : Expr} {fa fb : ME} {pos : Pos} (ha : SE X XR E a fa) (hb : SE X XR E b fb) : SE X XR E (.BinOp a .Mod b pos) (eBin gMod fa fb) := se_bin (fun _ _ p q => pe_op op_mod p q) gb_i ha hb
theorem se_fdiv {a b : Expr} {fa fb : ME} {pos : Pos} (ha : SE X XR E a fa) (hb : SE X XR E b fb) : SE X XR E (.BinOp a .FloorDiv b pos) (eBin gFdiv fa fb) := se_bin (fun _ _ p q => pe_op op_fdivB p q) gb_i ha hb
theorem se_pow {a b : Expr} {fa fb : ME} {pos : Pos} (ha : SE X XR E a fa) (hb : SE X XR E b fb) : SE X XR E (.BinOp a .Pow b pos) (eBin gPow fa fb) := se_bin (fun _ _ p q => pe_op op_powB p q) gb_i ha hb
def gNeg : PyData → Sto → Out PyData := fun x s => match x with
  | .int i => .ok (.int (-i)) s
  | _ => .bad
theorem se_neg {a : Expr} {fa : ME} {pos : Pos} (ha : SE X XR E a fa) : SE X XR E (.UnaryOp .USub a pos) (eUn gNeg fa) :=
  se_un (fun _ p => pe_un un_neg p) (fun A Hi s H x v Q r d h => by
    unfold gNeg at h
    split at h
    · cases (show v = .int _ from d)
      exact ⟨_, rfl, h.use r rfl⟩
    · exact h.elim) ha

/-! ### comparisons -/
def gCmp (p : Int → Int → Bool) : PyData → PyData → Sto → Out PyData := fun x y s => match x, y with
  | .int i, .int j => .ok (.bool (p i j)) s
  | _, _ => .bad
theorem gb_cmp {p : Int → Int → Bool} : GB X XR E (rI0 fun i j => .bl (p i j)) (gCmp p) := by
  intro A Hi s H x y v w Q r dx dy h
  unfold gCmp at h
  split at h
  · cases (show v = .int _ from dx)
    cases (show w = .int _ from dy)
    exact ⟨_, _, rfl, rfl, h.use r rfl⟩
  · exact h.elim
abbrev gLt := gCmp fun i j => decide (i < j)
abbrev gLe := gCmp fun i j => decide (i ≤ j)
abbrev gGt := gCmp fun i j => decide (j < i)
abbrev gGe := gCmp fun i j => decide (j ≤ i)
theorem se_lt {a b : Expr} {fa fb : ME} {pos : Pos} (ha : SE X XR E a fa) (hb : SE X XR E b fb) : SE X XR E (.Compare a [.Lt] [b] pos) (eBin gLt fa fb) := se_bin (fun _ _ p q => pe_cmpR op_lt p q (nomark _)) gb_cmp ha hb
theorem se_le {a b : Expr} {fa fb : ME} {pos : Pos} (ha : SE X XR E a fa) (hb : SE X XR E b fb) : SE X XR E (.Compare a [.LtE] [b] pos) (eBin gLe fa fb) := se_bin (fun _ _ p q => pe_cmpR op_le p q (nomark _)) gb_cmp ha hb
theorem se_gt {a b : Expr} {fa fb : ME} {pos : Pos} (ha : SE X XR E a fa) (hb : SE X XR E b fb) : SE X XR E (.Compare a [.Gt] [b] pos) (eBin gGt fa fb) := se_bin (fun _ _ p q => pe_cmpR op_gt p q (nomark _)) gb_cmp ha hb
theorem se_ge {a b : Expr} {fa fb : ME} {pos : Pos} (ha : SE X XR E a fa) (hb : SE X XR E b fb) : SE X XR E (.Compare a [.GtE] [b] pos) (eBin gGe fa fb) := se_bin (fun _ _ p q => pe_cmpR op_ge p q (nomark _)) gb_cmp ha hb
def gEq (neg : Bool) : PyData → PyData → Sto → Out PyData := fun x y s => if SeqAt.shaped x = true ∧ SeqAt.shaped y = true then .ok (.bool (neg != PyData.eqv x y)) s else .bad
theorem gb_eq : GB X XR E (rEqD X.K) (gEq false) := fun A Hi s H x y v w Q r dx dy h => by
  unfold gEq at h
  split at h
  · rename_i c
    refine ⟨x, y, Dq.dp x v (SeqAt.canLay_of_shaped c.1) (Dq.mono r.sub _ _ dx), Dq.dp y w (SeqAt.canLay_of_shaped c.2) (Dq.mono r.sub _ _ dy), c.1, c.2, ?_⟩
    refine h.use r ?_
    show _ = _
    simp
  · exact h.elim
theorem gb_ne : GB X XR E (rNeD X.K) (gEq true) := fun A Hi s H x y v w Q r dx dy h => by
  unfold gEq at h
  split at h
  · rename_i c
    refine ⟨x, y, Dq.dp x v (SeqAt.canLay_of_shaped c.1) (Dq.mono r.sub _ _ dx), Dq.dp y w (SeqAt.canLay_of_shaped c.2) (Dq.mono r.sub _ _ dy), c.1, c.2, ?_⟩
    refine h.use r ?_
    show _ = _
    simp
  · exact h.elim
theorem se_eq {a b : Expr} {fa fb : ME} {pos : Pos} (hu : X.A.units + 64 < cLine) (ha : SE X XR E a fa) (hb : SE X XR E b fb) : SE X XR E (.Compare a [.Eq] [b] pos) (eBin (gEq false) fa fb) := se_bin (fun _ _ p q => pe_cmpR (op_eqD hu) p q (nomark _)) gb_eq ha hb
theorem se_ne {a b : Expr} {fa fb : ME} {pos : Pos} (hu : X.A.units + 64 < cLine) (ha : SE X XR E a fa) (hb : SE X XR E b fb) : SE X XR E (.Compare a [.NotEq] [b] pos) (eBin (gEq true) fa fb) := se_bin (fun _ _ p q => pe_cmpR (op_neD hu) p q (nomark _)) gb_ne ha hb
/-- is, is not: of bools, and of anything with None -/
def gIs (neg : Bool) : PyData → PyData → Sto → Out PyData := fun x y s => match x, y with
  | .bool a, .bool b => .ok (.bool (neg != decide (a = b))) s
  | .int _, .bool _ => .ok (.bool (neg != false)) s
  | .none, .none => .ok (.bool (neg != true)) s
  | _, .none => .ok (.bool (neg != false)) s
  | _, _ => .bad
theorem dq_non {K : PySem.W.Frag} {Hi : Hp} {x : PyData} {v : V} (d : Dq K Hi x v) : decide (v = .non) = (match x with | .none => true | _ => false) := by
  cases x <;> first
    | (cases (show v = _ from d); rfl)
    | (obtain ⟨a, xs, rfl, _, _⟩ := d; rfl)
    | (rename_i kvs; cases kvs <;> first | (obtain ⟨a, rfl, _⟩ := d; rfl) | (rcases d with ⟨a, _, _, _, _, rfl, _⟩ | ⟨a, _, _, _, _, rfl, _⟩ | ⟨a, _, _, rfl, _⟩ <;> rfl))
def rIB (neg : Bool) : R2 := fun x y H Q => ∃ (i : Int) (b : Bool), x = .int i ∧ y = .bl b ∧ Q (.bl neg) H
theorem op_isIB : OpR X (compareOp .Is) (rIB false) := by
  intro pins s σ H x y v u Q I rx ry h
  obtain ⟨i, b, rfl, rfl, q⟩ := h
  obtain ⟨t, rfl⟩ := rx
  cases (show u = Value.bool b from ry)
  exact wpAny_is_other rfl (fun z => by cases z) ⟨.bl false, H, I, rfl, q⟩
theorem op_notIB : OpR X (compareOp .IsNot) (rIB true) := by
  intro pins s σ H x y v u Q I rx ry h
  obtain ⟨i, b, rfl, rfl, q⟩ := h
  obtain ⟨t, rfl⟩ := rx
  cases (show u = Value.bool b from ry)
  exact wpAny_isNot_other rfl (fun z => by cases z) ⟨.bl true, H, I, rfl, q⟩
theorem gb_is : GB X XR E (rOr (rOr rIsB (rIB false)) (fun x y H Q => y = .non ∧ Q (.bl (decide (x = .non))) H)) (gIs false) := fun A Hi s H x y v w Q r dx dy h => by
    unfold gIs at h
    split at h
    · cases (show v = _ from dx)
      cases (show w = _ from dy)
      refine .inl (.inl ⟨_, _, rfl, rfl, h.use r ?_⟩)
      show _ = _
      simp
    · cases (show v = _ from dx)
      cases (show w = _ from dy)
      exact .inl (.inr ⟨_, _, rfl, rfl, h.use r rfl⟩)
    · cases (show v = _ from dx)
      cases (show w = _ from dy)
      exact .inr ⟨rfl, h.use r rfl⟩
    · cases (show w = _ from dy)
      refine .inr ⟨rfl, h.use r ?_⟩
      rw [dq_non dx]
      split
      · contradiction
      · rfl
    · exact h.elim
theorem gb_isnot : GB X XR E (rOr (rOr rNotB (rIB true)) (fun x y H Q => y = .non ∧ Q (.bl (!decide (x = .non))) H)) (gIs true) := fun A Hi s H x y v w Q r dx dy h => by
    unfold gIs at h
    split at h
    · cases (show v = _ from dx)
      cases (show w = _ from dy)
      refine .inl (.inl ⟨_, _, rfl, rfl, h.use r ?_⟩)
      show _ = _
      simp
    · cases (show v = _ from dx)
      cases (show w = _ from dy)
      exact .inl (.inr ⟨_, _, rfl, rfl, h.use r rfl⟩)
    · cases (show v = _ from dx)
      cases (show w = _ from dy)
      exact .inr ⟨rfl, h.use r rfl⟩
    · cases (show w = _ from dy)
      refine .inr ⟨rfl, h.use r ?_⟩
      rw [dq_non dx]
      split
      · contradiction
      · rfl
    · exact h.elim
theorem se_is {a b : Expr} {fa fb : ME} {pos : Pos} (ha : SE X XR E a fa) (hb : SE X XR E b fb) : SE X XR E (.Compare a [.Is] [b] pos) (eBin (gIs false) fa fb) := se_bin (fun _ _ p q => pe_cmpR (op_or2 (op_or2 op_isBl op_isIB) op_isN) p q (nomark _)) gb_is ha hb
theorem se_isnot {a b : Expr} {fa fb : ME} {pos : Pos} (ha : SE X XR E a fa) (hb : SE X XR E b fb) : SE X XR E (.Compare a [.IsNot] [b] pos) (eBin (gIs true) fa fb) := se_bin (fun _ _ p q => pe_cmpR (op_or2 (op_or2 op_notBl op_notIB) op_notN) p q (nomark _)) gb_isnot ha hb
end
end Mir

namespace Mir
open PySem PySem.Spec PyProof.Rows L2
variable [Tb]
section
variable {X : Cx} {XR : XRel} {E : XK}
theorem pfx {A : List Addr} : A <+: A := List.prefix_refl _
/-! ### and, or, not, if .. else -/
def eAnd (fa fb : ME) : ME := fun ρ s => (fa ρ s).bind fun x s => match x with
  | .bool true => fb ρ s
  | .bool false => .ok (.bool false) s
  | _ => .bad
def eOr (fa fb : ME) : ME := fun ρ s => (fa ρ s).bind fun x s => match x with
  | .bool false => fb ρ s
  | .bool true => .ok (.bool true) s
  | _ => .bad
def eNot (fa : ME) : ME := fun ρ s => (fa ρ s).bind fun x s => match x with
  | .bool b => .ok (.bool (!b)) s
  | _ => .bad
variable {a b e : Expr} {rest : List Expr} {fa fb : ME} {pos : Pos}
theorem se_one {op} (h : SE X XR E a fa) : SE X XR E (.BoolOp op [a] pos) fa := by
  obtain ⟨t, p, q⟩ := h
  exact ⟨t, pe_one p, q⟩
theorem se_and (ha : SE X XR E a fa) (hb : SE X XR E (.BoolOp .And (b :: rest) pos) fb) : SE X XR E (.BoolOp .And (a :: b :: rest) pos) (eAnd fa fb) := by
  obtain ⟨ta, pa, qa⟩ := ha
  obtain ⟨tb, pb, qb⟩ := hb
  refine ⟨_, pe_and pa pb, fun A Hi ρ s σ H r re Q h => qa A Hi ρ s σ H r re _ (PO.bind h fun x s1 v Hi1 H1 _ e1 r1 d h1 => ?_)⟩
  split at h1
  · cases (show v = _ from d)
    exact ⟨true, rfl, iteT (qb A Hi1 ρ s1 σ H1 r1 (re.mono e1.same pfx) Q h1)⟩
  · cases (show v = _ from d)
    exact ⟨false, rfl, iteF (h1.use r1 rfl)⟩
  · exact h1.elim
theorem se_or (ha : SE X XR E a fa) (hb : SE X XR E (.BoolOp .Or (b :: rest) pos) fb) : SE X XR E (.BoolOp .Or (a :: b :: rest) pos) (eOr fa fb) := by
  obtain ⟨ta, pa, qa⟩ := ha
  obtain ⟨tb, pb, qb⟩ := hb
  refine ⟨_, pe_or pa pb, fun A Hi ρ s σ H r re Q h => qa A Hi ρ s σ H r re _ (PO.bind h fun x s1 v Hi1 H1 _ e1 r1 d h1 => ?_)⟩
  split at h1
  · cases (show v = _ from d)
    exact ⟨false, rfl, iteF (qb A Hi1 ρ s1 σ H1 r1 (re.mono e1.same pfx) Q h1)⟩
  · cases (show v = _ from d)
    exact ⟨true, rfl, iteT (h1.use r1 rfl)⟩
  · exact h1.elim
theorem se_not (ha : SE X XR E a fa) : SE X XR E (.UnaryOp .Not a pos) (eNot fa) := by
  obtain ⟨ta, pa, qa⟩ := ha
  refine ⟨_, pe_not pa, fun A Hi ρ s σ H r re Q h => qa A Hi ρ s σ H r re _ (PO.bind h fun x s1 v Hi1 H1 _ e1 r1 d h1 => ?_)⟩
  split at h1
  · cases (show v = _ from d)
    exact ⟨_, rfl, h1.use r1 rfl⟩
  · exact h1.elim
/-! ### tests -/
def mE (fa : ME) : MT := fun ρ s => (fa ρ s).bind fun x s => match x with
  | .bool b => .ok b s
  | _ => .bad
def mNot (fa : MT) : MT := fun ρ s => (fa ρ s).bind fun b s => .ok (!b) s
def mAnd (fa fb : MT) : MT := fun ρ s => (fa ρ s).bind fun b s => if b = true then fb ρ s else .ok false s
def mOr (fa fb : MT) : MT := fun ρ s => (fa ρ s).bind fun b s => if b = true then .ok true s else fb ρ s
variable {ma mb : MT}
theorem st_val (h : SE X XR E e fa) (he : ∀ whole, isTrue e X.env whole = (do let v ← whole; standAt e.pos; holding [v] (truthy v)) := by intro _; rfl) : ST X XR E e (mE fa) := by
  obtain ⟨ta, pa, qa⟩ := h
  refine ⟨_, pt_val pa he, fun A Hi ρ s σ H r re Q h => qa A Hi ρ s σ H r re _ (PO.bind h fun x s1 v Hi1 H1 _ e1 r1 d h1 => ?_)⟩
  split at h1
  · cases (show v = _ from d)
    exact ⟨_, rfl, h1.use r1 rfl⟩
  · exact h1.elim
theorem st_bin {r : R2} {g : PyData → PyData → Sto → Out PyData} (he : ∀ ta tb, PE X a ta → PE X b tb → PT X e (tTest (tOp r ta tb))) (hg : GB X XR E r g) (ha : SE X XR E a fa) (hb : SE X XR E b fb) : ST X XR E e (mE (eBin g fa fb)) := by
  obtain ⟨ta, pa, qa⟩ := ha
  obtain ⟨tb, pb, qb⟩ := hb
  refine ⟨_, he _ _ pa pb, fun A Hi ρ s σ H r re Q h => ?_⟩
  have h' : PO X.K A Hi H XR E RB Q ((fa ρ s).bind fun x s1 => (fb ρ s1).bind fun y s2 => (g x y s2).bind fun z s => match z with
    | .bool b => .ok b s
    | _ => .bad) := by
    unfold mE eBin at h
    cases q1 : fa ρ s with
    | ok x s1 =>
      rw [q1] at h
      cases q2 : fb ρ s1 with
      | ok y s2 => simp only [Out.bind, q2] at h ⊢; exact h
      | exc y s2 => simp only [Out.bind, q2] at h ⊢; exact h
      | bad => simp only [Out.bind, q2] at h ⊢; exact h
    | exc x s1 => rw [q1] at h; exact h
    | bad => rw [q1] at h; exact h
  refine qa A Hi ρ s σ H r re _ (PO.bind h' fun x s1 v Hi1 H1 _ e1 r1 d h1 => ?_)
  refine qb A Hi1 ρ s1 σ H1 r1 (re.mono e1.same pfx) _ (PO.bind h1 fun y s2 w Hi2 H2 _ e2 r2 d2 h2 => ?_)
  refine hg A Hi2 s2 H2 x y v w _ r2 (Dq.mono e2.same _ _ d) d2 (PO.bind h2 fun z s3 u Hi3 H3 _ e3 r3 d3 h3 => ?_)
  split at h3
  · cases (show u = _ from d3)
    exact ⟨_, rfl, h3.use r3 rfl⟩
  · exact h3.elim
theorem st_lt (ha : SE X XR E a fa) (hb : SE X XR E b fb) : ST X XR E (.Compare a [.Lt] [b] pos) (mE (eBin gLt fa fb)) := st_bin (fun _ _ p q => pt_cmpR op_lt p q (nomark _)) gb_cmp ha hb
theorem st_le (ha : SE X XR E a fa) (hb : SE X XR E b fb) : ST X XR E (.Compare a [.LtE] [b] pos) (mE (eBin gLe fa fb)) := st_bin (fun _ _ p q => pt_cmpR op_le p q (nomark _)) gb_cmp ha hb
theorem st_gt (ha : SE X XR E a fa) (hb : SE X XR E b fb) : ST X XR E (.Compare a [.Gt] [b] pos) (mE (eBin gGt fa fb)) := st_bin (fun _ _ p q => pt_cmpR op_gt p q (nomark _)) gb_cmp ha hb
theorem st_ge (ha : SE X XR E a fa) (hb : SE X XR E b fb) : ST X XR E (.Compare a [.GtE] [b] pos) (mE (eBin gGe fa fb)) := st_bin (fun _ _ p q => pt_cmpR op_ge p q (nomark _)) gb_cmp ha hb
theorem st_eq (hu : X.A.units + 64 < cLine) (ha : SE X XR E a fa) (hb : SE X XR E b fb) : ST X XR E (.Compare a [.Eq] [b] pos) (mE (eBin (gEq false) fa fb)) := st_bin (fun _ _ p q => pt_cmpR (op_eqD hu) p q (nomark _)) gb_eq ha hb
theorem st_ne (hu : X.A.units + 64 < cLine) (ha : SE X XR E a fa) (hb : SE X XR E b fb) : ST X XR E (.Compare a [.NotEq] [b] pos) (mE (eBin (gEq true) fa fb)) := st_bin (fun _ _ p q => pt_cmpR (op_neD hu) p q (nomark _)) gb_ne ha hb
theorem st_is (ha : SE X XR E a fa) (hb : SE X XR E b fb) : ST X XR E (.Compare a [.Is] [b] pos) (mE (eBin (gIs false) fa fb)) := st_bin (fun _ _ p q => pt_cmpR (op_or2 (op_or2 op_isBl op_isIB) op_isN) p q (nomark _)) gb_is ha hb
theorem st_isnot (ha : SE X XR E a fa) (hb : SE X XR E b fb) : ST X XR E (.Compare a [.IsNot] [b] pos) (mE (eBin (gIs true) fa fb)) := st_bin (fun _ _ p q => pt_cmpR (op_or2 (op_or2 op_notBl op_notIB) op_notN) p q (nomark _)) gb_isnot ha hb
theorem st_not (h : ST X XR E a ma) : ST X XR E (.UnaryOp .Not a pos) (mNot ma) := by
  obtain ⟨ta, pa, qa⟩ := h
  exact ⟨_, pt_not pa, fun A Hi ρ s σ H r re Q h => qa A Hi ρ s σ H r re _ (PO.bind h fun x s1 v Hi1 H1 _ e1 r1 d h1 => by
    cases d
    exact h1.use r1 rfl)⟩
theorem st_w (h : SW X XR E e ma) : ST X XR E e ma := by
  obtain ⟨ta, pa, qa⟩ := h
  exact ⟨_, pa.pt, qa⟩
theorem sw_and1 (h : ST X XR E a ma) : SW X XR E (.BoolOp .And [a] pos) ma := by
  obtain ⟨ta, pa, qa⟩ := h
  exact ⟨_, pw_and1 pa, qa⟩
theorem sw_or1 (h : ST X XR E a ma) : SW X XR E (.BoolOp .Or [a] pos) ma := by
  obtain ⟨ta, pa, qa⟩ := h
  exact ⟨_, pw_or1 pa, qa⟩
theorem sw_and (h : ST X XR E a ma) (g : SW X XR E (.BoolOp .And (b :: rest) pos) mb) : SW X XR E (.BoolOp .And (a :: b :: rest) pos) (mAnd ma mb) := by
  obtain ⟨ta, pa, qa⟩ := h
  obtain ⟨tb, pb, qb⟩ := g
  refine ⟨_, pw_and pa pb, fun A Hi ρ s σ H r re Q h => qa A Hi ρ s σ H r re _ (PO.bind h fun x s1 v Hi1 H1 _ e1 r1 d h1 => ?_)⟩
  cases d
  cases x with
  | true => exact iteT (qb A Hi1 ρ s1 σ H1 r1 (re.mono e1.same pfx) Q h1)
  | false => exact iteF (PO.use (R := RB) (x := false) h1 r1 rfl)
theorem sw_or (h : ST X XR E a ma) (g : SW X XR E (.BoolOp .Or (b :: rest) pos) mb) : SW X XR E (.BoolOp .Or (a :: b :: rest) pos) (mOr ma mb) := by
  obtain ⟨ta, pa, qa⟩ := h
  obtain ⟨tb, pb, qb⟩ := g
  refine ⟨_, pw_or pa pb, fun A Hi ρ s σ H r re Q h => qa A Hi ρ s σ H r re _ (PO.bind h fun x s1 v Hi1 H1 _ e1 r1 d h1 => ?_)⟩
  cases d
  cases x with
  | false => exact iteF (qb A Hi1 ρ s1 σ H1 r1 (re.mono e1.same pfx) Q h1)
  | true => exact iteT (PO.use (R := RB) (x := true) h1 r1 rfl)
def eIf (m : MT) (fa fb : ME) : ME := fun ρ s => (m ρ s).bind fun b s => if b = true then fa ρ s else fb ρ s
theorem se_if {c : Expr} (hc : ST X XR E c ma) (ha : SE X XR E a fa) (hb : SE X XR E b fb) : SE X XR E (.IfExp c a b pos) (eIf ma fa fb) := by
  obtain ⟨tc, pc, qc⟩ := hc
  obtain ⟨ta, pa, qa⟩ := ha
  obtain ⟨tb, pb, qb⟩ := hb
  refine ⟨_, pe_ifExp pc pa pb, fun A Hi ρ s σ H r re Q h => qc A Hi ρ s σ H r re _ (PO.bind h fun x s1 v Hi1 H1 _ e1 r1 d h1 => ?_)⟩
  cases d
  cases x with
  | true => exact iteT (qa A Hi1 ρ s1 σ H1 r1 (re.mono e1.same pfx) Q h1)
  | false => exact iteF (qb A Hi1 ρ s1 σ H1 r1 (re.mono e1.same pfx) Q h1)

/-! ### argument lists -/
def aNil : MA := fun _ s => .ok [] s
def aCons (fl : ML) (fr : MA) : MA := fun ρ s => (fl ρ s).bind fun x s => (fr ρ s).bind fun r s => .ok (x :: r) s
def dNil : MD := fun _ s => .ok [] s
def dCons (fa : ME) (fr : MD) : MD := fun ρ s => (fa ρ s).bind fun x s => (fr ρ s).bind fun r s => .ok (x :: r) s
theorem sa_nil : SA X XR E [] aNil := ⟨_, pa_nil, fun _ _ _ _ _ _ r _ _ h => PO.use (R := fun Hi _ => RL X.K _ Hi) (x := []) h r rfl⟩
theorem sd_nil : SD X XR E [] dNil := ⟨_, pa_nil, fun _ _ _ _ _ _ r _ _ h => PO.use (R := fun Hi _ => DqA X.K Hi) (x := []) h r rfl⟩
theorem sa_cons {fl : ML} {fr : MA} {es : List Expr} (ha : SL X XR E a fl) (hr : SA X XR E es fr) (hst : starEach (a :: es) X.env = (false, eval a X.env) :: starEach es X.env := by rfl) : SA X XR E (a :: es) (aCons fl fr) := by
  obtain ⟨ta, pa, qa⟩ := ha
  obtain ⟨tr, pr, qr⟩ := hr
  refine ⟨_, pa_cons pa pr hst, fun A Hi ρ s σ H r re Q h => ?_⟩
  refine qa A Hi ρ s σ H r re _ (PO.bind h fun x s1 v Hi1 H1 _ e1 r1 d h1 => ?_)
  refine qr A Hi1 ρ s1 σ H1 r1 (re.mono e1.same pfx) _ (PO.bind h1 fun y s2 w Hi2 H2 _ e2 r2 d2 h2 => ?_)
  exact PO.use (R := fun Hi _ => RL X.K A Hi) (x := x :: y) h2 r2 ⟨v, w, rfl, RSl.mono e2.same pfx d, d2⟩
theorem sd_cons {fr : MD} {es : List Expr} (ha : SE X XR E a fa) (hr : SD X XR E es fr) (hst : starEach (a :: es) X.env = (false, eval a X.env) :: starEach es X.env := by rfl) : SD X XR E (a :: es) (dCons fa fr) := by
  obtain ⟨ta, pa, qa⟩ := ha
  obtain ⟨tr, pr, qr⟩ := hr
  refine ⟨_, pa_cons pa pr hst, fun A Hi ρ s σ H r re Q h => ?_⟩
  refine qa A Hi ρ s σ H r re _ (PO.bind h fun x s1 v Hi1 H1 _ e1 r1 d h1 => ?_)
  refine qr A Hi1 ρ s1 σ H1 r1 (re.mono e1.same pfx) _ (PO.bind h1 fun y s2 w Hi2 H2 _ e2 r2 d2 h2 => ?_)
  exact PO.use (R := fun Hi _ => DqA X.K Hi) (x := x :: y) h2 r2 ⟨v, w, rfl, Dq.mono e2.same _ _ d, d2⟩

/-! ### displays -/
def eTup (fd : MD) : ME := fun ρ s => (fd ρ s).bind fun ds s => if ds.length ≤ 100000 then .ok (.tuple ds) s else .bad
def cLst (fd : MD) : MD := fun ρ s => (fd ρ s).bind fun ds s => if ds.length ≤ 100000 then .ok ds s else .bad
theorem sz5 {n : Nat} (h : n ≤ 100000) : n ≤ sizeLine := Nat.le_trans h (by decide)
theorem se_tup {es : List Expr} {fd : MD} {x1} (h : SD X XR E es fd) : SE X XR E (.Tuple es x1 pos) (eTup fd) := by
  obtain ⟨t, p, q⟩ := h
  refine ⟨_, pe_tup p, fun A Hi ρ s σ H r re Q h => q A Hi ρ s σ H r re _ (PO.bind h fun ds s1 vs Hi1 H1 _ e1 r1 d h1 => ?_)⟩
  split at h1
  · rename_i hl
    refine ⟨by rw [d.length]; exact sz5 hl, fun p hp => ?_⟩
    exact h1.out (Ext.fresh hp (r1.fresh hp)) (r1.new hp) ⟨p, vs, rfl, SqT.of upd_same, DqA.mono (same_upd (r1.fresh hp)) _ _ d⟩
  · exact h1.elim
theorem sc_lst {es : List Expr} {fd : MD} (h : SD X XR E es fd) : SC X XR E (.List es pos) (cLst fd) := by
  obtain ⟨t, p, q⟩ := h
  refine ⟨_, pe_lst p, fun A Hi ρ s σ H r re Q h => q A Hi ρ s σ H r re _ (PO.bind h fun ds s1 vs Hi1 H1 _ e1 r1 d h1 => ?_)⟩
  split at h1
  · rename_i hl
    refine ⟨by rw [d.length]; exact sz5 hl, fun p hp => ?_⟩
    exact PO.out (R := RF X.K A H) (x := ds) h1 (Ext.fresh1 hp) (r1.new1 hp) ⟨p, vs, rfl, upd_same, r1.fresh hp, e1.there p hp, r1.notin hp, d⟩
  · exact h1.elim
/-- a list that nobody holds, held for ever -/
def eFr (fd : MD) : ME := fun ρ s => (fd ρ s).bind fun ds s => .ok (.list ds) s
theorem se_sc {fd : MD} (h : SC X XR E e fd) : SE X XR E e (eFr fd) := by
  obtain ⟨t, p, q⟩ := h
  refine ⟨_, p, fun A Hi ρ s σ H r re Q h => ?_⟩
  refine q A Hi ρ s σ H r re Q ?_
  unfold eFr at h
  cases hf : fd ρ s with
  | ok ds s1 =>
    rw [hf] at h
    intro v Hi' H' e1 r1 d
    obtain ⟨a, xs, rfl, h1, h2, hn1, h3, h4⟩ := d
    refine h (.ref a) (upd Hi' a (.lst xs)) H' ⟨e1.same.trans (same_upd h2), e1.keep, e1.there, fun b hb hb2 => ?_⟩ (r1.own h1 h2 h3) ⟨a, xs, rfl, upd_same, DqA.mono (same_upd h2) _ _ h4⟩
    have hne : b ≠ a := fun z => by
      subst z
      exact hb2 hn1
    rw [upd_ne hne]
    exact e1.new b hb hb2
  | exc x s1 =>
    rw [hf] at h
    exact h
  | bad =>
    rw [hf] at h
    exact h
end
end Mir

namespace Mir
open PySem PySem.Spec PyProof.Rows L2
variable [Tb]
section
variable {X : Cx} {XR : XRel} {E : XK} {a b e : Expr} {fa fb : ME} {fl : ML} {pos p : Pos}
/-! ### what is read item by item: tuples, lists, the store's lists, the script -/
def seqOf : Sl → Sto → Option (Bool × List PyData)
  | .d (.tuple xs), _ => some (true, xs)
  | .d (.list xs), _ => some (false, xs)
  | .c n, s => s[n]?.map fun xs => (false, xs)
  | .s ns, _ => some (false, ns.map .int)
  | _, _ => none
theorem dqa_ints {K : PySem.W.Frag} {Hi : Hp} : ∀ ns : List Int, DqA K Hi (ns.map .int) (ns.map V.int)
  | [] => rfl
  | _ :: ns => ⟨_, _, rfl, rfl, dqa_ints ns⟩
theorem seq_rel {K : PySem.W.Frag} {A : List Addr} {Hi H : Hp} {s : Sto} {b : Sl} {v : V} {t : Bool} {ds : List PyData} (r : RS K A Hi s H) (d : RSl K A Hi b v) (e : seqOf b s = some (t, ds)) :
    ∃ a xs, v = .ref a ∧ DqA K Hi ds xs ∧ ((t = true ∧ SqT K H a xs) ∨ (t = false ∧ SqL K H a xs)) := by
  cases b with
  | d x =>
    cases x with
    | tuple ys =>
      have e' : (true, ys) = (t, ds) := Option.some.inj e
      cases e'
      obtain ⟨a, xs, rfl, h1, h2⟩ := d
      exact ⟨a, xs, rfl, h2, .inl ⟨rfl, sqt_mono r.sub h1⟩⟩
    | list ys =>
      have e' : (false, ys) = (t, ds) := Option.some.inj e
      cases e'
      obtain ⟨a, xs, rfl, h1, h2⟩ := d
      exact ⟨a, xs, rfl, h2, .inr ⟨rfl, SqL.of (r.sub _ _ h1)⟩⟩
    | _ => cases e
  | c n =>
    have e : s[n]?.map (fun xs => (false, xs)) = some (t, ds) := e
    cases hs : s[n]? with
    | none => rw [hs] at e; cases e
    | some ys =>
      rw [hs] at e
      have e' : (false, ys) = (t, ds) := Option.some.inj e
      cases e'
      obtain ⟨a, h1, rfl⟩ := d
      obtain ⟨xs, h2, h3⟩ := r.cel n a _ h1 hs
      exact ⟨a, xs, rfl, h3, .inr ⟨rfl, SqL.of h2⟩⟩
  | s ns =>
    have e' : (false, ns.map .int) = (t, ds) := Option.some.inj e
    cases e'
    obtain ⟨a, rfl, h⟩ := d
    exact ⟨a, _, rfl, dqa_ints ns, .inr ⟨rfl, sql_mono r.sub h⟩⟩
  | f _ => cases e
  | t _ => cases e
theorem atI_dq {K : PySem.W.Frag} {Hi : Hp} {ds : List PyData} {xs : List V} {i : Int} {d : PyData} (h : DqA K Hi ds xs) (e : atI ds i = some d) : ∃ v, atI xs i = some v ∧ Dq K Hi d v := by
  unfold atI at e ⊢
  rw [h.length]
  cases q : ixN ds.length i with
  | none => rw [q] at e; cases e
  | some j =>
    rw [q] at e
    exact DqA.get h e
def gIx (b : Sl) (y : PyData) (s : Sto) : Out PyData := match y with
  | .int i => (match seqOf b s with
    | some (_, ds) => (match atI ds i with
      | some d => .ok d s
      | none => .bad)
    | none => .bad)
  | _ => .bad
def eIx (fl : ML) (fi : ME) : ME := fun ρ s => (fl ρ s).bind fun b s => (fi ρ s).bind fun y s => gIx b y s
theorem se_ix (ha : SL X XR E a fl) (hb : SE X XR E b fb) (hs : PlainIx b) : SE X XR E (.Subscript a b pos) (eIx fl fb) := by
  obtain ⟨ta, pa, qa⟩ := ha
  obtain ⟨tb, pb, qb⟩ := hb
  refine ⟨_, pe_ix (ix_list.or ix_tup) pa pb hs, fun A Hi ρ s σ H r re Q h => ?_⟩
  refine qa A Hi ρ s σ H r re _ (PO.bind h fun x s1 v Hi1 H1 _ e1 r1 d h1 => ?_)
  refine qb A Hi1 ρ s1 σ H1 r1 (re.mono e1.same pfx) _ (PO.bind h1 fun y s2 w Hi2 H2 _ e2 r2 d2 h2 => ?_)
  unfold gIx at h2
  split at h2
  · cases (show w = _ from d2)
    split at h2
    · rename_i t ds hq
      split at h2
      · rename_i z hz
        obtain ⟨l, xs, rfl, h3, h4⟩ := seq_rel r2 (RSl.mono e2.same pfx d) hq
        obtain ⟨u, h5, h6⟩ := atI_dq h3 hz
        rcases h4 with ⟨_, h4⟩ | ⟨_, h4⟩
        · exact .inr ⟨l, xs, _, u, rfl, rfl, h4, h5, h2.use r2 h6⟩
        · exact .inl ⟨l, xs, _, u, rfl, rfl, h4, h5, h2.use r2 h6⟩
      · exact h2.elim
    · exact h2.elim
  · exact h2.elim
/-! ### built-in functions of one thing -/
def eSl (g : Sl → Sto → Out PyData) (fl : ML) : ME := fun ρ s => (fl ρ s).bind g
def GS (X : Cx) (XR : XRel) (E : XK) (r : List V → Hp → VK → Prop) (g : Sl → Sto → Out PyData) : Prop := ∀ A Hi s H b v Q, RS X.K A Hi s H → RSl X.K A Hi b v → PO X.K A Hi H XR E (RD X.K) Q (g b s) → r [v] H Q
theorem se_sl {r : List V → Hp → VK → Prop} {g : Sl → Sto → Out PyData} (he : ∀ ta, PE X a ta → PE X e (tCB r (tCons ta tNil))) (hg : GS X XR E r g) (ha : SL X XR E a fl) : SE X XR E e (eSl g fl) := by
  obtain ⟨ta, pa, qa⟩ := ha
  exact ⟨_, he _ pa, fun A Hi ρ s σ H r re Q h => qa A Hi ρ s σ H r re _ (PO.bind h fun x s1 v Hi1 H1 _ _ r1 d h1 => hg A Hi1 s1 H1 x v Q r1 d h1)⟩
def gLen (b : Sl) (s : Sto) : Out PyData := match seqOf b s with
  | some (_, ds) => .ok (.int ds.length) s
  | none => .bad
theorem se_len (hg : Gl X "len") (hm : X.mg "len" = none) (ha : SL X XR E a fl) (h1 : starEach [a] X.env = (false, eval a X.env) :: starEach [] X.env := by rfl) : SE X XR E (.Call (.Name "len" p) [a] [] pos) (eSl gLen fl) :=
  se_sl (fun ta q => pe_callB call_len_seq hg hm PySem.boot_len (pa_cons q pa_nil h1) (by decide) (by decide) h1) (fun A Hi s H b v Q r d h => by
    unfold gLen at h
    split at h
    · rename_i t ds hq
      obtain ⟨l, xs, rfl, h3, h4⟩ := seq_rel r d hq
      refine ⟨l, xs, rfl, ?_, ?_⟩
      · rcases h4 with ⟨_, h4⟩ | ⟨_, h4⟩
        · exact .inr h4
        · exact .inl h4
      · rw [h3.length]
        exact h.use r rfl
    · exact h.elim) ha
def gTuple (b : Sl) (s : Sto) : Out PyData := match seqOf b s with
  | some (_, ds) => .ok (.tuple ds) s
  | none => .bad
theorem se_tuple (hg : Gl X "tuple") (hm : X.mg "tuple" = none) (ha : SL X XR E a fl) (h1 : starEach [a] X.env = (false, eval a X.env) :: starEach [] X.env := by rfl) : SE X XR E (.Call (.Name "tuple" p) [a] [] pos) (eSl gTuple fl) :=
  se_sl (fun ta q => pe_callTy call_tuple_of hg hm (by decide +kernel) (pa_cons q pa_nil h1) (by decide) (by decide) h1) (fun A Hi s H b v Q r d h => by
    unfold gTuple at h
    split at h
    · rename_i t ds hq
      cases b with
      | d x =>
        cases x with
        | tuple ys =>
          have e' : (true, ys) = (t, ds) := Option.some.inj hq
          cases e'
          obtain ⟨a, xs, rfl, h1, h2⟩ := d
          exact ⟨a, xs, rfl, .inr ⟨sqt_mono r.sub h1, h.use r ⟨a, xs, rfl, h1, h2⟩⟩⟩
        | list ys =>
          obtain ⟨l, xs, rfl, h3, h4⟩ := seq_rel r d hq
          have e' : (false, ys) = (t, ds) := Option.some.inj hq
          cases e'
          rcases h4 with ⟨q, h4⟩ | ⟨_, h4⟩
          · cases q
          · exact ⟨l, xs, rfl, .inl ⟨h4, fun p hp => h.out (Ext.fresh hp (r.fresh hp)) (r.new hp) ⟨p, xs, rfl, SqT.of upd_same, DqA.mono (same_upd (r.fresh hp)) _ _ h3⟩⟩⟩
        | _ => cases hq
      | c n =>
        obtain ⟨l, xs, rfl, h3, h4⟩ := seq_rel r d hq
        rcases h4 with ⟨q, h4⟩ | ⟨_, h4⟩
        · have hq : s[n]?.map (fun xs => (false, xs)) = some (t, ds) := hq
          cases hs : s[n]? with
          | none => rw [hs] at hq; cases hq
          | some ys => rw [hs] at hq; cases hq; cases q
        · exact ⟨l, xs, rfl, .inl ⟨h4, fun p hp => h.out (Ext.fresh hp (r.fresh hp)) (r.new hp) ⟨p, xs, rfl, SqT.of upd_same, DqA.mono (same_upd (r.fresh hp)) _ _ h3⟩⟩⟩
      | s ns =>
        obtain ⟨l, xs, rfl, h3, h4⟩ := seq_rel r d hq
        rcases h4 with ⟨q, h4⟩ | ⟨_, h4⟩
        · cases hq
          cases q
        · exact ⟨l, xs, rfl, .inl ⟨h4, fun p hp => h.out (Ext.fresh hp (r.fresh hp)) (r.new hp) ⟨p, xs, rfl, SqT.of upd_same, DqA.mono (same_upd (r.fresh hp)) _ _ h3⟩⟩⟩
      | f _ => cases hq
      | t _ => cases hq
    · exact h.elim) ha
def cList (fl : ML) : MD := fun ρ s => (fl ρ s).bind fun b s => match seqOf b s with
  | some (_, ds) => .ok ds s
  | none => .bad
theorem sc_list (hg : Gl X "list") (hm : X.mg "list" = none) (ha : SL X XR E a fl) (h1 : starEach [a] X.env = (false, eval a X.env) :: starEach [] X.env := by rfl) : SC X XR E (.Call (.Name "list" p) [a] [] pos) (cList fl) := by
  obtain ⟨ta, pa, qa⟩ := ha
  refine ⟨_, pe_callTy call_list_of hg hm (by decide +kernel) (pa_cons pa pa_nil h1) (by decide) (by decide) h1, fun A Hi ρ s σ H r re Q h => qa A Hi ρ s σ H r re _ (PO.bind h fun x s1 v Hi1 H1 _ e1 r1 d h1 => ?_)⟩
  split at h1
  · rename_i t ds hq
    obtain ⟨l, xs, rfl, h3, h4⟩ := seq_rel r1 d hq
    refine ⟨l, xs, rfl, ?_, fun q hq => PO.out (R := RF X.K A H) (x := ds) h1 (Ext.fresh1 hq) (r1.new1 hq) ⟨q, xs, rfl, upd_same, r1.fresh hq, e1.there q hq, r1.notin hq, h3⟩⟩
    rcases h4 with ⟨_, h4⟩ | ⟨_, h4⟩
    · exact .inr h4
    · exact .inl h4
  · exact h1.elim
/-- the ints of some data, if all are such -/
def intsOf : List PyData → Option (List Int)
  | [] => some []
  | .int i :: r => (intsOf r).map (i :: ·)
  | _ => none
def bolsOf : List PyData → Option (List Bool)
  | [] => some []
  | .bool i :: r => (bolsOf r).map (i :: ·)
  | _ => none
theorem intsOf_rel {K : PySem.W.Frag} {Hi : Hp} : ∀ {ds : List PyData} {xs : List V} {ns : List Int}, DqA K Hi ds xs → intsOf ds = some ns → xs = ns.map V.int
  | [], _, _, h, e => by
    cases e
    exact h
  | .int i :: r, _, ns, h, e => by
    obtain ⟨v, u, rfl, h1, h2⟩ := h
    cases (show v = _ from h1)
    unfold intsOf at e
    cases q : intsOf r with
    | none => rw [q] at e; cases e
    | some ms =>
      rw [q] at e
      cases e
      rw [intsOf_rel h2 q]
      rfl
  | .none :: _, _, _, _, e => by cases e
  | .bool _ :: _, _, _, _, e => by cases e
  | .str _ :: _, _, _, _, e => by cases e
  | .list _ :: _, _, _, _, e => by cases e
  | .tuple _ :: _, _, _, _, e => by cases e
  | .dict _ :: _, _, _, _, e => by cases e
theorem bolsOf_rel {K : PySem.W.Frag} {Hi : Hp} : ∀ {ds : List PyData} {xs : List V} {ns : List Bool}, DqA K Hi ds xs → bolsOf ds = some ns → xs = ns.map V.bl
  | [], _, _, h, e => by
    cases e
    exact h
  | .bool i :: r, _, ns, h, e => by
    obtain ⟨v, u, rfl, h1, h2⟩ := h
    cases (show v = _ from h1)
    unfold bolsOf at e
    cases q : bolsOf r with
    | none => rw [q] at e; cases e
    | some ms =>
      rw [q] at e
      cases e
      rw [bolsOf_rel h2 q]
      rfl
  | .none :: _, _, _, _, e => by cases e
  | .int _ :: _, _, _, _, e => by cases e
  | .str _ :: _, _, _, _, e => by cases e
  | .list _ :: _, _, _, _, e => by cases e
  | .tuple _ :: _, _, _, _, e => by cases e
  | .dict _ :: _, _, _, _, e => by cases e
@[simp] theorem intsOf_map (ns : List Int) : intsOf (ns.map .int) = some ns := by
  induction ns with
  | nil => rfl
  | cons n ns ih =>
    show (intsOf (ns.map .int)).map (n :: ·) = _
    rw [ih]
    rfl
@[simp] theorem bolsOf_map (ns : List Bool) : bolsOf (ns.map .bool) = some ns := by
  induction ns with
  | nil => rfl
  | cons n ns ih =>
    show (bolsOf (ns.map .bool)).map (n :: ·) = _
    rw [ih]
    rfl
def gInts (f : List Int → PyData) (b : Sl) (s : Sto) : Out PyData := match seqOf b s with
  | some (false, ds) => (match intsOf ds with
    | some ns => .ok (f ns) s
    | none => .bad)
  | _ => .bad
def gBols (f : List Bool → PyData) (b : Sl) (s : Sto) : Out PyData := match seqOf b s with
  | some (false, ds) => (match bolsOf ds with
    | some ns => .ok (f ns) s
    | none => .bad)
  | _ => .bad
theorem se_sum (hc : X.calm = true) (hg : Gl X "sum") (hm : X.mg "sum" = none) (ha : SL X XR E a fl) (h1 : starEach [a] X.env = (false, eval a X.env) :: starEach [] X.env := by rfl) : SE X XR E (.Call (.Name "sum" p) [a] [] pos) (eSl (gInts fun ns => .int ns.sum) fl) :=
  se_sl (fun ta q => pe_callB (cr_sum hc) hg hm (by decide +kernel) (pa_cons q pa_nil h1) (by decide) (by decide) h1) (fun A Hi s H b v Q r d h => by
    unfold gInts at h
    split at h
    · rename_i ds hq
      split at h
      · rename_i ns hn
        obtain ⟨l, xs, rfl, h3, ⟨q, _⟩ | ⟨_, h4⟩⟩ := seq_rel r d hq
        · cases q
        rw [intsOf_rel h3 hn] at h4
        exact ⟨l, ns, rfl, h4, h.use r rfl⟩
      · exact h.elim
    · exact h.elim) ha
theorem se_all (hc : X.calm = true) (hg : Gl X "all") (hm : X.mg "all" = none) (ha : SL X XR E a fl) (h1 : starEach [a] X.env = (false, eval a X.env) :: starEach [] X.env := by rfl) : SE X XR E (.Call (.Name "all" p) [a] [] pos) (eSl (gBols fun ns => .bool (ns.all id)) fl) :=
  se_sl (fun ta q => pe_callB (cr_all hc) hg hm (by decide +kernel) (pa_cons q pa_nil h1) (by decide) (by decide) h1) (fun A Hi s H b v Q r d h => by
    unfold gBols at h
    split at h
    · rename_i ds hq
      split at h
      · rename_i ns hn
        obtain ⟨l, xs, rfl, h3, ⟨q, _⟩ | ⟨_, h4⟩⟩ := seq_rel r d hq
        · cases q
        rw [bolsOf_rel h3 hn] at h4
        exact ⟨l, ns, rfl, h4, h.use r rfl⟩
      · exact h.elim
    · exact h.elim) ha
theorem se_any (hc : X.calm = true) (hg : Gl X "any") (hm : X.mg "any" = none) (ha : SL X XR E a fl) (h1 : starEach [a] X.env = (false, eval a X.env) :: starEach [] X.env := by rfl) : SE X XR E (.Call (.Name "any" p) [a] [] pos) (eSl (gBols fun ns => .bool (ns.any id)) fl) :=
  se_sl (fun ta q => pe_callB (cr_any hc) hg hm (by decide +kernel) (pa_cons q pa_nil h1) (by decide) (by decide) h1) (fun A Hi s H b v Q r d h => by
    unfold gBols at h
    split at h
    · rename_i ds hq
      split at h
      · rename_i ns hn
        obtain ⟨l, xs, rfl, h3, ⟨q, _⟩ | ⟨_, h4⟩⟩ := seq_rel r d hq
        · cases q
        rw [bolsOf_rel h3 hn] at h4
        exact ⟨l, ns, rfl, h4, h.use r rfl⟩
      · exact h.elim
    · exact h.elim) ha
def gAbs (b : Sl) (s : Sto) : Out PyData := match b with
  | .d (.int i) => .ok (.int (if i < 0 then -i else i)) s
  | _ => .bad
theorem se_abs (hg : Gl X "abs") (hm : X.mg "abs" = none) (ha : SL X XR E a fl) (h1 : starEach [a] X.env = (false, eval a X.env) :: starEach [] X.env := by rfl) : SE X XR E (.Call (.Name "abs" p) [a] [] pos) (eSl gAbs fl) :=
  se_sl (fun ta q => pe_callB call_abs hg hm (by decide +kernel) (pa_cons q pa_nil h1) (by decide) (by decide) h1) (fun A Hi s H b v Q r d h => by
    unfold gAbs at h
    split at h
    · cases (show v = _ from d)
      exact ⟨_, rfl, h.use r rfl⟩
    · exact h.elim) ha
def gInt (b : Sl) (s : Sto) : Out PyData := match b with
  | .d (.int i) => .ok (.int i) s
  | .d (.bool k) => .ok (.int (if k then 1 else 0)) s
  | _ => .bad
theorem se_int1 (hg : Gl X "int") (hm : X.mg "int" = none) (ha : SL X XR E a fl) (h1 : starEach [a] X.env = (false, eval a X.env) :: starEach [] X.env := by rfl) : SE X XR E (.Call (.Name "int" p) [a] [] pos) (eSl gInt fl) :=
  se_sl (fun ta q => pe_callTy call_int1 hg hm (by decide +kernel) (pa_cons q pa_nil h1) (by decide) (by decide) h1) (fun A Hi s H b v Q r d h => by
    unfold gInt at h
    split at h
    · cases (show v = _ from d)
      exact .inl ⟨_, rfl, h.use r rfl⟩
    · cases (show v = _ from d)
      exact .inr ⟨_, rfl, h.use r rfl⟩
    · exact h.elim) ha
/-- of two ints -/
def gTwo (g : Int → Int → Int) (x y : PyData) (s : Sto) : Out PyData := match x, y with
  | .int i, .int j => .ok (.int (g i j)) s
  | _, _ => .bad
def eTwo (g : Int → Int → Int) (fa fb : ME) : ME := eBin (gTwo g) fa fb
theorem se_two {g : Int → Int → Int} {ta' : TA → TE} (he : ∀ ta tb, PE X a ta → PE X b tb → PE X e (tCB (fun xs H Q => ∃ i j, xs = [.int i, .int j] ∧ Q (.int (g i j)) H) (tCons ta (tCons tb tNil)))) (ha : SE X XR E a fa) (hb : SE X XR E b fb) : SE X XR E e (eTwo g fa fb) := by
  obtain ⟨ta, pa, qa⟩ := ha
  obtain ⟨tb, pb, qb⟩ := hb
  refine ⟨_, he _ _ pa pb, fun A Hi ρ s σ H r re Q h => ?_⟩
  refine qa A Hi ρ s σ H r re _ (PO.bind h fun x s1 v Hi1 H1 _ e1 r1 d h1 => ?_)
  refine qb A Hi1 ρ s1 σ H1 r1 (re.mono e1.same pfx) _ (PO.bind h1 fun y s2 w Hi2 H2 _ e2 r2 d2 h2 => ?_)
  unfold gTwo at h2
  split at h2
  · cases (show v = _ from d)
    cases (show w = _ from d2)
    exact ⟨_, _, rfl, h2.use r2 rfl⟩
  · exact h2.elim
theorem se_max2 (hc : X.calm = true) (hg : Gl X "max") (hm : X.mg "max" = none) (ha : SE X XR E a fa) (hb : SE X XR E b fb) (h1 : starEach [a, b] X.env = (false, eval a X.env) :: starEach [b] X.env := by rfl) (h2 : starEach [b] X.env = (false, eval b X.env) :: starEach [] X.env := by rfl)
    (h3 : (backTo pos (starEach [b] X.env)).any (·.1) = false := by rfl) : SE X XR E (.Call (.Name "max" p) [a, b] [] pos) (eTwo (fun i j => if j > i then j else i) fa fb) :=
  se_two (ta' := fun _ _ _ _ => True) (fun ta tb q q2 => pe_callB (call_max2 hc) hg hm (by decide +kernel) (pa_cons q (pa_cons q2 pa_nil h2) h1) (by decide) (by decide) h1 h3) ha hb
theorem se_min2 (hc : X.calm = true) (hg : Gl X "min") (hm : X.mg "min" = none) (ha : SE X XR E a fa) (hb : SE X XR E b fb) (h1 : starEach [a, b] X.env = (false, eval a X.env) :: starEach [b] X.env := by rfl) (h2 : starEach [b] X.env = (false, eval b X.env) :: starEach [] X.env := by rfl)
    (h3 : (backTo pos (starEach [b] X.env)).any (·.1) = false := by rfl) : SE X XR E (.Call (.Name "min" p) [a, b] [] pos) (eTwo (fun i j => if j < i then j else i) fa fb) :=
  se_two (ta' := fun _ _ _ _ => True) (fun ta tb q q2 => pe_callB (call_min2 hc) hg hm (by decide +kernel) (pa_cons q (pa_cons q2 pa_nil h2) h1) (by decide) (by decide) h1 h3) ha hb
/-! ### isinstance -/
def kindOf : PyData → String
  | .none => "NoneType"
  | .bool _ => "bool"
  | .int _ => "int"
  | .str _ => "str"
  | .list _ => "list"
  | .tuple _ => "tuple"
  | .dict _ => "dict"
/-- an instance of an own class -/
def isObj : PyData → Bool
  | .dict ((.none, _) :: _) => true
  | _ => false
/-- a dict whose keys are tuples -/
def isN : PyData → Bool
  | .dict (p :: _) => isTk p.1
  | _ => false
theorem kind_ty {K : PySem.W.Frag} {Hi H : Hp} {x : PyData} {v : V} (d : Dq K Hi x v) (no : isObj x = false) (nn : isN x = false) (e : Same Hi H) (nt : ∀ a xs, SqT K H a xs → TyX K H (.ref a) (.type "tuple")) : TyX K H v (.type (kindOf x)) := by
  cases x with
  | none => cases (show v = _ from d); exact .base .non
  | bool b => cases (show v = _ from d); exact .base (.bl b)
  | int i => cases (show v = _ from d); exact .base (.int i)
  | str i => cases (show v = _ from d); exact .base (.str i)
  | list ds =>
    obtain ⟨a, xs, rfl, h, _⟩ := d
    exact .base (.lst (e _ _ h))
  | tuple ds =>
    obtain ⟨a, xs, rfl, h, _⟩ := d
    exact nt a xs (sqt_mono e h)
  | dict kvs =>
    cases kvs with
    | cons p r =>
      rcases d with ⟨a, c, C, dx, fs, rfl, rfl, _⟩ | ⟨a, o, k, u, t, rfl, h, _⟩ | ⟨a, x, t, rfl, _, h, _⟩
      · cases no
      · exact .fDict (e _ _ h)
      · rw [show isN (.dict (p :: r)) = isTk p.1 from rfl, h.tk] at nn
        cases nn
    | nil =>
      obtain ⟨a, rfl, h⟩ := d
      exact .base (.dK (e _ _ h))
theorem sqt_ty {K : PySem.W.Frag} {H : Hp} (a : Addr) (xs : List V) (h : SqT K H a xs) : TyX K H (.ref a) (.type "tuple") := by
  rcases h with (h | ⟨o, h⟩) | ⟨o, its, n, h1, h2, _⟩
  · exact .base (.tup h)
  · exact .fTuple h
  · exact .kTuple h1 h2
def eIsi (T : String) (fa : ME) : ME := fun ρ s => (fa ρ s).bind fun x s => if isObj x = true then (if T = "NoneType" ∨ T = "bool" ∨ T = "int" ∨ T = "str" ∨ T = "list" ∨ T = "tuple" ∨ T = "dict" then .ok (.bool false) s else .bad) else match kitB (kindOf x) T with
  | some k => .ok (.bool k) s
  | none => .bad
theorem obj_ty {K : PySem.W.Frag} {Hi H : Hp} {x : PyData} {v : V} (d : Dq K Hi x v) (e : Same Hi H) (o : isObj x = true) : ∃ C, TyX K H v (.ref C) ∧ ObF K C := by
  cases x with
  | dict kvs =>
    cases kvs with
    | nil => cases o
    | cons p r =>
      rcases d with ⟨a, c, C, dx, fs, rfl, _, ⟨_, f⟩, h, _⟩ | ⟨a, o, k, u, t, rfl, _, h, _⟩ | ⟨a, x, t, rfl, _, h, _⟩
      case inr.inl =>
        obtain ⟨x, y⟩ := p
        obtain ⟨rfl, _⟩ := h
        cases k <;> cases o
      case inr.inr =>
        have q := h.tk
        obtain ⟨y, z⟩ := p
        cases y <;> first | (cases q; done) | (cases o; done)
      exact ⟨C, .base (.ins (e _ _ h) f.ins.cl f.ins.ha f.ins.hn f.ins.htk f.ins.hm), f⟩
  | _ => cases o
theorem isN_frz {K : PySem.W.Frag} {Hi H : Hp} {x : PyData} {v : V} (d : Dq K Hi x v) (n : isN x = true) (e : Same Hi H) : ∃ a xs, v = .ref a ∧ FrzD H a xs ∧ kindOf x = "dict" := by
  cases x with
  | dict kvs =>
    cases kvs with
    | nil => cases n
    | cons p r =>
      rcases d with ⟨a, c, C, dx, fs, rfl, rfl, _⟩ | ⟨a, o, k, u, t, rfl, _, h, _⟩ | ⟨a, x, t, rfl, ⟨o, u, es, ep, h0, h1⟩, _⟩
      · cases n
      · obtain ⟨y, z⟩ := p
        obtain ⟨rfl, _⟩ := h
        rw [show isN (.dict ((kD k, z) :: r)) = isTk (kD k) from rfl, kD_tk] at n
        cases n
      · exact ⟨a, _, rfl, ⟨o, u, es, ep, e _ _ h0, h1⟩, rfl⟩
  | _ => cases n
theorem CallR.or {X : Cx} {f : Value} {r r' : List V → Hp → VK → Prop} (h : CallR X f r) (h' : CallR X f r') : CallR X f (fun xs H Q => r xs H Q ∨ r' xs H Q) := fun pins s σ H xs us Q I rv q => q.elim (h pins s σ H xs us Q I rv) (h' pins s σ H xs us Q I rv)
/-- isinstance(d, T) -/
theorem call_isN {X : Cx} : CallR X (.builtin "isinstance") (fun ys H Q => ∃ a xs T b, ys = [.ref a, .ty T] ∧ FrzD H a xs ∧ PySem.W.kitOne X.K (.type "dict") (.type T) = some b ∧ Q (.bl b) H) := by
  intro pins s σ H ys us Q I r h
  obtain ⟨a, xs, T, b, rfl, D, e, q⟩ := h
  obtain ⟨u1, r', rfl, rx, rr⟩ : ∃ u r', us = u :: r' ∧ RelV (.ref a) u ∧ Vals [.ty T] r' := by
    cases r with
    | cons x y => exact ⟨_, _, rfl, x, y⟩
  obtain ⟨u2, rfl, rt⟩ := vals1 rr
  obtain rfl : u1 = Value.ref a := rx
  obtain rfl : u2 = Value.type T := rt
  obtain ⟨ob, u, es, ep, h1, _, h3, _⟩ := D
  exact PySem.W.kia_one PySem.W.kitx_dict I.kIn ⟨ob, (I.hok a _ h1).1, h3.1⟩ e (fun z => nomatch z) fun tk => ⟨.bl b, H, I.kept (t' := tk) fun _ _ z => z, rfl, q⟩
theorem se_isi (T : String) {q : Expr} (hq : PE X q (tC (.ty T))) (hg : Gl X "isinstance") (hm : X.mg "isinstance" = none) (ha : SE X XR E a fa) (h1 : starEach [a, q] X.env = (false, eval a X.env) :: starEach [q] X.env := by rfl)
    (h2 : starEach [q] X.env = (false, eval q X.env) :: starEach [] X.env := by rfl) (h3 : (backTo pos (starEach [q] X.env)).any (·.1) = false := by rfl) : SE X XR E (.Call (.Name "isinstance" p) [a, q] [] pos) (eIsi T fa) := by
  obtain ⟨ta, pa, qa⟩ := ha
  refine ⟨_, pe_callB (CallR.or call_isi call_isN) hg hm (by decide +kernel) (pa_cons pa (pa_cons hq pa_nil h2) h1) (by decide) (by decide) h1 h3, fun A Hi ρ s σ H r re Q h => ?_⟩
  refine qa A Hi ρ s σ H r re _ (PO.bind h fun x s1 v Hi1 H1 _ e1 r1 d h1 => ?_)
  split at h1
  · rename_i ho
    split at h1
    · rename_i hT
      obtain ⟨C, hty, f⟩ := obj_ty d r1.sub ho
      exact .inl ⟨v, .ty T, .ref C, .type T, false, rfl, .ty T, hty, f.no T hT, h1.use r1 rfl⟩
    · exact h1.elim
  · rename_i hno
    split at h1
    · rename_i k hk
      cases hn : isN x with
      | false => exact .inl ⟨v, .ty T, .type (kindOf x), .type T, k, rfl, .ty T, kind_ty d (by simpa using hno) hn r1.sub sqt_ty, kit_ty hk, h1.use r1 rfl⟩
      | true =>
        obtain ⟨a, xs, rfl, D, ek⟩ := isN_frz d hn r1.sub
        rw [ek] at hk
        exact .inr ⟨a, xs, T, k, rfl, D, kit_ty hk, h1.use r1 rfl⟩
    · exact h1.elim

/-! ### functions -/
abbrev MF := List Sl → Sto → Out PyData
def own1 {α : Type} (n m : Nat) (s : Sto) (k : List PyData → Out α) : Out α := if n ≤ m then (match s[m]? with
    | some ds => k ds
    | none => .bad) else .bad
theorem own1_bad {α : Type} {n m : Nat} {s : Sto} {k : List PyData → Out α} {C : Out α → Prop} (hb : ¬ C .bad) (h : C (own1 n m s k)) : ∃ ds, n ≤ m ∧ s[m]? = some ds ∧ C (k ds) := by
  unfold own1 at h
  split at h
  · rename_i hn
    cases hs : s[m]? with
    | none =>
      rw [hs] at h
      exact absurd h hb
    | some ds =>
      rw [hs] at h
      exact ⟨ds, hn, rfl, h⟩
  · exact absurd h hb
/-- the lists that a tuple holds, from n on, as data -/
def resT (n : Nat) (s : Sto) : List (PyData ⊕ Nat) → Option (List PyData)
  | [] => some []
  | .inl d :: r => (resT n s r).map (d :: ·)
  | .inr m :: r => if n ≤ m then (s[m]?).bind fun ds => (resT n s r).map (PyData.list ds :: ·) else none
/-- what is handed back, the lists of the call's own forgotten -/
def fin (n : Nat) : Fl → Out PyData
  | .nx _ s => .ok .none (s.take n)
  | .rt (.d x) s => .ok x (s.take n)
  | .rt (.c m) s => own1 n m s fun ds => .ok (.list ds) (s.take n)
  | .rt (.t xs) s => match resT n s xs with
    | some ds => .ok (.tuple ds) (s.take n)
    | none => .bad
  | .exc x s => .exc x (s.take n)
  | _ => .bad
def env0 (k : Nat) (as : List Sl) : Env := as.map some ++ List.replicate (k - as.length) none
def mkF (k : Nat) (g : MS) : MF := fun as s => fin s.length (g (env0 k as) s)
def spM (K : PySem.W.Frag) (XR : XRel) (n : Nat) (F : MF) : Sp := fun vs H Q E => ∃ A Hi as s, as.length = n ∧ RS K A Hi s H ∧ RL K A Hi as vs ∧ PO K A Hi H XR E (RD K) Q (F as s)
/-- as a list of the call's own that nobody else holds -/
abbrev MFc := List Sl → Sto → Out (List PyData)
def finC (n : Nat) : Fl → Out (List PyData)
  | .rt (.c m) s => own1 n m s fun ds => .ok ds (s.take n)
  | .exc x s => .exc x (s.take n)
  | _ => .bad
def mkC (k : Nat) (g : MS) : MFc := fun as s => finC s.length (g (env0 k as) s)
def spC (K : PySem.W.Frag) (XR : XRel) (n : Nat) (F : MFc) : Sp := fun vs H Q E => ∃ A Hi as s, as.length = n ∧ RS K A Hi s H ∧ RL K A Hi as vs ∧ PO K A Hi H XR E (RF K A H) Q (F as s)
theorem RL.length {K : PySem.W.Frag} {A : List Addr} {Hi : Hp} : ∀ {as : List Sl} {vs : List V}, RL K A Hi as vs → vs.length = as.length
  | [], _, h => by
    have h' : _ = [] := h
    subst h'
    rfl
  | _ :: _, _, h => by
    obtain ⟨v, r, rfl, _, h2⟩ := h
    rw [List.length_cons, List.length_cons, RL.length h2]
theorem RL.get {K : PySem.W.Frag} {A : List Addr} {Hi : Hp} : ∀ {as : List Sl} {vs : List V} {i : Nat} {x : Sl}, RL K A Hi as vs → as[i]? = some x → ∃ v, vs[i]? = some v ∧ RSl K A Hi x v
  | [], _, _, _, _, e => by simp at e
  | y :: as, _, 0, x, h, e => by
    obtain ⟨v, r, rfl, h1, _⟩ := h
    have e' : y = x := by simpa using e
    subst e'
    exact ⟨v, rfl, h1⟩
  | y :: as, _, i + 1, x, h, e => by
    obtain ⟨v, r, rfl, _, h2⟩ := h
    obtain ⟨u, a, b⟩ := RL.get (i := i) (x := x) h2 (by simpa using e)
    exact ⟨u, by simpa using a, b⟩
theorem re_start {K : PySem.W.Frag} {A : List Addr} {Hi : Hp} {as : List Sl} {vs : List V} {N : List Str} (h : RL K A Hi as vs) : RE K A Hi (env0 N.length as) (L2.start N vs) := by
  have hl := RL.length h
  refine ⟨?_, fun i x e => ?_⟩
  · unfold env0 L2.start
    rw [List.length_append, List.length_append, List.length_map, List.length_map, List.length_replicate, List.length_replicate, hl]
  · unfold env0 at e
    by_cases q : i < as.length
    · rw [List.getElem?_append_left (by rw [List.length_map]; exact q), List.getElem?_map] at e
      cases ha : as[i]? with
      | none => rw [ha] at e; cases e
      | some y =>
        rw [ha] at e
        have e' : y = x := Option.some.inj (Option.some.inj e)
        subst e'
        obtain ⟨v, h1, h2⟩ := RL.get h ha
        refine ⟨v, ?_, h2⟩
        unfold L2.start
        rw [List.getElem?_append_left (by rw [List.length_map, hl]; exact q), List.getElem?_map, h1]
        rfl
    · rw [List.getElem?_append_right (by rw [List.length_map]; omega), List.getElem?_replicate] at e
      split at e <;> cases e
theorem take_pre {A A' : List Addr} (p : A <+: A') : A'.take A.length = A := by
  obtain ⟨t, rfl⟩ := p
  simp
theorem ExtS.down {A A' : List Addr} {Hi H Hi' H' : Hp} (e : ExtS A Hi H A' Hi' H') : Ext A Hi H Hi' H' := e.ext
/-- all lists from n on stand for ever -/
def frz (A : List Addr) (n : Nat) (Hi H : Hp) : Hp := fun b => if b ∈ A.drop n then H b else Hi b
section
variable {K : PySem.W.Frag} {A : List Addr} {Hi H : Hp} {s : Sto}
theorem frz_same (r : RS K A Hi s H) (n : Nat) : Same Hi (frz A n Hi H) := fun b u e => by
  unfold frz
  split
  · exact r.sub _ _ e
  · exact e
theorem frz_rs (r : RS K A Hi s H) (n : Nat) : RS K (A.take n) (frz A n Hi H) (s.take n) H := by
  have c := r.cut n
  have hlst : ∀ b ∈ A, ∃ xs, H b = some (.lst xs) := fun b m => by
    obtain ⟨i, hi⟩ := List.getElem?_of_mem m
    have hl : i < s.length := by rw [← r.len]; exact (List.getElem?_eq_some_iff.mp hi).1
    obtain ⟨xs, e, _⟩ := r.cel i b _ hi (List.getElem?_eq_getElem hl)
    exact ⟨xs, e⟩
  refine ⟨fun b u e => ?_, fun b q => ?_, c.nd, c.len, fun i b ds hb hs => ?_, r.tab, fun b ps e => ?_⟩
  · unfold frz at e
    split at e
    · exact e
    · exact r.sub _ _ e
  · have hne : b ∉ A.drop n := fun z => by
      have nd := r.nd
      rw [← List.take_append_drop n A, List.nodup_append] at nd
      exact nd.2.2 b q b z rfl
    unfold frz
    rw [if_neg hne]
    exact r.out b (List.mem_of_mem_take q)
  · obtain ⟨ys, e, d⟩ := c.cel i b ds hb hs
    exact ⟨ys, e, DqA.mono (frz_same r n) _ _ d⟩
  · unfold frz at e
    split at e
    · rename_i m
      obtain ⟨xs, hx⟩ := hlst b (List.mem_of_mem_drop m)
      rw [hx] at e
      cases e
    · exact r.nt b ps e
theorem resT_dq (r : RS K A Hi s H) {n : Nat} : ∀ {xs : List (PyData ⊕ Nat)} {vs : List V} {ds : List PyData}, RT K A Hi xs vs → resT n s xs = some ds → DqA K (frz A n Hi H) ds vs
  | [], _, ds, h, e => by
    cases e
    exact h
  | .inl d :: t, _, ds, h, e => by
    obtain ⟨v, w, rfl, h1, h2⟩ := h
    unfold resT at e
    cases q : resT n s t with
    | none => rw [q] at e; cases e
    | some es =>
      rw [q] at e
      cases e
      exact ⟨v, w, rfl, Dq.mono (frz_same r n) _ _ h1, resT_dq r h2 q⟩
  | .inr m :: t, _, ds, h, e => by
    obtain ⟨a, w, rfl, h1, h2⟩ := h
    unfold resT at e
    split at e
    · rename_i hn
      cases hs : s[m]? with
      | none => rw [hs] at e; cases e
      | some es =>
        rw [hs] at e
        cases q : resT n s t with
        | none => simp [q] at e
        | some fs =>
          have e' : PyData.list es :: fs = ds := by simpa [q] using e
          subst e'
          obtain ⟨xs, hx, hd⟩ := r.cel m a es h1 hs
          refine ⟨.ref a, w, rfl, ⟨a, xs, rfl, ?_, DqA.mono (frz_same r n) _ _ hd⟩, resT_dq r h2 q⟩
          have hm : a ∈ A.drop n := by
            refine List.mem_of_getElem? (i := m - n) ?_
            rw [List.getElem?_drop]
            have : n + (m - n) = m := by omega
            rw [this]
            exact h1
          unfold frz
          rw [if_pos hm]
          exact hx
    · cases e
end
theorem fin_ok {K : PySem.W.Frag} {A : List Addr} {Hi H : Hp} {XR : XRel} {E : XK} {Q : VK} {s : Sto} {o : Fl} (r : RS K A Hi s H) (h : PO K A Hi H XR E (RD K) Q (fin s.length o)) : PF K A Hi H XR E { nx := fun _ H' => Q .non H', rt := Q } o := by
  cases o with
  | nx ρ s' =>
    intro A' Hi' σ' H' e r' _
    have c := r'.cut A.length
    rw [take_pre e.pre] at c
    rw [r.len] at c
    exact h .non Hi' H' e.ext c rfl
  | rt x s' =>
    cases x with
    | d x =>
      intro A' Hi' v H' e r' d
      have c := r'.cut A.length
      rw [take_pre e.pre, r.len] at c
      exact h v Hi' H' e.ext c d
    | t xs =>
      intro A' Hi' v H' e r' d
      obtain ⟨a, vs, rfl, h1, h2⟩ := d
      change PO K A Hi H XR E (RD K) Q (match resT s.length s' xs with | some ds => .ok (.tuple ds) (s'.take s.length) | none => .bad) at h
      cases q : resT s.length s' xs with
      | none => rw [q] at h; exact h.elim
      | some ds =>
        rw [q] at h
        have c := frz_rs r' A.length
        rw [take_pre e.pre] at c
        rw [← r.len] at q h
        refine h (.ref a) _ H' ⟨e.ext.same.trans (frz_same r' A.length), e.ext.keep, e.ext.there, fun b e1 e2 => ?_⟩ c ⟨a, vs, rfl, sqt_mono (frz_same r' A.length) h1, resT_dq r' h2 q⟩
        have hb : b ∉ A'.drop A.length := fun z => by
          refine e2 (e.nw b (List.mem_of_mem_drop z) fun y => ?_)
          have nd := r'.nd
          rw [← List.take_append_drop A.length A', List.nodup_append] at nd
          exact nd.2.2 b (by rw [take_pre e.pre]; exact y) b z rfl
        unfold frz
        rw [if_neg hb]
        exact e.ext.new b e1 e2
    | c m =>
      obtain ⟨ds, hn, hs, h⟩ := own1_bad (C := PO K A Hi H XR E (RD K) Q) (fun z => z) h
      intro A' Hi' v H' e r' d
      obtain ⟨a, ha, rfl⟩ := d
      obtain ⟨xs, hx, hd⟩ := r'.cel m a ds ha hs
      have hm : a ∈ A' := List.mem_of_getElem? ha
      have hA : a ∉ A := fun q => by
        obtain ⟨i, hi⟩ := List.getElem?_of_mem q
        obtain ⟨t, rfl⟩ := e.pre
        have hl := (List.getElem?_eq_some_iff.mp hi).1
        have hi2 : (A ++ t)[i]? = some a := by rw [List.getElem?_append_left hl]; exact hi
        have := nd_ix r'.nd hi2 ha
        rw [← r.len] at hn
        omega
      have h0 := e.nw a hm hA
      have c := r'.freeze (n := A.length) (by rw [r.len]; exact hn) ha hx
      rw [take_pre e.pre, r.len] at c
      have hp : Hi' a = none := r'.out a hm
      refine h (.ref a) (upd Hi' a (.lst xs)) H' ⟨e.ext.same.trans (same_upd hp), e.ext.keep, e.ext.there, fun b hb hb2 => ?_⟩ c ⟨a, xs, rfl, upd_same, DqA.mono (same_upd hp) _ _ hd⟩
      have hne : b ≠ a := fun z => by
        subst z
        exact hb2 h0
      rw [upd_ne hne]
      exact e.ext.new b hb hb2
    | s ns => exact h.elim
    | f _ => exact h.elim
  | exc x s' =>
    intro cls d A' Hi' H' e r' q
    have c := r'.cut A.length
    rw [take_pre e.pre, r.len] at c
    exact h cls d Hi' H' e.ext c q
  | bk ρ s' => exact h.elim
  | ct ρ s' => exact h.elim
  | bad => exact h.elim
theorem finC_ok {K : PySem.W.Frag} {A : List Addr} {Hi H : Hp} {XR : XRel} {E : XK} {Q : VK} {s : Sto} {o : Fl} (r : RS K A Hi s H) (h : PO K A Hi H XR E (RF K A H) Q (finC s.length o)) : PF K A Hi H XR E { nx := fun _ H' => Q .non H', rt := Q } o := by
  cases o with
  | rt x s' =>
    cases x with
    | c m =>
      obtain ⟨ds, hn, hs, h⟩ := own1_bad (C := PO K A Hi H XR E (RF K A H) Q) (fun z => z) h
      intro A' Hi' v H' e r' d
      obtain ⟨a, ha, rfl⟩ := d
      obtain ⟨xs, hx, hd⟩ := r'.cel m a ds ha hs
      have hm : a ∈ A' := List.mem_of_getElem? ha
      have hA : a ∉ A := fun q => by
        obtain ⟨i, hi⟩ := List.getElem?_of_mem q
        obtain ⟨t, rfl⟩ := e.pre
        have hl := (List.getElem?_eq_some_iff.mp hi).1
        have hi2 : (A ++ t)[i]? = some a := by rw [List.getElem?_append_left hl]; exact hi
        have := nd_ix r'.nd hi2 ha
        rw [← r.len] at hn
        omega
      have c := r'.cut A.length
      rw [take_pre e.pre, r.len] at c
      exact h (.ref a) Hi' H' e.ext c ⟨a, xs, rfl, hx, r'.out a hm, e.nw a hm hA, hA, hd⟩
    | d x => exact h.elim
    | s ns => exact h.elim
    | f _ => exact h.elim
    | t _ => exact h.elim
  | exc x s' =>
    intro cls d A' Hi' H' e r' q
    have c := r'.cut A.length
    rw [take_pre e.pre, r.len] at c
    exact h cls d Hi' H' e.ext c q
  | nx ρ s' => exact h.elim
  | bk ρ s' => exact h.elim
  | ct ρ s' => exact h.elim
  | bad => exact h.elim
section
variable {P : Program} {w : World} {K : PySem.W.Frag} {mg : Str → Option Value} {base : Heap}
theorem PO.noexc {α β : Type} {K : PySem.W.Frag} {A : List Addr} {Hi H : Hp} {XR : XRel} {E E' : XK} {R : Hp → Hp → α → β → Prop} {Q : β → Hp → Prop} {o : Out α} (hx : ∀ x H c d, ¬ XR x H c d) (h : PO K A Hi H XR E R Q o) : PO K A Hi H XR E' R Q o := by
  cases o with
  | ok x s => exact h
  | exc x s => exact fun c d Hi' H' _ _ q => (hx _ _ _ _ q).elim
  | bad => exact h
theorem fn_mir {x qual : Str} {st : Stmt} {f : Addr} {fd : FuncData} {N ps : List Str} {k : Nat} {g : MS} (F : Fun K x qual st f fd) (S : FnScope N ps (defScope st)) (hx : ∀ x H c d, ¬ XR x H c d)
    (hb : ∀ (cdv : Value) (A : Around) (outer : List PySem.Env) (s : Shared) (H : Hp) (E : XK), Room k (A.deeper (envOfC qual (defScope st) s.heap.objs.size f cdv)) → SB (cxOf CX0 P w K mg base N qual (defScope st) f cdv A outer s H E).nox XR E0 (defBody st) g) :
    FnOk P w K mg base CX0 (k + 1) f fd ps (spM K XR ps.length (mkF N.length g)) := by
  refine F.ok S (fun vs H Q E h => ?_) (fun cdv A outer s H vs Q E hr h => ?_)
  · obtain ⟨_, _, as, _, h1, _, h2, _⟩ := h
    rw [h2.length, h1]
  · obtain ⟨A', Hi, as, s', _, r, rl, h⟩ := h
    obtain ⟨t, p, q⟩ := hb cdv A outer s H E hr
    exact ⟨t, p, q A' Hi (env0 N.length as) s' _ H r (re_start rl) _ (fin_ok r (PO.noexc hx h))⟩
theorem fn_mirC {x qual : Str} {st : Stmt} {f : Addr} {fd : FuncData} {N ps : List Str} {k : Nat} {g : MS} (F : Fun K x qual st f fd) (S : FnScope N ps (defScope st)) (hx : ∀ x H c d, ¬ XR x H c d)
    (hb : ∀ (cdv : Value) (A : Around) (outer : List PySem.Env) (s : Shared) (H : Hp) (E : XK), Room k (A.deeper (envOfC qual (defScope st) s.heap.objs.size f cdv)) → SB (cxOf CX0 P w K mg base N qual (defScope st) f cdv A outer s H E).nox XR E0 (defBody st) g) :
    FnOk P w K mg base CX0 (k + 1) f fd ps (spC K XR ps.length (mkC N.length g)) := by
  refine F.ok S (fun vs H Q E h => ?_) (fun cdv A outer s H vs Q E hr h => ?_)
  · obtain ⟨_, _, as, _, h1, _, h2, _⟩ := h
    rw [h2.length, h1]
  · obtain ⟨A', Hi, as, s', _, r, rl, h⟩ := h
    obtain ⟨t, p, q⟩ := hb cdv A outer s H E hr
    exact ⟨t, p, q A' Hi (env0 N.length as) s' _ H r (re_start rl) _ (finC_ok r (PO.noexc hx h))⟩
end
/-! ### calls of own functions -/
def eCall (n : Nat) (F : MF) (fa : MA) : ME := fun ρ s => (fa ρ s).bind fun as s => if as.length = n then F as s else .bad
def cCall (n : Nat) (F : MFc) (fa : MA) : MD := fun ρ s => (fa ρ s).bind fun as s => if as.length = n then F as s else .bad
section
variable {k n : Nat} {f : Addr} {fd : FuncData} {ps : List Str} {F : MF} {Fc : MFc} {es : List Expr} {ma : MA} {x : Str} {XR' : XRel}
theorem se_call (G : FnOk X.prog X.w X.K X.mg X.base CX0 k f fd ps (spM X.K XR' n F)) (hr : Room k X.A) (hg : Gl X x) (hm : X.mg x = some (.ref f)) (hk : PySem.W.keepIn X.K (.ref f) = true) (hb : Binds X.K fd ps [])
    (ha : SA X XR' E0 (e :: es) ma) (hdb : (x == ("__debug__" : Str)) = false := by decide) (he : starEach (e :: es) X.env = (false, eval e X.env) :: starEach es X.env := by rfl) (hpl : (backTo pos (starEach es X.env)).any (·.1) = false := by rfl) :
    SE X XR' E0 (.Call (.Name x p) (e :: es) [] pos) (eCall n F ma) := by
  obtain ⟨t, pa, qa⟩ := ha
  refine ⟨_, pe_call G hr hg hm hk hb .nil pass0 pa hdb he hpl, fun A Hi ρ s σ H r re Q h => qa A Hi ρ s σ H r re _ (PO.bind h fun as s1 vs Hi1 H1 _ e1 r1 d h1 => ?_)⟩
  rw [List.append_nil]
  split at h1
  · rename_i hn
    exact ⟨A, Hi1, as, s1, hn, r1, d, h1⟩
  · exact h1.elim
theorem sc_call (G : FnOk X.prog X.w X.K X.mg X.base CX0 k f fd ps (spC X.K XR' n Fc)) (hr : Room k X.A) (hg : Gl X x) (hm : X.mg x = some (.ref f)) (hk : PySem.W.keepIn X.K (.ref f) = true) (hb : Binds X.K fd ps [])
    (ha : SA X XR' E0 (e :: es) ma) (hdb : (x == ("__debug__" : Str)) = false := by decide) (he : starEach (e :: es) X.env = (false, eval e X.env) :: starEach es X.env := by rfl) (hpl : (backTo pos (starEach es X.env)).any (·.1) = false := by rfl) :
    SC X XR' E0 (.Call (.Name x p) (e :: es) [] pos) (cCall n Fc ma) := by
  obtain ⟨t, pa, qa⟩ := ha
  refine ⟨_, pe_call G hr hg hm hk hb .nil pass0 pa hdb he hpl, fun A Hi ρ s σ H r re Q h => qa A Hi ρ s σ H r re _ (PO.bind h fun as s1 vs Hi1 H1 _ e1 r1 d h1 => ?_)⟩
  rw [List.append_nil]
  split at h1
  · rename_i hn
    refine ⟨A, Hi1, as, s1, hn, r1, d, ?_⟩
    cases hF : Fc as s1 with
    | ok ds s2 =>
      rw [hF] at h1
      intro v Hi2 H2 e2 r2 d2
      obtain ⟨q, xs, q1, q2, q3, q4, q5, q6⟩ := d2
      exact h1 v Hi2 H2 e2 r2 ⟨q, xs, q1, q2, q3, e1.there q q4, q5, q6⟩
    | exc x s2 =>
      rw [hF] at h1
      exact h1
    | bad =>
      rw [hF] at h1
      exact h1
  · exact h1.elim
end
end
end Mir

namespace Mir
open PySem PySem.Spec PyProof.Rows L2
variable [Tb]
section
variable {X : Cx} {XR : XRel} {E : XK} {a b e : Expr} {fa fb : ME} {fl : ML} {pos p : Pos} {st : Stmt} {rest : List Stmt} {g g1 g2 : MS}
/-! ### statements -/
def thenDo (o : Fl) (k : MS) : Fl := match o with
  | .nx ρ s => k ρ s
  | .rt x s => .rt x s
  | .bk ρ s => .bk ρ s
  | .ct ρ s => .ct ρ s
  | .exc x s => .exc x s
  | .bad => .bad
@[simp] theorem thenDo_nx (ρ : Env) (s : Sto) (k : MS) : thenDo (.nx ρ s) k = k ρ s := rfl
@[simp] theorem thenDo_rt (x : Sl) (s : Sto) (k : MS) : thenDo (.rt x s) k = .rt x s := rfl
def mSeq (g1 g2 : MS) : MS := fun ρ s => thenDo (g1 ρ s) g2
def mNil : MS := fun ρ s => .nx ρ s
/-- an expression's outcome taken to a statement's -/
def toFl {α : Type} (o : Out α) (k : α → Sto → Fl) : Fl := match o with
  | .ok a s => k a s
  | .exc x s => .exc x s
  | .bad => .bad
@[simp] theorem toFl_ok {α : Type} (x : α) (s : Sto) (k : α → Sto → Fl) : toFl (.ok x s) k = k x s := rfl
theorem PF.bind {α β : Type} {K : PySem.W.Frag} {A : List Addr} {Hi H : Hp} {R : Hp → Hp → α → β → Prop} {Q : β → Hp → Prop} {D : Ends} {o : Out α} {k : α → Sto → Fl} (h : PF K A Hi H XR E D (toFl o k))
    (gg : ∀ x s v Hi1 H1, o = .ok x s → Ext A Hi H Hi1 H1 → RS K A Hi1 s H1 → R Hi1 H1 x v → PF K A Hi1 H1 XR E D (k x s) → Q v H1) : PO K A Hi H XR E R Q o := by
  cases o with
  | ok x s => exact fun v H1 H2 e1 r d => gg x s v H1 H2 rfl e1 r d (PF.back e1.s h)
  | exc x s => exact fun c d H1 H2 e1 r q => h c d A H1 H2 e1.s r q
  | bad => exact h
theorem sb_nil : SB X XR E [] mNil := ⟨_, pss_nil, fun A Hi ρ s σ H r re D h => h A Hi σ H .refl r re⟩
theorem sb_one (h : SS X XR E st g) : SB X XR E [st] g := by
  obtain ⟨t, p, q⟩ := h
  exact ⟨t, pss_one p, q⟩
theorem sb_cons (h1 : SS X XR E st g1) (h2 : SB X XR E rest g2) : SB X XR E (st :: rest) (mSeq g1 g2) := by
  obtain ⟨t, p1, q1⟩ := h1
  obtain ⟨u, p2, q2⟩ := h2
  refine ⟨_, pss_cons p1 p2, fun A Hi ρ s σ H r re D h => q1 A Hi ρ s σ H r re _ ?_⟩
  unfold mSeq at h
  cases q : g1 ρ s with
  | nx ρ1 s1 =>
    rw [q] at h
    exact fun A' Hi' σ' H' e r' re' => q2 A' Hi' ρ1 s1 σ' H' r' re' D (PF.back e h)
  | rt x s1 => rw [q] at h; exact h
  | bk ρ1 s1 => rw [q] at h; exact h
  | ct ρ1 s1 => rw [q] at h; exact h
  | exc x s1 => rw [q] at h; exact h
  | bad => rw [q] at h; exact h
def mSet (i : Nat) (f : ME) : MS := fun ρ s => toFl (f ρ s) fun x s => .nx (ρ.set i (some (.d x))) s
def mSetC (i : Nat) (f : MD) : MS := fun ρ s => toFl (f ρ s) fun ds s' => .nx (ρ.set i (some (.c s'.length))) (s' ++ [ds])
theorem ss_set (i : Nat) {x : Str} {pos' : Pos} (hN : X.N.Nodup) (hi : X.N[i]? = some x) (hx : Loc X.env.scope x) (he : SE X XR E e fa) (hs : swapsWith e (some (.Name x pos')) pos.line X.env = pure false := by rfl)
    (hf : X.fn x = true ∨ X.env.scope.names.lookup x = some .local := by first | exact .inl rfl | exact .inr rfl | assumption) : SS X XR E (.Assign [.Name x pos'] e pos) (mSet i fa) := by
  obtain ⟨t, p, q⟩ := he
  refine ⟨_, ps_set hN hi hx p hs hf, fun A Hi ρ s σ H r re D h => q A Hi ρ s σ H r re _ (PF.bind h fun x s1 v Hi1 H1 _ e1 r1 d h1 => ?_)⟩
  exact h1 A Hi1 _ H1 .refl r1 (RE.set (re.mono e1.same pfx) d)
theorem RS.take1 {K : PySem.W.Frag} {A : List Addr} {Hi H : Hp} {s : Sto} {p : Addr} {xs : List V} {ds : List PyData} (h : RS K A Hi s H) (hp : H p = some (.lst xs)) (n : Hi p = none) (m : p ∉ A) (d : DqA K Hi ds xs) : RS K (A ++ [p]) Hi (s ++ [ds]) H := by
  refine ⟨h.sub, fun a q => ?_, ?_, by rw [List.length_append, List.length_append, h.len]; rfl, fun i a es ha hs => ?_, h.tab, h.nt⟩
  · rcases List.mem_append.mp q with q | q
    · exact h.out a q
    · have : a = p := by simpa using q
      rw [this]
      exact n
  · rw [List.nodup_append]
    refine ⟨h.nd, by simp, fun a ha b hb => ?_⟩
    have : b = p := by simpa using hb
    rw [this]
    exact fun z => m (by rw [← z]; exact ha)
  · by_cases hl : i < A.length
    · rw [List.getElem?_append_left hl] at ha
      rw [List.getElem?_append_left (by rw [← h.len]; exact hl)] at hs
      exact h.cel i a es ha hs
    · have hl' := (List.getElem?_eq_some_iff.mp ha).1
      rw [List.length_append, List.length_singleton] at hl'
      have hi : i = A.length := by omega
      subst hi
      rw [List.getElem?_append_right (Nat.le_refl _), Nat.sub_self] at ha
      rw [h.len, List.getElem?_append_right (Nat.le_refl _), Nat.sub_self] at hs
      cases ha
      cases hs
      exact ⟨xs, hp, d⟩
theorem setC_ok {A : List Addr} {Hi H : Hp} {ρ : Env} {s : Sto} {σ : L2.St} {D : Ends} {i : Nat} {f : MD} (re : RE X.K A Hi ρ σ) (h : PF X.K A Hi H XR E D (mSetC i f ρ s)) : PO X.K A Hi H XR E (RF X.K A H) (fun v H' => gName i v σ H' D.nx) (f ρ s) := by
  unfold mSetC at h
  cases hf : f ρ s with
  | bad => rw [hf] at h; exact h
  | exc x s1 =>
    rw [hf] at h
    exact fun c d H1 H2 e1 r q => h c d A H1 H2 e1.s r q
  | ok ds s1 =>
    rw [hf] at h
    rintro v Hi1 H1 e1 r1 ⟨p, xs, rfl, q1, q2, q3, q4, q5⟩
    have r2 := r1.take1 q1 q2 q4 q5
    refine h (A ++ [p]) Hi1 _ H1 ⟨e1, List.prefix_append _ _, fun a m n => ?_⟩ r2 (RE.set (re.mono e1.same (List.prefix_append _ _)) (x := .c s1.length) ⟨p, ?_, rfl⟩)
    · rcases List.mem_append.mp m with m | m
      · exact absurd m n
      · have : a = p := by simpa using m
        rw [this]
        exact q3
    · rw [← r1.len]
      simp
theorem ss_setC (i : Nat) {f : MD} {x : Str} {pos' : Pos} (hN : X.N.Nodup) (hi : X.N[i]? = some x) (hx : Loc X.env.scope x) (he : SC X XR E e f) (hs : swapsWith e (some (.Name x pos')) pos.line X.env = pure false := by rfl)
    (hf : X.fn x = true ∨ X.env.scope.names.lookup x = some .local := by first | exact .inl rfl | exact .inr rfl | assumption) : SS X XR E (.Assign [.Name x pos'] e pos) (mSetC i f) := by
  obtain ⟨t, p, q⟩ := he
  refine ⟨_, ps_set hN hi hx p hs hf, fun A Hi ρ s σ H r re D h => q A Hi ρ s σ H r re _ ?_⟩
  exact setC_ok re h
def mRet (f : ME) : MS := fun ρ s => toFl (f ρ s) fun x s => .rt (.d x) s
def mRetN : MS := fun _ s => .rt (.d .none) s
def mRetL (f : ML) : MS := fun ρ s => toFl (f ρ s) fun x s => .rt x s
theorem ss_ret (he : SE X XR E e fa) : SS X XR E (.Return (some e) pos) (mRet fa) := by
  obtain ⟨t, p, q⟩ := he
  refine ⟨_, ps_ret p, fun A Hi ρ s σ H r re D h => q A Hi ρ s σ H r re _ (PF.bind h fun x s1 v Hi1 H1 _ e1 r1 d h1 => ?_)⟩
  exact h1 A Hi1 v H1 .refl r1 d
theorem ss_retN : SS X XR E (.Return none pos) mRetN := ⟨_, ps_retN, fun A Hi ρ s σ H r re D h => h A Hi .non H .refl r rfl⟩
theorem ss_retL (he : SL X XR E e fl) : SS X XR E (.Return (some e) pos) (mRetL fl) := by
  obtain ⟨t, p, q⟩ := he
  refine ⟨_, ps_ret p, fun A Hi ρ s σ H r re D h => q A Hi ρ s σ H r re _ (PF.bind h fun x s1 v Hi1 H1 _ e1 r1 d h1 => ?_)⟩
  exact h1 A Hi1 v H1 .refl r1 d
def mDrop (f : ME) : MS := fun ρ s => toFl (f ρ s) fun _ s => .nx ρ s
theorem ss_drop (he : SE X XR E e fa) (hs : swapsWith e none pos.line X.env = pure false := by rfl) : SS X XR E (.Expr e pos) (mDrop fa) := by
  obtain ⟨t, p, q⟩ := he
  refine ⟨_, ps_expr p hs, fun A Hi ρ s σ H r re D h => q A Hi ρ s σ H r re _ (PF.bind h fun x s1 v Hi1 H1 _ e1 r1 d h1 => ?_)⟩
  exact h1 A Hi1 σ H1 .refl r1 (re.mono e1.same pfx)
def mIf (m : MT) (g1 g2 : MS) : MS := fun ρ s => toFl (m ρ s) fun b s => if b = true then g1 ρ s else g2 ρ s
theorem ss_if {c : Expr} {x y : List Stmt} {m : MT} (hc : ST X XR E c m) (h1 : SB X XR E x g1) (h2 : SB X XR E y g2) : SS X XR E (.If c x y pos) (mIf m g1 g2) := by
  obtain ⟨tc, pc, qc⟩ := hc
  obtain ⟨t1, p1, q1⟩ := h1
  obtain ⟨t2, p2, q2⟩ := h2
  refine ⟨_, ps_if pc p1 p2, fun A Hi ρ s σ H r re D h => qc A Hi ρ s σ H r re _ (PF.bind h fun b s1 v Hi1 H1 _ e1 r1 d hh => ?_)⟩
  cases d
  cases b with
  | true => exact iteT (q1 A Hi1 ρ s1 σ H1 r1 (re.mono e1.same pfx) D hh)
  | false => exact iteF (q2 A Hi1 ρ s1 σ H1 r1 (re.mono e1.same pfx) D hh)
def mNever : MS := fun _ _ => .bad
theorem ss_never : SS X XR E st mNever := ⟨_, ps_never, fun _ _ _ _ _ _ _ _ _ h => h.elim⟩
theorem ss_pass : SS X XR E (.Pass pos) mNil := ⟨_, ps_pass, fun A Hi ρ s σ H r re D h => h A Hi σ H .refl r re⟩
theorem ss_break : SS X XR E (.Break pos) (fun ρ s => .bk ρ s) := ⟨_, ps_break, fun A Hi ρ s σ H r re D h => h A Hi σ H .refl r re⟩
theorem ss_continue : SS X XR E (.Continue pos) (fun ρ s => .ct ρ s) := ⟨_, ps_continue, fun A Hi ρ s σ H r re D h => h A Hi σ H .refl r re⟩
/-- a, b = x, y -/
def mPar (i j : Nat) (fa fb : ME) : MS := fun ρ s => toFl (fa ρ s) fun x s => toFl (fb ρ s) fun y s => .nx ((ρ.set i (some (.d x))).set j (some (.d y))) s
theorem ss_par (i j : Nat) {x y : Str} {px py pt : Pos} {kt k2 pt2} (hc : X.calm = true) (hN : X.N.Nodup) (hi : X.N[i]? = some x) (hj : X.N[j]? = some y) (hij : i ≠ j)
    (hx : X.env.scope.names.lookup x = some .local) (hy : X.env.scope.names.lookup y = some .local) (ha : SE X XR E a fa) (hb : SE X XR E b fb)
    (hw : swappedStores [.Tuple [.Name x px, .Name y py] kt pt] (.Tuple [a, b] k2 pt2) X.env = pure (some [x, y])) (h1 : starEach [a, b] X.env = (false, eval a X.env) :: starEach [b] X.env := by rfl) (h2 : starEach [b] X.env = (false, eval b X.env) :: starEach [] X.env := by rfl)
    (hs : swapsWithSole [.Tuple [.Name x px, .Name y py] kt pt] (.Tuple [a, b] k2 pt2) pos.line X.env = pure false := by rfl) :
    SS X XR E (.Assign [.Tuple [.Name x px, .Name y py] kt pt] (.Tuple [a, b] k2 pt2) pos) (mPar i j fa fb) := by
  obtain ⟨ta, pa, qa⟩ := ha
  obtain ⟨tb, pb, qb⟩ := hb
  refine ⟨_, ps_par hc hN hi hj hij hx hy (pa_cons pa (pa_cons pb pa_nil h2) h1) hw hs, fun A Hi ρ s σ H r re D h => ?_⟩
  refine qa A Hi ρ s σ H r re _ (PF.bind h fun x s1 v Hi1 H1 _ e1 r1 d h1 => ?_)
  refine qb A Hi1 ρ s1 σ H1 r1 (re.mono e1.same pfx) _ (PF.bind h1 fun y s2 w Hi2 H2 _ e2 r2 d2 h2 => ?_)
  refine ⟨v, w, rfl, h2 A Hi2 _ H2 .refl r2 ?_⟩
  exact RE.set (RE.set ((re.mono e1.same pfx).mono e2.same pfx) (x := .d x) (Dq.mono e2.same _ _ d)) (x := .d y) d2
def mPar3 (i j l : Nat) (fa fb fc : ME) : MS := fun ρ s => toFl (fa ρ s) fun x s => toFl (fb ρ s) fun y s => toFl (fc ρ s) fun z s => .nx (((ρ.set i (some (.d x))).set j (some (.d y))).set l (some (.d z))) s
theorem ss_par3 (i j l : Nat) {c : Expr} {fc : ME} {x y z : Str} {px py pz pt : Pos} {kt k2 pt2} (hc : X.calm = true) (hN : X.N.Nodup) (hi : X.N[i]? = some x) (hj : X.N[j]? = some y) (hl : X.N[l]? = some z) (hij : i ≠ j) (hil : i ≠ l) (hjl : j ≠ l)
    (hx : X.env.scope.names.lookup x = some .local) (hy : X.env.scope.names.lookup y = some .local) (hz : X.env.scope.names.lookup z = some .local) (ha : SE X XR E a fa) (hb : SE X XR E b fb) (hcc : SE X XR E c fc)
    (hw : swappedStores [.Tuple [.Name x px, .Name y py, .Name z pz] kt pt] (.Tuple [a, b, c] k2 pt2) X.env = pure (some [x, y, z])) (h1 : starEach [a, b, c] X.env = (false, eval a X.env) :: starEach [b, c] X.env := by rfl)
    (h2 : starEach [b, c] X.env = (false, eval b X.env) :: starEach [c] X.env := by rfl) (h3 : starEach [c] X.env = (false, eval c X.env) :: starEach [] X.env := by rfl)
    (hs : swapsWithSole [.Tuple [.Name x px, .Name y py, .Name z pz] kt pt] (.Tuple [a, b, c] k2 pt2) pos.line X.env = pure false := by rfl) :
    SS X XR E (.Assign [.Tuple [.Name x px, .Name y py, .Name z pz] kt pt] (.Tuple [a, b, c] k2 pt2) pos) (mPar3 i j l fa fb fc) := by
  obtain ⟨ta, pa, qa⟩ := ha
  obtain ⟨tb, pb, qb⟩ := hb
  obtain ⟨tc, pc, qc⟩ := hcc
  refine ⟨_, ps_par3 hc hN hi hj hl hij hil hjl hx hy hz (pa_cons pa (pa_cons pb (pa_cons pc pa_nil h3) h2) h1) hw hs, fun A Hi ρ s σ H r re D h => ?_⟩
  refine qa A Hi ρ s σ H r re _ (PF.bind h fun x s1 v Hi1 H1 _ e1 r1 d h1 => ?_)
  refine qb A Hi1 ρ s1 σ H1 r1 (re.mono e1.same pfx) _ (PF.bind h1 fun y s2 w Hi2 H2 _ e2 r2 d2 h2 => ?_)
  refine qc A Hi2 ρ s2 σ H2 r2 ((re.mono e1.same pfx).mono e2.same pfx) _ (PF.bind h2 fun z s3 u Hi3 H3 _ e3 r3 d3 h3 => ?_)
  refine ⟨v, w, u, rfl, h3 A Hi3 _ H3 .refl r3 ?_⟩
  exact RE.set (RE.set (RE.set (((re.mono e1.same pfx).mono e2.same pfx).mono e3.same pfx) (x := .d x) (Dq.mono (e2.same.trans e3.same) _ _ d)) (x := .d y) (Dq.mono e3.same _ _ d2)) (x := .d z) d3
/-- xs[i] = e, of a list of the store -/
def putAt (b : Sl) (y x : PyData) (s : Sto) : Option Sto := match b, y with
  | .c n, .int i => (s[n]?).bind fun ds => (ixN ds.length i).map fun j => s.set n (ds.set j x)
  | _, _ => none
theorem putAt_some {b : Sl} {y x : PyData} {s s' : Sto} (h : putAt b y x s = some s') : ∃ n i ds j, b = .c n ∧ y = .int i ∧ s[n]? = some ds ∧ ixN ds.length i = some j ∧ s' = s.set n (ds.set j x) := by
  unfold putAt at h
  split at h
  · rename_i n i
    cases hq : s[n]? with
    | none => rw [hq] at h; cases h
    | some ds =>
      rw [hq] at h
      have h : (ixN ds.length i).map (fun j => s.set n (ds.set j x)) = some s' := h
      cases hj : ixN ds.length i with
      | none => rw [hj] at h; cases h
      | some j =>
        rw [hj] at h
        exact ⟨n, i, ds, j, rfl, rfl, hq, hj, (Option.some.inj h).symm⟩
  · cases h
def nxO (ρ : Env) (o : Option Sto) : Fl := match o with
  | some s => .nx ρ s
  | none => .bad
@[simp] theorem nxO_some (ρ : Env) (s : Sto) : nxO ρ (some s) = .nx ρ s := rfl
def mPut (fl : ML) (fi fe : ME) : MS := fun ρ s => toFl (fe ρ s) fun x s => toFl (fl ρ s) fun b s => toFl (fi ρ s) fun y s => nxO ρ (putAt b y x s)
theorem ss_put {l i : Expr} {fi : ME} {pos2 : Pos} (he : SE X XR E e fa) (hl : SL X XR E l fl) (hi : SE X XR E i fi) (hg : ∀ tl ti, PE X l tl → PE X i ti → ∃ t, PG X (.Subscript l i pos2) t ∧ ∀ v σ H Q, (tl σ H fun o H1 => ti σ H1 fun k H2 => rSetL o k v H2 (Q σ)) → t v σ H Q)
    (hs : swapsWithSole [.Subscript l i pos2] e pos.line X.env = pure false := by rfl) (hw : swappedStores [.Subscript l i pos2] e X.env = pure none := by rfl) (h1 : (assignEach [.Subscript l i pos2] X.env).map (·.2) = [assign (.Subscript l i pos2) X.env] := by rfl) :
    SS X XR E (.Assign [.Subscript l i pos2] e pos) (mPut fl fi fa) := by
  obtain ⟨te, pe, qe⟩ := he
  obtain ⟨tl, pl, ql⟩ := hl
  obtain ⟨ti, pi, qi⟩ := hi
  obtain ⟨t, pg, qg⟩ := hg tl ti pl pi
  refine ⟨_, ps_asg pe pg hs hw h1, fun A Hi ρ s σ H r re D h => ?_⟩
  refine qe A Hi ρ s σ H r re _ (PF.bind h fun x s1 v Hi1 H1 _ e1 r1 d h1 => qg v σ H1 D.nx ?_)
  refine ql A Hi1 ρ s1 σ H1 r1 (re.mono e1.same pfx) _ (PF.bind h1 fun b s2 w Hi2 H2 _ e2 r2 d2 h2 => ?_)
  refine qi A Hi2 ρ s2 σ H2 r2 ((re.mono e1.same pfx).mono e2.same pfx) _ (PF.bind h2 fun y s3 u Hi3 H3 _ e3 r3 d3 h3 => ?_)
  cases hq : putAt b y x s3 with
  | none => rw [hq] at h3; exact h3.elim
  | some s' =>
    rw [hq] at h3
    obtain ⟨n, i, ds, j, rfl, rfl, q1, q2, rfl⟩ := putAt_some hq
    cases (show u = _ from d3)
    obtain ⟨l, hl, rfl⟩ := d2
    obtain ⟨xs, h4, h5⟩ := r3.cel n l ds hl q1
    refine ⟨l, xs, i, j, rfl, rfl, h4, by rw [h5.length]; exact q2, ?_⟩
    have d' := Dq.mono (e2.same.trans e3.same) _ _ d
    exact h3 A Hi3 σ _ (Ext.put (List.mem_of_getElem? hl)).s (r3.put hl (DqA.set j h5 d')) (((re.mono e1.same pfx).mono e2.same pfx).mono e3.same pfx)
/-- xs.append(e), of a list of the store -/
def appAt (b : Sl) (x : PyData) (s : Sto) : Option Sto := match b with
  | .c n => (s[n]?).bind fun ds => if ds.length < 100000 then some (s.set n (ds ++ [x])) else none
  | _ => none
theorem appAt_some {b : Sl} {x : PyData} {s s' : Sto} (h : appAt b x s = some s') : ∃ n ds, b = .c n ∧ s[n]? = some ds ∧ ds.length < 100000 ∧ s' = s.set n (ds ++ [x]) := by
  unfold appAt at h
  split at h
  · rename_i n
    cases hq : s[n]? with
    | none => rw [hq] at h; cases h
    | some ds =>
      rw [hq] at h
      have h : (if ds.length < 100000 then some (s.set n (ds ++ [x])) else none) = some s' := h
      split at h
      · exact ⟨n, ds, rfl, hq, by assumption, (Option.some.inj h).symm⟩
      · cases h
  · cases h
def isC : Sl → Bool
  | .c _ => true
  | _ => false
def mApp (fl : ML) (fa : ME) : MS := fun ρ s => toFl (fl ρ s) fun b s => if isC b = true then (toFl (fa ρ s) fun x s => nxO ρ (appAt b x s)) else .bad
theorem ss_app {l : Expr} {apos cpos : Pos} (hl : SL X XR E l fl) (he : SE X XR E e fa) (hp : ∀ tl te, PE X l tl → PE X e te → PE X (.Call (.Attribute l "append" apos) [e] [] cpos) (tBM X.K "list" rAppend tl (tCons te tNil)))
    (hs : swapsWith (.Call (.Attribute l "append" apos) [e] [] cpos) none pos.line X.env = pure false := by rfl) : SS X XR E (.Expr (.Call (.Attribute l "append" apos) [e] [] cpos) pos) (mApp fl fa) := by
  obtain ⟨te, pe, qe⟩ := he
  obtain ⟨tl, pl, ql⟩ := hl
  refine ⟨_, ps_expr (hp tl te pl pe) hs, fun A Hi ρ s σ H r re D h => ?_⟩
  refine ql A Hi ρ s σ H r re _ (PF.bind h fun b s2 w Hi2 H2 _ e2 r2 d2 h2 => ?_)
  cases b with
  | d x => exact h2.elim
  | s ns => exact h2.elim
  | f _ => exact h2.elim
  | t _ => exact h2.elim
  | c n =>
    obtain ⟨l, hl, rfl⟩ := d2
    have hlt : n < s2.length := by rw [← r2.len]; exact (List.getElem?_eq_some_iff.mp hl).1
    obtain ⟨xs0, h40, _⟩ := r2.cel n l _ hl (List.getElem?_eq_getElem hlt)
    refine ⟨.inl ⟨rfl, xs0, SqL.of h40⟩, ?_⟩
    refine qe A Hi2 ρ s2 σ H2 r2 (re.mono e2.same pfx) _ (PF.bind h2 fun x s3 u Hi3 H3 _ e3 r3 d3 h3 => ?_)
    cases hq : appAt (.c n) x s3 with
    | none => rw [hq] at h3; exact h3.elim
    | some s' =>
      rw [hq] at h3
      obtain ⟨n', ds, e', q1, q2, rfl⟩ := appAt_some hq
      cases e'
      obtain ⟨xs, h4, h5⟩ := r3.cel n l ds hl q1
      refine ⟨l, xs, u, rfl, rfl, h4, by rw [h5.length]; exact Nat.lt_of_lt_of_le q2 (by decide), ?_⟩
      exact h3 A Hi3 σ _ (Ext.put (List.mem_of_getElem? hl)).s (r3.put hl (DqA.snoc h5 d3)) ((re.mono e2.same pfx).mono e3.same pfx)
end
end Mir

namespace Mir
open PySem PySem.Spec PyProof.Rows L2
variable [Tb]
section
variable {X : Cx} {XR : XRel} {E : XK} {a b e : Expr} {fa fb : ME} {fl : ML} {pos p : Pos} {st : Stmt} {g g1 g2 : MS}
/-! ### targets: a name, names in a tuple -/
abbrev MG := PyData → Env → Option Env
theorem wipe_set {σ : L2.St} {i : Nat} {x : Option V} : ∀ {vs : List Nat}, i ∈ vs → wipe (σ.set i x) vs = wipe σ vs
  | [], h => by cases h
  | v :: vs, h => by
    unfold wipe
    by_cases q : i ∈ vs
    · rw [wipe_set q]
    · have hv : i = v := by
        rcases List.mem_cons.mp h with h | h
        · exact h
        · exact absurd h q
      subst hv
      have aux : ∀ us : List Nat, i ∉ us → wipe (σ.set i x) us = (wipe σ us).set i x := by
        intro us
        induction us with
        | nil => intro _; rfl
        | cons u us ih =>
          intro hn
          have h1 : i ≠ u := fun z => hn (by rw [z]; exact List.mem_cons_self)
          have h2 : i ∉ us := fun z => hn (List.mem_cons_of_mem _ z)
          unfold wipe
          rw [ih h2, List.set_comm _ _ h1]
      rw [aux vs q, List.set_set]
structure TGOk (X : Cx) (g : TG) (f : MG) (ix : List Nat) : Prop where
  run : ∀ A Hi ρ s σ H d v, RS X.K A Hi s H → RE X.K A Hi ρ σ → Dq X.K Hi d v → ∀ ρ', f d ρ = some ρ' → ∀ Q : L2.St → Hp → Prop, (∀ σ', RE X.K A Hi ρ' σ' → (∀ vs, (∀ i ∈ ix, i ∈ vs) → wipe σ' vs = wipe σ vs) → Q σ' H) → g v σ H Q
def SG (X : Cx) (tg : Expr) (f : MG) (ix : List Nat) : Prop := ∃ g, PG X tg g ∧ TGOk X g f ix
def gNm (i : Nat) : MG := fun d ρ => some (ρ.set i (some (.d d)))
theorem sg_name (i : Nat) {x : Str} (hN : X.N.Nodup) (hi : X.N[i]? = some x) (hx : Loc X.env.scope x) (hf : X.fn x = true ∨ X.env.scope.names.lookup x = some .local := by first | exact .inl rfl | exact .inr rfl | assumption) : SG X (.Name x pos) (gNm i) [i] := by
  refine ⟨_, pg_name hN hi hx hf, ⟨fun A Hi ρ s σ H d v r re dq ρ' e Q k => ?_⟩⟩
  cases e
  exact k _ (RE.set re (x := .d d) dq) fun vs h => wipe_set (h i (by simp))
def gNms : List Nat → List PyData → Env → Option Env
  | [], [], ρ => some ρ
  | i :: is, d :: ds, ρ => gNms is ds (ρ.set i (some (.d d)))
  | _, _, _ => none
def gTp (is : List Nat) : MG := fun d ρ => match d with
  | .tuple ds => gNms is ds ρ
  | _ => none
def SGs (X : Cx) (ts : List Expr) (is : List Nat) : Prop := ∃ t, PGs X ts t ∧ ∀ A Hi ρ s σ H ds vs, RS X.K A Hi s H → RE X.K A Hi ρ σ → DqA X.K Hi ds vs → ∀ ρ', gNms is ds ρ = some ρ' → ∀ Q : L2.St → Hp → Prop, (∀ σ', RE X.K A Hi ρ' σ' → (∀ ws, (∀ i ∈ is, i ∈ ws) → wipe σ' ws = wipe σ ws) → Q σ' H) → t vs σ H Q
theorem sgs_nil : SGs X [] [] := by
  refine ⟨_, pgs_nil, fun A Hi ρ s σ H ds vs r re dq ρ' e Q k => ?_⟩
  cases ds with
  | nil =>
    cases (show vs = [] from dq)
    cases e
    exact ⟨rfl, k σ re fun _ _ => rfl⟩
  | cons d ds => cases e
theorem sgs_cons {ts : List Expr} {is : List Nat} (i : Nat) {x : Str} (hN : X.N.Nodup) (hi : X.N[i]? = some x) (hx : Loc X.env.scope x) (h : SGs X ts is) (hf : X.fn x = true ∨ X.env.scope.names.lookup x = some .local := by first | exact .inl rfl | exact .inr rfl | assumption)
    (hs : assignEach (.Name x pos :: ts) X.env = (false, assign (.Name x pos) X.env) :: assignEach ts X.env := by rfl) : SGs X (.Name x pos :: ts) (i :: is) := by
  obtain ⟨t, p, q⟩ := h
  refine ⟨_, pgs_cons (pg_name hN hi hx hf) p, fun A Hi ρ s σ H ds vs r re dq ρ' e Q k => ?_⟩
  cases ds with
  | nil => cases e
  | cons d ds =>
    obtain ⟨v, u, rfl, h1, h2⟩ := dq
    refine ⟨v, u, rfl, q A Hi _ s _ H ds u r (RE.set re (x := .d d) h1) h2 ρ' e Q fun σ' re' w => k σ' re' fun ws hw => ?_⟩
    rw [w ws fun j hj => hw j (List.mem_cons_of_mem _ hj)]
    exact wipe_set (hw i List.mem_cons_self)
theorem gNms_len : ∀ {is : List Nat} {ds : List PyData} {ρ ρ' : Env}, gNms is ds ρ = some ρ' → ds.length = is.length
  | [], [], _, _, _ => rfl
  | [], _ :: _, _, _, h => by cases h
  | _ :: _, [], _, _, h => by cases h
  | i :: is, d :: ds, ρ, ρ', h => by rw [List.length_cons, List.length_cons, gNms_len (is := is) (ds := ds) h]
theorem sg_tup {es : List Expr} {is : List Nat} {k : Nat} (hc : X.calm = true) (h : SGs X es is) (hn : (assignEach es X.env).length = is.length := by rfl) (hst : (assignEach es X.env).findIdx? (·.1) = none := by rfl) : SG X (.Tuple es k pos) (gTp is) is := by
  obtain ⟨t, p, q⟩ := h
  refine ⟨_, pg_tup hc p hn hst, ⟨fun A Hi ρ s σ H d v r re dq ρ' e Q k => ?_⟩⟩
  cases d with
  | tuple ds =>
    obtain ⟨a, xs, rfl, h1, h2⟩ := dq
    exact ⟨a, xs, rfl, sqt_mono r.sub h1, by rw [h2.length]; exact gNms_len e, q A Hi ρ s σ H ds xs r re h2 ρ' e Q k⟩
  | _ => cases e
/-- a, b = e, e some data -/
def mTo (f : MG) (fa : ME) : MS := fun ρ s => toFl (fa ρ s) fun x s => match f x ρ with
  | some ρ' => .nx ρ' s
  | none => .bad
theorem ss_to {tg : Expr} {f : MG} {ix : List Nat} (he : SE X XR E e fa) (hg : SG X tg f ix) (hs : swapsWithSole [tg] e pos.line X.env = pure false := by rfl) (hw : swappedStores [tg] e X.env = pure none := by rfl)
    (h1 : (assignEach [tg] X.env).map (·.2) = [assign tg X.env] := by rfl) : SS X XR E (.Assign [tg] e pos) (mTo f fa) := by
  obtain ⟨te, pe, qe⟩ := he
  obtain ⟨g, pg, qg⟩ := hg
  refine ⟨_, ps_asg pe pg hs hw h1, fun A Hi ρ s σ H r re D h => qe A Hi ρ s σ H r re _ (PF.bind h fun x s1 v Hi1 H1 _ e1 r1 d h1 => ?_)⟩
  cases q : f x ρ with
  | none => simp only [q] at h1; exact h1.elim
  | some ρ' =>
    simp only [q] at h1
    exact qg.run A Hi1 ρ s1 σ H1 x v r1 (re.mono e1.same pfx) d ρ' q _ fun σ' re' _ => h1 A Hi1 σ' H1 .refl r1 re'

/-! ### what is walked -/
/-- it yields the items, whatever happens beside what never changes -/
def IOk (K : PySem.W.Frag) (Hi : Hp) (J : It) (ds : List PyData) : Prop := ∀ A' Hi' s' H', Same Hi Hi' → RS K A' Hi' s' H' → ∀ i,
  (∀ d, ds[i]? = some d → J.go i H' ∧ ∀ x H'', J.yld i H' x H'' → ∃ Hi'', Ext A' Hi' H' Hi'' H'' ∧ RS K A' Hi'' s' H'' ∧ Dq K Hi'' d x) ∧ (i = ds.length → J.stop i H')
def SI (X : Cx) (XR : XRel) (E : XK) (tg iter : Expr) (f : MD) : Prop := ∃ wi, PI X tg iter wi ∧ ∀ A Hi ρ s σ H, RS X.K A Hi s H → RE X.K A Hi ρ σ → ∀ R : It → Hp → Prop, PO X.K A Hi H XR E (fun Hi' _ ds J => IOk X.K Hi' J ds) R (f ρ s) → wi σ H R
def iLst (fa : ME) : MD := fun ρ s => (fa ρ s).bind fun x s => match x with
  | .list ds => .ok ds s
  | _ => .bad
def iTpl (fa : ME) : MD := fun ρ s => (fa ρ s).bind fun x s => match x with
  | .tuple ds => .ok ds s
  | _ => .bad
variable {tg : Expr}
theorem si_list (ha : SE X XR E a fa) : SI X XR E tg a (iLst fa) := by
  obtain ⟨t, p, q⟩ := ha
  refine ⟨_, pi_list p, fun A Hi ρ s σ H r re R h => q A Hi ρ s σ H r re _ (PO.bind h fun x s1 v Hi1 H1 _ e1 r1 d h1 => ?_)⟩
  cases x with
  | list ds =>
    obtain ⟨l, xs, rfl, h2, h3⟩ := d
    refine ⟨l, rfl, ⟨xs, SqL.of (r1.sub _ _ h2)⟩, PO.use (R := fun Hi' _ ds J => IOk X.K Hi' J ds) (x := ds) h1 r1 fun A' Hi' s' H' sm r' i => ⟨fun d hd => ?_, fun hl => ?_⟩⟩
    · obtain ⟨v, hv, dv⟩ := DqA.get h3 hd
      have hx : SqL X.K H' l xs := SqL.of (r'.sub _ _ (sm _ _ h2))
      refine ⟨⟨xs, v, hx, hv⟩, fun x H'' y => ?_⟩
      obtain ⟨e, y⟩ := y
      subst e
      have := y xs hx
      rw [hv] at this
      cases this
      exact ⟨Hi', .refl, r', Dq.mono sm _ _ dv⟩
    · exact ⟨xs, SqL.of (r'.sub _ _ (sm _ _ h2)), by rw [h3.length]; omega⟩
  | _ => exact h1.elim
theorem si_tup (ha : SE X XR E a fa) : SI X XR E tg a (iTpl fa) := by
  obtain ⟨t, p, q⟩ := ha
  refine ⟨_, pi_tup p, fun A Hi ρ s σ H r re R h => q A Hi ρ s σ H r re _ (PO.bind h fun x s1 v Hi1 H1 _ e1 r1 d h1 => ?_)⟩
  cases x with
  | tuple ds =>
    obtain ⟨l, xs, rfl, h2, h3⟩ := d
    refine ⟨l, rfl, ⟨xs, sqt_mono r1.sub h2⟩, PO.use (R := fun Hi' _ ds J => IOk X.K Hi' J ds) (x := ds) h1 r1 fun A' Hi' s' H' sm r' i => ⟨fun d hd => ?_, fun hl => ?_⟩⟩
    · obtain ⟨v, hv, dv⟩ := DqA.get h3 hd
      have hx : SqT X.K H' l xs := sqt_mono r'.sub (sqt_mono sm h2)
      refine ⟨⟨xs, v, hx, hv⟩, fun x H'' y => ?_⟩
      obtain ⟨e, y⟩ := y
      subst e
      have := y xs hx
      rw [hv] at this
      cases this
      exact ⟨Hi', .refl, r', Dq.mono sm _ _ dv⟩
    · exact ⟨xs, sqt_mono r'.sub (sqt_mono sm h2), by rw [h3.length]; omega⟩
  | _ => exact h1.elim
def rangeOf (lo : Int) (n : Nat) : List PyData := (List.range n).map fun i => .int (lo + (i : Nat))
theorem range_get {lo : Int} {n i : Nat} {d : PyData} (h : (rangeOf lo n)[i]? = some d) : i < n ∧ d = .int (lo + (i : Nat)) := by
  unfold rangeOf at h
  rw [List.getElem?_map] at h
  by_cases q : i < n
  · rw [List.getElem?_range q] at h
    cases h
    exact ⟨q, rfl⟩
  · rw [List.getElem?_eq_none (by simpa using q)] at h
    cases h
theorem range_len {lo : Int} {n : Nat} : (rangeOf lo n).length = n := by
  unfold rangeOf
  simp
theorem iok_range {K : PySem.W.Frag} {Hi : Hp} {lo : Int} {n : Nat} : IOk K Hi (Itr lo n) (rangeOf lo n) := fun A' Hi' s' H' sm r' i => ⟨fun d hd => by
  obtain ⟨h1, rfl⟩ := range_get hd
  exact ⟨h1, fun x H'' y => by
    obtain ⟨e1, e2⟩ := y
    subst e1 e2
    exact ⟨Hi', .refl, r', rfl⟩⟩, fun hl => by
  rw [range_len] at hl
  exact Nat.le_of_eq hl.symm⟩
def iRg1 (fa : ME) : MD := fun ρ s => (fa ρ s).bind fun x s => match x with
  | .int j => if -(2 ^ 62) ≤ j ∧ j < 2 ^ 62 then .ok (rangeOf 0 j.toNat) s else .bad
  | _ => .bad
theorem si_range1 (hg : Gl X "range") (hm : X.mg "range" = none) (ha : SE X XR E a fa) (h1 : starEach [a] X.env = (false, eval a X.env) :: starEach [] X.env := by rfl) (h2 : starEach [a] X.env = [(false, eval a X.env)] := by rfl) : SI X XR E tg (.Call (.Name "range" p) [a] [] pos) (iRg1 fa) := by
  obtain ⟨t, q, qq⟩ := ha
  refine ⟨_, pi_range1 hg hm (pa_cons q pa_nil h1) h2, fun A Hi ρ s σ H r re R h => qq A Hi ρ s σ H r re _ (PO.bind h fun x s1 v Hi1 H1 _ e1 r1 d h1 => ?_)⟩
  split at h1
  · cases (show v = _ from d)
    split at h1
    · rename_i c
      exact ⟨_, rfl, c.1, c.2, PO.use (R := fun Hi' _ ds J => IOk X.K Hi' J ds) h1 r1 iok_range⟩
    · exact h1.elim
  · exact h1.elim
def iRg2 (fa fb : ME) : MD := fun ρ s => (fa ρ s).bind fun x s => (fb ρ s).bind fun y s => match x, y with
  | .int i, .int j => if (-(2 ^ 62) ≤ i ∧ i < 2 ^ 62) ∧ -(2 ^ 62) ≤ j ∧ j < 2 ^ 62 then .ok (rangeOf i (j - i).toNat) s else .bad
  | _, _ => .bad
theorem si_range2 (hg : Gl X "range") (hm : X.mg "range" = none) (ha : SE X XR E a fa) (hb : SE X XR E b fb) (h1 : starEach [a, b] X.env = (false, eval a X.env) :: starEach [b] X.env := by rfl) (h2 : starEach [b] X.env = (false, eval b X.env) :: starEach [] X.env := by rfl)
    (h3 : starEach [a, b] X.env = [(false, eval a X.env), (false, eval b X.env)] := by rfl) (h4 : starEach [b] X.env = [(false, eval b X.env)] := by rfl) : SI X XR E tg (.Call (.Name "range" p) [a, b] [] pos) (iRg2 fa fb) := by
  obtain ⟨ta, pa, qa⟩ := ha
  obtain ⟨tb, pb, qb⟩ := hb
  refine ⟨_, pi_range2 hg hm (pa_cons pa (pa_cons pb pa_nil h2) h1) h3 h4, fun A Hi ρ s σ H r re R h => ?_⟩
  refine qa A Hi ρ s σ H r re _ (PO.bind h fun x s1 v Hi1 H1 _ e1 r1 d h1 => ?_)
  refine qb A Hi1 ρ s1 σ H1 r1 (re.mono e1.same pfx) _ (PO.bind h1 fun y s2 w Hi2 H2 _ e2 r2 d2 h2 => ?_)
  split at h2
  · cases (show v = _ from d)
    cases (show w = _ from d2)
    split at h2
    · rename_i c
      exact ⟨_, _, rfl, ⟨c.1.1, c.1.2, c.2.1, c.2.2⟩, PO.use (R := fun Hi' _ ds J => IOk X.K Hi' J ds) h2 r2 iok_range⟩
    · exact h2.elim
  · exact h2.elim

/-! ### for -/
def forL (tg : MG) (body : MS) : List PyData → MS
  | [], ρ, s => .nx ρ s
  | d :: ds, ρ, s => match tg d ρ with
    | none => .bad
    | some ρ1 => (match body ρ1 s with
      | .nx ρ2 s2 => forL tg body ds ρ2 s2
      | .ct ρ2 s2 => forL tg body ds ρ2 s2
      | .bk ρ2 s2 => .nx ρ2 s2
      | .rt x s2 => .rt x s2
      | .exc x s2 => .exc x s2
      | .bad => .bad)
def mFor (it : MD) (tg : MG) (body : MS) : MS := fun ρ s => toFl (it ρ s) fun ds s => forL tg body ds ρ s
theorem for_ok {A : List Addr} {Hi H : Hp} {ρ : Env} {s : Sto} {σ : L2.St} {D : Ends} {J : It} {ds : List PyData} {f : MG} {ix : List Nat} {gt : TG} {tb : TS} {body : MS} (r : RS X.K A Hi s H) (re : RE X.K A Hi ρ σ) (hJ : IOk X.K Hi J ds) (hg : TGOk X gt f ix)
    (hb : ∀ A Hi ρ s σ H, RS X.K A Hi s H → RE X.K A Hi ρ σ → ∀ D, PF X.K A Hi H XR E D (body ρ s) → tb D σ H) (h : PF X.K A Hi H XR E D (forL f body ds ρ s)) :
    ∃ W : Nat → Nat → L2.St → Hp → Prop, (∃ m, W 0 m σ H) ∧ ∀ i m σ H, W i m σ H →
      (J.stop i H ∧ D.nx σ H) ∨ (J.go i H ∧ ∃ N : L2.St → Hp → Prop, (∀ σ' H', N σ' H' → ∃ m', m' < m ∧ W (i + 1) m' σ' H') ∧ ∀ x H', J.yld i H x H' → gt x σ H' fun σ2 H2 => tb { D with nx := N, ct := N, bk := D.nx } σ2 H2) := by
  refine ⟨fun i m σ' H' => ∃ A' Hi' ρ' s', Same Hi Hi' ∧ RS X.K A' Hi' s' H' ∧ RE X.K A' Hi' ρ' σ' ∧ m = ds.length - i ∧ i ≤ ds.length ∧ PF X.K A' Hi' H' XR E D (forL f body (ds.drop i) ρ' s'),
    ⟨_, A, Hi, ρ, s, Same.refl _, r, re, rfl, Nat.zero_le _, h⟩, ?_⟩
  rintro i m σ' H' ⟨A', Hi', ρ', s', sm, r', re', rfl, hi, h'⟩
  by_cases hl : i < ds.length
  · obtain ⟨go, yl⟩ := (hJ A' Hi' s' H' sm r' i).1 ds[i] (List.getElem?_eq_getElem hl)
    rw [List.drop_eq_getElem_cons hl] at h'
    refine .inr ⟨go, fun σ2 H2 => ∃ A2 Hi2 ρ2 s2, Same Hi Hi2 ∧ RS X.K A2 Hi2 s2 H2 ∧ RE X.K A2 Hi2 ρ2 σ2 ∧ PF X.K A2 Hi2 H2 XR E D (forL f body (ds.drop (i + 1)) ρ2 s2), ?_, ?_⟩
    · rintro σ2 H2 ⟨A2, Hi2, ρ2, s2, a1, a2, a3, a4⟩
      exact ⟨ds.length - (i + 1), by omega, A2, Hi2, ρ2, s2, a1, a2, a3, rfl, hl, a4⟩
    · intro x H'' y
      obtain ⟨Hi'', e2, r2, d2⟩ := yl x H'' y
      unfold forL at h'
      cases hf : f ds[i] ρ' with
      | none => simp only [hf] at h'; exact h'.elim
      | some ρ1 =>
        simp only [hf] at h'
        refine hg.run A' Hi'' ρ' s' σ' H'' ds[i] x r2 (re'.mono e2.same pfx) d2 ρ1 hf _ fun σ1 re1 _ => ?_
        refine hb A' Hi'' ρ1 s' σ1 H'' r2 re1 _ ?_
        have h2 := PF.back e2.s h'
        cases hB : body ρ1 s' with
        | nx ρ2 s2 =>
          simp only [hB] at h2
          exact fun A3 Hi3 σ3 H3 e3 r3 re3 => ⟨A3, Hi3, ρ2, s2, sm.trans (e2.same.trans e3.ext.same), r3, re3, PF.back e3 h2⟩
        | ct ρ2 s2 =>
          simp only [hB] at h2
          exact fun A3 Hi3 σ3 H3 e3 r3 re3 => ⟨A3, Hi3, ρ2, s2, sm.trans (e2.same.trans e3.ext.same), r3, re3, PF.back e3 h2⟩
        | bk ρ2 s2 => simp only [hB] at h2; exact h2
        | rt x s2 => simp only [hB] at h2; exact h2
        | exc x s2 => simp only [hB] at h2; exact h2
        | bad => simp only [hB] at h2; exact h2
  · have ei : i = ds.length := by omega
    subst ei
    rw [List.drop_length] at h'
    exact .inl ⟨(hJ A' Hi' s' H' sm r' ds.length).2 rfl, h' A' Hi' σ' H' .refl r' re'⟩
theorem ss_for {iter : Expr} {body : List Stmt} {it : MD} {f : MG} {ix : List Nat} {gb : MS} (hp : PassesOwn (model X.prog X.w) X.A X.env X.xe) (hc : X.calm = true) (hi : SI X XR E tg iter it) (hg : SG X tg f ix) (hb : SB X XR E body gb)
    (hs : ∀ x, foldedSetIterable iter X.env x = pure x := by intro _; rfl) : SS X XR E (.For tg iter body [] pos) (mFor it f gb) := by
  obtain ⟨wi, pi, qi⟩ := hi
  obtain ⟨g, pg, qg⟩ := hg
  obtain ⟨tb, pb, qb⟩ := hb
  refine ⟨_, ps_for hp hc pi pg pb hs, fun A Hi ρ s σ H r re D h => qi A Hi ρ s σ H r re _ (PF.bind h fun ds s1 J Hi1 H1 _ e1 r1 d h1 => ?_)⟩
  exact for_ok r1 (re.mono e1.same pfx) d qg qb h1
/-! ### while, with fuel -/
def whileL (m : MT) (body : MS) : Nat → MS
  | 0, _, _ => .bad
  | n + 1, ρ, s => toFl (m ρ s) fun b s => if b = true then (match body ρ s with
      | .nx ρ2 s2 => whileL m body n ρ2 s2
      | .ct ρ2 s2 => whileL m body n ρ2 s2
      | .bk ρ2 s2 => .nx ρ2 s2
      | .rt x s2 => .rt x s2
      | .exc x s2 => .exc x s2
      | .bad => .bad) else .nx ρ s
def mWhile (n : Env → Sto → Nat) (m : MT) (body : MS) : MS := fun ρ s => whileL m body (n ρ s) ρ s
theorem ss_while {c : Expr} {body : List Stmt} {m : MT} {gb : MS} (n : Env → Sto → Nat) (hp : PassesOwn (model X.prog X.w) X.A X.env X.xe) (hc : ST X XR E c m) (hb : SB X XR E body gb) : SS X XR E (.While c body [] pos) (mWhile n m gb) := by
  obtain ⟨tc, pc, qc⟩ := hc
  obtain ⟨tb, pb, qb⟩ := hb
  refine ⟨_, ps_while hp pc pb, fun A Hi ρ s σ H r re D h => ?_⟩
  refine ⟨fun k σ' H' => ∃ A' Hi' ρ' s', RS X.K A' Hi' s' H' ∧ RE X.K A' Hi' ρ' σ' ∧ PF X.K A' Hi' H' XR E D (whileL m gb k ρ' s'), ⟨n ρ s, A, Hi, ρ, s, r, re, h⟩, ?_⟩
  rintro k σ' H' ⟨A', Hi', ρ', s', r', re', h'⟩
  cases k with
  | zero => exact h'.elim
  | succ k =>
    unfold whileL at h'
    refine qc A' Hi' ρ' s' σ' H' r' re' _ (PF.bind h' fun b s1 v Hi1 H1 _ e1 r1 d h1 => ?_)
    cases d
    cases b with
    | false => exact iteF (h1 A' Hi1 σ' H1 .refl r1 (re'.mono e1.same pfx))
    | true =>
      refine iteT ⟨fun σ2 H2 => ∃ A2 Hi2 ρ2 s2, RS X.K A2 Hi2 s2 H2 ∧ RE X.K A2 Hi2 ρ2 σ2 ∧ PF X.K A2 Hi2 H2 XR E D (whileL m gb k ρ2 s2), fun σ2 H2 w => ⟨k, Nat.lt_succ_self _, w⟩, ?_⟩
      refine qb A' Hi1 ρ' s1 σ' H1 r1 (re'.mono e1.same pfx) _ ?_
      rw [if_pos rfl] at h1
      cases hB : gb ρ' s1 with
      | nx ρ2 s2 =>
        simp only [hB] at h1
        exact fun A3 Hi3 σ3 H3 e3 r3 re3 => ⟨A3, Hi3, ρ2, s2, r3, re3, PF.back e3 h1⟩
      | ct ρ2 s2 =>
        simp only [hB] at h1
        exact fun A3 Hi3 σ3 H3 e3 r3 re3 => ⟨A3, Hi3, ρ2, s2, r3, re3, PF.back e3 h1⟩
      | bk ρ2 s2 => simp only [hB] at h1; exact h1
      | rt x s2 => simp only [hB] at h1; exact h1
      | exc x s2 => simp only [hB] at h1; exact h1
      | bad => simp only [hB] at h1; exact h1

/-! ### comprehensions -/
def wipeE (ρ : Env) : List Nat → Env
  | [] => ρ
  | v :: vs => (wipeE ρ vs).set v none
def compL (tg : MG) (m : MT) (fe : ME) (ρ : Env) : List PyData → Sto → Out (List PyData)
  | [], s => .ok [] s
  | d :: ds, s => match tg d ρ with
    | none => .bad
    | some ρ1 => (m ρ1 s).bind fun b s => if b = true then ((fe ρ1 s).bind fun x s => (compL tg m fe ρ ds s).bind fun r s => .ok (x :: r) s) else compL tg m fe ρ ds s
def cComp (it : MD) (tg : MG) (m : MT) (fe : ME) (own : List Nat) : MD := fun ρ s => (it ρ s).bind fun ds s => if ds.length ≤ 100000 then compL tg m fe (wipeE ρ own) ds s else .bad
def mYes : MT := fun _ s => .ok true s
theorem wipeE_set_len (ρ : Env) : ∀ vs : List Nat, (wipeE ρ vs).length = ρ.length
  | [] => rfl
  | v :: vs => by
    unfold wipeE
    rw [List.length_set]
    exact wipeE_set_len ρ vs
theorem RE.wipe {K : PySem.W.Frag} {A : List Addr} {Hi : Hp} {ρ : Env} {σ : L2.St} (h : RE K A Hi ρ σ) : ∀ vs : List Nat, RE K A Hi (wipeE ρ vs) (L2.wipe σ vs)
  | [] => h
  | v :: vs => by
    have ih := RE.wipe h vs
    refine ⟨by unfold wipeE L2.wipe; rw [List.length_set, List.length_set]; exact ih.1, fun i x e => ?_⟩
    unfold wipeE at e
    by_cases q : v = i
    · subst q
      rw [List.getElem?_set_self'] at e
      cases hq : (wipeE ρ vs)[v]? with
      | none => rw [hq] at e; cases e
      | some z => rw [hq] at e; cases e
    · rw [List.getElem?_set_ne q] at e
      obtain ⟨u, h1, h2⟩ := ih.2 i x e
      refine ⟨u, ?_, h2⟩
      unfold L2.wipe
      rw [List.getElem?_set_ne q]
      exact h1
def STs (X : Cx) (XR : XRel) (E : XK) (ifs : List Expr) (f : MT) : Prop := ∃ t, PTs X ifs t ∧ ∀ A Hi ρ s σ H, RS X.K A Hi s H → RE X.K A Hi ρ σ → ∀ Q : Bool → Hp → Prop, PO X.K A Hi H XR E RB Q (f ρ s) → t σ H Q
theorem sts_nil : STs X XR E [] mYes := ⟨_, pts_nil, fun A Hi ρ s σ H r re Q h => PO.use (R := RB) (x := true) h r rfl⟩
theorem sts_one {c : Expr} {m : MT} (h : ST X XR E c m) : STs X XR E [c] m := by
  obtain ⟨t, p, q⟩ := h
  exact ⟨_, pts_one p, q⟩
theorem wipe_get {σ : L2.St} : ∀ (vs : List Nat) (i : Nat), (L2.wipe σ vs)[i]? = if i ∈ vs then (if i < σ.length then some none else none) else σ[i]?
  | [], i => by simp [L2.wipe]
  | v :: vs, i => by
    unfold L2.wipe
    by_cases q : v = i
    · subst q
      rw [List.getElem?_set, if_pos rfl, wipe_length]
      simp
    · rw [List.getElem?_set_ne q, wipe_get vs i]
      have : (i ∈ v :: vs) = (i ∈ vs) := by
        rw [List.mem_cons]
        exact propext ⟨fun h => h.elim (fun z => absurd z.symm q) id, .inr⟩
      simp only [this]
theorem wipe_wipe (σ : L2.St) (vs : List Nat) : L2.wipe (L2.wipe σ vs) vs = L2.wipe σ vs := by
  apply List.ext_getElem?
  intro i
  rw [wipe_get vs i, wipe_get vs i, wipe_length]
  split
  · rfl
  · rfl
theorem PO.bindB {α β γ δ : Type} {K : PySem.W.Frag} {A : List Addr} {Hi H Hi1 H1 : Hp} {R : Hp → Hp → α → β → Prop} {R' : Hp → Hp → γ → δ → Prop} {Q : β → Hp → Prop} {Q' : δ → Hp → Prop} {o : Out α} {k : α → Sto → Out γ} (ex : Ext A Hi1 H1 Hi H) (h : PO K A Hi1 H1 XR E R' Q' (o.bind k))
    (g : ∀ x s v Hi2 H2, o = .ok x s → Ext A Hi H Hi2 H2 → RS K A Hi2 s H2 → R Hi2 H2 x v → PO K A Hi1 H1 XR E R' Q' (k x s) → Q v H2) : PO K A Hi H XR E R Q o := by
  cases o with
  | ok x s => exact fun v H1 H2 e1 r d => g x s v H1 H2 rfl e1 r d h
  | exc x s => exact fun c d H1 H2 e1 r q => h c d H1 H2 (ex.trans e1) r q
  | bad => exact h
theorem Ext.side {A : List Addr} {Hi H Hi' H' : Hp} {C : Addr} {o : HO} (e : Ext A Hi H Hi' H') (n : H C = none) : Ext A Hi H Hi' (upd H' C o) := by
  refine ⟨e.same, fun b u m k q => ?_, fun b q => ?_, e.new⟩
  · rw [upd_ne (ne_of_none q n)]
    exact e.keep b u m k q
  · by_cases z : b = C
    · subst z
      exact n
    · rw [upd_ne z] at q
      exact e.there b q
theorem RS.side {K : PySem.W.Frag} {A : List Addr} {Hi H : Hp} {s : Sto} {C : Addr} {o : HO} (r : RS K A Hi s H) (n : Hi C = none) (m : C ∉ A) (z : H C = none ∨ ∃ xs, H C = some (.lst xs)) : RS K A Hi s (upd H C o) := by
  refine ⟨fun b u e => ?_, r.out, r.nd, r.len, fun i a ds ha hs => ?_, z.elim (fun z => tabs_upd r.tab z) fun ⟨_, z⟩ => tabs_put r.tab z, r.nt⟩
  · rw [upd_ne (ne_of_none e n)]
    exact r.sub _ _ e
  · obtain ⟨xs, e, d⟩ := r.cel i a ds ha hs
    exact ⟨xs, by rw [upd_ne (fun z => m (by rw [← z]; exact List.mem_of_getElem? ha))]; exact e, d⟩
/-- the reading of a comprehension -/
theorem comp_ok {wi : TI} {gt : TG} {tt : TT} {te : TE} {own : List Nat} {it : MD} {f : MG} {ix : List Nat} {m : MT} {fe : ME} {A : List Addr} {Hi H : Hp} {ρ : Env} {s : Sto} {σ : L2.St} {Q : VK}
    (qi : ∀ A Hi ρ s σ H, RS X.K A Hi s H → RE X.K A Hi ρ σ → ∀ R : It → Hp → Prop, PO X.K A Hi H XR E (fun Hi' _ ds J => IOk X.K Hi' J ds) R (it ρ s) → wi σ H R) (qg : TGOk X gt f ix) (hix : ∀ i ∈ ix, i ∈ own)
    (qt : ∀ A Hi ρ s σ H, RS X.K A Hi s H → RE X.K A Hi ρ σ → ∀ Q : Bool → Hp → Prop, PO X.K A Hi H XR E RB Q (m ρ s) → tt σ H Q) (qe : ∀ A Hi ρ s σ H, RS X.K A Hi s H → RE X.K A Hi ρ σ → ∀ Q : VK, PO X.K A Hi H XR E (RD X.K) Q (fe ρ s) → te σ H Q)
    (r : RS X.K A Hi s H) (re : RE X.K A Hi ρ σ) (h : PO X.K A Hi H XR E (RF X.K A H) Q (cComp it f m fe own ρ s)) : tLc wi gt tt te own σ H Q := by
  refine qi A Hi ρ s σ H r re _ (PO.bindB .refl h fun ds s1 J Hi1 H1 _ e1 r1 hJ h1 => ?_)
  intro C hC
  have hC0 : H C = none := e1.there C hC
  have hCA : C ∉ A := r1.notin hC
  split at h1
  · rename_i hlen
    have reW := RE.wipe (re.mono e1.same pfx) own
    -- the state at a turn: the list at C holds what is made so far
    refine ⟨fun i k H' => ∃ Hi' s' acc accD, Ext A Hi H Hi' H' ∧ Same Hi1 Hi' ∧ RS X.K A Hi' s' H' ∧ H' C = some (.lst acc) ∧ Hi' C = none ∧ DqA X.K Hi' accD acc ∧ acc.length ≤ i ∧ k = ds.length - i ∧ i ≤ ds.length ∧
        PO X.K A Hi H XR E (RF X.K A H) Q ((compL f m fe (wipeE ρ own) (ds.drop i) s').bind fun r s => .ok (accD ++ r) s), ⟨_, Hi1, s1, [], [], e1.trans (Ext.fresh1 hC), Same.refl _, r1.new1 hC, upd_same, r1.fresh hC, rfl, Nat.zero_le _, rfl, Nat.zero_le _, ?_⟩, ?_⟩
    · rw [List.drop_zero]
      cases hq : compL f m fe (wipeE ρ own) ds s1 with
      | ok x s => rw [hq] at h1; exact h1
      | exc x s => rw [hq] at h1; exact h1
      | bad => rw [hq] at h1; exact h1
    · rintro i k H' ⟨Hi', s', acc, accD, ex, sm, r', hc, hn, da, hle, rfl, hi, h'⟩
      by_cases hl : i < ds.length
      · obtain ⟨go, yl⟩ := (hJ A Hi' s' H' sm r' i).1 ds[i] (List.getElem?_eq_getElem hl)
        rw [List.drop_eq_getElem_cons hl] at h'
        refine .inr ⟨go, fun H' => ∃ Hi' s' acc accD, Ext A Hi H Hi' H' ∧ Same Hi1 Hi' ∧ RS X.K A Hi' s' H' ∧ H' C = some (.lst acc) ∧ Hi' C = none ∧ DqA X.K Hi' accD acc ∧ acc.length ≤ i + 1 ∧
          PO X.K A Hi H XR E (RF X.K A H) Q ((compL f m fe (wipeE ρ own) (ds.drop (i + 1)) s').bind fun r s => .ok (accD ++ r) s), ?_, ?_⟩
        · rintro H2 ⟨Hi2, s2, acc2, accD2, a1, a2, a3, a4, a5, a6, a7, a8⟩
          exact ⟨_, by omega, Hi2, s2, acc2, accD2, a1, a2, a3, a4, a5, a6, a7, rfl, hl, a8⟩
        · intro x H'' y
          obtain ⟨Hi'', e2, r2, d2⟩ := yl x H'' y
          unfold compL at h'
          cases hf : f ds[i] (wipeE ρ own) with
          | none => simp only [hf] at h'; exact h'.elim
          | some ρ1 =>
            simp only [hf] at h'
            refine qg.run A Hi'' (wipeE ρ own) s' (L2.wipe σ own) H'' ds[i] x r2 (reW.mono (sm.trans e2.same) pfx) d2 ρ1 hf _ fun σ1 re1 hw => ⟨by rw [hw own hix, wipe_wipe], ?_⟩
            have ex2 := ex.trans e2
            have hc2 : H'' C = some (.lst acc) := e2.keep C _ hCA (by intro _ z; cases z) hc
            have hn2 : Hi'' C = none := e2.new C hn (by rw [hc]; intro z; cases z)
            have h'2 : PO X.K A Hi H XR E (RF X.K A H) Q ((m ρ1 s').bind fun b s => (if b = true then ((fe ρ1 s).bind fun x s => (compL f m fe (wipeE ρ own) (ds.drop (i + 1)) s).bind fun r s => .ok (x :: r) s) else compL f m fe (wipeE ρ own) (ds.drop (i + 1)) s).bind fun r s => .ok (accD ++ r) s) := by
              cases hq : m ρ1 s' with
              | ok x s => rw [hq] at h'; exact h'
              | exc x s => rw [hq] at h'; exact h'
              | bad => rw [hq] at h'; exact h'
            refine qt A Hi'' ρ1 s' σ1 H'' r2 re1 _ (PO.bindB ex2 h'2 fun b s3 v3 Hi3 H3 _ e3 r3 d3 h3 => ?_)
            cases d3
            have ex3 := ex2.trans e3
            have hc3 : H3 C = some (.lst acc) := e3.keep C _ hCA (by intro _ z; cases z) hc2
            have hn3 : Hi3 C = none := e3.new C hn2 (by rw [hc2]; intro z; cases z)
            cases b with
            | false =>
              rw [if_neg Bool.false_ne_true] at h3
              exact iteF ⟨Hi3, s3, acc, accD, ex3, sm.trans (e2.same.trans e3.same), r3, hc3, hn3, DqA.mono (e2.same.trans e3.same) _ _ da, by omega, h3⟩
            | true =>
              rw [if_pos rfl] at h3
              have h32 : PO X.K A Hi H XR E (RF X.K A H) Q ((fe ρ1 s3).bind fun x s => (compL f m fe (wipeE ρ own) (ds.drop (i + 1)) s).bind fun r s => .ok ((accD ++ [x]) ++ r) s) := by
                cases hq : fe ρ1 s3 with
                | ok x s =>
                  rw [hq] at h3
                  cases hq2 : compL f m fe (wipeE ρ own) (ds.drop (i + 1)) s with
                  | ok r s => simp only [Out.bind, hq2] at h3 ⊢; rw [List.append_assoc]; exact h3
                  | exc x s => simp only [Out.bind, hq2] at h3 ⊢; exact h3
                  | bad => simp only [Out.bind, hq2] at h3 ⊢; exact h3
                | exc x s => rw [hq] at h3; exact h3
                | bad => rw [hq] at h3; exact h3
              refine iteT (qe A Hi3 ρ1 s3 σ1 H3 r3 (re1.mono e3.same pfx) _ (PO.bindB ex3 h32 fun y s4 w Hi4 H4 _ e4 r4 d4 h4 => ?_))
              have hc4 : H4 C = some (.lst acc) := e4.keep C _ hCA (by intro _ z; cases z) hc3
              have hn4 : Hi4 C = none := e4.new C hn3 (by rw [hc3]; intro z; cases z)
              refine ⟨acc, hc4, Nat.lt_of_lt_of_le (Nat.lt_of_le_of_lt hle (Nat.lt_of_lt_of_le hl hlen)) (by decide), Hi4, s4, acc ++ [w], accD ++ [y], (ex3.trans e4).side hC0, sm.trans ((e2.same.trans e3.same).trans e4.same), r4.side hn4 hCA (.inr ⟨_, hc4⟩), upd_same, hn4, ?_, ?_, h4⟩
              · exact DqA.snoc (DqA.mono ((e2.same.trans e3.same).trans e4.same) _ _ da) d4
              · rw [List.length_append, List.length_singleton]
                omega
      · have ei : i = ds.length := by omega
        subst ei
        rw [List.drop_length] at h'
        refine .inl ⟨(hJ A Hi' s' H' sm r' ds.length).2 rfl, ?_⟩
        exact PO.out (R := RF X.K A H) (x := accD ++ []) h' ex r' ⟨C, acc, rfl, hc, hn, hC0, hCA, by rw [List.append_nil]; exact da⟩
  · exact h1.elim
/-! the readings that the mirrors ask, which hang on no place -/
def tOf (K : PySem.W.Frag) (XR : XRel) (E : XK) (f : ME) : TE := fun σ H Q => ∃ A Hi ρ s, RS K A Hi s H ∧ RE K A Hi ρ σ ∧ PO K A Hi H XR E (RD K) Q (f ρ s)
def ttOf (K : PySem.W.Frag) (XR : XRel) (E : XK) (f : MT) : TT := fun σ H Q => ∃ A Hi ρ s, RS K A Hi s H ∧ RE K A Hi ρ σ ∧ PO K A Hi H XR E RB Q (f ρ s)
def tgOf (K : PySem.W.Frag) (f : MG) (ix : List Nat) : TG := fun v σ H Q => ∃ A Hi ρ s d ρ', RS K A Hi s H ∧ RE K A Hi ρ σ ∧ Dq K Hi d v ∧ f d ρ = some ρ' ∧ ∀ σ', RE K A Hi ρ' σ' → (∀ vs, (∀ i ∈ ix, i ∈ vs) → L2.wipe σ' vs = L2.wipe σ vs) → Q σ' H
theorem SE.pe {f : ME} (h : SE X XR E e f) : PE X e (tOf X.K XR E f) := by
  obtain ⟨t, p, q⟩ := h
  exact ⟨fun pins s σ H Q I ⟨A, Hi, ρ, s', r, re, z⟩ => p.run pins s σ H Q I (q A Hi ρ s' σ H r re Q z)⟩
theorem STs.pts {ifs : List Expr} {f : MT} (h : STs X XR E ifs f) : PTs X ifs (ttOf X.K XR E f) := by
  obtain ⟨t, p, q⟩ := h
  exact ⟨fun pins s σ H Q I ⟨A, Hi, ρ, s', r, re, z⟩ => p.run pins s σ H Q I (q A Hi ρ s' σ H r re Q z)⟩
theorem SG.pg {f : MG} {ix : List Nat} (h : SG X tg f ix) : PG X tg (tgOf X.K f ix) := by
  obtain ⟨t, p, q⟩ := h
  exact ⟨fun pins s σ H v u Q I rv ⟨A, Hi, ρ, s', d, ρ', r, re, dq, e, k⟩ => p.run pins s σ H v u Q I rv (q.run A Hi ρ s' σ H d v r re dq ρ' e Q k)⟩
section
variable {elt iter : Expr} {ifs : List Expr} {scope : Scope} {own : List (Str × Nat)} {it : MD} {f : MG} {ix : List Nat} {m : MT} {fe : ME}
theorem sc_comp (hc : X.calm = true) (hN : X.N.Nodup) (hi : SI X XR E tg iter it) (ok : BlkOk X.N X.env.scope scope own)
    (hg : ∀ (s : Shared) (H : Hp) (C : Addr) (cl : List (Str × Addr)) (fp : List Addr), SG (X.blk s H scope (compEnvC scope cl C X.env) fp) tg f ix)
    (ht : ∀ (s : Shared) (H : Hp) (C : Addr) (cl : List (Str × Addr)) (fp : List Addr), STs (X.blk s H scope (compEnvC scope cl C X.env) fp) XR E ifs m)
    (he : ∀ (s : Shared) (H : Hp) (C : Addr) (cl : List (Str × Addr)) (fp : List Addr), SE (X.blk s H scope (compEnvC scope cl C X.env) fp) XR E elt fe)
    (hix : ∀ i ∈ ix, i ∈ own.map (·.2) := by decide) (hs : ∀ x, foldedSetIterable iter X.env x = pure x := by intro _; rfl) : SC X XR E (.ListComp elt [⟨tg, iter, ifs, 0⟩] scope pos) (cComp it f m fe (own.map (·.2))) := by
  obtain ⟨wi, pi, qi⟩ := hi
  exact ⟨_, pe_lc (g := tgOf X.K f ix) (tt := ttOf X.K XR E m) (te := tOf X.K XR E fe) hc hN pi ok (fun s H C cl fp => (hg s H C cl fp).pg) (fun s H C cl fp => (ht s H C cl fp).pts) (fun s H C cl fp => (he s H C cl fp).pe) hs, fun A Hi ρ s σ H r re Q h =>
    comp_ok qi ⟨fun A Hi ρ s σ H d v r re dq ρ' e Q k => ⟨A, Hi, ρ, s, d, ρ', r, re, dq, e, k⟩⟩ hix (fun A Hi ρ s σ H r re Q h => ⟨A, Hi, ρ, s, r, re, h⟩) (fun A Hi ρ s σ H r re Q h => ⟨A, Hi, ρ, s, r, re, h⟩) r re h⟩
/-- name = [..] on one line: data at the name -/
theorem ss_setLc (i : Nat) {y : Str} {py spos : Pos} (hc : X.calm = true) (hN : X.N.Nodup) (hy : X.N[i]? = some y) (hyl : X.env.scope.names.lookup y = some .local)
    (hsw : swapsWith (.ListComp elt [⟨tg, iter, ifs, 0⟩] scope pos) (some (.Name y py)) spos.line X.env = pure true) (hi : SI X XR E tg iter it) (ok : BlkOk X.N X.env.scope scope own)
    (hg : ∀ (s : Shared) (H : Hp) (C : Addr) (cl : List (Str × Addr)) (fp : List Addr), SG (X.blk s H scope (compEnvC scope cl C X.env) fp) tg f ix)
    (ht : ∀ (s : Shared) (H : Hp) (C : Addr) (cl : List (Str × Addr)) (fp : List Addr), STs (X.blk s H scope (compEnvC scope cl C X.env) fp) XR E ifs m)
    (he : ∀ (s : Shared) (H : Hp) (C : Addr) (cl : List (Str × Addr)) (fp : List Addr), SE (X.blk s H scope (compEnvC scope cl C X.env) fp) XR E elt fe)
    (hix : ∀ i ∈ ix, i ∈ own.map (·.2) := by decide) (hs : ∀ x, foldedSetIterable iter X.env x = pure x := by intro _; rfl) :
    SS X XR E (.Assign [.Name y py] (.ListComp elt [⟨tg, iter, ifs, 0⟩] scope pos) spos) (mSet i (eFr (cComp it f m fe (own.map (·.2))))) := by
  obtain ⟨wi, pi, qi⟩ := hi
  refine ⟨_, ps_setLc (g := tgOf X.K f ix) (tt := ttOf X.K XR E m) (te := tOf X.K XR E fe) hc hN hy hyl hsw pi ok (fun s H C cl fp => (hg s H C cl fp).pg) (fun s H C cl fp => (ht s H C cl fp).pts) (fun s H C cl fp => (he s H C cl fp).pe) hs, fun A Hi ρ s σ H r re D h => ?_⟩
  refine comp_ok qi ⟨fun A Hi ρ s σ H d v r re dq ρ' e Q k => ⟨A, Hi, ρ, s, d, ρ', r, re, dq, e, k⟩⟩ hix (fun A Hi ρ s σ H r re Q h => ⟨A, Hi, ρ, s, r, re, h⟩) (fun A Hi ρ s σ H r re Q h => ⟨A, Hi, ρ, s, r, re, h⟩) r re ?_
  have h2 : PO X.K A Hi H XR E (RD X.K) (fun v H' => gName i v σ H' D.nx) (eFr (cComp it f m fe (own.map (·.2))) ρ s) := PF.bind h fun x s1 v Hi1 H1 _ e1 r1 d h1 => h1 A Hi1 _ H1 .refl r1 (RE.set (re.mono e1.same pfx) (x := .d x) d)
  unfold eFr at h2
  cases hf : cComp it f m fe (own.map (·.2)) ρ s with
  | ok ds s1 =>
    rw [hf] at h2
    rintro v Hi' H' e1 r1 ⟨a, xs, rfl, q1, q2, q3, q4, q5⟩
    refine h2 (.ref a) (upd Hi' a (.lst xs)) H' ⟨e1.same.trans (same_upd q2), e1.keep, e1.there, fun b hb hb2 => ?_⟩ (r1.own q1 q2 q4) ⟨a, xs, rfl, upd_same, DqA.mono (same_upd q2) _ _ q5⟩
    have hne : b ≠ a := fun z => by
      subst z
      exact hb2 q3
    rw [upd_ne hne]
    exact e1.new b hb hb2
  | exc x s1 => rw [hf] at h2; exact h2
  | bad => rw [hf] at h2; exact h2
/-- the same: a list of the store -/
theorem ss_setLcC (i : Nat) {y : Str} {py spos : Pos} (hc : X.calm = true) (hN : X.N.Nodup) (hy : X.N[i]? = some y) (hyl : X.env.scope.names.lookup y = some .local)
    (hsw : swapsWith (.ListComp elt [⟨tg, iter, ifs, 0⟩] scope pos) (some (.Name y py)) spos.line X.env = pure true) (hi : SI X XR E tg iter it) (ok : BlkOk X.N X.env.scope scope own)
    (hg : ∀ (s : Shared) (H : Hp) (C : Addr) (cl : List (Str × Addr)) (fp : List Addr), SG (X.blk s H scope (compEnvC scope cl C X.env) fp) tg f ix)
    (ht : ∀ (s : Shared) (H : Hp) (C : Addr) (cl : List (Str × Addr)) (fp : List Addr), STs (X.blk s H scope (compEnvC scope cl C X.env) fp) XR E ifs m)
    (he : ∀ (s : Shared) (H : Hp) (C : Addr) (cl : List (Str × Addr)) (fp : List Addr), SE (X.blk s H scope (compEnvC scope cl C X.env) fp) XR E elt fe)
    (hix : ∀ i ∈ ix, i ∈ own.map (·.2) := by decide) (hs : ∀ x, foldedSetIterable iter X.env x = pure x := by intro _; rfl) :
    SS X XR E (.Assign [.Name y py] (.ListComp elt [⟨tg, iter, ifs, 0⟩] scope pos) spos) (mSetC i (cComp it f m fe (own.map (·.2)))) := by
  obtain ⟨wi, pi, qi⟩ := hi
  refine ⟨_, ps_setLc (g := tgOf X.K f ix) (tt := ttOf X.K XR E m) (te := tOf X.K XR E fe) hc hN hy hyl hsw pi ok (fun s H C cl fp => (hg s H C cl fp).pg) (fun s H C cl fp => (ht s H C cl fp).pts) (fun s H C cl fp => (he s H C cl fp).pe) hs, fun A Hi ρ s σ H r re D h => ?_⟩
  exact comp_ok qi ⟨fun A Hi ρ s σ H d v r re dq ρ' e Q k => ⟨A, Hi, ρ, s, d, ρ', r, re, dq, e, k⟩⟩ hix (fun A Hi ρ s σ H r re Q h => ⟨A, Hi, ρ, s, r, re, h⟩) (fun A Hi ρ s σ H r re Q h => ⟨A, Hi, ρ, s, r, re, h⟩) r re (setC_ok re h)
end
end
end Mir

namespace Mir
open PySem PySem.Spec PyProof.Rows L2
variable [Tb]
/-! ### zip of a list or a tuple and of a list or a tuple -/
def gK (t : Bool) (K : PySem.W.Frag) (H : Hp) (a : Addr) (xs : List V) : Prop := match t with
  | true => SqT K H a xs
  | false => SqL K H a xs
def itK (t : Bool) (h : Heap) (it l : Addr) (i : Nat) : Prop := match t with
  | true => h.IsTupleIter it l i
  | false => h.IsListIter it l i
def sqK (t : Bool) (h : Heap) (l : Addr) (vs : Array Value) : Prop := match t with
  | true => h.IsTuple l vs
  | false => h.IsList l vs
theorem itK_obj {t : Bool} {h : Heap} {it l : Addr} {i : Nat} (x : itK t h it l i) : ∃ o, h.get? it = some o ∧ ∀ v, o.data ≠ .cell v := by
  cases t with
  | true =>
    obtain ⟨o, e, _, d⟩ := x
    exact ⟨o, e, fun v q => by rw [d] at q; cases q⟩
  | false =>
    obtain ⟨o, e, _, d⟩ := x
    exact ⟨o, e, fun v q => by rw [d] at q; cases q⟩
theorem itK_at {t : Bool} {h h' : Heap} {it l : Addr} {i : Nat} (x : itK t h it l i) (e : ∀ o, h.get? it = some o → h'.get? it = some o) : itK t h' it l i := by
  cases t with
  | true => exact Heap.IsTupleIter.at x e
  | false => exact Heap.IsListIter.at x e
theorem draws_k {prog : Program} {w : World} {A : Around} (t : Bool) (hh : A.handled = none) (it l : Addr) (hne : l ≠ it) (vs : Array Value) : Draws prog w A it [it, l] vs.size (fun i v => vs[i]? = some v) (fun i h => itK t h it l i ∧ sqK t h l vs) := by
  cases t with
  | true => exact Draws.tuple hh it l hne vs
  | false => exact Draws.list hh it l hne vs
section
variable {X : Cx} {pins : List (Addr × Obj)} {σ : L2.St} {H : Hp} {s : Shared}
theorem gK_vals {t : Bool} {a : Addr} {xs : List V} (I : Inv X pins σ H s) (h : gK t X.K H a xs) : ∃ us : List Value, Vals xs us ∧ sqK t s.heap a us.toArray ∧ a < s.heap.objs.size := by
  cases t with
  | true =>
    obtain ⟨us, r, p, _⟩ := I.tuple h
    exact ⟨us, r, p, p.lt⟩
  | false =>
    obtain ⟨us, r, p, _⟩ := I.list h
    exact ⟨us, r, p.isList, p.lt⟩
theorem gK_inj {t : Bool} {a : Addr} {xs ys : List V} (I : Inv X pins σ H s) (h : gK t X.K H a xs) (h' : gK t X.K H a ys) : xs = ys := by
  cases t with
  | true => exact I.tuple_inj h h'
  | false => exact I.list_inj h h'
end
def Izm (K : PySem.W.Frag) (t u : Bool) (a b : Addr) : It :=
  ⟨fun i H => ∃ (xs ys : List V) (x y : V), gK t K H a xs ∧ gK u K H b ys ∧ xs[i]? = some x ∧ ys[i]? = some y,
   fun i H v H' => ∃ p x y, v = .ref p ∧ H p = none ∧ H' = upd H p (.tup [x, y]) ∧ (∀ xs, gK t K H a xs → xs[i]? = some x) ∧ ∀ ys, gK u K H b ys → ys[i]? = some y,
   fun i H => ∃ xs ys : List V, gK t K H a xs ∧ gK u K H b ys ∧ i ≤ xs.length ∧ i ≤ ys.length ∧ (i = xs.length ∨ i = ys.length)⟩
structure Zst (t u : Bool) (z c d i1 i2 a b : Addr) (i : Nat) (h : Heap) : Prop where
  hz : IsZip h z c d .none
  hc : IsTupOf2 h c (.ref i1) (.ref i2)
  hd : ∃ x y, IsTupOf2 h d x y
  h1 : itK t h i1 a i
  h2 : itK u h i2 b i
theorem sep_of {z c d i1 i2 a b : Addr} (D : ZipApart z c d i1 i2 a b) (n1 : i1 ≠ b) (n2 : i2 ≠ a) (n3 : b ≠ z) (n4 : b ≠ d) : ZipSep2 z c d i1 i2 [i1, a] [i2, b] where
  TIz := D.TIz
  TOz := D.TOz
  TITO := D.TITO
  TIi1 := D.TIi1
  mem1 := by simp
  zf1 := by simp [D.i1z.symm, D.l1z.symm]
  Tf1 := by simp [D.TOi1, D.l1TO.symm]
  TIi2 := D.TIi2
  mem2 := by simp
  zf2 := by simp [D.i2z.symm, n3.symm]
  Tf2 := by simp [D.TOi2, n4.symm]
  sep1_2 := by simp [D.i12, n1]
  sep2_1 := by simp [D.i12.symm, n2]
theorem turn_zm {P : Program} {w : World} {K : PySem.W.Frag} {es : List Expr} {k : Nat} {tp : Pos} {t u : Bool} {a b z c d i1 i2 : Addr} (S : ZipSep2 z c d i1 i2 [i1, a] [i2, b]) (n1 : a ≠ i1) (n2 : b ≠ i2) :
    Turn P w K (.Tuple es k tp) (Izm K t u a b) [z, c, d, i1, i2] z (Zst t u z c d i1 i2 a b) where
  mem := List.mem_cons_self
  obj := fun i h st y hy => by
    simp only [List.mem_cons, List.not_mem_nil, or_false] at hy
    rcases hy with rfl | rfl | rfl | rfl | rfl
    · exact ⟨_, st.hz, fun _ => by intro q; cases q⟩
    · exact ⟨_, st.hc, fun _ => by intro q; cases q⟩
    · obtain ⟨_, _, q⟩ := st.hd
      exact ⟨_, q, fun _ => by intro q; cases q⟩
    · exact itK_obj st.h1
    · exact itK_obj st.h2
  keep := fun i h h' st kk => by
    obtain ⟨x, y, q⟩ := st.hd
    exact ⟨kk z (by simp) _ st.hz, kk c (by simp) _ st.hc, ⟨x, y, kk d (by simp) _ q⟩, itK_at st.h1 fun o e => kk i1 (by simp) o e, itK_at st.h2 fun o e => kk i2 (by simp) o e⟩
  item := by
    intro X hP hw hK calm i pins s σ H E I hf st go
    subst hP hw hK
    obtain ⟨x0, y0, hd0⟩ := st.hd
    obtain ⟨xs, ys, x, y, gx, gy, ex, ey⟩ := go
    obtain ⟨us, r1, p1, _⟩ := gK_vals I gx
    obtain ⟨vs, r2, p2, _⟩ := gK_vals I gy
    obtain ⟨v1, e1, q1⟩ := r1.get ex
    obtain ⟨v2, e2, q2⟩ := r2.get ey
    have hh : X.A.in1.handled = none := I.ok.hd calm
    have D1 := draws_k (prog := X.prog) (w := X.w) t hh i1 a n1 us.toArray
    have D2 := draws_k (prog := X.prog) (w := X.w) u hh i2 b n2 vs.toArray
    have l1 : i < us.toArray.size := by simpa using (List.getElem?_eq_some_iff.mp e1).1
    have l2 : i < vs.toArray.size := by simpa using (List.getElem?_eq_some_iff.mp e2).1
    refine wpAny_pyNext_zipD2_item S D1 D2 st.hz st.hc hd0 ⟨st.h1, p1⟩ ⟨st.h2, p2⟩ l1 l2 fun w1 w2 h' tk a1 a2 z1 z2 st1 st2 hT hsz kp => ?_
    have b1 : w1 = v1 := by
      have a1' : us.toArray[i]? = some w1 := a1
      rw [List.getElem?_toArray, e1] at a1'
      exact (Option.some.inj a1').symm
    have b2 : w2 = v2 := by
      have a2' : vs.toArray[i]? = some w2 := a2
      rw [List.getElem?_toArray, e2] at a2'
      exact (Option.some.inj a2').symm
    subst b1 b2
    have zlt : z < s.heap.objs.size := Heap.lt_size st.hz
    refine ⟨_, rfl, wpAny_letOwnedTupleGo_zip (s := { s with heap := h', toks := tk }) z1 fun h2 z3 sb => ?_⟩
    have hT2 : h2.get? s.heap.objs.size = some { cls := .type "tuple", data := .seq #[w1, w2] } := (sb.2 _ (Nat.ne_of_gt zlt)).trans hT
    have ok : ObjOk X.prog X.w (upd H s.heap.objs.size (.tup [x, y])) h2 s.heap.objs.size (.tup [x, y]) := ⟨by show 2 ≤ sizeLine; decide, [w1, w2], .cons q1 (.cons q2 .nil), _, hT2, rfl, _, rfl⟩
    have kp2 : ∀ e o, e ∉ [z, c, d, i1, i2] → s.heap.get? e = some o → h2.get? e = some o := fun e o ne he => by
      simp only [List.mem_cons, List.not_mem_nil, or_false, not_or] at ne
      exact (sb.2 e ne.1).trans (kp e o ne.1 ne.2.2.1 ne.2.2.2.1 ne.2.2.2.2 he)
    refine ⟨.ref s.heap.objs.size, _, I.turnedNew (t' := tk) (ch := [z, c, d, i1, i2]) kp2 hf (Nat.le_refl _) ok, rfl, ⟨_, x, y, rfl, I.hok.fresh (Nat.le_refl _), rfl, fun l hl => by rw [gK_inj I hl gx]; exact ex, fun l hl => by rw [gK_inj I hl gy]; exact ey⟩, ⟨z3, ?_, ⟨w1, w2, ?_⟩, ?_, ?_⟩, fun e he => ?_⟩
    · have hcc : h'.get? c = _ := kp c _ S.TIz S.TITO S.TIi1 S.TIi2 st.hc
      exact (sb.2 _ S.TIz).trans hcc
    · exact (sb.2 _ S.TOz).trans z2
    · exact itK_at st1.1 fun o q => (sb.2 _ S.zi1.symm).trans q
    · exact itK_at st2.1 fun o q => (sb.2 _ S.zi2.symm).trans q
    · have hlt : e < s.heap.objs.size := by
        simp only [List.mem_cons, List.not_mem_nil, or_false] at he
        rcases he with rfl | rfl | rfl | rfl | rfl
        · exact zlt
        · exact Heap.lt_size st.hc
        · exact Heap.lt_size hd0
        · obtain ⟨_, q, _⟩ := itK_obj st.h1
          exact Heap.lt_size q
        · obtain ⟨_, q, _⟩ := itK_obj st.h2
          exact Heap.lt_size q
      rw [upd_ne (Nat.ne_of_lt hlt)]
      exact (hf e he).1
  done := by
    intro X hP hw hK calm i pins s σ H E I hf st stop
    subst hP hw hK
    obtain ⟨x0, y0, hd0⟩ := st.hd
    obtain ⟨xs, ys, gx, gy, le1, le2, hend⟩ := stop
    obtain ⟨us, r1, p1, _⟩ := gK_vals I gx
    obtain ⟨vs, r2, p2, _⟩ := gK_vals I gy
    have hh : X.A.in1.handled = none := I.ok.hd calm
    have D1 := draws_k (prog := X.prog) (w := X.w) t hh i1 a n1 us.toArray
    have D2 := draws_k (prog := X.prog) (w := X.w) u hh i2 b n2 vs.toArray
    have z1 : us.toArray.size = xs.length := by rw [List.size_toArray, r1.length]
    have z2 : vs.toArray.size = ys.length := by rw [List.size_toArray, r2.length]
    refine wpAny_pyNext_zipD2_end S D1 D2 st.hz st.hc hd0 ⟨st.h1, p1⟩ ⟨st.h2, p2⟩ (by omega) (by omega) (by omega) fun h' tk kp => ⟨rfl, ?_⟩
    refine I.turnedL (t' := tk) (ch := [z, c, d, i1, i2]) (fun e o ne he => ?_) hf
    simp only [List.mem_cons, List.not_mem_nil, or_false, not_or] at ne
    exact kp e o ne.1 ne.2.2.1 ne.2.2.2.1 ne.2.2.2.2 he
  self := fun A i s Q E st h => wpAny_pyIter_zip st.hz h
def iZm (K : PySem.W.Frag) (t u : Bool) (ta : TA) : TI := fun σ H R => ta σ H fun vs H1 => ∃ a b xs ys, vs = [.ref a, .ref b] ∧ gK t K H1 a xs ∧ gK u K H1 b ys ∧ R (Izm K t u a b) H1
def obK (t : Bool) (l : Addr) : Obj := match t with
  | true => { cls := .type "tuple_iterator", data := .fields #[.ref l, .int 0 0] }
  | false => { cls := .type "list_iterator", data := .fields #[.ref l, .int 0 0] }
theorem begins_k (t : Bool) (l : Addr) (vs : Array Value) : Begins (.ref l) (obK t l) (fun h => sqK t h l vs) := by
  cases t with
  | true => exact begins_tuple l vs
  | false => exact begins_list l vs
theorem itK_new {t : Bool} {h : Heap} {it l : Addr} (e : h.get? it = some (obK t l)) : itK t h it l 0 := by
  cases t with
  | true => exact ⟨_, e, rfl, rfl⟩
  | false => exact ⟨_, e, rfl, rfl⟩
theorem pi_zm {X : Cx} {e e2 : Expr} {ta : TA} {p pos tp : Pos} {es : List Expr} {k : Nat} (t u : Bool) (hg : Gl X "zip") (hm : X.mg "zip" = none) (ha : PA X [e, e2] ta)
    (hs : starEach [e, e2] X.env = (false, eval e X.env) :: starEach [e2] X.env := by rfl) (hpl : (backTo pos (starEach [e2] X.env)).any (·.1) = false := by rfl) :
    PI X (.Tuple es k tp) (.Call (.Name "zip" p) [e, e2] [] pos) (iZm X.K t u ta) := by
  refine ⟨fun pins s σ H R I h => ?_⟩
  refine Call_ (ld_blt I hg hm PyProof.Rows.boot_zip (PyProof.Rows.callWith_type1 (thn (ha.run pos pins s σ H _ I h) fun us s1 ⟨vs, H1, I1, r1, a, b, xs, ys, ex, gx, gy, q⟩ => ?_) hs hpl))
  subst ex
  obtain ⟨u1, u2, rfl, q1, q2⟩ := vals2 r1
  cases (show u1 = Value.ref a from q1)
  cases (show u2 = Value.ref b from q2)
  obtain ⟨its1, v1, p1, la⟩ := gK_vals I1 gx
  obtain ⟨its2, v2, p2, lb⟩ := gK_vals I1 gy
  refine zip_begins2 (begins_k t a its1.toArray) (begins_k u b its2.toArray) p1 p2 fun h' hz hT hO g1 g2 hsz kp => wpAny_pyIter_zip hz ?_
  have I2 : Inv X pins σ H1 { s1 with heap := h' } := I1.kept (t' := s1.toks) kp
  have ap := PySem.W.ktu_apart s1.heap.objs.size a b la lb
  have sp := sep_of ap (Nat.ne_of_gt (Nat.lt_of_lt_of_le lb (Nat.le_refl _))) (Nat.ne_of_gt (Nat.lt_succ_of_lt la)) (Nat.ne_of_lt (Nat.lt_of_lt_of_le lb (Nat.le_add_right _ _))) (Nat.ne_of_lt (Nat.lt_of_lt_of_le lb (Nat.le_add_right _ _)))
  refine ⟨s1.heap.objs.size + 4, [s1.heap.objs.size + 4, s1.heap.objs.size + 2, s1.heap.objs.size + 3, s1.heap.objs.size, s1.heap.objs.size + 1], _, _, H1, rfl, I2, turn_zm sp ap.l1i1 (Nat.ne_of_lt (Nat.lt_succ_of_lt lb)), ⟨hz, hT, ⟨_, _, hO⟩, itK_new g1, itK_new g2⟩, fun c hc => ?_, q⟩
  have hle : s1.heap.objs.size ≤ c := by
    simp only [List.mem_cons, List.not_mem_nil, or_false] at hc
    rcases hc with rfl | rfl | rfl | rfl | rfl <;> omega
  exact I1.fpOk hle (I1.hok.fresh hle)
section
variable {X : Cx} {XR : XRel} {E : XK} {a b : Expr} {fa fb : ME} {pos p tp : Pos} {es : List Expr} {k : Nat}
def zipD : List PyData → List PyData → List PyData
  | x :: xs, y :: ys => .tuple [x, y] :: zipD xs ys
  | _, _ => []
theorem zipD_len : ∀ xs ys : List PyData, (zipD xs ys).length = min xs.length ys.length
  | [], _ => by simp [zipD]
  | _ :: _, [] => by simp [zipD]
  | x :: xs, y :: ys => by
    simp only [zipD, List.length_cons, zipD_len xs ys]
    omega
theorem zipD_get : ∀ {xs ys : List PyData} {i : Nat} {d : PyData}, (zipD xs ys)[i]? = some d → ∃ x y, xs[i]? = some x ∧ ys[i]? = some y ∧ d = .tuple [x, y]
  | [], _, _, _, h => by simp [zipD] at h
  | _ :: _, [], _, _, h => by simp [zipD] at h
  | x :: xs, y :: ys, 0, d, h => by
    have h' : PyData.tuple [x, y] = d := by simpa [zipD] using h
    exact ⟨x, y, rfl, rfl, h'.symm⟩
  | x :: xs, y :: ys, i + 1, d, h => by
    obtain ⟨u, v, h1, h2, h3⟩ := zipD_get (xs := xs) (ys := ys) (i := i) (d := d) (by simpa [zipD] using h)
    exact ⟨u, v, by simpa using h1, by simpa using h2, h3⟩
/-- the items of a tuple (t) or list -/
def sqOf (t : Bool) (x : PyData) : Option (List PyData) := match t, x with
  | true, .tuple ds => some ds
  | false, .list ds => some ds
  | _, _ => none
theorem sqOf_rel {K : PySem.W.Frag} {Hi H' : Hp} {t : Bool} {x : PyData} {v : V} {ds : List PyData} (d : Dq K Hi x v) (e : sqOf t x = some ds) : ∃ l xs, v = .ref l ∧ DqA K Hi ds xs ∧ ∀ H', Same Hi H' → gK t K H' l xs := by
  cases t with
  | true =>
    cases x with
    | tuple ys =>
      cases e
      obtain ⟨l, xs, rfl, h1, h2⟩ := d
      exact ⟨l, xs, rfl, h2, fun H' s => sqt_mono s h1⟩
    | _ => cases e
  | false =>
    cases x with
    | list ys =>
      cases e
      obtain ⟨l, xs, rfl, h1, h2⟩ := d
      exact ⟨l, xs, rfl, h2, fun H' s => SqL.of (s _ _ h1)⟩
    | _ => cases e
def zipO (t u : Bool) (x y : PyData) (s : Sto) : Out (List PyData) := match sqOf t x with
  | some xs => (match sqOf u y with
    | some ys => .ok (zipD xs ys) s
    | none => .bad)
  | none => .bad
def iZip (t u : Bool) (fa fb : ME) : MD := fun ρ s => (fa ρ s).bind fun x s => (fb ρ s).bind fun y s => zipO t u x y s
theorem si_zip (t u : Bool) (hg : Gl X "zip") (hm : X.mg "zip" = none) (ha : SE X XR E a fa) (hb : SE X XR E b fb) (h1 : starEach [a, b] X.env = (false, eval a X.env) :: starEach [b] X.env := by rfl) (h2 : starEach [b] X.env = (false, eval b X.env) :: starEach [] X.env := by rfl)
    (h3 : (backTo pos (starEach [b] X.env)).any (·.1) = false := by rfl) : SI X XR E (.Tuple es k tp) (.Call (.Name "zip" p) [a, b] [] pos) (iZip t u fa fb) := by
  obtain ⟨ta, pa, qa⟩ := ha
  obtain ⟨tb, pb, qb⟩ := hb
  refine ⟨_, pi_zm t u hg hm (pa_cons pa (pa_cons pb pa_nil h2) h1) h1 h3, fun A Hi ρ s σ H r re R h => ?_⟩
  refine qa A Hi ρ s σ H r re _ (PO.bind h fun x s1 v Hi1 H1 _ e1 r1 d h1 => ?_)
  refine qb A Hi1 ρ s1 σ H1 r1 (re.mono e1.same pfx) _ (PO.bind h1 fun y s2 w Hi2 H2 _ e2 r2 d2 h2 => ?_)
  unfold zipO at h2
  split at h2
  · rename_i xs hx
    split at h2
    · rename_i ys hy
      obtain ⟨l, xv, rfl, dx, gx⟩ := sqOf_rel (H' := H2) (Dq.mono e2.same _ _ d) hx
      obtain ⟨l2, yv, rfl, dy, gy⟩ := sqOf_rel (H' := H2) d2 hy
      refine ⟨l, l2, xv, yv, rfl, gx H2 r2.sub, gy H2 r2.sub, PO.use (R := fun Hi' _ ds J => IOk X.K Hi' J ds) (x := zipD xs ys) h2 r2 fun A' Hi' s' H' sm r' i => ⟨fun dd hd => ?_, fun hl => ?_⟩⟩
      · obtain ⟨x', y', hx', hy', rfl⟩ := zipD_get hd
        obtain ⟨v1, hv1, dv1⟩ := DqA.get dx hx'
        obtain ⟨v2, hv2, dv2⟩ := DqA.get dy hy'
        have gx' := gx H' (sm.trans r'.sub)
        have gy' := gy H' (sm.trans r'.sub)
        refine ⟨⟨xv, yv, v1, v2, gx', gy', hv1, hv2⟩, fun x H'' q => ?_⟩
        obtain ⟨p, a1, a2, rfl, hp, rfl, hx2, hy2⟩ := q
        have b1 := hx2 xv gx'
        have b2 := hy2 yv gy'
        rw [hv1] at b1
        rw [hv2] at b2
        cases b1
        cases b2
        have hpi := r'.fresh hp
        exact ⟨_, Ext.fresh hp hpi, r'.new hp, p, _, rfl, SqT.of upd_same, v1, _, rfl, Dq.mono (sm.trans (same_upd hpi)) _ _ dv1, v2, [], rfl, Dq.mono (sm.trans (same_upd hpi)) _ _ dv2, rfl⟩
      · rw [zipD_len, ← dx.length, ← dy.length] at hl
        exact ⟨xv, yv, gx H' (sm.trans r'.sub), gy H' (sm.trans r'.sub), by omega, by omega, by omega⟩
    · exact h2.elim
  · exact h2.elim
end
end Mir

namespace Mir
open PySem PySem.Spec PyProof.Rows L2
variable [Tb]
theorem tmul_same (l : Addr) (items : Array Value) (n : Nat) (dd : Option Addr) (sl : Array (Option Value)) (x : Int) (u : Tok) (c0 : (decide (x < -(2 ^ 63)) || decide (x ≥ 2 ^ 63)) = false) (c1 : (items.isEmpty || x == 1) = true) :
    Meets (Builtin.«tuple.__mul__» ⟨[.ref l, .int x u], []⟩) (fun _ R s => s.heap.get? l = some { cls := .type "tuple", dict := dd, data := .seq items n, slots := sl } ∧ R (.ok (.ret (Value.ref l))) s) :=
  .of_wp fun prog w A R s h => by
    obtain ⟨hp, g, d, tk, os⟩ := s
    obtain ⟨hl, h⟩ := h
    have f1 := AutoSeq1.idx_int
    wp_walk using wpAny_loadPart' hl
    repeat (first
      | (refine wpAny_ite_false (decide_eq_false (by rw [c0]; exact Bool.false_ne_true)) ?_; wp_walk using wpAny_loadPart' hl)
      | (refine wpAny_ite_true (decide_eq_true (by rw [c1])) ?_; wp_walk using wpAny_loadPart' hl))
    exact ⟨_, rfl, h⟩
theorem tmul_none (l : Addr) (items : Array Value) (n : Nat) (dd : Option Addr) (sl : Array (Option Value)) (x : Int) (u : Tok) (c0 : (decide (x < -(2 ^ 63)) || decide (x ≥ 2 ^ 63)) = false) (c1 : (items.isEmpty || x == 1) = false) (c2 : (decide (x ≤ 0) || items.isEmpty) = true) :
    Meets (Builtin.«tuple.__mul__» ⟨[.ref l, .int x u], []⟩) (fun _ R s => s.heap.get? l = some { cls := .type "tuple", dict := dd, data := .seq items n, slots := sl } ∧
      R (.ok (.ret (Value.ref s.heap.objs.size))) { s with heap := s.heap.push { cls := Value.type "tuple", data := Data.seq #[] }, toks := s.toks }) :=
  .of_wp fun prog w A R s h => by
    obtain ⟨hp, g, d, tk, os⟩ := s
    obtain ⟨hl, h⟩ := h
    have f1 := AutoSeq1.idx_int
    wp_walk using wpAny_loadPart' hl
    repeat (first
      | (refine wpAny_ite_false (decide_eq_false (by rw [c0]; exact Bool.false_ne_true)) ?_; wp_walk using wpAny_loadPart' hl)
      | (refine wpAny_ite_false (decide_eq_false (by rw [c1]; exact Bool.false_ne_true)) ?_; wp_walk using wpAny_loadPart' hl)
      | (refine wpAny_ite_true (decide_eq_true (by rw [c2])) ?_; wp_walk using wpAny_loadPart' hl))
    exact ⟨_, rfl, h⟩
end Mir

namespace Mir
open PySem PySem.Spec PyProof.Rows L2
variable [Tb]
section
variable {X : Cx} {XR : XRel} {E : XK} {a b c e : Expr} {fa fb fc : ME} {fl : ML} {pos p : Pos}
/-! ### a <= b <= c, of ints -/
def gChain (q : Int → Int → Bool) (f : Env → Sto → Out PyData) (k : Bool) (y : PyData) (ρ : Env) (s : Sto) : Out PyData := if k = true then (f ρ s).bind fun z s => gCmp q y z s else .ok (.bool false) s
def eCh (p q : Int → Int → Bool) (fa fb fc : ME) : ME := fun ρ s => (fa ρ s).bind fun x s => (fb ρ s).bind fun y s => (gCmp p x y s).bind fun r s => match r with
  | .bool k => gChain q fc k y ρ s
  | _ => .bad
theorem se_ch {op op' : CmpOp} {p q : Int → Int → Bool} (h1 : OpR X (compareOp op) (rI0 fun i j => .bl (p i j))) (h2 : OpR X (compareOp op') (rI0 fun i j => .bl (q i j))) (ha : SE X XR E a fa) (hb : SE X XR E b fb) (hc : SE X XR E c fc)
    (hm : lastMarks [op, op'] [b, c] = false := by with_unfolding_all rfl) : SE X XR E (.Compare a [op, op'] [b, c] pos) (eCh p q fa fb fc) := by
  obtain ⟨ta, pa, qa⟩ := ha
  obtain ⟨tb, pb, qb⟩ := hb
  obtain ⟨tc, pc, qc⟩ := hc
  refine ⟨_, pe_chain h1 h2 pa pb pc hm, fun A Hi ρ s σ H r re Q h => ?_⟩
  refine qa A Hi ρ s σ H r re _ (PO.bind h fun x s1 v Hi1 H1 _ e1 r1 d h1 => ?_)
  refine qb A Hi1 ρ s1 σ H1 r1 (re.mono e1.same pfx) _ (PO.bind h1 fun y s2 w Hi2 H2 _ e2 r2 d2 h2 => ?_)
  have d1 := Dq.mono e2.same _ _ d
  cases x with
  | int i =>
    cases y with
    | int j =>
      cases (show v = _ from d1)
      cases (show w = _ from d2)
      have h2' : PO X.K A Hi2 H2 XR E (RD X.K) Q (gChain q fc (p i j) (.int j) ρ s2) := h2
      refine ⟨i, j, rfl, rfl, _, rfl, ?_⟩
      unfold gChain at h2'
      cases hp : p i j with
      | false =>
        rw [hp, if_neg Bool.false_ne_true] at h2'
        exact iteF (h2'.use r2 rfl)
      | true =>
        rw [hp, if_pos rfl] at h2'
        refine iteT (qc A Hi2 ρ s2 σ H2 r2 ((re.mono e1.same pfx).mono e2.same pfx) _ (PO.bind h2' fun z s3 u Hi3 H3 _ e3 r3 d3 h3 => ?_))
        exact gb_cmp (p := q) A Hi3 s3 H3 (.int j) z _ u Q r3 rfl d3 h3
    | _ => exact h2.elim
  | _ => cases y <;> exact h2.elim
theorem st_ch {op op' : CmpOp} {p q : Int → Int → Bool} (h1 : OpR X (compareOp op) (rI0 fun i j => .bl (p i j))) (h2 : OpR X (compareOp op') (rI0 fun i j => .bl (q i j))) (ha : SE X XR E a fa) (hb : SE X XR E b fb) (hc : SE X XR E c fc)
    (hm : lastMarks [op, op'] [b, c] = false := by with_unfolding_all rfl) : ST X XR E (.Compare a [op, op'] [b, c] pos) (mE (eCh p q fa fb fc)) := by
  obtain ⟨ta, pa, qa⟩ := ha
  obtain ⟨tb, pb, qb⟩ := hb
  obtain ⟨tc, pc, qc⟩ := hc
  refine ⟨_, pt_chain h1 h2 pa pb pc hm, fun A Hi ρ s σ H r re Q h => ?_⟩
  have h' : PO X.K A Hi H XR E RB Q ((fa ρ s).bind fun x s1 => (fb ρ s1).bind fun y s2 => mE (fun ρ s => (gCmp p x y s).bind fun r s => match r with
      | .bool k => gChain q fc k y ρ s
      | _ => .bad) ρ s2) := by
    unfold mE eCh at h
    cases q1 : fa ρ s with
    | ok x s1 =>
      rw [q1] at h
      cases q2 : fb ρ s1 with
      | ok y s2 => simp only [Out.bind, q2] at h ⊢; exact h
      | exc y s2 => simp only [Out.bind, q2] at h ⊢; exact h
      | bad => simp only [Out.bind, q2] at h ⊢; exact h
    | exc x s1 => rw [q1] at h; exact h
    | bad => rw [q1] at h; exact h
  refine qa A Hi ρ s σ H r re _ (PO.bind h' fun x s1 v Hi1 H1 _ e1 r1 d h1 => ?_)
  refine qb A Hi1 ρ s1 σ H1 r1 (re.mono e1.same pfx) _ (PO.bind h1 fun y s2 w Hi2 H2 _ e2 r2 d2 h2 => ?_)
  have d1 := Dq.mono e2.same _ _ d
  cases x with
  | int i =>
    cases y with
    | int j =>
      cases (show v = _ from d1)
      cases (show w = _ from d2)
      have h2' : PO X.K A Hi2 H2 XR E RB Q (mE (gChain q fc (p i j) (.int j)) ρ s2) := h2
      refine ⟨i, j, rfl, rfl, _, rfl, ?_⟩
      unfold mE gChain at h2'
      cases hp : p i j with
      | false =>
        rw [hp, if_neg Bool.false_ne_true] at h2'
        exact iteF ⟨false, rfl, PO.use (R := RB) (x := false) h2' r2 rfl⟩
      | true =>
        rw [hp, if_pos rfl] at h2'
        have h3' : PO X.K A Hi2 H2 XR E RB Q ((fc ρ s2).bind fun z s => (gCmp q (.int j) z s).bind fun x s => match x with
            | .bool b => .ok b s
            | _ => .bad) := by
          cases q1 : fc ρ s2 with
          | ok z s3 => rw [q1] at h2'; exact h2'
          | exc z s3 => rw [q1] at h2'; exact h2'
          | bad => rw [q1] at h2'; exact h2'
        refine iteT (qc A Hi2 ρ s2 σ H2 r2 ((re.mono e1.same pfx).mono e2.same pfx) _ (PO.bind h3' fun z s3 u Hi3 H3 _ e3 r3 d3 h3 => ?_))
        refine gb_cmp (p := q) A Hi3 s3 H3 (.int j) z _ u _ r3 rfl d3 (PO.bind h3 fun x s4 u4 Hi4 H4 _ e4 r4 d4 h4 => ?_)
        split at h4
        · cases (show u4 = _ from d4)
          exact ⟨_, rfl, h4.use r4 rfl⟩
        · exact h4.elim
    | _ => exact h2.elim
  | _ => cases y <;> exact h2.elim
/-! ### slices of tuples and lists -/
def cutD (xs : List PyData) (lo hi : Option Int) : List PyData := (xs.drop (HT.sIx xs.length 0 lo)).take (HT.sIx xs.length xs.length hi - HT.sIx xs.length 0 lo)
theorem cut_rel {K : PySem.W.Frag} {Hi : Hp} {ds : List PyData} {xs : List V} {lo hi : Option Int} (h : DqA K Hi ds xs) : DqA K Hi (cutD ds lo hi) (cutV xs lo hi) := by
  unfold cutD cutV
  rw [h.length]
  exact DqA.take _ (DqA.drop _ h)
def SPt (X : Cx) (XR : XRel) (E : XK) (e : Option Expr) (f : Env → Sto → Out (Option Int)) : Prop := ∃ t, L2.PO X e t ∧ ∀ A Hi ρ s σ H, RS X.K A Hi s H → RE X.K A Hi ρ σ → ∀ Q : Option Int → Hp → Prop, PO X.K A Hi H XR E (fun _ _ x y => x = y) Q (f ρ s) → t σ H Q
def noPart : Env → Sto → Out (Option Int) := fun _ s => .ok none s
def aPart (fa : ME) : Env → Sto → Out (Option Int) := fun ρ s => (fa ρ s).bind fun x s => match x with
  | .int i => .ok (some i) s
  | _ => .bad
theorem sp_none : SPt X XR E none noPart := ⟨_, po_none, fun A Hi ρ s σ H r re Q h => PO.use (R := fun _ _ x y => x = y) h r rfl⟩
theorem sp_some (h : SE X XR E a fa) : SPt X XR E (some a) (aPart fa) := by
  obtain ⟨t, p, q⟩ := h
  refine ⟨_, po_some p, fun A Hi ρ s σ H r re Q h => q A Hi ρ s σ H r re _ (PO.bind h fun x s1 v Hi1 H1 _ e1 r1 d h1 => ?_)⟩
  cases x with
  | int i =>
    cases (show v = _ from d)
    exact ⟨i, rfl, PO.use (R := fun _ _ x y => x = y) h1 r1 rfl⟩
  | _ => exact h1.elim
def gSl (x : PyData) (lo hi : Option Int) (s : Sto) : Out PyData := match x with
  | .tuple ds => .ok (.tuple (cutD ds lo hi)) s
  | .list ds => .ok (.list (cutD ds lo hi)) s
  | _ => .bad
def eSlice (fa : ME) (fl fh : Env → Sto → Out (Option Int)) : ME := fun ρ s => (fa ρ s).bind fun x s => (fl ρ s).bind fun lo s => (fh ρ s).bind fun hi s => gSl x lo hi s
theorem se_slice {lo hi : Option Expr} {fl fh : Env → Sto → Out (Option Int)} {p2 : Pos} (ha : SE X XR E a fa) (hl : SPt X XR E lo fl) (hh : SPt X XR E hi fh) : SE X XR E (.Subscript a (.Slice lo hi none p2) pos) (eSlice fa fl fh) := by
  obtain ⟨ta, pa, qa⟩ := ha
  obtain ⟨tl, pl, ql⟩ := hl
  obtain ⟨th, ph, qh⟩ := hh
  refine ⟨_, pe_slice (sl_tupA.or sl_list) pa pl ph, fun A Hi ρ s σ H r re Q h => ?_⟩
  refine qa A Hi ρ s σ H r re _ (PO.bind h fun x s1 v Hi1 H1 _ e1 r1 d h1 => ?_)
  refine ql A Hi1 ρ s1 σ H1 r1 (re.mono e1.same pfx) _ (PO.bind h1 fun lo s2 w Hi2 H2 _ e2 r2 d2 h2 => ?_)
  refine qh A Hi2 ρ s2 σ H2 r2 ((re.mono e1.same pfx).mono e2.same pfx) _ (PO.bind h2 fun hi s3 u Hi3 H3 _ e3 r3 d3 h3 => ?_)
  cases d2
  cases d3
  have d' := Dq.mono (e2.same.trans e3.same) _ _ d
  unfold gSl at h3
  cases x with
  | tuple ds =>
    obtain ⟨l, xs, rfl, q1, q2⟩ := d'
    refine .inl ⟨l, xs, rfl, sqt_mono r3.sub q1, fun hw => ?_, fun _ p hp => ?_⟩
    · have e1 : cutD ds lo hi = ds := by
        unfold cutD
        rw [← q2.length, hw.1, hw.2, List.drop_zero, Nat.sub_zero, q2.length, List.take_length]
      have h4 : PO X.K A Hi3 H3 XR E (RD X.K) Q (.ok (.tuple (cutD ds lo hi)) s3) := h3
      rw [e1] at h4
      exact h4.use r3 ⟨l, xs, rfl, q1, q2⟩
    · exact h3.out (Ext.fresh hp (r3.fresh hp)) (r3.new hp) ⟨p, _, rfl, SqT.of upd_same, DqA.mono (same_upd (r3.fresh hp)) _ _ (cut_rel q2)⟩
  | list ds =>
    obtain ⟨l, xs, rfl, q1, q2⟩ := d'
    refine .inr ⟨l, xs, rfl, SqL.of (r3.sub _ _ q1), fun p hp => ?_⟩
    exact h3.out (Ext.fresh hp (r3.fresh hp)) (r3.new hp) ⟨p, _, rfl, upd_same, DqA.mono (same_upd (r3.fresh hp)) _ _ (cut_rel q2)⟩
  | _ => exact h3.elim
/-! ### tuple * int -/
def rTm (K : PySem.W.Frag) : R2 := fun x y H Q => ∃ l k xs, x = .ref l ∧ y = .int k ∧ SqT K H l xs ∧ -1000000 ≤ k ∧ k ≤ 1000 ∧ xs.length ≤ 1000 ∧ (xs = [] ∨ k = 1 → Q (.ref l) H) ∧ (xs ≠ [] → k ≠ 1 → ∀ p, H p = none → Q (.ref p) (upd H p (.tup (List.replicate k.toNat xs).flatten)))
theorem op_tm : OpR X (binaryOp .Mult) (rTm X.K) := by
  intro pins s σ H x y v u Q I rx ry h
  obtain ⟨l, k, xs, rfl, rfl, hT, h1, h2, h3, q1, q2⟩ := h
  by_cases hb : xs ≠ [] ∧ 2 ≤ k
  · exact op_repT pins s σ H _ _ v u Q I rx ry ⟨l, k, xs, rfl, rfl, hT, hb.1, hb.2, h2, h3, q2 hb.1 (by omega)⟩
  · cases rx
    obtain ⟨t, rfl⟩ := ry
    obtain ⟨its, r, ⟨⟨cls, dd, data, sl⟩, ho, hc, n, hd⟩, hs⟩ := I.tuple hT
    simp only at hc hd
    subst hc hd
    have hle : its.length = xs.length := r.length.symm
    have c0 : (decide (k < -(2 ^ 63)) || decide (k ≥ 2 ^ 63)) = false := by
      rw [decide_eq_false (by omega), decide_eq_false (by omega)]
      rfl
    have hem : its.toArray.isEmpty = decide (xs = []) := by
      cases its with
      | nil =>
        cases xs with
        | nil => rfl
        | cons => cases hle
      | cons =>
        cases xs with
        | nil => cases hle
        | cons => rfl
    refine wpAny_binaryOp_repeat_ref (T := "tuple") (U := "int") (by decide) ⟨_, ho, rfl⟩ (fun s' => typeIs_int s' k t) noFill_tuple_mul F.fills_int_mul F.slot_int_rmul repeat_tuple F.slot_int_index.lookup
      (call_meets F.slot_int_rmul (typeIs_int s k t) F.entry_int_rmul (F.args_int_rmul_2 _ _) (int_rmul_tuple k t l its.toArray n dd sl) ⟨ho, rfl, ⟨_, ho, rfl⟩, ?_⟩)
    by_cases he : xs = [] ∨ k = 1
    · refine call_meets F.slot_tuple_mul ⟨_, ho, rfl⟩ F.entry_tuple_mul (F.args_tuple_mul_2 _ _) (tmul_same l its.toArray n dd sl k t c0 ?_) ⟨ho, ?_⟩
      · rw [hem]
        rcases he with he | he
        · rw [decide_eq_true he]
          rfl
        · rw [he]
          simp
      · exact ⟨.ref l, H, I, rfl, q1 he⟩
    · have hne : xs ≠ [] := fun z => he (.inl z)
      have hk1 : k ≠ 1 := fun z => he (.inr z)
      have hk : k ≤ 0 := by
        have : ¬ 2 ≤ k := fun z => hb ⟨hne, z⟩
        omega
      refine call_meets F.slot_tuple_mul ⟨_, ho, rfl⟩ F.entry_tuple_mul (F.args_tuple_mul_2 _ _) (tmul_none l its.toArray n dd sl k t c0 ?_ ?_) ⟨ho, ?_⟩
      · rw [hem, decide_eq_false hne, Bool.false_or]
        exact beq_eq_false_iff_ne.mpr hk1
      · rw [decide_eq_true hk]
        rfl
      · have hz : k.toNat = 0 := by omega
        have q3 := q2 hne hk1 s.heap.objs.size (I.hok.fresh (Nat.le_refl _))
        rw [hz, List.replicate_zero, List.flatten_nil] at q3
        refine ⟨.ref s.heap.objs.size, _, I.laid (t' := s.toks) (o := .tup []) (fun b ob q => Heap.get?_push_of_some _ q) (Nat.le_refl _) ?_, rfl, q3⟩
        exact ⟨Nat.zero_le _, [], .nil, IsTup.new _ _⟩
theorem dqa_rep {K : PySem.W.Frag} {Hi : Hp} {ds : List PyData} {xs : List V} (h : DqA K Hi ds xs) : ∀ n : Nat, DqA K Hi (List.replicate n ds).flatten (List.replicate n xs).flatten
  | 0 => rfl
  | n + 1 => by
    rw [List.replicate_succ, List.replicate_succ, List.flatten_cons, List.flatten_cons]
    exact DqA.append h (dqa_rep h n)
def gMulA : PyData → PyData → Sto → Out PyData := fun x y s => match x, y with
  | .int i, .int j => if CMulB i j then .ok (.int (i * j)) s else .bad
  | .tuple ds, .int k => if -1000000 ≤ k ∧ k ≤ 1000 ∧ ds.length ≤ 1000 then .ok (.tuple (List.replicate k.toNat ds).flatten) s else .bad
  | _, _ => .bad
theorem gb_mulA : GB X XR E (rOr (rI CMulB fun i j => .int (i * j)) (rTm X.K)) gMulA := by
  intro A Hi s H x y v w Q r dx dy h
  unfold gMulA at h
  split at h
  · cases (show v = _ from dx)
    cases (show w = _ from dy)
    split at h
    · rename_i hc
      exact .inl ⟨_, _, rfl, rfl, hc, h.use r rfl⟩
    · exact h.elim
  · rename_i ds k
    obtain ⟨l, xs, rfl, h1, h2⟩ := dx
    cases (show w = _ from dy)
    split at h
    · rename_i hc
      refine .inr ⟨l, k, xs, rfl, rfl, sqt_mono r.sub h1, hc.1, hc.2.1, by rw [h2.length]; exact hc.2.2, fun he => ?_, fun _ _ p hp => ?_⟩
      · refine h.use r ⟨l, xs, rfl, h1, ?_⟩
        rcases he with he | he
        · have : ds = [] := by
            have q := h2.length
            rw [he] at q
            exact List.eq_nil_of_length_eq_zero q.symm
          rw [this, he]
          simp [DqA]
        · rw [he]
          have : (List.replicate (1 : Int).toNat ds).flatten = ds := by simp
          rw [this]
          exact h2
      · exact h.out (Ext.fresh hp (r.fresh hp)) (r.new hp) ⟨p, _, rfl, SqT.of upd_same, DqA.mono (same_upd (r.fresh hp)) _ _ (dqa_rep h2 _)⟩
    · exact h.elim
  · exact h.elim
theorem se_mulA (ha : SE X XR E a fa) (hb : SE X XR E b fb) : SE X XR E (.BinOp a .Mult b pos) (eBin gMulA fa fb) := se_bin (fun _ _ p q => pe_op (op_or2 op_mulB op_tm) p q) gb_mulA ha hb
/-! ### {} -/
theorem se_dict0 : SE X XR E (.Dict [] [] pos) (eC (.dict [])) :=
  ⟨_, pe_dnewK, fun A Hi ρ s σ H r re Q h => fun d hd => h.out (Ext.fresh hd (r.fresh hd)) (r.new hd) ⟨d, rfl, upd_same⟩⟩
/-! ### return of a list that nobody else holds -/
def mRetC (f : MD) : MS := fun ρ s => toFl (f ρ s) fun ds s => .rt (.c s.length) (s ++ [ds])
theorem ss_retC {f : MD} (he : SC X XR E e f) : SS X XR E (.Return (some e) pos) (mRetC f) := by
  obtain ⟨t, p, q⟩ := he
  refine ⟨_, ps_ret p, fun A Hi ρ s σ H r re D h => q A Hi ρ s σ H r re _ ?_⟩
  unfold mRetC at h
  cases hf : f ρ s with
  | bad => rw [hf] at h; exact h
  | exc x s1 =>
    rw [hf] at h
    exact fun c d H1 H2 e1 r q => h c d A H1 H2 e1.s r q
  | ok ds s1 =>
    rw [hf] at h
    rintro v Hi1 H1 e1 r1 ⟨p, xs, rfl, q1, q2, q3, q4, q5⟩
    refine h (A ++ [p]) Hi1 _ H1 ⟨e1, List.prefix_append _ _, fun a m n => ?_⟩ (r1.take1 q1 q2 q4 q5) ⟨p, ?_, rfl⟩
    · rcases List.mem_append.mp m with m | m
      · exact absurd m n
      · have : a = p := by simpa using m
        rw [this]
        exact q3
    · rw [← r1.len]
      simp
end
end Mir

namespace Mir
open PySem PySem.Spec PyProof.Rows L2
variable [Tb]
section
variable {X : Cx} {XR : XRel} {E : XK} {a b tg : Expr} {fa fb : ME} {pos p tp : Pos} {es : List Expr} {k : Nat}
/-! ### for, over a list or a tuple, as it comes; zip of any two of these -/
def iSeq (K : PySem.W.Frag) (tl : TE) : TI := fun σ H R => tl σ H fun x H1 => (∃ a, x = .ref a ∧ (∃ xs, SqL K H1 a xs) ∧ R (Itl K a) H1) ∨ ∃ a, x = .ref a ∧ (∃ xs, SqT K H1 a xs) ∧ R (Itt K a) H1
theorem pi_seq {l : Expr} {tl : TE} (hl : PE X l tl) : PI X tg l (iSeq X.K tl) := by
  refine ⟨fun pins s σ H R I h => ?_⟩
  have c : PE X l (fun σ H Q => tl σ H Q) := hl
  refine thn (hl.run pins s σ H _ I h) fun v s1 ⟨x, H1, I1, r1, q1⟩ => ?_
  have one : PE X l (tC x) → True := fun _ => trivial
  rcases q1 with ⟨a, rfl, ⟨xs, hq⟩, q⟩ | ⟨a, rfl, ⟨xs, hq⟩, q⟩
  · cases r1
    obtain ⟨us, rv, pl, _⟩ := I1.list hq
    refine wpAny_pyIter_list pl.isList ⟨s1.heap.objs.size, [s1.heap.objs.size], _, _, H1, rfl, I1.kept (t' := s1.toks) (fun b o e => Heap.get?_push_of_some _ e), turn_list a _, ⟨_, Heap.get?_push_size _ rfl, rfl, rfl⟩, fun b hb => ?_, q⟩
    rw [List.mem_singleton.mp hb]
    exact I1.fpOk (Nat.le_refl _) (I1.hok.fresh (Nat.le_refl _))
  · cases r1
    obtain ⟨us, rv, pl, _⟩ := I1.tuple hq
    refine wpAny_pyIter_tuple (show s1.heap.IsTuple a us.toArray from pl) ⟨s1.heap.objs.size, [s1.heap.objs.size], _, _, H1, rfl, I1.kept (t' := s1.toks) (fun b o e => Heap.get?_push_of_some _ e), turn_tuple a _, ⟨_, Heap.get?_push_size _ rfl, rfl, rfl⟩, fun b hb => ?_, q⟩
    rw [List.mem_singleton.mp hb]
    exact I1.fpOk (Nat.le_refl _) (I1.hok.fresh (Nat.le_refl _))
/-- the items of a list or tuple -/
def itemsOf : PyData → Option (List PyData)
  | .list ds => some ds
  | .tuple ds => some ds
  | _ => none
def orBad {α β : Type} (o : Option α) (k : α → Out β) : Out β := match o with
  | some x => k x
  | none => .bad
@[simp] theorem orBad_some {α β : Type} (x : α) (k : α → Out β) : orBad (some x) k = k x := rfl
@[simp] theorem orBad_none {α β : Type} (k : α → Out β) : orBad (none : Option α) k = .bad := rfl
theorem orBad_po {α β γ : Type} {K : PySem.W.Frag} {A : List Addr} {Hi H : Hp} {R : Hp → Hp → β → γ → Prop} {Q : γ → Hp → Prop} {o : Option α} {k : α → Out β} (h : PO K A Hi H XR E R Q (orBad o k)) : ∃ x, o = some x ∧ PO K A Hi H XR E R Q (k x) := by
  cases o with
  | some x => exact ⟨x, rfl, h⟩
  | none => exact h.elim
def iSq (fa : ME) : MD := fun ρ s => (fa ρ s).bind fun x s => orBad (itemsOf x) fun ds => .ok ds s
theorem iok_l {K : PySem.W.Frag} {Hi : Hp} {l : Addr} {xs : List V} {ds : List PyData} (h2 : Hi l = some (.lst xs)) (h3 : DqA K Hi ds xs) : IOk K Hi (Itl K l) ds := fun A' Hi' s' H' sm r' i => ⟨fun d hd => by
  obtain ⟨v, hv, dv⟩ := DqA.get h3 hd
  have hx : SqL K H' l xs := SqL.of (r'.sub _ _ (sm _ _ h2))
  refine ⟨⟨xs, v, hx, hv⟩, fun x H'' y => ?_⟩
  obtain ⟨e, y⟩ := y
  subst e
  have := y xs hx
  rw [hv] at this
  cases this
  exact ⟨Hi', .refl, r', Dq.mono sm _ _ dv⟩, fun hl => ⟨xs, SqL.of (r'.sub _ _ (sm _ _ h2)), by rw [h3.length]; omega⟩⟩
theorem iok_t {K : PySem.W.Frag} {Hi : Hp} {l : Addr} {xs : List V} {ds : List PyData} (h2 : SqT K Hi l xs) (h3 : DqA K Hi ds xs) : IOk K Hi (Itt K l) ds := fun A' Hi' s' H' sm r' i => ⟨fun d hd => by
  obtain ⟨v, hv, dv⟩ := DqA.get h3 hd
  have hx : SqT K H' l xs := sqt_mono r'.sub (sqt_mono sm h2)
  refine ⟨⟨xs, v, hx, hv⟩, fun x H'' y => ?_⟩
  obtain ⟨e, y⟩ := y
  subst e
  have := y xs hx
  rw [hv] at this
  cases this
  exact ⟨Hi', .refl, r', Dq.mono sm _ _ dv⟩, fun hl => ⟨xs, sqt_mono r'.sub (sqt_mono sm h2), by rw [h3.length]; omega⟩⟩
theorem si_seq (ha : SE X XR E a fa) : SI X XR E tg a (iSq fa) := by
  obtain ⟨t, p, q⟩ := ha
  refine ⟨_, pi_seq p, fun A Hi ρ s σ H r re R h => q A Hi ρ s σ H r re _ (PO.bind h fun x s1 v Hi1 H1 _ e1 r1 d h1 => ?_)⟩
  obtain ⟨ds, hd, h1⟩ := orBad_po h1
  cases x with
  | list es =>
    cases hd
    obtain ⟨l, xs, rfl, h2, h3⟩ := d
    exact .inl ⟨l, rfl, ⟨xs, SqL.of (r1.sub _ _ h2)⟩, PO.use (R := fun Hi' _ ds J => IOk X.K Hi' J ds) (x := ds) h1 r1 (iok_l h2 h3)⟩
  | tuple es =>
    cases hd
    obtain ⟨l, xs, rfl, h2, h3⟩ := d
    exact .inr ⟨l, rfl, ⟨xs, sqt_mono r1.sub h2⟩, PO.use (R := fun Hi' _ ds J => IOk X.K Hi' J ds) (x := ds) h1 r1 (iok_t h2 h3)⟩
  | _ => cases hd
def iZq (K : PySem.W.Frag) (ta : TA) : TI := fun σ H R => ta σ H fun vs H1 => ∃ t u a b xs ys, vs = [.ref a, .ref b] ∧ gK t K H1 a xs ∧ gK u K H1 b ys ∧ R (Izm K t u a b) H1
theorem pi_zq {e e2 : Expr} {ta : TA} (hg : Gl X "zip") (hm : X.mg "zip" = none) (ha : PA X [e, e2] ta)
    (hs : starEach [e, e2] X.env = (false, eval e X.env) :: starEach [e2] X.env := by rfl) (hpl : (backTo pos (starEach [e2] X.env)).any (·.1) = false := by rfl) :
    PI X (.Tuple es k tp) (.Call (.Name "zip" p) [e, e2] [] pos) (iZq X.K ta) := by
  refine ⟨fun pins s σ H R I h => ?_⟩
  refine Call_ (ld_blt I hg hm PyProof.Rows.boot_zip (PyProof.Rows.callWith_type1 (thn (ha.run pos pins s σ H _ I h) fun us s1 ⟨vs, H1, I1, r1, t, u, a, b, xs, ys, ex, gx, gy, q⟩ => ?_) hs hpl))
  subst ex
  obtain ⟨u1, u2, rfl, q1, q2⟩ := vals2 r1
  cases (show u1 = Value.ref a from q1)
  cases (show u2 = Value.ref b from q2)
  obtain ⟨its1, v1, p1, la⟩ := gK_vals I1 gx
  obtain ⟨its2, v2, p2, lb⟩ := gK_vals I1 gy
  refine zip_begins2 (begins_k t a its1.toArray) (begins_k u b its2.toArray) p1 p2 fun h' hz hT hO g1 g2 hsz kp => wpAny_pyIter_zip hz ?_
  have I2 : Inv X pins σ H1 { s1 with heap := h' } := I1.kept (t' := s1.toks) kp
  have ap := PySem.W.ktu_apart s1.heap.objs.size a b la lb
  have sp := sep_of ap (Nat.ne_of_gt (Nat.lt_of_lt_of_le lb (Nat.le_refl _))) (Nat.ne_of_gt (Nat.lt_succ_of_lt la)) (Nat.ne_of_lt (Nat.lt_of_lt_of_le lb (Nat.le_add_right _ _))) (Nat.ne_of_lt (Nat.lt_of_lt_of_le lb (Nat.le_add_right _ _)))
  refine ⟨s1.heap.objs.size + 4, [s1.heap.objs.size + 4, s1.heap.objs.size + 2, s1.heap.objs.size + 3, s1.heap.objs.size, s1.heap.objs.size + 1], _, _, H1, rfl, I2, turn_zm sp ap.l1i1 (Nat.ne_of_lt (Nat.lt_succ_of_lt lb)), ⟨hz, hT, ⟨_, _, hO⟩, itK_new g1, itK_new g2⟩, fun c hc => ?_, q⟩
  have hle : s1.heap.objs.size ≤ c := by
    simp only [List.mem_cons, List.not_mem_nil, or_false] at hc
    rcases hc with rfl | rfl | rfl | rfl | rfl <;> omega
  exact I1.fpOk hle (I1.hok.fresh hle)
theorem items_rel {K : PySem.W.Frag} {Hi : Hp} {x : PyData} {v : V} {ds : List PyData} (d : Dq K Hi x v) (e : itemsOf x = some ds) : ∃ t l xs, v = .ref l ∧ DqA K Hi ds xs ∧ ∀ H', Same Hi H' → gK t K H' l xs := by
  cases x with
  | tuple ys =>
    cases e
    obtain ⟨l, xs, rfl, h1, h2⟩ := d
    exact ⟨true, l, xs, rfl, h2, fun H' s => sqt_mono s h1⟩
  | list ys =>
    cases e
    obtain ⟨l, xs, rfl, h1, h2⟩ := d
    exact ⟨false, l, xs, rfl, h2, fun H' s => SqL.of (s _ _ h1)⟩
  | _ => cases e
theorem iok_z {K : PySem.W.Frag} {Hi : Hp} {t u : Bool} {l l2 : Addr} {xv yv : List V} {xs ys : List PyData} (dx : DqA K Hi xs xv) (dy : DqA K Hi ys yv) (gx : ∀ H', Same Hi H' → gK t K H' l xv) (gy : ∀ H', Same Hi H' → gK u K H' l2 yv) : IOk K Hi (Izm K t u l l2) (zipD xs ys) := fun A' Hi' s' H' sm r' i => ⟨fun dd hd => by
  obtain ⟨x', y', hx', hy', rfl⟩ := zipD_get hd
  obtain ⟨v1, hv1, dv1⟩ := DqA.get dx hx'
  obtain ⟨v2, hv2, dv2⟩ := DqA.get dy hy'
  have gx' := gx H' (sm.trans r'.sub)
  have gy' := gy H' (sm.trans r'.sub)
  refine ⟨⟨xv, yv, v1, v2, gx', gy', hv1, hv2⟩, fun x H'' q => ?_⟩
  obtain ⟨p, a1, a2, rfl, hp, rfl, hx2, hy2⟩ := q
  have b1 := hx2 xv gx'
  have b2 := hy2 yv gy'
  rw [hv1] at b1
  rw [hv2] at b2
  cases b1
  cases b2
  have hpi := r'.fresh hp
  exact ⟨_, Ext.fresh hp hpi, r'.new hp, p, _, rfl, SqT.of upd_same, v1, _, rfl, Dq.mono (sm.trans (same_upd hpi)) _ _ dv1, v2, [], rfl, Dq.mono (sm.trans (same_upd hpi)) _ _ dv2, rfl⟩, fun hl => by
  rw [zipD_len, ← dx.length, ← dy.length] at hl
  exact ⟨xv, yv, gx H' (sm.trans r'.sub), gy H' (sm.trans r'.sub), by omega, by omega, by omega⟩⟩
def iZp (fa fb : ME) : MD := fun ρ s => (fa ρ s).bind fun x s => (fb ρ s).bind fun y s => orBad (itemsOf x) fun xs => orBad (itemsOf y) fun ys => .ok (zipD xs ys) s
theorem si_zp (hg : Gl X "zip") (hm : X.mg "zip" = none) (ha : SE X XR E a fa) (hb : SE X XR E b fb) (h1 : starEach [a, b] X.env = (false, eval a X.env) :: starEach [b] X.env := by rfl) (h2 : starEach [b] X.env = (false, eval b X.env) :: starEach [] X.env := by rfl)
    (h3 : (backTo pos (starEach [b] X.env)).any (·.1) = false := by rfl) : SI X XR E (.Tuple es k tp) (.Call (.Name "zip" p) [a, b] [] pos) (iZp fa fb) := by
  obtain ⟨ta, pa, qa⟩ := ha
  obtain ⟨tb, pb, qb⟩ := hb
  refine ⟨_, pi_zq hg hm (pa_cons pa (pa_cons pb pa_nil h2) h1) h1 h3, fun A Hi ρ s σ H r re R h => ?_⟩
  refine qa A Hi ρ s σ H r re _ (PO.bind h fun x s1 v Hi1 H1 _ e1 r1 d h1 => ?_)
  refine qb A Hi1 ρ s1 σ H1 r1 (re.mono e1.same pfx) _ (PO.bind h1 fun y s2 w Hi2 H2 _ e2 r2 d2 h2 => ?_)
  obtain ⟨xs, hx, h2⟩ := orBad_po h2
  obtain ⟨ys, hy, h2⟩ := orBad_po h2
  obtain ⟨t, l, xv, rfl, dx, gx⟩ := items_rel (Dq.mono e2.same _ _ d) hx
  obtain ⟨u, l2, yv, rfl, dy, gy⟩ := items_rel d2 hy
  exact ⟨t, u, l, l2, xv, yv, rfl, gx H2 r2.sub, gy H2 r2.sub, PO.use (R := fun Hi' _ ds J => IOk X.K Hi' J ds) (x := zipD xs ys) h2 r2 (iok_z dx dy gx gy)⟩
/-! ### for i, x in enumerate(list) -/
def enumD : Nat → List PyData → List PyData
  | _, [] => []
  | n, x :: xs => .tuple [.int (n : Nat), x] :: enumD (n + 1) xs
theorem enumD_get : ∀ {xs : List PyData} {n i : Nat} {d : PyData}, (enumD n xs)[i]? = some d → ∃ x, xs[i]? = some x ∧ d = .tuple [.int ((n + i : Nat) : Int), x]
  | [], _, _, _, h => by simp [enumD] at h
  | x :: xs, n, 0, d, h => by
    have h' : PyData.tuple [.int (n : Nat), x] = d := by simpa [enumD] using h
    exact ⟨x, rfl, h'.symm⟩
  | x :: xs, n, i + 1, d, h => by
    obtain ⟨y, h1, h2⟩ := enumD_get (xs := xs) (n := n + 1) (i := i) (d := d) (by simpa [enumD] using h)
    refine ⟨y, by simpa using h1, ?_⟩
    rw [h2]
    have : n + 1 + i = n + (i + 1) := by omega
    rw [this]
theorem enumD_len : ∀ (xs : List PyData) (n : Nat), (enumD n xs).length = xs.length
  | [], _ => rfl
  | _ :: xs, n => by simp [enumD, enumD_len xs (n + 1)]
def iEn (fa : ME) : MD := fun ρ s => (fa ρ s).bind fun x s => match x with
  | .list ds => .ok (enumD 0 ds) s
  | _ => .bad
theorem si_enum (hg : Gl X "enumerate") (hm : X.mg "enumerate" = none) (ha : SE X XR E a fa) (h1 : starEach [a] X.env = (false, eval a X.env) :: starEach [] X.env := by rfl) (h2 : starEach [a] X.env = [(false, eval a X.env)] := by rfl) : SI X XR E (.Tuple es k tp) (.Call (.Name "enumerate" p) [a] [] pos) (iEn fa) := by
  obtain ⟨ta, pa, qa⟩ := ha
  refine ⟨_, pi_enum hg hm (pa_cons pa pa_nil h1) h2, fun A Hi ρ s σ H r re R h => qa A Hi ρ s σ H r re _ (PO.bind h fun x s1 v Hi1 H1 _ e1 r1 d h1 => ?_)⟩
  cases x with
  | list ds =>
    obtain ⟨l, xs, rfl, h2, h3⟩ := d
    refine ⟨l, xs, rfl, SqL.of (r1.sub _ _ h2), PO.use (R := fun Hi' _ ds J => IOk X.K Hi' J ds) (x := enumD 0 ds) h1 r1 fun A' Hi' s' H' sm r' i => ⟨fun dd hd => ?_, fun hl => ?_⟩⟩
    · obtain ⟨x', hx', rfl⟩ := enumD_get hd
      obtain ⟨v1, hv1, dv1⟩ := DqA.get h3 hx'
      have gx : SqL X.K H' l xs := SqL.of (r'.sub _ _ (sm _ _ h2))
      refine ⟨⟨xs, v1, gx, hv1⟩, fun x H'' q => ?_⟩
      obtain ⟨p, a1, rfl, hp, rfl, hx2⟩ := q
      have b1 := hx2 xs gx
      rw [hv1] at b1
      cases b1
      have hpi := r'.fresh hp
      rw [Nat.zero_add]
      exact ⟨_, Ext.fresh hp hpi, r'.new hp, p, _, rfl, SqT.of upd_same, _, _, rfl, rfl, v1, [], rfl, Dq.mono (sm.trans (same_upd hpi)) _ _ dv1, rfl⟩
    · rw [enumD_len] at hl
      exact ⟨xs, SqL.of (r'.sub _ _ (sm _ _ h2)), by rw [h3.length]; omega⟩
  | _ => exact h1.elim
end
end Mir

/-! ## more: recursion -/
namespace Mir
open PySem PySem.Spec PyProof.Rows L2
variable [Tb]
theorem fn_bad {P : Program} {w : World} {K : PySem.W.Frag} {mg : Str → Option Value} {base : Heap} {k : Nat} {f : Addr} {fd : FuncData} {ps : List Str} {XR : XRel} {n : Nat} (hn : ps.length = n) :
    FnOk P w K mg base CX0 k f fd ps (spM K XR n fun _ _ => .bad) :=
  ⟨fun vs H Q E h => by
      obtain ⟨_, _, as, _, h1, _, h2, _⟩ := h
      rw [h2.length, h1, hn],
    fun A outer s H args us vs Q E hr he hb hv h => by
      obtain ⟨_, _, _, _, _, _, _, h⟩ := h
      exact False.elim h⟩
/-- a block within a block: free names may be told as cells -/
theorem lookup_relab {env : PySem.Env} {x : Str} : ∀ {names : List (Str × NameKind)}, names.lookup x = some .cell ∨ names.lookup x = some .free →
    (names.map fun (n, k) => if (k == NameKind.free && env.scope.kind == .function && env.kindOf n == some .cell) then (n, NameKind.cell) else (n, k)).lookup x = some .cell ∨
    (names.map fun (n, k) => if (k == NameKind.free && env.scope.kind == .function && env.kindOf n == some .cell) then (n, NameKind.cell) else (n, k)).lookup x = some .free
  | [], h => by simp at h
  | (n, k) :: r, h => by
    have ih := @lookup_relab env x r
    rw [List.map_cons]
    show List.lookup x ((if (k == NameKind.free && env.scope.kind == .function && env.kindOf n == some .cell) = true then (n, NameKind.cell) else (n, k)) :: _) = _ ∨ List.lookup x ((if (k == NameKind.free && env.scope.kind == .function && env.kindOf n == some .cell) = true then (n, NameKind.cell) else (n, k)) :: _) = _
    rw [List.lookup_cons] at h
    cases hx : x == n with
    | true =>
      rw [hx] at h
      have h' : some k = some NameKind.cell ∨ some k = some NameKind.free := h
      split
      · left
        rw [List.lookup_cons, hx]
      · rw [List.lookup_cons, hx]
        exact h'
    | false =>
      rw [hx] at h
      have q := ih h
      split <;> rw [List.lookup_cons, hx] <;> exact q
theorem blkOk_in {N : List Str} {sc scope : Scope} {own : List (Str × Nat)} {env : PySem.Env} (h : blkC N sc scope own = true) : BlkOk N (relabel sc env) scope own := by
  have b := blkOk_by h
  exact ⟨b.kind, b.uniq, b.ix, fun y hy e => lookup_relab (b.free y hy e), b.own⟩
/-! comprehensions, told by the indices of their own names -/
section
variable {X : Cx} {XR : XRel} {E : XK}
variable {elt tg iter : Expr} {ifs : List Expr} {scope : Scope} {it : MD} {f : MG} {ix js : List Nat} {m : MT} {fe : ME} {pos : Pos}
theorem sc_comp2 (N : List Str) (sc1 : Scope) (own : List (Str × Nat)) (hc : X.calm = true) (hN : X.N.Nodup) (hi : SI X XR E tg iter it) (eN : X.N = N) (esc : X.env.scope = sc1) (hb : blkC N sc1 scope own = true) (hj : own.map (·.2) = js)
    (hg : ∀ (s : Shared) (H : Hp) (C : Addr) (cl : List (Str × Addr)) (fp : List Addr), SG (X.blk s H scope (compEnvC scope cl C X.env) fp) tg f ix)
    (ht : ∀ (s : Shared) (H : Hp) (C : Addr) (cl : List (Str × Addr)) (fp : List Addr), STs (X.blk s H scope (compEnvC scope cl C X.env) fp) XR E ifs m)
    (he : ∀ (s : Shared) (H : Hp) (C : Addr) (cl : List (Str × Addr)) (fp : List Addr), SE (X.blk s H scope (compEnvC scope cl C X.env) fp) XR E elt fe)
    (hix : ∀ i ∈ ix, i ∈ js := by decide) (hs : ∀ x, foldedSetIterable iter X.env x = pure x := by intro _; rfl) : SC X XR E (.ListComp elt [⟨tg, iter, ifs, 0⟩] scope pos) (cComp it f m fe js) := by
  subst hj eN esc
  exact sc_comp hc hN hi (blkOk_by hb) hg ht he hix hs
theorem sc_compN {Y : Cx} {s0 : Shared} {H0 : Hp} {C0 : Addr} {cl0 : List (Str × Addr)} {fp0 : List Addr} {e0 : PySem.Env} {sc0 : Scope} (N : List Str) (own : List (Str × Nat)) (hc : (Y.blk s0 H0 sc0 (compEnvC sc0 cl0 C0 e0) fp0).calm = true) (hN : (Y.blk s0 H0 sc0 (compEnvC sc0 cl0 C0 e0) fp0).N.Nodup) (hi : SI (Y.blk s0 H0 sc0 (compEnvC sc0 cl0 C0 e0) fp0) XR E tg iter it) (eN : (Y.blk s0 H0 sc0 (compEnvC sc0 cl0 C0 e0) fp0).N = N) (hb : blkC N sc0 scope own = true) (hj : own.map (·.2) = js)
    (hg : ∀ (s : Shared) (H : Hp) (C : Addr) (cl : List (Str × Addr)) (fp : List Addr), SG ((Y.blk s0 H0 sc0 (compEnvC sc0 cl0 C0 e0) fp0).blk s H scope (compEnvC scope cl C (Y.blk s0 H0 sc0 (compEnvC sc0 cl0 C0 e0) fp0).env) fp) tg f ix)
    (ht : ∀ (s : Shared) (H : Hp) (C : Addr) (cl : List (Str × Addr)) (fp : List Addr), STs ((Y.blk s0 H0 sc0 (compEnvC sc0 cl0 C0 e0) fp0).blk s H scope (compEnvC scope cl C (Y.blk s0 H0 sc0 (compEnvC sc0 cl0 C0 e0) fp0).env) fp) XR E ifs m)
    (he : ∀ (s : Shared) (H : Hp) (C : Addr) (cl : List (Str × Addr)) (fp : List Addr), SE ((Y.blk s0 H0 sc0 (compEnvC sc0 cl0 C0 e0) fp0).blk s H scope (compEnvC scope cl C (Y.blk s0 H0 sc0 (compEnvC sc0 cl0 C0 e0) fp0).env) fp) XR E elt fe)
    (hix : ∀ i ∈ ix, i ∈ js := by decide) (hs : ∀ x, foldedSetIterable iter (Y.blk s0 H0 sc0 (compEnvC sc0 cl0 C0 e0) fp0).env x = pure x := by intro _; rfl) : SC (Y.blk s0 H0 sc0 (compEnvC sc0 cl0 C0 e0) fp0) XR E (.ListComp elt [⟨tg, iter, ifs, 0⟩] scope pos) (cComp it f m fe js) :=
  by
    subst hj eN
    exact sc_comp hc hN hi (blkOk_in hb) hg ht he hix hs
theorem ss_setLc2 (i : Nat) {y : Str} {py spos : Pos} (N : List Str) (sc1 : Scope) (own : List (Str × Nat)) (hc : X.calm = true) (hN : X.N.Nodup) (hy : X.N[i]? = some y) (hyl : X.env.scope.names.lookup y = some .local)
    (hsw : swapsWith (.ListComp elt [⟨tg, iter, ifs, 0⟩] scope pos) (some (.Name y py)) spos.line X.env = pure true) (hi : SI X XR E tg iter it) (eN : X.N = N) (esc : X.env.scope = sc1) (hb : blkC N sc1 scope own = true) (hj : own.map (·.2) = js)
    (hg : ∀ (s : Shared) (H : Hp) (C : Addr) (cl : List (Str × Addr)) (fp : List Addr), SG (X.blk s H scope (compEnvC scope cl C X.env) fp) tg f ix)
    (ht : ∀ (s : Shared) (H : Hp) (C : Addr) (cl : List (Str × Addr)) (fp : List Addr), STs (X.blk s H scope (compEnvC scope cl C X.env) fp) XR E ifs m)
    (he : ∀ (s : Shared) (H : Hp) (C : Addr) (cl : List (Str × Addr)) (fp : List Addr), SE (X.blk s H scope (compEnvC scope cl C X.env) fp) XR E elt fe)
    (hix : ∀ i ∈ ix, i ∈ js := by decide) (hs : ∀ x, foldedSetIterable iter X.env x = pure x := by intro _; rfl) :
    SS X XR E (.Assign [.Name y py] (.ListComp elt [⟨tg, iter, ifs, 0⟩] scope pos) spos) (mSet i (eFr (cComp it f m fe js))) := by
  subst hj eN esc
  exact ss_setLc i hc hN hy hyl hsw hi (blkOk_by hb) hg ht he hix hs
theorem ss_setLcC2 (i : Nat) {y : Str} {py spos : Pos} (N : List Str) (sc1 : Scope) (own : List (Str × Nat)) (hc : X.calm = true) (hN : X.N.Nodup) (hy : X.N[i]? = some y) (hyl : X.env.scope.names.lookup y = some .local)
    (hsw : swapsWith (.ListComp elt [⟨tg, iter, ifs, 0⟩] scope pos) (some (.Name y py)) spos.line X.env = pure true) (hi : SI X XR E tg iter it) (eN : X.N = N) (esc : X.env.scope = sc1) (hb : blkC N sc1 scope own = true) (hj : own.map (·.2) = js)
    (hg : ∀ (s : Shared) (H : Hp) (C : Addr) (cl : List (Str × Addr)) (fp : List Addr), SG (X.blk s H scope (compEnvC scope cl C X.env) fp) tg f ix)
    (ht : ∀ (s : Shared) (H : Hp) (C : Addr) (cl : List (Str × Addr)) (fp : List Addr), STs (X.blk s H scope (compEnvC scope cl C X.env) fp) XR E ifs m)
    (he : ∀ (s : Shared) (H : Hp) (C : Addr) (cl : List (Str × Addr)) (fp : List Addr), SE (X.blk s H scope (compEnvC scope cl C X.env) fp) XR E elt fe)
    (hix : ∀ i ∈ ix, i ∈ js := by decide) (hs : ∀ x, foldedSetIterable iter X.env x = pure x := by intro _; rfl) :
    SS X XR E (.Assign [.Name y py] (.ListComp elt [⟨tg, iter, ifs, 0⟩] scope pos) spos) (mSetC i (cComp it f m fe js)) := by
  subst hj eN esc
  exact ss_setLcC i hc hN hy hyl hsw hi (blkOk_by hb) hg ht he hix hs
end
end Mir

namespace Mir
open PySem PySem.Spec PyProof.Rows L2
variable [Tb]
/-! ### list(zip(a, b)) of lists and tuples in any mix -/
section
variable {prog : Program} {w : World} {A : Around} {E : Value → Shared → Prop} {s : Shared} {z c d i1 i2 T : Addr} {fp1 fp2 : List Addr} {n1 n2 i : Nat} {P1 P2 : Nat → Value → Prop} {St1 St2 : Nat → Heap → Prop} {f : Bool} {oT : Obj}
theorem heldItem {Q : Value → Shared → Prop} (S : ZipSep2 z c d i1 i2 fp1 fp2) (D1 : Draws prog w A i1 fp1 n1 P1 St1) (D2 : Draws prog w A i2 fp2 n2 P2 St2)
    (hz : IsZipHeld s.heap z c d T f) (hT : s.heap.get? T = some oT) (hc : IsTupOf2 s.heap c (.ref i1) (.ref i2)) (st1 : St1 i s.heap) (st2 : St2 i s.heap) (lt1 : i < n1) (lt2 : i < n2)
    (hQ : ∀ x1 x2 h' tk, P1 i x1 → P2 i x2 → IsZipHeld h' z c d T true → St1 (i + 1) h' → St2 (i + 1) h' → IsTupOf2 h' s.heap.objs.size x1 x2 →
      (∀ e o, e ≠ z → e ≠ i1 → e ≠ i2 → s.heap.get? e = some o → h'.get? e = some o) → Q (.ref s.heap.objs.size) { s with heap := h', toks := tk }) :
    wpAny (model prog w) A (Builtin.«zip.__next__» ⟨[.ref z], []⟩) (fun fin s' => ∃ v, fin = .done (.ret v) ∧ Q v s') E s := by
  obtain ⟨hp, gg, dr, tk0, os⟩ := s
  show wpAny (model prog w) A (field (.ref z) 2 >>= _) _ _ _
  refine wpAny_bind (wpAny_field hz rfl (x := .bool false) rfl ?_)
  show wpAny (model prog w) A (field (.ref z) 3 >>= _) _ _ _
  refine wpAny_bind (wpAny_field hz rfl (x := .ref c) rfl (wpAny_bind (wpAny_seqItems hc rfl ?_)))
  show wpAny (model prog w) A (Builtin.SmallTypes.ownedTupleIsFree (.ref z) >>= _) _ _ _
  refine wpAny_bind (wpAny_tupleHeld_zip hz hT fun ha za sa => ?_)
  simp only [Bool.false_eq_true, if_false]
  refine wpAny_bind ?_
  rw [← Array.forIn_toList]
  simp only [List.forIn_cons, List.forIn_nil]
  refine wpAny_bind (wpAny_bind (wpAny_holding (wpAny_bind (D1.item i ⟨ha, gg, dr, tk0, os⟩ _ _ lt1 (D1.over st1 sa S.zf1) fun x1 hb tb p1 n1' sb => wpAny_pure (wpAny_pure ?_)))))
  replace sb : Heap.SameBut i1 ha hb := sb
  refine wpAny_bind (wpAny_bind (wpAny_holding (wpAny_bind (D2.item i ⟨hb, gg, dr, tb, os⟩ _ _ lt2 (D2.over (D2.over st2 sa S.zf2) sb S.sep1_2) fun x2 hd td p2 n2' sd => wpAny_pure (wpAny_pure (wpAny_pure ?_))))))
  replace sd : Heap.SameBut i2 hb hd := sd
  refine wpAny_bind (wpAny_newTuple (wpAny_pure ⟨_, rfl, ?_⟩) (hsz := (show (2 : Nat) ≤ sizeLine by decide)))
  have hsz : hd.objs.size = hp.objs.size := by rw [sd.1, sb.1, sa.1]
  have hzz : IsZipHeld hd z c d T true := sd.extBut _ _ S.zi2 (sb.extBut _ _ S.zi1 za)
  have kk : ∀ e o, e ≠ z → e ≠ i1 → e ≠ i2 → hp.get? e = some o → hd.get? e = some o := fun e o e1 e2 e3 q => sd.extBut _ _ e3 (sb.extBut _ _ e2 (sa.extBut _ _ e1 q))
  have m1 : St1 (i + 1) hd := D1.over n1' sd S.sep2_1
  have push : ∀ (h : Heap) (o : Obj) (e : Addr) (u : Obj), h.get? e = some u → (h.push o).get? e = some u := fun h o e u q => Heap.get?_push_of_some _ q
  have nw : IsTupOf2 (hd.push { cls := .type "tuple", data := .seq #[x1, x2] }) hd.objs.size x1 x2 := Heap.get?_push_size _ rfl
  rw [hsz] at nw
  have q := hQ x1 x2 (hd.push { cls := .type "tuple", data := .seq #[x1, x2] }) td p1 p2 (push _ _ _ _ hzz) (D1.frame _ _ _ m1 fun b _ o q => push _ _ _ _ q) (D2.frame _ _ _ n2' fun b _ o q => push _ _ _ _ q) nw (fun e o e1 e2 e3 q => push _ _ _ _ (kk e o e1 e2 e3 q))
  show Q (.ref hd.objs.size) _
  rw [hsz]
  exact q
theorem heldEnd {Q : Fin → Shared → Prop} (S : ZipSep2 z c d i1 i2 fp1 fp2) (D1 : Draws prog w A i1 fp1 n1 P1 St1) (D2 : Draws prog w A i2 fp2 n2 P2 St2)
    (hz : IsZipHeld s.heap z c d T f) (hT : s.heap.get? T = some oT) (hc : IsTupOf2 s.heap c (.ref i1) (.ref i2)) (st1 : St1 i s.heap) (st2 : St2 i s.heap) (le1 : i ≤ n1) (le2 : i ≤ n2) (hend : i = n1 ∨ i = n2)
    (hE : ∀ h' tk e, (∀ b o, b ≠ z → b ≠ i1 → b ≠ i2 → s.heap.get? b = some o → h'.get? b = some o) → (∃ o, h'.get? e = some o ∧ o.cls = .type "StopIteration") → E (.ref e) { s with heap := h', toks := tk }) :
    wpAny (model prog w) A (Builtin.«zip.__next__» ⟨[.ref z], []⟩) Q E s := by
  obtain ⟨hp, gg, dr, tk0, os⟩ := s
  show wpAny (model prog w) A (field (.ref z) 2 >>= _) _ _ _
  refine wpAny_bind (wpAny_field hz rfl (x := .bool false) rfl ?_)
  show wpAny (model prog w) A (field (.ref z) 3 >>= _) _ _ _
  refine wpAny_bind (wpAny_field hz rfl (x := .ref c) rfl (wpAny_bind (wpAny_seqItems hc rfl ?_)))
  show wpAny (model prog w) A (Builtin.SmallTypes.ownedTupleIsFree (.ref z) >>= _) _ _ _
  refine wpAny_bind (wpAny_tupleHeld_zip hz hT fun ha za sa => ?_)
  simp only [Bool.false_eq_true, if_false]
  refine wpAny_bind ?_
  rw [← Array.forIn_toList]
  simp only [List.forIn_cons, List.forIn_nil]
  refine wpAny_bind (wpAny_bind (wpAny_holding ?_))
  by_cases lt1 : i < n1
  · refine wpAny_bind (D1.item i ⟨ha, gg, dr, tk0, os⟩ _ _ lt1 (D1.over st1 sa S.zf1) fun x1 hb tb p1 n1' sb => wpAny_pure (wpAny_pure ?_))
    replace sb : Heap.SameBut i1 ha hb := sb
    have e2 : i = n2 := by omega
    refine wpAny_bind (wpAny_bind (wpAny_holding (wpAny_bind (D2.done ⟨hb, gg, dr, tb, os⟩ _ _ (by rw [← e2]; exact D2.over (D2.over st2 sa S.zf2) sb S.sep1_2) fun q e hq he => ?_))))
    exact hE q tb e (fun b o b1 b2 b3 x => hq _ _ b3 (sb.extBut _ _ b2 (sa.extBut _ _ b1 x))) he
  · have e1 : i = n1 := by omega
    refine wpAny_bind (D1.done ⟨ha, gg, dr, tk0, os⟩ _ _ (by rw [← e1]; exact D1.over st1 sa S.zf1) fun q e hq he => ?_)
    exact hE q tk0 e (fun b o b1 b2 _ x => hq _ _ b2 (sa.extBut _ _ b1 x)) he
theorem heldNext {Q : Option Value → Shared → Prop} (S : ZipSep2 z c d i1 i2 fp1 fp2) (D1 : Draws prog w A.in1 i1 fp1 n1 P1 St1) (D2 : Draws prog w A.in1 i2 fp2 n2 P2 St2)
    (hz : IsZipHeld s.heap z c d T f) (hT : s.heap.get? T = some oT) (hc : IsTupOf2 s.heap c (.ref i1) (.ref i2)) (st1 : St1 i s.heap) (st2 : St2 i s.heap) (lt1 : i < n1) (lt2 : i < n2)
    (hQ : ∀ x1 x2 h' tk, P1 i x1 → P2 i x2 → IsZipHeld h' z c d T true → St1 (i + 1) h' → St2 (i + 1) h' → IsTupOf2 h' s.heap.objs.size x1 x2 →
      (∀ e o, e ≠ z → e ≠ i1 → e ≠ i2 → s.heap.get? e = some o → h'.get? e = some o) → Q (some (.ref s.heap.objs.size)) { s with heap := h', toks := tk }) :
    wpAny (model prog w) A (pyNext (.ref z)) Q E s := by
  have ty : s.TypeIs (.ref z) "zip" := ⟨_, hz, rfl⟩
  refine wpAny_bind (wpAny_attempt (wpAny_callSpecial?_slot ty F.slot_zip_next (wpAny_call_entry F.slot_zip_next ty F.entry_zip_next ?_ (F.args_zip_next_1 _))))
  exact heldItem S D1 D2 hz hT hc st1 st2 lt1 lt2 fun x1 x2 h' tk a1 a2 a3 a4 a5 a6 a7 => wpAny_pure (hQ x1 x2 h' tk a1 a2 a3 a4 a5 a6 a7)
theorem heldStop {Q : Option Value → Shared → Prop} (S : ZipSep2 z c d i1 i2 fp1 fp2) (D1 : Draws prog w A.in1 i1 fp1 n1 P1 St1) (D2 : Draws prog w A.in1 i2 fp2 n2 P2 St2)
    (hz : IsZipHeld s.heap z c d T f) (hT : s.heap.get? T = some oT) (hc : IsTupOf2 s.heap c (.ref i1) (.ref i2)) (st1 : St1 i s.heap) (st2 : St2 i s.heap) (le1 : i ≤ n1) (le2 : i ≤ n2) (hend : i = n1 ∨ i = n2)
    (hQ : ∀ h' tk, (∀ b o, b ≠ z → b ≠ i1 → b ≠ i2 → s.heap.get? b = some o → h'.get? b = some o) → Q none { s with heap := h', toks := tk }) :
    wpAny (model prog w) A (pyNext (.ref z)) Q E s := by
  have ty : s.TypeIs (.ref z) "zip" := ⟨_, hz, rfl⟩
  refine wpAny_bind (wpAny_attempt (wpAny_callSpecial?_slot ty F.slot_zip_next (wpAny_call_entry F.slot_zip_next ty F.entry_zip_next ?_ (F.args_zip_next_1 _))))
  refine heldEnd S D1 D2 hz hT hc st1 st2 le1 le2 hend fun h' tk e kk he => ?_
  obtain ⟨o, h1, h2⟩ := he
  exact wpAny_bind (wpAny_isInstance (T := "StopIteration") (b := true) ⟨o, h1, h2⟩ isSubtype_stop (wpAny_pure (hQ h' tk kk)))
end
/-- a zip that gives tuples which are kept -/
structure ZL (t u : Bool) (z c d i1 i2 a b S : Addr) (i : Nat) (h : Heap) : Prop where
  hz : (IsZip h z c d .none ∧ ∃ x y, IsTupOf2 h d x y) ∨ ∃ T f o, IsZipHeld h z c d T f ∧ h.get? T = some o ∧ T ∉ [z, c, d, i1, i2, S]
  hc : IsTupOf2 h c (.ref i1) (.ref i2)
  h1 : itK t h i1 a i
  h2 : itK u h i2 b i
  hd : ∃ o, h.get? d = some o
theorem ZL.dl {t u : Bool} {z c d i1 i2 a b S : Addr} {i : Nat} {h : Heap} (Z : ZL t u z c d i1 i2 a b S i h) : d < h.objs.size := by
  obtain ⟨o, q⟩ := Z.hd
  exact Heap.lt_size q
theorem ZL.side {t u : Bool} {z c d i1 i2 a b S : Addr} {i : Nat} {h h' : Heap} (Z : ZL t u z c d i1 i2 a b S i h) (hS : S ∉ [z, c, d, i1, i2]) (k : ∀ e o, e ≠ S → h.get? e = some o → h'.get? e = some o) : ZL t u z c d i1 i2 a b S i h' := by
  simp only [List.mem_cons, List.not_mem_nil, or_false, not_or] at hS
  obtain ⟨e1, e2, e3, e4, e5⟩ := hS
  refine ⟨?_, k _ _ (Ne.symm e2) Z.hc, itK_at Z.h1 fun o q => k _ _ (Ne.symm e4) q, itK_at Z.h2 fun o q => k _ _ (Ne.symm e5) q, ?_⟩
  rcases Z.hz with ⟨q, x, y, r⟩ | ⟨T, f, o, q, r, m⟩
  · exact .inl ⟨k _ _ (Ne.symm e1) q, x, y, k _ _ (Ne.symm e3) r⟩
  · refine .inr ⟨T, f, o, k _ _ (Ne.symm e1) q, k _ _ (fun e => m (by simp [e])) r, m⟩
  · obtain ⟨o, q⟩ := Z.hd
    exact ⟨o, k _ _ (Ne.symm e3) q⟩
theorem gK_mono {t : Bool} {K : PySem.W.Frag} {H H' : Hp} {a : Addr} {xs : List V} (e : Same H H') (h : gK t K H a xs) : gK t K H' a xs := by
  cases t with
  | true => exact sqt_mono e h
  | false => exact sql_mono e h
theorem gK_small {X : Cx} {pins : List (Addr × Obj)} {σ : L2.St} {H : Hp} {s : Shared} {t : Bool} {a : Addr} {xs : List V} (I : Inv X pins σ H s) (h : gK t X.K H a xs) : xs.length ≤ sizeLine := by
  cases t with
  | true =>
    obtain ⟨us, r, p, hz⟩ := I.tuple h
    exact hz
  | false =>
    obtain ⟨us, r, p, hz⟩ := I.list h
    exact hz
theorem zl_lt {t u : Bool} {z c d i1 i2 a b S : Addr} {i : Nat} {h : Heap} {oS : Obj} (Z : ZL t u z c d i1 i2 a b S i h) (hS : h.get? S = some oS) : ∀ e ∈ S :: [z, c, d, i1, i2], e < h.objs.size := fun e m => by
  obtain ⟨o1, g1, _⟩ := itK_obj Z.h1
  obtain ⟨o2, g2, _⟩ := itK_obj Z.h2
  have hz : z < h.objs.size := by
    rcases Z.hz with ⟨q, _⟩ | ⟨_, _, _, q, _⟩
    · exact Heap.lt_size q
    · exact Heap.lt_size q
  simp only [List.mem_cons, List.not_mem_nil, or_false] at m
  rcases m with rfl | rfl | rfl | rfl | rfl | rfl
  · exact Heap.lt_size hS
  · exact hz
  · exact Heap.lt_size Z.hc
  · exact Z.dl
  · exact Heap.lt_size g1
  · exact Heap.lt_size g2
section
variable {X : Cx} {pins : List (Addr × Obj)} {σ : L2.St} {H : Hp} {s : Shared} {A : Around} {E : Value → Shared → Prop} {t u : Bool} {z c d i1 i2 a b S : Addr} {i : Nat} {xs ys : List V} {x y : V}
theorem zl_next {Q : Option Value → Shared → Prop} {oS : Obj} (Sp : ZipSep2 z c d i1 i2 [i1, a] [i2, b]) (n1 : a ≠ i1) (n2 : b ≠ i2) (hS : S ∉ [z, c, d, i1, i2]) (hh : A.in1.handled = none) (I : Inv X pins σ H s) (hf : ∀ e ∈ [z, c, d, i1, i2], FpOk X pins H e)
    (Z : ZL t u z c d i1 i2 a b S i s.heap) (hSo : s.heap.get? S = some oS) (gx : gK t X.K H a xs) (gy : gK u X.K H b ys) (ex : xs[i]? = some x) (ey : ys[i]? = some y)
    (h : ∀ s', Inv X pins σ (upd H s.heap.objs.size (.tup [x, y])) s' → ZL t u z c d i1 i2 a b S (i + 1) s'.heap → s'.heap.get? S = some oS → Q (some (.ref s.heap.objs.size)) s') :
    wpAny (model X.prog X.w) A (pyNext (.ref z)) Q E s := by
  obtain ⟨us, r1, p1, _⟩ := gK_vals I gx
  obtain ⟨vs, r2, p2, _⟩ := gK_vals I gy
  obtain ⟨v1, e1, q1⟩ := r1.get ex
  obtain ⟨v2, e2, q2⟩ := r2.get ey
  have D1 := draws_k (prog := X.prog) (w := X.w) t hh i1 a n1 us.toArray
  have D2 := draws_k (prog := X.prog) (w := X.w) u hh i2 b n2 vs.toArray
  have l1 : i < us.toArray.size := by simpa using (List.getElem?_eq_some_iff.mp e1).1
  have l2 : i < vs.toArray.size := by simpa using (List.getElem?_eq_some_iff.mp e2).1
  have val1 : ∀ w1, us.toArray[i]? = some w1 → w1 = v1 := fun w1 q => by
    rw [List.getElem?_toArray, e1] at q
    exact (Option.some.inj q).symm
  have val2 : ∀ w2, vs.toArray[i]? = some w2 → w2 = v2 := fun w2 q => by
    rw [List.getElem?_toArray, e2] at q
    exact (Option.some.inj q).symm
  have low : ∀ {e o}, s.heap.get? e = some o → s.heap.objs.size ≠ e := fun q => Nat.ne_of_gt (Heap.lt_size q)
  obtain ⟨o1, g1, _⟩ := itK_obj Z.h1
  obtain ⟨o2, g2, _⟩ := itK_obj Z.h2
  have lz : s.heap.objs.size ≠ z := by
    rcases Z.hz with ⟨q, _⟩ | ⟨_, _, _, q, _⟩
    · exact low q
    · exact low q
  have sub : ∀ {e : Addr}, e ∈ [z, d, i1, i2] → e ∈ [z, c, d, i1, i2] := fun m => by
    simp only [List.mem_cons, List.not_mem_nil, or_false] at m ⊢
    rcases m with m | m | m | m <;> simp [m]
  have fin : ∀ (h' : Heap) (tk : Nat), (∃ f, IsZipHeld h' z c d s.heap.objs.size f ∧ s.heap.objs.size ≠ d) ∨ (∃ T g o, IsZipHeld h' z c d T g ∧ h'.get? T = some o ∧ T ∉ [z, c, d, i1, i2, S]) → itK t h' i1 a (i + 1) → itK u h' i2 b (i + 1) → IsTupOf2 h' s.heap.objs.size v1 v2 → (∃ o, h'.get? d = some o) →
      (∀ e o, e ∉ [z, d, i1, i2] → s.heap.get? e = some o → h'.get? e = some o) → Q (some (.ref s.heap.objs.size)) { s with heap := h', toks := tk } := by
    intro h' tk hzz m1 m2 hT hd' kp
    have ok : ObjOk X.prog X.w (upd H s.heap.objs.size (.tup [x, y])) h' s.heap.objs.size (.tup [x, y]) := ⟨by show 2 ≤ sizeLine; decide, [v1, v2], .cons q1 (.cons q2 .nil), _, hT, rfl, _, rfl⟩
    have cn : c ∉ [z, d, i1, i2] := by
      simp only [List.mem_cons, List.not_mem_nil, or_false, not_or]
      exact ⟨Sp.TIz, Sp.TITO, Sp.TIi1, Sp.TIi2⟩
    refine h _ (I.turnedNew (t' := tk) (ch := [z, c, d, i1, i2]) (fun e o ne he => kp e o (fun m => ne (sub m)) he) hf (Nat.le_refl _) ok) ⟨.inr ?_, kp _ _ cn Z.hc, m1, m2, hd'⟩ (kp _ _ (fun m => hS (sub m)) hSo)
    rcases hzz with ⟨f, q, ld⟩ | q
    · refine ⟨_, f, _, q, hT, ?_⟩
      simp only [List.mem_cons, List.not_mem_nil, or_false, not_or]
      exact ⟨lz, low Z.hc, ld, low g1, low g2, low hSo⟩
    · exact q
  have nin : ∀ {e : Addr}, e ∉ [z, d, i1, i2] → e ≠ z ∧ e ≠ d ∧ e ≠ i1 ∧ e ≠ i2 := fun m => by simpa only [List.mem_cons, List.not_mem_nil, or_false, not_or] using m
  rcases Z.hz with ⟨hz, x0, y0, hd⟩ | ⟨T, f, oT, hz, hT, nT⟩
  · refine wpAny_pyNext_zipD2_item Sp D1 D2 hz Z.hc hd ⟨Z.h1, p1⟩ ⟨Z.h2, p2⟩ l1 l2 fun w1 w2 h' tk a1 a2 z1 z2 st1 st2 hT hsz kp => ?_
    cases val1 w1 a1
    cases val2 w2 a2
    exact fin h' tk (.inl ⟨false, z1, low hd⟩) st1.1 st2.1 hT ⟨_, z2⟩ fun e o m q => kp e o (nin m).1 (nin m).2.1 (nin m).2.2.1 (nin m).2.2.2 q
  · have nT' := nT
    simp only [List.mem_cons, List.not_mem_nil, or_false, not_or] at nT'
    obtain ⟨t1, _, _, t4, t5, _⟩ := nT'
    refine heldNext Sp D1 D2 hz hT Z.hc ⟨Z.h1, p1⟩ ⟨Z.h2, p2⟩ l1 l2 fun w1 w2 h' tk a1 a2 z1 st1 st2 hN kp => ?_
    cases val1 w1 a1
    cases val2 w2 a2
    exact fin h' tk (.inr ⟨T, true, oT, z1, kp _ _ t1 t4 t5 hT, nT⟩) st1.1 st2.1 hN (Z.hd.imp fun o q => kp _ _ Sp.TOz Sp.Ti1 Sp.Ti2 q) fun e o m q => kp e o (nin m).1 (nin m).2.2.1 (nin m).2.2.2 q
theorem zl_stop {Q : Option Value → Shared → Prop} {oS : Obj} (Sp : ZipSep2 z c d i1 i2 [i1, a] [i2, b]) (n1 : a ≠ i1) (n2 : b ≠ i2) (hS : S ∉ [z, c, d, i1, i2]) (hh : A.in1.handled = none) (I : Inv X pins σ H s) (hf : ∀ e ∈ [z, c, d, i1, i2], FpOk X pins H e)
    (Z : ZL t u z c d i1 i2 a b S i s.heap) (hSo : s.heap.get? S = some oS) (gx : gK t X.K H a xs) (gy : gK u X.K H b ys) (le1 : i ≤ xs.length) (le2 : i ≤ ys.length) (hend : i = xs.length ∨ i = ys.length)
    (h : ∀ s', Inv X pins σ H s' → s'.heap.get? S = some oS → Q none s') : wpAny (model X.prog X.w) A (pyNext (.ref z)) Q E s := by
  obtain ⟨us, r1, p1, _⟩ := gK_vals I gx
  obtain ⟨vs, r2, p2, _⟩ := gK_vals I gy
  have D1 := draws_k (prog := X.prog) (w := X.w) t hh i1 a n1 us.toArray
  have D2 := draws_k (prog := X.prog) (w := X.w) u hh i2 b n2 vs.toArray
  have z1 : us.toArray.size = xs.length := by rw [List.size_toArray, r1.length]
  have z2 : vs.toArray.size = ys.length := by rw [List.size_toArray, r2.length]
  have sub : ∀ {e : Addr}, e ∈ [z, d, i1, i2] → e ∈ [z, c, d, i1, i2] := fun m => by
    simp only [List.mem_cons, List.not_mem_nil, or_false] at m ⊢
    rcases m with m | m | m | m <;> simp [m]
  have nin : ∀ {e : Addr}, e ∉ [z, d, i1, i2] → e ≠ z ∧ e ≠ d ∧ e ≠ i1 ∧ e ≠ i2 := fun m => by simpa only [List.mem_cons, List.not_mem_nil, or_false, not_or] using m
  have fin : ∀ (h' : Heap) (tk : Nat), (∀ e o, e ∉ [z, d, i1, i2] → s.heap.get? e = some o → h'.get? e = some o) → Q none { s with heap := h', toks := tk } := fun h' tk kp =>
    h _ (I.turnedL (t' := tk) (ch := [z, c, d, i1, i2]) (fun e o ne he => kp e o (fun m => ne (sub m)) he) hf) (kp _ _ (fun m => hS (sub m)) hSo)
  rcases Z.hz with ⟨hz, x0, y0, hd⟩ | ⟨T, f, oT, hz, hT, nT⟩
  · exact wpAny_pyNext_zipD2_end Sp D1 D2 hz Z.hc hd ⟨Z.h1, p1⟩ ⟨Z.h2, p2⟩ (by omega) (by omega) (by omega) fun h' tk kp => fin h' tk fun e o m q => kp e o (nin m).1 (nin m).2.1 (nin m).2.2.1 (nin m).2.2.2 q
  · exact heldStop Sp D1 D2 hz hT Z.hc ⟨Z.h1, p1⟩ ⟨Z.h2, p2⟩ (by omega) (by omega) (by omega) fun h' tk kp => fin h' tk fun e o m q => kp e o (nin m).1 (nin m).2.2.1 (nin m).2.2.2 q
/-- the tuples come, one by one -/
def zgo (Q : List V → Hp → Prop) : List V → List V → List V → Hp → Prop
  | x :: xs, y :: ys, acc, H => ∀ p, H p = none → zgo Q xs ys (acc ++ [.ref p]) (upd H p (.tup [x, y]))
  | [], _, acc, H => Q acc H
  | _ :: _, [], acc, H => Q acc H
theorem vals_snoc {xs : List V} {us : List Value} {x : V} {v : Value} (h : Vals xs us) (r : RelV x v) : Vals (xs ++ [x]) (us ++ [v]) := by
  induction h with
  | nil => exact .cons r .nil
  | cons a _ ih => exact .cons a ih
theorem fpOk_upd {e p : Addr} {o : HO} (f : FpOk X pins H e) (n : e ≠ p) : FpOk X pins (upd H p o) e := ⟨by rw [upd_ne n]; exact f.1, f.2⟩
theorem lz_loop {Q : List V → Hp → Prop} {R : Result → Shared → Prop} (Sp : ZipSep2 z c d i1 i2 [i1, a] [i2, b]) (n1 : a ≠ i1) (n2 : b ≠ i2) (hS : S ∉ [z, c, d, i1, i2]) (hh : A.in1.in1.handled = none) :
    ∀ (zs ws : List V) (i : Nat) (s : Shared) (H : Hp) (xs ys acc : List V) (its : Array Value) (cp : Nat), xs.drop i = zs → ys.drop i = ws → i ≤ xs.length → i ≤ ys.length → acc.length = i → Inv X pins σ H s → (∀ e ∈ S :: [z, c, d, i1, i2], FpOk X pins H e) →
      ZL t u z c d i1 i2 a b S i s.heap → s.heap.get? S = some { cls := .type "list", dict := none, data := .seq its cp, slots := #[] } → gK t X.K H a xs → gK u X.K H b ys → Vals acc its.toList → zgo Q zs ws acc H →
      (∀ s' H' acc' its' cp', Inv X pins σ H' s' → FpOk X pins H' S → s'.heap.get? S = some { cls := .type "list", dict := none, data := .seq its' cp', slots := #[] } → Vals acc' its'.toList → acc'.length ≤ sizeLine → Q acc' H' → R (.ok (.ret .none)) s') →
      codeAny (model X.prog X.w) A (.builtin "list.extend.loop" ⟨[.ref S, .ref z, .none], []⟩) R s := by
  intro zs
  induction zs with
  | nil =>
    intro ws i s H xs ys acc its cp ezs ews le1 le2 la I hf Z hSo gx gy va q k
    have e1 : i = xs.length := by
      have := congrArg List.length ezs
      rw [List.length_drop, List.length_nil] at this
      omega
    have hb : xs.length ≤ sizeLine := gK_small I gx
    refine codeAny_builtin F.entry_extend_loop ?_
    rw [Around.under_plainId F.plain_extend_loop ⟨[.ref S, .ref z, .none], []⟩]
    refine wpAny_bind (zl_stop Sp n1 n2 hS hh I (fun e m => hf e (List.mem_cons_of_mem _ m)) Z hSo gx gy le1 le2 (.inl e1) fun s' I' g => ?_)
    exact wpAny_pure (k s' H acc its cp I' (hf S List.mem_cons_self) g va (by omega) q)
  | cons x zs ih =>
    intro ws i s H xs ys acc its cp ezs ews le1 le2 la I hf Z hSo gx gy va q k
    have hb : xs.length ≤ sizeLine := gK_small I gx
    cases ws with
    | nil =>
      have e1 : i = ys.length := by
        have := congrArg List.length ews
        rw [List.length_drop, List.length_nil] at this
        omega
      refine codeAny_builtin F.entry_extend_loop ?_
      rw [Around.under_plainId F.plain_extend_loop ⟨[.ref S, .ref z, .none], []⟩]
      refine wpAny_bind (zl_stop Sp n1 n2 hS hh I (fun e m => hf e (List.mem_cons_of_mem _ m)) Z hSo gx gy le1 le2 (.inr e1) fun s' I' g => ?_)
      exact wpAny_pure (k s' H acc its cp I' (hf S List.mem_cons_self) g va (by omega) q)
    | cons y ws =>
      have g1 : xs[i]? = some x := by
        have := congrArg List.head? ezs
        rw [List.head?_drop] at this
        exact this
      have g2 : ys[i]? = some y := by
        have := congrArg List.head? ews
        rw [List.head?_drop] at this
        exact this
      have l1 := (List.getElem?_eq_some_iff.mp g1).1
      have l2 := (List.getElem?_eq_some_iff.mp g2).1
      have ezs' : xs.drop (i + 1) = zs := by rw [← List.tail_drop, ezs]; rfl
      have ews' : ys.drop (i + 1) = ws := by rw [← List.tail_drop, ews]; rfl
      have hn : H s.heap.objs.size = none := I.hok.fresh (Nat.le_refl _)
      have lenits : its.size = acc.length := by
        have := va.length
        simp only [Array.length_toList] at this
        exact this.symm
      refine codeAny_builtin F.entry_extend_loop ?_
      rw [Around.under_plainId F.plain_extend_loop ⟨[.ref S, .ref z, .none], []⟩]
      refine wpAny_bind (zl_next Sp n1 n2 hS hh I (fun e m => hf e (List.mem_cons_of_mem _ m)) Z hSo gx gy g1 g2 fun s' I' Z' g => ?_)
      have same : Same H (upd H s.heap.objs.size (.tup [x, y])) := same_upd hn
      have ltf : ∀ e ∈ S :: [z, c, d, i1, i2], e ≠ s.heap.objs.size := fun e m => Nat.ne_of_lt (zl_lt Z hSo e m)
      show wpAny (model X.prog X.w) A.in1 (updateSeq S (·.push (.ref s.heap.objs.size)) >>= _) _ _ s'
      refine wpAny_bind (wpAny_updateSeq g rfl (wpAny_pure ⟨plainId_quiet F.plain_extend_loop _, ?_⟩) (by rw [lenits]; omega) (by show (its.push (Value.ref s.heap.objs.size)).size ≤ sizeLine + 1; rw [Array.size_push, lenits]; omega))
      have oth : ∀ e o, e ≠ S → s'.heap.get? e = some o → (s'.heap.update S (Obj.mapSeq (·.push (Value.ref s.heap.objs.size)))).get? e = some o := fun e o ne q => (Heap.get?_update_other _ _ (Ne.symm ne)).trans q
      have I2 : Inv X pins σ (upd H s.heap.objs.size (.tup [x, y])) { s' with heap := s'.heap.update S (Obj.mapSeq (·.push (Value.ref s.heap.objs.size))) } :=
        I'.turnedL (t' := s'.toks) (ch := [S]) (fun e o ne q => oth e o (fun z => ne (by simp [z])) q) fun e m => by
          rw [List.mem_singleton.mp m]
          exact fpOk_upd (hf S List.mem_cons_self) (ltf S List.mem_cons_self)
      refine ih ws (i + 1) _ _ xs ys (acc ++ [.ref s.heap.objs.size]) (its.push (.ref s.heap.objs.size)) _ ezs' ews' l1 l2 (by rw [List.length_append, la]; rfl) I2 (fun e m => fpOk_upd (hf e m) (ltf e m)) (Z'.side hS oth) (Heap.get?_update_self _ g rfl) (gK_mono same gx) (gK_mono same gy) ?_ (q _ hn) k
      rw [Array.toList_push]
      exact vals_snoc va rfl
theorem zip_len_no : typeLookup (.type "zip") "__len__" = pure none := am_miss_of_fast (by decide +kernel)
theorem zip_hint_no : typeLookup (.type "zip") "__length_hint__" = pure none := am_miss_of_fast (by decide +kernel)
theorem upd_two {H : Hp} {p : Addr} {o : HO} : Same H H := Same.refl H
theorem lz_call {Q : VK} (Sp : ZipSep2 z c d i1 i2 [i1, a] [i2, b]) (n1 : a ≠ i1) (n2 : b ≠ i2) (hh : X.A.in1.handled = none) (I : Inv X pins σ H s) (hf : ∀ e ∈ [z, c, d, i1, i2], FpOk X pins H e) (hz : IsZip s.heap z c d .none) (hc : IsTupOf2 s.heap c (.ref i1) (.ref i2))
    (hd : ∃ x y, IsTupOf2 s.heap d x y) (h1 : itK t s.heap i1 a 0) (h2 : itK u s.heap i2 b 0) (gx : gK t X.K H a xs) (gy : gK u X.K H b ys) (q : zgo (fun acc H' => ∀ l, H' l = none → Q (.ref l) (upd H' l (.lst acc))) xs ys [] H) :
    wpAny (model X.prog X.w) X.A (call (.type "list") [.ref z]) (EP X pins σ Q) E s := by
  obtain ⟨x0, y0, hd⟩ := hd
  have Z0 : ZL t u z c d i1 i2 a b s.heap.objs.size 0 s.heap → True := fun _ => trivial
  obtain ⟨o1, g1, _⟩ := itK_obj h1
  obtain ⟨o2, g2, _⟩ := itK_obj h2
  have low : ∀ {e o}, s.heap.get? e = some o → s.heap.objs.size ≠ e := fun q => Nat.ne_of_gt (Heap.lt_size q)
  have hS : s.heap.objs.size ∉ [z, c, d, i1, i2] := by
    simp only [List.mem_cons, List.not_mem_nil, or_false, not_or]
    exact ⟨low hz, low hc, low hd, low g1, low g2⟩
  have hn : H s.heap.objs.size = none := I.hok.fresh (Nat.le_refl _)
  have fS : FpOk X pins H s.heap.objs.size := I.fpOk (Nat.le_refl _) hn
  refine callType_codes (Q₁ := fun ob s1 => ob = .ref s.heap.objs.size ∧ s1 = { s with heap := s.heap.push { cls := .type "list", data := .seq #[] } }) F.called_list (F.typeCall_list_1 _) F.entry_list_init (code_list_new _ ⟨rfl, rfl⟩) ?_
  rintro ob s1 ⟨rfl, rfl⟩
  have gS : (s.heap.push { cls := .type "list", data := .seq #[] }).get? s.heap.objs.size = some { cls := .type "list", data := .seq #[] } := Heap.get?_push_size _ rfl
  have k0 : ∀ e o, s.heap.get? e = some o → (s.heap.push { cls := .type "list", data := .seq #[] }).get? e = some o := fun e o x => Heap.get?_push_of_some _ x
  refine ⟨⟨_, gS, rfl⟩, F.args_list_init_2 _ _, ?_⟩
  show wpAny (model X.prog X.w) X.A.in1.in1 (do let old ← Builtin.List.listItems (.ref s.heap.objs.size); Builtin.List.listUpdate (.ref s.heap.objs.size) (fun _ => #[]); letGo old.toList.reverse; Builtin.List.listExtendWith (.ref s.heap.objs.size) (.ref z) .none) _ _ _
  refine wpAny_bind ?_
  unfold Builtin.List.listItems
  refine wpAny_bind (wpAny_seqItems gS rfl (wpAny_pure ?_))
  show wpAny (model X.prog X.w) X.A.in1.in1 (updateSeq s.heap.objs.size (fun _ => #[]) >>= fun _ => letGo (#[] : Array Value).toList.reverse >>= fun _ => Builtin.List.listExtendWith (.ref s.heap.objs.size) (.ref z) .none) _ _ _
  refine wpAny_bind (wpAny_updateSeq gS rfl (wpAny_bind (wpAny_letGo ?_)))
  have gS2 := Heap.get?_update_self (Obj.mapSeq (fun _ => (#[] : Array Value))) gS rfl
  have k1 : ∀ e o, s.heap.get? e = some o → ((s.heap.push { cls := .type "list", data := .seq #[] }).update s.heap.objs.size (Obj.mapSeq (fun _ => (#[] : Array Value)))).get? e = some o := fun e o x => (Heap.get?_update_other _ _ (low x)).trans (k0 e o x)
  generalize hg2 : (s.heap.push { cls := .type "list", data := .seq #[] }).update s.heap.objs.size (Obj.mapSeq (fun _ => (#[] : Array Value))) = g at gS2 k1
  have ty : ∀ (h' : Heap) (tk : Nat), h'.get? z = some { cls := .type "zip", dict := none, data := .fields #[.none, .bool false, .bool false, .ref c, .ref d], slots := #[] } → ({ s with heap := h', toks := tk } : Shared).TypeIs (.ref z) "zip" := fun h' tk x => ⟨_, x, rfl⟩
  unfold Builtin.List.listExtendWith
  refine wpAny_bind (wpAny_typeOf (ty g s.toks (k1 _ _ hz)) ?_)
  have b1 : Builtin.List.listSameRef (.ref s.heap.objs.size) (.ref z) = false := by simp [Builtin.List.listSameRef, low hz]
  have b2 : (Value.type "zip" == Value.type "list") = false := by decide
  have b3 : (Value.type "zip" == Value.type "tuple") = false := by decide
  simp only [b1, b2, b3, Bool.or_false, Bool.false_eq_true, if_false]
  refine wpAny_bind (wpAny_pyIter_zip (k1 _ _ hz) (wpAny_bind (wpAny_holding ?_)))
  unfold Builtin.List.listLengthHint
  refine wpAny_bind (wpAny_specialOf (ty g s.toks (k1 _ _ hz)) zip_len_no ?_)
  show wpAny (model X.prog X.w) X.A.in1.in1 (specialOf (Value.ref z) (Str.ofString "__length_hint__") >>= _) _ _ _
  refine wpAny_bind (wpAny_specialOf (ty g s.toks (k1 _ _ hz)) zip_hint_no (wpAny_pure ?_))
  show wpAny (model X.prog X.w) X.A.in1.in1 (rule "list.extend.makes-room" >>= fun _ => Builtin.List.listTouch (.ref s.heap.objs.size) >>= fun _ => again (.builtin "list.extend.loop" ⟨[.ref s.heap.objs.size, .ref z, .none], []⟩)) _ _ _
  refine wpAny_bind (wpAny_rule (wpAny_bind ?_))
  show wpAny (model X.prog X.w) X.A.in1.in1 (updateSeq s.heap.objs.size (·.push .none) >>= fun _ => updateSeq s.heap.objs.size (·.pop)) _ _ _
  refine wpAny_bind (wpAny_updateSeq gS2 rfl ?_)
  have gS3 := Heap.get?_update_self (Obj.mapSeq (·.push Value.none)) gS2 rfl
  refine wpAny_updateSeq (hz := by seq_fits) gS3 rfl ?_
  have gS4 := Heap.get?_update_self (Obj.mapSeq (·.pop)) gS3 rfl
  have k2 : ∀ e o, s.heap.get? e = some o → ((g.update s.heap.objs.size (Obj.mapSeq (·.push Value.none))).update s.heap.objs.size (Obj.mapSeq (·.pop))).get? e = some o := fun e o x => (Heap.get?_update_other _ _ (low x)).trans ((Heap.get?_update_other _ _ (low x)).trans (k1 e o x))
  have I2 : Inv X pins σ H { s with heap := (g.update s.heap.objs.size (Obj.mapSeq (·.push Value.none))).update s.heap.objs.size (Obj.mapSeq (·.pop)) } := I.kept (t' := s.toks) k2
  refine wpAny_pure ⟨plainId_quiet F.plain_extend_loop _, lz_loop (A := X.A.in1) Sp n1 n2 hS hh xs ys 0 _ H xs ys [] _ _ rfl rfl (Nat.zero_le _) (Nat.zero_le _) rfl I2 (fun e m => ?_) ⟨.inl ⟨k2 _ _ hz, x0, y0, k2 _ _ hd⟩, k2 _ _ hc, itK_at h1 fun o x => k2 _ _ x, itK_at h2 fun o x => k2 _ _ x, _, k2 _ _ hd⟩ gS4 gx gy .nil q ?_⟩
  · rcases List.mem_cons.mp m with rfl | m
    · exact fS
    · exact hf e m
  · intro s' H' acc' its' cp' I' f' gl va hl q'
    refine ⟨rfl, .ref s.heap.objs.size, _, I'.take (h' := s'.heap) (t' := s'.toks) (o := .lst acc') (fun _ _ _ x => x) f' ⟨hl, its'.toList, cp', va, ?_⟩, rfl, q' _ f'.1⟩
    exact gl
def tLz (K : PySem.W.Frag) (ta : TA) : TE := fun σ H Q => ta σ H fun vs H1 => ∃ (t u : Bool) (a b : Addr) (xs ys : List V), vs = [.ref a, .ref b] ∧ gK t K H1 a xs ∧ gK u K H1 b ys ∧ zgo (fun acc H' => ∀ l, H' l = none → Q (.ref l) (upd H' l (.lst acc))) xs ys [] H1
theorem pe_lz {e e2 : Expr} {ta : TA} {p0 p pos0 pos : Pos} (calm : X.calm = true) (hgl : Gl X "list") (hml : X.mg "list" = none) (hg : Gl X "zip") (hm : X.mg "zip" = none) (ha : PA X [e, e2] ta)
    (h0 : starEach [Expr.Call (.Name "zip" p) [e, e2] [] pos] X.env = (false, eval (Expr.Call (.Name "zip" p) [e, e2] [] pos) X.env) :: starEach [] X.env := by rfl)
    (hs : starEach [e, e2] X.env = (false, eval e X.env) :: starEach [e2] X.env := by rfl) (hpl : (backTo pos (starEach [e2] X.env)).any (·.1) = false := by rfl) :
    PE X (.Call (.Name "list" p0) [.Call (.Name "zip" p) [e, e2] [] pos] [] pos0) (tLz X.K ta) := by
  refine ⟨fun pins s σ H Q I h => ?_⟩
  refine wpAny_Call_Name_kw (ld_blt I hgl hml (show bootBuiltins "list" = some (.type "list") by decide +kernel) (PyProof.Rows.callWith_type1 ?_ h0 rfl) (by decide) (by decide))
  rw [h0]
  show wpAny (model X.prog X.w) X.A (spliced ((false, eval (Expr.Call (.Name "zip" p) [e, e2] [] pos) X.env) :: backTo pos0 (starEach [] X.env))) _ _ s
  refine Calls.spliced_cons (Call_ (ld_blt I hg hm PyProof.Rows.boot_zip (PyProof.Rows.callWith_type1 (thn (ha.run pos pins s σ H _ I h) fun us s1 ⟨vs, H1, I1, r1, t, u, a, b, xs, ys, ex, gx, gy, q⟩ => ?_) hs hpl)))
  subst ex
  obtain ⟨u1, u2, rfl, q1, q2⟩ := vals2 r1
  cases (show u1 = Value.ref a from q1)
  cases (show u2 = Value.ref b from q2)
  obtain ⟨its1, v1, p1, la⟩ := gK_vals I1 gx
  obtain ⟨its2, v2, p2, lb⟩ := gK_vals I1 gy
  refine zip_begins2 (begins_k t a its1.toArray) (begins_k u b its2.toArray) p1 p2 fun h' hz hT hO g1 g2 hsz kp => PyProof.Rows.args_nil ?_
  have I2 : Inv X pins σ H1 { s1 with heap := h' } := I1.kept (t' := s1.toks) kp
  have ap := PySem.W.ktu_apart s1.heap.objs.size a b la lb
  have sp := sep_of ap (Nat.ne_of_gt (Nat.lt_of_lt_of_le lb (Nat.le_refl _))) (Nat.ne_of_gt (Nat.lt_succ_of_lt la)) (Nat.ne_of_lt (Nat.lt_of_lt_of_le lb (Nat.le_add_right _ _))) (Nat.ne_of_lt (Nat.lt_of_lt_of_le lb (Nat.le_add_right _ _)))
  refine lz_call (s := { s1 with heap := h' }) sp ap.l1i1 (Nat.ne_of_lt (Nat.lt_succ_of_lt lb)) (I1.ok.hd calm) I2 (fun x hx => ?_) hz hT ⟨_, _, hO⟩ (itK_new g1) (itK_new g2) gx gy q
  have hle : s1.heap.objs.size ≤ x := by
    simp only [List.mem_cons, List.not_mem_nil, or_false] at hx
    rcases hx with rfl | rfl | rfl | rfl | rfl <;> omega
  exact I1.fpOk hle (I1.hok.fresh hle)
end
section
variable {X : Cx} {XR : XRel} {E : XK} {a b : Expr} {fa fb : ME} {p0 p pos0 pos : Pos}
theorem items_gk {K : PySem.W.Frag} {Hi : Hp} {x : PyData} {v : V} {ds : List PyData} (d : Dq K Hi x v) (e : itemsOf x = some ds) : ∃ t l xs, v = .ref l ∧ DqA K Hi ds xs ∧ ∀ H', Same Hi H' → gK t K H' l xs := by
  cases x with
  | tuple ys =>
    obtain ⟨l, xs, h1, h2, h3⟩ := sqOf_rel (H' := Hi) (t := true) d e
    exact ⟨true, l, xs, h1, h2, h3⟩
  | list ys =>
    obtain ⟨l, xs, h1, h2, h3⟩ := sqOf_rel (H' := Hi) (t := false) d e
    exact ⟨false, l, xs, h1, h2, h3⟩
  | _ => cases e
theorem zgo_ok {K : PySem.W.Frag} {A : List Addr} {H0 : Hp} {Q : VK} {s : Sto} : ∀ (xs ys : List PyData) (xv yv : List V) (pre : List PyData) (acc : List V) (Hi H : Hp), DqA K Hi xs xv → DqA K Hi ys yv → DqA K Hi pre acc → (∀ l, H l = none → H0 l = none) → RS K A Hi s H →
    PO K A Hi H XR E (RF K A H0) Q (.ok (pre ++ zipD xs ys) s) → zgo (fun acc H' => ∀ l, H' l = none → Q (.ref l) (upd H' l (.lst acc))) xv yv acc H := by
  have fin : ∀ (pre : List PyData) (acc : List V) (Hi H : Hp), DqA K Hi pre acc → (∀ l, H l = none → H0 l = none) → RS K A Hi s H → PO K A Hi H XR E (RF K A H0) Q (.ok pre s) → ∀ l, H l = none → Q (.ref l) (upd H l (.lst acc)) :=
    fun pre acc Hi H da th r h l hl => PO.out (R := RF K A H0) (x := pre) h (Ext.fresh1 hl) (r.new1 hl) ⟨l, acc, rfl, upd_same, r.fresh hl, th l hl, r.notin hl, da⟩
  intro xs
  induction xs with
  | nil =>
    intro ys xv yv pre acc Hi H dx dy da th r h
    cases (show xv = [] from dx)
    have h' : PO K A Hi H XR E (RF K A H0) Q (.ok (pre ++ []) s) := h
    rw [List.append_nil] at h'
    exact fin pre acc Hi H da th r h'
  | cons x xs ih =>
    intro ys xv yv pre acc Hi H dx dy da th r h
    obtain ⟨v, vr, rfl, dv, dr⟩ := dx
    cases ys with
    | nil =>
      cases (show yv = [] from dy)
      have h' : PO K A Hi H XR E (RF K A H0) Q (.ok (pre ++ []) s) := h
      rw [List.append_nil] at h'
      exact fin pre acc Hi H da th r h'
    | cons y ys =>
      obtain ⟨w, wr, rfl, dw, dz⟩ := dy
      intro p hp
      have hpi := r.fresh hp
      have sm : Same Hi (upd Hi p (.tup [v, w])) := same_upd hpi
      refine ih ys vr wr (pre ++ [.tuple [x, y]]) (acc ++ [.ref p]) (upd Hi p (.tup [v, w])) (upd H p (.tup [v, w])) (DqA.mono sm _ _ dr) (DqA.mono sm _ _ dz) (DqA.append (DqA.mono sm _ _ da) ⟨.ref p, [], rfl, ?_, rfl⟩) (fun l hl => th l ?_) (r.new hp) ?_
      · exact ⟨p, _, rfl, SqT.of upd_same, v, _, rfl, Dq.mono sm _ _ dv, w, [], rfl, Dq.mono sm _ _ dw, rfl⟩
      · by_cases e : l = p
        · rw [e]
          exact hp
        · rw [upd_ne e] at hl
          exact hl
      · have h2 := PO.back (Ext.fresh (o := .tup [v, w]) hp hpi) h
        rw [List.append_assoc]
        exact h2
theorem sc_lz (calm : X.calm = true) (hgl : Gl X "list") (hml : X.mg "list" = none) (hg : Gl X "zip") (hm : X.mg "zip" = none) (ha : SE X XR E a fa) (hb : SE X XR E b fb)
    (h0 : starEach [Expr.Call (.Name "zip" p) [a, b] [] pos] X.env = (false, eval (Expr.Call (.Name "zip" p) [a, b] [] pos) X.env) :: starEach [] X.env := by rfl)
    (h1 : starEach [a, b] X.env = (false, eval a X.env) :: starEach [b] X.env := by rfl) (h2 : starEach [b] X.env = (false, eval b X.env) :: starEach [] X.env := by rfl)
    (h3 : (backTo pos (starEach [b] X.env)).any (·.1) = false := by rfl) : SC X XR E (.Call (.Name "list" p0) [.Call (.Name "zip" p) [a, b] [] pos] [] pos0) (iZp fa fb) := by
  obtain ⟨ta, pa, qa⟩ := ha
  obtain ⟨tb, pb, qb⟩ := hb
  refine ⟨_, pe_lz calm hgl hml hg hm (pa_cons pa (pa_cons pb pa_nil h2) h1) h0 h1 h3, fun A Hi ρ s σ H r re Q h => ?_⟩
  refine qa A Hi ρ s σ H r re _ (PO.bind h fun x s1 v Hi1 H1 _ e1 r1 d h1 => ?_)
  refine qb A Hi1 ρ s1 σ H1 r1 (re.mono e1.same pfx) _ (PO.bind h1 fun y s2 w Hi2 H2 _ e2 r2 d2 h2 => ?_)
  cases hx : itemsOf x with
  | none =>
    rw [hx] at h2
    exact h2.elim
  | some xs =>
    cases hy : itemsOf y with
    | none =>
      rw [hx, hy] at h2
      exact h2.elim
    | some ys =>
      rw [hx, hy] at h2
      obtain ⟨t, l, xv, rfl, dx, gx⟩ := items_gk (Dq.mono e2.same _ _ d) hx
      obtain ⟨u, l2, yv, rfl, dy, gy⟩ := items_gk d2 hy
      exact ⟨t, u, l, l2, xv, yv, rfl, gx H2 r2.sub, gy H2 r2.sub, zgo_ok xs ys xv yv [] [] Hi2 H2 dx dy rfl (fun q hq => (e1.trans e2).there q hq) r2 h2⟩
end
/-! ### a, b, .. = a list -/
def gTpL (is : List Nat) : MG := fun d ρ => match d with
  | .list ds => gNms is ds ρ
  | _ => none
section
variable {X : Cx} {pos : Pos}
theorem sg_lst {es : List Expr} {is : List Nat} {k : Nat} (hc : X.calm = true) (h : SGs X es is) (hn : (assignEach es X.env).length = is.length := by rfl) (hst : (assignEach es X.env).findIdx? (·.1) = none := by rfl) : SG X (.Tuple es k pos) (gTpL is) is := by
  obtain ⟨t, p, q⟩ := h
  refine ⟨_, pg_unl hc p hn hst, ⟨fun A Hi ρ s σ H d v r re dq ρ' e Q k => ?_⟩⟩
  cases d with
  | list ds =>
    obtain ⟨a, xs, rfl, h1, h2⟩ := dq
    exact ⟨a, xs, rfl, SqL.of (r.sub _ _ h1), by rw [h2.length]; exact gNms_len e, q A Hi ρ s σ H ds xs r re h2 ρ' e Q k⟩
  | _ => cases e
end
end Mir
namespace Mir
open PySem PySem.Spec PyProof.Rows L2
/-- what is held for ever at the start: the script alone -/
theorem start_hi {K : PySem.W.Frag} {H : Hp} {a : Addr} {xs : List V} (h : SqL K H a xs) : ∃ Hi : Hp, Same Hi H ∧ (∀ (b : Addr) (ps : Array Value), Hi b ≠ some (.tbl ps)) ∧ SqL K Hi a xs := by
  rcases h with h | h
  · refine ⟨fun b => if b = a then H a else none, fun b u e => ?_, fun b ps e => ?_, .inl ?_⟩
    · replace e : (if b = a then H a else none) = some u := e
      by_cases q : b = a
      · rw [if_pos q] at e
        rw [q]
        exact e
      · rw [if_neg q] at e
        cases e
    · replace e : (if b = a then H a else none) = some (.tbl ps) := e
      by_cases q : b = a
      · rw [if_pos q] at e
        rcases h with h | ⟨o, h⟩
        · rw [h] at e
          cases e
        · rw [h] at e
          cases e
      · rw [if_neg q] at e
        cases e
    · rcases h with h | ⟨o, h⟩
      · exact .inl (by show (if a = a then H a else none) = _; rw [if_pos rfl]; exact h)
      · exact .inr ⟨o, by show (if a = a then H a else none) = _; rw [if_pos rfl]; exact h⟩
  · exact ⟨fun _ => none, (fun _ _ e => nomatch e), (fun _ _ e => nomatch e), .inr h⟩
end Mir

namespace Mir
open PySem PySem.Spec PyProof.Rows L2
variable [Tb]
/-! ### list(zip(*rows)), rows of one length: the zip's own turns -/
theorem sqK_at {t : Bool} {h h' : Heap} {l : Addr} {vs : Array Value} (x : sqK t h l vs) (e : ∀ o, h.get? l = some o → h'.get? l = some o) : sqK t h' l vs := by
  cases t with
  | true => exact Heap.IsTuple.at x e
  | false => exact Heap.IsList.at x e
abbrev TupN (h : Heap) (T : Addr) (us : List Value) : Prop := h.get? T = some { cls := .type "tuple", data := .seq us.toArray }
/-- the iterators; those before j are one turn ahead -/
def Its (gs : List (Bool × Addr)) (b i j : Nat) (h : Heap) : Prop := ∀ (k : Nat) (t : Bool) (l : Addr), gs[k]? = some (t, l) → itK t h (b + k) l (if k < j then i + 1 else i)
def Sqs (gs : List (Bool × Addr)) (uss : List (List Value)) (h : Heap) : Prop := ∀ (k : Nat) (t : Bool) (l : Addr), gs[k]? = some (t, l) → ∃ us, uss[k]? = some us ∧ sqK t h l us.toArray
def Low (gs : List (Bool × Addr)) (b : Nat) : Prop := ∀ (k : Nat) (t : Bool) (l : Addr), gs[k]? = some (t, l) → l < b
def itsOf (b n : Nat) : List Value := (List.range n).map fun k => .ref (b + k)
def Col (uss : List (List Value)) (i : Nat) (col : List Value) : Prop := col.length = uss.length ∧ ∀ (k : Nat) (us : List Value), uss[k]? = some us → ∃ x, us[i]? = some x ∧ col[k]? = some x
/-- what stands outside the zip's own cells -/
def Kp (b n : Nat) (h h' : Heap) : Prop := ∀ (e : Addr) (o : Obj), (e < b + n → e < b) → e ≠ b + n + 1 → e ≠ b + n + 2 → h.get? e = some o → h'.get? e = some o
section
variable {prog : Program} {w : World} {A : Around} {E : Value → Shared → Prop} {s : Shared} {gs : List (Bool × Addr)} {uss : List (List Value)} {b i j n : Nat} {col olds : List Value}
theorem forIn_walk {M : Model} {α β : Type} {f : α → β → Sem (ForInStep β)} {P : Nat → β → Shared → Prop} {Q : β → Shared → Prop} :
    ∀ (l : List α) (j : Nat) (b : β) (s : Shared), P j b s →
      (∀ k a b s, l[k]? = some a → P (j + k) b s → wpAny M A (f a b) (fun r s' => ∃ b', r = .yield b' ∧ P (j + k + 1) b' s') E s) →
      (∀ b s, P (j + l.length) b s → Q b s) → wpAny M A (forIn l b f) Q E s
  | [], j, b, s, hP, _, hQ => by
    rw [List.forIn_nil]
    exact wpAny_pure (hQ b s hP)
  | a :: l, j, b, s, hP, hf, hQ => by
    rw [List.forIn_cons]
    refine wpAny_bind (wpAny_mono (hf 0 a b s rfl hP) (fun r s' h => ?_) fun _ _ x => x)
    obtain ⟨b', rfl, hP'⟩ := h
    refine forIn_walk l (j + 1) b' s' hP' (fun k a b s e hp => ?_) fun b s hp => hQ b s (by rw [List.length_cons, Nat.add_comm l.length 1, ← Nat.add_assoc]; exact hp)
    have e1 : j + (k + 1) = j + 1 + k := by omega
    have := hf (k + 1) a b s e (by rw [e1]; exact hp)
    rw [e1] at this
    exact this
theorem draw_j {t : Bool} {l : Addr} {us : List Value} {x : Value} {Q : Value → Shared → Prop} (hh : A.handled = none) (low : Low gs b) (hg : gs[j]? = some (t, l)) (hu : uss[j]? = some us) (hx : us[i]? = some x) (I : Its gs b i j s.heap) (S : Sqs gs uss s.heap)
    (hQ : ∀ h' tk, Its gs b i (j + 1) h' → Sqs gs uss h' → Heap.SameBut (b + j) s.heap h' → Q x { s with heap := h', toks := tk }) :
    wpAny (model prog w) A (Builtin.SmallTypes.nextOf (.ref (b + j))) Q E s := by
  have hl : l < b := low j t l hg
  have ne0 : l ≠ b + j := Nat.ne_of_lt (Nat.lt_of_lt_of_le hl (Nat.le_add_right b j))
  have D := draws_k (prog := prog) (w := w) t hh (b + j) l ne0 us.toArray
  have st : itK t s.heap (b + j) l i := by
    have := I j t l hg
    rwa [if_neg (Nat.lt_irrefl j)] at this
  have sq : sqK t s.heap l us.toArray := by
    obtain ⟨us', e, q⟩ := S j t l hg
    rw [hu] at e
    cases e
    exact q
  have lt : i < us.toArray.size := by simpa using (List.getElem?_eq_some_iff.mp hx).1
  refine D.item i s Q E lt ⟨st, sq⟩ fun y h' tk p st' sm => ?_
  have ey : y = x := by
    have p' : us.toArray[i]? = some y := p
    rw [List.getElem?_toArray, hx] at p'
    exact (Option.some.inj p').symm
  subst ey
  refine hQ h' tk (fun k t' l' e => ?_) (fun k t' l' e => ?_) sm
  · by_cases q : k = j
    · subst q
      rw [hg] at e
      cases e
      rw [if_pos (Nat.lt_succ_self k)]
      exact st'.1
    · have ne : b + k ≠ b + j := fun z => q (Nat.add_left_cancel z)
      have h1 := itK_at (I k t' l' e) (h' := h') fun o z => (sm.2 _ ne).trans z
      have e2 : (if k < j + 1 then i + 1 else i) = if k < j then i + 1 else i := by
        by_cases z : k < j
        · rw [if_pos z, if_pos (by omega)]
        · rw [if_neg z, if_neg (by omega)]
      rw [e2]
      exact h1
  · obtain ⟨us', e1, q⟩ := S k t' l' e
    have hl' := low k t' l' e
    have ne : l' ≠ b + j := Nat.ne_of_lt (Nat.lt_of_lt_of_le hl' (Nat.le_add_right b j))
    exact ⟨us', e1, sqK_at q fun o z => (sm.2 _ ne).trans z⟩
theorem its_keep {h h' : Heap} (I : Its gs b i j h) (k : ∀ c o, c < b + gs.length → h.get? c = some o → h'.get? c = some o) : Its gs b i j h' := fun q t l e =>
  itK_at (I q t l e) fun o z => k _ o (Nat.add_lt_add_left (List.getElem?_eq_some_iff.mp e).1 b) z
theorem sqs_keep {h h' : Heap} (low : Low gs b) (S : Sqs gs uss h) (k : ∀ c o, c < b → h.get? c = some o → h'.get? c = some o) : Sqs gs uss h' := fun q t l e => by
  obtain ⟨us, e1, z⟩ := S q t l e
  exact ⟨us, e1, sqK_at z fun o x => k _ o (low q t l e) x⟩
theorem take_drop_set {α : Type} {col olds : List α} {k : Nat} {x : α} (hl : col.length = olds.length) (hx : col[k]? = some x) : (col.take k ++ olds.drop k).set k x = col.take (k + 1) ++ olds.drop (k + 1) := by
  have lt := (List.getElem?_eq_some_iff.mp hx).1
  have e1 : (col.take k).length = k := by rw [List.length_take]; omega
  have e2 : olds.drop k = olds[k]'(by omega) :: olds.drop (k + 1) := List.drop_eq_getElem_cons (by omega)
  have e3 : col.take (k + 1) = col.take k ++ [x] := by rw [List.take_add_one, hx]; rfl
  rw [e3, e2, List.set_append, if_neg (by omega), e1, Nat.sub_self, List.set_cons_zero, List.append_assoc]
  rfl
end
end Mir
namespace Mir
open PySem PySem.Spec PyProof.Rows L2
variable [Tb]
section
variable {prog : Program} {w : World} {A : Around} {E : Value → Shared → Prop} {s : Shared} {gs : List (Bool × Addr)} {uss : List (List Value)} {b i j n : Nat} {col olds : List Value}
theorem its_get {k : Nat} {v : Value} (e : (itsOf b n)[k]? = some v) : k < n ∧ v = .ref (b + k) := by
  unfold itsOf at e
  rw [List.getElem?_map] at e
  cases q : (List.range n)[k]? with
  | none => rw [q] at e; cases e
  | some m =>
    rw [q] at e
    have hk := (List.getElem?_eq_some_iff.mp q).1
    rw [List.length_range] at hk
    rw [List.getElem?_range hk] at q
    cases q
    exact ⟨hk, (Option.some.inj e).symm⟩
theorem updateSeq_TupN {T : Addr} {us : List Value} {x : Value} {k : Nat} {Q : Unit → Shared → Prop} (hT : TupN s.heap T us) (hz : us.length ≤ sizeLine)
    (h : ∀ h', TupN h' T (us.set k x) → Heap.SameBut T s.heap h' → Q () { s with heap := h' }) :
    wpAny (model prog w) A (updateSeq T (·.setIfInBounds k x)) Q E s := by
  refine wpAny_updateSeq hT rfl (h _ ?_ (Heap.SameBut.update ..)) (by rw [List.size_toArray]; exact hz) (by rw [Array.size_setIfInBounds, List.size_toArray]; omega)
  show _ = _
  rw [Heap.get?_update_self _ hT rfl]
  simp [Obj.mapSeq]
theorem its_turn {h : Heap} (hn : gs.length = n) (I : Its gs b i n h) : Its gs b (i + 1) 0 h := fun k t l e => by
  have lt := (List.getElem?_eq_some_iff.mp e).1
  have := I k t l e
  rw [if_pos (by omega)] at this
  rw [if_neg (Nat.not_lt_zero k)]
  exact this
theorem zn_first {Q : Value → Shared → Prop} (hh : A.handled = none) (low : Low gs b) (hn : gs.length = n) (hu : uss.length = n) (h0 : 0 < n) (hs : n ≤ sizeLine) (hz : IsZip s.heap (b + n + 2) (b + n) (b + n + 1) .none) (hc : TupN s.heap (b + n) (itsOf b n))
    (hd : TupN s.heap (b + n + 1) olds) (ho : olds.length = n) (I : Its gs b i 0 s.heap) (S : Sqs gs uss s.heap) (C : Col uss i col)
    (hQ : ∀ h' tk, IsZip h' (b + n + 2) (b + n) (b + n + 1) (rawInt s.heap.objs.size) → TupN h' (b + n + 1) col → Its gs b (i + 1) 0 h' → Sqs gs uss h' → TupN h' s.heap.objs.size col → Kp b n s.heap h' → Q (.ref s.heap.objs.size) { s with heap := h', toks := tk }) :
    wpAny (model prog w) A (Builtin.«zip.__next__» ⟨[.ref (b + n + 2)], []⟩) (fun fin s' => ∃ v, fin = .done (.ret v) ∧ Q v s') E s := by
  obtain ⟨hp, g, d, tk0, os⟩ := s
  show wpAny _ _ (field (.ref (b + n + 2)) 2 >>= _) _ _ _
  refine wpAny_bind (wpAny_field hz rfl (x := .bool false) rfl ?_)
  show wpAny _ _ (field (.ref (b + n + 2)) 3 >>= _) _ _ _
  refine wpAny_bind (wpAny_field hz rfl (x := .ref (b + n)) rfl ?_)
  refine wpAny_bind (wpAny_seqItems hc rfl ?_)
  have hne : (itsOf b n).toArray.isEmpty = false := by
    have : (itsOf b n).length = n := by simp [itsOf]
    simp only [List.isEmpty_toArray, List.isEmpty_eq_false_iff, ne_eq]
    intro z
    rw [z] at this
    simp at this
    omega
  simp only [hne, Bool.false_eq_true, if_false]
  show wpAny _ _ (Builtin.SmallTypes.ownedTupleIsFree (.ref (b + n + 2)) >>= _) _ _ _
  refine wpAny_bind ?_
  unfold Builtin.SmallTypes.ownedTupleIsFree
  refine wpAny_bind (wpAny_field hz rfl (x := .none) rfl (wpAny_pure ?_))
  simp only [if_true]
  refine wpAny_bind (wpAny_rule ?_)
  refine wpAny_bind (wpAny_field hz rfl (x := .ref (b + n + 1)) rfl ?_)
  refine wpAny_bind (wpAny_setField_rec hz (by simp) fun g0 hz0 hs0 => ?_)
  replace hz0 : IsZip g0 (b + n + 2) (b + n) (b + n + 1) .ellipsis := hz0
  replace hs0 : Heap.SameBut (b + n + 2) hp g0 := hs0
  refine wpAny_bind ?_
  have kp0 : Kp b n hp g0 := fun e o _ _ e2 z => hs0.extBut e o e2 z
  have I0 : Its gs b i 0 g0 := its_keep I fun c o lt z => hs0.extBut c o (by rw [hn] at lt; exact Nat.ne_of_lt (Nat.lt_of_lt_of_le lt (Nat.le_add_right _ _))) z
  have S0 : Sqs gs uss g0 := sqs_keep low S fun c o lt z => hs0.extBut c o (Nat.ne_of_lt (Nat.lt_of_lt_of_le lt (by rw [Nat.add_assoc]; exact Nat.le_add_right _ _))) z
  have hd0 : TupN g0 (b + n + 1) olds := hs0.extBut _ _ (Nat.ne_of_lt (Nat.lt_succ_self _)) hd
  have cl : col.length = olds.length := by rw [C.1, hu, ho]
  refine forIn_walk (P := fun j bst s' => bst = (none, ()) ∧ ∃ h tk, s' = ⟨h, g, d, tk, os⟩ ∧ h.objs.size = hp.objs.size ∧ IsZip h (b + n + 2) (b + n) (b + n + 1) .ellipsis ∧ TupN h (b + n + 1) (col.take j ++ olds.drop j) ∧ Its gs b i j h ∧ Sqs gs uss h ∧ Kp b n hp h) _ 0 _ _ ⟨rfl, g0, tk0, rfl, hs0.1, hz0, hd0, I0, S0, kp0⟩ (fun k a bst s1 ea hP => ?_) fun bst s1 hP => ?_
  · obtain ⟨rfl, h1, tk1, rfl, hsz, hz1, hd1, I1, S1, kp1⟩ := hP
    rw [Nat.zero_add] at hd1 I1 ⊢
    rw [List.getElem?_zipIdx] at ea
    cases ev : (itsOf b n)[k]? with
    | none => rw [ev] at ea; cases ea
    | some v =>
      rw [ev] at ea
      obtain ⟨hk, rfl⟩ := its_get ev
      cases ea
      rw [Nat.zero_add]
      obtain ⟨⟨t, l⟩, hg⟩ : ∃ p, gs[k]? = some p := ⟨_, List.getElem?_eq_getElem (by omega)⟩
      obtain ⟨us, hus, _⟩ := S1 k t l hg
      obtain ⟨x, hx, hcx⟩ := C.2 k us hus
      refine wpAny_bind (wpAny_onRaise ?_)
      show wpAny _ _ (Builtin.SmallTypes.nextOf (.ref (b + k)) >>= _) _ _ _
      refine wpAny_bind (draw_j (s := ⟨h1, g, d, tk1, os⟩) hh low hg hus hx I1 S1 fun h2 tk2 I2 S2 sm => wpAny_pure ?_)
      replace sm : Heap.SameBut (b + k) h1 h2 := sm
      have n1 : b + n + 1 ≠ b + k := Nat.ne_of_gt (Nat.lt_of_lt_of_le (Nat.add_lt_add_left hk b) (Nat.le_add_right _ _))
      have n2 : b + n + 2 ≠ b + k := Nat.ne_of_gt (Nat.lt_of_lt_of_le (Nat.add_lt_add_left hk b) (Nat.le_add_right _ _))
      have hd2 : TupN h2 (b + n + 1) (col.take k ++ olds.drop k) := sm.extBut _ _ n1 hd1
      have hz2 : IsZip h2 (b + n + 2) (b + n) (b + n + 1) .ellipsis := sm.extBut _ _ n2 hz1
      refine wpAny_bind (wpAny_seqItems (s := ⟨h2, g, d, tk2, os⟩) hd2 rfl ?_)
      have hlen : (col.take k ++ olds.drop k).length ≤ sizeLine := by
        rw [List.length_append, List.length_take, List.length_drop]
        omega
      refine wpAny_bind (updateSeq_TupN (s := ⟨h2, g, d, tk2, os⟩) hd2 hlen fun h3 hd3 sm3 => wpAny_bind (wpAny_letGo (wpAny_pure ⟨(none, ()), rfl, rfl, h3, tk2, rfl, ?_, ?_, ?_, ?_, ?_, ?_⟩)))
      · exact (sm3.1.trans sm.1).trans hsz
      · exact sm3.extBut _ _ (Nat.ne_of_gt (Nat.lt_succ_self _)) hz2
      · rw [← take_drop_set cl hcx]
        exact hd3
      · exact its_keep I2 fun c o lt z => sm3.extBut c o (by rw [hn] at lt; exact Nat.ne_of_lt (Nat.lt_of_lt_of_le lt (Nat.le_add_right _ _))) z
      · exact sqs_keep low S2 fun c o lt z => sm3.extBut c o (Nat.ne_of_lt (Nat.lt_of_lt_of_le lt (by rw [Nat.add_assoc]; exact Nat.le_add_right _ _))) z
      · exact fun e o e1 e2 e3 z => sm3.extBut e o e2 (sm.extBut e o (fun q => by
          have a1 : e < b + n := by rw [q]; exact Nat.add_lt_add_left hk b
          have a2 := e1 a1
          rw [q] at a2
          exact absurd a2 (Nat.not_lt.mpr (Nat.le_add_right b k))) (kp1 e o e1 e2 e3 z))
  · obtain ⟨rfl, h1, tk1, rfl, hsz, hz1, hd1, I1, S1, kp1⟩ := hP
    have el : 0 + (itsOf b n).zipIdx.length = n := by simp [itsOf]
    rw [el] at hd1 I1
    rw [List.take_of_length_le (by rw [C.1, hu]; exact Nat.le_refl _), List.drop_of_length_le (by rw [ho]; exact Nat.le_refl _), List.append_nil] at hd1
    have I1' := its_turn hn I1
    refine wpAny_bind (wpAny_seqItems (s := ⟨h1, g, d, tk1, os⟩) hd1 rfl ?_)
    refine wpAny_bind (wpAny_newTuple ?_ (by show col.length ≤ sizeLine; rw [C.1, hu]; exact hs))
    have hzlt : b + n + 2 < h1.objs.size := Heap.lt_size hz1
    refine wpAny_bind ?_
    unfold Builtin.SmallTypes.ownedTupleHandOut
    have hz6 : IsZip (h1.push { cls := .type "tuple", data := .seq col.toArray }) (b + n + 2) (b + n) (b + n + 1) .ellipsis := Heap.get?_push_of_some _ hz1
    refine wpAny_bind (wpAny_setField_rec hz6 (by simp) fun h7 hz7 hs7 => ?_)
    replace hz7 : IsZip h7 (b + n + 2) (b + n) (b + n + 1) (rawInt h1.objs.size) := hz7
    refine wpAny_setField_rec hz7 (by simp) fun h8 hz8 hs8 => ?_
    replace hz8 : IsZip h8 (b + n + 2) (b + n) (b + n + 1) (rawInt h1.objs.size) := hz8
    replace hs7 : Heap.SameBut (b + n + 2) (h1.push { cls := .type "tuple", data := .seq col.toArray }) h7 := hs7
    replace hs8 : Heap.SameBut (b + n + 2) h7 h8 := hs8
    have up : ∀ c o, c ≠ b + n + 2 → h1.get? c = some o → h8.get? c = some o := fun c o c1 e => hs8.extBut _ _ c1 (hs7.extBut _ _ c1 (Heap.get?_push_of_some _ e))
    have hT8 : TupN h8 h1.objs.size col := hs8.extBut _ _ (Nat.ne_of_gt hzlt) (hs7.extBut _ _ (Nat.ne_of_gt hzlt) (Heap.get?_push_size _ rfl))
    rw [hsz] at hz8 hT8
    refine wpAny_pure ⟨_, rfl, ?_⟩
    show Q (.ref h1.objs.size) ⟨h8, g, d, tk1, os⟩
    rw [hsz]
    exact hQ h8 tk1 hz8 (up _ _ (Nat.ne_of_lt (Nat.lt_succ_self _)) hd1) (its_keep I1' fun c o lt z => up c o (by rw [hn] at lt; exact Nat.ne_of_lt (Nat.lt_of_lt_of_le lt (Nat.le_add_right _ _))) z)
      (sqs_keep low S1 fun c o lt z => up c o (Nat.ne_of_lt (Nat.lt_of_lt_of_le lt (by rw [Nat.add_assoc]; exact Nat.le_add_right _ _))) z) hT8 fun e o e1 e2 e3 z => up e o e3 (kp1 e o e1 e2 e3 z)
end
end Mir
namespace Mir
open PySem PySem.Spec PyProof.Rows L2
variable [Tb]
section
variable {prog : Program} {w : World} {A : Around} {E : Value → Shared → Prop} {s : Shared} {gs : List (Bool × Addr)} {uss : List (List Value)} {b i j n : Nat} {col olds : List Value} {T : Addr} {f : Bool} {oT : Obj}
theorem its_len : (itsOf b n).length = n := by simp [itsOf]
theorem its_ne (h0 : 0 < n) : (itsOf b n).toArray.isEmpty = false := by
  have := its_len (b := b) (n := n)
  simp only [List.isEmpty_toArray, List.isEmpty_eq_false_iff, ne_eq]
  intro z
  rw [z] at this
  simp at this
  omega
theorem its_cons (h0 : 0 < n) : ∃ r, itsOf b n = .ref b :: r := by
  cases n with
  | zero => omega
  | succ m =>
    unfold itsOf
    rw [List.range_succ_eq_map, List.map_cons]
    exact ⟨_, rfl⟩
theorem ne_it {e k : Nat} (hk : k < n) (e1 : e < b + n → e < b) : e ≠ b + k := fun q => by
  have a1 : e < b + n := by rw [q]; exact Nat.add_lt_add_left hk b
  have a2 := e1 a1
  rw [q] at a2
  exact absurd a2 (Nat.not_lt.mpr (Nat.le_add_right b k))
/-- the first iterator is at its end -/
theorem draw_end {Q : Value → Shared → Prop} (hh : A.handled = none) (low : Low gs b) (h0 : 0 < gs.length) (hi : ∀ us ∈ uss, us.length = i) (I : Its gs b i 0 s.heap) (S : Sqs gs uss s.heap)
    (hE : ∀ h' e, Heap.ExtBut b s.heap h' → (∃ o, h'.get? e = some o ∧ o.cls = .type "StopIteration") → E (.ref e) { s with heap := h' }) :
    wpAny (model prog w) A (Builtin.SmallTypes.nextOf (.ref b)) Q E s := by
  obtain ⟨⟨t, l⟩, hg⟩ : ∃ p, gs[0]? = some p := ⟨_, List.getElem?_eq_getElem h0⟩
  have hl : l < b := low 0 t l hg
  have D := draws_k (prog := prog) (w := w) t hh b l (Nat.ne_of_lt hl)
  have st : itK t s.heap b l i := by
    have := I 0 t l hg
    rwa [if_neg (Nat.lt_irrefl 0)] at this
  obtain ⟨us, e, q⟩ := S 0 t l hg
  have el : us.toArray.size = i := by rw [List.size_toArray]; exact hi us (List.mem_of_getElem? e)
  exact (D us.toArray).done s Q E ⟨by rw [el]; exact st, q⟩ hE
theorem zn_held {Q : Value → Shared → Prop} (hh : A.handled = none) (low : Low gs b) (hn : gs.length = n) (hu : uss.length = n) (h0 : 0 < n) (hs : n ≤ sizeLine) (hz : IsZipHeld s.heap (b + n + 2) (b + n) (b + n + 1) T f) (hT : s.heap.get? T = some oT) (hc : TupN s.heap (b + n) (itsOf b n))
    (I : Its gs b i 0 s.heap) (S : Sqs gs uss s.heap) (C : Col uss i col)
    (hQ : ∀ h' tk, IsZipHeld h' (b + n + 2) (b + n) (b + n + 1) T true → Its gs b (i + 1) 0 h' → Sqs gs uss h' → TupN h' s.heap.objs.size col → (∀ e o, (e < b + n → e < b) → e ≠ b + n + 2 → s.heap.get? e = some o → h'.get? e = some o) → Q (.ref s.heap.objs.size) { s with heap := h', toks := tk }) :
    wpAny (model prog w) A (Builtin.«zip.__next__» ⟨[.ref (b + n + 2)], []⟩) (fun fin s' => ∃ v, fin = .done (.ret v) ∧ Q v s') E s := by
  obtain ⟨hp, g, d, tk0, os⟩ := s
  show wpAny _ _ (field (.ref (b + n + 2)) 2 >>= _) _ _ _
  refine wpAny_bind (wpAny_field hz rfl (x := .bool false) rfl ?_)
  show wpAny _ _ (field (.ref (b + n + 2)) 3 >>= _) _ _ _
  refine wpAny_bind (wpAny_field hz rfl (x := .ref (b + n)) rfl ?_)
  refine wpAny_bind (wpAny_seqItems hc rfl ?_)
  simp only [its_ne h0, Bool.false_eq_true, if_false]
  show wpAny _ _ (Builtin.SmallTypes.ownedTupleIsFree (.ref (b + n + 2)) >>= _) _ _ _
  refine wpAny_bind (wpAny_tupleHeld_zip hz hT fun g0 hz0 hs0 => ?_)
  replace hz0 : IsZipHeld g0 (b + n + 2) (b + n) (b + n + 1) T true := hz0
  replace hs0 : Heap.SameBut (b + n + 2) hp g0 := hs0
  simp only [Bool.false_eq_true, if_false]
  refine wpAny_bind ?_
  rw [← Array.forIn_toList]
  have I0 : Its gs b i 0 g0 := its_keep I fun c o lt z => hs0.extBut c o (by rw [hn] at lt; exact Nat.ne_of_lt (Nat.lt_of_lt_of_le lt (Nat.le_add_right _ _))) z
  have S0 : Sqs gs uss g0 := sqs_keep low S fun c o lt z => hs0.extBut c o (Nat.ne_of_lt (Nat.lt_of_lt_of_le lt (by rw [Nat.add_assoc]; exact Nat.le_add_right _ _))) z
  refine forIn_walk (P := fun j bst s' => bst = (none, (col.take j).toArray) ∧ ∃ h tk, s' = ⟨h, g, d, tk, os⟩ ∧ h.objs.size = hp.objs.size ∧ IsZipHeld h (b + n + 2) (b + n) (b + n + 1) T true ∧ Its gs b i j h ∧ Sqs gs uss h ∧ ∀ e o, (e < b + n → e < b) → e ≠ b + n + 2 → hp.get? e = some o → h.get? e = some o) _ 0 _ _ ⟨rfl, g0, tk0, rfl, hs0.1, hz0, I0, S0, fun e o _ e2 z => hs0.extBut e o e2 z⟩ (fun k a bst s1 ea hP => ?_) fun bst s1 hP => ?_
  · obtain ⟨rfl, h1, tk1, rfl, hsz, hz1, I1, S1, kp1⟩ := hP
    rw [Nat.zero_add] at I1 ⊢
    obtain ⟨hk, rfl⟩ := its_get ea
    obtain ⟨⟨t, l⟩, hg⟩ : ∃ p, gs[k]? = some p := ⟨_, List.getElem?_eq_getElem (by omega)⟩
    obtain ⟨us, hus, _⟩ := S1 k t l hg
    obtain ⟨x, hx, hcx⟩ := C.2 k us hus
    refine wpAny_bind (wpAny_holding ?_)
    show wpAny _ _ (Builtin.SmallTypes.nextOf (.ref (b + k)) >>= _) _ _ _
    refine wpAny_bind (draw_j (s := ⟨h1, g, d, tk1, os⟩) hh low hg hus hx I1 S1 fun h2 tk2 I2 S2 sm => wpAny_pure (wpAny_pure ⟨_, rfl, ?_, h2, tk2, rfl, sm.1.trans hsz, ?_, I2, S2, fun e o e1 e2 z => sm.extBut e o (ne_it hk e1) (kp1 e o e1 e2 z)⟩))
    · rw [List.take_add_one, hcx]
      show (none, (col.take k).toArray.push x) = _
      rw [List.push_toArray]
      rfl
    · exact sm.extBut _ _ (Nat.ne_of_gt (Nat.lt_of_lt_of_le (Nat.add_lt_add_left hk b) (Nat.le_add_right _ _))) hz1
  · obtain ⟨rfl, h1, tk1, rfl, hsz, hz1, I1, S1, kp1⟩ := hP
    have el : 0 + (itsOf b n).length = n := by rw [its_len, Nat.zero_add]
    rw [el] at I1 ⊢
    have et : col.take n = col := List.take_of_length_le (by rw [C.1, hu]; exact Nat.le_refl _)
    have I1' := its_turn hn I1
    rw [et]
    refine wpAny_bind (wpAny_newTuple (wpAny_pure ⟨_, rfl, ?_⟩) (by show col.length ≤ sizeLine; rw [C.1, hu]; exact hs))
    have push : ∀ (e : Addr) (u : Obj), h1.get? e = some u → (h1.push { cls := .type "tuple", data := .seq col.toArray }).get? e = some u := fun e u q => Heap.get?_push_of_some _ q
    have hT8 : TupN (h1.push { cls := .type "tuple", data := .seq col.toArray }) h1.objs.size col := Heap.get?_push_size _ rfl
    show Q (.ref h1.objs.size) ⟨h1.push { cls := .type "tuple", data := .seq col.toArray }, g, d, tk1, os⟩
    rw [hsz] at hT8 ⊢
    exact hQ _ tk1 (push _ _ hz1) (its_keep I1' fun c o _ z => push c o z) (sqs_keep low S1 fun c o _ z => push c o z) hT8 fun e o e1 e2 z => push e o (kp1 e o e1 e2 z)
theorem zn_heldEnd {Q : Fin → Shared → Prop} (hh : A.handled = none) (low : Low gs b) (hn : gs.length = n) (h0 : 0 < n) (hz : IsZipHeld s.heap (b + n + 2) (b + n) (b + n + 1) T f) (hT : s.heap.get? T = some oT) (hc : TupN s.heap (b + n) (itsOf b n))
    (hi : ∀ us ∈ uss, us.length = i) (I : Its gs b i 0 s.heap) (S : Sqs gs uss s.heap)
    (hE : ∀ h' tk e, Kp b n s.heap h' → (∃ o, h'.get? e = some o ∧ o.cls = .type "StopIteration") → E (.ref e) { s with heap := h', toks := tk }) :
    wpAny (model prog w) A (Builtin.«zip.__next__» ⟨[.ref (b + n + 2)], []⟩) Q E s := by
  obtain ⟨hp, g, d, tk0, os⟩ := s
  show wpAny _ _ (field (.ref (b + n + 2)) 2 >>= _) _ _ _
  refine wpAny_bind (wpAny_field hz rfl (x := .bool false) rfl ?_)
  show wpAny _ _ (field (.ref (b + n + 2)) 3 >>= _) _ _ _
  refine wpAny_bind (wpAny_field hz rfl (x := .ref (b + n)) rfl ?_)
  refine wpAny_bind (wpAny_seqItems hc rfl ?_)
  simp only [its_ne h0, Bool.false_eq_true, if_false]
  show wpAny _ _ (Builtin.SmallTypes.ownedTupleIsFree (.ref (b + n + 2)) >>= _) _ _ _
  refine wpAny_bind (wpAny_tupleHeld_zip hz hT fun g0 hz0 hs0 => ?_)
  replace hz0 : IsZipHeld g0 (b + n + 2) (b + n) (b + n + 1) T true := hz0
  replace hs0 : Heap.SameBut (b + n + 2) hp g0 := hs0
  simp only [Bool.false_eq_true, if_false]
  refine wpAny_bind ?_
  rw [← Array.forIn_toList]
  have I0 : Its gs b i 0 g0 := its_keep I fun c o lt z => hs0.extBut c o (by rw [hn] at lt; exact Nat.ne_of_lt (Nat.lt_of_lt_of_le lt (Nat.le_add_right _ _))) z
  have S0 : Sqs gs uss g0 := sqs_keep low S fun c o lt z => hs0.extBut c o (Nat.ne_of_lt (Nat.lt_of_lt_of_le lt (by rw [Nat.add_assoc]; exact Nat.le_add_right _ _))) z
  obtain ⟨r, er⟩ := its_cons (b := b) h0
  show wpAny _ _ (forIn (itsOf b n) _ _) _ _ _
  rw [er, List.forIn_cons]
  refine wpAny_bind (wpAny_bind (wpAny_holding ?_))
  show wpAny _ _ (Builtin.SmallTypes.nextOf (.ref b) >>= _) _ _ _
  refine wpAny_bind (draw_end (s := ⟨g0, g, d, tk0, os⟩) hh low (by rw [hn]; exact h0) hi I0 S0 fun h2 e hq he => ?_)
  exact hE h2 tk0 e (fun c o c1 c2 c3 z => hq _ _ (ne_it (k := 0) h0 c1) (hs0.extBut _ _ c3 z)) he
theorem zn_firstEnd {Q : Fin → Shared → Prop} (hh : A.handled = none) (low : Low gs b) (hn : gs.length = n) (h0 : 0 < n) (hz : IsZip s.heap (b + n + 2) (b + n) (b + n + 1) .none) (hc : TupN s.heap (b + n) (itsOf b n))
    (hi : ∀ us ∈ uss, us.length = i) (I : Its gs b i 0 s.heap) (S : Sqs gs uss s.heap)
    (hE : ∀ h' tk e, Kp b n s.heap h' → (∃ o, h'.get? e = some o ∧ o.cls = .type "StopIteration") → E (.ref e) { s with heap := h', toks := tk }) :
    wpAny (model prog w) A (Builtin.«zip.__next__» ⟨[.ref (b + n + 2)], []⟩) Q E s := by
  obtain ⟨hp, g, d, tk0, os⟩ := s
  show wpAny _ _ (field (.ref (b + n + 2)) 2 >>= _) _ _ _
  refine wpAny_bind (wpAny_field hz rfl (x := .bool false) rfl ?_)
  show wpAny _ _ (field (.ref (b + n + 2)) 3 >>= _) _ _ _
  refine wpAny_bind (wpAny_field hz rfl (x := .ref (b + n)) rfl ?_)
  refine wpAny_bind (wpAny_seqItems hc rfl ?_)
  simp only [its_ne h0, Bool.false_eq_true, if_false]
  show wpAny _ _ (Builtin.SmallTypes.ownedTupleIsFree (.ref (b + n + 2)) >>= _) _ _ _
  refine wpAny_bind ?_
  unfold Builtin.SmallTypes.ownedTupleIsFree
  refine wpAny_bind (wpAny_field hz rfl (x := .none) rfl (wpAny_pure ?_))
  simp only [if_true]
  refine wpAny_bind (wpAny_rule ?_)
  refine wpAny_bind (wpAny_field hz rfl (x := .ref (b + n + 1)) rfl ?_)
  refine wpAny_bind (wpAny_setField_rec hz (by simp) fun g0 hz0 hs0 => ?_)
  replace hz0 : IsZip g0 (b + n + 2) (b + n) (b + n + 1) .ellipsis := hz0
  replace hs0 : Heap.SameBut (b + n + 2) hp g0 := hs0
  refine wpAny_bind ?_
  have I0 : Its gs b i 0 g0 := its_keep I fun c o lt z => hs0.extBut c o (by rw [hn] at lt; exact Nat.ne_of_lt (Nat.lt_of_lt_of_le lt (Nat.le_add_right _ _))) z
  have S0 : Sqs gs uss g0 := sqs_keep low S fun c o lt z => hs0.extBut c o (Nat.ne_of_lt (Nat.lt_of_lt_of_le lt (by rw [Nat.add_assoc]; exact Nat.le_add_right _ _))) z
  obtain ⟨r, er⟩ := its_cons (b := b) h0
  rw [er, List.zipIdx_cons, List.forIn_cons]
  refine wpAny_bind (wpAny_bind (wpAny_onRaise ?_))
  show wpAny _ _ (Builtin.SmallTypes.nextOf (.ref b) >>= _) _ _ _
  refine wpAny_bind (draw_end (s := ⟨g0, g, d, tk0, os⟩) hh low (by rw [hn]; exact h0) hi I0 S0 fun q e hq he => ?_)
  replace hq : Heap.ExtBut b g0 q := hq
  obtain ⟨oe, hoe, hce⟩ := he
  replace hoe : q.get? e = some oe := hoe
  have hzb : b + n + 2 ≠ b := Nat.ne_of_gt (Nat.lt_of_lt_of_le (Nat.lt_add_of_pos_right h0) (Nat.le_add_right _ _))
  have hzq : IsZip q (b + n + 2) (b + n) (b + n + 1) .ellipsis := hq _ _ hzb hz0
  have hez : e ≠ b + n + 2 := fun x => by subst x; rw [hzq] at hoe; cases hoe; simp at hce
  refine wpAny_setField_rec (s := ⟨q, g, d, tk0, os⟩) hzq (by simp) fun q' _ hq' => ?_
  replace hq' : Heap.SameBut (b + n + 2) q q' := hq'
  exact hE q' tk0 e (fun c o c1 c2 c3 x => hq'.extBut _ _ c3 (hq _ _ (ne_it (k := 0) h0 c1) (hs0.extBut _ _ c3 x))) ⟨oe, hq'.extBut _ _ hez hoe, hce⟩
theorem zs_nextFirst {Q : Option Value → Shared → Prop} (hh : A.in1.handled = none) (low : Low gs b) (hn : gs.length = n) (hu : uss.length = n) (h0 : 0 < n) (hs : n ≤ sizeLine) (hz : IsZip s.heap (b + n + 2) (b + n) (b + n + 1) .none) (hc : TupN s.heap (b + n) (itsOf b n))
    (hd : TupN s.heap (b + n + 1) olds) (ho : olds.length = n) (I : Its gs b i 0 s.heap) (S : Sqs gs uss s.heap) (C : Col uss i col)
    (hQ : ∀ h' tk, IsZip h' (b + n + 2) (b + n) (b + n + 1) (rawInt s.heap.objs.size) → TupN h' (b + n + 1) col → Its gs b (i + 1) 0 h' → Sqs gs uss h' → TupN h' s.heap.objs.size col → Kp b n s.heap h' → Q (some (.ref s.heap.objs.size)) { s with heap := h', toks := tk }) :
    wpAny (model prog w) A (pyNext (.ref (b + n + 2))) Q E s := by
  have ty : s.TypeIs (.ref (b + n + 2)) "zip" := ⟨_, hz, rfl⟩
  refine wpAny_bind (wpAny_attempt (wpAny_callSpecial?_slot ty F.slot_zip_next (wpAny_call_entry F.slot_zip_next ty F.entry_zip_next ?_ (F.args_zip_next_1 _))))
  exact zn_first hh low hn hu h0 hs hz hc hd ho I S C fun h' tk a1 a2 a3 a4 a5 a6 => wpAny_pure (hQ h' tk a1 a2 a3 a4 a5 a6)
theorem zs_nextHeld {Q : Option Value → Shared → Prop} (hh : A.in1.handled = none) (low : Low gs b) (hn : gs.length = n) (hu : uss.length = n) (h0 : 0 < n) (hs : n ≤ sizeLine) (hz : IsZipHeld s.heap (b + n + 2) (b + n) (b + n + 1) T f) (hT : s.heap.get? T = some oT) (hc : TupN s.heap (b + n) (itsOf b n))
    (I : Its gs b i 0 s.heap) (S : Sqs gs uss s.heap) (C : Col uss i col)
    (hQ : ∀ h' tk, IsZipHeld h' (b + n + 2) (b + n) (b + n + 1) T true → Its gs b (i + 1) 0 h' → Sqs gs uss h' → TupN h' s.heap.objs.size col → (∀ e o, (e < b + n → e < b) → e ≠ b + n + 2 → s.heap.get? e = some o → h'.get? e = some o) → Q (some (.ref s.heap.objs.size)) { s with heap := h', toks := tk }) :
    wpAny (model prog w) A (pyNext (.ref (b + n + 2))) Q E s := by
  have ty : s.TypeIs (.ref (b + n + 2)) "zip" := ⟨_, hz, rfl⟩
  refine wpAny_bind (wpAny_attempt (wpAny_callSpecial?_slot ty F.slot_zip_next (wpAny_call_entry F.slot_zip_next ty F.entry_zip_next ?_ (F.args_zip_next_1 _))))
  exact zn_held hh low hn hu h0 hs hz hT hc I S C fun h' tk a1 a2 a3 a4 a5 => wpAny_pure (hQ h' tk a1 a2 a3 a4 a5)
theorem zs_stop {Q : Option Value → Shared → Prop} (hh : A.in1.handled = none) (low : Low gs b) (hn : gs.length = n) (h0 : 0 < n) (hz : IsZip s.heap (b + n + 2) (b + n) (b + n + 1) .none ∨ ∃ T f o, IsZipHeld s.heap (b + n + 2) (b + n) (b + n + 1) T f ∧ s.heap.get? T = some o) (hc : TupN s.heap (b + n) (itsOf b n))
    (hi : ∀ us ∈ uss, us.length = i) (I : Its gs b i 0 s.heap) (S : Sqs gs uss s.heap)
    (hQ : ∀ h' tk, Kp b n s.heap h' → Q none { s with heap := h', toks := tk }) :
    wpAny (model prog w) A (pyNext (.ref (b + n + 2))) Q E s := by
  have ty : s.TypeIs (.ref (b + n + 2)) "zip" := by
    rcases hz with hz | ⟨T, f, o, hz, _⟩
    · exact ⟨_, hz, rfl⟩
    · exact ⟨_, hz, rfl⟩
  refine wpAny_bind (wpAny_attempt (wpAny_callSpecial?_slot ty F.slot_zip_next (wpAny_call_entry F.slot_zip_next ty F.entry_zip_next ?_ (F.args_zip_next_1 _))))
  rcases hz with hz | ⟨T, f, o, hz, hT⟩
  · refine zn_firstEnd hh low hn h0 hz hc hi I S fun h' tk e kk he => ?_
    obtain ⟨o, h1, h2⟩ := he
    exact wpAny_bind (wpAny_isInstance (T := "StopIteration") (b := true) ⟨o, h1, h2⟩ isSubtype_stop (wpAny_pure (hQ h' tk kk)))
  · refine zn_heldEnd hh low hn h0 hz hT hc hi I S fun h' tk e kk he => ?_
    obtain ⟨o, h1, h2⟩ := he
    exact wpAny_bind (wpAny_isInstance (T := "StopIteration") (b := true) ⟨o, h1, h2⟩ isSubtype_stop (wpAny_pure (hQ h' tk kk)))
end
end Mir
namespace Mir
open PySem PySem.Spec PyProof.Rows L2
variable [Tb]
theorem typeCall_zip_n (us : List Value) : checkTypeCall "zip" ⟨us, []⟩ = pure () := by kernel_rfl
theorem newCall_zip_n (us : List Value) : checkBuiltinCall "zip.__new__" ⟨.type "zip" :: us, []⟩ = pure () := by
  cases us with
  | nil => kernel_rfl
  | cons a us => kernel_rfl
theorem init_zip_n (obj : Value) (us : List Value) : argsOk "object.__init__" ⟨obj :: us, []⟩ := by
  unfold argsOk; rw [signature?_of (id := "object.__init__") (n := ['_', '_', 't', 'i', 'n', 'i', '_', '_']) (o := ['t', 'c', 'e', 'j', 'b', 'o']) (by kernel_rfl) PySem.F.owner_object]; kernel_rfl
structure ZNew (gs : List (Bool × Addr)) (n : Nat) (h h' : Heap) : Prop where
  hz : IsZip h' (h.objs.size + n + 2) (h.objs.size + n) (h.objs.size + n + 1) .none
  hc : TupN h' (h.objs.size + n) (itsOf h.objs.size n)
  hd : TupN h' (h.objs.size + n + 1) (List.replicate n .none)
  hi : Its gs h.objs.size 0 0 h'
  sz : h'.objs.size = h.objs.size + n + 3
  kp : ∀ c o, h.get? c = some o → h'.get? c = some o
theorem meets_zip_n {gs : List (Bool × Addr)} {uss : List (List Value)} {n : Nat} (hn : gs.length = n) (hs : n ≤ sizeLine) :
    Meets (Builtin.«zip.__new__» ⟨.type "zip" :: gs.map (fun p => .ref p.2), []⟩) (fun _ R s => Sqs gs uss s.heap ∧
      ∀ h', ZNew gs n s.heap h' → R (.ok (.ret (.ref (s.heap.objs.size + n + 2)))) { s with heap := h' }) :=
  .of_wp fun prog w A R s h => by
    obtain ⟨hp, g, d, tk, os⟩ := s
    obtain ⟨hS, h⟩ := h
    replace hS : Sqs gs uss hp := hS
    have hsub := sub_zip
    wp_walk
    show wpAny _ _ (forIn (List.map (fun p => Value.ref p.snd) gs) (#[] : Array Value) (fun x its => do
      let r ← holding its.toList (pyIter x)
      pure (ForInStep.yield (its.push r)))) _ _ _
    refine forIn_walk (P := fun j bst s' => bst = (itsOf hp.objs.size j).toArray ∧ ∃ h, s' = ⟨h, g, d, tk, os⟩ ∧ h.objs.size = hp.objs.size + j ∧ (∀ c o, hp.get? c = some o → h.get? c = some o) ∧ ∀ (k : Nat) (t : Bool) (l : Addr), k < j → gs[k]? = some (t, l) → itK t h (hp.objs.size + k) l 0) _ 0 _ _ ⟨rfl, hp, rfl, rfl, fun _ _ x => x, fun k _ _ lt _ => absurd lt (Nat.not_lt_zero k)⟩ (fun k a bst s1 ea hP => ?_) fun bst s1 hP => ?_
    · obtain ⟨rfl, h1, rfl, hsz, kp, hi⟩ := hP
      rw [Nat.zero_add] at hsz hi ⊢
      rw [List.getElem?_map] at ea
      cases eg : gs[k]? with
      | none => rw [eg] at ea; cases ea
      | some p =>
        rw [eg] at ea
        cases ea
        obtain ⟨t, l⟩ := p
        obtain ⟨us, _, sq⟩ := hS k t l eg
        have B := begins_k t l us.toArray
        have sq1 : sqK t h1 l us.toArray := sqK_at sq fun o z => kp _ o z
        refine wpAny_bind (wpAny_holding (B.iter prog w _ _ ⟨h1, g, d, tk, os⟩ _ sq1 (wpAny_pure ⟨_, rfl, ?_, _, rfl, ?_, ?_, ?_⟩)))
        · show (itsOf hp.objs.size k).toArray.push (Value.ref h1.objs.size) = _
          rw [hsz, List.push_toArray]
          unfold itsOf
          rw [List.range_succ, List.map_append]
          rfl
        · show (h1.push _).objs.size = _
          rw [Heap.size_push, hsz]
          rfl
        · exact fun c o z => Heap.get?_push_of_some _ (kp c o z)
        · intro k' t' l' lt e
          rcases Nat.lt_succ_iff_lt_or_eq.mp lt with lt | rfl
          · exact itK_at (hi k' t' l' lt e) fun o z => Heap.get?_push_of_some _ z
          · rw [eg] at e
            cases e
            refine itK_new ?_
            rw [← hsz]
            exact Heap.get?_push_size _ B.free
    · obtain ⟨rfl, h1, rfl, hsz, kp, hi⟩ := hP
      rw [List.length_map, Nat.zero_add, hn] at hsz hi ⊢
      refine wpAny_pure ?_
      show wpAny _ _ (newTuple (itsOf hp.objs.size n) >>= _) _ _ _
      have e1 : (itsOf hp.objs.size n).length = n := its_len
      refine wpAny_bind (wpAny_newTuple ?_ (by rw [e1]; exact hs))
      show wpAny _ _ (newTuple (List.map (fun _ => Value.none) (itsOf hp.objs.size n)) >>= _) _ _ _
      have e2 : List.map (fun _ => Value.none) (itsOf hp.objs.size n) = List.replicate n Value.none := by
        rw [List.map_const', e1]
      rw [e2]
      refine wpAny_bind (wpAny_newTuple ?_ (by rw [List.length_replicate]; exact hs))
      refine wpAny_bind ?_
      unfold Builtin.SmallTypes.newRecord
      show wpAny _ _ (newObj (.type "zip") _) _ _ _
      refine wpAny_newObj_type ?_ (by first | size_fits | (show (5 : Nat) ≤ _; decide))
      have hf : ∀ (o1 o2 o3 : Obj), (((h1.push o1).push o2).push o3).objs.size = hp.objs.size + n + 3 := fun o1 o2 o3 => by rw [Heap.size_push, Heap.size_push, Heap.size_push, hsz]
      have s1 : ∀ o1 : Obj, (h1.push o1).objs.size = hp.objs.size + n + 1 := fun o1 => by rw [Heap.size_push, hsz]
      have s2 : ∀ o1 o2 : Obj, ((h1.push o1).push o2).objs.size = hp.objs.size + n + 2 := fun o1 o2 => by rw [Heap.size_push, s1]
      refine wpAny_pure ⟨_, rfl, ?_⟩
      have fin : ∀ (o1 o2 oz : Obj), o1 = { cls := .type "tuple", data := .seq (itsOf hp.objs.size n).toArray } → o2 = { cls := .type "tuple", data := .seq (List.replicate n .none).toArray } → oz = { cls := .type "zip", data := .fields #[.none, .bool false, .bool false, .ref h1.objs.size, .ref (h1.push o1).objs.size] } →
          ZNew gs n hp (((h1.push o1).push o2).push oz) := by
        intro o1 o2 oz z1 z2 z3
        have f1 : o1.isFreed = false := by rw [z1]; rfl
        have f2 : o2.isFreed = false := by rw [z2]; rfl
        have f3 : oz.isFreed = false := by rw [z3]; rfl
        have gz : (((h1.push o1).push o2).push oz).get? ((h1.push o1).push o2).objs.size = some oz := Heap.get?_push_size _ f3
        have g2 : (((h1.push o1).push o2).push oz).get? (h1.push o1).objs.size = some o2 := Heap.get?_push_of_some _ (Heap.get?_push_size _ f2)
        have g1 : (((h1.push o1).push o2).push oz).get? h1.objs.size = some o1 := Heap.get?_push_of_some _ (Heap.get?_push_of_some _ (Heap.get?_push_size _ f1))
        have kq : ∀ c o, h1.get? c = some o → (((h1.push o1).push o2).push oz).get? c = some o := fun c o z => Heap.get?_push_of_some _ (Heap.get?_push_of_some _ (Heap.get?_push_of_some _ z))
        rw [s2] at gz
        rw [s1] at g2
        rw [hsz] at g1
        have z3' : oz = { cls := .type "zip", data := .fields #[.none, .bool false, .bool false, .ref (hp.objs.size + n), .ref (hp.objs.size + n + 1)] } := by rw [z3, s1, hsz]
        refine ⟨gz.trans (congrArg some z3'), g1.trans (congrArg some z1), g2.trans (congrArg some z2), ?_, hf _ _ _, fun c o z => kq c o (kp c o z)⟩
        · intro k t l e
          have lt := (List.getElem?_eq_some_iff.mp e).1
          rw [if_neg (Nat.not_lt_zero k)]
          exact itK_at (hi k t l (by omega) e) fun o z => kq _ o z
      have F := fin _ _ _ rfl rfl rfl
      have q := h _ F
      show R (.ok (.ret (.ref ((h1.push _).push _).objs.size))) ⟨((h1.push _).push _).push _, g, d, tk, os⟩
      rw [s2]
      exact q
section
variable {prog : Program} {w : World} {A : Around} {E : Value → Shared → Prop} {s : Shared}
theorem zip_begins_n {gs : List (Bool × Addr)} {uss : List (List Value)} {n : Nat} {Q : Value → Shared → Prop} (hn : gs.length = n) (hs : n ≤ sizeLine) (S : Sqs gs uss s.heap)
    (h : ∀ h', ZNew gs n s.heap h' → Q (.ref (s.heap.objs.size + n + 2)) { s with heap := h' }) : wpAny (model prog w) A (call (.type "zip") (gs.map fun p => .ref p.2)) Q E s := by
  refine callType_new F.called_zip (by decide) (typeCall_zip_n _) (newCall_zip_n _) (fun obj => init_zip_n obj _) F.entry_zip_new (meets_zip_n hn hs) ⟨S, fun h' Z => ?_⟩
  exact ⟨⟨_, Z.hz, rfl⟩, h h' Z⟩
end
end Mir
namespace Mir
open PySem PySem.Spec PyProof.Rows L2
variable [Tb]
/-- the rows of a zip: lists and tuples -/
def GKs (K : PySem.W.Frag) (H : Hp) : List (Bool × Addr) → List (List V) → Prop
  | [], xss => xss = []
  | p :: gs, xss => ∃ xs r, xss = xs :: r ∧ gK p.1 K H p.2 xs ∧ GKs K H gs r
/-- column i -/
def ColV (i : Nat) : List (List V) → List V → Prop
  | [], cs => cs = []
  | xs :: r, cs => ∃ x t, cs = x :: t ∧ xs[i]? = some x ∧ ColV i r t
theorem GKs.mono {K : PySem.W.Frag} {H H' : Hp} (e : Same H H') : ∀ {gs : List (Bool × Addr)} {xss : List (List V)}, GKs K H gs xss → GKs K H' gs xss
  | [], _, h => h
  | _ :: _, _, h => by
    obtain ⟨xs, r, e1, g, t⟩ := h
    exact ⟨xs, r, e1, gK_mono e g, GKs.mono e t⟩
theorem GKs.length {K : PySem.W.Frag} {H : Hp} : ∀ {gs : List (Bool × Addr)} {xss : List (List V)}, GKs K H gs xss → xss.length = gs.length
  | [], _, h => by
    cases (show _ = [] from h)
    rfl
  | _ :: _, _, h => by
    obtain ⟨xs, r, rfl, g, t⟩ := h
    rw [List.length_cons, List.length_cons, GKs.length t]
theorem ColV.length {i : Nat} : ∀ {xss : List (List V)} {cs : List V}, ColV i xss cs → cs.length = xss.length
  | [], _, h => by
    cases (show _ = [] from h)
    rfl
  | _ :: _, _, h => by
    obtain ⟨x, t, rfl, _, r⟩ := h
    rw [List.length_cons, List.length_cons, ColV.length r]
theorem colV_of {i : Nat} : ∀ {xss : List (List V)}, (∀ xs ∈ xss, i < xs.length) → ∃ cs, ColV i xss cs
  | [], _ => ⟨[], rfl⟩
  | xs :: r, h => by
    obtain ⟨t, g⟩ := colV_of (xss := r) fun ys m => h ys (List.mem_cons_of_mem _ m)
    exact ⟨_ :: t, _, t, rfl, List.getElem?_eq_getElem (h xs List.mem_cons_self), g⟩
section
variable {X : Cx} {pins : List (Addr × Obj)} {σ : L2.St} {H : Hp} {s : Shared} {A : Around} {E : Value → Shared → Prop} {gs : List (Bool × Addr)} {xss : List (List V)} {cs : List V} {b n i S : Nat}
theorem gks_low (I : Inv X pins σ H s) : ∀ {gs : List (Bool × Addr)} {xss : List (List V)}, GKs X.K H gs xss → Low gs s.heap.objs.size
  | [], _, _ => fun k t l e => by simp at e
  | p :: gs, _, h => by
    obtain ⟨xs, r, _, g, t⟩ := h
    intro k tt l e
    cases k with
    | zero =>
      cases e
      obtain ⟨us, _, _, lt⟩ := gK_vals I g
      exact lt
    | succ k => exact gks_low I t k tt l (by simpa using e)
theorem gks_all (I : Inv X pins σ H s) : ∀ {gs : List (Bool × Addr)} {xss : List (List V)}, GKs X.K H gs xss → ∃ uss : List (List Value), uss.length = gs.length ∧ Sqs gs uss s.heap ∧ ∀ (k : Nat) xs, xss[k]? = some xs → ∃ us, uss[k]? = some us ∧ Vals xs us
  | [], _, h => by
    cases (show _ = [] from h)
    exact ⟨[], rfl, fun k t l e => by simp at e, fun k xs e => by simp at e⟩
  | p :: gs, _, h => by
    obtain ⟨xs, r, rfl, g, t⟩ := h
    obtain ⟨us, rv, sq, _⟩ := gK_vals I g
    obtain ⟨uss, e1, e2, e3⟩ := gks_all I t
    refine ⟨us :: uss, by rw [List.length_cons, List.length_cons, e1], fun k tt l e => ?_, fun k ys e => ?_⟩
    · cases k with
      | zero =>
        cases e
        exact ⟨us, rfl, sq⟩
      | succ k =>
        obtain ⟨us', q1, q2⟩ := e2 k tt l (by simpa using e)
        exact ⟨us', by simpa using q1, q2⟩
    · cases k with
      | zero =>
        cases e
        exact ⟨us, rfl, rv⟩
      | succ k =>
        obtain ⟨us', q1, q2⟩ := e3 k ys (by simpa using e)
        exact ⟨us', by simpa using q1, q2⟩
theorem col_of : ∀ {xss : List (List V)} {cs : List V} {uss : List (List Value)}, ColV i xss cs → uss.length = xss.length → (∀ (k : Nat) xs, xss[k]? = some xs → ∃ us, uss[k]? = some us ∧ Vals xs us) → ∃ col, Col uss i col ∧ Vals cs col
  | [], _, uss, h, hl, _ => by
    cases (show _ = [] from h)
    have : uss = [] := List.eq_nil_of_length_eq_zero hl
    subst this
    exact ⟨[], ⟨rfl, fun k us e => by simp at e⟩, .nil⟩
  | xs :: r, _, uss, h, hl, hv => by
    obtain ⟨x, t, rfl, e, g⟩ := h
    cases uss with
    | nil => simp at hl
    | cons us uss =>
      obtain ⟨us', q1, rv⟩ := hv 0 xs rfl
      cases (show some us = some us' from q1)
      obtain ⟨v, ev, rx⟩ := rv.get e
      obtain ⟨col, C, rc⟩ := col_of (uss := uss) g (by simpa using hl) fun k ys z => by
        obtain ⟨us', q1, q2⟩ := hv (k + 1) ys (by simpa using z)
        exact ⟨us', by simpa using q1, q2⟩
      refine ⟨v :: col, ⟨by rw [List.length_cons, List.length_cons, C.1], fun k us' z => ?_⟩, .cons rx rc⟩
      cases k with
      | zero =>
        cases z
        exact ⟨v, ev, rfl⟩
      | succ k =>
        obtain ⟨y, q1, q2⟩ := C.2 k us' (by simpa using z)
        exact ⟨y, q1, by simpa using q2⟩
def chs (b n : Nat) : List Addr := (List.range (n + 3)).map fun k => b + k
theorem mem_chs {e : Nat} : e ∈ chs b n ↔ b ≤ e ∧ e < b + n + 3 := by
  unfold chs
  rw [List.mem_map]
  constructor
  · rintro ⟨k, hk, rfl⟩
    rw [List.mem_range] at hk
    exact ⟨Nat.le_add_right _ _, by omega⟩
  · rintro ⟨h1, h2⟩
    exact ⟨e - b, by rw [List.mem_range]; omega, by omega⟩
theorem out_ne {b n e : Nat} (c : e < b ∨ e = b + n ∨ b + n + 3 ≤ e) : (e < b + n → e < b) ∧ e ≠ b + n + 1 ∧ e ≠ b + n + 2 := ⟨by omega, by omega, by omega⟩
structure ZS (gs : List (Bool × Addr)) (b n S i : Nat) (h : Heap) : Prop where
  hz : (IsZip h (b + n + 2) (b + n) (b + n + 1) .none ∧ ∃ us, us.length = n ∧ TupN h (b + n + 1) us) ∨ ∃ T f o, IsZipHeld h (b + n + 2) (b + n) (b + n + 1) T f ∧ h.get? T = some o ∧ S < T
  hc : TupN h (b + n) (itsOf b n)
  hi : Its gs b i 0 h
theorem ZS.side {h h' : Heap} (Z : ZS gs b n S i h) (hn : gs.length = n) (hS : b + n + 3 ≤ S) (k : ∀ e o, e ≠ S → h.get? e = some o → h'.get? e = some o) : ZS gs b n S i h' := by
  have ne : ∀ c : Nat, c < b + n + 3 → c ≠ S := fun c lt e => by omega
  refine ⟨?_, k _ _ (ne _ (by omega)) Z.hc, its_keep Z.hi fun c o lt z => k c o (ne c (by rw [hn] at lt; have l2 : (c : Nat) < b + n := lt; omega)) z⟩
  rcases Z.hz with ⟨q, us, e, r⟩ | ⟨T, f, o, q, r, lt⟩
  · exact .inl ⟨k _ _ (ne _ (by omega)) q, us, e, k _ _ (ne _ (by omega)) r⟩
  · exact .inr ⟨T, f, o, k _ _ (ne _ (by omega)) q, k _ _ (fun e => by rw [e] at lt; exact absurd lt (Nat.lt_irrefl _)) r, lt⟩
theorem zs_next {Q : Option Value → Shared → Prop} {oS : Obj} (hh : A.in1.handled = none) (I : Inv X pins σ H s) (low : Low gs b) (hn : gs.length = n) (h0 : 0 < n) (hs : n ≤ sizeLine) (hS : b + n + 3 ≤ S) (hf : ∀ e ∈ chs b n, FpOk X pins H e)
    (Z : ZS gs b n S i s.heap) (hSo : s.heap.get? S = some oS) (g : GKs X.K H gs xss) (C : ColV i xss cs)
    (h : ∀ s', Inv X pins σ (upd H s.heap.objs.size (.tup cs)) s' → ZS gs b n S (i + 1) s'.heap → s'.heap.get? S = some oS → Q (some (.ref s.heap.objs.size)) s') :
    wpAny (model X.prog X.w) A (pyNext (.ref (b + n + 2))) Q E s := by
  obtain ⟨uss, e1, e2, e3⟩ := gks_all I g
  obtain ⟨col, C', rc⟩ := col_of C (by rw [e1, g.length]) e3
  have hlS : S < s.heap.objs.size := Heap.lt_size hSo
  have hcl : cs.length ≤ sizeLine := by rw [C.length, g.length, hn]; exact hs
  have fin : ∀ (h' : Heap) (tk : Nat), ((IsZip h' (b + n + 2) (b + n) (b + n + 1) (rawInt s.heap.objs.size)) ∨ ∃ T f o, IsZipHeld h' (b + n + 2) (b + n) (b + n + 1) T f ∧ h'.get? T = some o ∧ S < T) → Its gs b (i + 1) 0 h' → TupN h' s.heap.objs.size col →
      Kp b n s.heap h' → Q (some (.ref s.heap.objs.size)) { s with heap := h', toks := tk } := by
    intro h' tk hz hi hT kp
    have ok : ObjOk X.prog X.w (upd H s.heap.objs.size (.tup cs)) h' s.heap.objs.size (.tup cs) := ⟨hcl, col, rc, _, hT, rfl, _, rfl⟩
    have out : ∀ (e : Nat) (o : Obj), (e < b ∨ e = b + n ∨ b + n + 3 ≤ e) → s.heap.get? e = some o → h'.get? e = some o := fun e o c z => kp e o (out_ne c).1 (out_ne c).2.1 (out_ne c).2.2 z
    refine h _ (I.turnedNew (t' := tk) (ch := chs b n) (fun e o ne he => out e o (by rw [mem_chs] at ne; omega) he) hf (Nat.le_refl _) ok) ⟨?_, out _ _ (.inr (.inl rfl)) Z.hc, hi⟩ (out S oS (.inr (.inr hS)) hSo)
    rcases hz with q | q
    · exact .inr ⟨_, false, _, q, hT, hlS⟩
    · exact .inr q
  rcases Z.hz with ⟨hz, us, eu, hd⟩ | ⟨T, f, oT, hz, hT, lT⟩
  · refine zs_nextFirst hh low hn (by rw [e1, hn]) h0 hs hz Z.hc hd eu Z.hi e2 C' fun h' tk z1 z2 z3 z4 z5 z6 => ?_
    exact fin h' tk (.inl z1) z3 z5 z6
  · refine zs_nextHeld hh low hn (by rw [e1, hn]) h0 hs hz hT Z.hc Z.hi e2 C' fun h' tk z1 z3 z4 z5 z6 => ?_
    exact fin h' tk (.inr ⟨T, true, oT, z1, z6 T oT (fun lt => by have l2 : (T : Nat) < b + n := lt; have l3 : (S : Nat) < T := lT; omega) (fun e => by have l2 : (T : Nat) = b + n + 2 := e; have l3 : (S : Nat) < T := lT; omega) hT, lT⟩) z3 z5 fun e o c1 _ c3 z => z6 e o c1 c3 z
theorem zs_stopI {Q : Option Value → Shared → Prop} {oS : Obj} (hh : A.in1.handled = none) (I : Inv X pins σ H s) (low : Low gs b) (hn : gs.length = n) (h0 : 0 < n) (hS : b + n + 3 ≤ S) (hf : ∀ e ∈ chs b n, FpOk X pins H e)
    (Z : ZS gs b n S i s.heap) (hSo : s.heap.get? S = some oS) (g : GKs X.K H gs xss) (hi : ∀ xs ∈ xss, xs.length = i)
    (h : ∀ s', Inv X pins σ H s' → s'.heap.get? S = some oS → Q none s') : wpAny (model X.prog X.w) A (pyNext (.ref (b + n + 2))) Q E s := by
  obtain ⟨uss, e1, e2, e3⟩ := gks_all I g
  have hu : ∀ us ∈ uss, us.length = i := fun us m => by
    obtain ⟨k, hk⟩ := List.getElem?_of_mem m
    have lt := (List.getElem?_eq_some_iff.mp hk).1
    have lt2 : k < xss.length := by rw [g.length, ← e1]; exact lt
    obtain ⟨us', q1, rv⟩ := e3 k _ (List.getElem?_eq_getElem lt2)
    rw [hk] at q1
    cases q1
    rw [← rv.length]
    exact hi _ (List.getElem_mem lt2)
  refine zs_stop hh low hn h0 (Z.hz.imp (fun q => q.1) fun ⟨T, f, o, a, b, _⟩ => ⟨T, f, o, a, b⟩) Z.hc hu Z.hi e2 fun h' tk kp => ?_
  have out : ∀ (e : Nat) (o : Obj), (e < b ∨ e = b + n ∨ b + n + 3 ≤ e) → s.heap.get? e = some o → h'.get? e = some o := fun e o c z => kp e o (out_ne c).1 (out_ne c).2.1 (out_ne c).2.2 z
  exact h _ (I.turnedL (t' := tk) (ch := chs b n) (fun e o ne he => out e o (by rw [mem_chs] at ne; omega) he) hf) (out S oS (.inr (.inr hS)) hSo)
/-- the tuples come, one by one: m of them, from column i on -/
def zgN (Q : List V → Hp → Prop) (xss : List (List V)) : Nat → Nat → List V → Hp → Prop
  | 0, _, acc, H => Q acc H
  | m + 1, i, acc, H => ∃ cs, ColV i xss cs ∧ ∀ p, H p = none → zgN Q xss m (i + 1) (acc ++ [.ref p]) (upd H p (.tup cs))
theorem zs_loop {Q : List V → Hp → Prop} {R : Result → Shared → Prop} (hh : A.in1.in1.handled = none) (low : Low gs b) (hn : gs.length = n) (h0 : 0 < n) (hs : n ≤ sizeLine) (hS : b + n + 3 ≤ S) {w : Nat} (hw : ∀ xs ∈ xss, xs.length = w) (hwz : w ≤ sizeLine) :
    ∀ (m i : Nat) (s : Shared) (H : Hp) (acc : List V) (its : Array Value) (cp : Nat), i + m = w → acc.length = i → Inv X pins σ H s → (∀ e ∈ S :: chs b n, FpOk X pins H e) →
      ZS gs b n S i s.heap → s.heap.get? S = some { cls := .type "list", dict := none, data := .seq its cp, slots := #[] } → GKs X.K H gs xss → Vals acc its.toList → zgN Q xss m i acc H →
      (∀ s' H' acc' its' cp', Inv X pins σ H' s' → FpOk X pins H' S → s'.heap.get? S = some { cls := .type "list", dict := none, data := .seq its' cp', slots := #[] } → Vals acc' its'.toList → acc'.length ≤ sizeLine → Q acc' H' → R (.ok (.ret .none)) s') →
      codeAny (model X.prog X.w) A (.builtin "list.extend.loop" ⟨[.ref S, .ref (b + n + 2), .none], []⟩) R s := by
  intro m
  induction m with
  | zero =>
    intro i s H acc its cp em la I hf Z hSo g va q k
    refine codeAny_builtin F.entry_extend_loop ?_
    rw [Around.under_plainId F.plain_extend_loop ⟨[.ref S, .ref (b + n + 2), .none], []⟩]
    refine wpAny_bind (zs_stopI hh I low hn h0 hS (fun e m => hf e (List.mem_cons_of_mem _ m)) Z hSo g (fun xs mx => by rw [hw xs mx]; omega) fun s' I' gl => ?_)
    exact wpAny_pure (k s' H acc its cp I' (hf S List.mem_cons_self) gl va (by omega) q)
  | succ m ih =>
    intro i s H acc its cp em la I hf Z hSo g va q k
    obtain ⟨cs, C, q⟩ := q
    have hnn : H s.heap.objs.size = none := I.hok.fresh (Nat.le_refl _)
    have lenits : its.size = acc.length := by
      have := va.length
      simp only [Array.length_toList] at this
      exact this.symm
    refine codeAny_builtin F.entry_extend_loop ?_
    rw [Around.under_plainId F.plain_extend_loop ⟨[.ref S, .ref (b + n + 2), .none], []⟩]
    refine wpAny_bind (zs_next hh I low hn h0 hs hS (fun e m => hf e (List.mem_cons_of_mem _ m)) Z hSo g C fun s' I' Z' gl => ?_)
    have same : Same H (upd H s.heap.objs.size (.tup cs)) := same_upd hnn
    have hlS : S < s.heap.objs.size := Heap.lt_size hSo
    have ltf : ∀ e ∈ S :: chs b n, e ≠ s.heap.objs.size := fun e m z => by
      rcases List.mem_cons.mp m with rfl | m
      · exact absurd hlS (by rw [← z]; exact Nat.lt_irrefl _)
      · have := (mem_chs.mp m).2
        have l2 : (S : Nat) < s.heap.objs.size := hlS
        have z2 : (e : Nat) = s.heap.objs.size := z
        omega
    show wpAny (model X.prog X.w) A.in1 (updateSeq S (·.push (.ref s.heap.objs.size)) >>= _) _ _ s'
    refine wpAny_bind (wpAny_updateSeq gl rfl (wpAny_pure ⟨plainId_quiet F.plain_extend_loop _, ?_⟩) (by rw [lenits]; omega) (by show (its.push (Value.ref s.heap.objs.size)).size ≤ sizeLine + 1; rw [Array.size_push, lenits]; omega))
    have oth : ∀ e o, e ≠ S → s'.heap.get? e = some o → (s'.heap.update S (Obj.mapSeq (·.push (Value.ref s.heap.objs.size)))).get? e = some o := fun e o ne q => (Heap.get?_update_other _ _ (Ne.symm ne)).trans q
    have I2 : Inv X pins σ (upd H s.heap.objs.size (.tup cs)) { s' with heap := s'.heap.update S (Obj.mapSeq (·.push (Value.ref s.heap.objs.size))) } :=
      I'.turnedL (t' := s'.toks) (ch := [S]) (fun e o ne q => oth e o (fun z => ne (by simp [z])) q) fun e m => by
        rw [List.mem_singleton.mp m]
        exact fpOk_upd (hf S List.mem_cons_self) (ltf S List.mem_cons_self)
    refine ih (i + 1) _ _ (acc ++ [.ref s.heap.objs.size]) (its.push (.ref s.heap.objs.size)) _ (by omega) (by rw [List.length_append, la]; rfl) I2 (fun e m => fpOk_upd (hf e m) (ltf e m)) (Z'.side hn hS oth) (Heap.get?_update_self _ gl rfl) (g.mono same) ?_ (q _ hnn) k
    rw [Array.toList_push]
    exact vals_snoc va rfl
end
end Mir
namespace Mir
open PySem PySem.Spec PyProof.Rows L2
variable [Tb]
section
variable {X : Cx} {pins : List (Addr × Obj)} {σ : L2.St} {H : Hp} {s : Shared} {A : Around} {E : Value → Shared → Prop} {gs : List (Bool × Addr)} {xss : List (List V)} {cs : List V} {b n i S w : Nat}
theorem zs_call {Q : VK} (hh : X.A.in1.handled = none) (I : Inv X pins σ H s) (low : Low gs b) (hn : gs.length = n) (h0 : 0 < n) (hs : n ≤ sizeLine) (hf : ∀ e ∈ chs b n, FpOk X pins H e) (hsz : b + n + 3 ≤ s.heap.objs.size)
    (hz : IsZip s.heap (b + n + 2) (b + n) (b + n + 1) .none) (hc : TupN s.heap (b + n) (itsOf b n)) (hd : TupN s.heap (b + n + 1) (List.replicate n .none)) (hi : Its gs b 0 0 s.heap) (g : GKs X.K H gs xss) (hw : ∀ xs ∈ xss, xs.length = w) (hwz : w ≤ sizeLine)
    (q : zgN (fun acc H' => ∀ l, H' l = none → Q (.ref l) (upd H' l (.lst acc))) xss w 0 [] H) :
    wpAny (model X.prog X.w) X.A (call (.type "list") [.ref (b + n + 2)]) (EP X pins σ Q) E s := by
  have low0 : ∀ {e o}, s.heap.get? e = some o → s.heap.objs.size ≠ e := fun q => Nat.ne_of_gt (Heap.lt_size q)
  have hnn : H s.heap.objs.size = none := I.hok.fresh (Nat.le_refl _)
  have fS : FpOk X pins H s.heap.objs.size := I.fpOk (Nat.le_refl _) hnn
  refine callType_codes (Q₁ := fun ob s1 => ob = .ref s.heap.objs.size ∧ s1 = { s with heap := s.heap.push { cls := .type "list", data := .seq #[] } }) F.called_list (F.typeCall_list_1 _) F.entry_list_init (code_list_new _ ⟨rfl, rfl⟩) ?_
  rintro ob s1 ⟨rfl, rfl⟩
  have gS : (s.heap.push { cls := .type "list", data := .seq #[] }).get? s.heap.objs.size = some { cls := .type "list", data := .seq #[] } := Heap.get?_push_size _ rfl
  have k0 : ∀ e o, s.heap.get? e = some o → (s.heap.push { cls := .type "list", data := .seq #[] }).get? e = some o := fun e o x => Heap.get?_push_of_some _ x
  refine ⟨⟨_, gS, rfl⟩, F.args_list_init_2 _ _, ?_⟩
  show wpAny (model X.prog X.w) X.A.in1.in1 (do let old ← Builtin.List.listItems (.ref s.heap.objs.size); Builtin.List.listUpdate (.ref s.heap.objs.size) (fun _ => #[]); letGo old.toList.reverse; Builtin.List.listExtendWith (.ref s.heap.objs.size) (.ref (b + n + 2)) .none) _ _ _
  refine wpAny_bind ?_
  unfold Builtin.List.listItems
  refine wpAny_bind (wpAny_seqItems gS rfl (wpAny_pure ?_))
  show wpAny (model X.prog X.w) X.A.in1.in1 (updateSeq s.heap.objs.size (fun _ => #[]) >>= fun _ => letGo (#[] : Array Value).toList.reverse >>= fun _ => Builtin.List.listExtendWith (.ref s.heap.objs.size) (.ref (b + n + 2)) .none) _ _ _
  refine wpAny_bind (wpAny_updateSeq gS rfl (wpAny_bind (wpAny_letGo ?_)))
  have gS2 := Heap.get?_update_self (Obj.mapSeq (fun _ => (#[] : Array Value))) gS rfl
  have k1 : ∀ e o, s.heap.get? e = some o → ((s.heap.push { cls := .type "list", data := .seq #[] }).update s.heap.objs.size (Obj.mapSeq (fun _ => (#[] : Array Value)))).get? e = some o := fun e o x => (Heap.get?_update_other _ _ (low0 x)).trans (k0 e o x)
  generalize hg2 : (s.heap.push { cls := .type "list", data := .seq #[] }).update s.heap.objs.size (Obj.mapSeq (fun _ => (#[] : Array Value))) = gg at gS2 k1
  have ty : ∀ (h' : Heap) (tk : Nat), h'.get? (b + n + 2) = some { cls := .type "zip", dict := none, data := .fields #[.none, .bool false, .bool false, .ref (b + n), .ref (b + n + 1)], slots := #[] } → ({ s with heap := h', toks := tk } : Shared).TypeIs (.ref (b + n + 2)) "zip" := fun h' tk x => ⟨_, x, rfl⟩
  unfold Builtin.List.listExtendWith
  refine wpAny_bind (wpAny_typeOf (ty gg s.toks (k1 _ _ hz)) ?_)
  have b1 : Builtin.List.listSameRef (.ref s.heap.objs.size) (.ref (b + n + 2)) = false := by simp [Builtin.List.listSameRef, low0 hz]
  have b2 : (Value.type "zip" == Value.type "list") = false := by decide
  have b3 : (Value.type "zip" == Value.type "tuple") = false := by decide
  simp only [b1, b2, b3, Bool.or_false, Bool.false_eq_true, if_false]
  refine wpAny_bind (wpAny_pyIter_zip (k1 _ _ hz) (wpAny_bind (wpAny_holding ?_)))
  unfold Builtin.List.listLengthHint
  refine wpAny_bind (wpAny_specialOf (ty gg s.toks (k1 _ _ hz)) zip_len_no ?_)
  show wpAny (model X.prog X.w) X.A.in1.in1 (specialOf (Value.ref (b + n + 2)) (Str.ofString "__length_hint__") >>= _) _ _ _
  refine wpAny_bind (wpAny_specialOf (ty gg s.toks (k1 _ _ hz)) zip_hint_no (wpAny_pure ?_))
  show wpAny (model X.prog X.w) X.A.in1.in1 (rule "list.extend.makes-room" >>= fun _ => Builtin.List.listTouch (.ref s.heap.objs.size) >>= fun _ => again (.builtin "list.extend.loop" ⟨[.ref s.heap.objs.size, .ref (b + n + 2), .none], []⟩)) _ _ _
  refine wpAny_bind (wpAny_rule (wpAny_bind ?_))
  show wpAny (model X.prog X.w) X.A.in1.in1 (updateSeq s.heap.objs.size (·.push .none) >>= fun _ => updateSeq s.heap.objs.size (·.pop)) _ _ _
  refine wpAny_bind (wpAny_updateSeq gS2 rfl ?_)
  have gS3 := Heap.get?_update_self (Obj.mapSeq (·.push Value.none)) gS2 rfl
  refine wpAny_updateSeq (hz := by seq_fits) gS3 rfl ?_
  have gS4 := Heap.get?_update_self (Obj.mapSeq (·.pop)) gS3 rfl
  have k2 : ∀ e o, s.heap.get? e = some o → ((gg.update s.heap.objs.size (Obj.mapSeq (·.push Value.none))).update s.heap.objs.size (Obj.mapSeq (·.pop))).get? e = some o := fun e o x => (Heap.get?_update_other _ _ (low0 x)).trans ((Heap.get?_update_other _ _ (low0 x)).trans (k1 e o x))
  have I2 : Inv X pins σ H { s with heap := (gg.update s.heap.objs.size (Obj.mapSeq (·.push Value.none))).update s.heap.objs.size (Obj.mapSeq (·.pop)) } := I.kept (t' := s.toks) k2
  refine wpAny_pure ⟨plainId_quiet F.plain_extend_loop _, zs_loop (A := X.A.in1) hh low hn h0 hs hsz hw hwz w 0 _ H [] _ _ (Nat.zero_add _) rfl I2 (fun e m => ?_) ⟨.inl ⟨k2 _ _ hz, _, List.length_replicate, k2 _ _ hd⟩, k2 _ _ hc, its_keep hi fun c o _ x => k2 _ _ x⟩ gS4 g .nil q ?_⟩
  · rcases List.mem_cons.mp m with rfl | m
    · exact fS
    · exact hf e m
  · intro s' H' acc' its' cp' I' f' gl va hl q'
    refine ⟨rfl, .ref s.heap.objs.size, _, I'.take (h' := s'.heap) (t' := s'.toks) (o := .lst acc') (fun _ _ _ x => x) f' ⟨hl, its'.toList, cp', va, ?_⟩, rfl, q' _ f'.1⟩
    exact gl
theorem callWith_starT {M : Model} {A : Around} {E : Value → Shared → Prop} {s : Shared} {env : PySem.Env} {pos p : Pos} {T : String} {e : Expr} {Q : Value → Shared → Prop} (h : wpAny M A (eval e env) (fun v s₁ => PySem.W.StarOf M A E v (fun vs s₂ => wpAny M A (call (.type T) vs) Q E s₂) s₁) E s)
    (he : starEach [.Starred e p] env = [(true, eval e env)] := by rfl) : wpAny M A (callWith pos (.type T) [] (backTo pos (starEach [.Starred e p] env)) []) Q E s := by
  rw [he]
  unfold callWith
  refine wpAny_bind (wpAny_holding (wpAny_mono (PySem.W.ks_lone (Q := fun a s2 => a.kw = [] ∧ wpAny M A (call (.type T) a.pos) Q E s2) (wpAny_mono h (fun v s1 h1 => ?_) fun _ _ x => x)) (fun a s₁ h₁ => wpAny_bind (wpAny_standAt ?_)) fun _ _ x => x))
  · unfold PySem.W.StarOf at h1 ⊢
    exact wpAny_mono h1 (fun b s2 h2 => ⟨h2.1, wpAny_mono h2.2 (fun vs s3 h3 => ⟨rfl, h3⟩) fun _ _ x => x⟩) fun _ _ x => x
  · obtain ⟨e1, h₁⟩ := h₁
    obtain ⟨ap, ak⟩ := a
    cases (show ak = [] from e1)
    show wpAny M A (operate _ (call (.type T) ap []) >>= fun r => holding [r] point >>= fun _ => pure r) Q E s₁
    exact wpAny_bind (wpAny_mono (wpAny_operating h₁) (fun r s₂ hr => wpAny_bind (wpAny_holding (wpAny_point (wpAny_pure hr)))) fun _ _ x => x)
/-- list(zip(*e)): e a tuple or list of the tuples and lists gs, all w long -/
def tLzs (K : PySem.W.Frag) (te : TE) : TE := fun σ H Q => te σ H fun v H1 => ∃ (t : Bool) (a : Addr) (gs : List (Bool × Addr)) (xss : List (List V)) (w : Nat), v = .ref a ∧ gK t K H1 a (gs.map fun p => .ref p.2) ∧ gs ≠ [] ∧ GKs K H1 gs xss ∧ (∀ xs ∈ xss, xs.length = w) ∧
  zgN (fun acc H' => ∀ l, H' l = none → Q (.ref l) (upd H' l (.lst acc))) xss w 0 [] H1
theorem vals_refs : ∀ {gs : List (Bool × Addr)} {us : List Value}, Vals (gs.map fun p => V.ref p.2) us → us = gs.map fun p => Value.ref p.2
  | [], _, h => by
    cases h
    rfl
  | p :: gs, _, .cons a r => by
    have e : _ = Value.ref p.2 := a
    rw [e, vals_refs r]
    rfl
theorem pe_lzs {e : Expr} {te : TE} {p0 p sp pos0 pos : Pos} (calm : X.calm = true) (hgl : Gl X "list") (hml : X.mg "list" = none) (hg : Gl X "zip") (hm : X.mg "zip" = none) (he : PE X e te)
    (h0 : starEach [Expr.Call (.Name "zip" p) [.Starred e sp] [] pos] X.env = (false, eval (Expr.Call (.Name "zip" p) [.Starred e sp] [] pos) X.env) :: starEach [] X.env := by rfl)
    (hs : starEach [.Starred e sp] X.env = [(true, eval e X.env)] := by rfl) :
    PE X (.Call (.Name "list" p0) [.Call (.Name "zip" p) [.Starred e sp] [] pos] [] pos0) (tLzs X.K te) := by
  refine ⟨fun pins s σ H Q I h => ?_⟩
  refine wpAny_Call_Name_kw (ld_blt I hgl hml (show bootBuiltins "list" = some (.type "list") by decide +kernel) (PyProof.Rows.callWith_type1 ?_ h0 rfl) (by decide) (by decide))
  rw [h0]
  show wpAny (model X.prog X.w) X.A (spliced ((false, eval (Expr.Call (.Name "zip" p) [.Starred e sp] [] pos) X.env) :: backTo pos0 (starEach [] X.env))) _ _ s
  refine Calls.spliced_cons (Call_ (ld_blt I hg hm PyProof.Rows.boot_zip (callWith_starT (thn (he.run pins s σ H _ I h) fun v s1 ⟨y, H1, I1, ry, q⟩ => ?_) hs)))
  obtain ⟨t, a, gs, xss, w, rfl, ga, hne, gk, hw, q⟩ := q
  obtain rfl : v = Value.ref a := ry
  have sq : SqT X.K H1 a (gs.map fun p => V.ref p.2) ∨ SqL X.K H1 a (gs.map fun p => V.ref p.2) := by
    cases t with
    | true => exact .inl ga
    | false => exact .inr ga
  have hlen : gs.length ≤ sizeLine := by
    have := gK_small I1 ga
    rwa [List.length_map] at this
  have h0n : 0 < gs.length := List.length_pos_iff.mpr hne
  have hwz : w ≤ sizeLine := by
    cases gs with
    | nil => exact absurd rfl hne
    | cons p r =>
      obtain ⟨xs, r', rfl, g1, _⟩ := gk
      rw [← hw xs List.mem_cons_self]
      exact gK_small I1 g1
  refine StX.star_any I1 sq fun us s2 I2 rv => ?_
  obtain rfl := vals_refs rv
  obtain ⟨uss, e1, e2, _⟩ := gks_all I2 gk
  refine zip_begins_n (n := gs.length) rfl hlen e2 fun h' Z => PyProof.Rows.args_nil ?_
  have I3 : Inv X pins σ H1 { s2 with heap := h' } := I2.kept (t' := s2.toks) Z.kp
  refine zs_call (s := { s2 with heap := h' }) (I1.ok.hd calm) I3 (gks_low I2 gk) rfl h0n hlen (fun x hx => ?_) (by show _ ≤ h'.objs.size; rw [Z.sz]; exact Nat.le_refl _) Z.hz Z.hc Z.hd Z.hi gk hw hwz q
  have hle : s2.heap.objs.size ≤ x := (mem_chs.mp hx).1
  exact I2.fpOk hle (I2.hok.fresh hle)
end
/-! the mirror -/
/-- rows as lists of items -/
def rowsD : List PyData → Option (List (List PyData))
  | [] => some []
  | x :: r => match itemsOf x, rowsD r with
    | some ds, some dss => some (ds :: dss)
    | _, _ => none
/-- m columns from i on -/
def colsD (dss : List (List PyData)) : Nat → Nat → List PyData
  | 0, _ => []
  | m + 1, i => .tuple (dss.map fun ds => ds.getD i .none) :: colsD dss m (i + 1)
def cLzs (f : ME) : MD := fun ρ s => (f ρ s).bind fun x s => match itemsOf x with
  | some rs => (match rowsD rs with
    | some (ds :: dss) => if (dss.all fun es => es.length == ds.length) = true then .ok (colsD (ds :: dss) ds.length 0) s else .bad
    | _ => .bad)
  | none => .bad
section
variable {X : Cx} {XR : XRel} {E : XK} {a : Expr} {fa : ME} {p0 p sp pos0 pos : Pos}
theorem rows_gks {K : PySem.W.Frag} {Hi : Hp} : ∀ {rs : List PyData} {dss : List (List PyData)} {vs : List V}, rowsD rs = some dss → DqA K Hi rs vs → ∃ (gs : List (Bool × Addr)) (xss : List (List V)), vs = gs.map (fun p => V.ref p.2) ∧ (∀ H', Same Hi H' → GKs K H' gs xss) ∧ gs.length = dss.length ∧ xss.length = dss.length ∧
    ∀ (k : Nat) ds, dss[k]? = some ds → ∃ xs, xss[k]? = some xs ∧ DqA K Hi ds xs
  | [], _, _, h, g => by
    cases h
    cases (show _ = [] from g)
    exact ⟨[], [], rfl, fun _ _ => rfl, rfl, rfl, fun k ds e => by simp at e⟩
  | x :: r, dss, _, h, g => by
    obtain ⟨v, vs, rfl, g1, g2⟩ := g
    unfold rowsD at h
    cases hx : itemsOf x with
    | none => simp [hx] at h
    | some ds =>
      cases hr : rowsD r with
      | none => simp [hx, hr] at h
      | some dr =>
        simp only [hx, hr] at h
        cases h
        obtain ⟨gs, xss, e1, e2, e3, e4, e5⟩ := rows_gks hr g2
        obtain ⟨t, l, xs, rfl, dx, gx⟩ := items_gk g1 hx
        refine ⟨(t, l) :: gs, xs :: xss, by rw [e1]; rfl, fun H' sm => ⟨xs, xss, rfl, gx H' sm, e2 H' sm⟩, by rw [List.length_cons, List.length_cons, e3], by rw [List.length_cons, List.length_cons, e4], fun k es q => ?_⟩
        cases k with
        | zero =>
          cases q
          exact ⟨xs, rfl, dx⟩
        | succ k =>
          obtain ⟨ys, q1, q2⟩ := e5 k es (by simpa using q)
          exact ⟨ys, by simpa using q1, q2⟩
theorem colV_data {K : PySem.W.Frag} {Hi : Hp} {i : Nat} : ∀ {dss : List (List PyData)} {xss : List (List V)}, xss.length = dss.length → (∀ (k : Nat) ds, dss[k]? = some ds → ∃ xs, xss[k]? = some xs ∧ DqA K Hi ds xs) → (∀ ds ∈ dss, i < ds.length) →
    ∃ cs, ColV i xss cs ∧ DqA K Hi (dss.map fun ds => ds.getD i .none) cs
  | [], xss, hl, _, _ => by
    have : xss = [] := List.eq_nil_of_length_eq_zero hl
    subst this
    exact ⟨[], rfl, rfl⟩
  | ds :: dss, xss, hl, h, hi => by
    cases xss with
    | nil => simp at hl
    | cons xs xss =>
      obtain ⟨xs', q1, dx⟩ := h 0 ds rfl
      cases (show some xs = some xs' from q1)
      have lt := hi ds List.mem_cons_self
      obtain ⟨v, ev, dv⟩ := DqA.get dx (List.getElem?_eq_getElem lt)
      obtain ⟨cs, C, dc⟩ := colV_data (dss := dss) (xss := xss) (by simpa using hl) (fun k es q => by
        obtain ⟨ys, q1, q2⟩ := h (k + 1) es (by simpa using q)
        exact ⟨ys, by simpa using q1, q2⟩) fun es m => hi es (List.mem_cons_of_mem _ m)
      refine ⟨v :: cs, ⟨v, cs, rfl, ev, C⟩, v, cs, rfl, ?_, dc⟩
      show Dq K Hi (ds.getD i .none) v
      rw [List.getD_eq_getElem?_getD, List.getElem?_eq_getElem lt]
      exact dv
theorem zgN_ok {K : PySem.W.Frag} {A : List Addr} {H0 : Hp} {Q : VK} {s : Sto} {dss : List (List PyData)} {xss : List (List V)} {w : Nat} (hl : xss.length = dss.length) (hw : ∀ ds ∈ dss, ds.length = w) :
    ∀ (m i : Nat) (pre : List PyData) (acc : List V) (Hi H : Hp), i + m = w → (∀ (k : Nat) ds, dss[k]? = some ds → ∃ xs, xss[k]? = some xs ∧ DqA K Hi ds xs) → DqA K Hi pre acc → (∀ l, H l = none → H0 l = none) → RS K A Hi s H →
    PO K A Hi H XR E (RF K A H0) Q (.ok (pre ++ colsD dss m i) s) → zgN (fun acc H' => ∀ l, H' l = none → Q (.ref l) (upd H' l (.lst acc))) xss m i acc H := by
  intro m
  induction m with
  | zero =>
    intro i pre acc Hi H _ _ da th r h l hl'
    have h' : PO K A Hi H XR E (RF K A H0) Q (.ok (pre ++ []) s) := h
    rw [List.append_nil] at h'
    exact PO.out (R := RF K A H0) (x := pre) h' (Ext.fresh1 hl') (r.new1 hl') ⟨l, acc, rfl, upd_same, r.fresh hl', th l hl', r.notin hl', da⟩
  | succ m ih =>
    intro i pre acc Hi H em hx da th r h
    obtain ⟨cs, C, dc⟩ := colV_data (i := i) hl hx fun ds md => by rw [hw ds md]; omega
    refine ⟨cs, C, fun p hp => ?_⟩
    have hpi := r.fresh hp
    have sm : Same Hi (upd Hi p (.tup cs)) := same_upd hpi
    refine ih (i + 1) (pre ++ [.tuple (dss.map fun ds => ds.getD i .none)]) (acc ++ [.ref p]) (upd Hi p (.tup cs)) (upd H p (.tup cs)) (by omega) (fun k ds q => ?_) (DqA.append (DqA.mono sm _ _ da) ⟨.ref p, [], rfl, ?_, rfl⟩) (fun l hl => th l ?_) (r.new hp) ?_
    · obtain ⟨xs, q1, q2⟩ := hx k ds q
      exact ⟨xs, q1, DqA.mono sm _ _ q2⟩
    · exact ⟨p, _, rfl, SqT.of upd_same, DqA.mono sm _ _ dc⟩
    · by_cases e : l = p
      · rw [e]
        exact hp
      · rw [upd_ne e] at hl
        exact hl
    · have h2 := PO.back (Ext.fresh (o := .tup cs) hp hpi) h
      rw [List.append_assoc]
      exact h2
theorem sc_lzs (calm : X.calm = true) (hgl : Gl X "list") (hml : X.mg "list" = none) (hg : Gl X "zip") (hm : X.mg "zip" = none) (ha : SE X XR E a fa)
    (h0 : starEach [Expr.Call (.Name "zip" p) [.Starred a sp] [] pos] X.env = (false, eval (Expr.Call (.Name "zip" p) [.Starred a sp] [] pos) X.env) :: starEach [] X.env := by rfl)
    (hs : starEach [.Starred a sp] X.env = [(true, eval a X.env)] := by rfl) : SC X XR E (.Call (.Name "list" p0) [.Call (.Name "zip" p) [.Starred a sp] [] pos] [] pos0) (cLzs fa) := by
  obtain ⟨ta, pa, qa⟩ := ha
  refine ⟨_, pe_lzs calm hgl hml hg hm pa h0 hs, fun A Hi ρ s σ H r re Q h => ?_⟩
  refine qa A Hi ρ s σ H r re _ (PO.bind h fun x s1 v Hi1 H1 _ e1 r1 d h1 => ?_)
  cases hx : itemsOf x with
  | none =>
    rw [hx] at h1
    exact h1.elim
  | some rs =>
    cases hr : rowsD rs with
    | none =>
      simp only [hx, hr] at h1
      exact h1.elim
    | some dss =>
      cases dss with
      | nil =>
        simp only [hx, hr] at h1
        exact h1.elim
      | cons ds dss =>
        simp only [hx, hr] at h1
        split at h1
        · rename_i hall
          obtain ⟨t, l, vs, rfl, dx, gx⟩ := items_gk d hx
          obtain ⟨gs, xss, rfl, e2, e3, e4, e5⟩ := rows_gks hr dx
          have hw : ∀ es ∈ ds :: dss, es.length = ds.length := fun es m => by
            rcases List.mem_cons.mp m with rfl | m
            · rfl
            · simpa using List.all_eq_true.mp hall es m
          refine ⟨t, l, gs, xss, ds.length, rfl, gx H1 r1.sub, fun z => ?_, e2 H1 r1.sub, fun xs m => ?_, zgN_ok e4 hw ds.length 0 [] [] Hi1 H1 (Nat.zero_add _) e5 rfl (fun q hq => e1.there q hq) r1 h1⟩
          · rw [z] at e3
            simp at e3
          · obtain ⟨k, hk⟩ := List.getElem?_of_mem m
            have lt : k < (ds :: dss).length := by rw [← e4]; exact (List.getElem?_eq_some_iff.mp hk).1
            obtain ⟨xs', q1, q2⟩ := e5 k _ (List.getElem?_eq_getElem lt)
            rw [hk] at q1
            cases q1
            rw [q2.length]
            exact hw _ (List.getElem_mem lt)
        · exact h1.elim
end
end Mir

namespace Mir
open PySem PySem.Spec PyProof.Rows L2
variable [Tb]
/-! ### max(xs, default=n), min(xs, default=n) of ints -/
theorem reads_ints {h : Heap} : ∀ {ns : List Int} {us : List Value}, Vals (ns.map V.int) us → ∃ as, ReadsAll h us (ns.map PyData.int) as
  | [], _, r => by
    cases r
    exact ⟨[], .nil⟩
  | n :: ns, _, .cons a r => by
    obtain ⟨as, q⟩ := reads_ints (h := h) r
    obtain ⟨t, rfl⟩ := a
    exact ⟨_, .cons (.int n t) q⟩
theorem alike_ints (ns : List Int) : PySem.W.AlikeAll (ns.map PyData.int) := by
  refine ⟨fun x hx y hy => ?_, fun x hx => ?_⟩
  · obtain ⟨a, _, rfl⟩ := List.mem_map.mp hx
    obtain ⟨b, _, rfl⟩ := List.mem_map.mp hy
    rfl
  · obtain ⟨a, _, rfl⟩ := List.mem_map.mp hx
    intro z
    cases z
theorem depth_ints : ∀ ns : List Int, PyData.depthAll (ns.map PyData.int) = 0
  | [] => rfl
  | n :: ns => by
    show max (PyData.depth (.int n)) (PyData.depthAll (ns.map PyData.int)) = 0
    rw [depth_ints ns]
    rfl
def maxI (d : Int) : List Int → Int
  | [] => d
  | n :: ns => ns.foldl max n
def minI (d : Int) : List Int → Int
  | [] => d
  | n :: ns => ns.foldl min n
def mxR (K : PySem.W.Frag) (n : Int) : List V → Hp → VK → Prop := fun vs H Q => ∃ (a : Addr) (ns : List Int), vs = [.ref a] ∧ (SqT K H a (ns.map V.int) ∨ SqL K H a (ns.map V.int)) ∧ Q (.int (maxI n ns)) H
def mnR (K : PySem.W.Frag) (n : Int) : List V → Hp → VK → Prop := fun vs H Q => ∃ (a : Addr) (ns : List Int), vs = [.ref a] ∧ (SqT K H a (ns.map V.int) ∨ SqL K H a (ns.map V.int)) ∧ Q (.int (minI n ns)) H
section
variable {X : Cx} {XR : XRel} {E : XK} {e : Expr} {te : TE} {n : Int} {kd : Nat} {p pc kp pos : Pos}
theorem pe_maxD (hc : X.calm = true) (hu : X.A.units + 64 < cLine) (hg : Gl X "max") (hm : X.mg "max" = none) (he : PE X e te)
    (h1 : backTo pos (starEach [e] X.env) = (false, eval e X.env) :: backTo pos (starEach [] X.env) := by rfl) (h2 : starEach [e] X.env = (false, eval e X.env) :: starEach [] X.env := by rfl) (hpl : (backTo pos (starEach [e] X.env)).any (·.1) = false := by rfl)
    (hall : (backToKw pos (keywordEach [⟨some (Str.ofString "default"), .Constant (.int n) kd pc, kp⟩] X.env)).all (·.1.isSome) = true := by rfl) (hnone : (backToKw pos (keywordEach [⟨some (Str.ofString "default"), .Constant (.int n) kd pc, kp⟩] X.env)).any (·.1.isNone) = false := by rfl)
    (hks : (backToKw pos (keywordEach [⟨some (Str.ofString "default"), .Constant (.int n) kd pc, kp⟩] X.env)).filterMap (·.1) = [Str.ofString "default"] := by rfl) :
    PE X (.Call (.Name "max" p) [e] [⟨some (Str.ofString "default"), .Constant (.int n) kd pc, kp⟩] pos) (tCB (mxR X.K n) (tCons te tNil)) := by
  refine ⟨fun pins s σ H Q I h => ?_⟩
  refine wpAny_Call_Name_kw (ld_blt I hg hm (u := .builtin "max") (by first | rfl | decide) ?_ (by decide) (by decide))
  refine PyProof.Rows.callWith_kw (thn ((pa_cons he pa_nil h2).run pos pins s σ H _ I h) fun us s1 ⟨vs, H1, I1, r1, q1⟩ => ?_) h1 hpl hall hnone
  rw [hks]
  obtain ⟨a, ns, rfl, hq, q⟩ := q1
  obtain ⟨u, rfl, ru⟩ := vals1 r1
  obtain rfl : u = Value.ref a := ru
  refine kws_cons (wpAny_Constant_int (kws_nil ?_))
  have I2 := I1.tok (s1.toks + 1)
  have hd : X.A.units + 1 + PyData.depthAll (ns.map PyData.int) < cLine := by
    rw [depth_ints]
    omega
  have f0 : ∀ h' tk, ns.map PyData.int = [] → (∀ b o, s1.heap.get? b = some o → h'.get? b = some o) → EP X pins σ Q (.int n s1.toks) { s1 with heap := h', toks := tk } := fun h' tk ez kp => by
    have en : ns = [] := List.map_eq_nil_iff.mp ez
    subst en
    exact ⟨.int n, H1, I2.kept (t' := tk) kp, ⟨_, rfl⟩, q⟩
  have f1 : ∀ (y : PyData) (ys : List PyData) (v : Value) h' tk bs, ns.map PyData.int = y :: ys → Reads h' v (PySem.W.maxD y ys) bs → (∀ b o, s1.heap.get? b = some o → h'.get? b = some o) → EP X pins σ Q v { s1 with heap := h', toks := tk } := fun y ys v h' tk bs ez rd kp => by
    cases ns with
    | nil => cases ez
    | cons m ms =>
      cases ez
      rw [PySem.W.maxD_ints] at rd
      cases rd
      exact ⟨.int _, H1, I2.kept (t' := tk) kp, ⟨_, rfl⟩, q⟩
  rcases hq with hq | hq
  · obtain ⟨its, rv, hl, hz⟩ := I2.tuple hq
    obtain ⟨as, hr⟩ := reads_ints (h := s1.heap) rv
    exact PySem.W.max_tuple_default (I1.ok.hd hc) hl (by simpa using hr) (alike_ints ns) hd (fun ez h' tk kp => f0 h' tk ez kp) fun y ys i v h' tk bs ez _ rd kp => f1 y ys v h' tk bs ez rd kp
  · obtain ⟨its, rv, hl, hz⟩ := I2.list hq
    obtain ⟨as, hr⟩ := reads_ints (h := s1.heap) rv
    exact PySem.W.max_list_default (I1.ok.hd hc) hl.isList (by simpa using hr) (alike_ints ns) hd (fun ez h' tk kp => f0 h' tk ez kp) fun y ys i v h' tk bs ez _ rd kp => f1 y ys v h' tk bs ez rd kp
theorem pe_minD (hc : X.calm = true) (hu : X.A.units + 64 < cLine) (hg : Gl X "min") (hm : X.mg "min" = none) (he : PE X e te)
    (h1 : backTo pos (starEach [e] X.env) = (false, eval e X.env) :: backTo pos (starEach [] X.env) := by rfl) (h2 : starEach [e] X.env = (false, eval e X.env) :: starEach [] X.env := by rfl) (hpl : (backTo pos (starEach [e] X.env)).any (·.1) = false := by rfl)
    (hall : (backToKw pos (keywordEach [⟨some (Str.ofString "default"), .Constant (.int n) kd pc, kp⟩] X.env)).all (·.1.isSome) = true := by rfl) (hnone : (backToKw pos (keywordEach [⟨some (Str.ofString "default"), .Constant (.int n) kd pc, kp⟩] X.env)).any (·.1.isNone) = false := by rfl)
    (hks : (backToKw pos (keywordEach [⟨some (Str.ofString "default"), .Constant (.int n) kd pc, kp⟩] X.env)).filterMap (·.1) = [Str.ofString "default"] := by rfl) :
    PE X (.Call (.Name "min" p) [e] [⟨some (Str.ofString "default"), .Constant (.int n) kd pc, kp⟩] pos) (tCB (mnR X.K n) (tCons te tNil)) := by
  refine ⟨fun pins s σ H Q I h => ?_⟩
  refine wpAny_Call_Name_kw (ld_blt I hg hm (u := .builtin "min") (by first | rfl | decide) ?_ (by decide) (by decide))
  refine PyProof.Rows.callWith_kw (thn ((pa_cons he pa_nil h2).run pos pins s σ H _ I h) fun us s1 ⟨vs, H1, I1, r1, q1⟩ => ?_) h1 hpl hall hnone
  rw [hks]
  obtain ⟨a, ns, rfl, hq, q⟩ := q1
  obtain ⟨u, rfl, ru⟩ := vals1 r1
  obtain rfl : u = Value.ref a := ru
  refine kws_cons (wpAny_Constant_int (kws_nil ?_))
  have I2 := I1.tok (s1.toks + 1)
  have hd : X.A.units + 1 + PyData.depthAll (ns.map PyData.int) < cLine := by
    rw [depth_ints]
    omega
  have f0 : ∀ h' tk, ns.map PyData.int = [] → (∀ b o, s1.heap.get? b = some o → h'.get? b = some o) → EP X pins σ Q (.int n s1.toks) { s1 with heap := h', toks := tk } := fun h' tk ez kp => by
    have en : ns = [] := List.map_eq_nil_iff.mp ez
    subst en
    exact ⟨.int n, H1, I2.kept (t' := tk) kp, ⟨_, rfl⟩, q⟩
  have f1 : ∀ (y : PyData) (ys : List PyData) (v : Value) h' tk bs, ns.map PyData.int = y :: ys → Reads h' v (PySem.W.minD y ys) bs → (∀ b o, s1.heap.get? b = some o → h'.get? b = some o) → EP X pins σ Q v { s1 with heap := h', toks := tk } := fun y ys v h' tk bs ez rd kp => by
    cases ns with
    | nil => cases ez
    | cons m ms =>
      cases ez
      rw [PySem.W.minD_ints] at rd
      cases rd
      exact ⟨.int _, H1, I2.kept (t' := tk) kp, ⟨_, rfl⟩, q⟩
  rcases hq with hq | hq
  · obtain ⟨its, rv, hl, hz⟩ := I2.tuple hq
    obtain ⟨as, hr⟩ := reads_ints (h := s1.heap) rv
    exact PySem.W.min_tuple_default (I1.ok.hd hc) hl (by simpa using hr) (alike_ints ns) hd (fun ez h' tk kp => f0 h' tk ez kp) fun y ys i v h' tk bs ez _ rd kp => f1 y ys v h' tk bs ez rd kp
  · obtain ⟨its, rv, hl, hz⟩ := I2.list hq
    obtain ⟨as, hr⟩ := reads_ints (h := s1.heap) rv
    exact PySem.W.min_list_default (I1.ok.hd hc) hl.isList (by simpa using hr) (alike_ints ns) hd (fun ez h' tk kp => f0 h' tk ez kp) fun y ys i v h' tk bs ez _ rd kp => f1 y ys v h' tk bs ez rd kp
/-! the mirror -/
def gIntsA (f : List Int → PyData) (b : Sl) (s : Sto) : Out PyData := match seqOf b s with
  | some (_, ds) => (match intsOf ds with
    | some ns => .ok (f ns) s
    | none => .bad)
  | none => .bad
variable {a : Expr} {fl : ML}
theorem se_maxD (hc : X.calm = true) (hu : X.A.units + 64 < cLine) (hg : Gl X "max") (hm : X.mg "max" = none) (ha : SL X XR E a fl)
    (h1 : backTo pos (starEach [a] X.env) = (false, eval a X.env) :: backTo pos (starEach [] X.env) := by rfl) (h2 : starEach [a] X.env = (false, eval a X.env) :: starEach [] X.env := by rfl) (hpl : (backTo pos (starEach [a] X.env)).any (·.1) = false := by rfl)
    (hall : (backToKw pos (keywordEach [⟨some (Str.ofString "default"), .Constant (.int n) kd pc, kp⟩] X.env)).all (·.1.isSome) = true := by rfl) (hnone : (backToKw pos (keywordEach [⟨some (Str.ofString "default"), .Constant (.int n) kd pc, kp⟩] X.env)).any (·.1.isNone) = false := by rfl)
    (hks : (backToKw pos (keywordEach [⟨some (Str.ofString "default"), .Constant (.int n) kd pc, kp⟩] X.env)).filterMap (·.1) = [Str.ofString "default"] := by rfl) :
    SE X XR E (.Call (.Name "max" p) [a] [⟨some (Str.ofString "default"), .Constant (.int n) kd pc, kp⟩] pos) (eSl (gIntsA fun ns => .int (maxI n ns)) fl) :=
  se_sl (fun ta q => pe_maxD hc hu hg hm q h1 h2 hpl hall hnone hks) (fun A Hi s H b v Q r d h => by
    unfold gIntsA at h
    split at h
    · rename_i t ds hq
      split at h
      · rename_i ns hn
        obtain ⟨l, xs, rfl, h3, h4⟩ := seq_rel r d hq
        rw [intsOf_rel h3 hn] at h4
        refine ⟨l, ns, rfl, ?_, h.use r rfl⟩
        rcases h4 with ⟨_, h4⟩ | ⟨_, h4⟩
        · exact .inl h4
        · exact .inr h4
      · exact h.elim
    · exact h.elim) ha
theorem se_minD (hc : X.calm = true) (hu : X.A.units + 64 < cLine) (hg : Gl X "min") (hm : X.mg "min" = none) (ha : SL X XR E a fl)
    (h1 : backTo pos (starEach [a] X.env) = (false, eval a X.env) :: backTo pos (starEach [] X.env) := by rfl) (h2 : starEach [a] X.env = (false, eval a X.env) :: starEach [] X.env := by rfl) (hpl : (backTo pos (starEach [a] X.env)).any (·.1) = false := by rfl)
    (hall : (backToKw pos (keywordEach [⟨some (Str.ofString "default"), .Constant (.int n) kd pc, kp⟩] X.env)).all (·.1.isSome) = true := by rfl) (hnone : (backToKw pos (keywordEach [⟨some (Str.ofString "default"), .Constant (.int n) kd pc, kp⟩] X.env)).any (·.1.isNone) = false := by rfl)
    (hks : (backToKw pos (keywordEach [⟨some (Str.ofString "default"), .Constant (.int n) kd pc, kp⟩] X.env)).filterMap (·.1) = [Str.ofString "default"] := by rfl) :
    SE X XR E (.Call (.Name "min" p) [a] [⟨some (Str.ofString "default"), .Constant (.int n) kd pc, kp⟩] pos) (eSl (gIntsA fun ns => .int (minI n ns)) fl) :=
  se_sl (fun ta q => pe_minD hc hu hg hm q h1 h2 hpl hall hnone hks) (fun A Hi s H b v Q r d h => by
    unfold gIntsA at h
    split at h
    · rename_i t ds hq
      split at h
      · rename_i ns hn
        obtain ⟨l, xs, rfl, h3, h4⟩ := seq_rel r d hq
        rw [intsOf_rel h3 hn] at h4
        refine ⟨l, ns, rfl, ?_, h.use r rfl⟩
        rcases h4 with ⟨_, h4⟩ | ⟨_, h4⟩
        · exact .inl h4
        · exact .inr h4
      · exact h.elim
    · exact h.elim) ha
end
end Mir
namespace Mir
open PySem PySem.Spec PyProof.Rows L2
variable [Tb]
/-! ### a list display times an int -/
def gMulL : PyData → PyData → Sto → Out PyData := fun x y s => match x, y with
  | .list ds, .int k => if 0 ≤ k ∧ k ≤ 1000 ∧ ds.length ≤ 1000 then .ok (.list (List.replicate k.toNat ds).flatten) s else .bad
  | _, _ => .bad
section
variable {X : Cx} {XR : XRel} {E : XK} {a b : Expr} {fa fb : ME} {pos : Pos}
theorem gb_mulL : GB X XR E L2.rRep gMulL := by
  intro A Hi s H x y v w Q r dx dy h
  unfold gMulL at h
  split at h
  · rename_i ds k
    obtain ⟨l, xs, rfl, h1, h2⟩ := dx
    cases (show w = _ from dy)
    split at h
    · rename_i hc
      have hk : k.toNat ≤ 1000 := by omega
      have hm : ds.length * k.toNat ≤ 1000 * 1000 := Nat.mul_le_mul hc.2.2 hk
      refine ⟨l, k, xs, rfl, rfl, r.sub _ _ h1, by omega, by omega, by rw [h2.length, sizeLine_eq]; omega, fun p hp => ?_⟩
      exact h.out (Ext.fresh hp (r.fresh hp)) (r.new hp) ⟨p, _, rfl, upd_same, DqA.mono (same_upd (r.fresh hp)) _ _ (dqa_rep h2 _)⟩
    · exact h.elim
  · exact h.elim
theorem se_mulL (ha : SE X XR E a fa) (hb : SE X XR E b fb) : SE X XR E (.BinOp a .Mult b pos) (eBin gMulL fa fb) := se_bin (fun _ _ p q => pe_op op_rep p q) gb_mulL ha hb
end
end Mir

namespace Mir
open PySem PySem.Spec PyProof.Rows L2
set_option linter.all false
variable [Tb]
/-! ### further forms: break, continue, +=, insert, reversed(range), gcd, lists as tests -/
section
variable {X : Cx} {XR : XRel} {E : XK} {a b e : Expr} {fa fb : ME} {fl : ML} {pos p : Pos} {tg : Expr}
def mBrk : MS := fun ρ s => .bk ρ s
def mCnt : MS := fun ρ s => .ct ρ s
theorem ss_brk : SS X XR E (.Break pos) mBrk := ⟨_, ps_break, fun A Hi ρ s σ H r re D h => h A Hi σ H .refl r re⟩
theorem ss_cnt : SS X XR E (.Continue pos) mCnt := ⟨_, ps_continue, fun A Hi ρ s σ H r re D h => h A Hi σ H .refl r re⟩
/-- anything that is never come to -/
def eNever : ME := fun _ _ => .bad
def mNevr : MS := fun _ _ => .bad
/-! x op= e, whole numbers -/
def mAug (i : Nat) (g : Int → Int → Int) (fb : ME) : MS := fun ρ s => match ρ[i]? with
  | some (some (.d (.int x))) => toFl (fb ρ s) fun y s => (match y with
    | .int j => .nx (ρ.set i (some (.d (.int (g x j))))) s
    | _ => .bad)
  | _ => .bad
theorem ss_aug (i : Nat) {g : Int → Int → Int} {x : Str} {pos' : Pos} {op : Operator} (hN : X.N.Nodup) (hi : X.N[i]? = some x) (hx : Loc X.env.scope x) (he : SE X XR E e fb) (ho : PIp X op (ipI g))
    (hf : ∀ te, PE X e te → PS X (.AugAssign (.Name x pos') op e pos) (tAug i te (ipI g))) : SS X XR E (.AugAssign (.Name x pos') op e pos) (mAug i g fb) := by
  obtain ⟨t, pe, qe⟩ := he
  refine ⟨_, hf t pe, fun A Hi ρ s σ H r re D h => ?_⟩
  unfold mAug at h
  split at h
  · rename_i k hk
    obtain ⟨v, hv, rfl⟩ := re.2 i _ hk
    refine ⟨.int k, hv, qe A Hi ρ s σ H r re _ (PF.bind h fun y s1 w Hi1 H1 _ e1 r1 d1 h1 => ?_)⟩
    split at h1
    · rename_i j _
      cases (show w = _ from d1)
      exact ⟨k, j, rfl, rfl, h1 A Hi1 _ H1 .refl r1 (RE.set (re.mono e1.same pfx) (x := .d (.int (g k j))) rfl)⟩
    · exact h1.elim
  · exact h.elim
/-! reversed(range(n)) -/
def iRv1 (fa : ME) : MD := fun ρ s => (fa ρ s).bind fun x s => match x with
  | .int j => if -(2 ^ 62) ≤ j ∧ j < 2 ^ 62 then .ok ((List.range j.toNat).map fun i => .int ((j.toNat : Int) - 1 - (i : Nat))) s else .bad
  | _ => .bad
theorem iok_rev {K : PySem.W.Frag} {Hi : Hp} {n : Nat} : IOk K Hi (Itc (0 + ((((n : Int) - 0).toNat : Nat) : Int) - 1) (-1) ((n : Int) - 0).toNat) ((List.range n).map fun i => .int ((n : Int) - 1 - (i : Nat))) := fun A' Hi' s' H' sm r' i => by
  have hn : ((n : Int) - 0).toNat = n := by omega
  rw [hn]
  refine ⟨fun d hd => ?_, fun hl => ?_⟩
  · have hi : i < n := by
      have := (List.getElem?_eq_some_iff.mp hd).1
      simpa using this
    rw [List.getElem?_map, List.getElem?_range hi] at hd
    cases hd
    refine ⟨hi, fun x H'' y => ?_⟩
    obtain ⟨e1, e2⟩ := y
    subst e1 e2
    refine ⟨Hi', .refl, r', ?_⟩
    show V.int _ = V.int _
    congr 1
    omega
  · have : i = n := by simpa using hl
    exact Nat.le_of_eq this.symm
theorem si_rev1 {p2 pos2 : Pos} (hg : Gl X "range") (hm : X.mg "range" = none) (hgr : Gl X "reversed") (hmr : X.mg "reversed" = none) (ha : SE X XR E a fa)
    (hp : ∀ ta, PE X a ta → PI X tg (.Call (.Name "reversed" p2) [.Call (.Name "range" p) [a] [] pos] [] pos2) (iRevR (tRg1 ta))) :
    SI X XR E tg (.Call (.Name "reversed" p2) [.Call (.Name "range" p) [a] [] pos] [] pos2) (iRv1 fa) := by
  obtain ⟨t, q, qq⟩ := ha
  refine ⟨_, hp t q, fun A Hi ρ s σ H r re R h => ?_⟩
  show tRg1 t σ H _
  refine qq A Hi ρ s σ H r re _ (PO.bind h fun x s1 v Hi1 H1 _ e1 r1 d h1 => ?_)
  split at h1
  · rename_i j _
    cases (show v = _ from d)
    split at h1
    · rename_i c
      by_cases hj : 0 ≤ j
      · obtain ⟨n, rfl⟩ := Int.eq_ofNat_of_zero_le hj
        exact ⟨_, rfl, by omega, by omega, c.1, c.2, PO.use (R := fun Hi' _ ds J => IOk X.K Hi' J ds) h1 r1 (iok_rev (n := n))⟩
      · have hz : j.toNat = 0 := by omega
        have hz2 : (j - 0).toNat = 0 := by omega
        rw [hz] at h1
        refine ⟨_, rfl, by omega, by omega, c.1, c.2, PO.use (R := fun Hi' _ ds J => IOk X.K Hi' J ds) h1 r1 ?_⟩
        rw [hz2]
        intro A' Hi' s' H' sm r' i
        refine ⟨fun dd hd => by simp at hd, fun hl => ?_⟩
        show 0 ≤ i
        omega
    · exact h1.elim
  · exact h1.elim
/-! gcd -/
def gGcd : PyData → PyData → Sto → Out PyData := fun x y s => match x, y with
  | .int i, .int j => .ok (.int ((Nat.gcd i.natAbs j.natAbs : Nat) : Int)) s
  | _, _ => .bad
theorem se_gcd {x : Str} (hg : Gl X x) (hm : X.mg x = some (.builtin "math.gcd")) (ha : SE X XR E a fa) (hb : SE X XR E b fb) (hdb : (x == ("__debug__" : Str)) = false := by decide)
    (h1 : starEach [a, b] X.env = (false, eval a X.env) :: starEach [b] X.env := by rfl) (h2 : starEach [b] X.env = (false, eval b X.env) :: starEach [] X.env := by rfl) (hpl : (backTo pos (starEach [b] X.env)).any (·.1) = false := by rfl) :
    SE X XR E (.Call (.Name x p) [a, b] [] pos) (eBin gGcd fa fb) := by
  obtain ⟨ta, pa, qa⟩ := ha
  obtain ⟨tb, pb, qb⟩ := hb
  refine ⟨_, pe_callBfun cr_gcd hg hm (pa_cons pa (pa_cons pb pa_nil h2) h1) hdb h1 hpl, fun A Hi ρ s σ H r re Q h => ?_⟩
  refine qa A Hi ρ s σ H r re _ (PO.bind h fun x s1 v Hi1 H1 _ e1 r1 d h1 => ?_)
  refine qb A Hi1 ρ s1 σ H1 r1 (re.mono e1.same pfx) _ (PO.bind h1 fun y s2 w Hi2 H2 _ e2 r2 d2 h2 => ?_)
  unfold gGcd at h2
  split at h2
  · cases (show v = _ from d)
    cases (show w = _ from d2)
    exact ⟨_, _, rfl, h2.use r2 rfl⟩
  · exact h2.elim
/-! if xs: -/
def truD : PyData → Option Bool
  | .none => some false
  | .bool b => some b
  | .int i => some (i != 0)
  | .list ds => some (!ds.isEmpty)
  | .tuple ds => some (!ds.isEmpty)
  | _ => none
def truS (b : Sl) (s : Sto) : Option Bool := match b with
  | .d x => truD x
  | .c n => (s[n]?).map fun ds => !ds.isEmpty
  | _ => none
def mTru (fl : ML) : MT := fun ρ s => (fl ρ s).bind fun b s => match truS b s with
  | some k => .ok k s
  | none => .bad
theorem empty_len {α β : Type} {xs : List α} {ys : List β} (h : xs.length = ys.length) : xs.isEmpty = ys.isEmpty := by
  cases xs <;> cases ys <;> first | rfl | cases h
theorem st_tru (ha : SL X XR E a fl) (he : ∀ whole, isTrue a X.env whole = (do let v ← whole; standAt a.pos; holding [v] (truthy v)) := by intro _; rfl) : ST X XR E a (mTru fl) := by
  obtain ⟨t, pa, qa⟩ := ha
  refine ⟨_, pt_truth pa he, fun A Hi ρ s σ H r re Q h => qa A Hi ρ s σ H r re _ (PO.bind h fun b s1 v Hi1 H1 _ e1 r1 d h1 => ?_)⟩
  cases hk : truS b s1 with
  | none => rw [hk] at h1; exact h1.elim
  | some k =>
    rw [hk] at h1
    refine ⟨k, ?_, h1.use r1 rfl⟩
    cases b with
    | d x =>
      cases x with
      | none =>
        cases (show v = _ from d)
        cases hk
        rfl
      | bool z =>
        cases (show v = _ from d)
        cases hk
        rfl
      | int i =>
        cases (show v = _ from d)
        cases hk
        rfl
      | list ds =>
        cases hk
        obtain ⟨l, xs, rfl, h2, h3⟩ := d
        exact .inl ⟨xs, SqL.of (r1.sub _ _ h2), by rw [empty_len h3.length]⟩
      | tuple ds =>
        cases hk
        obtain ⟨l, xs, rfl, h2, h3⟩ := d
        exact .inr (.inl ⟨xs, sqt_mono r1.sub h2, by rw [empty_len h3.length]⟩)
      | str _ => cases hk
      | dict _ => cases hk
    | c n =>
      obtain ⟨l, hl, rfl⟩ := d
      cases hs : s1[n]? with
      | none => simp [truS, hs] at hk
      | some ds =>
        have hk' : (!ds.isEmpty) = k := by simpa [truS, hs] using hk
        obtain ⟨xs, h4, h5⟩ := r1.cel n l ds hl hs
        exact .inl ⟨xs, SqL.of h4, by rw [← hk', empty_len h5.length]⟩
    | s _ => cases hk
    | f _ => cases hk
    | t _ => cases hk
end
end Mir

namespace Mir
open PySem PySem.Spec PyProof.Rows L2
set_option linter.all false
variable [Tb]
/-! ### comprehensions with two for -/
def compL2 (tg : MG) (m : MT) (it1 : MD) (tg1 : MG) (m1 : MT) (fe : ME) (vs1 : List Nat) (ρ : Env) : List PyData → Sto → Out (List PyData)
  | [], s => .ok [] s
  | d :: ds, s => match tg d ρ with
    | none => .bad
    | some ρ1 => (m ρ1 s).bind fun b s => if b = true then ((it1 ρ1 s).bind fun es s => (compL tg1 m1 fe (wipeE ρ1 vs1) es s).bind fun r s => (compL2 tg m it1 tg1 m1 fe vs1 ρ ds s).bind fun r2 s => .ok (r ++ r2) s) else compL2 tg m it1 tg1 m1 fe vs1 ρ ds s
def cComp2 (it : MD) (tg : MG) (m : MT) (it1 : MD) (tg1 : MG) (m1 : MT) (fe : ME) (own vs1 : List Nat) : MD := fun ρ s => (it ρ s).bind fun ds s => match compL2 tg m it1 tg1 m1 fe vs1 (wipeE ρ own) ds s with
  | .ok r s => if r.length ≤ 100000 then .ok r s else .bad
  | _ => .bad
theorem Out.bind_some {α β : Type} {o : Out α} {k : α → Sto → Out β} {y : β} {s : Sto} (h : o.bind k = .ok y s) : ∃ x s1, o = .ok x s1 ∧ k x s1 = .ok y s := by
  cases o with
  | ok x s1 => exact ⟨x, s1, rfl, h⟩
  | exc x s1 => cases h
  | bad => cases h
section
variable {X : Cx} {XR : XRel} {E : XK}
theorem comp2_ok {wi wi1 : TI} {gt gt1 : TG} {tt tt1 : TT} {te : TE} {own vs1 : List Nat} {it it1 : MD} {f f1 : MG} {ix ix1 : List Nat} {m m1 : MT} {fe : ME} {A : List Addr} {Hi H : Hp} {ρ : Env} {s : Sto} {σ : L2.St} {Q : VK}
    (qi : ∀ A Hi ρ s σ H, RS X.K A Hi s H → RE X.K A Hi ρ σ → ∀ R : It → Hp → Prop, PO X.K A Hi H XR E (fun Hi' _ ds J => IOk X.K Hi' J ds) R (it ρ s) → wi σ H R) (qg : TGOk X gt f ix) (hix : ∀ i ∈ ix, i ∈ own)
    (qt : ∀ A Hi ρ s σ H, RS X.K A Hi s H → RE X.K A Hi ρ σ → ∀ Q : Bool → Hp → Prop, PO X.K A Hi H XR E RB Q (m ρ s) → tt σ H Q)
    (qi1 : ∀ A Hi ρ s σ H, RS X.K A Hi s H → RE X.K A Hi ρ σ → ∀ R : It → Hp → Prop, PO X.K A Hi H XR E (fun Hi' _ ds J => IOk X.K Hi' J ds) R (it1 ρ s) → wi1 σ H R) (qg1 : TGOk X gt1 f1 ix1) (hix1 : ∀ i ∈ ix1, i ∈ vs1)
    (qt1 : ∀ A Hi ρ s σ H, RS X.K A Hi s H → RE X.K A Hi ρ σ → ∀ Q : Bool → Hp → Prop, PO X.K A Hi H XR E RB Q (m1 ρ s) → tt1 σ H Q) (qe : ∀ A Hi ρ s σ H, RS X.K A Hi s H → RE X.K A Hi ρ σ → ∀ Q : VK, PO X.K A Hi H XR E (RD X.K) Q (fe ρ s) → te σ H Q)
    (r : RS X.K A Hi s H) (re : RE X.K A Hi ρ σ) (h : PO X.K A Hi H XR E (RF X.K A H) Q (cComp2 it f m it1 f1 m1 fe own vs1 ρ s)) : tLc2 wi gt tt wi1 gt1 tt1 te own vs1 σ H Q := by
  refine qi A Hi ρ s σ H r re _ (PO.bindB .refl h fun ds s1 J Hi1 H1 _ e1 r1 hJ h1 => ?_)
  intro C hC
  have hC0 : H C = none := e1.there C hC
  have hCA : C ∉ A := r1.notin hC
  split at h1
  · rename_i R sf hq
    split at h1
    · rename_i hlen
      have reW := RE.wipe (re.mono e1.same pfx) own
      refine ⟨fun i k H' => ∃ Hi' s' acc accD r, Ext A Hi H Hi' H' ∧ Same Hi1 Hi' ∧ RS X.K A Hi' s' H' ∧ H' C = some (.lst acc) ∧ Hi' C = none ∧ DqA X.K Hi' accD acc ∧ k = ds.length - i ∧ i ≤ ds.length ∧
          compL2 f m it1 f1 m1 fe vs1 (wipeE ρ own) (ds.drop i) s' = .ok r sf ∧ accD ++ r = R, ⟨_, Hi1, s1, [], [], R, e1.trans (Ext.fresh1 hC), Same.refl _, r1.new1 hC, upd_same, r1.fresh hC, rfl, rfl, Nat.zero_le _, by rw [List.drop_zero]; exact hq, rfl⟩, ?_⟩
      rintro i k H' ⟨Hi', s', acc, accD, rr, ex, sm, r', hc, hn, da, rfl, hi, hcl, hR⟩
      by_cases hl : i < ds.length
      · obtain ⟨go, yl⟩ := (hJ A Hi' s' H' sm r' i).1 ds[i] (List.getElem?_eq_getElem hl)
        rw [List.drop_eq_getElem_cons hl] at hcl
        refine .inr ⟨go, fun H' => ∃ Hi' s' acc accD r, Ext A Hi H Hi' H' ∧ Same Hi1 Hi' ∧ RS X.K A Hi' s' H' ∧ H' C = some (.lst acc) ∧ Hi' C = none ∧ DqA X.K Hi' accD acc ∧
          compL2 f m it1 f1 m1 fe vs1 (wipeE ρ own) (ds.drop (i + 1)) s' = .ok r sf ∧ accD ++ r = R, ?_, ?_⟩
        · rintro H2 ⟨Hi2, s2, acc2, accD2, r2, a1, a2, a3, a4, a5, a6, a7, a8⟩
          exact ⟨_, by omega, Hi2, s2, acc2, accD2, r2, a1, a2, a3, a4, a5, a6, rfl, hl, a7, a8⟩
        · intro x H'' y
          obtain ⟨Hi'', e2, r2, d2⟩ := yl x H'' y
          unfold compL2 at hcl
          cases hf : f ds[i] (wipeE ρ own) with
          | none => simp only [hf] at hcl; cases hcl
          | some ρ1 =>
            simp only [hf] at hcl
            obtain ⟨b, s2, hm, hcl⟩ := Out.bind_some hcl
            refine qg.run A Hi'' (wipeE ρ own) s' (L2.wipe σ own) H'' ds[i] x r2 (reW.mono (sm.trans e2.same) pfx) d2 ρ1 hf _ fun σ1 re1 hw => ⟨by rw [hw own hix, wipe_wipe], ?_⟩
            have ex2 := ex.trans e2
            have hc2 : H'' C = some (.lst acc) := e2.keep C _ hCA (by intro _ z; cases z) hc
            have hn2 : Hi'' C = none := e2.new C hn (by rw [hc]; intro z; cases z)
            refine qt A Hi'' ρ1 s' σ1 H'' r2 re1 _ ?_
            rw [hm]
            intro b' Hi3 H3 e3 r3 d3
            cases d3
            have ex3 := ex2.trans e3
            have hc3 : H3 C = some (.lst acc) := e3.keep C _ hCA (by intro _ z; cases z) hc2
            have hn3 : Hi3 C = none := e3.new C hn2 (by rw [hc2]; intro z; cases z)
            have sm3 := sm.trans (e2.same.trans e3.same)
            have da3 := DqA.mono (e2.same.trans e3.same) _ _ da
            cases b with
            | false =>
              rw [if_neg Bool.false_ne_true] at hcl
              exact iteF ⟨Hi3, s2, acc, accD, rr, ex3, sm3, r3, hc3, hn3, da3, hcl, hR⟩
            | true =>
              rw [if_pos rfl] at hcl
              obtain ⟨es, s3, hit1, hcl⟩ := Out.bind_some hcl
              obtain ⟨q1, s4, hc1, hcl⟩ := Out.bind_some hcl
              obtain ⟨q2, s5, hc4, hcl⟩ := Out.bind_some hcl
              cases hcl
              refine iteT (qi1 A Hi3 ρ1 s2 σ1 H3 r3 (re1.mono e3.same pfx) _ ?_)
              rw [hit1]
              intro J1 Hi4 H4 e4 r4 hJ1
              have ex4 := ex3.trans e4
              have hc5 : H4 C = some (.lst acc) := e4.keep C _ hCA (by intro _ z; cases z) hc3
              have hn5 : Hi4 C = none := e4.new C hn3 (by rw [hc3]; intro z; cases z)
              have re4 := RE.wipe ((re1.mono e3.same pfx).mono e4.same pfx) vs1
              have sm4 := sm3.trans e4.same
              refine ⟨fun j k H' => ∃ Hi' s' acc accD r1 s6 r2, Ext A Hi H Hi' H' ∧ Same Hi4 Hi' ∧ RS X.K A Hi' s' H' ∧ H' C = some (.lst acc) ∧ Hi' C = none ∧ DqA X.K Hi' accD acc ∧ k = es.length - j ∧ j ≤ es.length ∧
                compL f1 m1 fe (wipeE ρ1 vs1) (es.drop j) s' = .ok r1 s6 ∧ compL2 f m it1 f1 m1 fe vs1 (wipeE ρ own) (ds.drop (i + 1)) s6 = .ok r2 sf ∧ accD ++ (r1 ++ r2) = R, ⟨_, Hi4, s3, acc, accD, q1, s4, q2, ex4, Same.refl _, r4, hc5, hn5, DqA.mono e4.same _ _ da3, rfl, Nat.zero_le _, by rw [List.drop_zero]; exact hc1, hc4, hR⟩, ?_⟩
              rintro j k2 H5 ⟨Hi5, s7, acc5, accD5, t1, s6, t2, ex5, sm5, r5, hc6, hn6, da5, rfl, hj, hcj, hco, hR5⟩
              by_cases hl1 : j < es.length
              · obtain ⟨go1, yl1⟩ := (hJ1 A Hi5 s7 H5 sm5 r5 j).1 es[j] (List.getElem?_eq_getElem hl1)
                rw [List.drop_eq_getElem_cons hl1] at hcj
                refine .inr ⟨go1, fun H' => ∃ Hi' s' acc accD r1 s6 r2, Ext A Hi H Hi' H' ∧ Same Hi4 Hi' ∧ RS X.K A Hi' s' H' ∧ H' C = some (.lst acc) ∧ Hi' C = none ∧ DqA X.K Hi' accD acc ∧
                  compL f1 m1 fe (wipeE ρ1 vs1) (es.drop (j + 1)) s' = .ok r1 s6 ∧ compL2 f m it1 f1 m1 fe vs1 (wipeE ρ own) (ds.drop (i + 1)) s6 = .ok r2 sf ∧ accD ++ (r1 ++ r2) = R, ?_, ?_⟩
                · rintro H2 ⟨Hi2, s8, acc2, accD2, u1, s9, u2, a1, a2, a3, a4, a5, a6, a7, a8, a9⟩
                  exact ⟨_, by omega, Hi2, s8, acc2, accD2, u1, s9, u2, a1, a2, a3, a4, a5, a6, rfl, hl1, a7, a8, a9⟩
                · intro x1 H6 y1
                  obtain ⟨Hi6, e6, r6, d6⟩ := yl1 x1 H6 y1
                  unfold compL at hcj
                  cases hf1 : f1 es[j] (wipeE ρ1 vs1) with
                  | none => simp only [hf1] at hcj; cases hcj
                  | some ρ2 =>
                    simp only [hf1] at hcj
                    obtain ⟨b1, s8, hm1, hcj⟩ := Out.bind_some hcj
                    refine qg1.run A Hi6 (wipeE ρ1 vs1) s7 (L2.wipe σ1 vs1) H6 es[j] x1 r6 (re4.mono (sm5.trans e6.same) pfx) d6 ρ2 hf1 _ fun σ2 re2 hw1 => ⟨by rw [hw1 vs1 hix1, wipe_wipe], ?_⟩
                    have ex6 := ex5.trans e6
                    have hc7 : H6 C = some (.lst acc5) := e6.keep C _ hCA (by intro _ z; cases z) hc6
                    have hn7 : Hi6 C = none := e6.new C hn6 (by rw [hc6]; intro z; cases z)
                    refine qt1 A Hi6 ρ2 s7 σ2 H6 r6 re2 _ ?_
                    rw [hm1]
                    intro b' Hi7 H7 e7 r7 d7
                    cases d7
                    have ex7 := ex6.trans e7
                    have hc8 : H7 C = some (.lst acc5) := e7.keep C _ hCA (by intro _ z; cases z) hc7
                    have hn8 : Hi7 C = none := e7.new C hn7 (by rw [hc7]; intro z; cases z)
                    have sm7 := sm5.trans (e6.same.trans e7.same)
                    have da7 := DqA.mono (e6.same.trans e7.same) _ _ da5
                    cases b1 with
                    | false =>
                      rw [if_neg Bool.false_ne_true] at hcj
                      exact iteF ⟨Hi7, s8, acc5, accD5, t1, s6, t2, ex7, sm7, r7, hc8, hn8, da7, hcj, hco, hR5⟩
                    | true =>
                      rw [if_pos rfl] at hcj
                      obtain ⟨y, s9, hfe, hcj⟩ := Out.bind_some hcj
                      obtain ⟨z1, s10, hcz, hcj⟩ := Out.bind_some hcj
                      cases hcj
                      refine iteT (qe A Hi7 ρ2 s8 σ2 H7 r7 (re2.mono e7.same pfx) _ ?_)
                      rw [hfe]
                      intro w Hi8 H8 e8 r8 d8
                      have hc9 : H8 C = some (.lst acc5) := e8.keep C _ hCA (by intro _ z; cases z) hc8
                      have hn9 : Hi8 C = none := e8.new C hn8 (by rw [hc8]; intro z; cases z)
                      have hln : acc5.length ≤ 100000 := by
                        have q9 := congrArg List.length hR5
                        simp only [List.length_append, List.length_cons] at q9
                        have q8 := da5.length
                        omega
                      refine ⟨acc5, hc9, Nat.lt_of_le_of_lt hln (by decide), Hi8, s9, acc5 ++ [w], accD5 ++ [y], z1, s6, t2, (ex7.trans e8).side hC0, sm7.trans e8.same, r8.side hn9 hCA (.inr ⟨_, hc9⟩), upd_same, hn9, ?_, hcz, hco, ?_⟩
                      · exact DqA.snoc (DqA.mono e8.same _ _ da7) d8
                      · rw [← hR5]
                        simp
              · have ej : j = es.length := by omega
                subst ej
                rw [List.drop_length] at hcj
                cases (show Out.ok [] s7 = Out.ok t1 s6 from hcj)
                exact .inl ⟨(hJ1 A Hi5 _ H5 sm5 r5 es.length).2 rfl, Hi5, _, acc5, accD5, t2, ex5, sm4.trans sm5, r5, hc6, hn6, da5, hco, hR5⟩
      · have ei : i = ds.length := by omega
        subst ei
        rw [List.drop_length] at hcl
        cases (show Out.ok [] s' = Out.ok rr sf from hcl)
        refine .inl ⟨(hJ A Hi' _ H' sm r' ds.length).2 rfl, ?_⟩
        rw [List.append_nil] at hR
        subst hR
        exact PO.out (R := RF X.K A H) (x := accD) h1 ex r' ⟨C, acc, rfl, hc, hn, hC0, hCA, da⟩
    · exact h1.elim
  · exact h1.elim
def tiOf (K : PySem.W.Frag) (XR : XRel) (E : XK) (it : MD) : TI := fun σ H R => ∃ A Hi ρ s, RS K A Hi s H ∧ RE K A Hi ρ σ ∧ PO K A Hi H XR E (fun Hi' _ ds J => IOk K Hi' J ds) R (it ρ s)
theorem SI.pi {tg iter : Expr} {it : MD} (h : SI X XR E tg iter it) : PI X tg iter (tiOf X.K XR E it) := by
  obtain ⟨t, p, q⟩ := h
  exact ⟨fun pins s σ H R I ⟨A, Hi, ρ, s', r, re, z⟩ => p.run pins s σ H R I (q A Hi ρ s' σ H r re R z)⟩
variable {elt tg iter tg1 iter1 : Expr} {ifs ifs1 : List Expr} {scope : Scope} {it it1 : MD} {f f1 : MG} {ix ix1 js vs1 : List Nat} {m m1 : MT} {fe : ME} {pos : Pos}
theorem sc_lc2 (N : List Str) (sc1 : Scope) (own : List (Str × Nat)) (hc : X.calm = true) (hN : X.N.Nodup) (hi : SI X XR E tg iter it) (eN : X.N = N) (esc : X.env.scope = sc1) (hb : blkC N sc1 scope own = true) (hj : own.map (·.2) = js)
    (hg : ∀ (s : Shared) (H : Hp) (C : Addr) (cl : List (Str × Addr)) (fp : List Addr), SG (X.blk s H scope (compEnvC scope cl C X.env) fp) tg f ix)
    (ht : ∀ (s : Shared) (H : Hp) (C : Addr) (cl : List (Str × Addr)) (fp : List Addr), STs (X.blk s H scope (compEnvC scope cl C X.env) fp) XR E ifs m)
    (hi1 : ∀ (s : Shared) (H : Hp) (C : Addr) (cl : List (Str × Addr)) (fp : List Addr), SI (X.blk s H scope (compEnvC scope cl C X.env) fp) XR E tg1 iter1 it1)
    (hg1 : ∀ (s : Shared) (H : Hp) (C : Addr) (cl : List (Str × Addr)) (fp : List Addr), SG (X.blk s H scope (compEnvC scope cl C X.env) fp) tg1 f1 ix1)
    (ht1 : ∀ (s : Shared) (H : Hp) (C : Addr) (cl : List (Str × Addr)) (fp : List Addr), STs (X.blk s H scope (compEnvC scope cl C X.env) fp) XR E ifs1 m1)
    (he : ∀ (s : Shared) (H : Hp) (C : Addr) (cl : List (Str × Addr)) (fp : List Addr), SE (X.blk s H scope (compEnvC scope cl C X.env) fp) XR E elt fe)
    (hix : ∀ i ∈ ix, i ∈ js := by decide) (hix1 : ∀ i ∈ ix1, i ∈ vs1 := by decide) (hv : ∀ i ∈ vs1, i ∈ js := by decide) (hs : ∀ x, foldedSetIterable iter X.env x = pure x := by intro _; rfl) (hs1 : ∀ env x, foldedSetIterable iter1 env x = pure x := by intro _ _; rfl) :
    SC X XR E (.ListComp elt [⟨tg, iter, ifs, 0⟩, ⟨tg1, iter1, ifs1, 0⟩] scope pos) (cComp2 it f m it1 f1 m1 fe js vs1) := by
  subst hj eN esc
  obtain ⟨wi, pi, qi⟩ := hi
  refine ⟨_, pe_lc2 (g := tgOf X.K f ix) (tt := ttOf X.K XR E m) (wi1 := tiOf X.K XR E it1) (g1 := tgOf X.K f1 ix1) (tt1 := ttOf X.K XR E m1) (te := tOf X.K XR E fe) hc hN pi (blkOk_by hb) hv (fun s H C cl fp => (hg s H C cl fp).pg) (fun s H C cl fp => (ht s H C cl fp).pts) (fun s H C cl fp => (hi1 s H C cl fp).pi) (fun s H C cl fp => (hg1 s H C cl fp).pg) (fun s H C cl fp => (ht1 s H C cl fp).pts) (fun s H C cl fp => (he s H C cl fp).pe) hs hs1, fun A Hi ρ s σ H r re Q h => ?_⟩
  exact comp2_ok qi ⟨fun A Hi ρ s σ H d v r re dq ρ' e Q k => ⟨A, Hi, ρ, s, d, ρ', r, re, dq, e, k⟩⟩ hix (fun A Hi ρ s σ H r re Q h => ⟨A, Hi, ρ, s, r, re, h⟩) (fun A Hi ρ s σ H r re Q h => ⟨A, Hi, ρ, s, r, re, h⟩) ⟨fun A Hi ρ s σ H d v r re dq ρ' e Q k => ⟨A, Hi, ρ, s, d, ρ', r, re, dq, e, k⟩⟩ hix1 (fun A Hi ρ s σ H r re Q h => ⟨A, Hi, ρ, s, r, re, h⟩) (fun A Hi ρ s σ H r re Q h => ⟨A, Hi, ρ, s, r, re, h⟩) r re h
end
end Mir

instance noTables : Mir.Tb := ⟨[], [], []⟩
namespace Fn
open PySem Mir
def run_plain_dot : MF := mkF 4 (mRet (eSl (gInts fun ns => .int ns.sum) (eL (eFr (cComp (iZp (eVar 0) (eVar 1)) (gTp [2, 3]) mYes (eBin gMulA (eVar 2) (eVar 3)) [2, 3])))))
def run_row_more : MF := mkF 4 (mRet (eSl gTuple (eL (eFr (cComp (iZp (eVar 0) (eVar 1)) (gTp [2, 3]) mYes (eBin gAdd (eVar 2) (eVar 3)) [2, 3])))))
def run_row_less : MF := mkF 4 (mRet (eSl gTuple (eL (eFr (cComp (iZp (eVar 0) (eVar 1)) (gTp [2, 3]) mYes (eBin gSub (eVar 2) (eVar 3)) [2, 3])))))
def run_plain_led : MF := mkF 3 (mRet (eSl gTuple (eL (eFr (cComp (iSq (eIx (lVar 0) (eC (.int 1)))) (gNm 2) mYes (eCall 2 run_plain_dot (aCons (lVar 2) (aCons (lVar 1) aNil))) [2])))))
def run_plain_grid : MF := mkF 3 (mRet (eTup (dCons (eVar 1) (dCons (eSl gTuple (eL (eFr (cComp (iSq (eVar 0)) (gNm 2) mYes (eSl gTuple (lVar 2)) [2])))) dNil))))
def run_turned_rows_of : MF := mkF 2 (mRet (eIf (mTru (lVar 0)) (eFr (cLzs (eVar 0))) (eBin gMulL (eFr (cLst (dCons (eTup dNil) dNil))) (eVar 1))))
def run_plain_turned : MF := mkF 3 (mSeq (mTo (gTp [1, 2]) (eVar 0))
    (mRet (eTup (dCons (eSl gLen (lVar 2)) (dCons (eSl gTuple (eL (eCall 2 run_turned_rows_of (aCons (lVar 2) (aCons (lVar 1) aNil))))) dNil)))))
def run_plain_product : MF := mkF 7 (mSeq (mSet 2 (eCall 2 run_turned_rows_of (aCons (eL (eIx (lVar 1) (eC (.int 1)))) (aCons (eL (eIx (lVar 1) (eC (.int 0)))) aNil))))
    (mRet (eTup (dCons (eIx (lVar 1) (eC (.int 0))) (dCons (eSl gTuple (eL (eFr (cComp (iSq (eIx (lVar 0) (eC (.int 1)))) (gNm 3) mYes (eSl gTuple (eL (eFr (cComp (iSq (eVar 2)) (gNm 4) mYes (eSl (gInts fun ns => .int ns.sum) (eL (eFr (cComp (iZp (eVar 3) (eVar 4)) (gTp [5, 6]) mYes (eBin gMulA (eVar 5) (eVar 6)) [5, 6])))) [4])))) [3])))) dNil)))))
def run_plain_difference : MF := mkF 8 (mSeq (mSet 2 (eFr (cComp (iZp (eIx (lVar 0) (eC (.int 1))) (eIx (lVar 1) (eC (.int 1)))) (gTp [3, 4]) mYes (eFr (iZp (eVar 3) (eVar 4))) [3, 4])))
    (mRet (eCall 2 run_plain_grid (aCons (eL (eFr (cComp (iSq (eVar 2)) (gNm 5) mYes (eFr (cComp (iSq (eVar 5)) (gTp [6, 7]) mYes (eBin gSub (eVar 6) (eVar 7)) [6, 7])) [5]))) (aCons (eL (eIx (lVar 0) (eC (.int 0)))) aNil)))))
def run_plain_multiple : MF := mkF 4 (mRet (eCall 2 run_plain_grid (aCons (eL (eFr (cComp (iSq (eIx (lVar 0) (eC (.int 1)))) (gNm 2) mYes (eFr (cComp (iSq (eVar 2)) (gNm 3) mYes (eBin gMulA (eVar 1) (eVar 3)) [3])) [2]))) (aCons (eL (eIx (lVar 0) (eC (.int 0)))) aNil))))
def run_plain_sum : MF := mkF 2 (mRet (eCall 2 run_plain_difference (aCons (lVar 0) (aCons (eL (eCall 2 run_plain_multiple (aCons (lVar 1) (aCons (eL (eUn gNeg (eC (.int 1)))) aNil)))) aNil))))
def run_plain_read : MF := mkF 2 (mRet (eCall 2 run_plain_led (aCons (eL (eCall 1 run_plain_turned (aCons (lVar 1) aNil))) (aCons (lVar 0) aNil))))
def run_plain_beside : MF := mkF 4 (mRet (eCall 2 run_plain_grid (aCons (eL (eFr (cComp (iZp (eIx (lVar 0) (eC (.int 1))) (eIx (lVar 1) (eC (.int 1)))) (gTp [2, 3]) mYes (eBin gAdd (eVar 2) (eVar 3)) [2, 3]))) (aCons (eL (eBin gAdd (eIx (lVar 0) (eC (.int 0))) (eIx (lVar 1) (eC (.int 0))))) aNil))))
def run_is_long_integer : MF := mkF 1 (mRet (eAnd (eIsi "int" (eVar 0)) (eAnd (eBin (gIs true) (eVar 0) (eC (.bool true))) (eBin (gIs true) (eVar 0) (eC (.bool false))))))
def run_are_long_integers : MF := mkF 2 (mRet (eSl (gBols fun ns => .bool (ns.all id)) (eL (eFr (cComp (iSq (eVar 0)) (gNm 1) mYes (eAnd (eIsi "int" (eVar 1)) (eAnd (eBin (gIs true) (eVar 1) (eC (.bool true))) (eBin (gIs true) (eVar 1) (eC (.bool false))))) [1])))))
def run_have_integers : MF := mkF 3 (mRet (eSl (gBols fun ns => .bool (ns.all id)) (eL (eFr (cComp2 (iSq (eVar 0)) (gNm 1) mYes (iSq (eVar 1)) (gNm 2) mYes (eAnd (eIsi "int" (eVar 2)) (eAnd (eBin (gIs true) (eVar 2) (eC (.bool true))) (eBin (gIs true) (eVar 2) (eC (.bool false))))) [1, 2] [2])))))
def run_are_short : MF := mkF 1 (mRet (eAnd (eBin gLt (eSl (gIntsA fun ns => .int (maxI 0 ns)) (lVar 0)) (eC (.int 1000000000000))) (eBin gGt (eSl (gIntsA fun ns => .int (minI 0 ns)) (lVar 0)) (eUn gNeg (eC (.int 1000000000000))))))
def run_is_integer : MF := mkF 1 (mRet (eAnd (eCall 1 run_is_long_integer (aCons (lVar 0) aNil)) (eBin gLt (eSl gAbs (lVar 0)) (eC (.int 1000000000000)))))
def run_is_long_row : MF := mkF 1 (mRet (eAnd (eIsi "tuple" (eVar 0)) (eAnd (eBin gLe (eSl gLen (lVar 0)) (eC (.int 60))) (eCall 1 run_are_long_integers (aCons (lVar 0) aNil)))))
def run_is_row : MF := mkF 1 (mRet (eAnd (eCall 1 run_is_long_row (aCons (lVar 0) aNil)) (eCall 1 run_are_short (aCons (lVar 0) aNil))))
def run_is_grid_up_to : MF := mkF 5 (mSeq (mIf (mOr (mNot (mE (eIsi "tuple" (eVar 0)))) (mE (eBin (gEq true) (eSl gLen (lVar 0)) (eC (.int 2)))))
    (mRet (eC (.bool false)))
    mNil)
    (mSeq (mTo (gTp [2, 3]) (eVar 0))
    (mSeq (mIf (mOr (mNot (mE (eCall 1 run_is_long_integer (aCons (lVar 2) aNil)))) (mOr (mNot (mE (eCh (fun i j => decide (i ≤ j)) (fun i j => decide (i ≤ j)) (eC (.int 0)) (eVar 2) (eVar 1)))) (mOr (mNot (mE (eIsi "tuple" (eVar 3)))) (mE (eBin gGt (eSl gLen (lVar 3)) (eVar 1))))))
    (mRet (eC (.bool false)))
    mNil)
    (mRet (eAnd (eSl (gBols fun ns => .bool (ns.all id)) (eL (eFr (cComp (iSq (eVar 3)) (gNm 4) mYes (eAnd (eIsi "tuple" (eVar 4)) (eBin (gEq false) (eSl gLen (lVar 4)) (eVar 2))) [4])))) (eCall 1 run_have_integers (aCons (lVar 3) aNil)))))))
def run_is_long_grid : MF := mkF 1 (mRet (eCall 2 run_is_grid_up_to (aCons (lVar 0) (aCons (eL (eC (.int 60))) aNil))))
def run_is_grid : MF := mkF 2 (mRet (eAnd (eCall 1 run_is_long_grid (aCons (lVar 0) aNil)) (eSl (gBols fun ns => .bool (ns.all id)) (eL (eFr (cComp (iSq (eIx (lVar 0) (eC (.int 1)))) (gNm 1) mYes (eCall 1 run_are_short (aCons (lVar 1) aNil)) [1]))))))
def run_check_row : MF := mkF 1 (mIf (mNot (mE (eCall 1 run_is_row (aCons (lVar 0) aNil))))
    mNever
    mNil)
def run_check_grid : MF := mkF 1 (mIf (mNot (mE (eCall 1 run_is_grid (aCons (lVar 0) aNil))))
    mNever
    mNil)
def run_check_grids : MF := mkF 2 (mSeq (mDrop (eCall 1 run_check_grid (aCons (lVar 0) aNil)))
    (mDrop (eCall 1 run_check_grid (aCons (lVar 1) aNil))))
def run_check_integer : MF := mkF 1 (mIf (mNot (mE (eCall 1 run_is_integer (aCons (lVar 0) aNil))))
    mNever
    mNil)
def run_check_fit : MF := mkF 2 (mIf (mNot (mE (eVar 0)))
    mNever
    mNil)
def run_check_rows : MF := mkF 2 (mSeq (mDrop (eCall 1 run_check_row (aCons (lVar 0) aNil)))
    (mSeq (mDrop (eCall 1 run_check_row (aCons (lVar 1) aNil)))
    (mDrop (eCall 2 run_check_fit (aCons (eL (eBin (gEq false) (eSl gLen (lVar 0)) (eSl gLen (lVar 1)))) (aCons (eL (eC (.str (Str.ofString "the rows have unlike lengths")))) aNil))))))
def run_dot : MF := mkF 2 (mSeq (mDrop (eCall 2 run_check_rows (aCons (lVar 0) (aCons (lVar 1) aNil))))
    (mRet (eCall 2 run_plain_dot (aCons (lVar 0) (aCons (lVar 1) aNil)))))
def run_row_sum : MF := mkF 2 (mSeq (mDrop (eCall 2 run_check_rows (aCons (lVar 0) (aCons (lVar 1) aNil))))
    (mRet (eCall 2 run_row_more (aCons (lVar 0) (aCons (lVar 1) aNil)))))
def run_row_difference : MF := mkF 2 (mSeq (mDrop (eCall 2 run_check_rows (aCons (lVar 0) (aCons (lVar 1) aNil))))
    (mRet (eCall 2 run_row_less (aCons (lVar 0) (aCons (lVar 1) aNil)))))
def run_row_multiple : MF := mkF 3 (mSeq (mDrop (eCall 1 run_check_row (aCons (lVar 0) aNil)))
    (mSeq (mDrop (eCall 1 run_check_integer (aCons (lVar 1) aNil)))
    (mRet (eSl gTuple (eL (eFr (cComp (iSq (eVar 0)) (gNm 2) mYes (eBin gMulA (eVar 1) (eVar 2)) [2])))))))
def run_turned : MF := mkF 1 (mSeq (mDrop (eCall 1 run_check_grid (aCons (lVar 0) aNil)))
    (mRet (eCall 1 run_plain_turned (aCons (lVar 0) aNil))))
def run_grid_multiple : MF := mkF 2 (mSeq (mDrop (eCall 1 run_check_grid (aCons (lVar 0) aNil)))
    (mSeq (mDrop (eCall 1 run_check_integer (aCons (lVar 1) aNil)))
    (mRet (eCall 2 run_plain_multiple (aCons (lVar 0) (aCons (lVar 1) aNil))))))
def run_check_like : MF := mkF 2 (mSeq (mDrop (eCall 2 run_check_grids (aCons (lVar 0) (aCons (lVar 1) aNil))))
    (mDrop (eCall 2 run_check_fit (aCons (eL (eAnd (eBin (gEq false) (eIx (lVar 0) (eC (.int 0))) (eIx (lVar 1) (eC (.int 0)))) (eBin (gEq false) (eSl gLen (eL (eIx (lVar 0) (eC (.int 1))))) (eSl gLen (eL (eIx (lVar 1) (eC (.int 1)))))))) (aCons (eL (eC (.str (Str.ofString "the grids have unlike widths or heights")))) aNil)))))
def run_grid_sum : MF := mkF 2 (mSeq (mDrop (eCall 2 run_check_like (aCons (lVar 0) (aCons (lVar 1) aNil))))
    (mRet (eCall 2 run_plain_sum (aCons (lVar 0) (aCons (lVar 1) aNil)))))
def run_grid_difference : MF := mkF 2 (mSeq (mDrop (eCall 2 run_check_like (aCons (lVar 0) (aCons (lVar 1) aNil))))
    (mRet (eCall 2 run_plain_difference (aCons (lVar 0) (aCons (lVar 1) aNil)))))
def run_grid_product : MF := mkF 2 (mSeq (mDrop (eCall 2 run_check_grids (aCons (lVar 0) (aCons (lVar 1) aNil))))
    (mSeq (mDrop (eCall 2 run_check_fit (aCons (eL (eBin (gEq false) (eIx (lVar 0) (eC (.int 0))) (eSl gLen (eL (eIx (lVar 1) (eC (.int 1))))))) (aCons (eL (eC (.str (Str.ofString "the first grid is not as wide as the second one is high")))) aNil))))
    (mRet (eCall 2 run_plain_product (aCons (lVar 0) (aCons (lVar 1) aNil))))))
def run_check_most : MF := mkF 1 (mIf (mE (eBin gGt (eVar 0) (eC (.int 60))))
    mNever
    mNil)
def run_beside : MF := mkF 2 (mSeq (mDrop (eCall 2 run_check_grids (aCons (lVar 0) (aCons (lVar 1) aNil))))
    (mSeq (mDrop (eCall 2 run_check_fit (aCons (eL (eBin (gEq false) (eSl gLen (eL (eIx (lVar 0) (eC (.int 1))))) (eSl gLen (eL (eIx (lVar 1) (eC (.int 1))))))) (aCons (eL (eC (.str (Str.ofString "the grids have unlike heights")))) aNil))))
    (mSeq (mDrop (eCall 1 run_check_most (aCons (eL (eBin gAdd (eIx (lVar 0) (eC (.int 0))) (eIx (lVar 1) (eC (.int 0))))) aNil)))
    (mRet (eCall 2 run_plain_beside (aCons (lVar 0) (aCons (lVar 1) aNil)))))))
def run_over : MF := mkF 2 (mSeq (mDrop (eCall 2 run_check_grids (aCons (lVar 0) (aCons (lVar 1) aNil))))
    (mSeq (mDrop (eCall 2 run_check_fit (aCons (eL (eBin (gEq false) (eIx (lVar 0) (eC (.int 0))) (eIx (lVar 1) (eC (.int 0))))) (aCons (eL (eC (.str (Str.ofString "the grids have unlike widths")))) aNil))))
    (mSeq (mDrop (eCall 1 run_check_most (aCons (eL (eBin gAdd (eSl gLen (eL (eIx (lVar 0) (eC (.int 1))))) (eSl gLen (eL (eIx (lVar 1) (eC (.int 1))))))) aNil)))
    (mRet (eTup (dCons (eIx (lVar 0) (eC (.int 0))) (dCons (eBin gAdd (eIx (lVar 0) (eC (.int 1))) (eIx (lVar 1) (eC (.int 1)))) dNil)))))))
def run_led : MF := mkF 2 (mSeq (mDrop (eCall 1 run_check_grid (aCons (lVar 0) aNil)))
    (mSeq (mDrop (eCall 1 run_check_row (aCons (lVar 1) aNil)))
    (mSeq (mDrop (eCall 2 run_check_fit (aCons (eL (eBin (gEq false) (eSl gLen (lVar 1)) (eIx (lVar 0) (eC (.int 0))))) (aCons (eL (eC (.str (Str.ofString "the row is not as long as the grid is wide")))) aNil))))
    (mRet (eCall 2 run_plain_led (aCons (lVar 0) (aCons (lVar 1) aNil)))))))
def run_read_by : MF := mkF 2 (mSeq (mDrop (eCall 1 run_check_row (aCons (lVar 0) aNil)))
    (mSeq (mDrop (eCall 1 run_check_grid (aCons (lVar 1) aNil)))
    (mSeq (mDrop (eCall 2 run_check_fit (aCons (eL (eBin (gEq false) (eSl gLen (lVar 0)) (eSl gLen (eL (eIx (lVar 1) (eC (.int 1))))))) (aCons (eL (eC (.str (Str.ofString "the row is not as long as the grid is high")))) aNil))))
    (mRet (eCall 2 run_plain_read (aCons (lVar 0) (aCons (lVar 1) aNil)))))))
def runC_law_hat : MFc := mkC 5 (mSeq (mSet 2 (eIf (mE (eBin gLt (eVar 1) (eSl gLen (lVar 0)))) (eSl gInt (eL (eIx (lVar 0) (eVar 1)))) (eBin gAdd (eBin gMulA (eC (.int 311)) (eVar 1)) (eC (.int 47)))))
    (mSeq (mSet 3 (eBin gMod (eSl gInt (eL (eSl gAbs (lVar 2)))) (eBin gPow (eBin gPow (eC (.int 10)) (eC (.int 51))) (eC (.int 8)))))
    (mSeq (mSet 4 (eSl gInt (eL (eBin gAdd (eBin gAdd (eBin gAdd (eBin gMulA (eBin gMod (eVar 3) (eC (.int 2305843009213693907))) (eC (.int 83))) (eBin gMulA (eC (.int 5261)) (eVar 1))) (eBin gMulA (eC (.int 29)) (eSl gInt (eL (eBin gLt (eVar 2) (eC (.int 0))))))) (eC (.int 61))))))
    (mRetC (cLst (dCons (eTwo (fun i j => if j > i then j else i) (eC (.int 0)) (eBin gSub (eVar 3) (eBin gPow (eC (.int 10)) (eC (.int 16))))) (dCons (eBin gMod (eVar 4) (eC (.int 2305843009213693951))) (dCons (eC (.int 0)) dNil))))))))
def run_law_up_to : MF := mkF 5 (mSeq (mIf (mE (eBin gGt (eIx (lVar 0) (eC (.int 0))) (eC (.int 0))))
    (mSeq (mSet 2 (eBin gMod (eSl gInt (eL (eIx (lVar 0) (eC (.int 0))))) (eVar 1)))
    (mSeq (mPut (lVar 0) (eC (.int 0)) (eBin gFdiv (eIx (lVar 0) (eC (.int 0))) (eVar 1)))
    (mRet (eVar 2))))
    mNil)
    (mSeq (mPut (lVar 0) (eC (.int 2)) (eBin gAdd (eIx (lVar 0) (eC (.int 2))) (eC (.int 1))))
    (mSeq (mSet 3 (eBin gMod (eSl gInt (eL (eBin gAdd (eIx (lVar 0) (eC (.int 1))) (eBin gMulA (eC (.int 86028157)) (eIx (lVar 0) (eC (.int 2))))))) (eC (.int 2305843009213693951))))
    (mSeq (mSet 4 (eBin gAdd (eBin gAdd (eBin gMulA (eBin gMod (eSl gInt (eL (eBin gAdd (eBin gMulA (eVar 3) (eVar 3)) (eC (.int 67867967))))) (eC (.int 2305843009213693921))) (eC (.int 15485863))) (eVar 3)) (eBin gMulA (eC (.int 19)) (eIx (lVar 0) (eC (.int 2))))))
    (mRet (eBin gMod (eSl gInt (eL (eBin gFdiv (eVar 4) (eC (.int 65539))))) (eVar 1)))))))
def run_law_out_of : MF := mkF 2 (mRet (eIx (lVar 1) (eCall 2 run_law_up_to (aCons (lVar 0) (aCons (eL (eSl gLen (lVar 1))) aNil)))))
def run_law_number : MF := mkF 1 (mRet (eCall 2 run_law_out_of (aCons (lVar 0) (aCons (eL (eFr (cLst (dCons (eUn gNeg (eC (.int 3))) (dCons (eUn gNeg (eC (.int 2))) (dCons (eUn gNeg (eC (.int 1))) (dCons (eC (.int 1)) (dCons (eC (.int 1)) (dCons (eC (.int 2)) (dCons (eC (.int 3)) (dCons (eC (.int 0)) dNil))))))))))) aNil))))
def run_law_row : MF := mkF 3 (mRet (eSl gTuple (eL (eFr (cComp (iRg1 (eVar 1)) (gNm 2) mYes (eCall 1 run_law_number (aCons (lVar 0) aNil)) [2])))))
def run_law_dot : MF := mkF 5 (mSeq (mSet 2 (eC (.int 0)))
    (mSeq (mFor (iZp (eVar 0) (eVar 1)) (gTp [3, 4])
    (mSet 2 (eBin gAdd (eVar 2) (eBin gMulA (eVar 3) (eVar 4)))))
    (mRet (eVar 2))))
def run_law_lead : MF := mkF 3 (mRet (eSl gTuple (eL (eFr (cComp (iSq (eIx (lVar 0) (eC (.int 1)))) (gNm 2) mYes (eCall 2 run_law_dot (aCons (lVar 2) (aCons (lVar 1) aNil))) [2])))))
def run_law_turn : MF := mkF 5 (mSeq (mTo (gTp [1, 2]) (eVar 0))
    (mRet (eTup (dCons (eSl gLen (lVar 2)) (dCons (eSl gTuple (eL (eFr (cComp (iRg1 (eVar 1)) (gNm 3) mYes (eSl gTuple (eL (eFr (cComp (iSq (eVar 2)) (gNm 4) mYes (eIx (lVar 4) (eVar 3)) [4])))) [3])))) dNil)))))
def run_law_times : MF := mkF 5 (mSeq (mSet 2 (eIx (eL (eCall 1 run_law_turn (aCons (lVar 1) aNil))) (eC (.int 1))))
    (mRet (eTup (dCons (eIx (lVar 1) (eC (.int 0))) (dCons (eSl gTuple (eL (eFr (cComp (iSq (eIx (lVar 0) (eC (.int 1)))) (gNm 3) mYes (eSl gTuple (eL (eFr (cComp (iSq (eVar 2)) (gNm 4) mYes (eCall 2 run_law_dot (aCons (lVar 3) (aCons (lVar 4) aNil))) [4])))) [3])))) dNil)))))
def run_law_unit : MF := mkF 3 (mRet (eTup (dCons (eVar 0) (dCons (eSl gTuple (eL (eFr (cComp (iRg1 (eVar 0)) (gNm 1) mYes (eSl gTuple (eL (eFr (cComp (iRg1 (eVar 0)) (gNm 2) mYes (eSl gInt (eL (eBin (gEq false) (eVar 1) (eVar 2)))) [2])))) [1])))) dNil))))
def run_law_jg_entry : MF := mkF 1 (mRet (eCall 2 run_law_out_of (aCons (lVar 0) (aCons (eL (eFr (cLst (dCons (eC (.int 0)) (dCons (eC (.int 0)) (dCons (eC (.int 1)) (dCons (eUn gNeg (eC (.int 1))) (dCons (eC (.int 2)) (dCons (eUn gNeg (eC (.int 3))) (dCons (eC (.int 7)) (dCons (eBin gSub (eBin gPow (eC (.int 10)) (eC (.int 12))) (eC (.int 1))) (dCons (eBin gSub (eC (.int 1)) (eBin gPow (eC (.int 10)) (eC (.int 12)))) (dCons (eBin gSub (eCall 2 run_law_up_to (aCons (lVar 0) (aCons (eL (eBin gPow (eC (.int 10)) (eC (.int 6)))) aNil))) (eC (.int 500000))) dNil))))))))))))) aNil))))
def run_law_jg_wide : MF := mkF 5 (mRet (eTup (dCons (eVar 2) (dCons (eSl gTuple (eL (eFr (cComp (iRg1 (eVar 1)) (gNm 3) mYes (eSl gTuple (eL (eFr (cComp (iRg1 (eVar 2)) (gNm 4) mYes (eCall 1 run_law_jg_entry (aCons (lVar 0) aNil)) [4])))) [3])))) dNil))))
def run_law_jg_grid : MF := mkF 6 (mSeq (mSet 3 (eFr (cComp (iRg1 (eVar 1)) (gNm 4) mYes (eSl gTuple (eL (eFr (cComp (iRg1 (eVar 2)) (gNm 5) mYes (eCall 2 run_law_out_of (aCons (lVar 0) (aCons (eL (eFr (cLst (dCons (eC (.int 0)) (dCons (eC (.int 0)) (dCons (eC (.int 0)) (dCons (eC (.int 1)) (dCons (eUn gNeg (eC (.int 1))) (dCons (eC (.int 2)) (dCons (eUn gNeg (eC (.int 2))) (dCons (eC (.int 3)) (dCons (eC (.int 4)) dNil)))))))))))) aNil))) [5])))) [4])))
    (mRet (eTup (dCons (eVar 2) (dCons (eSl gTuple (lVar 3)) dNil)))))
def run_law_jg_plus : MF := mkF 6 (mRet (eTup (dCons (eIx (lVar 0) (eC (.int 0))) (dCons (eSl gTuple (eL (eFr (cComp (iZp (eIx (lVar 0) (eC (.int 1))) (eIx (lVar 1) (eC (.int 1)))) (gTp [2, 3]) mYes (eSl gTuple (eL (eFr (cComp (iZp (eVar 2) (eVar 3)) (gTp [4, 5]) mYes (eBin gAdd (eVar 4) (eVar 5)) [4, 5])))) [2, 3])))) dNil))))
def run_law_jg_scaled : MF := mkF 4 (mRet (eTup (dCons (eIx (lVar 0) (eC (.int 0))) (dCons (eSl gTuple (eL (eFr (cComp (iSq (eIx (lVar 0) (eC (.int 1)))) (gNm 2) mYes (eSl gTuple (eL (eFr (cComp (iSq (eVar 2)) (gNm 3) mYes (eBin gMulA (eVar 1) (eVar 3)) [3])))) [2])))) dNil))))
def run_law_jg_beside : MF := mkF 4 (mRet (eTup (dCons (eBin gAdd (eIx (lVar 0) (eC (.int 0))) (eIx (lVar 1) (eC (.int 0)))) (dCons (eSl gTuple (eL (eFr (cComp (iZp (eIx (lVar 0) (eC (.int 1))) (eIx (lVar 1) (eC (.int 1)))) (gTp [2, 3]) mYes (eBin gAdd (eVar 2) (eVar 3)) [2, 3])))) dNil))))
def run_law_plain_right : MF := mkF 15 (mSeq (mTo (gTp [1, 2, 3]) (eTup (dCons (eCall 2 run_law_up_to (aCons (lVar 0) (aCons (eL (eC (.int 6))) aNil))) (dCons (eCall 2 run_law_up_to (aCons (lVar 0) (aCons (eL (eC (.int 6))) aNil))) (dCons (eCall 1 run_law_jg_entry (aCons (lVar 0) aNil)) dNil)))))
    (mSeq (mPar 4 5 (eCall 3 run_law_jg_wide (aCons (lVar 0) (aCons (lVar 1) (aCons (lVar 2) aNil)))) (eCall 3 run_law_jg_wide (aCons (lVar 0) (aCons (lVar 1) (aCons (lVar 2) aNil)))))
    (mSeq (mSet 6 (eSl gTuple (eL (eFr (cComp (iRg1 (eVar 2)) (gNm 11) mYes (eCall 1 run_law_jg_entry (aCons (lVar 0) aNil)) [11])))))
    (mSeq (mSet 7 (eSl gTuple (eL (eFr (cComp (iRg1 (eVar 1)) (gNm 11) mYes (eCall 1 run_law_jg_entry (aCons (lVar 0) aNil)) [11])))))
    (mSeq (mIf (mOr (mE (eBin (gEq true) (eCall 2 run_led (aCons (lVar 4) (aCons (lVar 6) aNil))) (eCall 2 run_law_lead (aCons (lVar 4) (aCons (lVar 6) aNil))))) (mE (eBin (gEq true) (eCall 2 run_read_by (aCons (lVar 7) (aCons (lVar 4) aNil))) (eCall 2 run_law_lead (aCons (eL (eCall 1 run_law_turn (aCons (lVar 4) aNil))) (aCons (lVar 7) aNil))))))
    (mRet (eC (.bool false)))
    mNil)
    (mSeq (mIf (mOr (mE (eBin (gEq true) (eCall 1 run_turned (aCons (lVar 4) aNil)) (eCall 1 run_law_turn (aCons (lVar 4) aNil)))) (mOr (mE (eBin (gEq true) (eCall 1 run_turned (aCons (eL (eCall 1 run_turned (aCons (lVar 4) aNil))) aNil)) (eVar 4))) (mE (eBin (gEq true) (eCall 2 run_grid_sum (aCons (lVar 4) (aCons (lVar 5) aNil))) (eCall 2 run_law_jg_plus (aCons (lVar 4) (aCons (lVar 5) aNil)))))))
    (mRet (eC (.bool false)))
    mNil)
    (mSeq (mIf (mE (eBin (gEq true) (eCall 2 run_grid_multiple (aCons (lVar 4) (aCons (lVar 3) aNil))) (eCall 2 run_law_jg_scaled (aCons (lVar 4) (aCons (lVar 3) aNil)))))
    (mRet (eC (.bool false)))
    mNil)
    (mSeq (mIf (mE (eBin (gEq true) (eCall 2 run_row_multiple (aCons (lVar 6) (aCons (lVar 3) aNil))) (eSl gTuple (eL (eFr (cComp (iSq (eVar 6)) (gNm 12) mYes (eBin gMulA (eVar 3) (eVar 12)) [12]))))))
    (mRet (eC (.bool false)))
    mNil)
    (mSeq (mIf (mOr (mE (eBin (gEq true) (eCall 2 run_grid_difference (aCons (lVar 4) (aCons (lVar 5) aNil))) (eCall 2 run_law_jg_plus (aCons (lVar 4) (aCons (eL (eCall 2 run_law_jg_scaled (aCons (lVar 5) (aCons (eL (eUn gNeg (eC (.int 1)))) aNil)))) aNil))))) (mE (eBin (gEq true) (eCall 2 run_beside (aCons (lVar 4) (aCons (lVar 5) aNil))) (eCall 2 run_law_jg_beside (aCons (lVar 4) (aCons (lVar 5) aNil))))))
    (mRet (eC (.bool false)))
    mNil)
    (mSeq (mIf (mOr (mE (eBin (gEq true) (eCall 2 run_over (aCons (lVar 4) (aCons (lVar 5) aNil))) (eTup (dCons (eVar 2) (dCons (eBin gAdd (eIx (lVar 4) (eC (.int 1))) (eIx (lVar 5) (eC (.int 1)))) dNil))))) (mE (eBin (gEq true) (eCall 2 run_dot (aCons (lVar 6) (aCons (lVar 6) aNil))) (eCall 2 run_law_dot (aCons (lVar 6) (aCons (lVar 6) aNil))))))
    (mRet (eC (.bool false)))
    mNil)
    (mSeq (mFor (iZp (eIx (lVar 4) (eC (.int 1))) (eIx (lVar 5) (eC (.int 1)))) (gTp [8, 9])
    (mSeq (mIf (mE (eBin (gEq true) (eCall 2 run_row_sum (aCons (lVar 8) (aCons (lVar 9) aNil))) (eSl gTuple (eL (eFr (cComp (iZp (eVar 8) (eVar 9)) (gTp [13, 14]) mYes (eBin gAdd (eVar 13) (eVar 14)) [13, 14]))))))
    (mRet (eC (.bool false)))
    mNil)
    (mIf (mE (eBin (gEq true) (eCall 2 run_row_difference (aCons (lVar 8) (aCons (lVar 9) aNil))) (eSl gTuple (eL (eFr (cComp (iZp (eVar 8) (eVar 9)) (gTp [13, 14]) mYes (eBin gSub (eVar 13) (eVar 14)) [13, 14]))))))
    (mRet (eC (.bool false)))
    mNil)))
    (mSeq (mSet 10 (eCall 3 run_law_jg_wide (aCons (lVar 0) (aCons (lVar 2) (aCons (eL (eCall 2 run_law_up_to (aCons (lVar 0) (aCons (eL (eC (.int 6))) aNil)))) aNil)))))
    (mRet (eBin (gEq false) (eCall 2 run_grid_product (aCons (lVar 4) (aCons (lVar 10) aNil))) (eCall 2 run_law_times (aCons (lVar 4) (aCons (lVar 10) aNil)))))))))))))))))
def run_law_grouped_right : MF := mkF 11 (mSeq (mSet 1 (eFr (cComp (iRg1 (eC (.int 4))) (gNm 9) mYes (eCall 2 run_law_up_to (aCons (lVar 0) (aCons (eL (eC (.int 5))) aNil))) [9])))
    (mSeq (mTo (gTpL [2, 3, 4]) (eFr (cComp (iRg1 (eC (.int 3))) (gNm 10) mYes (eCall 3 run_law_jg_grid (aCons (lVar 0) (aCons (eL (eIx (lVar 1) (eVar 10))) (aCons (eL (eIx (lVar 1) (eBin gAdd (eVar 10) (eC (.int 1))))) aNil)))) [10])))
    (mSeq (mIf (mE (eBin (gEq true) (eCall 2 run_grid_product (aCons (eL (eCall 2 run_grid_product (aCons (lVar 2) (aCons (lVar 3) aNil)))) (aCons (lVar 4) aNil))) (eCall 2 run_grid_product (aCons (lVar 2) (aCons (eL (eCall 2 run_grid_product (aCons (lVar 3) (aCons (lVar 4) aNil)))) aNil)))))
    (mRet (eC (.bool false)))
    mNil)
    (mSeq (mIf (mE (eBin (gEq true) (eCall 1 run_turned (aCons (eL (eCall 2 run_grid_product (aCons (lVar 2) (aCons (lVar 3) aNil)))) aNil)) (eCall 2 run_grid_product (aCons (eL (eCall 1 run_turned (aCons (lVar 3) aNil))) (aCons (eL (eCall 1 run_turned (aCons (lVar 2) aNil))) aNil)))))
    (mRet (eC (.bool false)))
    mNil)
    (mSeq (mPar 5 6 (eCall 2 run_law_row (aCons (lVar 0) (aCons (eL (eIx (lVar 1) (eC (.int 2)))) aNil))) (eCall 2 run_law_row (aCons (lVar 0) (aCons (eL (eIx (lVar 1) (eC (.int 0)))) aNil))))
    (mSeq (mSet 7 (eCall 2 run_led (aCons (lVar 2) (aCons (eL (eCall 2 run_led (aCons (lVar 3) (aCons (lVar 5) aNil)))) aNil))))
    (mSeq (mIf (mOr (mE (eBin (gEq true) (eCall 2 run_led (aCons (eL (eCall 2 run_grid_product (aCons (lVar 2) (aCons (lVar 3) aNil)))) (aCons (lVar 5) aNil))) (eVar 7))) (mE (eBin (gEq true) (eCall 2 run_dot (aCons (eL (eCall 2 run_read_by (aCons (lVar 6) (aCons (lVar 2) aNil)))) (aCons (eL (eCall 2 run_led (aCons (lVar 3) (aCons (lVar 5) aNil)))) aNil))) (eCall 2 run_dot (aCons (lVar 6) (aCons (lVar 7) aNil))))))
    (mRet (eC (.bool false)))
    mNil)
    (mSeq (mSet 8 (eCall 2 run_beside (aCons (lVar 2) (aCons (eL (eCall 2 run_grid_product (aCons (lVar 2) (aCons (lVar 3) aNil)))) aNil))))
    (mRet (eAnd (eBin (gEq false) (eVar 8) (eCall 2 run_grid_product (aCons (lVar 2) (aCons (eL (eCall 2 run_beside (aCons (eL (eCall 1 run_law_unit (aCons (eL (eIx (lVar 1) (eC (.int 1)))) aNil))) (aCons (lVar 3) aNil)))) aNil)))) (eBin (gEq false) (eCall 2 run_over (aCons (eL (eCall 1 run_turned (aCons (lVar 2) aNil))) (aCons (eL (eCall 1 run_turned (aCons (eL (eCall 2 run_grid_product (aCons (lVar 2) (aCons (lVar 3) aNil)))) aNil))) aNil))) (eCall 1 run_turned (aCons (lVar 8) aNil)))))))))))))
def run_law : MF := mkF 7 (mSeq (mFor (iRg1 (eTwo (fun i j => if j > i then j else i) (eC (.int 1)) (eTwo (fun i j => if j < i then j else i) (eC (.int 3)) (eSl gLen (lVar 0))))) (gNm 1)
    (mSeq (mSetC 2 (cCall 2 runC_law_hat (aCons (lVar 0) (aCons (lVar 1) aNil))))
    (mFor (iRg1 (eC (.int 3))) (gNm 3)
    (mIf (mOr (mNot (mE (eCall 1 run_law_plain_right (aCons (lVar 2) aNil)))) (mNot (mE (eCall 1 run_law_grouped_right (aCons (lVar 2) aNil)))))
    (mRet (eC (.bool false)))
    mNil))))
    (mSeq (mTo (gTp [4, 5]) (eTup (dCons (eTup (dCons (eC (.int 3)) (dCons (eTup dNil) dNil))) (dCons (eTup (dCons (eC (.int 0)) (dCons (eTup (dCons (eTup dNil) (dCons (eTup dNil) dNil))) dNil))) dNil))))
    (mSeq (mIf (mOr (mE (eBin (gEq true) (eCall 1 run_turned (aCons (lVar 4) aNil)) (eTup (dCons (eC (.int 0)) (dCons (eTup (dCons (eTup dNil) (dCons (eTup dNil) (dCons (eTup dNil) dNil)))) dNil))))) (mOr (mE (eBin (gEq true) (eCall 1 run_turned (aCons (lVar 5) aNil)) (eTup (dCons (eC (.int 2)) (dCons (eTup dNil) dNil))))) (mE (eBin (gEq true) (eCall 2 run_grid_product (aCons (lVar 5) (aCons (eL (eTup (dCons (eC (.int 0)) (dCons (eTup dNil) dNil)))) aNil))) (eVar 5)))))
    (mRet (eC (.bool false)))
    mNil)
    (mSeq (mIf (mOr (mE (eBin (gEq true) (eCall 2 run_grid_product (aCons (lVar 5) (aCons (eL (eTup (dCons (eC (.int 4)) (dCons (eTup dNil) dNil)))) aNil))) (eTup (dCons (eC (.int 4)) (dCons (eBin gMulA (eTup (dCons (eTup (dCons (eC (.int 0)) (dCons (eC (.int 0)) (dCons (eC (.int 0)) (dCons (eC (.int 0)) dNil))))) dNil)) (eC (.int 2))) dNil))))) (mOr (mE (eBin (gEq true) (eCall 2 run_led (aCons (lVar 5) (aCons (eL (eTup dNil)) aNil))) (eTup (dCons (eC (.int 0)) (dCons (eC (.int 0)) dNil))))) (mOr (mE (eBin (gEq true) (eCall 2 run_read_by (aCons (eL (eTup dNil)) (aCons (lVar 4) aNil))) (eTup (dCons (eC (.int 0)) (dCons (eC (.int 0)) (dCons (eC (.int 0)) dNil)))))) (mE (eBin (gEq true) (eCall 2 run_dot (aCons (eL (eTup dNil)) (aCons (eL (eTup dNil)) aNil))) (eC (.int 0)))))))
    (mRet (eC (.bool false)))
    mNil)
    (mSeq (mSet 6 (eTup (dCons (eC (.int 1)) (dCons (eTup (dCons (eTup (dCons (eBin gSub (eBin gPow (eC (.int 10)) (eC (.int 12))) (eC (.int 1))) dNil)) dNil)) dNil))))
    (mRet (eAnd (eBin (gEq false) (eCall 2 run_grid_product (aCons (lVar 6) (aCons (lVar 6) aNil))) (eTup (dCons (eC (.int 1)) (dCons (eTup (dCons (eTup (dCons (eBin gAdd (eBin gSub (eBin gPow (eC (.int 10)) (eC (.int 24))) (eBin gMulA (eC (.int 2)) (eBin gPow (eC (.int 10)) (eC (.int 12))))) (eC (.int 1))) dNil)) dNil)) dNil)))) (eAnd (eBin (gEq false) (eCall 2 run_grid_sum (aCons (lVar 4) (aCons (lVar 4) aNil))) (eVar 4)) (eBin (gEq false) (eCall 2 run_grid_multiple (aCons (lVar 5) (aCons (eL (eC (.int 7))) aNil))) (eVar 5))))))))))
end Fn
set_option maxRecDepth 100000
set_option maxHeartbeats 4000000
/-! # plain facts of the mirrors' parts -/
namespace Math
open PySem Mir
/-! the parts, applied -/
theorem ap_eVar (i : Nat) (ρ : Mir.Env) (s : Sto) : Mir.eVar i ρ s = match ρ[i]? with
  | some (some (.d x)) => .ok x s
  | _ => .bad := rfl
theorem ap_lVar (i : Nat) (ρ : Mir.Env) (s : Sto) : Mir.lVar i ρ s = match ρ[i]? with
  | some (some x) => .ok x s
  | _ => .bad := rfl
theorem ap_eC (x : PyData) (ρ : Mir.Env) (s : Sto) : Mir.eC x ρ s = .ok x s := rfl
theorem ap_eL (f : ME) (ρ : Mir.Env) (s : Sto) : Mir.eL f ρ s = (f ρ s).bind fun x s => .ok (.d x) s := rfl
theorem ap_eUn (g : PyData → Sto → Out PyData) (fa : ME) (ρ : Mir.Env) (s : Sto) : Mir.eUn g fa ρ s = (fa ρ s).bind g := rfl
theorem ap_eBin (g : PyData → PyData → Sto → Out PyData) (fa fb : ME) (ρ : Mir.Env) (s : Sto) : Mir.eBin g fa fb ρ s = (fa ρ s).bind fun x s1 => (fb ρ s1).bind fun y s2 => g x y s2 := rfl
theorem ap_eAnd (fa fb : ME) (ρ : Mir.Env) (s : Sto) : Mir.eAnd fa fb ρ s = (fa ρ s).bind fun x s => match x with
  | .bool true => fb ρ s
  | .bool false => .ok (.bool false) s
  | _ => .bad := rfl
theorem ap_eOr (fa fb : ME) (ρ : Mir.Env) (s : Sto) : Mir.eOr fa fb ρ s = (fa ρ s).bind fun x s => match x with
  | .bool false => fb ρ s
  | .bool true => .ok (.bool true) s
  | _ => .bad := rfl
theorem ap_eNot (fa : ME) (ρ : Mir.Env) (s : Sto) : Mir.eNot fa ρ s = (fa ρ s).bind fun x s => match x with
  | .bool b => .ok (.bool (!b)) s
  | _ => .bad := rfl
theorem ap_mE (fa : ME) (ρ : Mir.Env) (s : Sto) : Mir.mE fa ρ s = (fa ρ s).bind fun x s => match x with
  | .bool b => .ok b s
  | _ => .bad := rfl
theorem ap_mNot (fa : MT) (ρ : Mir.Env) (s : Sto) : Mir.mNot fa ρ s = (fa ρ s).bind fun b s => .ok (!b) s := rfl
theorem ap_mAnd (fa fb : MT) (ρ : Mir.Env) (s : Sto) : Mir.mAnd fa fb ρ s = (fa ρ s).bind fun b s => if b = true then fb ρ s else .ok false s := rfl
theorem ap_mOr (fa fb : MT) (ρ : Mir.Env) (s : Sto) : Mir.mOr fa fb ρ s = (fa ρ s).bind fun b s => if b = true then .ok true s else fb ρ s := rfl
theorem ap_eIf (m : MT) (fa fb : ME) (ρ : Mir.Env) (s : Sto) : Mir.eIf m fa fb ρ s = (m ρ s).bind fun b s => if b = true then fa ρ s else fb ρ s := rfl
theorem ap_aNil (ρ : Mir.Env) (s : Sto) : Mir.aNil ρ s = .ok [] s := rfl
theorem ap_aCons (fl : ML) (fr : MA) (ρ : Mir.Env) (s : Sto) : Mir.aCons fl fr ρ s = (fl ρ s).bind fun x s => (fr ρ s).bind fun r s => .ok (x :: r) s := rfl
theorem ap_dNil (ρ : Mir.Env) (s : Sto) : Mir.dNil ρ s = .ok [] s := rfl
theorem ap_dCons (fa : ME) (fr : MD) (ρ : Mir.Env) (s : Sto) : Mir.dCons fa fr ρ s = (fa ρ s).bind fun x s => (fr ρ s).bind fun r s => .ok (x :: r) s := rfl
theorem ap_eTup (fd : MD) (ρ : Mir.Env) (s : Sto) : Mir.eTup fd ρ s = (fd ρ s).bind fun ds s => if ds.length ≤ 100000 then .ok (.tuple ds) s else .bad := rfl
theorem ap_cLst (fd : MD) (ρ : Mir.Env) (s : Sto) : Mir.cLst fd ρ s = (fd ρ s).bind fun ds s => if ds.length ≤ 100000 then .ok ds s else .bad := rfl
theorem ap_eFr (fd : MD) (ρ : Mir.Env) (s : Sto) : Mir.eFr fd ρ s = (fd ρ s).bind fun ds s => .ok (.list ds) s := rfl
theorem ap_eIx (fl : ML) (fi : ME) (ρ : Mir.Env) (s : Sto) : Mir.eIx fl fi ρ s = (fl ρ s).bind fun b s => (fi ρ s).bind fun y s => gIx b y s := rfl
theorem ap_eSl (g : Sl → Sto → Out PyData) (fl : ML) (ρ : Mir.Env) (s : Sto) : Mir.eSl g fl ρ s = (fl ρ s).bind g := rfl
theorem ap_cList (fl : ML) (ρ : Mir.Env) (s : Sto) : Mir.cList fl ρ s = (fl ρ s).bind fun b s => match seqOf b s with
  | some (_, ds) => .ok ds s
  | none => .bad := rfl
theorem ap_eCall (n : Nat) (F : MF) (fa : MA) (ρ : Mir.Env) (s : Sto) : Mir.eCall n F fa ρ s = (fa ρ s).bind fun as s => if as.length = n then F as s else .bad := rfl
theorem ap_cCall (n : Nat) (F : MFc) (fa : MA) (ρ : Mir.Env) (s : Sto) : Mir.cCall n F fa ρ s = (fa ρ s).bind fun as s => if as.length = n then F as s else .bad := rfl
theorem ap_mSeq (g1 g2 : MS) (ρ : Mir.Env) (s : Sto) : Mir.mSeq g1 g2 ρ s = thenDo (g1 ρ s) g2 := rfl
theorem ap_mNil (ρ : Mir.Env) (s : Sto) : Mir.mNil ρ s = .nx ρ s := rfl
theorem ap_mSet (i : Nat) (f : ME) (ρ : Mir.Env) (s : Sto) : Mir.mSet i f ρ s = toFl (f ρ s) fun x s => .nx (ρ.set i (some (.d x))) s := rfl
theorem ap_mSetC (i : Nat) (f : MD) (ρ : Mir.Env) (s : Sto) : Mir.mSetC i f ρ s = toFl (f ρ s) fun ds s' => .nx (ρ.set i (some (.c s'.length))) (s' ++ [ds]) := rfl
theorem ap_mRet (f : ME) (ρ : Mir.Env) (s : Sto) : Mir.mRet f ρ s = toFl (f ρ s) fun x s => .rt (.d x) s := rfl
theorem ap_mRetN (ρ : Mir.Env) (s : Sto) : Mir.mRetN ρ s = .rt (.d .none) s := rfl
theorem ap_mRetL (f : ML) (ρ : Mir.Env) (s : Sto) : Mir.mRetL f ρ s = toFl (f ρ s) fun x s => .rt x s := rfl
theorem ap_mDrop (f : ME) (ρ : Mir.Env) (s : Sto) : Mir.mDrop f ρ s = toFl (f ρ s) fun _ s => .nx ρ s := rfl
theorem ap_mIf (m : MT) (g1 g2 : MS) (ρ : Mir.Env) (s : Sto) : Mir.mIf m g1 g2 ρ s = toFl (m ρ s) fun b s => if b = true then g1 ρ s else g2 ρ s := rfl
theorem ap_mNever (ρ : Mir.Env) (s : Sto) : Mir.mNever ρ s = .bad := rfl
theorem ap_mPar (i j : Nat) (fa fb : ME) (ρ : Mir.Env) (s : Sto) : Mir.mPar i j fa fb ρ s = toFl (fa ρ s) fun x s => toFl (fb ρ s) fun y s => .nx ((ρ.set i (some (.d x))).set j (some (.d y))) s := rfl
theorem ap_mPar3 (i j l : Nat) (fa fb fc : ME) (ρ : Mir.Env) (s : Sto) : Mir.mPar3 i j l fa fb fc ρ s = toFl (fa ρ s) fun x s => toFl (fb ρ s) fun y s => toFl (fc ρ s) fun z s => .nx (((ρ.set i (some (.d x))).set j (some (.d y))).set l (some (.d z))) s := rfl
theorem ap_mPut (fl : ML) (fi fe : ME) (ρ : Mir.Env) (s : Sto) : Mir.mPut fl fi fe ρ s = toFl (fe ρ s) fun x s => toFl (fl ρ s) fun b s => toFl (fi ρ s) fun y s => nxO ρ (putAt b y x s) := rfl
theorem ap_mApp (fl : ML) (fa : ME) (ρ : Mir.Env) (s : Sto) : Mir.mApp fl fa ρ s = toFl (fl ρ s) fun b s => if isC b = true then (toFl (fa ρ s) fun x s => nxO ρ (appAt b x s)) else .bad := rfl
theorem ap_mTo (f : MG) (fa : ME) (ρ : Mir.Env) (s : Sto) : Mir.mTo f fa ρ s = toFl (fa ρ s) fun x s => match f x ρ with
  | some ρ' => .nx ρ' s
  | none => .bad := rfl
theorem ap_iRg1 (fa : ME) (ρ : Mir.Env) (s : Sto) : Mir.iRg1 fa ρ s = (fa ρ s).bind fun x s => match x with
  | .int j => if -(2 ^ 62) ≤ j ∧ j < 2 ^ 62 then .ok (rangeOf 0 j.toNat) s else .bad
  | _ => .bad := rfl
theorem ap_iRg2 (fa fb : ME) (ρ : Mir.Env) (s : Sto) : Mir.iRg2 fa fb ρ s = (fa ρ s).bind fun x s => (fb ρ s).bind fun y s => match x, y with
  | .int i, .int j => if (-(2 ^ 62) ≤ i ∧ i < 2 ^ 62) ∧ -(2 ^ 62) ≤ j ∧ j < 2 ^ 62 then .ok (rangeOf i (j - i).toNat) s else .bad
  | _, _ => .bad := rfl
theorem ap_mYes (ρ : Mir.Env) (s : Sto) : Mir.mYes ρ s = .ok true s := rfl
theorem ap_iSq (fa : ME) (ρ : Mir.Env) (s : Sto) : Mir.iSq fa ρ s = (fa ρ s).bind fun x s => orBad (itemsOf x) fun ds => .ok ds s := rfl
theorem ap_iZp (fa fb : ME) (ρ : Mir.Env) (s : Sto) : Mir.iZp fa fb ρ s = (fa ρ s).bind fun x s => (fb ρ s).bind fun y s => orBad (itemsOf x) fun xs => orBad (itemsOf y) fun ys => .ok (zipD xs ys) s := rfl
theorem ap_iEn (fa : ME) (ρ : Mir.Env) (s : Sto) : Mir.iEn fa ρ s = (fa ρ s).bind fun x s => match x with
  | .list ds => .ok (enumD 0 ds) s
  | _ => .bad := rfl
theorem ap_mRetC (f : MD) (ρ : Mir.Env) (s : Sto) : Mir.mRetC f ρ s = toFl (f ρ s) fun ds s => .rt (.c s.length) (s ++ [ds]) := rfl
theorem ap_eCh (p q : Int → Int → Bool) (fa fb fc : ME) (ρ : Mir.Env) (s : Sto) : Mir.eCh p q fa fb fc ρ s = (fa ρ s).bind fun x s => (fb ρ s).bind fun y s => (gCmp p x y s).bind fun r s => match r with
  | .bool k => gChain q fc k y ρ s
  | _ => .bad := rfl
theorem ap_noPart (ρ : Mir.Env) (s : Sto) : Mir.noPart ρ s = .ok none s := rfl
theorem ap_aPart (fa : ME) (ρ : Mir.Env) (s : Sto) : Mir.aPart fa ρ s = (fa ρ s).bind fun x s => match x with
  | .int i => .ok (some i) s
  | _ => .bad := rfl
theorem ap_cComp (it : MD) (tg : MG) (m : MT) (fe : ME) (own : List Nat) (ρ : Mir.Env) (s : Sto) : Mir.cComp it tg m fe own ρ s = (it ρ s).bind fun ds s => if ds.length ≤ 100000 then compL tg m fe (wipeE ρ own) ds s else .bad := rfl
theorem ap_mFor (it : MD) (tg : MG) (body : MS) (ρ : Mir.Env) (s : Sto) : Mir.mFor it tg body ρ s = toFl (it ρ s) fun ds s => forL tg body ds ρ s := rfl
theorem ap_eSlice (fa : ME) (fl fh : Mir.Env → Sto → Out (Option Int)) (ρ : Mir.Env) (s : Sto) : eSlice fa fl fh ρ s = (fa ρ s).bind fun x s => (fl ρ s).bind fun lo s => (fh ρ s).bind fun hi s => gSl x lo hi s := rfl
theorem ap_mkF (k : Nat) (g : MS) (as : List Sl) (s : Sto) : mkF k g as s = fin s.length (g (env0 k as) s) := rfl
theorem ap_mkC (k : Nat) (g : MS) (as : List Sl) (s : Sto) : mkC k g as s = finC s.length (g (env0 k as) s) := rfl
theorem take_hats {s s' : Sto} (h : s'.length = s.length) : s'.take s.length = s' := by rw [← h, List.take_length]
/-! ap end -/
def isTup : PyData → Bool
  | .tuple _ => true
  | _ => false
def isLst : PyData → Bool
  | .list _ => true
  | _ => false
def isNum : PyData → Bool
  | .int _ => true
  | .bool _ => true
  | _ => false
def isBol : PyData → Bool
  | .bool _ => true
  | _ => false
def isInt : PyData → Bool
  | .int _ => true
  | _ => false
theorem eIsi_tuple (fa : ME) (ρ : Mir.Env) (s : Sto) : eIsi "tuple" fa ρ s = (fa ρ s).bind fun x s => .ok (.bool (isTup x)) s := by
  unfold eIsi
  congr 1
  funext x s
  cases x <;> first | rfl | (rename_i kvs; rcases kvs with _ | ⟨⟨k, z⟩, t⟩ <;> first | rfl | (cases k <;> rfl))
theorem eIsi_int (fa : ME) (ρ : Mir.Env) (s : Sto) : eIsi "int" fa ρ s = (fa ρ s).bind fun x s => .ok (.bool (isNum x)) s := by
  unfold eIsi
  congr 1
  funext x s
  cases x <;> first | rfl | (rename_i kvs; rcases kvs with _ | ⟨⟨k, z⟩, t⟩ <;> first | rfl | (cases k <;> rfl))
theorem eIsi_bool (fa : ME) (ρ : Mir.Env) (s : Sto) : eIsi "bool" fa ρ s = (fa ρ s).bind fun x s => .ok (.bool (isBol x)) s := by
  unfold eIsi
  congr 1
  funext x s
  cases x <;> first | rfl | (rename_i kvs; rcases kvs with _ | ⟨⟨k, z⟩, t⟩ <;> first | rfl | (cases k <;> rfl))
/-- a comprehension whose parts change nothing -/
theorem compL_filter {tg : MG} {m : MT} {fe : ME} {ρ : Mir.Env} {s : Sto} {p : PyData → Bool} {f : PyData → PyData} : ∀ {ds : List PyData},
    (∀ d ∈ ds, ∃ ρ1, tg d ρ = some ρ1 ∧ m ρ1 s = .ok (p d) s ∧ (p d = true → fe ρ1 s = .ok (f d) s)) → compL tg m fe ρ ds s = .ok ((ds.filter p).map f) s
  | [], _ => rfl
  | d :: ds, h => by
    have ih := compL_filter (ds := ds) fun x hx => h x (List.mem_cons_of_mem _ hx)
    obtain ⟨ρ1, e1, e2, e3⟩ := h d (List.mem_cons_self ..)
    unfold compL
    rw [e1]
    simp only [e2, Out.bind_ok]
    by_cases hp : p d = true
    · rw [if_pos hp, e3 hp]
      simp only [Out.bind_ok, ih, List.filter_cons, hp, if_true, List.map_cons]
    · rw [if_neg hp, ih]
      simp only [List.filter_cons, if_neg hp]
theorem compL_map {tg : MG} {fe : ME} {ρ : Mir.Env} {s : Sto} {f : PyData → PyData} {ds : List PyData}
    (h : ∀ d ∈ ds, ∃ ρ1, tg d ρ = some ρ1 ∧ fe ρ1 s = .ok (f d) s) : compL tg mYes fe ρ ds s = .ok (ds.map f) s := by
  have q := compL_filter (m := mYes) (p := fun _ => true) (tg := tg) (fe := fe) (ρ := ρ) (s := s) (f := f) (ds := ds) fun d hd => by
    obtain ⟨ρ1, e1, e2⟩ := h d hd
    exact ⟨ρ1, e1, rfl, fun _ => e2⟩
  rw [q, List.filter_eq_self.mpr fun _ _ => rfl]
theorem comp_filter {it : MD} {k : Nat} {m : MT} {fe : ME} {ρ : Mir.Env} {s : Sto} (p : PyData → Bool) (f : PyData → PyData) {ds : List PyData} (hi : it ρ s = .ok ds s) (hl : ds.length ≤ 100000)
    (h : ∀ d ∈ ds, m ((wipeE ρ [k]).set k (some (.d d))) s = .ok (p d) s ∧ (p d = true → fe ((wipeE ρ [k]).set k (some (.d d))) s = .ok (f d) s)) :
    cComp it (gNm k) m fe [k] ρ s = .ok ((ds.filter p).map f) s := by
  unfold cComp
  rw [hi, Out.bind_ok, if_pos hl]
  exact compL_filter fun d hd => ⟨_, rfl, h d hd⟩
theorem comp_map {it : MD} {k : Nat} {fe : ME} {ρ : Mir.Env} {s : Sto} (f : PyData → PyData) {ds : List PyData} (hi : it ρ s = .ok ds s) (hl : ds.length ≤ 100000)
    (h : ∀ d ∈ ds, fe ((wipeE ρ [k]).set k (some (.d d))) s = .ok (f d) s) :
    cComp it (gNm k) mYes fe [k] ρ s = .ok (ds.map f) s := by
  unfold cComp
  rw [hi, Out.bind_ok, if_pos hl]
  exact compL_map fun d hd => ⟨_, rfl, h d hd⟩
theorem bols_map (f : PyData → Bool) : ∀ ds : List PyData, bolsOf (ds.map fun d => .bool (f d)) = some (ds.map f)
  | [] => rfl
  | d :: ds => by
    have ih := bols_map f ds
    simp only [List.map_cons, bolsOf, ih, Option.map_some]
theorem ints_map {α : Type} (f : α → Int) : ∀ ds : List α, intsOf (ds.map fun d => .int (f d)) = some (ds.map f)
  | [] => rfl
  | d :: ds => by
    have ih := ints_map f ds
    simp only [List.map_cons, intsOf, ih, Option.map_some]
theorem shaped_int (i : Int) : SeqAt.shaped (.int i) = true := by simp [SeqAt.shaped, PyData.canLay0, PyData.depth]
theorem shaped_bool (i : Bool) : SeqAt.shaped (.bool i) = true := by simp [SeqAt.shaped, PyData.canLay0, PyData.depth]
theorem shaped_none : SeqAt.shaped .none = true := by simp [SeqAt.shaped, PyData.canLay0, PyData.depth]
theorem gEq_int (neg : Bool) (i j : Int) (s : Sto) : gEq neg (.int i) (.int j) s = .ok (.bool (neg != decide (i = j))) s := by
  simp [gEq, shaped_int, PyData.eqv]
  rfl
theorem gEq_bool (neg : Bool) (i j : Bool) (s : Sto) : gEq neg (.bool i) (.bool j) s = .ok (.bool (neg != decide (i = j))) s := by
  simp [gEq, shaped_bool, PyData.eqv]
  cases i <;> cases j <;> rfl
theorem eqvAll_nil_left (xs : List PyData) : PyData.eqvAll xs [] = xs.isEmpty := by cases xs <;> rfl
end Math
/-! # data that can be compared -/
namespace Math
open PySem Mir
theorem canAll {xs : List PyData} : PyData.canLayAll0 xs = true ↔ ∀ x ∈ xs, PyData.canLay0 x = true := by
  induction xs with
  | nil => simp [PyData.canLayAll0]
  | cons x xs ih => simp [PyData.canLayAll0, ih]
theorem depthAll_le {xs : List PyData} {n : Nat} : PyData.depthAll xs ≤ n ↔ ∀ x ∈ xs, PyData.depth x ≤ n := by
  induction xs with
  | nil => simp [PyData.depthAll]
  | cons x xs ih => simp [PyData.depthAll, ih, Nat.max_le]
/-- comparable, and n deep at most -/
def Sh (n : Nat) (v : PyData) : Prop := v.canLay0 = true ∧ v.depth ≤ n
theorem Sh.shaped {n : Nat} {v : PyData} (h : Sh n v) (hn : n ≤ 64) : SeqAt.shaped v = true := by
  unfold SeqAt.shaped
  rw [h.1, decide_eq_true (Nat.le_trans h.2 hn)]
  rfl
theorem Sh.mono {m n : Nat} {v : PyData} (h : Sh m v) (hn : m ≤ n) : Sh n v := ⟨h.1, Nat.le_trans h.2 hn⟩
theorem sh_tuple {n : Nat} {xs : List PyData} : Sh (n + 1) (.tuple xs) ↔ ∀ x ∈ xs, Sh n x := by
  simp only [Sh, PyData.canLay0, PyData.depth, canAll, Nat.add_le_add_iff_right, depthAll_le]
  exact ⟨fun h x hx => ⟨h.1 x hx, h.2 x hx⟩, fun h => ⟨fun x hx => (h x hx).1, fun x hx => (h x hx).2⟩⟩
theorem sh_list {n : Nat} {xs : List PyData} : Sh (n + 1) (.list xs) ↔ ∀ x ∈ xs, Sh n x := by
  simp only [Sh, PyData.canLay0, PyData.depth, canAll, Nat.add_le_add_iff_right, depthAll_le]
  exact ⟨fun h x hx => ⟨h.1 x hx, h.2 x hx⟩, fun h => ⟨fun x hx => (h x hx).1, fun x hx => (h x hx).2⟩⟩
theorem sh_int {n : Nat} (i : Int) : Sh n (.int i) := by simp [Sh, PyData.canLay0, PyData.depth]
theorem sh_bool {n : Nat} (b : Bool) : Sh n (.bool b) := by simp [Sh, PyData.canLay0, PyData.depth]
theorem sh_none {n : Nat} : Sh n .none := by simp [Sh, PyData.canLay0, PyData.depth]
theorem gEq_nil {neg : Bool} {xs : List PyData} {s : Sto} (h : Sh 64 (.list xs)) : gEq neg (.list xs) (.list []) s = .ok (.bool (neg != xs.isEmpty)) s := by
  have h2 : SeqAt.shaped (.list []) = true := by simp [SeqAt.shaped, PyData.canLay0, PyData.canLayAll0, PyData.depth, PyData.depthAll]
  unfold gEq
  rw [if_pos ⟨h.shaped (Nat.le_refl _), h2⟩]
  cases xs <;> simp [PyData.eqv, PyData.eqvAll]
theorem gEq_sh {neg : Bool} {x y : PyData} {s : Sto} (hx : Sh 64 x) (hy : Sh 64 y) : gEq neg x y s = .ok (.bool (neg != PyData.eqv x y)) s := by
  unfold gEq
  rw [if_pos ⟨hx.shaped (Nat.le_refl _), hy.shaped (Nat.le_refl _)⟩]
end Math
/-! # the draws of a law -/
namespace Math
open PySem Mir Fn
/-- the cell n holds three integers -/
def Hat (n : Nat) (s : Sto) : Prop := ∃ x y z : Int, s[n]? = some [.int x, .int y, .int z]
/-- s' is s but for the cell n, that holds three integers -/
def Hats (n : Nat) (s s' : Sto) : Prop := ∃ x y z : Int, s' = s.set n [.int x, .int y, .int z]
theorem Hat.lt {n : Nat} {s : Sto} (h : Hat n s) : n < s.length := by
  obtain ⟨x, y, z, h⟩ := h
  exact (List.getElem?_eq_some_iff.mp h).1
theorem Hats.hat {n : Nat} {s s' : Sto} (h : Hat n s) (e : Hats n s s') : Hat n s' := by
  obtain ⟨x, y, z, rfl⟩ := e
  exact ⟨x, y, z, List.getElem?_set_self h.lt⟩
theorem Hats.refl {n : Nat} {s : Sto} (h : Hat n s) : Hats n s s := by
  obtain ⟨x, y, z, h⟩ := h
  refine ⟨x, y, z, ?_⟩
  apply List.ext_getElem?
  intro i
  rw [List.getElem?_set]
  split
  · rename_i e
    subst e
    rw [h]
    split
    · rfl
    · rename_i k
      exact absurd (List.getElem?_eq_some_iff.mp h).1 k
  · rfl
theorem Hats.trans {n : Nat} {s s1 s2 : Sto} (h1 : Hats n s s1) (h2 : Hats n s1 s2) : Hats n s s2 := by
  obtain ⟨x, y, z, rfl⟩ := h1
  obtain ⟨x', y', z', rfl⟩ := h2
  exact ⟨x', y', z', by rw [List.set_set]⟩
theorem Hats.len {n : Nat} {s s' : Sto} (e : Hats n s s') : s'.length = s.length := by
  obtain ⟨x, y, z, rfl⟩ := e
  rw [List.length_set]
theorem Hats.other {n i : Nat} {s s' : Sto} (e : Hats n s s') (h : i ≠ n) : s'[i]? = s[i]? := by
  obtain ⟨x, y, z, rfl⟩ := e
  exact List.getElem?_set_ne (Ne.symm h)
@[simp] theorem take_set {n : Nat} {s : Sto} {v : List PyData} : (s.set n v).take s.length = s.set n v := List.take_of_length_le (by simp)
theorem take_set' {n k : Nat} {s : Sto} {v : List PyData} (h : s.length = k) : (s.set n v).take k = s.set n v := List.take_of_length_le (by simp [h])
theorem up_to {n : Nat} {s : Sto} {m : Int} (h : Hat n s) (hm : 0 < m) (hb : m.natAbs.log2 < 9000) :
    ∃ (r : Int) (s' : Sto), 0 ≤ r ∧ r < m ∧ Hats n s s' ∧ run_law_up_to [.c n, .d (.int m)] s = .ok (.int r) s' := by
  have hn := h.lt
  obtain ⟨x, y, z, e⟩ := h
  have e1 : s[n] = [.int x, .int y, .int z] := (List.getElem?_eq_some_iff.mp e).2
  have m0 : m ≠ 0 := by omega
  by_cases c : 0 < x
  · refine ⟨x % m, s.set n [.int (x.fdiv m), .int y, .int z], Int.emod_nonneg _ m0, Int.emod_lt_of_pos _ hm, ⟨_, _, _, rfl⟩, ?_⟩
    simp [run_law_up_to, mkF, env0, fin, mSeq, mIf, mE, mSet, mRet, mPut, Mir.putAt, eBin, eIx, eC, eVar, lVar, eSl, eL, Out.bind, gIx, seqOf, gCmp, gI, gInt, L2.atI, L2.ixN, e1, c, hm, CDivB, m0, hb, hn]
  · let one : Int := (y + 86028157 * (z + 1)) % 2305843009213693951
    refine ⟨(((one * one + 67867967) % 2305843009213693921 * 15485863 + one + 19 * (z + 1)).fdiv 65539) % m, s.set n [.int x, .int y, .int (z + 1)], Int.emod_nonneg _ m0, Int.emod_lt_of_pos _ hm, ⟨_, _, _, rfl⟩, ?_⟩
    have hone : one.natAbs < 2 ^ 64 := by
      have h0 := Int.emod_nonneg (y + 86028157 * (z + 1)) (b := 2305843009213693951) (by decide)
      have h1 := Int.emod_lt_of_pos (y + 86028157 * (z + 1)) (b := 2305843009213693951) (by decide)
      have : one = (y + 86028157 * (z + 1)) % 2305843009213693951 := rfl
      omega
    have hone' : ((y + 86028157 * (z + 1)) % 2305843009213693951).natAbs < 18446744073709551616 := hone
    have hl : Nat.log2 65539 < 9000 := by decide
    simp [run_law_up_to, mkF, env0, fin, mSeq, mIf, mE, mSet, mRet, mPut, mNil, Mir.putAt, eBin, eIx, eC, eVar, lVar, eSl, eL, Out.bind, gIx, seqOf, gCmp, gI, gInt, gAdd, gMulA, L2.atI, L2.ixN, e1, c, hm, CDivB, CMulB, m0, hb, hn, hone', hl, one]
theorem out_of {n : Nat} {s : Sto} {ds : List PyData} (h : Hat n s) (hl : ds ≠ []) (hb : ds.length < 2 ^ 64) :
    ∃ (d : PyData) (s' : Sto), d ∈ ds ∧ Hats n s s' ∧ run_law_out_of [.c n, .d (.list ds)] s = .ok d s' := by
  have hp : 0 < ds.length := List.length_pos_iff.mpr hl
  have hlog : ((ds.length : Int)).natAbs.log2 < 9000 := by
    have : (ds.length).log2 < 64 := (Nat.log2_lt (by omega)).mpr hb
    simp only [Int.natAbs_natCast]
    omega
  obtain ⟨r, s', h0, h1, hs, e⟩ := up_to (m := (ds.length : Int)) h (by omega) hlog
  obtain ⟨k, rfl⟩ := Int.eq_ofNat_of_zero_le h0
  have hk : k < ds.length := by omega
  refine ⟨ds[k], s', List.getElem_mem hk, hs, ?_⟩
  have hlen := hs.len
  simp [run_law_out_of, mkF, env0, fin, mRet, eIx, eVar, lVar, eSl, eL, eCall, aCons, aNil, gLen, seqOf, gIx, L2.atI, L2.ixN, Out.bind, e, hk]
  rw [← hlen, List.take_length]
end Math
/-! # small numbers -/
namespace Math
open PySem Mir Fn
theorem small_nat {r : Int} {k : Nat} (h0 : 0 ≤ r) (h1 : r < k) : ∃ m : Nat, r = m ∧ m < k := by
  obtain ⟨m, rfl⟩ := Int.eq_ofNat_of_zero_le h0
  exact ⟨m, rfl, by omega⟩
theorem rangeOf_eq (n : Nat) : rangeOf 0 n = (List.range n).map fun i => .int (i : Nat) := by
  unfold rangeOf
  refine List.map_congr_left fun i _ => ?_
  rw [Int.zero_add]
end Math
/-! # integers judged -/
namespace Math
open PySem Mir Fn
def isShort : PyData → Bool
  | .int i => decide (i.natAbs < 1000000000000)
  | _ => false
theorem abs_lt {i : Int} {n : Nat} : (if i < 0 then -i else i) < (n : Int) ↔ i.natAbs < n := by
  split <;> omega
theorem long_integer (v : PyData) (s : Sto) : run_is_long_integer [.d v] s = .ok (.bool (isInt v)) s := by
  cases v with
  | bool b => cases b <;> simp -implicitDefEqProofs [Math.ap_eVar, Math.ap_lVar, Math.ap_eC, Math.ap_eL, Math.ap_eUn, Math.ap_eBin, Math.ap_eAnd, Math.ap_eOr, Math.ap_eNot, Math.ap_mE, Math.ap_mNot, Math.ap_mAnd, Math.ap_mOr, Math.ap_eIf, Math.ap_aNil, Math.ap_aCons, Math.ap_dNil, Math.ap_dCons, Math.ap_eTup, Math.ap_cLst, Math.ap_eFr, Math.ap_eIx, Math.ap_eSl, Math.ap_cList, Math.ap_eCall, Math.ap_cCall, Math.ap_mSeq, Math.ap_mNil, Math.ap_mSet, Math.ap_mSetC, Math.ap_mRet, Math.ap_mRetN, Math.ap_mRetL, Math.ap_mDrop, Math.ap_mIf, Math.ap_mNever, Math.ap_mPar, Math.ap_mPar3, Math.ap_mPut, Math.ap_mApp, Math.ap_mTo, Math.ap_mYes, Math.ap_iSq, Math.ap_iZp, Math.ap_iEn, Math.ap_mRetC, Math.ap_eCh, Math.ap_noPart, Math.ap_aPart, Math.ap_eSlice, Math.ap_mkF, Math.ap_mkC, Mir.env0, Mir.fin, Mir.finC, Mir.thenDo, Mir.toFl, Mir.wipeE, Mir.itemsOf, Mir.orBad, Mir.gNm, Mir.gTp, Mir.gNms, Mir.Out.bind, Mir.gIx, Mir.seqOf, Mir.gLen, Mir.gTuple, Mir.gAbs, Mir.gInt, Mir.gCmp, Mir.gI, Mir.gAdd, Mir.gSub, Mir.gNeg, Mir.gBols, Mir.gInts, Mir.gChain, Mir.nxO, Mir.putAt, Mir.appAt, Mir.isC, L2.atI, L2.ixN, Math.eIsi_tuple, Math.eIsi_int, Math.eIsi_bool, Math.gEq_int, Math.gEq_bool, run_is_long_integer, isNum, isInt, Mir.gIs]
  | _ => simp -implicitDefEqProofs [Math.ap_eVar, Math.ap_lVar, Math.ap_eC, Math.ap_eL, Math.ap_eUn, Math.ap_eBin, Math.ap_eAnd, Math.ap_eOr, Math.ap_eNot, Math.ap_mE, Math.ap_mNot, Math.ap_mAnd, Math.ap_mOr, Math.ap_eIf, Math.ap_aNil, Math.ap_aCons, Math.ap_dNil, Math.ap_dCons, Math.ap_eTup, Math.ap_cLst, Math.ap_eFr, Math.ap_eIx, Math.ap_eSl, Math.ap_cList, Math.ap_eCall, Math.ap_cCall, Math.ap_mSeq, Math.ap_mNil, Math.ap_mSet, Math.ap_mSetC, Math.ap_mRet, Math.ap_mRetN, Math.ap_mRetL, Math.ap_mDrop, Math.ap_mIf, Math.ap_mNever, Math.ap_mPar, Math.ap_mPar3, Math.ap_mPut, Math.ap_mApp, Math.ap_mTo, Math.ap_mYes, Math.ap_iSq, Math.ap_iZp, Math.ap_iEn, Math.ap_mRetC, Math.ap_eCh, Math.ap_noPart, Math.ap_aPart, Math.ap_eSlice, Math.ap_mkF, Math.ap_mkC, Mir.env0, Mir.fin, Mir.finC, Mir.thenDo, Mir.toFl, Mir.wipeE, Mir.itemsOf, Mir.orBad, Mir.gNm, Mir.gTp, Mir.gNms, Mir.Out.bind, Mir.gIx, Mir.seqOf, Mir.gLen, Mir.gTuple, Mir.gAbs, Mir.gInt, Mir.gCmp, Mir.gI, Mir.gAdd, Mir.gSub, Mir.gNeg, Mir.gBols, Mir.gInts, Mir.gChain, Mir.nxO, Mir.putAt, Mir.appAt, Mir.isC, L2.atI, L2.ixN, Math.eIsi_tuple, Math.eIsi_int, Math.eIsi_bool, Math.gEq_int, Math.gEq_bool, run_is_long_integer, isNum, isInt, Mir.gIs]
theorem integer (v : PyData) (s : Sto) : run_is_integer [.d v] s = .ok (.bool (isShort v)) s := by
  cases v <;> simp -implicitDefEqProofs [Math.ap_eVar, Math.ap_lVar, Math.ap_eC, Math.ap_eL, Math.ap_eUn, Math.ap_eBin, Math.ap_eAnd, Math.ap_eOr, Math.ap_eNot, Math.ap_mE, Math.ap_mNot, Math.ap_mAnd, Math.ap_mOr, Math.ap_eIf, Math.ap_aNil, Math.ap_aCons, Math.ap_dNil, Math.ap_dCons, Math.ap_eTup, Math.ap_cLst, Math.ap_eFr, Math.ap_eIx, Math.ap_eSl, Math.ap_cList, Math.ap_eCall, Math.ap_cCall, Math.ap_mSeq, Math.ap_mNil, Math.ap_mSet, Math.ap_mSetC, Math.ap_mRet, Math.ap_mRetN, Math.ap_mRetL, Math.ap_mDrop, Math.ap_mIf, Math.ap_mNever, Math.ap_mPar, Math.ap_mPar3, Math.ap_mPut, Math.ap_mApp, Math.ap_mTo, Math.ap_mYes, Math.ap_iSq, Math.ap_iZp, Math.ap_iEn, Math.ap_mRetC, Math.ap_eCh, Math.ap_noPart, Math.ap_aPart, Math.ap_eSlice, Math.ap_mkF, Math.ap_mkC, Mir.env0, Mir.fin, Mir.finC, Mir.thenDo, Mir.toFl, Mir.wipeE, Mir.itemsOf, Mir.orBad, Mir.gNm, Mir.gTp, Mir.gNms, Mir.Out.bind, Mir.gIx, Mir.seqOf, Mir.gLen, Mir.gTuple, Mir.gAbs, Mir.gInt, Mir.gCmp, Mir.gI, Mir.gAdd, Mir.gSub, Mir.gNeg, Mir.gBols, Mir.gInts, Mir.gChain, Mir.nxO, Mir.putAt, Mir.appAt, Mir.isC, L2.atI, L2.ixN, Math.eIsi_tuple, Math.eIsi_int, Math.eIsi_bool, Math.gEq_int, Math.gEq_bool, run_is_integer, long_integer, isInt, isShort]
  rename_i i
  exact abs_lt (n := 1000000000000)
end Math
/-! # which values are integers, rows, grids -/
namespace Math
open PySem Mir Fn
def isBetween (a b : Int) : PyData → Bool
  | .int i => decide (i.natAbs < 1000000000000) && decide (a ≤ i) && decide (i ≤ b)
  | _ => false
def isLongRow : PyData → Bool
  | .tuple ds => decide (ds.length ≤ 60) && ds.all isInt
  | _ => false
def isRow : PyData → Bool
  | .tuple ds => decide (ds.length ≤ 60) && ds.all isShort
  | _ => false
/-- a row's length is n -/
def hasLen (n : Int) : PyData → Bool
  | .tuple ds => decide ((ds.length : Int) = n)
  | _ => false
def lenIs : PyData → PyData → Bool
  | .int n, r => hasLen n r
  | _, _ => false
def isLongGrid : PyData → Bool
  | .tuple [w, .tuple rows] => isBetween 0 60 w && decide (rows.length ≤ 60) && rows.all fun r => isLongRow r && lenIs w r
  | _ => false
def isGrid : PyData → Bool
  | .tuple [w, .tuple rows] => isBetween 0 60 w && decide (rows.length ≤ 60) && rows.all fun r => isRow r && lenIs w r
  | _ => false
/-- what the items of a comprehension are asked: an int, and no truth value -/
theorem are_long {s : Sto} {ds : List PyData} (hl : ds.length ≤ 100000) : run_are_long_integers [.d (.tuple ds)] s = .ok (.bool (ds.all isInt)) s := by
  have c : cComp (iSq (eVar 0)) (gNm 1) mYes (eAnd (eIsi "int" (eVar 1)) (eAnd (eBin (Mir.gIs true) (eVar 1) (eC (.bool true))) (eBin (Mir.gIs true) (eVar 1) (eC (.bool false))))) [1] [some (.d (.tuple ds)), none] s = .ok (ds.map fun d => .bool (isInt d)) s :=
    comp_map _ rfl hl fun d _ => by
      cases d with
      | bool b => cases b <;> simp -implicitDefEqProofs [Math.ap_eVar, Math.ap_lVar, Math.ap_eC, Math.ap_eL, Math.ap_eUn, Math.ap_eBin, Math.ap_eAnd, Math.ap_eOr, Math.ap_eNot, Math.ap_mE, Math.ap_mNot, Math.ap_mAnd, Math.ap_mOr, Math.ap_eIf, Math.ap_aNil, Math.ap_aCons, Math.ap_dNil, Math.ap_dCons, Math.ap_eTup, Math.ap_cLst, Math.ap_eFr, Math.ap_eIx, Math.ap_eSl, Math.ap_cList, Math.ap_eCall, Math.ap_cCall, Math.ap_mSeq, Math.ap_mNil, Math.ap_mSet, Math.ap_mSetC, Math.ap_mRet, Math.ap_mRetN, Math.ap_mRetL, Math.ap_mDrop, Math.ap_mIf, Math.ap_mNever, Math.ap_mPar, Math.ap_mPar3, Math.ap_mPut, Math.ap_mApp, Math.ap_mTo, Math.ap_mYes, Math.ap_iSq, Math.ap_iZp, Math.ap_iEn, Math.ap_mRetC, Math.ap_eCh, Math.ap_noPart, Math.ap_aPart, Math.ap_eSlice, Math.ap_mkF, Math.ap_mkC, Mir.env0, Mir.fin, Mir.finC, Mir.thenDo, Mir.toFl, Mir.wipeE, Mir.itemsOf, Mir.orBad, Mir.gNm, Mir.gTp, Mir.gNms, Mir.Out.bind, Mir.gIx, Mir.seqOf, Mir.gLen, Mir.gTuple, Mir.gAbs, Mir.gInt, Mir.gCmp, Mir.gI, Mir.gAdd, Mir.gSub, Mir.gNeg, Mir.gBols, Mir.gInts, Mir.gChain, Mir.nxO, Mir.putAt, Mir.appAt, Mir.isC, L2.atI, L2.ixN, Math.eIsi_tuple, Math.eIsi_int, Math.eIsi_bool, Math.gEq_int, Math.gEq_bool, isNum, isInt, Mir.gIs]
      | _ => simp -implicitDefEqProofs [Math.ap_eVar, Math.ap_lVar, Math.ap_eC, Math.ap_eL, Math.ap_eUn, Math.ap_eBin, Math.ap_eAnd, Math.ap_eOr, Math.ap_eNot, Math.ap_mE, Math.ap_mNot, Math.ap_mAnd, Math.ap_mOr, Math.ap_eIf, Math.ap_aNil, Math.ap_aCons, Math.ap_dNil, Math.ap_dCons, Math.ap_eTup, Math.ap_cLst, Math.ap_eFr, Math.ap_eIx, Math.ap_eSl, Math.ap_cList, Math.ap_eCall, Math.ap_cCall, Math.ap_mSeq, Math.ap_mNil, Math.ap_mSet, Math.ap_mSetC, Math.ap_mRet, Math.ap_mRetN, Math.ap_mRetL, Math.ap_mDrop, Math.ap_mIf, Math.ap_mNever, Math.ap_mPar, Math.ap_mPar3, Math.ap_mPut, Math.ap_mApp, Math.ap_mTo, Math.ap_mYes, Math.ap_iSq, Math.ap_iZp, Math.ap_iEn, Math.ap_mRetC, Math.ap_eCh, Math.ap_noPart, Math.ap_aPart, Math.ap_eSlice, Math.ap_mkF, Math.ap_mkC, Mir.env0, Mir.fin, Mir.finC, Mir.thenDo, Mir.toFl, Mir.wipeE, Mir.itemsOf, Mir.orBad, Mir.gNm, Mir.gTp, Mir.gNms, Mir.Out.bind, Mir.gIx, Mir.seqOf, Mir.gLen, Mir.gTuple, Mir.gAbs, Mir.gInt, Mir.gCmp, Mir.gI, Mir.gAdd, Mir.gSub, Mir.gNeg, Mir.gBols, Mir.gInts, Mir.gChain, Mir.nxO, Mir.putAt, Mir.appAt, Mir.isC, L2.atI, L2.ixN, Math.eIsi_tuple, Math.eIsi_int, Math.eIsi_bool, Math.gEq_int, Math.gEq_bool, isNum, isInt, Mir.gIs]
  simp -implicitDefEqProofs [Math.ap_eVar, Math.ap_lVar, Math.ap_eC, Math.ap_eL, Math.ap_eUn, Math.ap_eBin, Math.ap_eAnd, Math.ap_eOr, Math.ap_eNot, Math.ap_mE, Math.ap_mNot, Math.ap_mAnd, Math.ap_mOr, Math.ap_eIf, Math.ap_aNil, Math.ap_aCons, Math.ap_dNil, Math.ap_dCons, Math.ap_eTup, Math.ap_cLst, Math.ap_eFr, Math.ap_eIx, Math.ap_eSl, Math.ap_cList, Math.ap_eCall, Math.ap_cCall, Math.ap_mSeq, Math.ap_mNil, Math.ap_mSet, Math.ap_mSetC, Math.ap_mRet, Math.ap_mRetN, Math.ap_mRetL, Math.ap_mDrop, Math.ap_mIf, Math.ap_mNever, Math.ap_mPar, Math.ap_mPar3, Math.ap_mPut, Math.ap_mApp, Math.ap_mTo, Math.ap_mYes, Math.ap_iSq, Math.ap_iZp, Math.ap_iEn, Math.ap_mRetC, Math.ap_eCh, Math.ap_noPart, Math.ap_aPart, Math.ap_eSlice, Math.ap_mkF, Math.ap_mkC, Mir.env0, Mir.fin, Mir.finC, Mir.thenDo, Mir.toFl, Mir.wipeE, Mir.itemsOf, Mir.orBad, Mir.gNm, Mir.gTp, Mir.gNms, Mir.Out.bind, Mir.gIx, Mir.seqOf, Mir.gLen, Mir.gTuple, Mir.gAbs, Mir.gInt, Mir.gCmp, Mir.gI, Mir.gAdd, Mir.gSub, Mir.gNeg, Mir.gBols, Mir.gInts, Mir.gChain, Mir.nxO, Mir.putAt, Mir.appAt, Mir.isC, L2.atI, L2.ixN, Math.eIsi_tuple, Math.eIsi_int, Math.eIsi_bool, Math.gEq_int, Math.gEq_bool, run_are_long_integers, c, bols_map]
def itemsD : PyData → List PyData
  | .tuple ds => ds
  | _ => []
theorem compL2_map {i : Nat} {it1 : MD} {tg1 : MG} {fe : ME} {vs1 : List Nat} {ρ : Mir.Env} {s : Sto} (g f : PyData → List PyData) : ∀ rows : List PyData,
    (∀ r ∈ rows, it1 (ρ.set i (some (.d r))) s = .ok (g r) s ∧ compL tg1 mYes fe (wipeE (ρ.set i (some (.d r))) vs1) (g r) s = .ok (f r) s) → compL2 (gNm i) mYes it1 tg1 mYes fe vs1 ρ rows s = .ok (rows.flatMap f) s
  | [], _ => rfl
  | r :: rows, h => by
    have ih := compL2_map (i := i) (it1 := it1) (tg1 := tg1) (fe := fe) (vs1 := vs1) (ρ := ρ) (s := s) g f rows fun x hx => h x (List.mem_cons_of_mem _ hx)
    obtain ⟨e1, e2⟩ := h r List.mem_cons_self
    have eg : gNm i r ρ = some (ρ.set i (some (.d r))) := rfl
    unfold compL2
    rw [eg]
    simp only [mYes, Out.bind_ok, if_true, e1]
    have e2' : compL tg1 (fun ρ s => Out.ok true s) fe (wipeE (ρ.set i (some (.d r))) vs1) (g r) s = .ok (f r) s := e2
    first
      | rw [e2', Out.bind_ok]
      | rw [e2, Out.bind_ok]
    have ih' : compL2 (gNm i) (fun ρ s => Out.ok true s) it1 tg1 (fun ρ s => Out.ok true s) fe vs1 ρ rows s = .ok (rows.flatMap f) s := ih
    first
      | rw [ih', Out.bind_ok]
      | rw [ih, Out.bind_ok]
    rfl
theorem flat_length {rows : List PyData} {n : Nat} (h : ∀ r ∈ rows, (itemsD r).length ≤ n) : (rows.flatMap itemsD).length ≤ rows.length * n := by
  induction rows with
  | nil => simp
  | cons r rows ih =>
    have h1 := h r List.mem_cons_self
    have h2 := ih fun x hx => h x (List.mem_cons_of_mem _ hx)
    rw [List.flatMap_cons, List.length_append, List.length_cons, Nat.add_mul]
    omega
theorem have_ints {s : Sto} {rows : List PyData} (hr : rows.length ≤ 60) (ht : ∀ r ∈ rows, ∃ es, r = .tuple es ∧ es.length ≤ 60) : run_have_integers [.d (.tuple rows)] s = .ok (.bool ((rows.flatMap itemsD).all isInt)) s := by
  have hf : (rows.flatMap itemsD).length ≤ rows.length * 60 := flat_length fun r m => by
    obtain ⟨es, rfl, hl⟩ := ht r m
    exact hl
  have e1 := compL2_map (i := 1) (it1 := iSq (eVar 1)) (tg1 := gNm 2) (fe := eAnd (eIsi "int" (eVar 2)) (eAnd (eBin (Mir.gIs true) (eVar 2) (eC (.bool true))) (eBin (Mir.gIs true) (eVar 2) (eC (.bool false))))) (vs1 := [2])
    (ρ := wipeE [some (.d (.tuple rows)), none, none] [1, 2]) (s := s) itemsD (fun r => (itemsD r).map fun d => .bool (isInt d)) rows fun r m => by
    obtain ⟨es, rfl, hl⟩ := ht r m
    refine ⟨rfl, compL_map fun d _ => ⟨_, rfl, ?_⟩⟩
    cases d with
    | bool b => cases b <;> simp -implicitDefEqProofs [Math.ap_eVar, Math.ap_lVar, Math.ap_eC, Math.ap_eL, Math.ap_eUn, Math.ap_eBin, Math.ap_eAnd, Math.ap_eOr, Math.ap_eNot, Math.ap_mE, Math.ap_mNot, Math.ap_mAnd, Math.ap_mOr, Math.ap_eIf, Math.ap_aNil, Math.ap_aCons, Math.ap_dNil, Math.ap_dCons, Math.ap_eTup, Math.ap_cLst, Math.ap_eFr, Math.ap_eIx, Math.ap_eSl, Math.ap_cList, Math.ap_eCall, Math.ap_cCall, Math.ap_mSeq, Math.ap_mNil, Math.ap_mSet, Math.ap_mSetC, Math.ap_mRet, Math.ap_mRetN, Math.ap_mRetL, Math.ap_mDrop, Math.ap_mIf, Math.ap_mNever, Math.ap_mPar, Math.ap_mPar3, Math.ap_mPut, Math.ap_mApp, Math.ap_mTo, Math.ap_mYes, Math.ap_iSq, Math.ap_iZp, Math.ap_iEn, Math.ap_mRetC, Math.ap_eCh, Math.ap_noPart, Math.ap_aPart, Math.ap_eSlice, Math.ap_mkF, Math.ap_mkC, Mir.env0, Mir.fin, Mir.finC, Mir.thenDo, Mir.toFl, Mir.wipeE, Mir.itemsOf, Mir.orBad, Mir.gNm, Mir.gTp, Mir.gNms, Mir.Out.bind, Mir.gIx, Mir.seqOf, Mir.gLen, Mir.gTuple, Mir.gAbs, Mir.gInt, Mir.gCmp, Mir.gI, Mir.gAdd, Mir.gSub, Mir.gNeg, Mir.gBols, Mir.gInts, Mir.gChain, Mir.nxO, Mir.putAt, Mir.appAt, Mir.isC, L2.atI, L2.ixN, Math.eIsi_tuple, Math.eIsi_int, Math.eIsi_bool, Math.gEq_int, Math.gEq_bool, isNum, isInt, Mir.gIs]
    | _ => simp -implicitDefEqProofs [Math.ap_eVar, Math.ap_lVar, Math.ap_eC, Math.ap_eL, Math.ap_eUn, Math.ap_eBin, Math.ap_eAnd, Math.ap_eOr, Math.ap_eNot, Math.ap_mE, Math.ap_mNot, Math.ap_mAnd, Math.ap_mOr, Math.ap_eIf, Math.ap_aNil, Math.ap_aCons, Math.ap_dNil, Math.ap_dCons, Math.ap_eTup, Math.ap_cLst, Math.ap_eFr, Math.ap_eIx, Math.ap_eSl, Math.ap_cList, Math.ap_eCall, Math.ap_cCall, Math.ap_mSeq, Math.ap_mNil, Math.ap_mSet, Math.ap_mSetC, Math.ap_mRet, Math.ap_mRetN, Math.ap_mRetL, Math.ap_mDrop, Math.ap_mIf, Math.ap_mNever, Math.ap_mPar, Math.ap_mPar3, Math.ap_mPut, Math.ap_mApp, Math.ap_mTo, Math.ap_mYes, Math.ap_iSq, Math.ap_iZp, Math.ap_iEn, Math.ap_mRetC, Math.ap_eCh, Math.ap_noPart, Math.ap_aPart, Math.ap_eSlice, Math.ap_mkF, Math.ap_mkC, Mir.env0, Mir.fin, Mir.finC, Mir.thenDo, Mir.toFl, Mir.wipeE, Mir.itemsOf, Mir.orBad, Mir.gNm, Mir.gTp, Mir.gNms, Mir.Out.bind, Mir.gIx, Mir.seqOf, Mir.gLen, Mir.gTuple, Mir.gAbs, Mir.gInt, Mir.gCmp, Mir.gI, Mir.gAdd, Mir.gSub, Mir.gNeg, Mir.gBols, Mir.gInts, Mir.gChain, Mir.nxO, Mir.putAt, Mir.appAt, Mir.isC, L2.atI, L2.ixN, Math.eIsi_tuple, Math.eIsi_int, Math.eIsi_bool, Math.gEq_int, Math.gEq_bool, isNum, isInt, Mir.gIs]
  have e2 : rows.flatMap (fun r => (itemsD r).map fun d => PyData.bool (isInt d)) = (rows.flatMap itemsD).map fun d => .bool (isInt d) := by rw [List.map_flatMap]
  rw [e2] at e1
  have c : cComp2 (iSq (eVar 0)) (gNm 1) mYes (iSq (eVar 1)) (gNm 2) mYes (eAnd (eIsi "int" (eVar 2)) (eAnd (eBin (Mir.gIs true) (eVar 2) (eC (.bool true))) (eBin (Mir.gIs true) (eVar 2) (eC (.bool false))))) [1, 2] [2] [some (.d (.tuple rows)), none, none] s = .ok ((rows.flatMap itemsD).map fun d => .bool (isInt d)) s := by
    unfold Mir.cComp2
    have e0 : iSq (eVar 0) [some (.d (.tuple rows)), none, none] s = .ok rows s := rfl
    rw [e0, Out.bind_ok, e1]
    simp only
    rw [if_pos (by rw [List.length_map]; omega)]
  simp -implicitDefEqProofs [Math.ap_eVar, Math.ap_lVar, Math.ap_eC, Math.ap_eL, Math.ap_eUn, Math.ap_eBin, Math.ap_eAnd, Math.ap_eOr, Math.ap_eNot, Math.ap_mE, Math.ap_mNot, Math.ap_mAnd, Math.ap_mOr, Math.ap_eIf, Math.ap_aNil, Math.ap_aCons, Math.ap_dNil, Math.ap_dCons, Math.ap_eTup, Math.ap_cLst, Math.ap_eFr, Math.ap_eIx, Math.ap_eSl, Math.ap_cList, Math.ap_eCall, Math.ap_cCall, Math.ap_mSeq, Math.ap_mNil, Math.ap_mSet, Math.ap_mSetC, Math.ap_mRet, Math.ap_mRetN, Math.ap_mRetL, Math.ap_mDrop, Math.ap_mIf, Math.ap_mNever, Math.ap_mPar, Math.ap_mPar3, Math.ap_mPut, Math.ap_mApp, Math.ap_mTo, Math.ap_mYes, Math.ap_iSq, Math.ap_iZp, Math.ap_iEn, Math.ap_mRetC, Math.ap_eCh, Math.ap_noPart, Math.ap_aPart, Math.ap_eSlice, Math.ap_mkF, Math.ap_mkC, Mir.env0, Mir.fin, Mir.finC, Mir.thenDo, Mir.toFl, Mir.wipeE, Mir.itemsOf, Mir.orBad, Mir.gNm, Mir.gTp, Mir.gNms, Mir.Out.bind, Mir.gIx, Mir.seqOf, Mir.gLen, Mir.gTuple, Mir.gAbs, Mir.gInt, Mir.gCmp, Mir.gI, Mir.gAdd, Mir.gSub, Mir.gNeg, Mir.gBols, Mir.gInts, Mir.gChain, Mir.nxO, Mir.putAt, Mir.appAt, Mir.isC, L2.atI, L2.ixN, Math.eIsi_tuple, Math.eIsi_int, Math.eIsi_bool, Math.gEq_int, Math.gEq_bool, run_have_integers, c, bols_map]
theorem foldl_max {b : Int} : ∀ (ns : List Int) (n : Int), ns.foldl max n < b ↔ n < b ∧ ∀ m ∈ ns, m < b
  | [], n => by simp
  | m :: ns, n => by
    have e : max n m < b ↔ n < b ∧ m < b := by omega
    rw [List.foldl_cons, foldl_max ns, e]
    simp only [List.mem_cons, forall_eq_or_imp, and_assoc]
theorem foldl_min {b : Int} : ∀ (ns : List Int) (n : Int), b < ns.foldl min n ↔ b < n ∧ ∀ m ∈ ns, b < m
  | [], n => by simp
  | m :: ns, n => by
    have e : b < min n m ↔ b < n ∧ b < m := by omega
    rw [List.foldl_cons, foldl_min ns, e]
    simp only [List.mem_cons, forall_eq_or_imp, and_assoc]
theorem maxI_lt {b : Int} (hb : 0 < b) (ns : List Int) : Mir.maxI 0 ns < b ↔ ∀ m ∈ ns, m < b := by
  cases ns with
  | nil => simpa [Mir.maxI] using hb
  | cons n ns =>
    show ns.foldl max n < b ↔ _
    rw [foldl_max]
    simp only [List.mem_cons, forall_eq_or_imp]
theorem minI_gt {b : Int} (hb : b < 0) (ns : List Int) : b < Mir.minI 0 ns ↔ ∀ m ∈ ns, b < m := by
  cases ns with
  | nil => simpa [Mir.minI] using hb
  | cons n ns =>
    show b < ns.foldl min n ↔ _
    rw [foldl_min]
    simp only [List.mem_cons, forall_eq_or_imp]
theorem ints_id (ns : List Int) : intsOf (ns.map PyData.int) = some ns := by
  have e := ints_map (fun i : Int => i) ns
  rwa [List.map_id'] at e
theorem are_short {s : Sto} {ns : List Int} : run_are_short [.d (.tuple (ns.map PyData.int))] s = .ok (.bool ((ns.map PyData.int).all isShort)) s := by
  have e := ints_id ns
  have q : (decide (Mir.maxI 0 ns < 1000000000000) && decide (-1000000000000 < Mir.minI 0 ns)) = (ns.map PyData.int).all isShort := by
    rw [Bool.eq_iff_iff]
    simp only [Bool.and_eq_true, decide_eq_true_eq, List.all_eq_true, List.mem_map, forall_exists_index, and_imp, forall_apply_eq_imp_iff₂]
    rw [maxI_lt (by decide), minI_gt (by decide)]
    constructor
    · rintro ⟨h1, h2⟩ n hn
      have a1 := h1 n hn
      have a2 := h2 n hn
      exact decide_eq_true (by omega)
    · intro h
      refine ⟨fun m hm => ?_, fun m hm => ?_⟩
      · have := of_decide_eq_true (h m hm)
        omega
      · have := of_decide_eq_true (h m hm)
        omega
  rw [← q]
  by_cases h1 : Mir.maxI 0 ns < 1000000000000
  · simp -implicitDefEqProofs [Math.ap_eVar, Math.ap_lVar, Math.ap_eC, Math.ap_eL, Math.ap_eUn, Math.ap_eBin, Math.ap_eAnd, Math.ap_eOr, Math.ap_eNot, Math.ap_mE, Math.ap_mNot, Math.ap_mAnd, Math.ap_mOr, Math.ap_eIf, Math.ap_aNil, Math.ap_aCons, Math.ap_dNil, Math.ap_dCons, Math.ap_eTup, Math.ap_cLst, Math.ap_eFr, Math.ap_eIx, Math.ap_eSl, Math.ap_cList, Math.ap_eCall, Math.ap_cCall, Math.ap_mSeq, Math.ap_mNil, Math.ap_mSet, Math.ap_mSetC, Math.ap_mRet, Math.ap_mRetN, Math.ap_mRetL, Math.ap_mDrop, Math.ap_mIf, Math.ap_mNever, Math.ap_mPar, Math.ap_mPar3, Math.ap_mPut, Math.ap_mApp, Math.ap_mTo, Math.ap_mYes, Math.ap_iSq, Math.ap_iZp, Math.ap_iEn, Math.ap_mRetC, Math.ap_eCh, Math.ap_noPart, Math.ap_aPart, Math.ap_eSlice, Math.ap_mkF, Math.ap_mkC, Mir.env0, Mir.fin, Mir.finC, Mir.thenDo, Mir.toFl, Mir.wipeE, Mir.itemsOf, Mir.orBad, Mir.gNm, Mir.gTp, Mir.gNms, Mir.Out.bind, Mir.gIx, Mir.seqOf, Mir.gLen, Mir.gTuple, Mir.gAbs, Mir.gInt, Mir.gCmp, Mir.gI, Mir.gAdd, Mir.gSub, Mir.gNeg, Mir.gBols, Mir.gInts, Mir.gChain, Mir.nxO, Mir.putAt, Mir.appAt, Mir.isC, L2.atI, L2.ixN, Math.eIsi_tuple, Math.eIsi_int, Math.eIsi_bool, Math.gEq_int, Math.gEq_bool, run_are_short, Mir.gIntsA, e, h1]
  · simp -implicitDefEqProofs [Math.ap_eVar, Math.ap_lVar, Math.ap_eC, Math.ap_eL, Math.ap_eUn, Math.ap_eBin, Math.ap_eAnd, Math.ap_eOr, Math.ap_eNot, Math.ap_mE, Math.ap_mNot, Math.ap_mAnd, Math.ap_mOr, Math.ap_eIf, Math.ap_aNil, Math.ap_aCons, Math.ap_dNil, Math.ap_dCons, Math.ap_eTup, Math.ap_cLst, Math.ap_eFr, Math.ap_eIx, Math.ap_eSl, Math.ap_cList, Math.ap_eCall, Math.ap_cCall, Math.ap_mSeq, Math.ap_mNil, Math.ap_mSet, Math.ap_mSetC, Math.ap_mRet, Math.ap_mRetN, Math.ap_mRetL, Math.ap_mDrop, Math.ap_mIf, Math.ap_mNever, Math.ap_mPar, Math.ap_mPar3, Math.ap_mPut, Math.ap_mApp, Math.ap_mTo, Math.ap_mYes, Math.ap_iSq, Math.ap_iZp, Math.ap_iEn, Math.ap_mRetC, Math.ap_eCh, Math.ap_noPart, Math.ap_aPart, Math.ap_eSlice, Math.ap_mkF, Math.ap_mkC, Mir.env0, Mir.fin, Mir.finC, Mir.thenDo, Mir.toFl, Mir.wipeE, Mir.itemsOf, Mir.orBad, Mir.gNm, Mir.gTp, Mir.gNms, Mir.Out.bind, Mir.gIx, Mir.seqOf, Mir.gLen, Mir.gTuple, Mir.gAbs, Mir.gInt, Mir.gCmp, Mir.gI, Mir.gAdd, Mir.gSub, Mir.gNeg, Mir.gBols, Mir.gInts, Mir.gChain, Mir.nxO, Mir.putAt, Mir.appAt, Mir.isC, L2.atI, L2.ixN, Math.eIsi_tuple, Math.eIsi_int, Math.eIsi_bool, Math.gEq_int, Math.gEq_bool, run_are_short, Mir.gIntsA, e, h1]
theorem ints_of : ∀ {ds : List PyData}, ds.all isInt = true → ∃ ns : List Int, ds = ns.map PyData.int
  | [], _ => ⟨[], rfl⟩
  | d :: ds, h => by
    rw [List.all_cons, Bool.and_eq_true] at h
    obtain ⟨ns, rfl⟩ := ints_of h.2
    cases d with
    | int i => exact ⟨i :: ns, rfl⟩
    | _ =>
      have z := h.1
      cases z
theorem long_row (v : PyData) (s : Sto) : run_is_long_row [.d v] s = .ok (.bool (isLongRow v)) s := by
  cases v with
  | tuple ds =>
    by_cases h : ds.length ≤ 60
    · have h' : (ds.length : Int) ≤ 60 := by omega
      have c := are_long (s := s) (ds := ds) (by omega)
      simp -implicitDefEqProofs [Math.ap_eVar, Math.ap_lVar, Math.ap_eC, Math.ap_eL, Math.ap_eUn, Math.ap_eBin, Math.ap_eAnd, Math.ap_eOr, Math.ap_eNot, Math.ap_mE, Math.ap_mNot, Math.ap_mAnd, Math.ap_mOr, Math.ap_eIf, Math.ap_aNil, Math.ap_aCons, Math.ap_dNil, Math.ap_dCons, Math.ap_eTup, Math.ap_cLst, Math.ap_eFr, Math.ap_eIx, Math.ap_eSl, Math.ap_cList, Math.ap_eCall, Math.ap_cCall, Math.ap_mSeq, Math.ap_mNil, Math.ap_mSet, Math.ap_mSetC, Math.ap_mRet, Math.ap_mRetN, Math.ap_mRetL, Math.ap_mDrop, Math.ap_mIf, Math.ap_mNever, Math.ap_mPar, Math.ap_mPar3, Math.ap_mPut, Math.ap_mApp, Math.ap_mTo, Math.ap_mYes, Math.ap_iSq, Math.ap_iZp, Math.ap_iEn, Math.ap_mRetC, Math.ap_eCh, Math.ap_noPart, Math.ap_aPart, Math.ap_eSlice, Math.ap_mkF, Math.ap_mkC, Mir.env0, Mir.fin, Mir.finC, Mir.thenDo, Mir.toFl, Mir.wipeE, Mir.itemsOf, Mir.orBad, Mir.gNm, Mir.gTp, Mir.gNms, Mir.Out.bind, Mir.gIx, Mir.seqOf, Mir.gLen, Mir.gTuple, Mir.gAbs, Mir.gInt, Mir.gCmp, Mir.gI, Mir.gAdd, Mir.gSub, Mir.gNeg, Mir.gBols, Mir.gInts, Mir.gChain, Mir.nxO, Mir.putAt, Mir.appAt, Mir.isC, L2.atI, L2.ixN, Math.eIsi_tuple, Math.eIsi_int, Math.eIsi_bool, Math.gEq_int, Math.gEq_bool, run_is_long_row, isTup, isLongRow, h, h', c]
    · have h' : ¬ (ds.length : Int) ≤ 60 := by omega
      simp -implicitDefEqProofs [Math.ap_eVar, Math.ap_lVar, Math.ap_eC, Math.ap_eL, Math.ap_eUn, Math.ap_eBin, Math.ap_eAnd, Math.ap_eOr, Math.ap_eNot, Math.ap_mE, Math.ap_mNot, Math.ap_mAnd, Math.ap_mOr, Math.ap_eIf, Math.ap_aNil, Math.ap_aCons, Math.ap_dNil, Math.ap_dCons, Math.ap_eTup, Math.ap_cLst, Math.ap_eFr, Math.ap_eIx, Math.ap_eSl, Math.ap_cList, Math.ap_eCall, Math.ap_cCall, Math.ap_mSeq, Math.ap_mNil, Math.ap_mSet, Math.ap_mSetC, Math.ap_mRet, Math.ap_mRetN, Math.ap_mRetL, Math.ap_mDrop, Math.ap_mIf, Math.ap_mNever, Math.ap_mPar, Math.ap_mPar3, Math.ap_mPut, Math.ap_mApp, Math.ap_mTo, Math.ap_mYes, Math.ap_iSq, Math.ap_iZp, Math.ap_iEn, Math.ap_mRetC, Math.ap_eCh, Math.ap_noPart, Math.ap_aPart, Math.ap_eSlice, Math.ap_mkF, Math.ap_mkC, Mir.env0, Mir.fin, Mir.finC, Mir.thenDo, Mir.toFl, Mir.wipeE, Mir.itemsOf, Mir.orBad, Mir.gNm, Mir.gTp, Mir.gNms, Mir.Out.bind, Mir.gIx, Mir.seqOf, Mir.gLen, Mir.gTuple, Mir.gAbs, Mir.gInt, Mir.gCmp, Mir.gI, Mir.gAdd, Mir.gSub, Mir.gNeg, Mir.gBols, Mir.gInts, Mir.gChain, Mir.nxO, Mir.putAt, Mir.appAt, Mir.isC, L2.atI, L2.ixN, Math.eIsi_tuple, Math.eIsi_int, Math.eIsi_bool, Math.gEq_int, Math.gEq_bool, run_is_long_row, isTup, isLongRow, h, h']
  | _ => simp -implicitDefEqProofs [Math.ap_eVar, Math.ap_lVar, Math.ap_eC, Math.ap_eL, Math.ap_eUn, Math.ap_eBin, Math.ap_eAnd, Math.ap_eOr, Math.ap_eNot, Math.ap_mE, Math.ap_mNot, Math.ap_mAnd, Math.ap_mOr, Math.ap_eIf, Math.ap_aNil, Math.ap_aCons, Math.ap_dNil, Math.ap_dCons, Math.ap_eTup, Math.ap_cLst, Math.ap_eFr, Math.ap_eIx, Math.ap_eSl, Math.ap_cList, Math.ap_eCall, Math.ap_cCall, Math.ap_mSeq, Math.ap_mNil, Math.ap_mSet, Math.ap_mSetC, Math.ap_mRet, Math.ap_mRetN, Math.ap_mRetL, Math.ap_mDrop, Math.ap_mIf, Math.ap_mNever, Math.ap_mPar, Math.ap_mPar3, Math.ap_mPut, Math.ap_mApp, Math.ap_mTo, Math.ap_mYes, Math.ap_iSq, Math.ap_iZp, Math.ap_iEn, Math.ap_mRetC, Math.ap_eCh, Math.ap_noPart, Math.ap_aPart, Math.ap_eSlice, Math.ap_mkF, Math.ap_mkC, Mir.env0, Mir.fin, Mir.finC, Mir.thenDo, Mir.toFl, Mir.wipeE, Mir.itemsOf, Mir.orBad, Mir.gNm, Mir.gTp, Mir.gNms, Mir.Out.bind, Mir.gIx, Mir.seqOf, Mir.gLen, Mir.gTuple, Mir.gAbs, Mir.gInt, Mir.gCmp, Mir.gI, Mir.gAdd, Mir.gSub, Mir.gNeg, Mir.gBols, Mir.gInts, Mir.gChain, Mir.nxO, Mir.putAt, Mir.appAt, Mir.isC, L2.atI, L2.ixN, Math.eIsi_tuple, Math.eIsi_int, Math.eIsi_bool, Math.gEq_int, Math.gEq_bool, run_is_long_row, isTup, isLongRow]
theorem short_int {d : PyData} (h : isShort d = true) : isInt d = true := by cases d <;> first | rfl | cases h
theorem long_row_ints {v : PyData} (h : isLongRow v = true) : ∃ ns : List Int, v = .tuple (ns.map PyData.int) ∧ ns.length ≤ 60 := by
  cases v with
  | tuple ds =>
    have h' : (decide (ds.length ≤ 60) && ds.all isInt) = true := h
    rw [Bool.and_eq_true, decide_eq_true_eq] at h'
    obtain ⟨ns, rfl⟩ := ints_of h'.2
    exact ⟨ns, rfl, by have := h'.1; rwa [List.length_map] at this⟩
  | _ => cases h
theorem isRow_ints {ns : List Int} (h : ns.length ≤ 60) : isRow (.tuple (ns.map PyData.int)) = (ns.map PyData.int).all isShort := by
  have e : isRow (.tuple (ns.map PyData.int)) = (decide ((ns.map PyData.int).length ≤ 60) && (ns.map PyData.int).all isShort) := rfl
  rw [e, List.length_map, decide_eq_true h, Bool.true_and]
theorem row (v : PyData) (s : Sto) : run_is_row [.d v] s = .ok (.bool (isRow v)) s := by
  by_cases h : isLongRow v = true
  · obtain ⟨ns, rfl, hl⟩ := long_row_ints h
    have c := are_short (s := s) (ns := ns)
    rw [isRow_ints hl]
    simp -implicitDefEqProofs [Math.ap_eVar, Math.ap_lVar, Math.ap_eC, Math.ap_eL, Math.ap_eUn, Math.ap_eBin, Math.ap_eAnd, Math.ap_eOr, Math.ap_eNot, Math.ap_mE, Math.ap_mNot, Math.ap_mAnd, Math.ap_mOr, Math.ap_eIf, Math.ap_aNil, Math.ap_aCons, Math.ap_dNil, Math.ap_dCons, Math.ap_eTup, Math.ap_cLst, Math.ap_eFr, Math.ap_eIx, Math.ap_eSl, Math.ap_cList, Math.ap_eCall, Math.ap_cCall, Math.ap_mSeq, Math.ap_mNil, Math.ap_mSet, Math.ap_mSetC, Math.ap_mRet, Math.ap_mRetN, Math.ap_mRetL, Math.ap_mDrop, Math.ap_mIf, Math.ap_mNever, Math.ap_mPar, Math.ap_mPar3, Math.ap_mPut, Math.ap_mApp, Math.ap_mTo, Math.ap_mYes, Math.ap_iSq, Math.ap_iZp, Math.ap_iEn, Math.ap_mRetC, Math.ap_eCh, Math.ap_noPart, Math.ap_aPart, Math.ap_eSlice, Math.ap_mkF, Math.ap_mkC, Mir.env0, Mir.fin, Mir.finC, Mir.thenDo, Mir.toFl, Mir.wipeE, Mir.itemsOf, Mir.orBad, Mir.gNm, Mir.gTp, Mir.gNms, Mir.Out.bind, Mir.gIx, Mir.seqOf, Mir.gLen, Mir.gTuple, Mir.gAbs, Mir.gInt, Mir.gCmp, Mir.gI, Mir.gAdd, Mir.gSub, Mir.gNeg, Mir.gBols, Mir.gInts, Mir.gChain, Mir.nxO, Mir.putAt, Mir.appAt, Mir.isC, L2.atI, L2.ixN, Math.eIsi_tuple, Math.eIsi_int, Math.eIsi_bool, Math.gEq_int, Math.gEq_bool, run_is_row, long_row, h, c]
  · have h1 : isLongRow v = false := by simpa using h
    have h2 : isRow v = false := by
      by_cases h3 : isRow v = true
      · exfalso
        apply h
        cases v with
        | tuple ds =>
          simp only [isRow, isLongRow, Bool.and_eq_true, decide_eq_true_eq, List.all_eq_true] at h3 ⊢
          exact ⟨h3.1, fun x hx => short_int (h3.2 x hx)⟩
        | _ => cases h3
      · simpa using h3
    simp -implicitDefEqProofs [Math.ap_eVar, Math.ap_lVar, Math.ap_eC, Math.ap_eL, Math.ap_eUn, Math.ap_eBin, Math.ap_eAnd, Math.ap_eOr, Math.ap_eNot, Math.ap_mE, Math.ap_mNot, Math.ap_mAnd, Math.ap_mOr, Math.ap_eIf, Math.ap_aNil, Math.ap_aCons, Math.ap_dNil, Math.ap_dCons, Math.ap_eTup, Math.ap_cLst, Math.ap_eFr, Math.ap_eIx, Math.ap_eSl, Math.ap_cList, Math.ap_eCall, Math.ap_cCall, Math.ap_mSeq, Math.ap_mNil, Math.ap_mSet, Math.ap_mSetC, Math.ap_mRet, Math.ap_mRetN, Math.ap_mRetL, Math.ap_mDrop, Math.ap_mIf, Math.ap_mNever, Math.ap_mPar, Math.ap_mPar3, Math.ap_mPut, Math.ap_mApp, Math.ap_mTo, Math.ap_mYes, Math.ap_iSq, Math.ap_iZp, Math.ap_iEn, Math.ap_mRetC, Math.ap_eCh, Math.ap_noPart, Math.ap_aPart, Math.ap_eSlice, Math.ap_mkF, Math.ap_mkC, Mir.env0, Mir.fin, Mir.finC, Mir.thenDo, Mir.toFl, Mir.wipeE, Mir.itemsOf, Mir.orBad, Mir.gNm, Mir.gTp, Mir.gNms, Mir.Out.bind, Mir.gIx, Mir.seqOf, Mir.gLen, Mir.gTuple, Mir.gAbs, Mir.gInt, Mir.gCmp, Mir.gI, Mir.gAdd, Mir.gSub, Mir.gNeg, Mir.gBols, Mir.gInts, Mir.gChain, Mir.nxO, Mir.putAt, Mir.appAt, Mir.isC, L2.atI, L2.ixN, Math.eIsi_tuple, Math.eIsi_int, Math.eIsi_bool, Math.gEq_int, Math.gEq_bool, run_is_row, long_row, h1, h2]
theorem between_num {w : PyData} (h : isBetween 0 60 w = true) : ∃ n : Nat, n ≤ 60 ∧ w = .int n := by
  cases w <;> simp only [isBetween, Bool.and_eq_true, decide_eq_true_eq, Bool.false_eq_true] at h
  rename_i i
  obtain ⟨⟨_, h1⟩, h2⟩ := h
  obtain ⟨k, rfl⟩ := Int.eq_ofNat_of_zero_le h1
  exact ⟨k, by omega, rfl⟩
theorem gu1 (s : Sto) : run_is_grid_up_to [.d (.tuple []), .d (.int 60)] s = .ok (.bool false) s := by
  simp -implicitDefEqProofs [Math.ap_eVar, Math.ap_lVar, Math.ap_eC, Math.ap_eL, Math.ap_eUn, Math.ap_eBin, Math.ap_eAnd, Math.ap_eOr, Math.ap_eNot, Math.ap_mE, Math.ap_mNot, Math.ap_mAnd, Math.ap_mOr, Math.ap_eIf, Math.ap_aNil, Math.ap_aCons, Math.ap_dNil, Math.ap_dCons, Math.ap_eTup, Math.ap_cLst, Math.ap_eFr, Math.ap_eIx, Math.ap_eSl, Math.ap_cList, Math.ap_eCall, Math.ap_cCall, Math.ap_mSeq, Math.ap_mNil, Math.ap_mSet, Math.ap_mSetC, Math.ap_mRet, Math.ap_mRetN, Math.ap_mRetL, Math.ap_mDrop, Math.ap_mIf, Math.ap_mNever, Math.ap_mPar, Math.ap_mPar3, Math.ap_mPut, Math.ap_mApp, Math.ap_mTo, Math.ap_mYes, Math.ap_iSq, Math.ap_iZp, Math.ap_iEn, Math.ap_mRetC, Math.ap_eCh, Math.ap_noPart, Math.ap_aPart, Math.ap_eSlice, Math.ap_mkF, Math.ap_mkC, Mir.env0, Mir.fin, Mir.finC, Mir.thenDo, Mir.toFl, Mir.wipeE, Mir.itemsOf, Mir.orBad, Mir.gNm, Mir.gTp, Mir.gNms, Mir.Out.bind, Mir.gIx, Mir.seqOf, Mir.gLen, Mir.gTuple, Mir.gAbs, Mir.gInt, Mir.gCmp, Mir.gI, Mir.gAdd, Mir.gSub, Mir.gNeg, Mir.gBols, Mir.gInts, Mir.gChain, Mir.nxO, Mir.putAt, Mir.appAt, Mir.isC, L2.atI, L2.ixN, Math.eIsi_tuple, Math.eIsi_int, Math.eIsi_bool, Math.gEq_int, Math.gEq_bool, run_is_grid_up_to, isTup]
theorem gu2 (s : Sto) (a : PyData) : run_is_grid_up_to [.d (.tuple [a]), .d (.int 60)] s = .ok (.bool false) s := by
  simp -implicitDefEqProofs [Math.ap_eVar, Math.ap_lVar, Math.ap_eC, Math.ap_eL, Math.ap_eUn, Math.ap_eBin, Math.ap_eAnd, Math.ap_eOr, Math.ap_eNot, Math.ap_mE, Math.ap_mNot, Math.ap_mAnd, Math.ap_mOr, Math.ap_eIf, Math.ap_aNil, Math.ap_aCons, Math.ap_dNil, Math.ap_dCons, Math.ap_eTup, Math.ap_cLst, Math.ap_eFr, Math.ap_eIx, Math.ap_eSl, Math.ap_cList, Math.ap_eCall, Math.ap_cCall, Math.ap_mSeq, Math.ap_mNil, Math.ap_mSet, Math.ap_mSetC, Math.ap_mRet, Math.ap_mRetN, Math.ap_mRetL, Math.ap_mDrop, Math.ap_mIf, Math.ap_mNever, Math.ap_mPar, Math.ap_mPar3, Math.ap_mPut, Math.ap_mApp, Math.ap_mTo, Math.ap_mYes, Math.ap_iSq, Math.ap_iZp, Math.ap_iEn, Math.ap_mRetC, Math.ap_eCh, Math.ap_noPart, Math.ap_aPart, Math.ap_eSlice, Math.ap_mkF, Math.ap_mkC, Mir.env0, Mir.fin, Mir.finC, Mir.thenDo, Mir.toFl, Mir.wipeE, Mir.itemsOf, Mir.orBad, Mir.gNm, Mir.gTp, Mir.gNms, Mir.Out.bind, Mir.gIx, Mir.seqOf, Mir.gLen, Mir.gTuple, Mir.gAbs, Mir.gInt, Mir.gCmp, Mir.gI, Mir.gAdd, Mir.gSub, Mir.gNeg, Mir.gBols, Mir.gInts, Mir.gChain, Mir.nxO, Mir.putAt, Mir.appAt, Mir.isC, L2.atI, L2.ixN, Math.eIsi_tuple, Math.eIsi_int, Math.eIsi_bool, Math.gEq_int, Math.gEq_bool, run_is_grid_up_to, isTup]
theorem gu3 (s : Sto) (a b c : PyData) (t : List PyData) : run_is_grid_up_to [.d (.tuple (a :: b :: c :: t)), .d (.int 60)] s = .ok (.bool false) s := by
  have h : ¬ ((t.length : Int) + 1 + 1 + 1 = 2) := by omega
  simp -implicitDefEqProofs [Math.ap_eVar, Math.ap_lVar, Math.ap_eC, Math.ap_eL, Math.ap_eUn, Math.ap_eBin, Math.ap_eAnd, Math.ap_eOr, Math.ap_eNot, Math.ap_mE, Math.ap_mNot, Math.ap_mAnd, Math.ap_mOr, Math.ap_eIf, Math.ap_aNil, Math.ap_aCons, Math.ap_dNil, Math.ap_dCons, Math.ap_eTup, Math.ap_cLst, Math.ap_eFr, Math.ap_eIx, Math.ap_eSl, Math.ap_cList, Math.ap_eCall, Math.ap_cCall, Math.ap_mSeq, Math.ap_mNil, Math.ap_mSet, Math.ap_mSetC, Math.ap_mRet, Math.ap_mRetN, Math.ap_mRetL, Math.ap_mDrop, Math.ap_mIf, Math.ap_mNever, Math.ap_mPar, Math.ap_mPar3, Math.ap_mPut, Math.ap_mApp, Math.ap_mTo, Math.ap_mYes, Math.ap_iSq, Math.ap_iZp, Math.ap_iEn, Math.ap_mRetC, Math.ap_eCh, Math.ap_noPart, Math.ap_aPart, Math.ap_eSlice, Math.ap_mkF, Math.ap_mkC, Mir.env0, Mir.fin, Mir.finC, Mir.thenDo, Mir.toFl, Mir.wipeE, Mir.itemsOf, Mir.orBad, Mir.gNm, Mir.gTp, Mir.gNms, Mir.Out.bind, Mir.gIx, Mir.seqOf, Mir.gLen, Mir.gTuple, Mir.gAbs, Mir.gInt, Mir.gCmp, Mir.gI, Mir.gAdd, Mir.gSub, Mir.gNeg, Mir.gBols, Mir.gInts, Mir.gChain, Mir.nxO, Mir.putAt, Mir.appAt, Mir.isC, L2.atI, L2.ixN, Math.eIsi_tuple, Math.eIsi_int, Math.eIsi_bool, Math.gEq_int, Math.gEq_bool, run_is_grid_up_to, isTup, h]
theorem gu4 (s : Sto) (w r : PyData) (h' : isInt w = false) : run_is_grid_up_to [.d (.tuple [w, r]), .d (.int 60)] s = .ok (.bool false) s := by
  simp -implicitDefEqProofs [Math.ap_eVar, Math.ap_lVar, Math.ap_eC, Math.ap_eL, Math.ap_eUn, Math.ap_eBin, Math.ap_eAnd, Math.ap_eOr, Math.ap_eNot, Math.ap_mE, Math.ap_mNot, Math.ap_mAnd, Math.ap_mOr, Math.ap_eIf, Math.ap_aNil, Math.ap_aCons, Math.ap_dNil, Math.ap_dCons, Math.ap_eTup, Math.ap_cLst, Math.ap_eFr, Math.ap_eIx, Math.ap_eSl, Math.ap_cList, Math.ap_eCall, Math.ap_cCall, Math.ap_mSeq, Math.ap_mNil, Math.ap_mSet, Math.ap_mSetC, Math.ap_mRet, Math.ap_mRetN, Math.ap_mRetL, Math.ap_mDrop, Math.ap_mIf, Math.ap_mNever, Math.ap_mPar, Math.ap_mPar3, Math.ap_mPut, Math.ap_mApp, Math.ap_mTo, Math.ap_mYes, Math.ap_iSq, Math.ap_iZp, Math.ap_iEn, Math.ap_mRetC, Math.ap_eCh, Math.ap_noPart, Math.ap_aPart, Math.ap_eSlice, Math.ap_mkF, Math.ap_mkC, Mir.env0, Mir.fin, Mir.finC, Mir.thenDo, Mir.toFl, Mir.wipeE, Mir.itemsOf, Mir.orBad, Mir.gNm, Mir.gTp, Mir.gNms, Mir.Out.bind, Mir.gIx, Mir.seqOf, Mir.gLen, Mir.gTuple, Mir.gAbs, Mir.gInt, Mir.gCmp, Mir.gI, Mir.gAdd, Mir.gSub, Mir.gNeg, Mir.gBols, Mir.gInts, Mir.gChain, Mir.nxO, Mir.putAt, Mir.appAt, Mir.isC, L2.atI, L2.ixN, Math.eIsi_tuple, Math.eIsi_int, Math.eIsi_bool, Math.gEq_int, Math.gEq_bool, run_is_grid_up_to, isTup, long_integer, h']
theorem gu4b (s : Sto) (i : Int) (r : PyData) (h : ¬ (0 ≤ i ∧ i ≤ 60)) : run_is_grid_up_to [.d (.tuple [.int i, r]), .d (.int 60)] s = .ok (.bool false) s := by
  have e : isInt (.int i) = true := rfl
  by_cases h0 : 0 ≤ i
  · have h1 : ¬ i ≤ 60 := fun z => h ⟨h0, z⟩
    simp -implicitDefEqProofs [Math.ap_eVar, Math.ap_lVar, Math.ap_eC, Math.ap_eL, Math.ap_eUn, Math.ap_eBin, Math.ap_eAnd, Math.ap_eOr, Math.ap_eNot, Math.ap_mE, Math.ap_mNot, Math.ap_mAnd, Math.ap_mOr, Math.ap_eIf, Math.ap_aNil, Math.ap_aCons, Math.ap_dNil, Math.ap_dCons, Math.ap_eTup, Math.ap_cLst, Math.ap_eFr, Math.ap_eIx, Math.ap_eSl, Math.ap_cList, Math.ap_eCall, Math.ap_cCall, Math.ap_mSeq, Math.ap_mNil, Math.ap_mSet, Math.ap_mSetC, Math.ap_mRet, Math.ap_mRetN, Math.ap_mRetL, Math.ap_mDrop, Math.ap_mIf, Math.ap_mNever, Math.ap_mPar, Math.ap_mPar3, Math.ap_mPut, Math.ap_mApp, Math.ap_mTo, Math.ap_mYes, Math.ap_iSq, Math.ap_iZp, Math.ap_iEn, Math.ap_mRetC, Math.ap_eCh, Math.ap_noPart, Math.ap_aPart, Math.ap_eSlice, Math.ap_mkF, Math.ap_mkC, Mir.env0, Mir.fin, Mir.finC, Mir.thenDo, Mir.toFl, Mir.wipeE, Mir.itemsOf, Mir.orBad, Mir.gNm, Mir.gTp, Mir.gNms, Mir.Out.bind, Mir.gIx, Mir.seqOf, Mir.gLen, Mir.gTuple, Mir.gAbs, Mir.gInt, Mir.gCmp, Mir.gI, Mir.gAdd, Mir.gSub, Mir.gNeg, Mir.gBols, Mir.gInts, Mir.gChain, Mir.nxO, Mir.putAt, Mir.appAt, Mir.isC, L2.atI, L2.ixN, Math.eIsi_tuple, Math.eIsi_int, Math.eIsi_bool, Math.gEq_int, Math.gEq_bool, run_is_grid_up_to, isTup, long_integer, e, h0, h1]
  · simp -implicitDefEqProofs [Math.ap_eVar, Math.ap_lVar, Math.ap_eC, Math.ap_eL, Math.ap_eUn, Math.ap_eBin, Math.ap_eAnd, Math.ap_eOr, Math.ap_eNot, Math.ap_mE, Math.ap_mNot, Math.ap_mAnd, Math.ap_mOr, Math.ap_eIf, Math.ap_aNil, Math.ap_aCons, Math.ap_dNil, Math.ap_dCons, Math.ap_eTup, Math.ap_cLst, Math.ap_eFr, Math.ap_eIx, Math.ap_eSl, Math.ap_cList, Math.ap_eCall, Math.ap_cCall, Math.ap_mSeq, Math.ap_mNil, Math.ap_mSet, Math.ap_mSetC, Math.ap_mRet, Math.ap_mRetN, Math.ap_mRetL, Math.ap_mDrop, Math.ap_mIf, Math.ap_mNever, Math.ap_mPar, Math.ap_mPar3, Math.ap_mPut, Math.ap_mApp, Math.ap_mTo, Math.ap_mYes, Math.ap_iSq, Math.ap_iZp, Math.ap_iEn, Math.ap_mRetC, Math.ap_eCh, Math.ap_noPart, Math.ap_aPart, Math.ap_eSlice, Math.ap_mkF, Math.ap_mkC, Mir.env0, Mir.fin, Mir.finC, Mir.thenDo, Mir.toFl, Mir.wipeE, Mir.itemsOf, Mir.orBad, Mir.gNm, Mir.gTp, Mir.gNms, Mir.Out.bind, Mir.gIx, Mir.seqOf, Mir.gLen, Mir.gTuple, Mir.gAbs, Mir.gInt, Mir.gCmp, Mir.gI, Mir.gAdd, Mir.gSub, Mir.gNeg, Mir.gBols, Mir.gInts, Mir.gChain, Mir.nxO, Mir.putAt, Mir.appAt, Mir.isC, L2.atI, L2.ixN, Math.eIsi_tuple, Math.eIsi_int, Math.eIsi_bool, Math.gEq_int, Math.gEq_bool, run_is_grid_up_to, isTup, long_integer, e, h0]
theorem gu5 (s : Sto) (i : Int) (r : PyData) (h : 0 ≤ i) (h1 : i ≤ 60) (h2 : isTup r = false) : run_is_grid_up_to [.d (.tuple [.int i, r]), .d (.int 60)] s = .ok (.bool false) s := by
  have e : isInt (.int i) = true := rfl
  have h3 : isTup (.tuple [.int i, r]) = true := rfl
  simp -implicitDefEqProofs [Math.ap_eVar, Math.ap_lVar, Math.ap_eC, Math.ap_eL, Math.ap_eUn, Math.ap_eBin, Math.ap_eAnd, Math.ap_eOr, Math.ap_eNot, Math.ap_mE, Math.ap_mNot, Math.ap_mAnd, Math.ap_mOr, Math.ap_eIf, Math.ap_aNil, Math.ap_aCons, Math.ap_dNil, Math.ap_dCons, Math.ap_eTup, Math.ap_cLst, Math.ap_eFr, Math.ap_eIx, Math.ap_eSl, Math.ap_cList, Math.ap_eCall, Math.ap_cCall, Math.ap_mSeq, Math.ap_mNil, Math.ap_mSet, Math.ap_mSetC, Math.ap_mRet, Math.ap_mRetN, Math.ap_mRetL, Math.ap_mDrop, Math.ap_mIf, Math.ap_mNever, Math.ap_mPar, Math.ap_mPar3, Math.ap_mPut, Math.ap_mApp, Math.ap_mTo, Math.ap_mYes, Math.ap_iSq, Math.ap_iZp, Math.ap_iEn, Math.ap_mRetC, Math.ap_eCh, Math.ap_noPart, Math.ap_aPart, Math.ap_eSlice, Math.ap_mkF, Math.ap_mkC, Mir.env0, Mir.fin, Mir.finC, Mir.thenDo, Mir.toFl, Mir.wipeE, Mir.itemsOf, Mir.orBad, Mir.gNm, Mir.gTp, Mir.gNms, Mir.Out.bind, Mir.gIx, Mir.seqOf, Mir.gLen, Mir.gTuple, Mir.gAbs, Mir.gInt, Mir.gCmp, Mir.gI, Mir.gAdd, Mir.gSub, Mir.gNeg, Mir.gBols, Mir.gInts, Mir.gChain, Mir.nxO, Mir.putAt, Mir.appAt, Mir.isC, L2.atI, L2.ixN, Math.eIsi_tuple, Math.eIsi_int, Math.eIsi_bool, Math.gEq_int, Math.gEq_bool, run_is_grid_up_to, long_integer, e, h, h1, h2, h3]
theorem gu6 (s : Sto) (i : Int) (rows : List PyData) (h : 0 ≤ i) (h1 : i ≤ 60) (h2 : ¬ rows.length ≤ 60) : run_is_grid_up_to [.d (.tuple [.int i, .tuple rows]), .d (.int 60)] s = .ok (.bool false) s := by
  have e : isInt (.int i) = true := rfl
  have h3 : (60 : Int) < rows.length := by omega
  simp -implicitDefEqProofs [Math.ap_eVar, Math.ap_lVar, Math.ap_eC, Math.ap_eL, Math.ap_eUn, Math.ap_eBin, Math.ap_eAnd, Math.ap_eOr, Math.ap_eNot, Math.ap_mE, Math.ap_mNot, Math.ap_mAnd, Math.ap_mOr, Math.ap_eIf, Math.ap_aNil, Math.ap_aCons, Math.ap_dNil, Math.ap_dCons, Math.ap_eTup, Math.ap_cLst, Math.ap_eFr, Math.ap_eIx, Math.ap_eSl, Math.ap_cList, Math.ap_eCall, Math.ap_cCall, Math.ap_mSeq, Math.ap_mNil, Math.ap_mSet, Math.ap_mSetC, Math.ap_mRet, Math.ap_mRetN, Math.ap_mRetL, Math.ap_mDrop, Math.ap_mIf, Math.ap_mNever, Math.ap_mPar, Math.ap_mPar3, Math.ap_mPut, Math.ap_mApp, Math.ap_mTo, Math.ap_mYes, Math.ap_iSq, Math.ap_iZp, Math.ap_iEn, Math.ap_mRetC, Math.ap_eCh, Math.ap_noPart, Math.ap_aPart, Math.ap_eSlice, Math.ap_mkF, Math.ap_mkC, Mir.env0, Mir.fin, Mir.finC, Mir.thenDo, Mir.toFl, Mir.wipeE, Mir.itemsOf, Mir.orBad, Mir.gNm, Mir.gTp, Mir.gNms, Mir.Out.bind, Mir.gIx, Mir.seqOf, Mir.gLen, Mir.gTuple, Mir.gAbs, Mir.gInt, Mir.gCmp, Mir.gI, Mir.gAdd, Mir.gSub, Mir.gNeg, Mir.gBols, Mir.gInts, Mir.gChain, Mir.nxO, Mir.putAt, Mir.appAt, Mir.isC, L2.atI, L2.ixN, Math.eIsi_tuple, Math.eIsi_int, Math.eIsi_bool, Math.gEq_int, Math.gEq_bool, run_is_grid_up_to, isTup, long_integer, e, h, h1, h3]
theorem gu7 (s : Sto) (i : Int) (rows : List PyData) (g : PyData → Bool) (h : 0 ≤ i) (h1 : i ≤ 60) (h2 : rows.length ≤ 60)
    (c : cComp (iSq (eVar 3)) (gNm 4) mYes (eAnd (eIsi "tuple" (eVar 4)) (eBin (gEq false) (eSl gLen (lVar 4)) (eVar 2))) [4] [some (.d (.tuple [.int i, .tuple rows])), some (.d (.int 60)), some (.d (.int i)), some (.d (.tuple rows)), none] s = .ok (rows.map fun d => .bool (g d)) s)
    (hg : rows.all g = false) : run_is_grid_up_to [.d (.tuple [.int i, .tuple rows]), .d (.int 60)] s = .ok (.bool false) s := by
  have e : isInt (.int i) = true := rfl
  have h3 : ¬ (60 : Int) < rows.length := by omega
  have hg' : (rows.map g).all id = false := by rw [List.all_map]; exact hg
  simp -implicitDefEqProofs [Math.ap_eVar, Math.ap_lVar, Math.ap_eC, Math.ap_eL, Math.ap_eUn, Math.ap_eBin, Math.ap_eAnd, Math.ap_eOr, Math.ap_eNot, Math.ap_mE, Math.ap_mNot, Math.ap_mAnd, Math.ap_mOr, Math.ap_eIf, Math.ap_aNil, Math.ap_aCons, Math.ap_dNil, Math.ap_dCons, Math.ap_eTup, Math.ap_cLst, Math.ap_eFr, Math.ap_eIx, Math.ap_eSl, Math.ap_cList, Math.ap_eCall, Math.ap_cCall, Math.ap_mSeq, Math.ap_mNil, Math.ap_mSet, Math.ap_mSetC, Math.ap_mRet, Math.ap_mRetN, Math.ap_mRetL, Math.ap_mDrop, Math.ap_mIf, Math.ap_mNever, Math.ap_mPar, Math.ap_mPar3, Math.ap_mPut, Math.ap_mApp, Math.ap_mTo, Math.ap_mYes, Math.ap_iSq, Math.ap_iZp, Math.ap_iEn, Math.ap_mRetC, Math.ap_eCh, Math.ap_noPart, Math.ap_aPart, Math.ap_eSlice, Math.ap_mkF, Math.ap_mkC, Mir.env0, Mir.fin, Mir.finC, Mir.thenDo, Mir.toFl, Mir.wipeE, Mir.itemsOf, Mir.orBad, Mir.gNm, Mir.gTp, Mir.gNms, Mir.Out.bind, Mir.gIx, Mir.seqOf, Mir.gLen, Mir.gTuple, Mir.gAbs, Mir.gInt, Mir.gCmp, Mir.gI, Mir.gAdd, Mir.gSub, Mir.gNeg, Mir.gBols, Mir.gInts, Mir.gChain, Mir.nxO, Mir.putAt, Mir.appAt, Mir.isC, L2.atI, L2.ixN, Math.eIsi_tuple, Math.eIsi_int, Math.eIsi_bool, Math.gEq_int, Math.gEq_bool, run_is_grid_up_to, isTup, long_integer, e, h, h1, h3, c, bols_map, hg']
theorem gu8 (s : Sto) (i : Int) (rows : List PyData) (g : PyData → Bool) (b : Bool) (h : 0 ≤ i) (h1 : i ≤ 60) (h2 : rows.length ≤ 60)
    (c : cComp (iSq (eVar 3)) (gNm 4) mYes (eAnd (eIsi "tuple" (eVar 4)) (eBin (gEq false) (eSl gLen (lVar 4)) (eVar 2))) [4] [some (.d (.tuple [.int i, .tuple rows])), some (.d (.int 60)), some (.d (.int i)), some (.d (.tuple rows)), none] s = .ok (rows.map fun d => .bool (g d)) s)
    (hg : rows.all g = true) (hi : run_have_integers [.d (.tuple rows)] s = .ok (.bool b) s) : run_is_grid_up_to [.d (.tuple [.int i, .tuple rows]), .d (.int 60)] s = .ok (.bool b) s := by
  have e : isInt (.int i) = true := rfl
  have h3 : ¬ (60 : Int) < rows.length := by omega
  have hg' : (rows.map g).all id = true := by rw [List.all_map]; exact hg
  simp -implicitDefEqProofs [Math.ap_eVar, Math.ap_lVar, Math.ap_eC, Math.ap_eL, Math.ap_eUn, Math.ap_eBin, Math.ap_eAnd, Math.ap_eOr, Math.ap_eNot, Math.ap_mE, Math.ap_mNot, Math.ap_mAnd, Math.ap_mOr, Math.ap_eIf, Math.ap_aNil, Math.ap_aCons, Math.ap_dNil, Math.ap_dCons, Math.ap_eTup, Math.ap_cLst, Math.ap_eFr, Math.ap_eIx, Math.ap_eSl, Math.ap_cList, Math.ap_eCall, Math.ap_cCall, Math.ap_mSeq, Math.ap_mNil, Math.ap_mSet, Math.ap_mSetC, Math.ap_mRet, Math.ap_mRetN, Math.ap_mRetL, Math.ap_mDrop, Math.ap_mIf, Math.ap_mNever, Math.ap_mPar, Math.ap_mPar3, Math.ap_mPut, Math.ap_mApp, Math.ap_mTo, Math.ap_mYes, Math.ap_iSq, Math.ap_iZp, Math.ap_iEn, Math.ap_mRetC, Math.ap_eCh, Math.ap_noPart, Math.ap_aPart, Math.ap_eSlice, Math.ap_mkF, Math.ap_mkC, Mir.env0, Mir.fin, Mir.finC, Mir.thenDo, Mir.toFl, Mir.wipeE, Mir.itemsOf, Mir.orBad, Mir.gNm, Mir.gTp, Mir.gNms, Mir.Out.bind, Mir.gIx, Mir.seqOf, Mir.gLen, Mir.gTuple, Mir.gAbs, Mir.gInt, Mir.gCmp, Mir.gI, Mir.gAdd, Mir.gSub, Mir.gNeg, Mir.gBols, Mir.gInts, Mir.gChain, Mir.nxO, Mir.putAt, Mir.appAt, Mir.isC, L2.atI, L2.ixN, Math.eIsi_tuple, Math.eIsi_int, Math.eIsi_bool, Math.gEq_int, Math.gEq_bool, run_is_grid_up_to, isTup, long_integer, e, h, h1, h3, c, bols_map, hg', hi]
theorem gu9 (s : Sto) (i : Int) (rows : List PyData) (x y : PyData) (h2 : rows.length ≤ 60) :
    cComp (iSq (eVar 3)) (gNm 4) mYes (eAnd (eIsi "tuple" (eVar 4)) (eBin (gEq false) (eSl gLen (lVar 4)) (eVar 2))) [4] [some (.d x), some (.d y), some (.d (.int i)), some (.d (.tuple rows)), none] s = .ok (rows.map fun d => .bool (hasLen i d)) s :=
  comp_map _ rfl (by omega) fun d _ => by
    cases d with
    | tuple ds => simp -implicitDefEqProofs [Math.ap_eVar, Math.ap_lVar, Math.ap_eC, Math.ap_eL, Math.ap_eUn, Math.ap_eBin, Math.ap_eAnd, Math.ap_eOr, Math.ap_eNot, Math.ap_mE, Math.ap_mNot, Math.ap_mAnd, Math.ap_mOr, Math.ap_eIf, Math.ap_aNil, Math.ap_aCons, Math.ap_dNil, Math.ap_dCons, Math.ap_eTup, Math.ap_cLst, Math.ap_eFr, Math.ap_eIx, Math.ap_eSl, Math.ap_cList, Math.ap_eCall, Math.ap_cCall, Math.ap_mSeq, Math.ap_mNil, Math.ap_mSet, Math.ap_mSetC, Math.ap_mRet, Math.ap_mRetN, Math.ap_mRetL, Math.ap_mDrop, Math.ap_mIf, Math.ap_mNever, Math.ap_mPar, Math.ap_mPar3, Math.ap_mPut, Math.ap_mApp, Math.ap_mTo, Math.ap_mYes, Math.ap_iSq, Math.ap_iZp, Math.ap_iEn, Math.ap_mRetC, Math.ap_eCh, Math.ap_noPart, Math.ap_aPart, Math.ap_eSlice, Math.ap_mkF, Math.ap_mkC, Mir.env0, Mir.fin, Mir.finC, Mir.thenDo, Mir.toFl, Mir.wipeE, Mir.itemsOf, Mir.orBad, Mir.gNm, Mir.gTp, Mir.gNms, Mir.Out.bind, Mir.gIx, Mir.seqOf, Mir.gLen, Mir.gTuple, Mir.gAbs, Mir.gInt, Mir.gCmp, Mir.gI, Mir.gAdd, Mir.gSub, Mir.gNeg, Mir.gBols, Mir.gInts, Mir.gChain, Mir.nxO, Mir.putAt, Mir.appAt, Mir.isC, L2.atI, L2.ixN, Math.eIsi_tuple, Math.eIsi_int, Math.eIsi_bool, Math.gEq_int, Math.gEq_bool, isTup, hasLen]
    | _ => simp -implicitDefEqProofs [Math.ap_eVar, Math.ap_lVar, Math.ap_eC, Math.ap_eL, Math.ap_eUn, Math.ap_eBin, Math.ap_eAnd, Math.ap_eOr, Math.ap_eNot, Math.ap_mE, Math.ap_mNot, Math.ap_mAnd, Math.ap_mOr, Math.ap_eIf, Math.ap_aNil, Math.ap_aCons, Math.ap_dNil, Math.ap_dCons, Math.ap_eTup, Math.ap_cLst, Math.ap_eFr, Math.ap_eIx, Math.ap_eSl, Math.ap_cList, Math.ap_eCall, Math.ap_cCall, Math.ap_mSeq, Math.ap_mNil, Math.ap_mSet, Math.ap_mSetC, Math.ap_mRet, Math.ap_mRetN, Math.ap_mRetL, Math.ap_mDrop, Math.ap_mIf, Math.ap_mNever, Math.ap_mPar, Math.ap_mPar3, Math.ap_mPut, Math.ap_mApp, Math.ap_mTo, Math.ap_mYes, Math.ap_iSq, Math.ap_iZp, Math.ap_iEn, Math.ap_mRetC, Math.ap_eCh, Math.ap_noPart, Math.ap_aPart, Math.ap_eSlice, Math.ap_mkF, Math.ap_mkC, Mir.env0, Mir.fin, Mir.finC, Mir.thenDo, Mir.toFl, Mir.wipeE, Mir.itemsOf, Mir.orBad, Mir.gNm, Mir.gTp, Mir.gNms, Mir.Out.bind, Mir.gIx, Mir.seqOf, Mir.gLen, Mir.gTuple, Mir.gAbs, Mir.gInt, Mir.gCmp, Mir.gI, Mir.gAdd, Mir.gSub, Mir.gNeg, Mir.gBols, Mir.gInts, Mir.gChain, Mir.nxO, Mir.putAt, Mir.appAt, Mir.isC, L2.atI, L2.ixN, Math.eIsi_tuple, Math.eIsi_int, Math.eIsi_bool, Math.gEq_int, Math.gEq_bool, isTup, hasLen]
theorem lgu (s : Sto) (v : PyData) (b : Bool) (h : run_is_grid_up_to [.d v, .d (.int 60)] s = .ok (.bool b) s) : run_is_long_grid [.d v] s = .ok (.bool b) s := by
  simp -implicitDefEqProofs [Math.ap_eVar, Math.ap_lVar, Math.ap_eC, Math.ap_eL, Math.ap_eUn, Math.ap_eBin, Math.ap_eAnd, Math.ap_eOr, Math.ap_eNot, Math.ap_mE, Math.ap_mNot, Math.ap_mAnd, Math.ap_mOr, Math.ap_eIf, Math.ap_aNil, Math.ap_aCons, Math.ap_dNil, Math.ap_dCons, Math.ap_eTup, Math.ap_cLst, Math.ap_eFr, Math.ap_eIx, Math.ap_eSl, Math.ap_cList, Math.ap_eCall, Math.ap_cCall, Math.ap_mSeq, Math.ap_mNil, Math.ap_mSet, Math.ap_mSetC, Math.ap_mRet, Math.ap_mRetN, Math.ap_mRetL, Math.ap_mDrop, Math.ap_mIf, Math.ap_mNever, Math.ap_mPar, Math.ap_mPar3, Math.ap_mPut, Math.ap_mApp, Math.ap_mTo, Math.ap_mYes, Math.ap_iSq, Math.ap_iZp, Math.ap_iEn, Math.ap_mRetC, Math.ap_eCh, Math.ap_noPart, Math.ap_aPart, Math.ap_eSlice, Math.ap_mkF, Math.ap_mkC, Mir.env0, Mir.fin, Mir.finC, Mir.thenDo, Mir.toFl, Mir.wipeE, Mir.itemsOf, Mir.orBad, Mir.gNm, Mir.gTp, Mir.gNms, Mir.Out.bind, Mir.gIx, Mir.seqOf, Mir.gLen, Mir.gTuple, Mir.gAbs, Mir.gInt, Mir.gCmp, Mir.gI, Mir.gAdd, Mir.gSub, Mir.gNeg, Mir.gBols, Mir.gInts, Mir.gChain, Mir.nxO, Mir.putAt, Mir.appAt, Mir.isC, L2.atI, L2.ixN, Math.eIsi_tuple, Math.eIsi_int, Math.eIsi_bool, Math.gEq_int, Math.gEq_bool, run_is_long_grid, h]
theorem long_grid (v : PyData) (s : Sto) : run_is_long_grid [.d v] s = .ok (.bool (isLongGrid v)) s := by
  cases v with
  | tuple ds =>
    match ds with
    | [] => exact lgu s _ _ (gu1 s)
    | [a] => exact lgu s _ _ (gu2 s a)
    | a :: b :: c :: t =>
      have e : isLongGrid (.tuple (a :: b :: c :: t)) = false := by cases b <;> rfl
      rw [e]
      exact lgu s _ _ (gu3 s a b c t)
    | [w, r] =>
      by_cases hw : isInt w = true
      · cases w with
        | int i =>
          by_cases h : 0 ≤ i ∧ i ≤ 60
          · obtain ⟨h0, h1⟩ := h
            have hb : isBetween 0 60 (.int i) = true := by
              have e : isBetween 0 60 (.int i) = (decide (i.natAbs < 1000000000000) && decide (0 ≤ i) && decide (i ≤ 60)) := rfl
              rw [e, decide_eq_true (by omega), decide_eq_true h0, decide_eq_true h1]
              rfl
            cases r with
            | tuple rows =>
              have q : isLongGrid (.tuple [.int i, .tuple rows]) = (isBetween 0 60 (.int i) && decide (rows.length ≤ 60) && rows.all fun d => isLongRow d && hasLen i d) := rfl
              by_cases h2 : rows.length ≤ 60
              · rw [q, hb, decide_eq_true h2, Bool.true_and, Bool.true_and]
                by_cases ha : rows.all (hasLen i) = true
                · have ht : ∀ r ∈ rows, ∃ es, r = .tuple es ∧ es.length ≤ 60 := fun r m => by
                    have hr := List.all_eq_true.mp ha r m
                    cases r with
                    | tuple es => exact ⟨es, rfl, by have z := of_decide_eq_true hr; omega⟩
                    | _ => cases hr
                  have e : ((rows.flatMap itemsD).all isInt) = rows.all fun d => isLongRow d && hasLen i d := by
                    rw [Bool.eq_iff_iff]
                    simp only [List.all_eq_true, List.mem_flatMap, forall_exists_index, and_imp, Bool.and_eq_true]
                    constructor
                    · intro hi r m
                      refine ⟨?_, List.all_eq_true.mp ha r m⟩
                      obtain ⟨es, rfl, hl⟩ := ht r m
                      have e2 : isLongRow (.tuple es) = (decide (es.length ≤ 60) && es.all isInt) := rfl
                      rw [e2, decide_eq_true hl, Bool.true_and, List.all_eq_true]
                      exact fun x hx => hi x _ m hx
                    · intro hi x r m hx
                      have := (hi r m).1
                      obtain ⟨es, rfl, hl⟩ := ht r m
                      have e2 : isLongRow (.tuple es) = (decide (es.length ≤ 60) && es.all isInt) := rfl
                      rw [e2, Bool.and_eq_true, List.all_eq_true] at this
                      exact this.2 x hx
                  rw [← e]
                  exact lgu s _ _ (gu8 s i rows _ _ h0 h1 h2 (gu9 s i rows _ _ h2) ha (have_ints h2 ht))
                · have ha' : rows.all (hasLen i) = false := by simpa using ha
                  have e : (rows.all fun d => isLongRow d && hasLen i d) = false := by
                    by_cases z : (rows.all fun d => isLongRow d && hasLen i d) = true
                    · exfalso
                      apply ha
                      rw [List.all_eq_true] at z ⊢
                      exact fun x hx => (Bool.and_eq_true _ _ ▸ z x hx).2
                    · simpa using z
                  rw [e]
                  exact lgu s _ _ (gu7 s i rows _ h0 h1 h2 (gu9 s i rows _ _ h2) ha')
              · rw [q, decide_eq_false h2, Bool.and_false, Bool.false_and]
                exact lgu s _ _ (gu6 s i rows h0 h1 h2)
            | _ => exact lgu s _ _ (gu5 s i _ h0 h1 rfl)
          · have hb : isBetween 0 60 (.int i) = false := by
              have e : isBetween 0 60 (.int i) = (decide (i.natAbs < 1000000000000) && decide (0 ≤ i) && decide (i ≤ 60)) := rfl
              rw [e, Bool.and_assoc, ← Bool.decide_and, decide_eq_false h, Bool.and_false]
            have q : isLongGrid (.tuple [.int i, r]) = false := by cases r <;> simp [isLongGrid, hb]
            rw [q]
            exact lgu s _ _ (gu4b s i r h)
        | _ => cases hw
      · have hw' : isInt w = false := by simpa using hw
        have hb : isBetween 0 60 w = false := by
          cases w with
          | int i => cases hw'
          | _ => rfl
        have q : isLongGrid (.tuple [w, r]) = false := by cases r <;> simp [isLongGrid, hb]
        rw [q]
        exact lgu s _ _ (gu4 s w r hw')
  | _ => exact lgu s _ _ (by simp -implicitDefEqProofs [Math.ap_eVar, Math.ap_lVar, Math.ap_eC, Math.ap_eL, Math.ap_eUn, Math.ap_eBin, Math.ap_eAnd, Math.ap_eOr, Math.ap_eNot, Math.ap_mE, Math.ap_mNot, Math.ap_mAnd, Math.ap_mOr, Math.ap_eIf, Math.ap_aNil, Math.ap_aCons, Math.ap_dNil, Math.ap_dCons, Math.ap_eTup, Math.ap_cLst, Math.ap_eFr, Math.ap_eIx, Math.ap_eSl, Math.ap_cList, Math.ap_eCall, Math.ap_cCall, Math.ap_mSeq, Math.ap_mNil, Math.ap_mSet, Math.ap_mSetC, Math.ap_mRet, Math.ap_mRetN, Math.ap_mRetL, Math.ap_mDrop, Math.ap_mIf, Math.ap_mNever, Math.ap_mPar, Math.ap_mPar3, Math.ap_mPut, Math.ap_mApp, Math.ap_mTo, Math.ap_mYes, Math.ap_iSq, Math.ap_iZp, Math.ap_iEn, Math.ap_mRetC, Math.ap_eCh, Math.ap_noPart, Math.ap_aPart, Math.ap_eSlice, Math.ap_mkF, Math.ap_mkC, Mir.env0, Mir.fin, Mir.finC, Mir.thenDo, Mir.toFl, Mir.wipeE, Mir.itemsOf, Mir.orBad, Mir.gNm, Mir.gTp, Mir.gNms, Mir.Out.bind, Mir.gIx, Mir.seqOf, Mir.gLen, Mir.gTuple, Mir.gAbs, Mir.gInt, Mir.gCmp, Mir.gI, Mir.gAdd, Mir.gSub, Mir.gNeg, Mir.gBols, Mir.gInts, Mir.gChain, Mir.nxO, Mir.putAt, Mir.appAt, Mir.isC, L2.atI, L2.ixN, Math.eIsi_tuple, Math.eIsi_int, Math.eIsi_bool, Math.gEq_int, Math.gEq_bool, run_is_grid_up_to, isTup, isLongGrid])
theorem row_long {d : PyData} (h : isRow d = true) : isLongRow d = true := by
  cases d <;> simp only [isRow, isLongRow, Bool.and_eq_true, decide_eq_true_eq, List.all_eq_true, Bool.false_eq_true] at h ⊢
  exact ⟨h.1, fun x hx => short_int (h.2 x hx)⟩
theorem gr1 (s : Sto) (v : PyData) (h : isLongGrid v = false) : run_is_grid [.d v] s = .ok (.bool false) s := by
  simp -implicitDefEqProofs [Math.ap_eVar, Math.ap_lVar, Math.ap_eC, Math.ap_eL, Math.ap_eUn, Math.ap_eBin, Math.ap_eAnd, Math.ap_eOr, Math.ap_eNot, Math.ap_mE, Math.ap_mNot, Math.ap_mAnd, Math.ap_mOr, Math.ap_eIf, Math.ap_aNil, Math.ap_aCons, Math.ap_dNil, Math.ap_dCons, Math.ap_eTup, Math.ap_cLst, Math.ap_eFr, Math.ap_eIx, Math.ap_eSl, Math.ap_cList, Math.ap_eCall, Math.ap_cCall, Math.ap_mSeq, Math.ap_mNil, Math.ap_mSet, Math.ap_mSetC, Math.ap_mRet, Math.ap_mRetN, Math.ap_mRetL, Math.ap_mDrop, Math.ap_mIf, Math.ap_mNever, Math.ap_mPar, Math.ap_mPar3, Math.ap_mPut, Math.ap_mApp, Math.ap_mTo, Math.ap_mYes, Math.ap_iSq, Math.ap_iZp, Math.ap_iEn, Math.ap_mRetC, Math.ap_eCh, Math.ap_noPart, Math.ap_aPart, Math.ap_eSlice, Math.ap_mkF, Math.ap_mkC, Mir.env0, Mir.fin, Mir.finC, Mir.thenDo, Mir.toFl, Mir.wipeE, Mir.itemsOf, Mir.orBad, Mir.gNm, Mir.gTp, Mir.gNms, Mir.Out.bind, Mir.gIx, Mir.seqOf, Mir.gLen, Mir.gTuple, Mir.gAbs, Mir.gInt, Mir.gCmp, Mir.gI, Mir.gAdd, Mir.gSub, Mir.gNeg, Mir.gBols, Mir.gInts, Mir.gChain, Mir.nxO, Mir.putAt, Mir.appAt, Mir.isC, L2.atI, L2.ixN, Math.eIsi_tuple, Math.eIsi_int, Math.eIsi_bool, Math.gEq_int, Math.gEq_bool, run_is_grid, long_grid, h]
theorem gr2 (s : Sto) (w : PyData) (rows : List PyData) (h : isLongGrid (.tuple [w, .tuple rows]) = true)
    (c : cComp (iSq (eIx (lVar 0) (eC (.int 1)))) (gNm 1) mYes (eCall 1 run_are_short (aCons (lVar 1) aNil)) [1] [some (.d (.tuple [w, .tuple rows])), none] s = .ok (rows.map fun d => .bool (isRow d)) s) :
    run_is_grid [.d (.tuple [w, .tuple rows])] s = .ok (.bool (rows.all isRow)) s := by
  simp -implicitDefEqProofs [Math.ap_eVar, Math.ap_lVar, Math.ap_eC, Math.ap_eL, Math.ap_eUn, Math.ap_eBin, Math.ap_eAnd, Math.ap_eOr, Math.ap_eNot, Math.ap_mE, Math.ap_mNot, Math.ap_mAnd, Math.ap_mOr, Math.ap_eIf, Math.ap_aNil, Math.ap_aCons, Math.ap_dNil, Math.ap_dCons, Math.ap_eTup, Math.ap_cLst, Math.ap_eFr, Math.ap_eIx, Math.ap_eSl, Math.ap_cList, Math.ap_eCall, Math.ap_cCall, Math.ap_mSeq, Math.ap_mNil, Math.ap_mSet, Math.ap_mSetC, Math.ap_mRet, Math.ap_mRetN, Math.ap_mRetL, Math.ap_mDrop, Math.ap_mIf, Math.ap_mNever, Math.ap_mPar, Math.ap_mPar3, Math.ap_mPut, Math.ap_mApp, Math.ap_mTo, Math.ap_mYes, Math.ap_iSq, Math.ap_iZp, Math.ap_iEn, Math.ap_mRetC, Math.ap_eCh, Math.ap_noPart, Math.ap_aPart, Math.ap_eSlice, Math.ap_mkF, Math.ap_mkC, Mir.env0, Mir.fin, Mir.finC, Mir.thenDo, Mir.toFl, Mir.wipeE, Mir.itemsOf, Mir.orBad, Mir.gNm, Mir.gTp, Mir.gNms, Mir.Out.bind, Mir.gIx, Mir.seqOf, Mir.gLen, Mir.gTuple, Mir.gAbs, Mir.gInt, Mir.gCmp, Mir.gI, Mir.gAdd, Mir.gSub, Mir.gNeg, Mir.gBols, Mir.gInts, Mir.gChain, Mir.nxO, Mir.putAt, Mir.appAt, Mir.isC, L2.atI, L2.ixN, Math.eIsi_tuple, Math.eIsi_int, Math.eIsi_bool, Math.gEq_int, Math.gEq_bool, run_is_grid, long_grid, h, c, bols_map]
theorem gr3 (s : Sto) (w : PyData) (rows : List PyData) (h : rows.length ≤ 60) (hr : ∀ d ∈ rows, isLongRow d = true) :
    cComp (iSq (eIx (lVar 0) (eC (.int 1)))) (gNm 1) mYes (eCall 1 run_are_short (aCons (lVar 1) aNil)) [1] [some (.d (.tuple [w, .tuple rows])), none] s = .ok (rows.map fun d => .bool (isRow d)) s :=
  comp_map _ (by simp -implicitDefEqProofs [Math.ap_eVar, Math.ap_lVar, Math.ap_eC, Math.ap_eL, Math.ap_eUn, Math.ap_eBin, Math.ap_eAnd, Math.ap_eOr, Math.ap_eNot, Math.ap_mE, Math.ap_mNot, Math.ap_mAnd, Math.ap_mOr, Math.ap_eIf, Math.ap_aNil, Math.ap_aCons, Math.ap_dNil, Math.ap_dCons, Math.ap_eTup, Math.ap_cLst, Math.ap_eFr, Math.ap_eIx, Math.ap_eSl, Math.ap_cList, Math.ap_eCall, Math.ap_cCall, Math.ap_mSeq, Math.ap_mNil, Math.ap_mSet, Math.ap_mSetC, Math.ap_mRet, Math.ap_mRetN, Math.ap_mRetL, Math.ap_mDrop, Math.ap_mIf, Math.ap_mNever, Math.ap_mPar, Math.ap_mPar3, Math.ap_mPut, Math.ap_mApp, Math.ap_mTo, Math.ap_mYes, Math.ap_iSq, Math.ap_iZp, Math.ap_iEn, Math.ap_mRetC, Math.ap_eCh, Math.ap_noPart, Math.ap_aPart, Math.ap_eSlice, Math.ap_mkF, Math.ap_mkC, Mir.env0, Mir.fin, Mir.finC, Mir.thenDo, Mir.toFl, Mir.wipeE, Mir.itemsOf, Mir.orBad, Mir.gNm, Mir.gTp, Mir.gNms, Mir.Out.bind, Mir.gIx, Mir.seqOf, Mir.gLen, Mir.gTuple, Mir.gAbs, Mir.gInt, Mir.gCmp, Mir.gI, Mir.gAdd, Mir.gSub, Mir.gNeg, Mir.gBols, Mir.gInts, Mir.gChain, Mir.nxO, Mir.putAt, Mir.appAt, Mir.isC, L2.atI, L2.ixN, Math.eIsi_tuple, Math.eIsi_int, Math.eIsi_bool, Math.gEq_int, Math.gEq_bool]) (by omega) fun d m => by
    obtain ⟨ns, rfl, hl⟩ := long_row_ints (hr d m)
    have c := are_short (s := s) (ns := ns)
    rw [isRow_ints hl]
    simp -implicitDefEqProofs [Math.ap_eVar, Math.ap_lVar, Math.ap_eC, Math.ap_eL, Math.ap_eUn, Math.ap_eBin, Math.ap_eAnd, Math.ap_eOr, Math.ap_eNot, Math.ap_mE, Math.ap_mNot, Math.ap_mAnd, Math.ap_mOr, Math.ap_eIf, Math.ap_aNil, Math.ap_aCons, Math.ap_dNil, Math.ap_dCons, Math.ap_eTup, Math.ap_cLst, Math.ap_eFr, Math.ap_eIx, Math.ap_eSl, Math.ap_cList, Math.ap_eCall, Math.ap_cCall, Math.ap_mSeq, Math.ap_mNil, Math.ap_mSet, Math.ap_mSetC, Math.ap_mRet, Math.ap_mRetN, Math.ap_mRetL, Math.ap_mDrop, Math.ap_mIf, Math.ap_mNever, Math.ap_mPar, Math.ap_mPar3, Math.ap_mPut, Math.ap_mApp, Math.ap_mTo, Math.ap_mYes, Math.ap_iSq, Math.ap_iZp, Math.ap_iEn, Math.ap_mRetC, Math.ap_eCh, Math.ap_noPart, Math.ap_aPart, Math.ap_eSlice, Math.ap_mkF, Math.ap_mkC, Mir.env0, Mir.fin, Mir.finC, Mir.thenDo, Mir.toFl, Mir.wipeE, Mir.itemsOf, Mir.orBad, Mir.gNm, Mir.gTp, Mir.gNms, Mir.Out.bind, Mir.gIx, Mir.seqOf, Mir.gLen, Mir.gTuple, Mir.gAbs, Mir.gInt, Mir.gCmp, Mir.gI, Mir.gAdd, Mir.gSub, Mir.gNeg, Mir.gBols, Mir.gInts, Mir.gChain, Mir.nxO, Mir.putAt, Mir.appAt, Mir.isC, L2.atI, L2.ixN, Math.eIsi_tuple, Math.eIsi_int, Math.eIsi_bool, Math.gEq_int, Math.gEq_bool, c]
theorem isGrid_eq (w : PyData) (rows : List PyData) : isGrid (.tuple [w, .tuple rows]) = (isLongGrid (.tuple [w, .tuple rows]) && rows.all isRow) := by
  have e1 : isGrid (.tuple [w, .tuple rows]) = (isBetween 0 60 w && decide (rows.length ≤ 60) && rows.all fun r => isRow r && lenIs w r) := rfl
  have e2 : isLongGrid (.tuple [w, .tuple rows]) = (isBetween 0 60 w && decide (rows.length ≤ 60) && rows.all fun r => isLongRow r && lenIs w r) := rfl
  rw [e1, e2, Bool.and_assoc (isBetween 0 60 w && decide (rows.length ≤ 60))]
  congr 1
  rw [Bool.eq_iff_iff]
  simp only [Bool.and_eq_true, List.all_eq_true]
  constructor
  · exact fun h => ⟨fun x hx => ⟨row_long (h x hx).1, (h x hx).2⟩, fun x hx => (h x hx).1⟩
  · exact fun h x hx => ⟨h.2 x hx, (h.1 x hx).2⟩
theorem isGrid_long {v : PyData} (h : isLongGrid v = false) : isGrid v = false := by
  match v with
  | .tuple [w, .tuple rows] => rw [isGrid_eq, h, Bool.false_and]
  | .tuple [] => rfl
  | .tuple [a] => cases a <;> rfl
  | .tuple (a :: b :: c :: t) => cases b <;> rfl
  | .tuple [w, .int _] => rfl
  | .tuple [w, .bool _] => rfl
  | .tuple [w, .str _] => rfl
  | .tuple [w, .list _] => rfl
  | .tuple [w, .dict _] => rfl
  | .tuple [w, .none] => rfl
  | .int _ => rfl
  | .bool _ => rfl
  | .str _ => rfl
  | .list _ => rfl
  | .dict _ => rfl
  | .none => rfl
theorem long_grid_form {v : PyData} (h : isLongGrid v = true) : ∃ w rows, v = .tuple [w, .tuple rows] ∧ rows.length ≤ 60 ∧ ∀ d ∈ rows, isLongRow d = true := by
  unfold isLongGrid at h
  split at h
  · rename_i w rows
    simp only [Bool.and_eq_true, decide_eq_true_eq, List.all_eq_true] at h
    exact ⟨w, rows, rfl, h.1.2, fun d m => (h.2 d m).1⟩
  · cases h
theorem grid (v : PyData) (s : Sto) : run_is_grid [.d v] s = .ok (.bool (isGrid v)) s := by
  by_cases h : isLongGrid v = true
  · obtain ⟨w, rows, rfl, hl, hr⟩ := long_grid_form h
    rw [gr2 s w rows h (gr3 s w rows hl hr), isGrid_eq, h, Bool.true_and]
  · have h' : isLongGrid v = false := by simpa using h
    rw [gr1 s v h', isGrid_long h']
end Math
/-! # grids judged -/
namespace Math
open PySem Mir Fn
theorem isGrid_int (i : Int) (rows : List PyData) : isGrid (.tuple [.int i, .tuple rows]) = (isBetween 0 60 (.int i) && decide (rows.length ≤ 60) && rows.all fun r => isRow r && hasLen i r) := rfl
theorem between_int (i : Int) : isBetween 0 60 (.int i) = (decide (0 ≤ i) && decide (i ≤ 60)) := by
  have e : isBetween 0 60 (.int i) = (decide (i.natAbs < 1000000000000) && decide (0 ≤ i) && decide (i ≤ 60)) := rfl
  rw [e]
  by_cases h0 : 0 ≤ i <;> by_cases h1 : i ≤ 60 <;> simp [h0, h1]
  omega
end Math
/-! # drawn integers -/
namespace Math
open PySem Mir Fn
theorem hats_take {n : Nat} {s s' : Sto} (h : Hats n s s') : List.take (List.length s) s' = s' := take_hats h.len
theorem jg_entry {n : Nat} {s : Sto} (h : Hat n s) : ∃ (i : Int) (s' : Sto), i.natAbs < 1000000000000 ∧ Hats n s s' ∧ run_law_jg_entry [.c n] s = .ok (.int i) s' := by
  have hc : CPowB 10 12 := by decide
  have hc6 : CPowB 10 6 := by decide
  obtain ⟨r, s1, h0, h1, hs1, e1⟩ := up_to (m := 1000000) h (by decide) (by decide)
  obtain ⟨d, s2, hd, hs2, e2⟩ := out_of (ds := [.int 0, .int 0, .int 1, .int (-1), .int 2, .int (-3), .int 7, .int 999999999999, .int (-999999999999), .int (r - 500000)]) (hs1.hat h) (by simp) (by simp)
  have hs := hs1.trans hs2
  have hi : ∃ i : Int, i.natAbs < 1000000000000 ∧ d = .int i := by
    simp only [List.mem_cons, List.not_mem_nil, or_false] at hd
    rcases hd with rfl | rfl | rfl | rfl | rfl | rfl | rfl | rfl | rfl | rfl <;> exact ⟨_, by omega, rfl⟩
  obtain ⟨i, hi, rfl⟩ := hi
  refine ⟨i, s2, hi, hs, ?_⟩
  have ht := hats_take hs
  simp -implicitDefEqProofs [Math.ap_eVar, Math.ap_lVar, Math.ap_eC, Math.ap_eL, Math.ap_eUn, Math.ap_eBin, Math.ap_eAnd, Math.ap_eOr, Math.ap_eNot, Math.ap_mE, Math.ap_mNot, Math.ap_mAnd, Math.ap_mOr, Math.ap_eIf, Math.ap_aNil, Math.ap_aCons, Math.ap_dNil, Math.ap_dCons, Math.ap_eTup, Math.ap_cLst, Math.ap_eFr, Math.ap_eIx, Math.ap_eSl, Math.ap_cList, Math.ap_eCall, Math.ap_cCall, Math.ap_mSeq, Math.ap_mNil, Math.ap_mSet, Math.ap_mSetC, Math.ap_mRet, Math.ap_mRetN, Math.ap_mRetL, Math.ap_mDrop, Math.ap_mIf, Math.ap_mNever, Math.ap_mPar, Math.ap_mPar3, Math.ap_mPut, Math.ap_mApp, Math.ap_mTo, Math.ap_mYes, Math.ap_iSq, Math.ap_iZp, Math.ap_iEn, Math.ap_mRetC, Math.ap_eCh, Math.ap_noPart, Math.ap_aPart, Math.ap_eSlice, Math.ap_mkF, Math.ap_mkC, Mir.env0, Mir.fin, Mir.finC, Mir.thenDo, Mir.toFl, Mir.wipeE, Mir.itemsOf, Mir.orBad, Mir.gNm, Mir.gTp, Mir.gNms, Mir.Out.bind, Mir.gIx, Mir.seqOf, Mir.gLen, Mir.gTuple, Mir.gAbs, Mir.gInt, Mir.gCmp, Mir.gI, Mir.gAdd, Mir.gSub, Mir.gNeg, Mir.gBols, Mir.gInts, Mir.gChain, Mir.nxO, Mir.putAt, Mir.appAt, Mir.isC, L2.atI, L2.ixN, Math.eIsi_tuple, Math.eIsi_int, Math.eIsi_bool, Math.gEq_int, Math.gEq_bool, run_law_jg_entry, e1, e2, hc, hc6, ht]
end Math
/-! # drawn rows and grids -/
namespace Math
open PySem Mir Fn
/-- a comprehension over draws -/
theorem comp_draw {it : MD} {k n : Nat} {fe : ME} {ρ : Mir.Env} {s : Sto} {P : PyData → Prop} {ds : List PyData} (hi : it ρ s = .ok ds s) (hl : ds.length ≤ 100000) (h : Hat n s)
    (hf : ∀ s1, Hat n s1 → ∀ d ∈ ds, ∃ y s', P y ∧ Hats n s1 s' ∧ fe ((wipeE ρ [k]).set k (some (.d d))) s1 = .ok y s') :
    ∃ ys s', ys.length = ds.length ∧ (∀ y ∈ ys, P y) ∧ Hats n s s' ∧ cComp it (gNm k) mYes fe [k] ρ s = .ok ys s' := by
  have go : ∀ (es : List PyData) (s : Sto), Hat n s → (∀ d ∈ es, d ∈ ds) → ∃ ys s', ys.length = es.length ∧ (∀ y ∈ ys, P y) ∧ Hats n s s' ∧ compL (gNm k) mYes fe (wipeE ρ [k]) es s = .ok ys s' := by
    intro es
    induction es with
    | nil => exact fun s h _ => ⟨[], s, rfl, fun _ q => by simp at q, Hats.refl h, rfl⟩
    | cons d es ih =>
      intro s h hd
      obtain ⟨y, s1, p1, q1, e1⟩ := hf s h d (hd d (by simp))
      obtain ⟨ys, s2, p2, p3, q2, e2⟩ := ih s1 (q1.hat h) fun x hx => hd x (by simp [hx])
      refine ⟨y :: ys, s2, by simp [p2], fun z hz => ?_, q1.trans q2, ?_⟩
      · rcases List.mem_cons.mp hz with rfl | hz
        · exact p1
        · exact p3 z hz
      · have eg : gNm k d (wipeE ρ [k]) = some ((wipeE ρ [k]).set k (some (.d d))) := rfl
        unfold compL
        rw [eg]
        simp only [mYes, Out.bind_ok, if_true, e1, e2]
  obtain ⟨ys, s', p1, p2, q, e⟩ := go ds s h fun _ q => q
  refine ⟨ys, s', p1, p2, q, ?_⟩
  unfold cComp
  rw [hi, Out.bind_ok, if_pos hl, e]
theorem rangeOf_length (lo : Int) (n : Nat) : (rangeOf lo n).length = n := by simp [rangeOf]
theorem list_of {α : Type} {g : α → PyData} {Q : α → Prop} : ∀ {ys : List PyData}, (∀ y ∈ ys, ∃ a, Q a ∧ y = g a) → ∃ xs : List α, ys = xs.map g ∧ ∀ x ∈ xs, Q x
  | [], _ => ⟨[], rfl, fun _ h => by simp at h⟩
  | y :: ys, h => by
    obtain ⟨xs, e, q⟩ := list_of (ys := ys) fun z hz => h z (by simp [hz])
    obtain ⟨a, ha, rfl⟩ := h y (by simp)
    refine ⟨a :: xs, by rw [e, List.map_cons], fun x hx => ?_⟩
    rcases List.mem_cons.mp hx with rfl | hx
    · exact ha
    · exact q x hx
/-- the data of a row and of a grid -/
def rowD (r : List Int) : PyData := .tuple (r.map .int)
def grid_D (w : Nat) (rows : List (List Int)) : PyData := .tuple [.int w, .tuple (rows.map rowD)]
def Few (x : Int) : Prop := x.natAbs < 1000000000000
theorem range_ok (i : Nat) (ρ : Mir.Env) (s : Sto) (k : Nat) (hk : k ≤ 1000) (h : ρ[i]? = some (some (.d (.int k)))) : iRg1 (eVar i) ρ s = .ok (rangeOf 0 k) s := by
  have e : eVar i ρ s = .ok (.int k) s := by
    unfold eVar
    rw [h]
  unfold iRg1
  rw [e, Out.bind_ok]
  have c : -(2 ^ 62 : Int) ≤ (k : Int) ∧ (k : Int) < 2 ^ 62 := by omega
  simp only [c, and_self, if_true, Int.toNat_natCast]
theorem jg_row {n : Nat} {s : Sto} {w i j : Nat} {ρ : Mir.Env} (h : Hat n s) (hw : w ≤ 1000) (h0 : ρ[0]? = some (some (.c n))) (hi : ρ[i]? = some (some (.d (.int w)))) (hj0 : j ≠ 0) :
    ∃ (r : List Int) (s' : Sto), r.length = w ∧ (∀ x ∈ r, Few x) ∧ Hats n s s' ∧ cComp (iRg1 (eVar i)) (gNm j) mYes (eCall 1 run_law_jg_entry (aCons (lVar 0) aNil)) [j] ρ s = .ok (r.map .int) s' := by
  obtain ⟨ys, s', p1, p2, q, e⟩ := comp_draw (P := fun y => ∃ i, Few i ∧ y = .int i) (k := j) (fe := eCall 1 run_law_jg_entry (aCons (lVar 0) aNil)) (range_ok i ρ s w hw hi) (by rw [rangeOf_length]; omega) h fun s1 h1 d _ => by
    obtain ⟨x, s2, p, q, e⟩ := jg_entry h1
    refine ⟨.int x, s2, ⟨x, p, rfl⟩, q, ?_⟩
    have e0 : ((wipeE ρ [j]).set j (some (.d d)))[0]? = some (some (.c n)) := by
      show ((ρ.set j none).set j (some (.d d)))[0]? = _
      rw [List.getElem?_set_ne hj0, List.getElem?_set_ne hj0, h0]
    have el : lVar 0 ((wipeE ρ [j]).set j (some (.d d))) s1 = .ok (.c n) s1 := by
      unfold lVar
      rw [e0]
    simp only [ap_eCall, ap_aCons, ap_aNil, el, Out.bind_ok, List.length_cons, List.length_nil, if_true, e]
  obtain ⟨r, rfl, hr⟩ := list_of p2
  refine ⟨r, s', ?_, hr, q, e⟩
  rw [List.length_map, rangeOf_length] at p1
  exact p1
theorem jw1 {s s' : Sto} {n : Nat} {a b : Int} {ys : List PyData} (ht : List.take (List.length s) s' = s')
    (c : cComp (iRg1 (eVar 1)) (gNm 3) mYes (eSl gTuple (eL (eFr (cComp (iRg1 (eVar 2)) (gNm 4) mYes (eCall 1 run_law_jg_entry (aCons (lVar 0) aNil)) [4])))) [3] [some (.c n), some (.d (.int a)), some (.d (.int b)), none, none] s = .ok ys s') :
    run_law_jg_wide [.c n, .d (.int a), .d (.int b)] s = .ok (.tuple [.int b, .tuple ys]) s' := by
  simp -implicitDefEqProofs [Math.ap_eVar, Math.ap_lVar, Math.ap_eC, Math.ap_eL, Math.ap_eUn, Math.ap_eBin, Math.ap_eAnd, Math.ap_eOr, Math.ap_eNot, Math.ap_mE, Math.ap_mNot, Math.ap_mAnd, Math.ap_mOr, Math.ap_eIf, Math.ap_aNil, Math.ap_aCons, Math.ap_dNil, Math.ap_dCons, Math.ap_eTup, Math.ap_cLst, Math.ap_eFr, Math.ap_eIx, Math.ap_eSl, Math.ap_cList, Math.ap_eCall, Math.ap_cCall, Math.ap_mSeq, Math.ap_mNil, Math.ap_mSet, Math.ap_mSetC, Math.ap_mRet, Math.ap_mRetN, Math.ap_mRetL, Math.ap_mDrop, Math.ap_mIf, Math.ap_mNever, Math.ap_mPar, Math.ap_mPar3, Math.ap_mPut, Math.ap_mApp, Math.ap_mTo, Math.ap_mYes, Math.ap_iSq, Math.ap_iZp, Math.ap_iEn, Math.ap_mRetC, Math.ap_eCh, Math.ap_noPart, Math.ap_aPart, Math.ap_eSlice, Math.ap_mkF, Math.ap_mkC, Mir.env0, Mir.fin, Mir.finC, Mir.thenDo, Mir.toFl, Mir.wipeE, Mir.itemsOf, Mir.orBad, Mir.gNm, Mir.gTp, Mir.gNms, Mir.Out.bind, Mir.gIx, Mir.seqOf, Mir.gLen, Mir.gTuple, Mir.gAbs, Mir.gInt, Mir.gCmp, Mir.gI, Mir.gAdd, Mir.gSub, Mir.gNeg, Mir.gBols, Mir.gInts, Mir.gChain, Mir.nxO, Mir.putAt, Mir.appAt, Mir.isC, L2.atI, L2.ixN, Math.eIsi_tuple, Math.eIsi_int, Math.eIsi_bool, Math.gEq_int, Math.gEq_bool, run_law_jg_wide, c, ht]
theorem jw2 {s s' : Sto} {n : Nat} {a b : Int} {d : PyData} {r : List PyData}
    (c : cComp (iRg1 (eVar 2)) (gNm 4) mYes (eCall 1 run_law_jg_entry (aCons (lVar 0) aNil)) [4] [some (.c n), some (.d (.int a)), some (.d (.int b)), some (.d d), none] s = .ok r s') :
    eSl gTuple (eL (eFr (cComp (iRg1 (eVar 2)) (gNm 4) mYes (eCall 1 run_law_jg_entry (aCons (lVar 0) aNil)) [4]))) [some (.c n), some (.d (.int a)), some (.d (.int b)), some (.d d), none] s = .ok (.tuple r) s' := by
  simp -implicitDefEqProofs [Math.ap_eVar, Math.ap_lVar, Math.ap_eC, Math.ap_eL, Math.ap_eUn, Math.ap_eBin, Math.ap_eAnd, Math.ap_eOr, Math.ap_eNot, Math.ap_mE, Math.ap_mNot, Math.ap_mAnd, Math.ap_mOr, Math.ap_eIf, Math.ap_aNil, Math.ap_aCons, Math.ap_dNil, Math.ap_dCons, Math.ap_eTup, Math.ap_cLst, Math.ap_eFr, Math.ap_eIx, Math.ap_eSl, Math.ap_cList, Math.ap_eCall, Math.ap_cCall, Math.ap_mSeq, Math.ap_mNil, Math.ap_mSet, Math.ap_mSetC, Math.ap_mRet, Math.ap_mRetN, Math.ap_mRetL, Math.ap_mDrop, Math.ap_mIf, Math.ap_mNever, Math.ap_mPar, Math.ap_mPar3, Math.ap_mPut, Math.ap_mApp, Math.ap_mTo, Math.ap_mYes, Math.ap_iSq, Math.ap_iZp, Math.ap_iEn, Math.ap_mRetC, Math.ap_eCh, Math.ap_noPart, Math.ap_aPart, Math.ap_eSlice, Math.ap_mkF, Math.ap_mkC, Mir.env0, Mir.fin, Mir.finC, Mir.thenDo, Mir.toFl, Mir.wipeE, Mir.itemsOf, Mir.orBad, Mir.gNm, Mir.gTp, Mir.gNms, Mir.Out.bind, Mir.gIx, Mir.seqOf, Mir.gLen, Mir.gTuple, Mir.gAbs, Mir.gInt, Mir.gCmp, Mir.gI, Mir.gAdd, Mir.gSub, Mir.gNeg, Mir.gBols, Mir.gInts, Mir.gChain, Mir.nxO, Mir.putAt, Mir.appAt, Mir.isC, L2.atI, L2.ixN, Math.eIsi_tuple, Math.eIsi_int, Math.eIsi_bool, Math.gEq_int, Math.gEq_bool, c]
theorem jg_wide {n : Nat} {s : Sto} {hh w : Nat} (h : Hat n s) (hw : w ≤ 1000) (hhl : hh ≤ 1000) :
    ∃ (rows : List (List Int)) (s' : Sto), rows.length = hh ∧ (∀ r ∈ rows, r.length = w ∧ ∀ x ∈ r, Few x) ∧ Hats n s s' ∧ run_law_jg_wide [.c n, .d (.int hh), .d (.int w)] s = .ok (grid_D w rows) s' := by
  obtain ⟨ys, s', p1, p2, q, e⟩ := comp_draw (P := fun y => ∃ r : List Int, (r.length = w ∧ ∀ x ∈ r, Few x) ∧ y = rowD r) (k := 3) (fe := eSl gTuple (eL (eFr (cComp (iRg1 (eVar 2)) (gNm 4) mYes (eCall 1 run_law_jg_entry (aCons (lVar 0) aNil)) [4]))))
    (ρ := [some (.c n), some (.d (.int hh)), some (.d (.int w)), none, none]) (range_ok 1 _ s hh hhl rfl) (by rw [rangeOf_length]; omega) h fun s1 h1 d _ => by
    obtain ⟨r, s2, p, p2, q, e⟩ := jg_row (i := 2) (j := 4) (ρ := [some (.c n), some (.d (.int hh)), some (.d (.int w)), some (.d d), none]) h1 hw rfl rfl (by decide)
    exact ⟨rowD r, s2, ⟨r, ⟨p, p2⟩, rfl⟩, q, jw2 e⟩
  obtain ⟨rows, rfl, hr⟩ := list_of p2
  refine ⟨rows, s', ?_, hr, q, jw1 (hats_take q) e⟩
  rw [List.length_map, rangeOf_length] at p1
  exact p1
end Math
/-! # grids as the program makes them -/
namespace Math
open PySem Mir Fn
theorem pg1 {s : Sto} {a : PyData} {rows ys : List PyData}
    (c : cComp (iSq (eVar 0)) (gNm 2) mYes (eSl gTuple (lVar 2)) [2] [some (.d (.list rows)), some (.d a), none] s = .ok ys s) : run_plain_grid [.d (.list rows), .d a] s = .ok (.tuple [a, .tuple ys]) s := by
  simp -implicitDefEqProofs [Math.ap_eVar, Math.ap_lVar, Math.ap_eC, Math.ap_eL, Math.ap_eUn, Math.ap_eBin, Math.ap_eAnd, Math.ap_eOr, Math.ap_eNot, Math.ap_mE, Math.ap_mNot, Math.ap_mAnd, Math.ap_mOr, Math.ap_eIf, Math.ap_aNil, Math.ap_aCons, Math.ap_dNil, Math.ap_dCons, Math.ap_eTup, Math.ap_cLst, Math.ap_eFr, Math.ap_eIx, Math.ap_eSl, Math.ap_cList, Math.ap_eCall, Math.ap_cCall, Math.ap_mSeq, Math.ap_mNil, Math.ap_mSet, Math.ap_mSetC, Math.ap_mRet, Math.ap_mRetN, Math.ap_mRetL, Math.ap_mDrop, Math.ap_mIf, Math.ap_mNever, Math.ap_mPar, Math.ap_mPar3, Math.ap_mPut, Math.ap_mApp, Math.ap_mTo, Math.ap_mYes, Math.ap_iSq, Math.ap_iZp, Math.ap_iEn, Math.ap_mRetC, Math.ap_eCh, Math.ap_noPart, Math.ap_aPart, Math.ap_eSlice, Math.ap_mkF, Math.ap_mkC, Mir.env0, Mir.fin, Mir.finC, Mir.thenDo, Mir.toFl, Mir.wipeE, Mir.itemsOf, Mir.orBad, Mir.gNm, Mir.gTp, Mir.gNms, Mir.Out.bind, Mir.gIx, Mir.seqOf, Mir.gLen, Mir.gTuple, Mir.gAbs, Mir.gInt, Mir.gCmp, Mir.gI, Mir.gAdd, Mir.gSub, Mir.gNeg, Mir.gBols, Mir.gInts, Mir.gChain, Mir.nxO, Mir.putAt, Mir.appAt, Mir.isC, L2.atI, L2.ixN, Math.eIsi_tuple, Math.eIsi_int, Math.eIsi_bool, Math.gEq_int, Math.gEq_bool, run_plain_grid, c]
theorem plain_grid {s : Sto} {a : PyData} {rows : List PyData} (g : PyData → List PyData) (hl : rows.length ≤ 100000) (hg : ∀ r ∈ rows, r = .list (g r) ∨ r = .tuple (g r)) :
    run_plain_grid [.d (.list rows), .d a] s = .ok (.tuple [a, .tuple (rows.map fun r => .tuple (g r))]) s := by
  apply pg1
  refine comp_map (fun r => .tuple (g r)) rfl hl fun r hr => ?_
  rcases hg r hr with e | e <;> (generalize g r = x at *; subst e; simp -implicitDefEqProofs [Math.ap_eVar, Math.ap_lVar, Math.ap_eC, Math.ap_eL, Math.ap_eUn, Math.ap_eBin, Math.ap_eAnd, Math.ap_eOr, Math.ap_eNot, Math.ap_mE, Math.ap_mNot, Math.ap_mAnd, Math.ap_mOr, Math.ap_eIf, Math.ap_aNil, Math.ap_aCons, Math.ap_dNil, Math.ap_dCons, Math.ap_eTup, Math.ap_cLst, Math.ap_eFr, Math.ap_eIx, Math.ap_eSl, Math.ap_cList, Math.ap_eCall, Math.ap_cCall, Math.ap_mSeq, Math.ap_mNil, Math.ap_mSet, Math.ap_mSetC, Math.ap_mRet, Math.ap_mRetN, Math.ap_mRetL, Math.ap_mDrop, Math.ap_mIf, Math.ap_mNever, Math.ap_mPar, Math.ap_mPar3, Math.ap_mPut, Math.ap_mApp, Math.ap_mTo, Math.ap_mYes, Math.ap_iSq, Math.ap_iZp, Math.ap_iEn, Math.ap_mRetC, Math.ap_eCh, Math.ap_noPart, Math.ap_aPart, Math.ap_eSlice, Math.ap_mkF, Math.ap_mkC, Mir.env0, Mir.fin, Mir.finC, Mir.thenDo, Mir.toFl, Mir.wipeE, Mir.itemsOf, Mir.orBad, Mir.gNm, Mir.gTp, Mir.gNms, Mir.Out.bind, Mir.gIx, Mir.seqOf, Mir.gLen, Mir.gTuple, Mir.gAbs, Mir.gInt, Mir.gCmp, Mir.gI, Mir.gAdd, Mir.gSub, Mir.gNeg, Mir.gBols, Mir.gInts, Mir.gChain, Mir.nxO, Mir.putAt, Mir.appAt, Mir.isC, L2.atI, L2.ixN, Math.eIsi_tuple, Math.eIsi_int, Math.eIsi_bool, Math.gEq_int, Math.gEq_bool])
/-- the row j of a grid turned -/
def col (rows : List (List Int)) (j : Nat) : List Int := rows.map fun r => r.getD j 0
def cols (rows : List (List Int)) (w : Nat) : List (List Int) := (List.range w).map (col rows)
theorem at_row {r : List Int} {j : Nat} {b : Int} (hb : b = (j : Int)) (hj : j < r.length) (s : Sto) : gIx (.d (rowD r)) (.int b) s = .ok (.int (r.getD j 0)) s := by
  subst hb
  have e : (r.map PyData.int)[j]? = some (.int (r.getD j 0)) := by
    rw [List.getElem?_map, List.getElem?_eq_getElem hj, List.getD_eq_getElem?_getD, List.getElem?_eq_getElem hj]
    rfl
  have h2 : L2.atI (r.map PyData.int) (j : Int) = some (.int (r.getD j 0)) := by
    unfold L2.atI L2.ixN
    rw [List.length_map, if_pos (by omega), if_pos (by omega)]
    exact e
  unfold gIx
  have h3 : seqOf (.d (rowD r)) s = some (true, r.map PyData.int) := rfl
  rw [h3]
  simp only [h2]
theorem ints_at {r : List Int} {j : Nat} (hj : j < r.length) : (r.map PyData.int).getD j .none = .int (r.getD j 0) := by
  rw [List.getD_eq_getElem?_getD, List.getElem?_map, List.getElem?_eq_getElem hj, List.getD_eq_getElem?_getD, List.getElem?_eq_getElem hj]
  rfl
/-- a row as a list of the call's own -/
def rowL (r : List Int) : PyData := .list (r.map .int)
theorem rowsD_map : ∀ rows : List (List Int), Mir.rowsD (rows.map rowD) = some (rows.map fun r => r.map PyData.int)
  | [] => rfl
  | r :: rows => by
    have ih := rowsD_map rows
    have e : itemsOf (rowD r) = some (r.map PyData.int) := rfl
    rw [List.map_cons]
    unfold Mir.rowsD
    rw [e, ih]
    rfl
theorem colsD_eq {rows : List (List Int)} : ∀ (m i : Nat), (∀ r ∈ rows, i + m ≤ r.length) → Mir.colsD (rows.map fun r => r.map PyData.int) m i = (List.range' i m).map fun j => rowD (col rows j)
  | 0, _, _ => rfl
  | m + 1, i, h => by
    have ih := colsD_eq (rows := rows) m (i + 1) fun r hr => by have := h r hr; omega
    unfold Mir.colsD
    rw [ih, List.range'_succ, List.map_cons]
    congr 1
    unfold rowD col
    rw [List.map_map, List.map_map]
    congr 1
    refine List.map_congr_left fun r hr => ?_
    exact ints_at (by have := h r hr; omega)
theorem lzs_ok {s : Sto} {ρ : Mir.Env} {f : ME} {r : List Int} {rows : List (List Int)} {w : Nat} (hf : f ρ s = .ok (.tuple ((r :: rows).map rowD)) s) (hr : ∀ x ∈ r :: rows, x.length = w) : cLzs f ρ s = .ok ((cols (r :: rows) w).map rowD) s := by
  have e1 : itemsOf (.tuple ((r :: rows).map rowD)) = some ((r :: rows).map rowD) := rfl
  have e2 := rowsD_map (r :: rows)
  have e3 : (r :: rows).map (fun x => x.map PyData.int) = r.map PyData.int :: rows.map fun x => x.map PyData.int := rfl
  have e4 : (r.map PyData.int).length = w := by rw [List.length_map]; exact hr r List.mem_cons_self
  have e5 : (rows.map fun x => x.map PyData.int).all (fun es => es.length == (r.map PyData.int).length) = true := by
    rw [List.all_map, List.all_eq_true]
    intro x hx
    rw [e4]
    show ((x.map PyData.int).length == w) = true
    rw [List.length_map, hr x (List.mem_cons_of_mem _ hx)]
    exact beq_self_eq_true w
  rw [e3] at e2
  unfold Mir.cLzs
  rw [hf, Out.bind_ok, e1]
  simp only [e2]
  rw [if_pos e5, ← e3, e4, colsD_eq w 0 fun x hx => by rw [hr x hx]; omega]
  unfold cols
  rw [List.map_map, ← List.range_eq_range']
  rfl
theorem tr0 {s : Sto} {w : Nat} (hw : w ≤ 1000) : run_turned_rows_of [.d (.tuple []), .d (.int w)] s = .ok (.list ((cols [] w).map rowD)) s := by
  have e : (List.replicate (w : Int).toNat [PyData.tuple []]).flatten = (cols [] w).map rowD := by
    have e1 : ∀ n : Nat, (List.replicate n [PyData.tuple []]).flatten = List.replicate n (PyData.tuple []) := by
      intro n
      induction n with
      | zero => rfl
      | succ n ih => rw [List.replicate_succ, List.replicate_succ, List.flatten_cons, ih]; rfl
    have e2 : ∀ n : Nat, (List.range n).map (fun _ => PyData.tuple []) = List.replicate n (PyData.tuple []) := fun n => by
      rw [List.map_const', List.length_range]
    rw [e1, Int.toNat_natCast]
    unfold cols
    rw [List.map_map]
    exact (e2 w).symm
  rw [← e]
  have h1 : (0 : Int) ≤ w := by omega
  have h2 : (w : Int) ≤ 1000 := by omega
  generalize (w : Int) = k at *
  simp -implicitDefEqProofs [Math.ap_eVar, Math.ap_lVar, Math.ap_eC, Math.ap_eL, Math.ap_eUn, Math.ap_eBin, Math.ap_eAnd, Math.ap_eOr, Math.ap_eNot, Math.ap_mE, Math.ap_mNot, Math.ap_mAnd, Math.ap_mOr, Math.ap_eIf, Math.ap_aNil, Math.ap_aCons, Math.ap_dNil, Math.ap_dCons, Math.ap_eTup, Math.ap_cLst, Math.ap_eFr, Math.ap_eIx, Math.ap_eSl, Math.ap_cList, Math.ap_eCall, Math.ap_cCall, Math.ap_mSeq, Math.ap_mNil, Math.ap_mSet, Math.ap_mSetC, Math.ap_mRet, Math.ap_mRetN, Math.ap_mRetL, Math.ap_mDrop, Math.ap_mIf, Math.ap_mNever, Math.ap_mPar, Math.ap_mPar3, Math.ap_mPut, Math.ap_mApp, Math.ap_mTo, Math.ap_mYes, Math.ap_iSq, Math.ap_iZp, Math.ap_iEn, Math.ap_mRetC, Math.ap_eCh, Math.ap_noPart, Math.ap_aPart, Math.ap_eSlice, Math.ap_mkF, Math.ap_mkC, Mir.env0, Mir.fin, Mir.finC, Mir.thenDo, Mir.toFl, Mir.wipeE, Mir.itemsOf, Mir.orBad, Mir.gNm, Mir.gTp, Mir.gNms, Mir.Out.bind, Mir.gIx, Mir.seqOf, Mir.gLen, Mir.gTuple, Mir.gAbs, Mir.gInt, Mir.gCmp, Mir.gI, Mir.gAdd, Mir.gSub, Mir.gNeg, Mir.gBols, Mir.gInts, Mir.gChain, Mir.nxO, Mir.putAt, Mir.appAt, Mir.isC, L2.atI, L2.ixN, Math.eIsi_tuple, Math.eIsi_int, Math.eIsi_bool, Math.gEq_int, Math.gEq_bool, run_turned_rows_of, Mir.mTru, Mir.truS, Mir.truD, Mir.gMulL, h1, h2]
theorem tr1 {s : Sto} {x : PyData} {xs ys : List PyData} {b : PyData} (c : cLzs (eVar 0) [some (.d (.tuple (x :: xs))), some (.d b)] s = .ok ys s) : run_turned_rows_of [.d (.tuple (x :: xs)), .d b] s = .ok (.list ys) s := by
  simp -implicitDefEqProofs [Math.ap_eVar, Math.ap_lVar, Math.ap_eC, Math.ap_eL, Math.ap_eUn, Math.ap_eBin, Math.ap_eAnd, Math.ap_eOr, Math.ap_eNot, Math.ap_mE, Math.ap_mNot, Math.ap_mAnd, Math.ap_mOr, Math.ap_eIf, Math.ap_aNil, Math.ap_aCons, Math.ap_dNil, Math.ap_dCons, Math.ap_eTup, Math.ap_cLst, Math.ap_eFr, Math.ap_eIx, Math.ap_eSl, Math.ap_cList, Math.ap_eCall, Math.ap_cCall, Math.ap_mSeq, Math.ap_mNil, Math.ap_mSet, Math.ap_mSetC, Math.ap_mRet, Math.ap_mRetN, Math.ap_mRetL, Math.ap_mDrop, Math.ap_mIf, Math.ap_mNever, Math.ap_mPar, Math.ap_mPar3, Math.ap_mPut, Math.ap_mApp, Math.ap_mTo, Math.ap_mYes, Math.ap_iSq, Math.ap_iZp, Math.ap_iEn, Math.ap_mRetC, Math.ap_eCh, Math.ap_noPart, Math.ap_aPart, Math.ap_eSlice, Math.ap_mkF, Math.ap_mkC, Mir.env0, Mir.fin, Mir.finC, Mir.thenDo, Mir.toFl, Mir.wipeE, Mir.itemsOf, Mir.orBad, Mir.gNm, Mir.gTp, Mir.gNms, Mir.Out.bind, Mir.gIx, Mir.seqOf, Mir.gLen, Mir.gTuple, Mir.gAbs, Mir.gInt, Mir.gCmp, Mir.gI, Mir.gAdd, Mir.gSub, Mir.gNeg, Mir.gBols, Mir.gInts, Mir.gChain, Mir.nxO, Mir.putAt, Mir.appAt, Mir.isC, L2.atI, L2.ixN, Math.eIsi_tuple, Math.eIsi_int, Math.eIsi_bool, Math.gEq_int, Math.gEq_bool, run_turned_rows_of, Mir.mTru, Mir.truS, Mir.truD, c]
theorem turned_rows {s : Sto} {rows : List (List Int)} {w : Nat} (hw : w ≤ 1000) (hr : ∀ r ∈ rows, r.length = w) :
    run_turned_rows_of [.d (.tuple (rows.map rowD)), .d (.int w)] s = .ok (.list ((cols rows w).map rowD)) s := by
  cases rows with
  | nil => exact tr0 hw
  | cons r rows => exact tr1 (lzs_ok rfl hr)
/-- a grid as the document tells -/
structure GridOk (w : Nat) (rows : List (List Int)) : Prop where
  wide : w ≤ 60
  high : rows.length ≤ 60
  len : ∀ r ∈ rows, r.length = w
  few : ∀ r ∈ rows, ∀ x ∈ r, Few x
theorem isRow_rowD {r : List Int} (hl : r.length ≤ 60) (hf : ∀ x ∈ r, Few x) : isRow (rowD r) = true := by
  have e : isRow (rowD r) = (decide ((r.map PyData.int).length ≤ 60) && (r.map PyData.int).all isShort) := rfl
  rw [e, List.length_map, decide_eq_true hl, Bool.true_and, List.all_eq_true]
  intro x hx
  obtain ⟨i, hi, rfl⟩ := List.mem_map.mp hx
  exact decide_eq_true (hf i hi)
theorem GridOk.is {w : Nat} {rows : List (List Int)} (g : GridOk w rows) : isGrid (grid_D w rows) = true := by
  unfold grid_D
  rw [isGrid_int, between_int]
  have h1 : decide ((0 : Int) ≤ w) = true := decide_eq_true (by omega)
  have h2 : decide ((w : Int) ≤ 60) = true := decide_eq_true (by have := g.wide; omega)
  have h3 : decide ((rows.map rowD).length ≤ 60) = true := by
    rw [List.length_map]
    exact decide_eq_true g.high
  rw [h1, h2, h3, Bool.true_and, Bool.true_and, Bool.true_and, List.all_eq_true]
  intro x hx
  obtain ⟨r, hr, rfl⟩ := List.mem_map.mp hx
  rw [isRow_rowD (by rw [g.len r hr]; exact g.wide) (g.few r hr), Bool.true_and]
  have e : hasLen w (rowD r) = decide (((r.map PyData.int).length : Int) = w) := rfl
  rw [e, List.length_map, g.len r hr]
  exact decide_eq_true rfl
theorem check_grid (v : PyData) (s : Sto) (h : isGrid v = true) : run_check_grid [.d v] s = .ok .none s := by
  simp -implicitDefEqProofs [Math.ap_eVar, Math.ap_lVar, Math.ap_eC, Math.ap_eL, Math.ap_eUn, Math.ap_eBin, Math.ap_eAnd, Math.ap_eOr, Math.ap_eNot, Math.ap_mE, Math.ap_mNot, Math.ap_mAnd, Math.ap_mOr, Math.ap_eIf, Math.ap_aNil, Math.ap_aCons, Math.ap_dNil, Math.ap_dCons, Math.ap_eTup, Math.ap_cLst, Math.ap_eFr, Math.ap_eIx, Math.ap_eSl, Math.ap_cList, Math.ap_eCall, Math.ap_cCall, Math.ap_mSeq, Math.ap_mNil, Math.ap_mSet, Math.ap_mSetC, Math.ap_mRet, Math.ap_mRetN, Math.ap_mRetL, Math.ap_mDrop, Math.ap_mIf, Math.ap_mNever, Math.ap_mPar, Math.ap_mPar3, Math.ap_mPut, Math.ap_mApp, Math.ap_mTo, Math.ap_mYes, Math.ap_iSq, Math.ap_iZp, Math.ap_iEn, Math.ap_mRetC, Math.ap_eCh, Math.ap_noPart, Math.ap_aPart, Math.ap_eSlice, Math.ap_mkF, Math.ap_mkC, Mir.env0, Mir.fin, Mir.finC, Mir.thenDo, Mir.toFl, Mir.wipeE, Mir.itemsOf, Mir.orBad, Mir.gNm, Mir.gTp, Mir.gNms, Mir.Out.bind, Mir.gIx, Mir.seqOf, Mir.gLen, Mir.gTuple, Mir.gAbs, Mir.gInt, Mir.gCmp, Mir.gI, Mir.gAdd, Mir.gSub, Mir.gNeg, Mir.gBols, Mir.gInts, Mir.gChain, Mir.nxO, Mir.putAt, Mir.appAt, Mir.isC, L2.atI, L2.ixN, Math.eIsi_tuple, Math.eIsi_int, Math.eIsi_bool, Math.gEq_int, Math.gEq_bool, run_check_grid, grid, h]
theorem check_grids (v w : PyData) (s : Sto) (h : isGrid v = true) (h2 : isGrid w = true) : run_check_grids [.d v, .d w] s = .ok .none s := by
  simp -implicitDefEqProofs [Math.ap_eVar, Math.ap_lVar, Math.ap_eC, Math.ap_eL, Math.ap_eUn, Math.ap_eBin, Math.ap_eAnd, Math.ap_eOr, Math.ap_eNot, Math.ap_mE, Math.ap_mNot, Math.ap_mAnd, Math.ap_mOr, Math.ap_eIf, Math.ap_aNil, Math.ap_aCons, Math.ap_dNil, Math.ap_dCons, Math.ap_eTup, Math.ap_cLst, Math.ap_eFr, Math.ap_eIx, Math.ap_eSl, Math.ap_cList, Math.ap_eCall, Math.ap_cCall, Math.ap_mSeq, Math.ap_mNil, Math.ap_mSet, Math.ap_mSetC, Math.ap_mRet, Math.ap_mRetN, Math.ap_mRetL, Math.ap_mDrop, Math.ap_mIf, Math.ap_mNever, Math.ap_mPar, Math.ap_mPar3, Math.ap_mPut, Math.ap_mApp, Math.ap_mTo, Math.ap_mYes, Math.ap_iSq, Math.ap_iZp, Math.ap_iEn, Math.ap_mRetC, Math.ap_eCh, Math.ap_noPart, Math.ap_aPart, Math.ap_eSlice, Math.ap_mkF, Math.ap_mkC, Mir.env0, Mir.fin, Mir.finC, Mir.thenDo, Mir.toFl, Mir.wipeE, Mir.itemsOf, Mir.orBad, Mir.gNm, Mir.gTp, Mir.gNms, Mir.Out.bind, Mir.gIx, Mir.seqOf, Mir.gLen, Mir.gTuple, Mir.gAbs, Mir.gInt, Mir.gCmp, Mir.gI, Mir.gAdd, Mir.gSub, Mir.gNeg, Mir.gBols, Mir.gInts, Mir.gChain, Mir.nxO, Mir.putAt, Mir.appAt, Mir.isC, L2.atI, L2.ixN, Math.eIsi_tuple, Math.eIsi_int, Math.eIsi_bool, Math.gEq_int, Math.gEq_bool, run_check_grids, check_grid, h, h2]
end Math
/-! # turned, beside, over -/
namespace Math
open PySem Mir Fn
theorem pt1 {s : Sto} {a : PyData} {rs cs : List PyData}
    (e1 : run_turned_rows_of [.d (.tuple rs), .d a] s = .ok (.list cs) s) :
    run_plain_turned [.d (.tuple [a, .tuple rs])] s = .ok (.tuple [.int rs.length, .tuple cs]) s := by
  simp -implicitDefEqProofs [Math.ap_eVar, Math.ap_lVar, Math.ap_eC, Math.ap_eL, Math.ap_eUn, Math.ap_eBin, Math.ap_eAnd, Math.ap_eOr, Math.ap_eNot, Math.ap_mE, Math.ap_mNot, Math.ap_mAnd, Math.ap_mOr, Math.ap_eIf, Math.ap_aNil, Math.ap_aCons, Math.ap_dNil, Math.ap_dCons, Math.ap_eTup, Math.ap_cLst, Math.ap_eFr, Math.ap_eIx, Math.ap_eSl, Math.ap_cList, Math.ap_eCall, Math.ap_cCall, Math.ap_mSeq, Math.ap_mNil, Math.ap_mSet, Math.ap_mSetC, Math.ap_mRet, Math.ap_mRetN, Math.ap_mRetL, Math.ap_mDrop, Math.ap_mIf, Math.ap_mNever, Math.ap_mPar, Math.ap_mPar3, Math.ap_mPut, Math.ap_mApp, Math.ap_mTo, Math.ap_mYes, Math.ap_iSq, Math.ap_iZp, Math.ap_iEn, Math.ap_mRetC, Math.ap_eCh, Math.ap_noPart, Math.ap_aPart, Math.ap_eSlice, Math.ap_mkF, Math.ap_mkC, Mir.env0, Mir.fin, Mir.finC, Mir.thenDo, Mir.toFl, Mir.wipeE, Mir.itemsOf, Mir.orBad, Mir.gNm, Mir.gTp, Mir.gNms, Mir.Out.bind, Mir.gIx, Mir.seqOf, Mir.gLen, Mir.gTuple, Mir.gAbs, Mir.gInt, Mir.gCmp, Mir.gI, Mir.gAdd, Mir.gSub, Mir.gNeg, Mir.gBols, Mir.gInts, Mir.gChain, Mir.nxO, Mir.putAt, Mir.appAt, Mir.isC, L2.atI, L2.ixN, Math.eIsi_tuple, Math.eIsi_int, Math.eIsi_bool, Math.gEq_int, Math.gEq_bool, run_plain_turned, e1]
theorem col_length (rows : List (List Int)) (j : Nat) : (col rows j).length = rows.length := by simp [col]
theorem cols_length (rows : List (List Int)) (w : Nat) : (cols rows w).length = w := by simp [cols]
theorem map_rowL (xs : List (List Int)) : (xs.map rowL).map (fun r => PyData.tuple (match r with
    | .list ds => ds
    | .tuple ds => ds
    | _ => [])) = xs.map rowD := by
  rw [List.map_map]
  exact List.map_congr_left fun r _ => rfl
theorem plain_gridL {s : Sto} {a : PyData} {xs : List (List Int)} (hl : xs.length ≤ 100000) : run_plain_grid [.d (.list (xs.map rowL)), .d a] s = .ok (.tuple [a, .tuple (xs.map rowD)]) s := by
  rw [plain_grid (fun r => match r with
    | .list ds => ds
    | .tuple ds => ds
    | _ => []) (by rw [List.length_map]; exact hl) fun r hr => by
      obtain ⟨x, _, rfl⟩ := List.mem_map.mp hr
      exact .inl rfl, map_rowL]
theorem map_rowD (xs : List (List Int)) : (xs.map rowD).map (fun r => PyData.tuple (match r with
    | .list ds => ds
    | .tuple ds => ds
    | _ => [])) = xs.map rowD := by
  rw [List.map_map]
  exact List.map_congr_left fun r _ => rfl
theorem plain_gridD {s : Sto} {a : PyData} {xs : List (List Int)} (hl : xs.length ≤ 100000) : run_plain_grid [.d (.list (xs.map rowD)), .d a] s = .ok (.tuple [a, .tuple (xs.map rowD)]) s := by
  rw [plain_grid (fun r => match r with
    | .list ds => ds
    | .tuple ds => ds
    | _ => []) (by rw [List.length_map]; exact hl) fun r hr => by
      obtain ⟨x, _, rfl⟩ := List.mem_map.mp hr
      exact .inr rfl, map_rowD]
theorem plain_turned {s : Sto} {w : Nat} {rows : List (List Int)} (g : GridOk w rows) : run_plain_turned [.d (grid_D w rows)] s = .ok (grid_D rows.length (cols rows w)) s := by
  have hw := g.wide
  have hh := g.high
  have q := pt1 (rs := rows.map rowD) (turned_rows (s := s) (rows := rows) (w := w) (by omega) g.len)
  unfold grid_D
  rw [q, List.length_map]
theorem tu1 {s : Sto} {v h : PyData} (e1 : run_check_grid [.d v] s = .ok .none s) (e2 : run_plain_turned [.d v] s = .ok h s) : run_turned [.d v] s = .ok h s := by
  simp -implicitDefEqProofs [Math.ap_eVar, Math.ap_lVar, Math.ap_eC, Math.ap_eL, Math.ap_eUn, Math.ap_eBin, Math.ap_eAnd, Math.ap_eOr, Math.ap_eNot, Math.ap_mE, Math.ap_mNot, Math.ap_mAnd, Math.ap_mOr, Math.ap_eIf, Math.ap_aNil, Math.ap_aCons, Math.ap_dNil, Math.ap_dCons, Math.ap_eTup, Math.ap_cLst, Math.ap_eFr, Math.ap_eIx, Math.ap_eSl, Math.ap_cList, Math.ap_eCall, Math.ap_cCall, Math.ap_mSeq, Math.ap_mNil, Math.ap_mSet, Math.ap_mSetC, Math.ap_mRet, Math.ap_mRetN, Math.ap_mRetL, Math.ap_mDrop, Math.ap_mIf, Math.ap_mNever, Math.ap_mPar, Math.ap_mPar3, Math.ap_mPut, Math.ap_mApp, Math.ap_mTo, Math.ap_mYes, Math.ap_iSq, Math.ap_iZp, Math.ap_iEn, Math.ap_mRetC, Math.ap_eCh, Math.ap_noPart, Math.ap_aPart, Math.ap_eSlice, Math.ap_mkF, Math.ap_mkC, Mir.env0, Mir.fin, Mir.finC, Mir.thenDo, Mir.toFl, Mir.wipeE, Mir.itemsOf, Mir.orBad, Mir.gNm, Mir.gTp, Mir.gNms, Mir.Out.bind, Mir.gIx, Mir.seqOf, Mir.gLen, Mir.gTuple, Mir.gAbs, Mir.gInt, Mir.gCmp, Mir.gI, Mir.gAdd, Mir.gSub, Mir.gNeg, Mir.gBols, Mir.gInts, Mir.gChain, Mir.nxO, Mir.putAt, Mir.appAt, Mir.isC, L2.atI, L2.ixN, Math.eIsi_tuple, Math.eIsi_int, Math.eIsi_bool, Math.gEq_int, Math.gEq_bool, run_turned, e1, e2]
theorem turned {s : Sto} {w : Nat} {rows : List (List Int)} (g : GridOk w rows) : run_turned [.d (grid_D w rows)] s = .ok (grid_D rows.length (cols rows w)) s :=
  tu1 (check_grid _ s g.is) (plain_turned g)
theorem GridOk.turned {w : Nat} {rows : List (List Int)} (g : GridOk w rows) : GridOk rows.length (cols rows w) where
  wide := g.high
  high := by
    rw [cols_length]
    exact g.wide
  len r hr := by
    obtain ⟨j, _, rfl⟩ := List.mem_map.mp hr
    exact col_length rows j
  few r hr x hx := by
    obtain ⟨j, hj, rfl⟩ := List.mem_map.mp hr
    obtain ⟨r, hr, rfl⟩ := List.mem_map.mp hx
    have hj' : j < r.length := by
      rw [g.len r hr]
      exact List.mem_range.mp hj
    rw [List.getD_eq_getElem?_getD, List.getElem?_eq_getElem hj']
    exact g.few r hr _ (List.getElem_mem hj')
theorem check_fit_ok {s : Sto} {m : PyData} : run_check_fit [.d (.bool true), .d m] s = .ok .none s := by
  simp -implicitDefEqProofs [Math.ap_eVar, Math.ap_lVar, Math.ap_eC, Math.ap_eL, Math.ap_eUn, Math.ap_eBin, Math.ap_eAnd, Math.ap_eOr, Math.ap_eNot, Math.ap_mE, Math.ap_mNot, Math.ap_mAnd, Math.ap_mOr, Math.ap_eIf, Math.ap_aNil, Math.ap_aCons, Math.ap_dNil, Math.ap_dCons, Math.ap_eTup, Math.ap_cLst, Math.ap_eFr, Math.ap_eIx, Math.ap_eSl, Math.ap_cList, Math.ap_eCall, Math.ap_cCall, Math.ap_mSeq, Math.ap_mNil, Math.ap_mSet, Math.ap_mSetC, Math.ap_mRet, Math.ap_mRetN, Math.ap_mRetL, Math.ap_mDrop, Math.ap_mIf, Math.ap_mNever, Math.ap_mPar, Math.ap_mPar3, Math.ap_mPut, Math.ap_mApp, Math.ap_mTo, Math.ap_mYes, Math.ap_iSq, Math.ap_iZp, Math.ap_iEn, Math.ap_mRetC, Math.ap_eCh, Math.ap_noPart, Math.ap_aPart, Math.ap_eSlice, Math.ap_mkF, Math.ap_mkC, Mir.env0, Mir.fin, Mir.finC, Mir.thenDo, Mir.toFl, Mir.wipeE, Mir.itemsOf, Mir.orBad, Mir.gNm, Mir.gTp, Mir.gNms, Mir.Out.bind, Mir.gIx, Mir.seqOf, Mir.gLen, Mir.gTuple, Mir.gAbs, Mir.gInt, Mir.gCmp, Mir.gI, Mir.gAdd, Mir.gSub, Mir.gNeg, Mir.gBols, Mir.gInts, Mir.gChain, Mir.nxO, Mir.putAt, Mir.appAt, Mir.isC, L2.atI, L2.ixN, Math.eIsi_tuple, Math.eIsi_int, Math.eIsi_bool, Math.gEq_int, Math.gEq_bool, run_check_fit]
theorem check_most_ok {s : Sto} {a : Int} (h : ¬ 60 < a) : run_check_most [.d (.int a)] s = .ok .none s := by
  simp -implicitDefEqProofs [Math.ap_eVar, Math.ap_lVar, Math.ap_eC, Math.ap_eL, Math.ap_eUn, Math.ap_eBin, Math.ap_eAnd, Math.ap_eOr, Math.ap_eNot, Math.ap_mE, Math.ap_mNot, Math.ap_mAnd, Math.ap_mOr, Math.ap_eIf, Math.ap_aNil, Math.ap_aCons, Math.ap_dNil, Math.ap_dCons, Math.ap_eTup, Math.ap_cLst, Math.ap_eFr, Math.ap_eIx, Math.ap_eSl, Math.ap_cList, Math.ap_eCall, Math.ap_cCall, Math.ap_mSeq, Math.ap_mNil, Math.ap_mSet, Math.ap_mSetC, Math.ap_mRet, Math.ap_mRetN, Math.ap_mRetL, Math.ap_mDrop, Math.ap_mIf, Math.ap_mNever, Math.ap_mPar, Math.ap_mPar3, Math.ap_mPut, Math.ap_mApp, Math.ap_mTo, Math.ap_mYes, Math.ap_iSq, Math.ap_iZp, Math.ap_iEn, Math.ap_mRetC, Math.ap_eCh, Math.ap_noPart, Math.ap_aPart, Math.ap_eSlice, Math.ap_mkF, Math.ap_mkC, Mir.env0, Mir.fin, Mir.finC, Mir.thenDo, Mir.toFl, Mir.wipeE, Mir.itemsOf, Mir.orBad, Mir.gNm, Mir.gTp, Mir.gNms, Mir.Out.bind, Mir.gIx, Mir.seqOf, Mir.gLen, Mir.gTuple, Mir.gAbs, Mir.gInt, Mir.gCmp, Mir.gI, Mir.gAdd, Mir.gSub, Mir.gNeg, Mir.gBols, Mir.gInts, Mir.gChain, Mir.nxO, Mir.putAt, Mir.appAt, Mir.isC, L2.atI, L2.ixN, Math.eIsi_tuple, Math.eIsi_int, Math.eIsi_bool, Math.gEq_int, Math.gEq_bool, run_check_most, h]
theorem ov1 {s : Sto} {a : Int} {xs ys : List PyData} (h1 : run_check_grids [.d (.tuple [.int a, .tuple xs]), .d (.tuple [.int a, .tuple ys])] s = .ok .none s) (hl : ¬ 60 < (xs.length : Int) + ys.length) (hl2 : xs.length + ys.length ≤ 100000) :
    run_over [.d (.tuple [.int a, .tuple xs]), .d (.tuple [.int a, .tuple ys])] s = .ok (.tuple [.int a, .tuple (xs ++ ys)]) s := by
  simp -implicitDefEqProofs [Math.ap_eVar, Math.ap_lVar, Math.ap_eC, Math.ap_eL, Math.ap_eUn, Math.ap_eBin, Math.ap_eAnd, Math.ap_eOr, Math.ap_eNot, Math.ap_mE, Math.ap_mNot, Math.ap_mAnd, Math.ap_mOr, Math.ap_eIf, Math.ap_aNil, Math.ap_aCons, Math.ap_dNil, Math.ap_dCons, Math.ap_eTup, Math.ap_cLst, Math.ap_eFr, Math.ap_eIx, Math.ap_eSl, Math.ap_cList, Math.ap_eCall, Math.ap_cCall, Math.ap_mSeq, Math.ap_mNil, Math.ap_mSet, Math.ap_mSetC, Math.ap_mRet, Math.ap_mRetN, Math.ap_mRetL, Math.ap_mDrop, Math.ap_mIf, Math.ap_mNever, Math.ap_mPar, Math.ap_mPar3, Math.ap_mPut, Math.ap_mApp, Math.ap_mTo, Math.ap_mYes, Math.ap_iSq, Math.ap_iZp, Math.ap_iEn, Math.ap_mRetC, Math.ap_eCh, Math.ap_noPart, Math.ap_aPart, Math.ap_eSlice, Math.ap_mkF, Math.ap_mkC, Mir.env0, Mir.fin, Mir.finC, Mir.thenDo, Mir.toFl, Mir.wipeE, Mir.itemsOf, Mir.orBad, Mir.gNm, Mir.gTp, Mir.gNms, Mir.Out.bind, Mir.gIx, Mir.seqOf, Mir.gLen, Mir.gTuple, Mir.gAbs, Mir.gInt, Mir.gCmp, Mir.gI, Mir.gAdd, Mir.gSub, Mir.gNeg, Mir.gBols, Mir.gInts, Mir.gChain, Mir.nxO, Mir.putAt, Mir.appAt, Mir.isC, L2.atI, L2.ixN, Math.eIsi_tuple, Math.eIsi_int, Math.eIsi_bool, Math.gEq_int, Math.gEq_bool, run_over, h1, check_fit_ok, check_most_ok hl, hl2]
theorem over {s : Sto} {w : Nat} {A B : List (List Int)} (ga : GridOk w A) (gb : GridOk w B) (hl : A.length + B.length ≤ 60) : run_over [.d (grid_D w A), .d (grid_D w B)] s = .ok (grid_D w (A ++ B)) s := by
  have q := ov1 (s := s) (a := (w : Int)) (xs := A.map rowD) (ys := B.map rowD) (check_grids _ _ s ga.is gb.is) (by rw [List.length_map, List.length_map]; omega) (by rw [List.length_map, List.length_map]; omega)
  unfold grid_D
  rw [q, List.map_append]
end Math
/-! # beside, products, units -/
namespace Math
open PySem Mir Fn
theorem zip_comp {α β : Type} {i j : Nat} {fe : ME} {ρ : Mir.Env} {s : Sto} {g : α → PyData} {g' : β → PyData} {f : α → β → PyData} : ∀ (A : List α) (B : List β),
    (∀ a ∈ A, ∀ b ∈ B, fe ((ρ.set i (some (.d (g a)))).set j (some (.d (g' b)))) s = .ok (f a b) s) →
    compL (gTp [i, j]) mYes fe ρ (zipD (A.map g) (B.map g')) s = .ok (List.zipWith f A B) s
  | [], _, _ => rfl
  | _ :: _, [], _ => rfl
  | a :: A, b :: B, h => by
    have ih := zip_comp (i := i) (j := j) (fe := fe) (ρ := ρ) (s := s) (g := g) (g' := g') (f := f) A B fun x hx y hy => h x (by simp [hx]) y (by simp [hy])
    have e := h a (by simp) b (by simp)
    rw [List.map_cons, List.map_cons, List.zipWith_cons_cons]
    have eg : gTp [i, j] (.tuple [g a, g' b]) ρ = some ((ρ.set i (some (.d (g a)))).set j (some (.d (g' b)))) := rfl
    unfold zipD compL
    rw [eg]
    simp only [mYes, Out.bind_ok, if_true, e, ih]
theorem zipD_length : ∀ (xs ys : List PyData), (zipD xs ys).length ≤ xs.length
  | [], _ => by simp [zipD]
  | _ :: _, [] => by simp [zipD]
  | _ :: xs, _ :: ys => by
    have := zipD_length xs ys
    simp only [zipD, List.length_cons]
    omega
theorem pb1 {s : Sto} {a b : Int} {xs ys zs : List PyData} {h : PyData}
    (c : cComp (iZp (eIx (lVar 0) (eC (.int 1))) (eIx (lVar 1) (eC (.int 1)))) (gTp [2, 3]) mYes (eBin gAdd (eVar 2) (eVar 3)) [2, 3] [some (.d (.tuple [.int a, .tuple xs])), some (.d (.tuple [.int b, .tuple ys])), none, none] s = .ok zs s)
    (e : run_plain_grid [.d (.list zs), .d (.int (a + b))] s = .ok h s) :
    run_plain_beside [.d (.tuple [.int a, .tuple xs]), .d (.tuple [.int b, .tuple ys])] s = .ok h s := by
  simp -implicitDefEqProofs [Math.ap_eVar, Math.ap_lVar, Math.ap_eC, Math.ap_eL, Math.ap_eUn, Math.ap_eBin, Math.ap_eAnd, Math.ap_eOr, Math.ap_eNot, Math.ap_mE, Math.ap_mNot, Math.ap_mAnd, Math.ap_mOr, Math.ap_eIf, Math.ap_aNil, Math.ap_aCons, Math.ap_dNil, Math.ap_dCons, Math.ap_eTup, Math.ap_cLst, Math.ap_eFr, Math.ap_eIx, Math.ap_eSl, Math.ap_cList, Math.ap_eCall, Math.ap_cCall, Math.ap_mSeq, Math.ap_mNil, Math.ap_mSet, Math.ap_mSetC, Math.ap_mRet, Math.ap_mRetN, Math.ap_mRetL, Math.ap_mDrop, Math.ap_mIf, Math.ap_mNever, Math.ap_mPar, Math.ap_mPar3, Math.ap_mPut, Math.ap_mApp, Math.ap_mTo, Math.ap_mYes, Math.ap_iSq, Math.ap_iZp, Math.ap_iEn, Math.ap_mRetC, Math.ap_eCh, Math.ap_noPart, Math.ap_aPart, Math.ap_eSlice, Math.ap_mkF, Math.ap_mkC, Mir.env0, Mir.fin, Mir.finC, Mir.thenDo, Mir.toFl, Mir.wipeE, Mir.itemsOf, Mir.orBad, Mir.gNm, Mir.gTp, Mir.gNms, Mir.Out.bind, Mir.gIx, Mir.seqOf, Mir.gLen, Mir.gTuple, Mir.gAbs, Mir.gInt, Mir.gCmp, Mir.gI, Mir.gAdd, Mir.gSub, Mir.gNeg, Mir.gBols, Mir.gInts, Mir.gChain, Mir.nxO, Mir.putAt, Mir.appAt, Mir.isC, L2.atI, L2.ixN, Math.eIsi_tuple, Math.eIsi_int, Math.eIsi_bool, Math.gEq_int, Math.gEq_bool, run_plain_beside, c, e]
theorem be1 {s : Sto} {a b : Int} {xs ys : List PyData} {h : PyData} (h1 : run_check_grids [.d (.tuple [.int a, .tuple xs]), .d (.tuple [.int b, .tuple ys])] s = .ok .none s) (hl : xs.length = ys.length) (hm : ¬ 60 < a + b)
    (e : run_plain_beside [.d (.tuple [.int a, .tuple xs]), .d (.tuple [.int b, .tuple ys])] s = .ok h s) :
    run_beside [.d (.tuple [.int a, .tuple xs]), .d (.tuple [.int b, .tuple ys])] s = .ok h s := by
  simp -implicitDefEqProofs [Math.ap_eVar, Math.ap_lVar, Math.ap_eC, Math.ap_eL, Math.ap_eUn, Math.ap_eBin, Math.ap_eAnd, Math.ap_eOr, Math.ap_eNot, Math.ap_mE, Math.ap_mNot, Math.ap_mAnd, Math.ap_mOr, Math.ap_eIf, Math.ap_aNil, Math.ap_aCons, Math.ap_dNil, Math.ap_dCons, Math.ap_eTup, Math.ap_cLst, Math.ap_eFr, Math.ap_eIx, Math.ap_eSl, Math.ap_cList, Math.ap_eCall, Math.ap_cCall, Math.ap_mSeq, Math.ap_mNil, Math.ap_mSet, Math.ap_mSetC, Math.ap_mRet, Math.ap_mRetN, Math.ap_mRetL, Math.ap_mDrop, Math.ap_mIf, Math.ap_mNever, Math.ap_mPar, Math.ap_mPar3, Math.ap_mPut, Math.ap_mApp, Math.ap_mTo, Math.ap_mYes, Math.ap_iSq, Math.ap_iZp, Math.ap_iEn, Math.ap_mRetC, Math.ap_eCh, Math.ap_noPart, Math.ap_aPart, Math.ap_eSlice, Math.ap_mkF, Math.ap_mkC, Mir.env0, Mir.fin, Mir.finC, Mir.thenDo, Mir.toFl, Mir.wipeE, Mir.itemsOf, Mir.orBad, Mir.gNm, Mir.gTp, Mir.gNms, Mir.Out.bind, Mir.gIx, Mir.seqOf, Mir.gLen, Mir.gTuple, Mir.gAbs, Mir.gInt, Mir.gCmp, Mir.gI, Mir.gAdd, Mir.gSub, Mir.gNeg, Mir.gBols, Mir.gInts, Mir.gChain, Mir.nxO, Mir.putAt, Mir.appAt, Mir.isC, L2.atI, L2.ixN, Math.eIsi_tuple, Math.eIsi_int, Math.eIsi_bool, Math.gEq_int, Math.gEq_bool, run_beside, h1, check_fit_ok, check_most_ok hm, e, hl]
theorem be2 {s : Sto} {x y : PyData} {xs ys : List PyData} (hx : xs.length + ys.length ≤ 100000) :
    eBin gAdd (eVar 2) (eVar 3) [some (.d x), some (.d y), some (.d (.tuple xs)), some (.d (.tuple ys))] s = .ok (.tuple (xs ++ ys)) s := by
  simp -implicitDefEqProofs [Math.ap_eVar, Math.ap_lVar, Math.ap_eC, Math.ap_eL, Math.ap_eUn, Math.ap_eBin, Math.ap_eAnd, Math.ap_eOr, Math.ap_eNot, Math.ap_mE, Math.ap_mNot, Math.ap_mAnd, Math.ap_mOr, Math.ap_eIf, Math.ap_aNil, Math.ap_aCons, Math.ap_dNil, Math.ap_dCons, Math.ap_eTup, Math.ap_cLst, Math.ap_eFr, Math.ap_eIx, Math.ap_eSl, Math.ap_cList, Math.ap_eCall, Math.ap_cCall, Math.ap_mSeq, Math.ap_mNil, Math.ap_mSet, Math.ap_mSetC, Math.ap_mRet, Math.ap_mRetN, Math.ap_mRetL, Math.ap_mDrop, Math.ap_mIf, Math.ap_mNever, Math.ap_mPar, Math.ap_mPar3, Math.ap_mPut, Math.ap_mApp, Math.ap_mTo, Math.ap_mYes, Math.ap_iSq, Math.ap_iZp, Math.ap_iEn, Math.ap_mRetC, Math.ap_eCh, Math.ap_noPart, Math.ap_aPart, Math.ap_eSlice, Math.ap_mkF, Math.ap_mkC, Mir.env0, Mir.fin, Mir.finC, Mir.thenDo, Mir.toFl, Mir.wipeE, Mir.itemsOf, Mir.orBad, Mir.gNm, Mir.gTp, Mir.gNms, Mir.Out.bind, Mir.gIx, Mir.seqOf, Mir.gLen, Mir.gTuple, Mir.gAbs, Mir.gInt, Mir.gCmp, Mir.gI, Mir.gAdd, Mir.gSub, Mir.gNeg, Mir.gBols, Mir.gInts, Mir.gChain, Mir.nxO, Mir.putAt, Mir.appAt, Mir.isC, L2.atI, L2.ixN, Math.eIsi_tuple, Math.eIsi_int, Math.eIsi_bool, Math.gEq_int, Math.gEq_bool, hx]
theorem be3 {s : Sto} {x y : PyData} {xs ys : List PyData} :
    iZp (eIx (lVar 0) (eC (.int 1))) (eIx (lVar 1) (eC (.int 1))) [some (.d (.tuple [x, .tuple xs])), some (.d (.tuple [y, .tuple ys])), none, none] s = .ok (zipD xs ys) s := by
  simp -implicitDefEqProofs [Math.ap_eVar, Math.ap_lVar, Math.ap_eC, Math.ap_eL, Math.ap_eUn, Math.ap_eBin, Math.ap_eAnd, Math.ap_eOr, Math.ap_eNot, Math.ap_mE, Math.ap_mNot, Math.ap_mAnd, Math.ap_mOr, Math.ap_eIf, Math.ap_aNil, Math.ap_aCons, Math.ap_dNil, Math.ap_dCons, Math.ap_eTup, Math.ap_cLst, Math.ap_eFr, Math.ap_eIx, Math.ap_eSl, Math.ap_cList, Math.ap_eCall, Math.ap_cCall, Math.ap_mSeq, Math.ap_mNil, Math.ap_mSet, Math.ap_mSetC, Math.ap_mRet, Math.ap_mRetN, Math.ap_mRetL, Math.ap_mDrop, Math.ap_mIf, Math.ap_mNever, Math.ap_mPar, Math.ap_mPar3, Math.ap_mPut, Math.ap_mApp, Math.ap_mTo, Math.ap_mYes, Math.ap_iSq, Math.ap_iZp, Math.ap_iEn, Math.ap_mRetC, Math.ap_eCh, Math.ap_noPart, Math.ap_aPart, Math.ap_eSlice, Math.ap_mkF, Math.ap_mkC, Mir.env0, Mir.fin, Mir.finC, Mir.thenDo, Mir.toFl, Mir.wipeE, Mir.itemsOf, Mir.orBad, Mir.gNm, Mir.gTp, Mir.gNms, Mir.Out.bind, Mir.gIx, Mir.seqOf, Mir.gLen, Mir.gTuple, Mir.gAbs, Mir.gInt, Mir.gCmp, Mir.gI, Mir.gAdd, Mir.gSub, Mir.gNeg, Mir.gBols, Mir.gInts, Mir.gChain, Mir.nxO, Mir.putAt, Mir.appAt, Mir.isC, L2.atI, L2.ixN, Math.eIsi_tuple, Math.eIsi_int, Math.eIsi_bool, Math.gEq_int, Math.gEq_bool]
def besideG (A B : List (List Int)) : List (List Int) := List.zipWith (· ++ ·) A B
theorem beside {s : Sto} {w v : Nat} {A B : List (List Int)} (ga : GridOk w A) (gb : GridOk v B) (hl : A.length = B.length) (hw : w + v ≤ 60) : run_beside [.d (grid_D w A), .d (grid_D v B)] s = .ok (grid_D (w + v) (besideG A B)) s := by
  have hA := ga.high
  have c : cComp (iZp (eIx (lVar 0) (eC (.int 1))) (eIx (lVar 1) (eC (.int 1)))) (gTp [2, 3]) mYes (eBin gAdd (eVar 2) (eVar 3)) [2, 3] [some (.d (.tuple [.int (w : Int), .tuple (A.map rowD)])), some (.d (.tuple [.int (v : Int), .tuple (B.map rowD)])), none, none] s = .ok ((besideG A B).map rowD) s := by
    unfold cComp
    have hz := zipD_length (A.map rowD) (B.map rowD)
    rw [List.length_map] at hz
    rw [be3, Out.bind_ok, if_pos (by omega)]
    have q := zip_comp (i := 2) (j := 3) (fe := eBin gAdd (eVar 2) (eVar 3)) (ρ := wipeE [some (.d (.tuple [.int (w : Int), .tuple (A.map rowD)])), some (.d (.tuple [.int (v : Int), .tuple (B.map rowD)])), none, none] [2, 3]) (s := s) (g := rowD) (g' := rowD) (f := fun a b => rowD (a ++ b)) A B fun a ha b hb => by
      have h1 := ga.len a ha
      have h2 := gb.len b hb
      have e := be2 (s := s) (x := .tuple [.int (w : Int), .tuple (A.map rowD)]) (y := .tuple [.int (v : Int), .tuple (B.map rowD)]) (xs := a.map .int) (ys := b.map .int) (by rw [List.length_map, List.length_map]; omega)
      rw [← List.map_append] at e
      exact e
    rw [q]
    congr 1
    unfold besideG
    rw [List.map_zipWith]
  have hbl : (besideG A B).length ≤ 60 := by
    unfold besideG
    rw [List.length_zipWith]
    omega
  have q := be1 (s := s) (check_grids _ _ s ga.is gb.is) (by rw [List.length_map, List.length_map, hl]) (by omega) (pb1 c (plain_gridD (xs := besideG A B) (by omega)))
  unfold grid_D
  rw [q]
  rfl
theorem GridOk.beside {w v : Nat} {A B : List (List Int)} (ga : GridOk w A) (gb : GridOk v B) (hl : A.length = B.length) (hw : w + v ≤ 60) : GridOk (w + v) (besideG A B) where
  wide := hw
  high := by
    have := ga.high
    unfold besideG
    rw [List.length_zipWith]
    omega
  len r hr := by
    unfold besideG at hr
    obtain ⟨i, hi, rfl⟩ := List.getElem_of_mem hr
    rw [List.getElem_zipWith, List.length_append, ga.len _ (List.getElem_mem _), gb.len _ (List.getElem_mem _)]
  few r hr x hx := by
    unfold besideG at hr
    obtain ⟨i, hi, rfl⟩ := List.getElem_of_mem hr
    rw [List.getElem_zipWith] at hx
    rcases List.mem_append.mp hx with hx | hx
    · exact ga.few _ (List.getElem_mem _) x hx
    · exact gb.few _ (List.getElem_mem _) x hx
end Math
/-! # products, units -/
namespace Math
open PySem Mir Fn
def dot (r c : List Int) : Int := (List.zipWith (· * ·) r c).sum
def prod (A B : List (List Int)) (v : Nat) : List (List Int) := A.map fun r => (cols B v).map (dot r)
abbrev sumE : ME := eSl (gInts fun ns => .int ns.sum) (eL (eFr (cComp (iZp (eVar 3) (eVar 4)) (gTp [5, 6]) mYes (eBin Mir.gMulA (eVar 5) (eVar 6)) [5, 6])))
theorem pr1 {s : Sto} {a b : Int} {xs ys cs zs : List PyData} (e1 : run_turned_rows_of [.d (.tuple ys), .d (.int b)] s = .ok (.list cs) s)
    (c : cComp (iSq (eIx (lVar 0) (eC (.int 1)))) (gNm 3) mYes (eSl gTuple (eL (eFr (cComp (iSq (eVar 2)) (gNm 4) mYes sumE [4])))) [3] [some (.d (.tuple [.int a, .tuple xs])), some (.d (.tuple [.int b, .tuple ys])), some (.d (.list cs)), none, none, none, none] s = .ok zs s) :
    run_plain_product [.d (.tuple [.int a, .tuple xs]), .d (.tuple [.int b, .tuple ys])] s = .ok (.tuple [.int b, .tuple zs]) s := by
  simp -implicitDefEqProofs [Math.ap_eVar, Math.ap_lVar, Math.ap_eC, Math.ap_eL, Math.ap_eUn, Math.ap_eBin, Math.ap_eAnd, Math.ap_eOr, Math.ap_eNot, Math.ap_mE, Math.ap_mNot, Math.ap_mAnd, Math.ap_mOr, Math.ap_eIf, Math.ap_aNil, Math.ap_aCons, Math.ap_dNil, Math.ap_dCons, Math.ap_eTup, Math.ap_cLst, Math.ap_eFr, Math.ap_eIx, Math.ap_eSl, Math.ap_cList, Math.ap_eCall, Math.ap_cCall, Math.ap_mSeq, Math.ap_mNil, Math.ap_mSet, Math.ap_mSetC, Math.ap_mRet, Math.ap_mRetN, Math.ap_mRetL, Math.ap_mDrop, Math.ap_mIf, Math.ap_mNever, Math.ap_mPar, Math.ap_mPar3, Math.ap_mPut, Math.ap_mApp, Math.ap_mTo, Math.ap_mYes, Math.ap_iSq, Math.ap_iZp, Math.ap_iEn, Math.ap_mRetC, Math.ap_eCh, Math.ap_noPart, Math.ap_aPart, Math.ap_eSlice, Math.ap_mkF, Math.ap_mkC, Mir.env0, Mir.fin, Mir.finC, Mir.thenDo, Mir.toFl, Mir.wipeE, Mir.itemsOf, Mir.orBad, Mir.gNm, Mir.gTp, Mir.gNms, Mir.Out.bind, Mir.gIx, Mir.seqOf, Mir.gLen, Mir.gTuple, Mir.gAbs, Mir.gInt, Mir.gCmp, Mir.gI, Mir.gAdd, Mir.gSub, Mir.gNeg, Mir.gBols, Mir.gInts, Mir.gChain, Mir.nxO, Mir.putAt, Mir.appAt, Mir.isC, L2.atI, L2.ixN, Math.eIsi_tuple, Math.eIsi_int, Math.eIsi_bool, Math.gEq_int, Math.gEq_bool, run_plain_product, e1, c]
theorem pr2 {s : Sto} {x y d : PyData} {cs ns : List PyData} (c : cComp (iSq (eVar 2)) (gNm 4) mYes sumE [4] [some (.d x), some (.d y), some (.d (.list cs)), some (.d d), none, none, none] s = .ok ns s) :
    eSl gTuple (eL (eFr (cComp (iSq (eVar 2)) (gNm 4) mYes sumE [4]))) [some (.d x), some (.d y), some (.d (.list cs)), some (.d d), none, none, none] s = .ok (.tuple ns) s := by
  simp -implicitDefEqProofs [Math.ap_eVar, Math.ap_lVar, Math.ap_eC, Math.ap_eL, Math.ap_eUn, Math.ap_eBin, Math.ap_eAnd, Math.ap_eOr, Math.ap_eNot, Math.ap_mE, Math.ap_mNot, Math.ap_mAnd, Math.ap_mOr, Math.ap_eIf, Math.ap_aNil, Math.ap_aCons, Math.ap_dNil, Math.ap_dCons, Math.ap_eTup, Math.ap_cLst, Math.ap_eFr, Math.ap_eIx, Math.ap_eSl, Math.ap_cList, Math.ap_eCall, Math.ap_cCall, Math.ap_mSeq, Math.ap_mNil, Math.ap_mSet, Math.ap_mSetC, Math.ap_mRet, Math.ap_mRetN, Math.ap_mRetL, Math.ap_mDrop, Math.ap_mIf, Math.ap_mNever, Math.ap_mPar, Math.ap_mPar3, Math.ap_mPut, Math.ap_mApp, Math.ap_mTo, Math.ap_mYes, Math.ap_iSq, Math.ap_iZp, Math.ap_iEn, Math.ap_mRetC, Math.ap_eCh, Math.ap_noPart, Math.ap_aPart, Math.ap_eSlice, Math.ap_mkF, Math.ap_mkC, Mir.env0, Mir.fin, Mir.finC, Mir.thenDo, Mir.toFl, Mir.wipeE, Mir.itemsOf, Mir.orBad, Mir.gNm, Mir.gTp, Mir.gNms, Mir.Out.bind, Mir.gIx, Mir.seqOf, Mir.gLen, Mir.gTuple, Mir.gAbs, Mir.gInt, Mir.gCmp, Mir.gI, Mir.gAdd, Mir.gSub, Mir.gNeg, Mir.gBols, Mir.gInts, Mir.gChain, Mir.nxO, Mir.putAt, Mir.appAt, Mir.isC, L2.atI, L2.ixN, Math.eIsi_tuple, Math.eIsi_int, Math.eIsi_bool, Math.gEq_int, Math.gEq_bool, c]
theorem pr3 {s : Sto} {x y z d e : PyData} {ns : List Int} (c : cComp (iZp (eVar 3) (eVar 4)) (gTp [5, 6]) mYes (eBin Mir.gMulA (eVar 5) (eVar 6)) [5, 6] [some (.d x), some (.d y), some (.d z), some (.d d), some (.d e), none, none] s = .ok (ns.map .int) s) :
    sumE [some (.d x), some (.d y), some (.d z), some (.d d), some (.d e), none, none] s = .ok (.int ns.sum) s := by
  have q := ints_map (fun i : Int => i) ns
  rw [List.map_id'] at q
  simp -implicitDefEqProofs [Math.ap_eVar, Math.ap_lVar, Math.ap_eC, Math.ap_eL, Math.ap_eUn, Math.ap_eBin, Math.ap_eAnd, Math.ap_eOr, Math.ap_eNot, Math.ap_mE, Math.ap_mNot, Math.ap_mAnd, Math.ap_mOr, Math.ap_eIf, Math.ap_aNil, Math.ap_aCons, Math.ap_dNil, Math.ap_dCons, Math.ap_eTup, Math.ap_cLst, Math.ap_eFr, Math.ap_eIx, Math.ap_eSl, Math.ap_cList, Math.ap_eCall, Math.ap_cCall, Math.ap_mSeq, Math.ap_mNil, Math.ap_mSet, Math.ap_mSetC, Math.ap_mRet, Math.ap_mRetN, Math.ap_mRetL, Math.ap_mDrop, Math.ap_mIf, Math.ap_mNever, Math.ap_mPar, Math.ap_mPar3, Math.ap_mPut, Math.ap_mApp, Math.ap_mTo, Math.ap_mYes, Math.ap_iSq, Math.ap_iZp, Math.ap_iEn, Math.ap_mRetC, Math.ap_eCh, Math.ap_noPart, Math.ap_aPart, Math.ap_eSlice, Math.ap_mkF, Math.ap_mkC, Mir.env0, Mir.fin, Mir.finC, Mir.thenDo, Mir.toFl, Mir.wipeE, Mir.itemsOf, Mir.orBad, Mir.gNm, Mir.gTp, Mir.gNms, Mir.Out.bind, Mir.gIx, Mir.seqOf, Mir.gLen, Mir.gTuple, Mir.gAbs, Mir.gInt, Mir.gCmp, Mir.gI, Mir.gAdd, Mir.gSub, Mir.gNeg, Mir.gBols, Mir.gInts, Mir.gChain, Mir.nxO, Mir.putAt, Mir.appAt, Mir.isC, L2.atI, L2.ixN, Math.eIsi_tuple, Math.eIsi_int, Math.eIsi_bool, Math.gEq_int, Math.gEq_bool, c, q]
theorem pr4 {s : Sto} {x y z d e : PyData} {a b : Int} (h : a.natAbs < 2 ^ 64) :
    eBin Mir.gMulA (eVar 5) (eVar 6) [some (.d x), some (.d y), some (.d z), some (.d d), some (.d e), some (.d (.int a)), some (.d (.int b))] s = .ok (.int (a * b)) s := by
  have hc : CMulB a b := .inl h
  simp -implicitDefEqProofs [Math.ap_eVar, Math.ap_lVar, Math.ap_eC, Math.ap_eL, Math.ap_eUn, Math.ap_eBin, Math.ap_eAnd, Math.ap_eOr, Math.ap_eNot, Math.ap_mE, Math.ap_mNot, Math.ap_mAnd, Math.ap_mOr, Math.ap_eIf, Math.ap_aNil, Math.ap_aCons, Math.ap_dNil, Math.ap_dCons, Math.ap_eTup, Math.ap_cLst, Math.ap_eFr, Math.ap_eIx, Math.ap_eSl, Math.ap_cList, Math.ap_eCall, Math.ap_cCall, Math.ap_mSeq, Math.ap_mNil, Math.ap_mSet, Math.ap_mSetC, Math.ap_mRet, Math.ap_mRetN, Math.ap_mRetL, Math.ap_mDrop, Math.ap_mIf, Math.ap_mNever, Math.ap_mPar, Math.ap_mPar3, Math.ap_mPut, Math.ap_mApp, Math.ap_mTo, Math.ap_mYes, Math.ap_iSq, Math.ap_iZp, Math.ap_iEn, Math.ap_mRetC, Math.ap_eCh, Math.ap_noPart, Math.ap_aPart, Math.ap_eSlice, Math.ap_mkF, Math.ap_mkC, Mir.env0, Mir.fin, Mir.finC, Mir.thenDo, Mir.toFl, Mir.wipeE, Mir.itemsOf, Mir.orBad, Mir.gNm, Mir.gTp, Mir.gNms, Mir.Out.bind, Mir.gIx, Mir.seqOf, Mir.gLen, Mir.gTuple, Mir.gAbs, Mir.gInt, Mir.gCmp, Mir.gI, Mir.gAdd, Mir.gSub, Mir.gNeg, Mir.gBols, Mir.gInts, Mir.gChain, Mir.nxO, Mir.putAt, Mir.appAt, Mir.isC, L2.atI, L2.ixN, Math.eIsi_tuple, Math.eIsi_int, Math.eIsi_bool, Math.gEq_int, Math.gEq_bool, Mir.gMulA, hc]
theorem pr5 {s : Sto} {x y z : PyData} {xs ys : List PyData} : iZp (eVar 3) (eVar 4) [some (.d x), some (.d y), some (.d z), some (.d (.tuple xs)), some (.d (.tuple ys)), none, none] s = .ok (zipD xs ys) s := by
  simp -implicitDefEqProofs [Math.ap_eVar, Math.ap_lVar, Math.ap_eC, Math.ap_eL, Math.ap_eUn, Math.ap_eBin, Math.ap_eAnd, Math.ap_eOr, Math.ap_eNot, Math.ap_mE, Math.ap_mNot, Math.ap_mAnd, Math.ap_mOr, Math.ap_eIf, Math.ap_aNil, Math.ap_aCons, Math.ap_dNil, Math.ap_dCons, Math.ap_eTup, Math.ap_cLst, Math.ap_eFr, Math.ap_eIx, Math.ap_eSl, Math.ap_cList, Math.ap_eCall, Math.ap_cCall, Math.ap_mSeq, Math.ap_mNil, Math.ap_mSet, Math.ap_mSetC, Math.ap_mRet, Math.ap_mRetN, Math.ap_mRetL, Math.ap_mDrop, Math.ap_mIf, Math.ap_mNever, Math.ap_mPar, Math.ap_mPar3, Math.ap_mPut, Math.ap_mApp, Math.ap_mTo, Math.ap_mYes, Math.ap_iSq, Math.ap_iZp, Math.ap_iEn, Math.ap_mRetC, Math.ap_eCh, Math.ap_noPart, Math.ap_aPart, Math.ap_eSlice, Math.ap_mkF, Math.ap_mkC, Mir.env0, Mir.fin, Mir.finC, Mir.thenDo, Mir.toFl, Mir.wipeE, Mir.itemsOf, Mir.orBad, Mir.gNm, Mir.gTp, Mir.gNms, Mir.Out.bind, Mir.gIx, Mir.seqOf, Mir.gLen, Mir.gTuple, Mir.gAbs, Mir.gInt, Mir.gCmp, Mir.gI, Mir.gAdd, Mir.gSub, Mir.gNeg, Mir.gBols, Mir.gInts, Mir.gChain, Mir.nxO, Mir.putAt, Mir.appAt, Mir.isC, L2.atI, L2.ixN, Math.eIsi_tuple, Math.eIsi_int, Math.eIsi_bool, Math.gEq_int, Math.gEq_bool]
theorem dot_in {s : Sto} {x y z : PyData} {r c : List Int} (hr : ∀ x ∈ r, Few x) (hl : r.length ≤ 1000) :
    sumE [some (.d x), some (.d y), some (.d z), some (.d (rowD r)), some (.d (rowD c)), none, none] s = .ok (.int (dot r c)) s := by
  apply pr3
  unfold cComp
  have hz := zipD_length (r.map .int) (c.map .int)
  rw [List.length_map] at hz
  have e3 : iZp (eVar 3) (eVar 4) [some (.d x), some (.d y), some (.d z), some (.d (rowD r)), some (.d (rowD c)), none, none] s = .ok (zipD (r.map .int) (c.map .int)) s := pr5
  rw [e3, Out.bind_ok, if_pos (by omega)]
  have q := zip_comp (i := 5) (j := 6) (fe := eBin Mir.gMulA (eVar 5) (eVar 6)) (ρ := wipeE [some (.d x), some (.d y), some (.d z), some (.d (rowD r)), some (.d (rowD c)), none, none] [5, 6]) (s := s) (g := PyData.int) (g' := PyData.int) (f := fun a b => PyData.int (a * b)) r c fun a ha b hb => by
    have h := hr a ha
    exact pr4 (by unfold Few at h; omega)
  rw [q]
  congr 1
  rw [List.map_zipWith]
/-- as `comp_map`, the items told by a list -/
theorem comp_mapL {α : Type} {it : MD} {k : Nat} {fe : ME} {ρ : Mir.Env} {s : Sto} (g f : α → PyData) (as : List α) (hi : it ρ s = .ok (as.map g) s) (hl : as.length ≤ 100000)
    (h : ∀ a ∈ as, fe ((wipeE ρ [k]).set k (some (.d (g a)))) s = .ok (f a) s) : cComp it (gNm k) mYes fe [k] ρ s = .ok (as.map f) s := by
  have go : ∀ (bs : List α), (∀ b ∈ bs, b ∈ as) → compL (gNm k) mYes fe (wipeE ρ [k]) (bs.map g) s = .ok (bs.map f) s := by
    intro bs
    induction bs with
    | nil => exact fun _ => rfl
    | cons b bs ih =>
      intro hb
      have e := h b (hb b (by simp))
      have eg : gNm k (g b) (wipeE ρ [k]) = some ((wipeE ρ [k]).set k (some (.d (g b)))) := rfl
      rw [List.map_cons]
      unfold compL
      rw [eg]
      simp only [mYes, Out.bind_ok, if_true, e, ih fun x hx => hb x (by simp [hx]), List.map_cons]
  unfold cComp
  rw [hi, Out.bind_ok, List.length_map, if_pos hl, go as fun _ q => q]
theorem plain_product {s : Sto} {w v : Nat} {A B : List (List Int)} (ga : GridOk w A) (gb : GridOk v B) : run_plain_product [.d (grid_D w A), .d (grid_D v B)] s = .ok (grid_D v (prod A B v)) s := by
  have hA := ga.high
  have hB := gb.high
  have hv := gb.wide
  have hw := ga.wide
  have e1 := turned_rows (s := s) (rows := B) (w := v) (by omega) gb.len
  have c := comp_mapL (it := iSq (eIx (lVar 0) (eC (.int 1)))) (k := 3) (fe := eSl gTuple (eL (eFr (cComp (iSq (eVar 2)) (gNm 4) mYes sumE [4]))))
    (ρ := [some (.d (.tuple [.int (w : Int), .tuple (A.map rowD)])), some (.d (.tuple [.int (v : Int), .tuple (B.map rowD)])), some (.d (.list ((cols B v).map rowD))), none, none, none, none]) (s := s) rowD (fun r => rowD ((cols B v).map (dot r))) A rfl (by omega) fun r hr => by
    refine pr2 ?_
    have q := comp_mapL (it := iSq (eVar 2)) (k := 4) (fe := sumE)
      (ρ := [some (.d (.tuple [.int (w : Int), .tuple (A.map rowD)])), some (.d (.tuple [.int (v : Int), .tuple (B.map rowD)])), some (.d (.list ((cols B v).map rowD))), some (.d (rowD r)), none, none, none]) (s := s) rowD (fun c => .int (dot r c)) (cols B v) rfl (by rw [cols_length]; omega) fun c hc =>
      dot_in (ga.few r hr) (by rw [ga.len r hr]; omega)
    have e : (cols B v).map (fun c => PyData.int (dot r c)) = ((cols B v).map (dot r)).map .int := by
      rw [List.map_map]
      rfl
    rw [e] at q
    exact q
  have q := pr1 e1 c
  have e : A.map (fun r => rowD ((cols B v).map (dot r))) = (prod A B v).map rowD := by
    unfold prod
    rw [List.map_map]
    rfl
  rw [e] at q
  exact q
theorem gp1 {s : Sto} {a b : Int} {xs ys : List PyData} {h : PyData} (h1 : run_check_grids [.d (.tuple [.int a, .tuple xs]), .d (.tuple [.int b, .tuple ys])] s = .ok .none s) (hl : a = ys.length)
    (e : run_plain_product [.d (.tuple [.int a, .tuple xs]), .d (.tuple [.int b, .tuple ys])] s = .ok h s) :
    run_grid_product [.d (.tuple [.int a, .tuple xs]), .d (.tuple [.int b, .tuple ys])] s = .ok h s := by
  simp -implicitDefEqProofs [Math.ap_eVar, Math.ap_lVar, Math.ap_eC, Math.ap_eL, Math.ap_eUn, Math.ap_eBin, Math.ap_eAnd, Math.ap_eOr, Math.ap_eNot, Math.ap_mE, Math.ap_mNot, Math.ap_mAnd, Math.ap_mOr, Math.ap_eIf, Math.ap_aNil, Math.ap_aCons, Math.ap_dNil, Math.ap_dCons, Math.ap_eTup, Math.ap_cLst, Math.ap_eFr, Math.ap_eIx, Math.ap_eSl, Math.ap_cList, Math.ap_eCall, Math.ap_cCall, Math.ap_mSeq, Math.ap_mNil, Math.ap_mSet, Math.ap_mSetC, Math.ap_mRet, Math.ap_mRetN, Math.ap_mRetL, Math.ap_mDrop, Math.ap_mIf, Math.ap_mNever, Math.ap_mPar, Math.ap_mPar3, Math.ap_mPut, Math.ap_mApp, Math.ap_mTo, Math.ap_mYes, Math.ap_iSq, Math.ap_iZp, Math.ap_iEn, Math.ap_mRetC, Math.ap_eCh, Math.ap_noPart, Math.ap_aPart, Math.ap_eSlice, Math.ap_mkF, Math.ap_mkC, Mir.env0, Mir.fin, Mir.finC, Mir.thenDo, Mir.toFl, Mir.wipeE, Mir.itemsOf, Mir.orBad, Mir.gNm, Mir.gTp, Mir.gNms, Mir.Out.bind, Mir.gIx, Mir.seqOf, Mir.gLen, Mir.gTuple, Mir.gAbs, Mir.gInt, Mir.gCmp, Mir.gI, Mir.gAdd, Mir.gSub, Mir.gNeg, Mir.gBols, Mir.gInts, Mir.gChain, Mir.nxO, Mir.putAt, Mir.appAt, Mir.isC, L2.atI, L2.ixN, Math.eIsi_tuple, Math.eIsi_int, Math.eIsi_bool, Math.gEq_int, Math.gEq_bool, run_grid_product, h1, check_fit_ok, e, eq_true hl]
end Math
/-! # units, noughts as lists -/
namespace Math
open PySem Mir Fn
theorem GridOk.mk_product {s : Sto} {w v : Nat} {A B : List (List Int)} (ga : GridOk w A) (gb : GridOk v B) (hl : w = B.length) : run_grid_product [.d (grid_D w A), .d (grid_D v B)] s = .ok (grid_D v (prod A B v)) s :=
  gp1 (check_grids _ _ s ga.is gb.is) (by rw [List.length_map, hl]) (plain_product ga gb)
def unitG (n : Nat) : List (List Int) := (List.range n).map fun i => (List.range n).map fun j => if j = i then 1 else 0
def noughtG (h w : Nat) : List (List Int) := List.replicate h (List.replicate w 0)
theorem unit_ok {n : Nat} (h : n ≤ 60) : GridOk n (unitG n) where
  wide := h
  high := by simp [unitG, h]
  len r hr := by
    obtain ⟨i, _, rfl⟩ := List.mem_map.mp hr
    simp
  few r hr x hx := by
    obtain ⟨i, _, rfl⟩ := List.mem_map.mp hr
    obtain ⟨j, _, rfl⟩ := List.mem_map.mp hx
    unfold Few
    split <;> decide
theorem nought_ok {h w : Nat} (hh : h ≤ 60) (hw : w ≤ 60) : GridOk w (noughtG h w) where
  wide := hw
  high := by simp [noughtG, hh]
  len r hr := by
    rw [(List.mem_replicate.mp hr).2, List.length_replicate]
  few r hr x hx := by
    rw [(List.mem_replicate.mp hr).2] at hx
    rw [(List.mem_replicate.mp hx).2]
    unfold Few
    decide
end Math
/-! # facts of grids as lists -/
namespace Math
theorem beside_assoc : ∀ (A B C : List (List Int)), besideG (besideG A B) C = besideG A (besideG B C)
  | [], _, _ => by simp [besideG]
  | _ :: _, [], _ => by simp [besideG]
  | _ :: _, _ :: _, [] => by simp [besideG]
  | a :: A, b :: B, c :: C => by
    have ih := beside_assoc A B C
    unfold besideG at ih ⊢
    simp only [List.zipWith_cons_cons, List.append_assoc, ih]
theorem col_left : ∀ (A B : List (List Int)) (w j : Nat), A.length = B.length → (∀ r ∈ A, r.length = w) → j < w → col (besideG A B) j = col A j
  | [], [], _, _, _, _, _ => rfl
  | [], _ :: _, _, _, h, _, _ => by simp at h
  | _ :: _, [], _, _, h, _, _ => by simp at h
  | a :: A, b :: B, w, j, h, hw, hj => by
    have ih := col_left A B w j (by simpa using h) (fun r hr => hw r (by simp [hr])) hj
    unfold col besideG at ih ⊢
    have ha := hw a (by simp)
    simp only [List.zipWith_cons_cons, List.map_cons, ih]
    congr 1
    rw [List.getD_eq_getElem?_getD, List.getD_eq_getElem?_getD, List.getElem?_append_left (by omega)]
theorem col_right : ∀ (A B : List (List Int)) (w j : Nat), A.length = B.length → (∀ r ∈ A, r.length = w) → col (besideG A B) (w + j) = col B j
  | [], [], _, _, _, _ => rfl
  | [], _ :: _, _, _, h, _ => by simp at h
  | _ :: _, [], _, _, h, _ => by simp at h
  | a :: A, b :: B, w, j, h, hw => by
    have ih := col_right A B w j (by simpa using h) (fun r hr => hw r (by simp [hr]))
    unfold col besideG at ih ⊢
    have ha := hw a (by simp)
    simp only [List.zipWith_cons_cons, List.map_cons, ih]
    congr 1
    rw [List.getD_eq_getElem?_getD, List.getD_eq_getElem?_getD, List.getElem?_append_right (by omega)]
    congr 2
    omega
theorem cols_beside {A B : List (List Int)} {w v : Nat} (h : A.length = B.length) (hw : ∀ r ∈ A, r.length = w) : cols A w ++ cols B v = cols (besideG A B) (w + v) := by
  unfold cols
  rw [List.range_add, List.map_append, List.map_map]
  congr 1
  · exact List.map_congr_left fun j hj => (col_left A B w j h hw (List.mem_range.mp hj)).symm
  · exact List.map_congr_left fun j _ => (col_right A B w j h hw).symm
theorem dot_zero_right : ∀ (r : List Int) (n : Nat), dot r (List.replicate n 0) = 0
  | [], _ => by simp [dot]
  | _ :: _, 0 => by simp [dot]
  | a :: r, n + 1 => by
    have ih := dot_zero_right r n
    unfold dot at ih ⊢
    rw [List.replicate_succ, List.zipWith_cons_cons, List.sum_cons, ih]
    omega
theorem prod_nought {A : List (List Int)} {w v : Nat} : prod A (noughtG w v) v = noughtG A.length v := by
  have e : cols (noughtG w v) v = List.replicate v (List.replicate w 0) := by
    apply List.ext_getElem
    · simp [cols]
    · intro j h1 h2
      simp only [cols, List.getElem_map, List.getElem_range, List.getElem_replicate, col, noughtG, List.map_replicate]
      congr 1
      rw [List.getD_eq_getElem?_getD]
      rw [List.length_replicate] at h2
      rw [List.getElem?_replicate, if_pos h2]
      rfl
  unfold prod
  rw [e]
  apply List.ext_getElem
  · simp [noughtG]
  · intro i h1 h2
    simp only [List.getElem_map, List.map_replicate, noughtG, List.getElem_replicate, dot_zero_right]
/-- the sum of the products with the row that has 1 at i -/
theorem dot_unit : ∀ (n i o : Nat) (c : List Int), c.length = n → dot ((List.range' o n).map fun j => if j = i then (1 : Int) else 0) c = if o ≤ i ∧ i < o + n then c.getD (i - o) 0 else 0
  | 0, i, o, c, h => by
    have : ¬ (o ≤ i ∧ i < o + 0) := by omega
    rw [if_neg this]
    simp [dot]
  | n + 1, i, o, [], h => by simp at h
  | n + 1, i, o, x :: c, h => by
    have ih := dot_unit n i (o + 1) c (by simpa using h)
    unfold dot at ih ⊢
    rw [List.range'_succ, List.map_cons, List.zipWith_cons_cons, List.sum_cons, ih]
    by_cases h1 : o = i
    · subst h1
      have a : ¬ (o + 1 ≤ o ∧ o < o + 1 + n) := by omega
      have b : o ≤ o ∧ o < o + (n + 1) := by omega
      rw [if_pos rfl, if_neg a, if_pos b, Nat.sub_self]
      simp
    · rw [if_neg h1]
      by_cases h2 : o + 1 ≤ i ∧ i < o + 1 + n
      · have b : o ≤ i ∧ i < o + (n + 1) := by omega
        rw [if_pos h2, if_pos b]
        have e : i - o = (i - (o + 1)) + 1 := by omega
        rw [e, List.getD_cons_succ]
        omega
      · have b : ¬ (o ≤ i ∧ i < o + (n + 1)) := by omega
        rw [if_neg h2, if_neg b]
        omega
theorem prod_unit {A : List (List Int)} {w : Nat} (hw : ∀ r ∈ A, r.length = w) : prod (unitG A.length) A w = A := by
  apply List.ext_getElem
  · simp [prod, unitG]
  · intro i h1 h2
    simp only [prod, unitG, List.getElem_map, List.getElem_range]
    apply List.ext_getElem
    · rw [List.length_map, cols_length, hw _ (List.getElem_mem h2)]
    · intro j h3 h4
      simp only [List.getElem_map, cols, List.getElem_range]
      have q := dot_unit A.length i 0 (col A j) (col_length A j)
      rw [List.range_eq_range', q, if_pos ⟨by omega, by omega⟩, Nat.sub_zero]
      unfold col
      rw [List.getD_eq_getElem?_getD, List.getElem?_map, List.getElem?_eq_getElem h2]
      show A[i].getD j 0 = A[i][j]
      rw [List.getD_eq_getElem?_getD, List.getElem?_eq_getElem h4]
      rfl
end Math
/-! # products of grids as lists -/
namespace Math
def lead (A : List (List Int)) (x : List Int) : List Int := A.map fun r => dot r x
def plusG (A B : List (List Int)) : List (List Int) := List.zipWith (List.zipWith (· + ·)) A B
def minusG (A B : List (List Int)) : List (List Int) := List.zipWith (List.zipWith (· - ·)) A B
def scaledG (n : Int) (A : List (List Int)) : List (List Int) := A.map fun r => r.map (n * ·)
theorem dot_comm : ∀ (r c : List Int), dot r c = dot c r
  | [], c => by cases c <;> simp [dot]
  | _ :: _, [] => by simp [dot]
  | a :: r, b :: c => by
    have ih := dot_comm r c
    unfold dot at ih ⊢
    rw [List.zipWith_cons_cons, List.zipWith_cons_cons, List.sum_cons, List.sum_cons, ih, Int.mul_comm]
theorem dot_add : ∀ (p q c : List Int), p.length = q.length → dot (List.zipWith (· + ·) p q) c = dot p c + dot q c
  | [], [], c, _ => by simp [dot]
  | [], _ :: _, _, h => by simp at h
  | _ :: _, [], _, h => by simp at h
  | _ :: _, _ :: _, [], _ => by simp [dot]
  | a :: p, b :: q, x :: c, h => by
    have ih := dot_add p q c (by simpa using h)
    unfold dot at ih ⊢
    simp only [List.zipWith_cons_cons, List.sum_cons, ih, Int.add_mul]
    omega
theorem dot_scale : ∀ (a : Int) (p c : List Int), dot (p.map (a * ·)) c = a * dot p c
  | a, [], c => by simp [dot]
  | a, _ :: _, [] => by simp [dot]
  | a, b :: p, x :: c => by
    have ih := dot_scale a p c
    unfold dot at ih ⊢
    simp only [List.map_cons, List.zipWith_cons_cons, List.sum_cons, ih, Int.mul_add, Int.mul_assoc]
theorem dot_nil_left (c : List Int) : dot [] c = 0 := by simp [dot]
theorem dot_cons (a b : Int) (r c : List Int) : dot (a :: r) (b :: c) = a * b + dot r c := by simp [dot]
theorem map_dot_nil (v : Nat) (B : List (List Int)) : (cols B v).map (dot []) = List.replicate v 0 := by
  apply List.ext_getElem
  · simp [cols]
  · intro j h1 h2
    simp [dot_nil_left]
theorem dot_nought_left (n : Nat) (c : List Int) : dot (List.replicate n 0) c = 0 := by rw [dot_comm, dot_zero_right]
theorem map_dot_cons {a : Int} {r b : List Int} {B : List (List Int)} {v : Nat} (hb : b.length = v) : (cols (b :: B) v).map (dot (a :: r)) = List.zipWith (· + ·) (b.map (a * ·)) ((cols B v).map (dot r)) := by
  apply List.ext_getElem
  · simp [cols, hb]
  · intro j h1 h2
    have hj : j < b.length := by
      rw [List.length_map, cols_length] at h1
      omega
    simp only [cols, List.getElem_map, List.getElem_range, List.getElem_zipWith, col, List.map_cons, dot_cons]
    rw [List.getD_eq_getElem?_getD, List.getElem?_eq_getElem hj]
    rfl
/-- (r B) c = r (B c) -/
theorem through {v : Nat} {c : List Int} : ∀ (r : List Int) (B : List (List Int)), r.length = B.length → (∀ b ∈ B, b.length = v) → dot ((cols B v).map (dot r)) c = dot r (lead B c)
  | [], [], _, _ => by rw [map_dot_nil, dot_nought_left]; rfl
  | [], _ :: _, h, _ => by simp at h
  | _ :: _, [], h, _ => by simp at h
  | a :: r, b :: B, h, hb => by
    have ih := through (v := v) (c := c) r B (by simpa using h) fun x hx => hb x (by simp [hx])
    have e := hb b (by simp)
    rw [map_dot_cons e, dot_add _ _ _ (by simp [cols, e]), dot_scale, ih]
    unfold lead
    rw [List.map_cons, dot_cons]
theorem col_prod {B C : List (List Int)} {u j : Nat} (hj : j < u) : col (prod B C u) j = lead B (col C j) := by
  unfold col prod lead
  rw [List.map_map]
  refine List.map_congr_left fun b _ => ?_
  show ((cols C u).map (dot b)).getD j 0 = _
  rw [List.getD_eq_getElem?_getD, List.getElem?_map, cols, List.getElem?_map, List.getElem?_range hj]
  rfl
theorem lead_length (A : List (List Int)) (x : List Int) : (lead A x).length = A.length := by simp [lead]
theorem prod_length (A B : List (List Int)) (v : Nat) : (prod A B v).length = A.length := by simp [prod]
theorem prod_wide {A B : List (List Int)} {v : Nat} : ∀ r ∈ prod A B v, r.length = v := fun r hr => by
  obtain ⟨a, _, rfl⟩ := List.mem_map.mp hr
  rw [List.length_map, cols_length]
theorem prod_assoc {A B C : List (List Int)} {v u : Nat} (ha : ∀ r ∈ A, r.length = B.length) (hb : ∀ r ∈ B, r.length = v) : prod (prod A B v) C u = prod A (prod B C u) u := by
  have e : ∀ r ∈ A, (cols C u).map (dot ((cols B v).map (dot r))) = (cols (prod B C u) u).map (dot r) := fun r hr => by
    show (List.map (col C) (List.range u)).map _ = (List.map (col (prod B C u)) (List.range u)).map _
    rw [List.map_map, List.map_map]
    refine List.map_congr_left fun j hj => ?_
    show dot ((cols B v).map (dot r)) (col C j) = dot r (col (prod B C u) j)
    rw [col_prod (List.mem_range.mp hj), through r B (ha r hr) hb]
  show (prod A B v).map (fun r => (cols C u).map (dot r)) = A.map fun r => (cols (prod B C u) u).map (dot r)
  unfold prod
  rw [List.map_map]
  exact List.map_congr_left fun r hr => e r hr
theorem cols_cols {A : List (List Int)} {w : Nat} (hw : ∀ r ∈ A, r.length = w) : cols (cols A w) A.length = A := by
  apply List.ext_getElem
  · rw [cols_length]
  · intro i h1 h2
    simp only [cols, List.getElem_map, List.getElem_range, col, List.map_map]
    apply List.ext_getElem
    · rw [List.length_map, List.length_range, hw _ (List.getElem_mem h2)]
    · intro j h3 h4
      simp only [List.getElem_map, List.getElem_range, Function.comp_apply]
      unfold col
      rw [List.getD_eq_getElem?_getD, List.getElem?_map, List.getElem?_eq_getElem h2]
      show A[i].getD j 0 = A[i][j]
      rw [List.getD_eq_getElem?_getD, List.getElem?_eq_getElem h4]
      rfl
theorem cols_prod {A B : List (List Int)} {w v : Nat} (hw : ∀ r ∈ A, r.length = w) : cols (prod A B v) v = prod (cols B v) (cols A w) A.length := by
  unfold prod
  rw [cols_cols hw]
  show (List.range v).map (col (prod A B v)) = ((List.range v).map (col B)).map _
  rw [List.map_map]
  refine List.map_congr_left fun j hj => ?_
  rw [col_prod (List.mem_range.mp hj)]
  show A.map _ = A.map _
  exact List.map_congr_left fun r _ => dot_comm _ _
theorem lead_prod {A B : List (List Int)} {v : Nat} {x : List Int} (ha : ∀ r ∈ A, r.length = B.length) (hb : ∀ r ∈ B, r.length = v) : lead (prod A B v) x = lead A (lead B x) := by
  unfold prod
  show (A.map _).map _ = A.map _
  rw [List.map_map]
  exact List.map_congr_left fun r hr => through r B (ha r hr) hb
theorem dot_read {A : List (List Int)} {w : Nat} {y z : List Int} (hy : y.length = A.length) (hw : ∀ r ∈ A, r.length = w) : dot (lead (cols A w) y) z = dot y (lead A z) := by
  have e : lead (cols A w) y = (cols A w).map (dot y) := List.map_congr_left fun c _ => dot_comm _ _
  rw [e, through y A hy hw]
theorem unit_col {n j : Nat} : col (unitG n) j = (List.range' 0 n).map fun i => if i = j then (1 : Int) else 0 := by
  unfold col unitG
  rw [List.map_map, List.range_eq_range']
  refine List.map_congr_left fun i hi => ?_
  have hi' := List.mem_range'_1.mp hi
  show ((List.range' 0 n).map fun k => if k = i then (1 : Int) else 0).getD j 0 = _
  rw [List.getD_eq_getElem?_getD, List.getElem?_map]
  by_cases hj : j < n
  · rw [List.getElem?_range' hj]
    simp only [Option.map_some, Option.getD_some, Nat.zero_add, Nat.one_mul]
    by_cases e : j = i
    · rw [if_pos e, if_pos e.symm]
    · rw [if_neg e, if_neg fun h => e h.symm]
  · rw [List.getElem?_eq_none (by rw [List.length_range']; omega), if_neg (by omega)]
    rfl
theorem dot_units {r : List Int} {w : Nat} (h : r.length = w) : (cols (unitG w) w).map (dot r) = r := by
  apply List.ext_getElem
  · simp [cols, h]
  · intro j h1 h2
    simp only [cols, List.getElem_map, List.getElem_range]
    rw [dot_comm, unit_col, dot_unit w j 0 r h, if_pos ⟨by omega, by omega⟩, Nat.sub_zero, List.getD_eq_getElem?_getD, List.getElem?_eq_getElem h2]
    rfl
theorem prod_beside {A B : List (List Int)} {w v : Nat} (hw : ∀ r ∈ A, r.length = w) (hb : B.length = w) : prod A (besideG (unitG w) B) (w + v) = besideG A (prod A B v) := by
  have hl : (unitG w).length = B.length := by simp [unitG, hb]
  have hu : ∀ r ∈ unitG w, r.length = w := fun r hr => by
    obtain ⟨i, _, rfl⟩ := List.mem_map.mp hr
    simp
  unfold prod
  rw [← cols_beside hl hu]
  apply List.ext_getElem
  · simp [besideG]
  · intro i h1 h2
    have hi : i < A.length := by simpa using h1
    simp only [besideG, List.getElem_map, List.getElem_zipWith, List.map_append]
    rw [dot_units (hw _ (List.getElem_mem hi))]
theorem minus_scaled : ∀ (A B : List (List Int)), minusG A (scaledG (-1) B) = plusG A B
  | [], _ => by simp [minusG, plusG]
  | _ :: _, [] => by simp [minusG, plusG, scaledG]
  | a :: A, b :: B => by
    have ih := minus_scaled A B
    unfold minusG plusG scaledG at ih ⊢
    rw [List.map_cons, List.zipWith_cons_cons, List.zipWith_cons_cons, ih]
    congr 1
    rw [List.zipWith_map_right]
    congr 1
    funext x y
    omega
theorem plus_scaled : ∀ (A B : List (List Int)), plusG A (scaledG (-1) B) = minusG A B
  | [], _ => by simp [minusG, plusG]
  | _ :: _, [] => by simp [minusG, plusG, scaledG]
  | a :: A, b :: B => by
    have ih := plus_scaled A B
    unfold minusG plusG scaledG at ih ⊢
    rw [List.map_cons, List.zipWith_cons_cons, List.zipWith_cons_cons, ih]
    congr 1
    rw [List.zipWith_map_right]
    congr 1
    funext x y
    omega
/-- how great a sum of products is -/
theorem dot_bound {a b : Nat} : ∀ (r c : List Int), (∀ x ∈ r, x.natAbs ≤ a) → (∀ x ∈ c, x.natAbs ≤ b) → (dot r c).natAbs ≤ r.length * (a * b)
  | [], c, _, _ => by simp [dot]
  | _ :: _, [], _, _ => by simp [dot]
  | x :: r, y :: c, h1, h2 => by
    have ih := dot_bound r c (fun z hz => h1 z (by simp [hz])) fun z hz => h2 z (by simp [hz])
    have e1 := h1 x (by simp)
    have e2 := h2 y (by simp)
    rw [dot_cons, List.length_cons, Nat.add_mul, Nat.one_mul, Nat.add_comm]
    refine Nat.le_trans (Int.natAbs_add_le _ _) (Nat.add_le_add ?_ ih)
    rw [Int.natAbs_mul]
    exact Nat.mul_le_mul e1 e2
end Math
/-! # grids are equal to themselves -/
namespace Math
open PySem Mir Fn
theorem eqv_ints : ∀ r : List Int, PyData.eqvAll (r.map .int) (r.map .int) = true
  | [] => rfl
  | x :: r => by
    have ih := eqv_ints r
    simp [PyData.eqvAll, PyData.eqv, ih]
theorem eqv_row (r : List Int) : PyData.eqv (rowD r) (rowD r) = true := by
  unfold rowD
  rw [PyData.eqv]
  exact eqv_ints r
theorem eqv_rows : ∀ rs : List (List Int), PyData.eqvAll (rs.map rowD) (rs.map rowD) = true
  | [] => rfl
  | x :: r => by
    have ih := eqv_rows r
    simp [PyData.eqvAll, eqv_row, ih]
theorem eqv_grid (w : Nat) (rs : List (List Int)) : PyData.eqv (grid_D w rs) (grid_D w rs) = true := by
  unfold grid_D
  simp [PyData.eqv, PyData.eqvAll, eqv_rows]
theorem sh_row (r : List Int) : Sh 1 (rowD r) := sh_tuple.mpr fun x hx => by
  obtain ⟨i, _, rfl⟩ := List.mem_map.mp hx
  exact sh_int i
theorem sh_grid (w : Nat) (rs : List (List Int)) : Sh 3 (grid_D w rs) := by
  refine (sh_tuple (n := 2)).mpr fun x hx => ?_
  simp only [List.mem_cons, List.not_mem_nil, or_false] at hx
  rcases hx with rfl | rfl
  · exact sh_int _
  · refine (sh_tuple (n := 1)).mpr fun y hy => ?_
    obtain ⟨r, _, rfl⟩ := List.mem_map.mp hy
    exact sh_row r
theorem gEq_grid (neg : Bool) (w : Nat) (rs : List (List Int)) (s : Sto) : gEq neg (grid_D w rs) (grid_D w rs) s = .ok (.bool (neg != true)) s := by
  rw [gEq_sh ((sh_grid w rs).mono (by decide)) ((sh_grid w rs).mono (by decide)), eqv_grid]
end Math
/-! # steps -/
namespace Math
open PySem Mir Fn
theorem call1 {F : MF} {fa : ME} {ρ : Mir.Env} {s : Sto} {v r : PyData} (hf : fa ρ s = .ok v s) (hF : F [.d v] s = .ok r s) : eCall 1 F (aCons (eL fa) aNil) ρ s = .ok r s := by
  simp only [ap_eCall, ap_aCons, ap_aNil, ap_eL, hf, hF, Out.bind_ok, List.length_cons, List.length_nil, if_true]
theorem call2 {F : MF} {fa fb : ME} {ρ : Mir.Env} {s : Sto} {v w r : PyData} (hf : fa ρ s = .ok v s) (hg : fb ρ s = .ok w s) (hF : F [.d v, .d w] s = .ok r s) : eCall 2 F (aCons (eL fa) (aCons (eL fb) aNil)) ρ s = .ok r s := by
  simp only [ap_eCall, ap_aCons, ap_aNil, ap_eL, hf, hg, hF, Out.bind_ok, List.length_cons, List.length_nil, if_true]
theorem unlike {fa fb : ME} {ρ : Mir.Env} {s : Sto} {v : PyData} (hf : fa ρ s = .ok v s) (hg : fb ρ s = .ok v s) (q : gEq true v v s = .ok (.bool false) s) : mE (eBin (gEq true) fa fb) ρ s = .ok false s := by
  simp only [ap_mE, ap_eBin, hf, hg, q, Out.bind_ok]
theorem toFl_ok' {α : Type} {x : α} {s : Sto} {k : α → Sto → Fl} : toFl (.ok x s) k = k x s := rfl
theorem thenDo_nx {ρ : Mir.Env} {s : Sto} {g : MS} : thenDo (.nx ρ s) g = g ρ s := rfl
theorem if_no {m : MT} {g : MS} {ρ : Mir.Env} {s : Sto} (h : m ρ s = .ok false s) : mIf m g mNil ρ s = .nx ρ s := by
  rw [ap_mIf, h, toFl_ok']
  rfl
theorem or_no {m n : MT} {ρ : Mir.Env} {s : Sto} (h : m ρ s = .ok false s) (k : n ρ s = .ok false s) : mOr m n ρ s = .ok false s := by
  rw [ap_mOr, h, Out.bind_ok, if_neg (by decide), k]
theorem eq_two {neg : Bool} {fa fb : ME} {ρ : Mir.Env} {s : Sto} {x y : PyData} {b : PyData} (h : fa ρ s = .ok x s) (k : fb ρ s = .ok y s) (q : gEq neg x y s = .ok b s) : eBin (gEq neg) fa fb ρ s = .ok b s := by
  rw [ap_eBin, h, Out.bind_ok, k, Out.bind_ok, q]
theorem test_no {fa : ME} {ρ : Mir.Env} {s : Sto} (h : fa ρ s = .ok (.bool false) s) : mE fa ρ s = .ok false s := by
  rw [ap_mE, h, Out.bind_ok]
theorem seq_nx {g1 g2 : MS} {ρ ρ1 : Mir.Env} {s s1 : Sto} {r : Fl} (h : g1 ρ s = .nx ρ1 s1) (k : g2 ρ1 s1 = r) : mSeq g1 g2 ρ s = r := by
  rw [ap_mSeq, h, thenDo_nx, k]
end Math
/-! # the law's unit grid -/
namespace Math
open PySem Mir Fn
theorem lu1 {s : Sto} {v : PyData} {rs : List PyData}
    (c : cComp (iRg1 (eVar 0)) (gNm 1) mYes (eSl gTuple (eL (eFr (cComp (iRg1 (eVar 0)) (gNm 2) mYes (eSl gInt (eL (eBin (gEq false) (eVar 1) (eVar 2)))) [2])))) [1] [some (.d v), none, none] s = .ok rs s) :
    run_law_unit [.d v] s = .ok (.tuple [v, .tuple rs]) s := by
  simp -implicitDefEqProofs [Math.ap_eVar, Math.ap_lVar, Math.ap_eC, Math.ap_eL, Math.ap_eUn, Math.ap_eBin, Math.ap_eAnd, Math.ap_eOr, Math.ap_eNot, Math.ap_mE, Math.ap_mNot, Math.ap_mAnd, Math.ap_mOr, Math.ap_eIf, Math.ap_aNil, Math.ap_aCons, Math.ap_dNil, Math.ap_dCons, Math.ap_eTup, Math.ap_cLst, Math.ap_eFr, Math.ap_eIx, Math.ap_eSl, Math.ap_cList, Math.ap_eCall, Math.ap_cCall, Math.ap_mSeq, Math.ap_mNil, Math.ap_mSet, Math.ap_mSetC, Math.ap_mRet, Math.ap_mRetN, Math.ap_mRetL, Math.ap_mDrop, Math.ap_mIf, Math.ap_mNever, Math.ap_mPar, Math.ap_mPar3, Math.ap_mPut, Math.ap_mApp, Math.ap_mTo, Math.ap_mYes, Math.ap_iSq, Math.ap_iZp, Math.ap_iEn, Math.ap_mRetC, Math.ap_eCh, Math.ap_noPart, Math.ap_aPart, Math.ap_eSlice, Math.ap_mkF, Math.ap_mkC, Mir.env0, Mir.fin, Mir.finC, Mir.thenDo, Mir.toFl, Mir.wipeE, Mir.itemsOf, Mir.orBad, Mir.gNm, Mir.gTp, Mir.gNms, Mir.Out.bind, Mir.gIx, Mir.seqOf, Mir.gLen, Mir.gTuple, Mir.gAbs, Mir.gInt, Mir.gCmp, Mir.gI, Mir.gAdd, Mir.gSub, Mir.gNeg, Mir.gBols, Mir.gInts, Mir.gChain, Mir.nxO, Mir.putAt, Mir.appAt, Mir.isC, L2.atI, L2.ixN, Math.eIsi_tuple, Math.eIsi_int, Math.eIsi_bool, Math.gEq_int, Math.gEq_bool, run_law_unit, c]
theorem lu2 {s : Sto} {v d : PyData} {rs : List PyData} (c : cComp (iRg1 (eVar 0)) (gNm 2) mYes (eSl gInt (eL (eBin (gEq false) (eVar 1) (eVar 2)))) [2] [some (.d v), some (.d d), none] s = .ok rs s) :
    eSl gTuple (eL (eFr (cComp (iRg1 (eVar 0)) (gNm 2) mYes (eSl gInt (eL (eBin (gEq false) (eVar 1) (eVar 2)))) [2]))) [some (.d v), some (.d d), none] s = .ok (.tuple rs) s := by
  simp -implicitDefEqProofs [Math.ap_eVar, Math.ap_lVar, Math.ap_eC, Math.ap_eL, Math.ap_eUn, Math.ap_eBin, Math.ap_eAnd, Math.ap_eOr, Math.ap_eNot, Math.ap_mE, Math.ap_mNot, Math.ap_mAnd, Math.ap_mOr, Math.ap_eIf, Math.ap_aNil, Math.ap_aCons, Math.ap_dNil, Math.ap_dCons, Math.ap_eTup, Math.ap_cLst, Math.ap_eFr, Math.ap_eIx, Math.ap_eSl, Math.ap_cList, Math.ap_eCall, Math.ap_cCall, Math.ap_mSeq, Math.ap_mNil, Math.ap_mSet, Math.ap_mSetC, Math.ap_mRet, Math.ap_mRetN, Math.ap_mRetL, Math.ap_mDrop, Math.ap_mIf, Math.ap_mNever, Math.ap_mPar, Math.ap_mPar3, Math.ap_mPut, Math.ap_mApp, Math.ap_mTo, Math.ap_mYes, Math.ap_iSq, Math.ap_iZp, Math.ap_iEn, Math.ap_mRetC, Math.ap_eCh, Math.ap_noPart, Math.ap_aPart, Math.ap_eSlice, Math.ap_mkF, Math.ap_mkC, Mir.env0, Mir.fin, Mir.finC, Mir.thenDo, Mir.toFl, Mir.wipeE, Mir.itemsOf, Mir.orBad, Mir.gNm, Mir.gTp, Mir.gNms, Mir.Out.bind, Mir.gIx, Mir.seqOf, Mir.gLen, Mir.gTuple, Mir.gAbs, Mir.gInt, Mir.gCmp, Mir.gI, Mir.gAdd, Mir.gSub, Mir.gNeg, Mir.gBols, Mir.gInts, Mir.gChain, Mir.nxO, Mir.putAt, Mir.appAt, Mir.isC, L2.atI, L2.ixN, Math.eIsi_tuple, Math.eIsi_int, Math.eIsi_bool, Math.gEq_int, Math.gEq_bool, c]
theorem lu3 {s : Sto} {v : PyData} {a b : Int} : eSl gInt (eL (eBin (gEq false) (eVar 1) (eVar 2))) [some (.d v), some (.d (.int a)), some (.d (.int b))] s = .ok (.int (if b = a then 1 else 0)) s := by
  by_cases c : b = a
  · subst c
    simp -implicitDefEqProofs [Math.ap_eVar, Math.ap_lVar, Math.ap_eC, Math.ap_eL, Math.ap_eUn, Math.ap_eBin, Math.ap_eAnd, Math.ap_eOr, Math.ap_eNot, Math.ap_mE, Math.ap_mNot, Math.ap_mAnd, Math.ap_mOr, Math.ap_eIf, Math.ap_aNil, Math.ap_aCons, Math.ap_dNil, Math.ap_dCons, Math.ap_eTup, Math.ap_cLst, Math.ap_eFr, Math.ap_eIx, Math.ap_eSl, Math.ap_cList, Math.ap_eCall, Math.ap_cCall, Math.ap_mSeq, Math.ap_mNil, Math.ap_mSet, Math.ap_mSetC, Math.ap_mRet, Math.ap_mRetN, Math.ap_mRetL, Math.ap_mDrop, Math.ap_mIf, Math.ap_mNever, Math.ap_mPar, Math.ap_mPar3, Math.ap_mPut, Math.ap_mApp, Math.ap_mTo, Math.ap_mYes, Math.ap_iSq, Math.ap_iZp, Math.ap_iEn, Math.ap_mRetC, Math.ap_eCh, Math.ap_noPart, Math.ap_aPart, Math.ap_eSlice, Math.ap_mkF, Math.ap_mkC, Mir.env0, Mir.fin, Mir.finC, Mir.thenDo, Mir.toFl, Mir.wipeE, Mir.itemsOf, Mir.orBad, Mir.gNm, Mir.gTp, Mir.gNms, Mir.Out.bind, Mir.gIx, Mir.seqOf, Mir.gLen, Mir.gTuple, Mir.gAbs, Mir.gInt, Mir.gCmp, Mir.gI, Mir.gAdd, Mir.gSub, Mir.gNeg, Mir.gBols, Mir.gInts, Mir.gChain, Mir.nxO, Mir.putAt, Mir.appAt, Mir.isC, L2.atI, L2.ixN, Math.eIsi_tuple, Math.eIsi_int, Math.eIsi_bool, Math.gEq_int, Math.gEq_bool]
  · have c' : ¬ a = b := fun h => c h.symm
    simp -implicitDefEqProofs [Math.ap_eVar, Math.ap_lVar, Math.ap_eC, Math.ap_eL, Math.ap_eUn, Math.ap_eBin, Math.ap_eAnd, Math.ap_eOr, Math.ap_eNot, Math.ap_mE, Math.ap_mNot, Math.ap_mAnd, Math.ap_mOr, Math.ap_eIf, Math.ap_aNil, Math.ap_aCons, Math.ap_dNil, Math.ap_dCons, Math.ap_eTup, Math.ap_cLst, Math.ap_eFr, Math.ap_eIx, Math.ap_eSl, Math.ap_cList, Math.ap_eCall, Math.ap_cCall, Math.ap_mSeq, Math.ap_mNil, Math.ap_mSet, Math.ap_mSetC, Math.ap_mRet, Math.ap_mRetN, Math.ap_mRetL, Math.ap_mDrop, Math.ap_mIf, Math.ap_mNever, Math.ap_mPar, Math.ap_mPar3, Math.ap_mPut, Math.ap_mApp, Math.ap_mTo, Math.ap_mYes, Math.ap_iSq, Math.ap_iZp, Math.ap_iEn, Math.ap_mRetC, Math.ap_eCh, Math.ap_noPart, Math.ap_aPart, Math.ap_eSlice, Math.ap_mkF, Math.ap_mkC, Mir.env0, Mir.fin, Mir.finC, Mir.thenDo, Mir.toFl, Mir.wipeE, Mir.itemsOf, Mir.orBad, Mir.gNm, Mir.gTp, Mir.gNms, Mir.Out.bind, Mir.gIx, Mir.seqOf, Mir.gLen, Mir.gTuple, Mir.gAbs, Mir.gInt, Mir.gCmp, Mir.gI, Mir.gAdd, Mir.gSub, Mir.gNeg, Mir.gBols, Mir.gInts, Mir.gChain, Mir.nxO, Mir.putAt, Mir.appAt, Mir.isC, L2.atI, L2.ixN, Math.eIsi_tuple, Math.eIsi_int, Math.eIsi_bool, Math.gEq_int, Math.gEq_bool, c, c']
theorem law_unit {s : Sto} {n : Nat} (hn : n ≤ 60) : run_law_unit [.d (.int n)] s = .ok (grid_D n (unitG n)) s := by
  have c := comp_mapL (it := iRg1 (eVar 0)) (k := 1) (fe := eSl gTuple (eL (eFr (cComp (iRg1 (eVar 0)) (gNm 2) mYes (eSl gInt (eL (eBin (gEq false) (eVar 1) (eVar 2)))) [2])))) (ρ := [some (.d (.int n)), none, none]) (s := s)
    (fun i : Nat => .int i) (fun i => rowD ((List.range n).map fun j => if j = i then 1 else 0)) (List.range n) (by rw [range_ok 0 _ s n (by omega) rfl, rangeOf_eq]) (by rw [List.length_range]; omega) fun i _ => by
    refine lu2 ?_
    have q := comp_mapL (it := iRg1 (eVar 0)) (k := 2) (fe := eSl gInt (eL (eBin (gEq false) (eVar 1) (eVar 2)))) (ρ := [some (.d (.int n)), some (.d (.int i)), none]) (s := s)
      (fun j : Nat => .int j) (fun j => .int (if j = i then 1 else 0)) (List.range n) (by rw [range_ok 0 _ s n (by omega) rfl, rangeOf_eq]) (by rw [List.length_range]; omega) fun j _ => by
      have e := lu3 (s := s) (v := .int n) (a := (i : Int)) (b := (j : Int))
      by_cases c : j = i
      · subst c
        rw [if_pos rfl] at e ⊢
        exact e
      · rw [if_neg (by omega)] at e
        rw [if_neg c]
        exact e
    have e : ((List.range n).map fun j => PyData.int (if j = i then 1 else 0)) = ((List.range n).map fun j => if j = i then (1 : Int) else 0).map .int := by
      rw [List.map_map]
      rfl
    rw [e] at q
    exact q
  have e : ((List.range n).map fun i => rowD ((List.range n).map fun j => if j = i then (1 : Int) else 0)) = (unitG n).map rowD := by
    unfold unitG
    rw [List.map_map]
    rfl
  rw [e] at c
  exact lu1 c
end Math
/-! # plain_dot's parts -/
namespace Math
open PySem Mir Fn
theorem do1 {s : Sto} {x y : PyData} {ns : List Int} (c : cComp (iZp (eVar 0) (eVar 1)) (gTp [2, 3]) mYes (eBin Mir.gMulA (eVar 2) (eVar 3)) [2, 3] [some (.d x), some (.d y), none, none] s = .ok (ns.map .int) s) :
    run_plain_dot [.d x, .d y] s = .ok (.int ns.sum) s := by
  have e := ints_map (fun i : Int => i) ns
  rw [List.map_id'] at e
  simp -implicitDefEqProofs [Math.ap_eVar, Math.ap_lVar, Math.ap_eC, Math.ap_eL, Math.ap_eUn, Math.ap_eBin, Math.ap_eAnd, Math.ap_eOr, Math.ap_eNot, Math.ap_mE, Math.ap_mNot, Math.ap_mAnd, Math.ap_mOr, Math.ap_eIf, Math.ap_aNil, Math.ap_aCons, Math.ap_dNil, Math.ap_dCons, Math.ap_eTup, Math.ap_cLst, Math.ap_eFr, Math.ap_eIx, Math.ap_eSl, Math.ap_cList, Math.ap_eCall, Math.ap_cCall, Math.ap_mSeq, Math.ap_mNil, Math.ap_mSet, Math.ap_mSetC, Math.ap_mRet, Math.ap_mRetN, Math.ap_mRetL, Math.ap_mDrop, Math.ap_mIf, Math.ap_mNever, Math.ap_mPar, Math.ap_mPar3, Math.ap_mPut, Math.ap_mApp, Math.ap_mTo, Math.ap_mYes, Math.ap_iSq, Math.ap_iZp, Math.ap_iEn, Math.ap_mRetC, Math.ap_eCh, Math.ap_noPart, Math.ap_aPart, Math.ap_eSlice, Math.ap_mkF, Math.ap_mkC, Mir.env0, Mir.fin, Mir.finC, Mir.thenDo, Mir.toFl, Mir.wipeE, Mir.itemsOf, Mir.orBad, Mir.gNm, Mir.gTp, Mir.gNms, Mir.Out.bind, Mir.gIx, Mir.seqOf, Mir.gLen, Mir.gTuple, Mir.gAbs, Mir.gInt, Mir.gCmp, Mir.gI, Mir.gAdd, Mir.gSub, Mir.gNeg, Mir.gBols, Mir.gInts, Mir.gChain, Mir.nxO, Mir.putAt, Mir.appAt, Mir.isC, L2.atI, L2.ixN, Math.eIsi_tuple, Math.eIsi_int, Math.eIsi_bool, Math.gEq_int, Math.gEq_bool, run_plain_dot, c, e]
theorem do2 {s : Sto} {x y : PyData} {a b : Int} (h : a.natAbs < 2 ^ 64) :
    eBin Mir.gMulA (eVar 2) (eVar 3) [some (.d x), some (.d y), some (.d (.int a)), some (.d (.int b))] s = .ok (.int (a * b)) s := by
  have hc : CMulB a b := .inl h
  simp -implicitDefEqProofs [Math.ap_eVar, Math.ap_lVar, Math.ap_eC, Math.ap_eL, Math.ap_eUn, Math.ap_eBin, Math.ap_eAnd, Math.ap_eOr, Math.ap_eNot, Math.ap_mE, Math.ap_mNot, Math.ap_mAnd, Math.ap_mOr, Math.ap_eIf, Math.ap_aNil, Math.ap_aCons, Math.ap_dNil, Math.ap_dCons, Math.ap_eTup, Math.ap_cLst, Math.ap_eFr, Math.ap_eIx, Math.ap_eSl, Math.ap_cList, Math.ap_eCall, Math.ap_cCall, Math.ap_mSeq, Math.ap_mNil, Math.ap_mSet, Math.ap_mSetC, Math.ap_mRet, Math.ap_mRetN, Math.ap_mRetL, Math.ap_mDrop, Math.ap_mIf, Math.ap_mNever, Math.ap_mPar, Math.ap_mPar3, Math.ap_mPut, Math.ap_mApp, Math.ap_mTo, Math.ap_mYes, Math.ap_iSq, Math.ap_iZp, Math.ap_iEn, Math.ap_mRetC, Math.ap_eCh, Math.ap_noPart, Math.ap_aPart, Math.ap_eSlice, Math.ap_mkF, Math.ap_mkC, Mir.env0, Mir.fin, Mir.finC, Mir.thenDo, Mir.toFl, Mir.wipeE, Mir.itemsOf, Mir.orBad, Mir.gNm, Mir.gTp, Mir.gNms, Mir.Out.bind, Mir.gIx, Mir.seqOf, Mir.gLen, Mir.gTuple, Mir.gAbs, Mir.gInt, Mir.gCmp, Mir.gI, Mir.gAdd, Mir.gSub, Mir.gNeg, Mir.gBols, Mir.gInts, Mir.gChain, Mir.nxO, Mir.putAt, Mir.appAt, Mir.isC, L2.atI, L2.ixN, Math.eIsi_tuple, Math.eIsi_int, Math.eIsi_bool, Math.gEq_int, Math.gEq_bool, Mir.gMulA, hc]
end Math
/-! # k01: what the program makes of rows and grids -/
namespace Math
open PySem Mir Fn
theorem do3' {s : Sto} {xs ys : List PyData} : iZp (eVar 0) (eVar 1) [some (.d (.tuple xs)), some (.d (.tuple ys)), none, none] s = .ok (zipD xs ys) s := by
  simp -implicitDefEqProofs [Math.ap_eVar, Math.ap_lVar, Math.ap_eC, Math.ap_eL, Math.ap_eUn, Math.ap_eBin, Math.ap_eAnd, Math.ap_eOr, Math.ap_eNot, Math.ap_mE, Math.ap_mNot, Math.ap_mAnd, Math.ap_mOr, Math.ap_eIf, Math.ap_aNil, Math.ap_aCons, Math.ap_dNil, Math.ap_dCons, Math.ap_eTup, Math.ap_cLst, Math.ap_eFr, Math.ap_eIx, Math.ap_eSl, Math.ap_cList, Math.ap_eCall, Math.ap_cCall, Math.ap_mSeq, Math.ap_mNil, Math.ap_mSet, Math.ap_mSetC, Math.ap_mRet, Math.ap_mRetN, Math.ap_mRetL, Math.ap_mDrop, Math.ap_mIf, Math.ap_mNever, Math.ap_mPar, Math.ap_mPar3, Math.ap_mPut, Math.ap_mApp, Math.ap_mTo, Math.ap_mYes, Math.ap_iSq, Math.ap_iZp, Math.ap_iEn, Math.ap_mRetC, Math.ap_eCh, Math.ap_noPart, Math.ap_aPart, Math.ap_eSlice, Math.ap_mkF, Math.ap_mkC, Mir.env0, Mir.fin, Mir.finC, Mir.thenDo, Mir.toFl, Mir.wipeE, Mir.itemsOf, Mir.orBad, Mir.gNm, Mir.gTp, Mir.gNms, Mir.Out.bind, Mir.gIx, Mir.seqOf, Mir.gLen, Mir.gTuple, Mir.gAbs, Mir.gInt, Mir.gCmp, Mir.gI, Mir.gAdd, Mir.gSub, Mir.gNeg, Mir.gBols, Mir.gInts, Mir.gChain, Mir.nxO, Mir.putAt, Mir.appAt, Mir.isC, L2.atI, L2.ixN, Math.eIsi_tuple, Math.eIsi_int, Math.eIsi_bool, Math.gEq_int, Math.gEq_bool]
theorem dot_rows {s : Sto} {r c : List Int} (hr : ∀ x ∈ r, Few x) (hl : r.length ≤ 1000) : run_plain_dot [.d (rowD r), .d (rowD c)] s = .ok (.int (dot r c)) s := by
  apply do1
  unfold cComp
  have hz := zipD_length (r.map .int) (c.map .int)
  rw [List.length_map] at hz
  have e3 : iZp (eVar 0) (eVar 1) [some (.d (rowD r)), some (.d (rowD c)), none, none] s = .ok (zipD (r.map .int) (c.map .int)) s := do3'
  rw [e3, Out.bind_ok, if_pos (by omega)]
  have q := zip_comp (i := 2) (j := 3) (fe := eBin Mir.gMulA (eVar 2) (eVar 3)) (ρ := wipeE [some (.d (rowD r)), some (.d (rowD c)), none, none] [2, 3]) (s := s) (g := PyData.int) (g' := PyData.int) (f := fun a b => PyData.int (a * b)) r c fun a ha b hb => by
    have h := hr a ha
    exact do2 (by unfold Few at h; omega)
  rw [q]
  congr 1
  rw [List.map_zipWith]
theorem le1 {s : Sto} {a x : PyData} {rs ys : List PyData} (c : cComp (iSq (eIx (lVar 0) (eC (.int 1)))) (gNm 2) mYes (eCall 2 run_plain_dot (aCons (lVar 2) (aCons (lVar 1) aNil))) [2] [some (.d (.tuple [a, .tuple rs])), some (.d x), none] s = .ok ys s) :
    run_plain_led [.d (.tuple [a, .tuple rs]), .d x] s = .ok (.tuple ys) s := by
  simp -implicitDefEqProofs [Math.ap_eVar, Math.ap_lVar, Math.ap_eC, Math.ap_eL, Math.ap_eUn, Math.ap_eBin, Math.ap_eAnd, Math.ap_eOr, Math.ap_eNot, Math.ap_mE, Math.ap_mNot, Math.ap_mAnd, Math.ap_mOr, Math.ap_eIf, Math.ap_aNil, Math.ap_aCons, Math.ap_dNil, Math.ap_dCons, Math.ap_eTup, Math.ap_cLst, Math.ap_eFr, Math.ap_eIx, Math.ap_eSl, Math.ap_cList, Math.ap_eCall, Math.ap_cCall, Math.ap_mSeq, Math.ap_mNil, Math.ap_mSet, Math.ap_mSetC, Math.ap_mRet, Math.ap_mRetN, Math.ap_mRetL, Math.ap_mDrop, Math.ap_mIf, Math.ap_mNever, Math.ap_mPar, Math.ap_mPar3, Math.ap_mPut, Math.ap_mApp, Math.ap_mTo, Math.ap_mYes, Math.ap_iSq, Math.ap_iZp, Math.ap_iEn, Math.ap_mRetC, Math.ap_eCh, Math.ap_noPart, Math.ap_aPart, Math.ap_eSlice, Math.ap_mkF, Math.ap_mkC, Mir.env0, Mir.fin, Mir.finC, Mir.thenDo, Mir.toFl, Mir.wipeE, Mir.itemsOf, Mir.orBad, Mir.gNm, Mir.gTp, Mir.gNms, Mir.Out.bind, Mir.gIx, Mir.seqOf, Mir.gLen, Mir.gTuple, Mir.gAbs, Mir.gInt, Mir.gCmp, Mir.gI, Mir.gAdd, Mir.gSub, Mir.gNeg, Mir.gBols, Mir.gInts, Mir.gChain, Mir.nxO, Mir.putAt, Mir.appAt, Mir.isC, L2.atI, L2.ixN, Math.eIsi_tuple, Math.eIsi_int, Math.eIsi_bool, Math.gEq_int, Math.gEq_bool, run_plain_led, c]
theorem le3 {s : Sto} {x d e h : PyData} (q : run_plain_dot [.d d, .d e] s = .ok h s) : eCall 2 run_plain_dot (aCons (lVar 2) (aCons (lVar 1) aNil)) [some (.d x), some (.d e), some (.d d)] s = .ok h s := by
  simp -implicitDefEqProofs [Math.ap_eVar, Math.ap_lVar, Math.ap_eC, Math.ap_eL, Math.ap_eUn, Math.ap_eBin, Math.ap_eAnd, Math.ap_eOr, Math.ap_eNot, Math.ap_mE, Math.ap_mNot, Math.ap_mAnd, Math.ap_mOr, Math.ap_eIf, Math.ap_aNil, Math.ap_aCons, Math.ap_dNil, Math.ap_dCons, Math.ap_eTup, Math.ap_cLst, Math.ap_eFr, Math.ap_eIx, Math.ap_eSl, Math.ap_cList, Math.ap_eCall, Math.ap_cCall, Math.ap_mSeq, Math.ap_mNil, Math.ap_mSet, Math.ap_mSetC, Math.ap_mRet, Math.ap_mRetN, Math.ap_mRetL, Math.ap_mDrop, Math.ap_mIf, Math.ap_mNever, Math.ap_mPar, Math.ap_mPar3, Math.ap_mPut, Math.ap_mApp, Math.ap_mTo, Math.ap_mYes, Math.ap_iSq, Math.ap_iZp, Math.ap_iEn, Math.ap_mRetC, Math.ap_eCh, Math.ap_noPart, Math.ap_aPart, Math.ap_eSlice, Math.ap_mkF, Math.ap_mkC, Mir.env0, Mir.fin, Mir.finC, Mir.thenDo, Mir.toFl, Mir.wipeE, Mir.itemsOf, Mir.orBad, Mir.gNm, Mir.gTp, Mir.gNms, Mir.Out.bind, Mir.gIx, Mir.seqOf, Mir.gLen, Mir.gTuple, Mir.gAbs, Mir.gInt, Mir.gCmp, Mir.gI, Mir.gAdd, Mir.gSub, Mir.gNeg, Mir.gBols, Mir.gInts, Mir.gChain, Mir.nxO, Mir.putAt, Mir.appAt, Mir.isC, L2.atI, L2.ixN, Math.eIsi_tuple, Math.eIsi_int, Math.eIsi_bool, Math.gEq_int, Math.gEq_bool, q]
theorem plain_led {s : Sto} {w : Nat} {A : List (List Int)} {x : List Int} (ga : GridOk w A) : run_plain_led [.d (grid_D w A), .d (rowD x)] s = .ok (rowD (lead A x)) s := by
  have hw := ga.wide
  have hh := ga.high
  have c := comp_mapL (it := iSq (eIx (lVar 0) (eC (.int 1)))) (k := 2) (fe := eCall 2 run_plain_dot (aCons (lVar 2) (aCons (lVar 1) aNil))) (ρ := [some (.d (.tuple [.int (w : Int), .tuple (A.map rowD)])), some (.d (rowD x)), none]) (s := s)
    rowD (fun r => .int (dot r x)) A rfl (by omega) fun r hr => le3 (dot_rows (ga.few r hr) (by rw [ga.len r hr]; omega))
  have q := le1 c
  unfold grid_D
  rw [q]
  unfold lead rowD
  rw [List.map_map]
  rfl
theorem check_row (v : PyData) (s : Sto) (h : isRow v = true) : run_check_row [.d v] s = .ok .none s := by
  simp -implicitDefEqProofs [Math.ap_eVar, Math.ap_lVar, Math.ap_eC, Math.ap_eL, Math.ap_eUn, Math.ap_eBin, Math.ap_eAnd, Math.ap_eOr, Math.ap_eNot, Math.ap_mE, Math.ap_mNot, Math.ap_mAnd, Math.ap_mOr, Math.ap_eIf, Math.ap_aNil, Math.ap_aCons, Math.ap_dNil, Math.ap_dCons, Math.ap_eTup, Math.ap_cLst, Math.ap_eFr, Math.ap_eIx, Math.ap_eSl, Math.ap_cList, Math.ap_eCall, Math.ap_cCall, Math.ap_mSeq, Math.ap_mNil, Math.ap_mSet, Math.ap_mSetC, Math.ap_mRet, Math.ap_mRetN, Math.ap_mRetL, Math.ap_mDrop, Math.ap_mIf, Math.ap_mNever, Math.ap_mPar, Math.ap_mPar3, Math.ap_mPut, Math.ap_mApp, Math.ap_mTo, Math.ap_mYes, Math.ap_iSq, Math.ap_iZp, Math.ap_iEn, Math.ap_mRetC, Math.ap_eCh, Math.ap_noPart, Math.ap_aPart, Math.ap_eSlice, Math.ap_mkF, Math.ap_mkC, Mir.env0, Mir.fin, Mir.finC, Mir.thenDo, Mir.toFl, Mir.wipeE, Mir.itemsOf, Mir.orBad, Mir.gNm, Mir.gTp, Mir.gNms, Mir.Out.bind, Mir.gIx, Mir.seqOf, Mir.gLen, Mir.gTuple, Mir.gAbs, Mir.gInt, Mir.gCmp, Mir.gI, Mir.gAdd, Mir.gSub, Mir.gNeg, Mir.gBols, Mir.gInts, Mir.gChain, Mir.nxO, Mir.putAt, Mir.appAt, Mir.isC, L2.atI, L2.ixN, Math.eIsi_tuple, Math.eIsi_int, Math.eIsi_bool, Math.gEq_int, Math.gEq_bool, run_check_row, row, h]
theorem check_rows {s : Sto} {xs ys : List PyData} (h : isRow (.tuple xs) = true) (h2 : isRow (.tuple ys) = true) (hl : xs.length = ys.length) : run_check_rows [.d (.tuple xs), .d (.tuple ys)] s = .ok .none s := by
  simp -implicitDefEqProofs [Math.ap_eVar, Math.ap_lVar, Math.ap_eC, Math.ap_eL, Math.ap_eUn, Math.ap_eBin, Math.ap_eAnd, Math.ap_eOr, Math.ap_eNot, Math.ap_mE, Math.ap_mNot, Math.ap_mAnd, Math.ap_mOr, Math.ap_eIf, Math.ap_aNil, Math.ap_aCons, Math.ap_dNil, Math.ap_dCons, Math.ap_eTup, Math.ap_cLst, Math.ap_eFr, Math.ap_eIx, Math.ap_eSl, Math.ap_cList, Math.ap_eCall, Math.ap_cCall, Math.ap_mSeq, Math.ap_mNil, Math.ap_mSet, Math.ap_mSetC, Math.ap_mRet, Math.ap_mRetN, Math.ap_mRetL, Math.ap_mDrop, Math.ap_mIf, Math.ap_mNever, Math.ap_mPar, Math.ap_mPar3, Math.ap_mPut, Math.ap_mApp, Math.ap_mTo, Math.ap_mYes, Math.ap_iSq, Math.ap_iZp, Math.ap_iEn, Math.ap_mRetC, Math.ap_eCh, Math.ap_noPart, Math.ap_aPart, Math.ap_eSlice, Math.ap_mkF, Math.ap_mkC, Mir.env0, Mir.fin, Mir.finC, Mir.thenDo, Mir.toFl, Mir.wipeE, Mir.itemsOf, Mir.orBad, Mir.gNm, Mir.gTp, Mir.gNms, Mir.Out.bind, Mir.gIx, Mir.seqOf, Mir.gLen, Mir.gTuple, Mir.gAbs, Mir.gInt, Mir.gCmp, Mir.gI, Mir.gAdd, Mir.gSub, Mir.gNeg, Mir.gBols, Mir.gInts, Mir.gChain, Mir.nxO, Mir.putAt, Mir.appAt, Mir.isC, L2.atI, L2.ixN, Math.eIsi_tuple, Math.eIsi_int, Math.eIsi_bool, Math.gEq_int, Math.gEq_bool, run_check_rows, check_row, h, h2, check_fit_ok, hl]
theorem ld1 {s : Sto} {a : Int} {rs xs : List PyData} {h : PyData} (h1 : isGrid (.tuple [.int a, .tuple rs]) = true) (h2 : isRow (.tuple xs) = true) (hl : (xs.length : Int) = a) (e : run_plain_led [.d (.tuple [.int a, .tuple rs]), .d (.tuple xs)] s = .ok h s) :
    run_led [.d (.tuple [.int a, .tuple rs]), .d (.tuple xs)] s = .ok h s := by
  simp -implicitDefEqProofs [Math.ap_eVar, Math.ap_lVar, Math.ap_eC, Math.ap_eL, Math.ap_eUn, Math.ap_eBin, Math.ap_eAnd, Math.ap_eOr, Math.ap_eNot, Math.ap_mE, Math.ap_mNot, Math.ap_mAnd, Math.ap_mOr, Math.ap_eIf, Math.ap_aNil, Math.ap_aCons, Math.ap_dNil, Math.ap_dCons, Math.ap_eTup, Math.ap_cLst, Math.ap_eFr, Math.ap_eIx, Math.ap_eSl, Math.ap_cList, Math.ap_eCall, Math.ap_cCall, Math.ap_mSeq, Math.ap_mNil, Math.ap_mSet, Math.ap_mSetC, Math.ap_mRet, Math.ap_mRetN, Math.ap_mRetL, Math.ap_mDrop, Math.ap_mIf, Math.ap_mNever, Math.ap_mPar, Math.ap_mPar3, Math.ap_mPut, Math.ap_mApp, Math.ap_mTo, Math.ap_mYes, Math.ap_iSq, Math.ap_iZp, Math.ap_iEn, Math.ap_mRetC, Math.ap_eCh, Math.ap_noPart, Math.ap_aPart, Math.ap_eSlice, Math.ap_mkF, Math.ap_mkC, Mir.env0, Mir.fin, Mir.finC, Mir.thenDo, Mir.toFl, Mir.wipeE, Mir.itemsOf, Mir.orBad, Mir.gNm, Mir.gTp, Mir.gNms, Mir.Out.bind, Mir.gIx, Mir.seqOf, Mir.gLen, Mir.gTuple, Mir.gAbs, Mir.gInt, Mir.gCmp, Mir.gI, Mir.gAdd, Mir.gSub, Mir.gNeg, Mir.gBols, Mir.gInts, Mir.gChain, Mir.nxO, Mir.putAt, Mir.appAt, Mir.isC, L2.atI, L2.ixN, Math.eIsi_tuple, Math.eIsi_int, Math.eIsi_bool, Math.gEq_int, Math.gEq_bool, run_led, check_grid _ _ h1, check_row _ _ h2, check_fit_ok, eq_true hl, e]
/-- a row as the document tells -/
structure RowOk (w : Nat) (r : List Int) : Prop where
  len : r.length = w
  wide : w ≤ 60
  few : ∀ x ∈ r, Few x
theorem RowOk.is {w : Nat} {r : List Int} (h : RowOk w r) : isRow (rowD r) = true := isRow_rowD (by rw [h.len]; exact h.wide) h.few
theorem led {s : Sto} {w : Nat} {A : List (List Int)} {x : List Int} (ga : GridOk w A) (gx : RowOk w x) : run_led [.d (grid_D w A), .d (rowD x)] s = .ok (rowD (lead A x)) s :=
  ld1 ga.is gx.is (by rw [List.length_map, gx.len]) (plain_led ga)
theorem re1 {s : Sto} {g t x h : PyData} (e1 : run_plain_turned [.d g] s = .ok t s) (e2 : run_plain_led [.d t, .d x] s = .ok h s) : run_plain_read [.d x, .d g] s = .ok h s := by
  simp -implicitDefEqProofs [Math.ap_eVar, Math.ap_lVar, Math.ap_eC, Math.ap_eL, Math.ap_eUn, Math.ap_eBin, Math.ap_eAnd, Math.ap_eOr, Math.ap_eNot, Math.ap_mE, Math.ap_mNot, Math.ap_mAnd, Math.ap_mOr, Math.ap_eIf, Math.ap_aNil, Math.ap_aCons, Math.ap_dNil, Math.ap_dCons, Math.ap_eTup, Math.ap_cLst, Math.ap_eFr, Math.ap_eIx, Math.ap_eSl, Math.ap_cList, Math.ap_eCall, Math.ap_cCall, Math.ap_mSeq, Math.ap_mNil, Math.ap_mSet, Math.ap_mSetC, Math.ap_mRet, Math.ap_mRetN, Math.ap_mRetL, Math.ap_mDrop, Math.ap_mIf, Math.ap_mNever, Math.ap_mPar, Math.ap_mPar3, Math.ap_mPut, Math.ap_mApp, Math.ap_mTo, Math.ap_mYes, Math.ap_iSq, Math.ap_iZp, Math.ap_iEn, Math.ap_mRetC, Math.ap_eCh, Math.ap_noPart, Math.ap_aPart, Math.ap_eSlice, Math.ap_mkF, Math.ap_mkC, Mir.env0, Mir.fin, Mir.finC, Mir.thenDo, Mir.toFl, Mir.wipeE, Mir.itemsOf, Mir.orBad, Mir.gNm, Mir.gTp, Mir.gNms, Mir.Out.bind, Mir.gIx, Mir.seqOf, Mir.gLen, Mir.gTuple, Mir.gAbs, Mir.gInt, Mir.gCmp, Mir.gI, Mir.gAdd, Mir.gSub, Mir.gNeg, Mir.gBols, Mir.gInts, Mir.gChain, Mir.nxO, Mir.putAt, Mir.appAt, Mir.isC, L2.atI, L2.ixN, Math.eIsi_tuple, Math.eIsi_int, Math.eIsi_bool, Math.gEq_int, Math.gEq_bool, run_plain_read, e1, e2]
theorem rb1 {s : Sto} {a : Int} {rs xs : List PyData} {h : PyData} (h1 : isGrid (.tuple [.int a, .tuple rs]) = true) (h2 : isRow (.tuple xs) = true) (hl : xs.length = rs.length) (e : run_plain_read [.d (.tuple xs), .d (.tuple [.int a, .tuple rs])] s = .ok h s) :
    run_read_by [.d (.tuple xs), .d (.tuple [.int a, .tuple rs])] s = .ok h s := by
  simp -implicitDefEqProofs [Math.ap_eVar, Math.ap_lVar, Math.ap_eC, Math.ap_eL, Math.ap_eUn, Math.ap_eBin, Math.ap_eAnd, Math.ap_eOr, Math.ap_eNot, Math.ap_mE, Math.ap_mNot, Math.ap_mAnd, Math.ap_mOr, Math.ap_eIf, Math.ap_aNil, Math.ap_aCons, Math.ap_dNil, Math.ap_dCons, Math.ap_eTup, Math.ap_cLst, Math.ap_eFr, Math.ap_eIx, Math.ap_eSl, Math.ap_cList, Math.ap_eCall, Math.ap_cCall, Math.ap_mSeq, Math.ap_mNil, Math.ap_mSet, Math.ap_mSetC, Math.ap_mRet, Math.ap_mRetN, Math.ap_mRetL, Math.ap_mDrop, Math.ap_mIf, Math.ap_mNever, Math.ap_mPar, Math.ap_mPar3, Math.ap_mPut, Math.ap_mApp, Math.ap_mTo, Math.ap_mYes, Math.ap_iSq, Math.ap_iZp, Math.ap_iEn, Math.ap_mRetC, Math.ap_eCh, Math.ap_noPart, Math.ap_aPart, Math.ap_eSlice, Math.ap_mkF, Math.ap_mkC, Mir.env0, Mir.fin, Mir.finC, Mir.thenDo, Mir.toFl, Mir.wipeE, Mir.itemsOf, Mir.orBad, Mir.gNm, Mir.gTp, Mir.gNms, Mir.Out.bind, Mir.gIx, Mir.seqOf, Mir.gLen, Mir.gTuple, Mir.gAbs, Mir.gInt, Mir.gCmp, Mir.gI, Mir.gAdd, Mir.gSub, Mir.gNeg, Mir.gBols, Mir.gInts, Mir.gChain, Mir.nxO, Mir.putAt, Mir.appAt, Mir.isC, L2.atI, L2.ixN, Math.eIsi_tuple, Math.eIsi_int, Math.eIsi_bool, Math.gEq_int, Math.gEq_bool, run_read_by, check_grid _ _ h1, check_row _ _ h2, check_fit_ok, hl, e]
theorem read_by {s : Sto} {w : Nat} {A : List (List Int)} {y : List Int} (ga : GridOk w A) (gy : RowOk A.length y) : run_read_by [.d (rowD y), .d (grid_D w A)] s = .ok (rowD (lead (cols A w) y)) s :=
  rb1 ga.is gy.is (by rw [List.length_map, List.length_map, gy.len]) (re1 (plain_turned ga) (plain_led ga.turned))
theorem dt1 {s : Sto} {xs ys : List PyData} {h : PyData} (h1 : run_check_rows [.d (.tuple xs), .d (.tuple ys)] s = .ok .none s) (e : run_plain_dot [.d (.tuple xs), .d (.tuple ys)] s = .ok h s) : run_dot [.d (.tuple xs), .d (.tuple ys)] s = .ok h s := by
  simp -implicitDefEqProofs [Math.ap_eVar, Math.ap_lVar, Math.ap_eC, Math.ap_eL, Math.ap_eUn, Math.ap_eBin, Math.ap_eAnd, Math.ap_eOr, Math.ap_eNot, Math.ap_mE, Math.ap_mNot, Math.ap_mAnd, Math.ap_mOr, Math.ap_eIf, Math.ap_aNil, Math.ap_aCons, Math.ap_dNil, Math.ap_dCons, Math.ap_eTup, Math.ap_cLst, Math.ap_eFr, Math.ap_eIx, Math.ap_eSl, Math.ap_cList, Math.ap_eCall, Math.ap_cCall, Math.ap_mSeq, Math.ap_mNil, Math.ap_mSet, Math.ap_mSetC, Math.ap_mRet, Math.ap_mRetN, Math.ap_mRetL, Math.ap_mDrop, Math.ap_mIf, Math.ap_mNever, Math.ap_mPar, Math.ap_mPar3, Math.ap_mPut, Math.ap_mApp, Math.ap_mTo, Math.ap_mYes, Math.ap_iSq, Math.ap_iZp, Math.ap_iEn, Math.ap_mRetC, Math.ap_eCh, Math.ap_noPart, Math.ap_aPart, Math.ap_eSlice, Math.ap_mkF, Math.ap_mkC, Mir.env0, Mir.fin, Mir.finC, Mir.thenDo, Mir.toFl, Mir.wipeE, Mir.itemsOf, Mir.orBad, Mir.gNm, Mir.gTp, Mir.gNms, Mir.Out.bind, Mir.gIx, Mir.seqOf, Mir.gLen, Mir.gTuple, Mir.gAbs, Mir.gInt, Mir.gCmp, Mir.gI, Mir.gAdd, Mir.gSub, Mir.gNeg, Mir.gBols, Mir.gInts, Mir.gChain, Mir.nxO, Mir.putAt, Mir.appAt, Mir.isC, L2.atI, L2.ixN, Math.eIsi_tuple, Math.eIsi_int, Math.eIsi_bool, Math.gEq_int, Math.gEq_bool, run_dot, h1, e]
theorem dot_call {s : Sto} {w : Nat} {r c : List Int} (hr : RowOk w r) (hc : RowOk w c) : run_dot [.d (rowD r), .d (rowD c)] s = .ok (.int (dot r c)) s := by
  have := hr.wide
  exact dt1 (check_rows hr.is hc.is (by rw [List.length_map, List.length_map, hr.len, hc.len])) (dot_rows hr.few (by rw [hr.len]; omega))
theorem zip_rows {s : Sto} {r c : List Int} {fe : ME} {f : Int → Int → Int} {x y : PyData} (i j : Nat) {ρ : Mir.Env} {it : MD} (hi : it ρ s = .ok (zipD (r.map .int) (c.map .int)) s) (hl : r.length ≤ 1000) (he : ∀ a ∈ r, ∀ b ∈ c, fe (((wipeE ρ [i, j]).set i (some (.d (.int a)))).set j (some (.d (.int b)))) s = .ok (.int (f a b)) s) :
    cComp it (gTp [i, j]) mYes fe [i, j] ρ s = .ok ((List.zipWith f r c).map .int) s := by
  have hz := zipD_length (r.map .int) (c.map .int)
  rw [List.length_map] at hz
  unfold cComp
  rw [hi, Out.bind_ok, if_pos (by omega), zip_comp (i := i) (j := j) (fe := fe) (ρ := wipeE ρ [i, j]) (s := s) (g := PyData.int) (g' := PyData.int) (f := fun a b => PyData.int (f a b)) r c he, List.map_zipWith]
theorem add23 {s : Sto} {x y : PyData} {a b : Int} : eBin gAdd (eVar 2) (eVar 3) [some (.d x), some (.d y), some (.d (.int a)), some (.d (.int b))] s = .ok (.int (a + b)) s := by
  simp -implicitDefEqProofs [Math.ap_eVar, Math.ap_lVar, Math.ap_eC, Math.ap_eL, Math.ap_eUn, Math.ap_eBin, Math.ap_eAnd, Math.ap_eOr, Math.ap_eNot, Math.ap_mE, Math.ap_mNot, Math.ap_mAnd, Math.ap_mOr, Math.ap_eIf, Math.ap_aNil, Math.ap_aCons, Math.ap_dNil, Math.ap_dCons, Math.ap_eTup, Math.ap_cLst, Math.ap_eFr, Math.ap_eIx, Math.ap_eSl, Math.ap_cList, Math.ap_eCall, Math.ap_cCall, Math.ap_mSeq, Math.ap_mNil, Math.ap_mSet, Math.ap_mSetC, Math.ap_mRet, Math.ap_mRetN, Math.ap_mRetL, Math.ap_mDrop, Math.ap_mIf, Math.ap_mNever, Math.ap_mPar, Math.ap_mPar3, Math.ap_mPut, Math.ap_mApp, Math.ap_mTo, Math.ap_mYes, Math.ap_iSq, Math.ap_iZp, Math.ap_iEn, Math.ap_mRetC, Math.ap_eCh, Math.ap_noPart, Math.ap_aPart, Math.ap_eSlice, Math.ap_mkF, Math.ap_mkC, Mir.env0, Mir.fin, Mir.finC, Mir.thenDo, Mir.toFl, Mir.wipeE, Mir.itemsOf, Mir.orBad, Mir.gNm, Mir.gTp, Mir.gNms, Mir.Out.bind, Mir.gIx, Mir.seqOf, Mir.gLen, Mir.gTuple, Mir.gAbs, Mir.gInt, Mir.gCmp, Mir.gI, Mir.gAdd, Mir.gSub, Mir.gNeg, Mir.gBols, Mir.gInts, Mir.gChain, Mir.nxO, Mir.putAt, Mir.appAt, Mir.isC, L2.atI, L2.ixN, Math.eIsi_tuple, Math.eIsi_int, Math.eIsi_bool, Math.gEq_int, Math.gEq_bool]
theorem sub23 {s : Sto} {x y : PyData} {a b : Int} : eBin gSub (eVar 2) (eVar 3) [some (.d x), some (.d y), some (.d (.int a)), some (.d (.int b))] s = .ok (.int (a - b)) s := by
  simp -implicitDefEqProofs [Math.ap_eVar, Math.ap_lVar, Math.ap_eC, Math.ap_eL, Math.ap_eUn, Math.ap_eBin, Math.ap_eAnd, Math.ap_eOr, Math.ap_eNot, Math.ap_mE, Math.ap_mNot, Math.ap_mAnd, Math.ap_mOr, Math.ap_eIf, Math.ap_aNil, Math.ap_aCons, Math.ap_dNil, Math.ap_dCons, Math.ap_eTup, Math.ap_cLst, Math.ap_eFr, Math.ap_eIx, Math.ap_eSl, Math.ap_cList, Math.ap_eCall, Math.ap_cCall, Math.ap_mSeq, Math.ap_mNil, Math.ap_mSet, Math.ap_mSetC, Math.ap_mRet, Math.ap_mRetN, Math.ap_mRetL, Math.ap_mDrop, Math.ap_mIf, Math.ap_mNever, Math.ap_mPar, Math.ap_mPar3, Math.ap_mPut, Math.ap_mApp, Math.ap_mTo, Math.ap_mYes, Math.ap_iSq, Math.ap_iZp, Math.ap_iEn, Math.ap_mRetC, Math.ap_eCh, Math.ap_noPart, Math.ap_aPart, Math.ap_eSlice, Math.ap_mkF, Math.ap_mkC, Mir.env0, Mir.fin, Mir.finC, Mir.thenDo, Mir.toFl, Mir.wipeE, Mir.itemsOf, Mir.orBad, Mir.gNm, Mir.gTp, Mir.gNms, Mir.Out.bind, Mir.gIx, Mir.seqOf, Mir.gLen, Mir.gTuple, Mir.gAbs, Mir.gInt, Mir.gCmp, Mir.gI, Mir.gAdd, Mir.gSub, Mir.gNeg, Mir.gBols, Mir.gInts, Mir.gChain, Mir.nxO, Mir.putAt, Mir.appAt, Mir.isC, L2.atI, L2.ixN, Math.eIsi_tuple, Math.eIsi_int, Math.eIsi_bool, Math.gEq_int, Math.gEq_bool]
theorem rm1 {s : Sto} {x y : PyData} {zs : List PyData} (c : cComp (iZp (eVar 0) (eVar 1)) (gTp [2, 3]) mYes (eBin gAdd (eVar 2) (eVar 3)) [2, 3] [some (.d x), some (.d y), none, none] s = .ok zs s) : run_row_more [.d x, .d y] s = .ok (.tuple zs) s := by
  simp -implicitDefEqProofs [Math.ap_eVar, Math.ap_lVar, Math.ap_eC, Math.ap_eL, Math.ap_eUn, Math.ap_eBin, Math.ap_eAnd, Math.ap_eOr, Math.ap_eNot, Math.ap_mE, Math.ap_mNot, Math.ap_mAnd, Math.ap_mOr, Math.ap_eIf, Math.ap_aNil, Math.ap_aCons, Math.ap_dNil, Math.ap_dCons, Math.ap_eTup, Math.ap_cLst, Math.ap_eFr, Math.ap_eIx, Math.ap_eSl, Math.ap_cList, Math.ap_eCall, Math.ap_cCall, Math.ap_mSeq, Math.ap_mNil, Math.ap_mSet, Math.ap_mSetC, Math.ap_mRet, Math.ap_mRetN, Math.ap_mRetL, Math.ap_mDrop, Math.ap_mIf, Math.ap_mNever, Math.ap_mPar, Math.ap_mPar3, Math.ap_mPut, Math.ap_mApp, Math.ap_mTo, Math.ap_mYes, Math.ap_iSq, Math.ap_iZp, Math.ap_iEn, Math.ap_mRetC, Math.ap_eCh, Math.ap_noPart, Math.ap_aPart, Math.ap_eSlice, Math.ap_mkF, Math.ap_mkC, Mir.env0, Mir.fin, Mir.finC, Mir.thenDo, Mir.toFl, Mir.wipeE, Mir.itemsOf, Mir.orBad, Mir.gNm, Mir.gTp, Mir.gNms, Mir.Out.bind, Mir.gIx, Mir.seqOf, Mir.gLen, Mir.gTuple, Mir.gAbs, Mir.gInt, Mir.gCmp, Mir.gI, Mir.gAdd, Mir.gSub, Mir.gNeg, Mir.gBols, Mir.gInts, Mir.gChain, Mir.nxO, Mir.putAt, Mir.appAt, Mir.isC, L2.atI, L2.ixN, Math.eIsi_tuple, Math.eIsi_int, Math.eIsi_bool, Math.gEq_int, Math.gEq_bool, run_row_more, c]
theorem rl1 {s : Sto} {x y : PyData} {zs : List PyData} (c : cComp (iZp (eVar 0) (eVar 1)) (gTp [2, 3]) mYes (eBin gSub (eVar 2) (eVar 3)) [2, 3] [some (.d x), some (.d y), none, none] s = .ok zs s) : run_row_less [.d x, .d y] s = .ok (.tuple zs) s := by
  simp -implicitDefEqProofs [Math.ap_eVar, Math.ap_lVar, Math.ap_eC, Math.ap_eL, Math.ap_eUn, Math.ap_eBin, Math.ap_eAnd, Math.ap_eOr, Math.ap_eNot, Math.ap_mE, Math.ap_mNot, Math.ap_mAnd, Math.ap_mOr, Math.ap_eIf, Math.ap_aNil, Math.ap_aCons, Math.ap_dNil, Math.ap_dCons, Math.ap_eTup, Math.ap_cLst, Math.ap_eFr, Math.ap_eIx, Math.ap_eSl, Math.ap_cList, Math.ap_eCall, Math.ap_cCall, Math.ap_mSeq, Math.ap_mNil, Math.ap_mSet, Math.ap_mSetC, Math.ap_mRet, Math.ap_mRetN, Math.ap_mRetL, Math.ap_mDrop, Math.ap_mIf, Math.ap_mNever, Math.ap_mPar, Math.ap_mPar3, Math.ap_mPut, Math.ap_mApp, Math.ap_mTo, Math.ap_mYes, Math.ap_iSq, Math.ap_iZp, Math.ap_iEn, Math.ap_mRetC, Math.ap_eCh, Math.ap_noPart, Math.ap_aPart, Math.ap_eSlice, Math.ap_mkF, Math.ap_mkC, Mir.env0, Mir.fin, Mir.finC, Mir.thenDo, Mir.toFl, Mir.wipeE, Mir.itemsOf, Mir.orBad, Mir.gNm, Mir.gTp, Mir.gNms, Mir.Out.bind, Mir.gIx, Mir.seqOf, Mir.gLen, Mir.gTuple, Mir.gAbs, Mir.gInt, Mir.gCmp, Mir.gI, Mir.gAdd, Mir.gSub, Mir.gNeg, Mir.gBols, Mir.gInts, Mir.gChain, Mir.nxO, Mir.putAt, Mir.appAt, Mir.isC, L2.atI, L2.ixN, Math.eIsi_tuple, Math.eIsi_int, Math.eIsi_bool, Math.gEq_int, Math.gEq_bool, run_row_less, c]
theorem rs1 {s : Sto} {xs ys : List PyData} {h : PyData} (h1 : run_check_rows [.d (.tuple xs), .d (.tuple ys)] s = .ok .none s) (e : run_row_more [.d (.tuple xs), .d (.tuple ys)] s = .ok h s) : run_row_sum [.d (.tuple xs), .d (.tuple ys)] s = .ok h s := by
  simp -implicitDefEqProofs [Math.ap_eVar, Math.ap_lVar, Math.ap_eC, Math.ap_eL, Math.ap_eUn, Math.ap_eBin, Math.ap_eAnd, Math.ap_eOr, Math.ap_eNot, Math.ap_mE, Math.ap_mNot, Math.ap_mAnd, Math.ap_mOr, Math.ap_eIf, Math.ap_aNil, Math.ap_aCons, Math.ap_dNil, Math.ap_dCons, Math.ap_eTup, Math.ap_cLst, Math.ap_eFr, Math.ap_eIx, Math.ap_eSl, Math.ap_cList, Math.ap_eCall, Math.ap_cCall, Math.ap_mSeq, Math.ap_mNil, Math.ap_mSet, Math.ap_mSetC, Math.ap_mRet, Math.ap_mRetN, Math.ap_mRetL, Math.ap_mDrop, Math.ap_mIf, Math.ap_mNever, Math.ap_mPar, Math.ap_mPar3, Math.ap_mPut, Math.ap_mApp, Math.ap_mTo, Math.ap_mYes, Math.ap_iSq, Math.ap_iZp, Math.ap_iEn, Math.ap_mRetC, Math.ap_eCh, Math.ap_noPart, Math.ap_aPart, Math.ap_eSlice, Math.ap_mkF, Math.ap_mkC, Mir.env0, Mir.fin, Mir.finC, Mir.thenDo, Mir.toFl, Mir.wipeE, Mir.itemsOf, Mir.orBad, Mir.gNm, Mir.gTp, Mir.gNms, Mir.Out.bind, Mir.gIx, Mir.seqOf, Mir.gLen, Mir.gTuple, Mir.gAbs, Mir.gInt, Mir.gCmp, Mir.gI, Mir.gAdd, Mir.gSub, Mir.gNeg, Mir.gBols, Mir.gInts, Mir.gChain, Mir.nxO, Mir.putAt, Mir.appAt, Mir.isC, L2.atI, L2.ixN, Math.eIsi_tuple, Math.eIsi_int, Math.eIsi_bool, Math.gEq_int, Math.gEq_bool, run_row_sum, h1, e]
theorem rd1 {s : Sto} {xs ys : List PyData} {h : PyData} (h1 : run_check_rows [.d (.tuple xs), .d (.tuple ys)] s = .ok .none s) (e : run_row_less [.d (.tuple xs), .d (.tuple ys)] s = .ok h s) : run_row_difference [.d (.tuple xs), .d (.tuple ys)] s = .ok h s := by
  simp -implicitDefEqProofs [Math.ap_eVar, Math.ap_lVar, Math.ap_eC, Math.ap_eL, Math.ap_eUn, Math.ap_eBin, Math.ap_eAnd, Math.ap_eOr, Math.ap_eNot, Math.ap_mE, Math.ap_mNot, Math.ap_mAnd, Math.ap_mOr, Math.ap_eIf, Math.ap_aNil, Math.ap_aCons, Math.ap_dNil, Math.ap_dCons, Math.ap_eTup, Math.ap_cLst, Math.ap_eFr, Math.ap_eIx, Math.ap_eSl, Math.ap_cList, Math.ap_eCall, Math.ap_cCall, Math.ap_mSeq, Math.ap_mNil, Math.ap_mSet, Math.ap_mSetC, Math.ap_mRet, Math.ap_mRetN, Math.ap_mRetL, Math.ap_mDrop, Math.ap_mIf, Math.ap_mNever, Math.ap_mPar, Math.ap_mPar3, Math.ap_mPut, Math.ap_mApp, Math.ap_mTo, Math.ap_mYes, Math.ap_iSq, Math.ap_iZp, Math.ap_iEn, Math.ap_mRetC, Math.ap_eCh, Math.ap_noPart, Math.ap_aPart, Math.ap_eSlice, Math.ap_mkF, Math.ap_mkC, Mir.env0, Mir.fin, Mir.finC, Mir.thenDo, Mir.toFl, Mir.wipeE, Mir.itemsOf, Mir.orBad, Mir.gNm, Mir.gTp, Mir.gNms, Mir.Out.bind, Mir.gIx, Mir.seqOf, Mir.gLen, Mir.gTuple, Mir.gAbs, Mir.gInt, Mir.gCmp, Mir.gI, Mir.gAdd, Mir.gSub, Mir.gNeg, Mir.gBols, Mir.gInts, Mir.gChain, Mir.nxO, Mir.putAt, Mir.appAt, Mir.isC, L2.atI, L2.ixN, Math.eIsi_tuple, Math.eIsi_int, Math.eIsi_bool, Math.gEq_int, Math.gEq_bool, run_row_difference, h1, e]
theorem row_sum {s : Sto} {w : Nat} {r c : List Int} (hr : RowOk w r) (hc : RowOk w c) : run_row_sum [.d (rowD r), .d (rowD c)] s = .ok (rowD (List.zipWith (· + ·) r c)) s := by
  have := hr.wide
  exact rs1 (check_rows hr.is hc.is (by rw [List.length_map, List.length_map, hr.len, hc.len])) (rm1 (zip_rows (x := .none) (y := .none) 2 3 do3' (by rw [hr.len]; omega) fun a _ b _ => add23))
theorem row_difference {s : Sto} {w : Nat} {r c : List Int} (hr : RowOk w r) (hc : RowOk w c) : run_row_difference [.d (rowD r), .d (rowD c)] s = .ok (rowD (List.zipWith (· - ·) r c)) s := by
  have := hr.wide
  exact rd1 (check_rows hr.is hc.is (by rw [List.length_map, List.length_map, hr.len, hc.len])) (rl1 (zip_rows (x := .none) (y := .none) 2 3 do3' (by rw [hr.len]; omega) fun a _ b _ => sub23))
theorem check_integer {s : Sto} {n : Int} (h : Few n) : run_check_integer [.d (.int n)] s = .ok .none s := by
  have e : isShort (.int n) = true := decide_eq_true h
  simp -implicitDefEqProofs [Math.ap_eVar, Math.ap_lVar, Math.ap_eC, Math.ap_eL, Math.ap_eUn, Math.ap_eBin, Math.ap_eAnd, Math.ap_eOr, Math.ap_eNot, Math.ap_mE, Math.ap_mNot, Math.ap_mAnd, Math.ap_mOr, Math.ap_eIf, Math.ap_aNil, Math.ap_aCons, Math.ap_dNil, Math.ap_dCons, Math.ap_eTup, Math.ap_cLst, Math.ap_eFr, Math.ap_eIx, Math.ap_eSl, Math.ap_cList, Math.ap_eCall, Math.ap_cCall, Math.ap_mSeq, Math.ap_mNil, Math.ap_mSet, Math.ap_mSetC, Math.ap_mRet, Math.ap_mRetN, Math.ap_mRetL, Math.ap_mDrop, Math.ap_mIf, Math.ap_mNever, Math.ap_mPar, Math.ap_mPar3, Math.ap_mPut, Math.ap_mApp, Math.ap_mTo, Math.ap_mYes, Math.ap_iSq, Math.ap_iZp, Math.ap_iEn, Math.ap_mRetC, Math.ap_eCh, Math.ap_noPart, Math.ap_aPart, Math.ap_eSlice, Math.ap_mkF, Math.ap_mkC, Mir.env0, Mir.fin, Mir.finC, Mir.thenDo, Mir.toFl, Mir.wipeE, Mir.itemsOf, Mir.orBad, Mir.gNm, Mir.gTp, Mir.gNms, Mir.Out.bind, Mir.gIx, Mir.seqOf, Mir.gLen, Mir.gTuple, Mir.gAbs, Mir.gInt, Mir.gCmp, Mir.gI, Mir.gAdd, Mir.gSub, Mir.gNeg, Mir.gBols, Mir.gInts, Mir.gChain, Mir.nxO, Mir.putAt, Mir.appAt, Mir.isC, L2.atI, L2.ixN, Math.eIsi_tuple, Math.eIsi_int, Math.eIsi_bool, Math.gEq_int, Math.gEq_bool, run_check_integer, integer, e]
theorem ml1 {s : Sto} {x : PyData} {n : Int} {ys : List PyData} (h1 : isRow x = true) (h2 : run_check_integer [.d (.int n)] s = .ok .none s) (c : cComp (iSq (eVar 0)) (gNm 2) mYes (eBin Mir.gMulA (eVar 1) (eVar 2)) [2] [some (.d x), some (.d (.int n)), none] s = .ok ys s) :
    run_row_multiple [.d x, .d (.int n)] s = .ok (.tuple ys) s := by
  simp -implicitDefEqProofs [Math.ap_eVar, Math.ap_lVar, Math.ap_eC, Math.ap_eL, Math.ap_eUn, Math.ap_eBin, Math.ap_eAnd, Math.ap_eOr, Math.ap_eNot, Math.ap_mE, Math.ap_mNot, Math.ap_mAnd, Math.ap_mOr, Math.ap_eIf, Math.ap_aNil, Math.ap_aCons, Math.ap_dNil, Math.ap_dCons, Math.ap_eTup, Math.ap_cLst, Math.ap_eFr, Math.ap_eIx, Math.ap_eSl, Math.ap_cList, Math.ap_eCall, Math.ap_cCall, Math.ap_mSeq, Math.ap_mNil, Math.ap_mSet, Math.ap_mSetC, Math.ap_mRet, Math.ap_mRetN, Math.ap_mRetL, Math.ap_mDrop, Math.ap_mIf, Math.ap_mNever, Math.ap_mPar, Math.ap_mPar3, Math.ap_mPut, Math.ap_mApp, Math.ap_mTo, Math.ap_mYes, Math.ap_iSq, Math.ap_iZp, Math.ap_iEn, Math.ap_mRetC, Math.ap_eCh, Math.ap_noPart, Math.ap_aPart, Math.ap_eSlice, Math.ap_mkF, Math.ap_mkC, Mir.env0, Mir.fin, Mir.finC, Mir.thenDo, Mir.toFl, Mir.wipeE, Mir.itemsOf, Mir.orBad, Mir.gNm, Mir.gTp, Mir.gNms, Mir.Out.bind, Mir.gIx, Mir.seqOf, Mir.gLen, Mir.gTuple, Mir.gAbs, Mir.gInt, Mir.gCmp, Mir.gI, Mir.gAdd, Mir.gSub, Mir.gNeg, Mir.gBols, Mir.gInts, Mir.gChain, Mir.nxO, Mir.putAt, Mir.appAt, Mir.isC, L2.atI, L2.ixN, Math.eIsi_tuple, Math.eIsi_int, Math.eIsi_bool, Math.gEq_int, Math.gEq_bool, run_row_multiple, check_row _ _ h1, h2, c]
theorem ml2 {s : Sto} {x : PyData} {n a : Int} (h : Few n) : eBin Mir.gMulA (eVar 1) (eVar 2) [some (.d x), some (.d (.int n)), some (.d (.int a))] s = .ok (.int (n * a)) s := by
  have hc : CMulB n a := .inl (by unfold Few at h; omega)
  simp -implicitDefEqProofs [Math.ap_eVar, Math.ap_lVar, Math.ap_eC, Math.ap_eL, Math.ap_eUn, Math.ap_eBin, Math.ap_eAnd, Math.ap_eOr, Math.ap_eNot, Math.ap_mE, Math.ap_mNot, Math.ap_mAnd, Math.ap_mOr, Math.ap_eIf, Math.ap_aNil, Math.ap_aCons, Math.ap_dNil, Math.ap_dCons, Math.ap_eTup, Math.ap_cLst, Math.ap_eFr, Math.ap_eIx, Math.ap_eSl, Math.ap_cList, Math.ap_eCall, Math.ap_cCall, Math.ap_mSeq, Math.ap_mNil, Math.ap_mSet, Math.ap_mSetC, Math.ap_mRet, Math.ap_mRetN, Math.ap_mRetL, Math.ap_mDrop, Math.ap_mIf, Math.ap_mNever, Math.ap_mPar, Math.ap_mPar3, Math.ap_mPut, Math.ap_mApp, Math.ap_mTo, Math.ap_mYes, Math.ap_iSq, Math.ap_iZp, Math.ap_iEn, Math.ap_mRetC, Math.ap_eCh, Math.ap_noPart, Math.ap_aPart, Math.ap_eSlice, Math.ap_mkF, Math.ap_mkC, Mir.env0, Mir.fin, Mir.finC, Mir.thenDo, Mir.toFl, Mir.wipeE, Mir.itemsOf, Mir.orBad, Mir.gNm, Mir.gTp, Mir.gNms, Mir.Out.bind, Mir.gIx, Mir.seqOf, Mir.gLen, Mir.gTuple, Mir.gAbs, Mir.gInt, Mir.gCmp, Mir.gI, Mir.gAdd, Mir.gSub, Mir.gNeg, Mir.gBols, Mir.gInts, Mir.gChain, Mir.nxO, Mir.putAt, Mir.appAt, Mir.isC, L2.atI, L2.ixN, Math.eIsi_tuple, Math.eIsi_int, Math.eIsi_bool, Math.gEq_int, Math.gEq_bool, Mir.gMulA, hc]
theorem row_multiple {s : Sto} {w : Nat} {r : List Int} {n : Int} (hr : RowOk w r) (hn : Few n) : run_row_multiple [.d (rowD r), .d (.int n)] s = .ok (rowD (r.map (n * ·))) s := by
  have := hr.wide
  have c := comp_mapL (it := iSq (eVar 0)) (k := 2) (fe := eBin Mir.gMulA (eVar 1) (eVar 2)) (ρ := [some (.d (rowD r)), some (.d (.int n)), none]) (s := s) PyData.int (fun a => .int (n * a)) r rfl (by rw [hr.len]; omega) fun a _ => ml2 hn
  rw [ml1 hr.is (check_integer hn) c]
  unfold rowD
  rw [List.map_map]
  rfl
end Math
/-! # k01: sums and multiples of grids -/
namespace Math
open PySem Mir Fn
theorem pm1 {s : Sto} {a : PyData} {n : Int} {rs ys : List PyData} {h : PyData}
    (c : cComp (iSq (eIx (lVar 0) (eC (.int 1)))) (gNm 2) mYes (eFr (cComp (iSq (eVar 2)) (gNm 3) mYes (eBin Mir.gMulA (eVar 1) (eVar 3)) [3])) [2] [some (.d (.tuple [a, .tuple rs])), some (.d (.int n)), none, none] s = .ok ys s)
    (e : run_plain_grid [.d (.list ys), .d a] s = .ok h s) : run_plain_multiple [.d (.tuple [a, .tuple rs]), .d (.int n)] s = .ok h s := by
  simp -implicitDefEqProofs [Math.ap_eVar, Math.ap_lVar, Math.ap_eC, Math.ap_eL, Math.ap_eUn, Math.ap_eBin, Math.ap_eAnd, Math.ap_eOr, Math.ap_eNot, Math.ap_mE, Math.ap_mNot, Math.ap_mAnd, Math.ap_mOr, Math.ap_eIf, Math.ap_aNil, Math.ap_aCons, Math.ap_dNil, Math.ap_dCons, Math.ap_eTup, Math.ap_cLst, Math.ap_eFr, Math.ap_eIx, Math.ap_eSl, Math.ap_cList, Math.ap_eCall, Math.ap_cCall, Math.ap_mSeq, Math.ap_mNil, Math.ap_mSet, Math.ap_mSetC, Math.ap_mRet, Math.ap_mRetN, Math.ap_mRetL, Math.ap_mDrop, Math.ap_mIf, Math.ap_mNever, Math.ap_mPar, Math.ap_mPar3, Math.ap_mPut, Math.ap_mApp, Math.ap_mTo, Math.ap_mYes, Math.ap_iSq, Math.ap_iZp, Math.ap_iEn, Math.ap_mRetC, Math.ap_eCh, Math.ap_noPart, Math.ap_aPart, Math.ap_eSlice, Math.ap_mkF, Math.ap_mkC, Mir.env0, Mir.fin, Mir.finC, Mir.thenDo, Mir.toFl, Mir.wipeE, Mir.itemsOf, Mir.orBad, Mir.gNm, Mir.gTp, Mir.gNms, Mir.Out.bind, Mir.gIx, Mir.seqOf, Mir.gLen, Mir.gTuple, Mir.gAbs, Mir.gInt, Mir.gCmp, Mir.gI, Mir.gAdd, Mir.gSub, Mir.gNeg, Mir.gBols, Mir.gInts, Mir.gChain, Mir.nxO, Mir.putAt, Mir.appAt, Mir.isC, L2.atI, L2.ixN, Math.eIsi_tuple, Math.eIsi_int, Math.eIsi_bool, Math.gEq_int, Math.gEq_bool, run_plain_multiple, c, e]
theorem pm2 {s : Sto} {x n d : PyData} {ys : List PyData} (c : cComp (iSq (eVar 2)) (gNm 3) mYes (eBin Mir.gMulA (eVar 1) (eVar 3)) [3] [some (.d x), some (.d n), some (.d d), none] s = .ok ys s) :
    eFr (cComp (iSq (eVar 2)) (gNm 3) mYes (eBin Mir.gMulA (eVar 1) (eVar 3)) [3]) [some (.d x), some (.d n), some (.d d), none] s = .ok (.list ys) s := by
  simp -implicitDefEqProofs [Math.ap_eVar, Math.ap_lVar, Math.ap_eC, Math.ap_eL, Math.ap_eUn, Math.ap_eBin, Math.ap_eAnd, Math.ap_eOr, Math.ap_eNot, Math.ap_mE, Math.ap_mNot, Math.ap_mAnd, Math.ap_mOr, Math.ap_eIf, Math.ap_aNil, Math.ap_aCons, Math.ap_dNil, Math.ap_dCons, Math.ap_eTup, Math.ap_cLst, Math.ap_eFr, Math.ap_eIx, Math.ap_eSl, Math.ap_cList, Math.ap_eCall, Math.ap_cCall, Math.ap_mSeq, Math.ap_mNil, Math.ap_mSet, Math.ap_mSetC, Math.ap_mRet, Math.ap_mRetN, Math.ap_mRetL, Math.ap_mDrop, Math.ap_mIf, Math.ap_mNever, Math.ap_mPar, Math.ap_mPar3, Math.ap_mPut, Math.ap_mApp, Math.ap_mTo, Math.ap_mYes, Math.ap_iSq, Math.ap_iZp, Math.ap_iEn, Math.ap_mRetC, Math.ap_eCh, Math.ap_noPart, Math.ap_aPart, Math.ap_eSlice, Math.ap_mkF, Math.ap_mkC, Mir.env0, Mir.fin, Mir.finC, Mir.thenDo, Mir.toFl, Mir.wipeE, Mir.itemsOf, Mir.orBad, Mir.gNm, Mir.gTp, Mir.gNms, Mir.Out.bind, Mir.gIx, Mir.seqOf, Mir.gLen, Mir.gTuple, Mir.gAbs, Mir.gInt, Mir.gCmp, Mir.gI, Mir.gAdd, Mir.gSub, Mir.gNeg, Mir.gBols, Mir.gInts, Mir.gChain, Mir.nxO, Mir.putAt, Mir.appAt, Mir.isC, L2.atI, L2.ixN, Math.eIsi_tuple, Math.eIsi_int, Math.eIsi_bool, Math.gEq_int, Math.gEq_bool, c]
theorem pm3 {s : Sto} {x y : PyData} {n a : Int} (h : Few n) : eBin Mir.gMulA (eVar 1) (eVar 3) [some (.d x), some (.d (.int n)), some (.d y), some (.d (.int a))] s = .ok (.int (n * a)) s := by
  have hc : CMulB n a := .inl (by unfold Few at h; omega)
  simp -implicitDefEqProofs [Math.ap_eVar, Math.ap_lVar, Math.ap_eC, Math.ap_eL, Math.ap_eUn, Math.ap_eBin, Math.ap_eAnd, Math.ap_eOr, Math.ap_eNot, Math.ap_mE, Math.ap_mNot, Math.ap_mAnd, Math.ap_mOr, Math.ap_eIf, Math.ap_aNil, Math.ap_aCons, Math.ap_dNil, Math.ap_dCons, Math.ap_eTup, Math.ap_cLst, Math.ap_eFr, Math.ap_eIx, Math.ap_eSl, Math.ap_cList, Math.ap_eCall, Math.ap_cCall, Math.ap_mSeq, Math.ap_mNil, Math.ap_mSet, Math.ap_mSetC, Math.ap_mRet, Math.ap_mRetN, Math.ap_mRetL, Math.ap_mDrop, Math.ap_mIf, Math.ap_mNever, Math.ap_mPar, Math.ap_mPar3, Math.ap_mPut, Math.ap_mApp, Math.ap_mTo, Math.ap_mYes, Math.ap_iSq, Math.ap_iZp, Math.ap_iEn, Math.ap_mRetC, Math.ap_eCh, Math.ap_noPart, Math.ap_aPart, Math.ap_eSlice, Math.ap_mkF, Math.ap_mkC, Mir.env0, Mir.fin, Mir.finC, Mir.thenDo, Mir.toFl, Mir.wipeE, Mir.itemsOf, Mir.orBad, Mir.gNm, Mir.gTp, Mir.gNms, Mir.Out.bind, Mir.gIx, Mir.seqOf, Mir.gLen, Mir.gTuple, Mir.gAbs, Mir.gInt, Mir.gCmp, Mir.gI, Mir.gAdd, Mir.gSub, Mir.gNeg, Mir.gBols, Mir.gInts, Mir.gChain, Mir.nxO, Mir.putAt, Mir.appAt, Mir.isC, L2.atI, L2.ixN, Math.eIsi_tuple, Math.eIsi_int, Math.eIsi_bool, Math.gEq_int, Math.gEq_bool, Mir.gMulA, hc]
theorem plain_multiple {s : Sto} {w : Nat} {A : List (List Int)} {n : Int} (ga : GridOk w A) (hn : Few n) : run_plain_multiple [.d (grid_D w A), .d (.int n)] s = .ok (grid_D w (scaledG n A)) s := by
  have hw := ga.wide
  have hh := ga.high
  have c := comp_mapL (it := iSq (eIx (lVar 0) (eC (.int 1)))) (k := 2) (fe := eFr (cComp (iSq (eVar 2)) (gNm 3) mYes (eBin Mir.gMulA (eVar 1) (eVar 3)) [3])) (ρ := [some (.d (.tuple [.int (w : Int), .tuple (A.map rowD)])), some (.d (.int n)), none, none]) (s := s)
    rowD (fun r => rowL (r.map (n * ·))) A rfl (by omega) fun r hr => by
    refine pm2 ?_
    have q := comp_mapL (it := iSq (eVar 2)) (k := 3) (fe := eBin Mir.gMulA (eVar 1) (eVar 3)) (ρ := [some (.d (.tuple [.int (w : Int), .tuple (A.map rowD)])), some (.d (.int n)), some (.d (rowD r)), none]) (s := s) PyData.int (fun a => .int (n * a)) r rfl (by rw [ga.len r hr]; omega) fun a _ => pm3 hn
    rw [q, List.map_map]
    rfl
  have e : A.map (fun r => rowL (r.map (n * ·))) = (scaledG n A).map rowL := by
    unfold scaledG
    rw [List.map_map]
    rfl
  rw [e] at c
  exact pm1 c (plain_gridL (by simp [scaledG]; omega))
theorem pd1 {s : Sto} {a b : PyData} {xs ys ps ds : List PyData} {h : PyData}
    (c1 : cComp (iZp (eIx (lVar 0) (eC (.int 1))) (eIx (lVar 1) (eC (.int 1)))) (gTp [3, 4]) mYes (eFr (iZp (eVar 3) (eVar 4))) [3, 4] [some (.d (.tuple [a, .tuple xs])), some (.d (.tuple [b, .tuple ys])), none, none, none, none, none, none] s = .ok ps s)
    (c2 : cComp (iSq (eVar 2)) (gNm 5) mYes (eFr (cComp (iSq (eVar 5)) (gTp [6, 7]) mYes (eBin gSub (eVar 6) (eVar 7)) [6, 7])) [5] [some (.d (.tuple [a, .tuple xs])), some (.d (.tuple [b, .tuple ys])), some (.d (.list ps)), none, none, none, none, none] s = .ok ds s)
    (e : run_plain_grid [.d (.list ds), .d a] s = .ok h s) : run_plain_difference [.d (.tuple [a, .tuple xs]), .d (.tuple [b, .tuple ys])] s = .ok h s := by
  simp -implicitDefEqProofs [Math.ap_eVar, Math.ap_lVar, Math.ap_eC, Math.ap_eL, Math.ap_eUn, Math.ap_eBin, Math.ap_eAnd, Math.ap_eOr, Math.ap_eNot, Math.ap_mE, Math.ap_mNot, Math.ap_mAnd, Math.ap_mOr, Math.ap_eIf, Math.ap_aNil, Math.ap_aCons, Math.ap_dNil, Math.ap_dCons, Math.ap_eTup, Math.ap_cLst, Math.ap_eFr, Math.ap_eIx, Math.ap_eSl, Math.ap_cList, Math.ap_eCall, Math.ap_cCall, Math.ap_mSeq, Math.ap_mNil, Math.ap_mSet, Math.ap_mSetC, Math.ap_mRet, Math.ap_mRetN, Math.ap_mRetL, Math.ap_mDrop, Math.ap_mIf, Math.ap_mNever, Math.ap_mPar, Math.ap_mPar3, Math.ap_mPut, Math.ap_mApp, Math.ap_mTo, Math.ap_mYes, Math.ap_iSq, Math.ap_iZp, Math.ap_iEn, Math.ap_mRetC, Math.ap_eCh, Math.ap_noPart, Math.ap_aPart, Math.ap_eSlice, Math.ap_mkF, Math.ap_mkC, Mir.env0, Mir.fin, Mir.finC, Mir.thenDo, Mir.toFl, Mir.wipeE, Mir.itemsOf, Mir.orBad, Mir.gNm, Mir.gTp, Mir.gNms, Mir.Out.bind, Mir.gIx, Mir.seqOf, Mir.gLen, Mir.gTuple, Mir.gAbs, Mir.gInt, Mir.gCmp, Mir.gI, Mir.gAdd, Mir.gSub, Mir.gNeg, Mir.gBols, Mir.gInts, Mir.gChain, Mir.nxO, Mir.putAt, Mir.appAt, Mir.isC, L2.atI, L2.ixN, Math.eIsi_tuple, Math.eIsi_int, Math.eIsi_bool, Math.gEq_int, Math.gEq_bool, run_plain_difference, c1, c2, e]
theorem pd2 {s : Sto} {x y : PyData} {t : Option Sl} {r l : List PyData} : eFr (iZp (eVar 3) (eVar 4)) [some (.d x), some (.d y), t, some (.d (.tuple r)), some (.d (.tuple l)), none, none, none] s = .ok (.list (zipD r l)) s := by
  simp -implicitDefEqProofs [Math.ap_eVar, Math.ap_lVar, Math.ap_eC, Math.ap_eL, Math.ap_eUn, Math.ap_eBin, Math.ap_eAnd, Math.ap_eOr, Math.ap_eNot, Math.ap_mE, Math.ap_mNot, Math.ap_mAnd, Math.ap_mOr, Math.ap_eIf, Math.ap_aNil, Math.ap_aCons, Math.ap_dNil, Math.ap_dCons, Math.ap_eTup, Math.ap_cLst, Math.ap_eFr, Math.ap_eIx, Math.ap_eSl, Math.ap_cList, Math.ap_eCall, Math.ap_cCall, Math.ap_mSeq, Math.ap_mNil, Math.ap_mSet, Math.ap_mSetC, Math.ap_mRet, Math.ap_mRetN, Math.ap_mRetL, Math.ap_mDrop, Math.ap_mIf, Math.ap_mNever, Math.ap_mPar, Math.ap_mPar3, Math.ap_mPut, Math.ap_mApp, Math.ap_mTo, Math.ap_mYes, Math.ap_iSq, Math.ap_iZp, Math.ap_iEn, Math.ap_mRetC, Math.ap_eCh, Math.ap_noPart, Math.ap_aPart, Math.ap_eSlice, Math.ap_mkF, Math.ap_mkC, Mir.env0, Mir.fin, Mir.finC, Mir.thenDo, Mir.toFl, Mir.wipeE, Mir.itemsOf, Mir.orBad, Mir.gNm, Mir.gTp, Mir.gNms, Mir.Out.bind, Mir.gIx, Mir.seqOf, Mir.gLen, Mir.gTuple, Mir.gAbs, Mir.gInt, Mir.gCmp, Mir.gI, Mir.gAdd, Mir.gSub, Mir.gNeg, Mir.gBols, Mir.gInts, Mir.gChain, Mir.nxO, Mir.putAt, Mir.appAt, Mir.isC, L2.atI, L2.ixN, Math.eIsi_tuple, Math.eIsi_int, Math.eIsi_bool, Math.gEq_int, Math.gEq_bool]
theorem pd3 {s : Sto} {x y p d : PyData} {ys : List PyData} (c : cComp (iSq (eVar 5)) (gTp [6, 7]) mYes (eBin gSub (eVar 6) (eVar 7)) [6, 7] [some (.d x), some (.d y), some (.d p), none, none, some (.d d), none, none] s = .ok ys s) :
    eFr (cComp (iSq (eVar 5)) (gTp [6, 7]) mYes (eBin gSub (eVar 6) (eVar 7)) [6, 7]) [some (.d x), some (.d y), some (.d p), none, none, some (.d d), none, none] s = .ok (.list ys) s := by
  simp -implicitDefEqProofs [Math.ap_eVar, Math.ap_lVar, Math.ap_eC, Math.ap_eL, Math.ap_eUn, Math.ap_eBin, Math.ap_eAnd, Math.ap_eOr, Math.ap_eNot, Math.ap_mE, Math.ap_mNot, Math.ap_mAnd, Math.ap_mOr, Math.ap_eIf, Math.ap_aNil, Math.ap_aCons, Math.ap_dNil, Math.ap_dCons, Math.ap_eTup, Math.ap_cLst, Math.ap_eFr, Math.ap_eIx, Math.ap_eSl, Math.ap_cList, Math.ap_eCall, Math.ap_cCall, Math.ap_mSeq, Math.ap_mNil, Math.ap_mSet, Math.ap_mSetC, Math.ap_mRet, Math.ap_mRetN, Math.ap_mRetL, Math.ap_mDrop, Math.ap_mIf, Math.ap_mNever, Math.ap_mPar, Math.ap_mPar3, Math.ap_mPut, Math.ap_mApp, Math.ap_mTo, Math.ap_mYes, Math.ap_iSq, Math.ap_iZp, Math.ap_iEn, Math.ap_mRetC, Math.ap_eCh, Math.ap_noPart, Math.ap_aPart, Math.ap_eSlice, Math.ap_mkF, Math.ap_mkC, Mir.env0, Mir.fin, Mir.finC, Mir.thenDo, Mir.toFl, Mir.wipeE, Mir.itemsOf, Mir.orBad, Mir.gNm, Mir.gTp, Mir.gNms, Mir.Out.bind, Mir.gIx, Mir.seqOf, Mir.gLen, Mir.gTuple, Mir.gAbs, Mir.gInt, Mir.gCmp, Mir.gI, Mir.gAdd, Mir.gSub, Mir.gNeg, Mir.gBols, Mir.gInts, Mir.gChain, Mir.nxO, Mir.putAt, Mir.appAt, Mir.isC, L2.atI, L2.ixN, Math.eIsi_tuple, Math.eIsi_int, Math.eIsi_bool, Math.gEq_int, Math.gEq_bool, c]
theorem pd4 {s : Sto} {x y p d : PyData} {a b : Int} : eBin gSub (eVar 6) (eVar 7) [some (.d x), some (.d y), some (.d p), none, none, some (.d d), some (.d (.int a)), some (.d (.int b))] s = .ok (.int (a - b)) s := by
  simp -implicitDefEqProofs [Math.ap_eVar, Math.ap_lVar, Math.ap_eC, Math.ap_eL, Math.ap_eUn, Math.ap_eBin, Math.ap_eAnd, Math.ap_eOr, Math.ap_eNot, Math.ap_mE, Math.ap_mNot, Math.ap_mAnd, Math.ap_mOr, Math.ap_eIf, Math.ap_aNil, Math.ap_aCons, Math.ap_dNil, Math.ap_dCons, Math.ap_eTup, Math.ap_cLst, Math.ap_eFr, Math.ap_eIx, Math.ap_eSl, Math.ap_cList, Math.ap_eCall, Math.ap_cCall, Math.ap_mSeq, Math.ap_mNil, Math.ap_mSet, Math.ap_mSetC, Math.ap_mRet, Math.ap_mRetN, Math.ap_mRetL, Math.ap_mDrop, Math.ap_mIf, Math.ap_mNever, Math.ap_mPar, Math.ap_mPar3, Math.ap_mPut, Math.ap_mApp, Math.ap_mTo, Math.ap_mYes, Math.ap_iSq, Math.ap_iZp, Math.ap_iEn, Math.ap_mRetC, Math.ap_eCh, Math.ap_noPart, Math.ap_aPart, Math.ap_eSlice, Math.ap_mkF, Math.ap_mkC, Mir.env0, Mir.fin, Mir.finC, Mir.thenDo, Mir.toFl, Mir.wipeE, Mir.itemsOf, Mir.orBad, Mir.gNm, Mir.gTp, Mir.gNms, Mir.Out.bind, Mir.gIx, Mir.seqOf, Mir.gLen, Mir.gTuple, Mir.gAbs, Mir.gInt, Mir.gCmp, Mir.gI, Mir.gAdd, Mir.gSub, Mir.gNeg, Mir.gBols, Mir.gInts, Mir.gChain, Mir.nxO, Mir.putAt, Mir.appAt, Mir.isC, L2.atI, L2.ixN, Math.eIsi_tuple, Math.eIsi_int, Math.eIsi_bool, Math.gEq_int, Math.gEq_bool]
theorem pd5 {s : Sto} {x y p : PyData} {ds : List PyData} : iSq (eVar 5) [some (.d x), some (.d y), some (.d p), none, none, some (.d (.list ds)), none, none] s = .ok ds s := by
  simp -implicitDefEqProofs [Math.ap_eVar, Math.ap_lVar, Math.ap_eC, Math.ap_eL, Math.ap_eUn, Math.ap_eBin, Math.ap_eAnd, Math.ap_eOr, Math.ap_eNot, Math.ap_mE, Math.ap_mNot, Math.ap_mAnd, Math.ap_mOr, Math.ap_eIf, Math.ap_aNil, Math.ap_aCons, Math.ap_dNil, Math.ap_dCons, Math.ap_eTup, Math.ap_cLst, Math.ap_eFr, Math.ap_eIx, Math.ap_eSl, Math.ap_cList, Math.ap_eCall, Math.ap_cCall, Math.ap_mSeq, Math.ap_mNil, Math.ap_mSet, Math.ap_mSetC, Math.ap_mRet, Math.ap_mRetN, Math.ap_mRetL, Math.ap_mDrop, Math.ap_mIf, Math.ap_mNever, Math.ap_mPar, Math.ap_mPar3, Math.ap_mPut, Math.ap_mApp, Math.ap_mTo, Math.ap_mYes, Math.ap_iSq, Math.ap_iZp, Math.ap_iEn, Math.ap_mRetC, Math.ap_eCh, Math.ap_noPart, Math.ap_aPart, Math.ap_eSlice, Math.ap_mkF, Math.ap_mkC, Mir.env0, Mir.fin, Mir.finC, Mir.thenDo, Mir.toFl, Mir.wipeE, Mir.itemsOf, Mir.orBad, Mir.gNm, Mir.gTp, Mir.gNms, Mir.Out.bind, Mir.gIx, Mir.seqOf, Mir.gLen, Mir.gTuple, Mir.gAbs, Mir.gInt, Mir.gCmp, Mir.gI, Mir.gAdd, Mir.gSub, Mir.gNeg, Mir.gBols, Mir.gInts, Mir.gChain, Mir.nxO, Mir.putAt, Mir.appAt, Mir.isC, L2.atI, L2.ixN, Math.eIsi_tuple, Math.eIsi_int, Math.eIsi_bool, Math.gEq_int, Math.gEq_bool]
theorem pd6 {s : Sto} {a b : PyData} {xs ys : List PyData} : iZp (eIx (lVar 0) (eC (.int 1))) (eIx (lVar 1) (eC (.int 1))) [some (.d (.tuple [a, .tuple xs])), some (.d (.tuple [b, .tuple ys])), none, none, none, none, none, none] s = .ok (zipD xs ys) s := by
  simp -implicitDefEqProofs [Math.ap_eVar, Math.ap_lVar, Math.ap_eC, Math.ap_eL, Math.ap_eUn, Math.ap_eBin, Math.ap_eAnd, Math.ap_eOr, Math.ap_eNot, Math.ap_mE, Math.ap_mNot, Math.ap_mAnd, Math.ap_mOr, Math.ap_eIf, Math.ap_aNil, Math.ap_aCons, Math.ap_dNil, Math.ap_dCons, Math.ap_eTup, Math.ap_cLst, Math.ap_eFr, Math.ap_eIx, Math.ap_eSl, Math.ap_cList, Math.ap_eCall, Math.ap_cCall, Math.ap_mSeq, Math.ap_mNil, Math.ap_mSet, Math.ap_mSetC, Math.ap_mRet, Math.ap_mRetN, Math.ap_mRetL, Math.ap_mDrop, Math.ap_mIf, Math.ap_mNever, Math.ap_mPar, Math.ap_mPar3, Math.ap_mPut, Math.ap_mApp, Math.ap_mTo, Math.ap_mYes, Math.ap_iSq, Math.ap_iZp, Math.ap_iEn, Math.ap_mRetC, Math.ap_eCh, Math.ap_noPart, Math.ap_aPart, Math.ap_eSlice, Math.ap_mkF, Math.ap_mkC, Mir.env0, Mir.fin, Mir.finC, Mir.thenDo, Mir.toFl, Mir.wipeE, Mir.itemsOf, Mir.orBad, Mir.gNm, Mir.gTp, Mir.gNms, Mir.Out.bind, Mir.gIx, Mir.seqOf, Mir.gLen, Mir.gTuple, Mir.gAbs, Mir.gInt, Mir.gCmp, Mir.gI, Mir.gAdd, Mir.gSub, Mir.gNeg, Mir.gBols, Mir.gInts, Mir.gChain, Mir.nxO, Mir.putAt, Mir.appAt, Mir.isC, L2.atI, L2.ixN, Math.eIsi_tuple, Math.eIsi_int, Math.eIsi_bool, Math.gEq_int, Math.gEq_bool]
theorem zipWith_zip {α β γ : Type} (f : α → β → γ) : ∀ (A : List α) (B : List β), (A.zip B).map (fun p => f p.1 p.2) = List.zipWith f A B
  | [], _ => by simp
  | _ :: _, [] => by simp
  | a :: A, b :: B => by
    rw [List.zip_cons_cons, List.map_cons, List.zipWith_cons_cons, zipWith_zip f A B]
theorem plain_difference {s : Sto} {w v : Nat} {A B : List (List Int)} (ga : GridOk w A) : run_plain_difference [.d (grid_D w A), .d (grid_D v B)] s = .ok (grid_D w (minusG A B)) s := by
  have hw := ga.wide
  have hh := ga.high
  let G : PyData := .tuple [.int (w : Int), .tuple (A.map rowD)]
  let G2 : PyData := .tuple [.int (v : Int), .tuple (B.map rowD)]
  have c1 : cComp (iZp (eIx (lVar 0) (eC (.int 1))) (eIx (lVar 1) (eC (.int 1)))) (gTp [3, 4]) mYes (eFr (iZp (eVar 3) (eVar 4))) [3, 4] [some (.d G), some (.d G2), none, none, none, none, none, none] s = .ok (List.zipWith (fun r l => PyData.list (zipD (r.map .int) (l.map .int))) A B) s := by
    unfold cComp
    have hz := zipD_length (A.map rowD) (B.map rowD)
    rw [List.length_map] at hz
    rw [pd6, Out.bind_ok, if_pos (by omega)]
    exact zip_comp (i := 3) (j := 4) (fe := eFr (iZp (eVar 3) (eVar 4))) (ρ := wipeE [some (.d G), some (.d G2), none, none, none, none, none, none] [3, 4]) (s := s) (g := rowD) (g' := rowD) (f := fun r l => PyData.list (zipD (r.map .int) (l.map .int))) A B fun a _ b _ => pd2
  rw [← zipWith_zip] at c1
  have c2 := comp_mapL (it := iSq (eVar 2)) (k := 5) (fe := eFr (cComp (iSq (eVar 5)) (gTp [6, 7]) mYes (eBin gSub (eVar 6) (eVar 7)) [6, 7])) (ρ := [some (.d G), some (.d G2), some (.d (.list ((A.zip B).map fun p => PyData.list (zipD (p.1.map .int) (p.2.map .int))))), none, none, none, none, none]) (s := s)
    (fun p : List Int × List Int => PyData.list (zipD (p.1.map .int) (p.2.map .int))) (fun p => rowL (List.zipWith (· - ·) p.1 p.2)) (A.zip B) rfl (by rw [List.length_zip]; omega) fun p hp => by
    refine pd3 ?_
    have hr := (List.of_mem_zip hp).1
    exact zip_rows (x := .none) (y := .none) 6 7 pd5 (by rw [ga.len _ hr]; omega) fun a _ b _ => pd4
  have e : (A.zip B).map (fun p => rowL (List.zipWith (· - ·) p.1 p.2)) = (minusG A B).map rowL := by
    unfold minusG
    rw [← zipWith_zip, List.map_map]
    rfl
  rw [e] at c2
  exact pd1 c1 c2 (plain_gridL (by simp [minusG]; omega))
theorem ps1 {s : Sto} {x y t h : PyData} (e1 : run_plain_multiple [.d y, .d (.int (-1))] s = .ok t s) (e2 : run_plain_difference [.d x, .d t] s = .ok h s) : run_plain_sum [.d x, .d y] s = .ok h s := by
  simp -implicitDefEqProofs [Math.ap_eVar, Math.ap_lVar, Math.ap_eC, Math.ap_eL, Math.ap_eUn, Math.ap_eBin, Math.ap_eAnd, Math.ap_eOr, Math.ap_eNot, Math.ap_mE, Math.ap_mNot, Math.ap_mAnd, Math.ap_mOr, Math.ap_eIf, Math.ap_aNil, Math.ap_aCons, Math.ap_dNil, Math.ap_dCons, Math.ap_eTup, Math.ap_cLst, Math.ap_eFr, Math.ap_eIx, Math.ap_eSl, Math.ap_cList, Math.ap_eCall, Math.ap_cCall, Math.ap_mSeq, Math.ap_mNil, Math.ap_mSet, Math.ap_mSetC, Math.ap_mRet, Math.ap_mRetN, Math.ap_mRetL, Math.ap_mDrop, Math.ap_mIf, Math.ap_mNever, Math.ap_mPar, Math.ap_mPar3, Math.ap_mPut, Math.ap_mApp, Math.ap_mTo, Math.ap_mYes, Math.ap_iSq, Math.ap_iZp, Math.ap_iEn, Math.ap_mRetC, Math.ap_eCh, Math.ap_noPart, Math.ap_aPart, Math.ap_eSlice, Math.ap_mkF, Math.ap_mkC, Mir.env0, Mir.fin, Mir.finC, Mir.thenDo, Mir.toFl, Mir.wipeE, Mir.itemsOf, Mir.orBad, Mir.gNm, Mir.gTp, Mir.gNms, Mir.Out.bind, Mir.gIx, Mir.seqOf, Mir.gLen, Mir.gTuple, Mir.gAbs, Mir.gInt, Mir.gCmp, Mir.gI, Mir.gAdd, Mir.gSub, Mir.gNeg, Mir.gBols, Mir.gInts, Mir.gChain, Mir.nxO, Mir.putAt, Mir.appAt, Mir.isC, L2.atI, L2.ixN, Math.eIsi_tuple, Math.eIsi_int, Math.eIsi_bool, Math.gEq_int, Math.gEq_bool, run_plain_sum, e1, e2]
theorem cl1 {s : Sto} {a b : Int} {xs ys : List PyData} (h1 : isGrid (.tuple [.int a, .tuple xs]) = true) (h2 : isGrid (.tuple [.int b, .tuple ys]) = true) (hab : a = b) (hl : xs.length = ys.length) : run_check_like [.d (.tuple [.int a, .tuple xs]), .d (.tuple [.int b, .tuple ys])] s = .ok .none s := by
  simp -implicitDefEqProofs [Math.ap_eVar, Math.ap_lVar, Math.ap_eC, Math.ap_eL, Math.ap_eUn, Math.ap_eBin, Math.ap_eAnd, Math.ap_eOr, Math.ap_eNot, Math.ap_mE, Math.ap_mNot, Math.ap_mAnd, Math.ap_mOr, Math.ap_eIf, Math.ap_aNil, Math.ap_aCons, Math.ap_dNil, Math.ap_dCons, Math.ap_eTup, Math.ap_cLst, Math.ap_eFr, Math.ap_eIx, Math.ap_eSl, Math.ap_cList, Math.ap_eCall, Math.ap_cCall, Math.ap_mSeq, Math.ap_mNil, Math.ap_mSet, Math.ap_mSetC, Math.ap_mRet, Math.ap_mRetN, Math.ap_mRetL, Math.ap_mDrop, Math.ap_mIf, Math.ap_mNever, Math.ap_mPar, Math.ap_mPar3, Math.ap_mPut, Math.ap_mApp, Math.ap_mTo, Math.ap_mYes, Math.ap_iSq, Math.ap_iZp, Math.ap_iEn, Math.ap_mRetC, Math.ap_eCh, Math.ap_noPart, Math.ap_aPart, Math.ap_eSlice, Math.ap_mkF, Math.ap_mkC, Mir.env0, Mir.fin, Mir.finC, Mir.thenDo, Mir.toFl, Mir.wipeE, Mir.itemsOf, Mir.orBad, Mir.gNm, Mir.gTp, Mir.gNms, Mir.Out.bind, Mir.gIx, Mir.seqOf, Mir.gLen, Mir.gTuple, Mir.gAbs, Mir.gInt, Mir.gCmp, Mir.gI, Mir.gAdd, Mir.gSub, Mir.gNeg, Mir.gBols, Mir.gInts, Mir.gChain, Mir.nxO, Mir.putAt, Mir.appAt, Mir.isC, L2.atI, L2.ixN, Math.eIsi_tuple, Math.eIsi_int, Math.eIsi_bool, Math.gEq_int, Math.gEq_bool, run_check_like, check_grids, h1, h2, check_fit_ok, eq_true hab, hl]
theorem check_like {s : Sto} {w : Nat} {A B : List (List Int)} (ga : GridOk w A) (gb : GridOk w B) (hl : A.length = B.length) : run_check_like [.d (grid_D w A), .d (grid_D w B)] s = .ok .none s :=
  cl1 ga.is gb.is rfl (by rw [List.length_map, List.length_map, hl])
theorem gs1 {s : Sto} {x y h : PyData} (e1 : run_check_like [.d x, .d y] s = .ok .none s) (e2 : run_plain_sum [.d x, .d y] s = .ok h s) : run_grid_sum [.d x, .d y] s = .ok h s := by
  simp -implicitDefEqProofs [Math.ap_eVar, Math.ap_lVar, Math.ap_eC, Math.ap_eL, Math.ap_eUn, Math.ap_eBin, Math.ap_eAnd, Math.ap_eOr, Math.ap_eNot, Math.ap_mE, Math.ap_mNot, Math.ap_mAnd, Math.ap_mOr, Math.ap_eIf, Math.ap_aNil, Math.ap_aCons, Math.ap_dNil, Math.ap_dCons, Math.ap_eTup, Math.ap_cLst, Math.ap_eFr, Math.ap_eIx, Math.ap_eSl, Math.ap_cList, Math.ap_eCall, Math.ap_cCall, Math.ap_mSeq, Math.ap_mNil, Math.ap_mSet, Math.ap_mSetC, Math.ap_mRet, Math.ap_mRetN, Math.ap_mRetL, Math.ap_mDrop, Math.ap_mIf, Math.ap_mNever, Math.ap_mPar, Math.ap_mPar3, Math.ap_mPut, Math.ap_mApp, Math.ap_mTo, Math.ap_mYes, Math.ap_iSq, Math.ap_iZp, Math.ap_iEn, Math.ap_mRetC, Math.ap_eCh, Math.ap_noPart, Math.ap_aPart, Math.ap_eSlice, Math.ap_mkF, Math.ap_mkC, Mir.env0, Mir.fin, Mir.finC, Mir.thenDo, Mir.toFl, Mir.wipeE, Mir.itemsOf, Mir.orBad, Mir.gNm, Mir.gTp, Mir.gNms, Mir.Out.bind, Mir.gIx, Mir.seqOf, Mir.gLen, Mir.gTuple, Mir.gAbs, Mir.gInt, Mir.gCmp, Mir.gI, Mir.gAdd, Mir.gSub, Mir.gNeg, Mir.gBols, Mir.gInts, Mir.gChain, Mir.nxO, Mir.putAt, Mir.appAt, Mir.isC, L2.atI, L2.ixN, Math.eIsi_tuple, Math.eIsi_int, Math.eIsi_bool, Math.gEq_int, Math.gEq_bool, run_grid_sum, e1, e2]
theorem gd1 {s : Sto} {x y h : PyData} (e1 : run_check_like [.d x, .d y] s = .ok .none s) (e2 : run_plain_difference [.d x, .d y] s = .ok h s) : run_grid_difference [.d x, .d y] s = .ok h s := by
  simp -implicitDefEqProofs [Math.ap_eVar, Math.ap_lVar, Math.ap_eC, Math.ap_eL, Math.ap_eUn, Math.ap_eBin, Math.ap_eAnd, Math.ap_eOr, Math.ap_eNot, Math.ap_mE, Math.ap_mNot, Math.ap_mAnd, Math.ap_mOr, Math.ap_eIf, Math.ap_aNil, Math.ap_aCons, Math.ap_dNil, Math.ap_dCons, Math.ap_eTup, Math.ap_cLst, Math.ap_eFr, Math.ap_eIx, Math.ap_eSl, Math.ap_cList, Math.ap_eCall, Math.ap_cCall, Math.ap_mSeq, Math.ap_mNil, Math.ap_mSet, Math.ap_mSetC, Math.ap_mRet, Math.ap_mRetN, Math.ap_mRetL, Math.ap_mDrop, Math.ap_mIf, Math.ap_mNever, Math.ap_mPar, Math.ap_mPar3, Math.ap_mPut, Math.ap_mApp, Math.ap_mTo, Math.ap_mYes, Math.ap_iSq, Math.ap_iZp, Math.ap_iEn, Math.ap_mRetC, Math.ap_eCh, Math.ap_noPart, Math.ap_aPart, Math.ap_eSlice, Math.ap_mkF, Math.ap_mkC, Mir.env0, Mir.fin, Mir.finC, Mir.thenDo, Mir.toFl, Mir.wipeE, Mir.itemsOf, Mir.orBad, Mir.gNm, Mir.gTp, Mir.gNms, Mir.Out.bind, Mir.gIx, Mir.seqOf, Mir.gLen, Mir.gTuple, Mir.gAbs, Mir.gInt, Mir.gCmp, Mir.gI, Mir.gAdd, Mir.gSub, Mir.gNeg, Mir.gBols, Mir.gInts, Mir.gChain, Mir.nxO, Mir.putAt, Mir.appAt, Mir.isC, L2.atI, L2.ixN, Math.eIsi_tuple, Math.eIsi_int, Math.eIsi_bool, Math.gEq_int, Math.gEq_bool, run_grid_difference, e1, e2]
theorem gm1 {s : Sto} {x h : PyData} {n : Int} (h1 : isGrid x = true) (h2 : run_check_integer [.d (.int n)] s = .ok .none s) (e2 : run_plain_multiple [.d x, .d (.int n)] s = .ok h s) : run_grid_multiple [.d x, .d (.int n)] s = .ok h s := by
  simp -implicitDefEqProofs [Math.ap_eVar, Math.ap_lVar, Math.ap_eC, Math.ap_eL, Math.ap_eUn, Math.ap_eBin, Math.ap_eAnd, Math.ap_eOr, Math.ap_eNot, Math.ap_mE, Math.ap_mNot, Math.ap_mAnd, Math.ap_mOr, Math.ap_eIf, Math.ap_aNil, Math.ap_aCons, Math.ap_dNil, Math.ap_dCons, Math.ap_eTup, Math.ap_cLst, Math.ap_eFr, Math.ap_eIx, Math.ap_eSl, Math.ap_cList, Math.ap_eCall, Math.ap_cCall, Math.ap_mSeq, Math.ap_mNil, Math.ap_mSet, Math.ap_mSetC, Math.ap_mRet, Math.ap_mRetN, Math.ap_mRetL, Math.ap_mDrop, Math.ap_mIf, Math.ap_mNever, Math.ap_mPar, Math.ap_mPar3, Math.ap_mPut, Math.ap_mApp, Math.ap_mTo, Math.ap_mYes, Math.ap_iSq, Math.ap_iZp, Math.ap_iEn, Math.ap_mRetC, Math.ap_eCh, Math.ap_noPart, Math.ap_aPart, Math.ap_eSlice, Math.ap_mkF, Math.ap_mkC, Mir.env0, Mir.fin, Mir.finC, Mir.thenDo, Mir.toFl, Mir.wipeE, Mir.itemsOf, Mir.orBad, Mir.gNm, Mir.gTp, Mir.gNms, Mir.Out.bind, Mir.gIx, Mir.seqOf, Mir.gLen, Mir.gTuple, Mir.gAbs, Mir.gInt, Mir.gCmp, Mir.gI, Mir.gAdd, Mir.gSub, Mir.gNeg, Mir.gBols, Mir.gInts, Mir.gChain, Mir.nxO, Mir.putAt, Mir.appAt, Mir.isC, L2.atI, L2.ixN, Math.eIsi_tuple, Math.eIsi_int, Math.eIsi_bool, Math.gEq_int, Math.gEq_bool, run_grid_multiple, check_grid _ _ h1, h2, e2]
theorem few_neg : Few (-1) := by unfold Few; decide
theorem grid_sum {s : Sto} {w : Nat} {A B : List (List Int)} (ga : GridOk w A) (gb : GridOk w B) (hl : A.length = B.length) : run_grid_sum [.d (grid_D w A), .d (grid_D w B)] s = .ok (grid_D w (plusG A B)) s := by
  rw [← minus_scaled]
  exact gs1 (check_like ga gb hl) (ps1 (plain_multiple gb few_neg) (plain_difference ga))
theorem grid_difference {s : Sto} {w : Nat} {A B : List (List Int)} (ga : GridOk w A) (gb : GridOk w B) (hl : A.length = B.length) : run_grid_difference [.d (grid_D w A), .d (grid_D w B)] s = .ok (grid_D w (minusG A B)) s :=
  gd1 (check_like ga gb hl) (plain_difference ga)
theorem grid_multiple {s : Sto} {w : Nat} {A : List (List Int)} {n : Int} (ga : GridOk w A) (hn : Few n) : run_grid_multiple [.d (grid_D w A), .d (.int n)] s = .ok (grid_D w (scaledG n A)) s :=
  gm1 ga.is (check_integer hn) (plain_multiple ga hn)
end Math
/-! # k01: what the law makes of rows and grids -/
namespace Math
open PySem Mir Fn
def ldBody : MS := mSet 2 (eBin gAdd (eVar 2) (eBin Mir.gMulA (eVar 3) (eVar 4)))
theorem ld_step {s : Sto} {x y : Option Sl} {t a b : Int} (h : Few a) : ldBody [x, y, some (.d (.int t)), some (.d (.int a)), some (.d (.int b))] s = .nx [x, y, some (.d (.int (t + a * b))), some (.d (.int a)), some (.d (.int b))] s := by
  have hc : CMulB a b := .inl (by unfold Few at h; omega)
  simp -implicitDefEqProofs [Math.ap_eVar, Math.ap_lVar, Math.ap_eC, Math.ap_eL, Math.ap_eUn, Math.ap_eBin, Math.ap_eAnd, Math.ap_eOr, Math.ap_eNot, Math.ap_mE, Math.ap_mNot, Math.ap_mAnd, Math.ap_mOr, Math.ap_eIf, Math.ap_aNil, Math.ap_aCons, Math.ap_dNil, Math.ap_dCons, Math.ap_eTup, Math.ap_cLst, Math.ap_eFr, Math.ap_eIx, Math.ap_eSl, Math.ap_cList, Math.ap_eCall, Math.ap_cCall, Math.ap_mSeq, Math.ap_mNil, Math.ap_mSet, Math.ap_mSetC, Math.ap_mRet, Math.ap_mRetN, Math.ap_mRetL, Math.ap_mDrop, Math.ap_mIf, Math.ap_mNever, Math.ap_mPar, Math.ap_mPar3, Math.ap_mPut, Math.ap_mApp, Math.ap_mTo, Math.ap_mYes, Math.ap_iSq, Math.ap_iZp, Math.ap_iEn, Math.ap_mRetC, Math.ap_eCh, Math.ap_noPart, Math.ap_aPart, Math.ap_eSlice, Math.ap_mkF, Math.ap_mkC, Mir.env0, Mir.fin, Mir.finC, Mir.thenDo, Mir.toFl, Mir.wipeE, Mir.itemsOf, Mir.orBad, Mir.gNm, Mir.gTp, Mir.gNms, Mir.Out.bind, Mir.gIx, Mir.seqOf, Mir.gLen, Mir.gTuple, Mir.gAbs, Mir.gInt, Mir.gCmp, Mir.gI, Mir.gAdd, Mir.gSub, Mir.gNeg, Mir.gBols, Mir.gInts, Mir.gChain, Mir.nxO, Mir.putAt, Mir.appAt, Mir.isC, L2.atI, L2.ixN, Math.eIsi_tuple, Math.eIsi_int, Math.eIsi_bool, Math.gEq_int, Math.gEq_bool, ldBody, Mir.gMulA, hc]
theorem ld_loop {s : Sto} {x y : Option Sl} : ∀ (r c : List Int) (t : Int) (u v : Option Sl), (∀ z ∈ r, Few z) → ∃ u' v', forL (gTp [3, 4]) ldBody (zipD (r.map .int) (c.map .int)) [x, y, some (.d (.int t)), u, v] s = .nx [x, y, some (.d (.int (t + dot r c))), u', v'] s
  | [], c, t, u, v, _ => ⟨u, v, by simp [zipD, forL, dot]⟩
  | _ :: _, [], t, u, v, _ => ⟨u, v, by simp [zipD, forL, dot]⟩
  | a :: r, b :: c, t, u, v, h => by
    obtain ⟨u', v', e⟩ := ld_loop (s := s) (x := x) (y := y) r c (t + a * b) (some (.d (.int a))) (some (.d (.int b))) fun z hz => h z (by simp [hz])
    refine ⟨u', v', ?_⟩
    have eg : gTp [3, 4] (.tuple [.int a, .int b]) [x, y, some (.d (.int t)), u, v] = some [x, y, some (.d (.int t)), some (.d (.int a)), some (.d (.int b))] := rfl
    rw [List.map_cons, List.map_cons]
    unfold zipD forL
    rw [eg]
    simp only [ld_step (h a (by simp))]
    rw [e, dot_cons, Int.add_assoc]
theorem ldt {s : Sto} {xs ys : List PyData} {z : Int} {u v : Option Sl}
    (e : forL (gTp [3, 4]) (mSet 2 (eBin gAdd (eVar 2) (eBin Mir.gMulA (eVar 3) (eVar 4)))) (zipD xs ys) [some (.d (.tuple xs)), some (.d (.tuple ys)), some (.d (.int 0)), none, none] s = .nx [some (.d (.tuple xs)), some (.d (.tuple ys)), some (.d (.int z)), u, v] s) : run_law_dot [.d (.tuple xs), .d (.tuple ys)] s = .ok (.int z) s := by
  simp -implicitDefEqProofs [Math.ap_eVar, Math.ap_lVar, Math.ap_eC, Math.ap_eL, Math.ap_eUn, Math.ap_eBin, Math.ap_eAnd, Math.ap_eOr, Math.ap_eNot, Math.ap_mE, Math.ap_mNot, Math.ap_mAnd, Math.ap_mOr, Math.ap_eIf, Math.ap_aNil, Math.ap_aCons, Math.ap_dNil, Math.ap_dCons, Math.ap_eTup, Math.ap_cLst, Math.ap_eFr, Math.ap_eIx, Math.ap_eSl, Math.ap_cList, Math.ap_eCall, Math.ap_cCall, Math.ap_mSeq, Math.ap_mNil, Math.ap_mSet, Math.ap_mSetC, Math.ap_mRet, Math.ap_mRetN, Math.ap_mRetL, Math.ap_mDrop, Math.ap_mIf, Math.ap_mNever, Math.ap_mPar, Math.ap_mPar3, Math.ap_mPut, Math.ap_mApp, Math.ap_mTo, Math.ap_mYes, Math.ap_iSq, Math.ap_iZp, Math.ap_iEn, Math.ap_mRetC, Math.ap_eCh, Math.ap_noPart, Math.ap_aPart, Math.ap_eSlice, Math.ap_mkF, Math.ap_mkC, Mir.env0, Mir.fin, Mir.finC, Mir.thenDo, Mir.toFl, Mir.wipeE, Mir.itemsOf, Mir.orBad, Mir.gNm, Mir.gTp, Mir.gNms, Mir.Out.bind, Mir.gIx, Mir.seqOf, Mir.gLen, Mir.gTuple, Mir.gAbs, Mir.gInt, Mir.gCmp, Mir.gI, Mir.gAdd, Mir.gSub, Mir.gNeg, Mir.gBols, Mir.gInts, Mir.gChain, Mir.nxO, Mir.putAt, Mir.appAt, Mir.isC, L2.atI, L2.ixN, Math.eIsi_tuple, Math.eIsi_int, Math.eIsi_bool, Math.gEq_int, Math.gEq_bool, run_law_dot, ap_mFor, e]
theorem law_dot {s : Sto} {r c : List Int} (h : ∀ z ∈ r, Few z) : run_law_dot [.d (rowD r), .d (rowD c)] s = .ok (.int (dot r c)) s := by
  obtain ⟨u, v, e⟩ := ld_loop (s := s) (x := some (.d (rowD r))) (y := some (.d (rowD c))) r c 0 none none h
  rw [Int.zero_add] at e
  exact ldt e
theorem ll1 {s : Sto} {a x : PyData} {rs ys : List PyData} (c : cComp (iSq (eIx (lVar 0) (eC (.int 1)))) (gNm 2) mYes (eCall 2 run_law_dot (aCons (lVar 2) (aCons (lVar 1) aNil))) [2] [some (.d (.tuple [a, .tuple rs])), some (.d x), none] s = .ok ys s) :
    run_law_lead [.d (.tuple [a, .tuple rs]), .d x] s = .ok (.tuple ys) s := by
  simp -implicitDefEqProofs [Math.ap_eVar, Math.ap_lVar, Math.ap_eC, Math.ap_eL, Math.ap_eUn, Math.ap_eBin, Math.ap_eAnd, Math.ap_eOr, Math.ap_eNot, Math.ap_mE, Math.ap_mNot, Math.ap_mAnd, Math.ap_mOr, Math.ap_eIf, Math.ap_aNil, Math.ap_aCons, Math.ap_dNil, Math.ap_dCons, Math.ap_eTup, Math.ap_cLst, Math.ap_eFr, Math.ap_eIx, Math.ap_eSl, Math.ap_cList, Math.ap_eCall, Math.ap_cCall, Math.ap_mSeq, Math.ap_mNil, Math.ap_mSet, Math.ap_mSetC, Math.ap_mRet, Math.ap_mRetN, Math.ap_mRetL, Math.ap_mDrop, Math.ap_mIf, Math.ap_mNever, Math.ap_mPar, Math.ap_mPar3, Math.ap_mPut, Math.ap_mApp, Math.ap_mTo, Math.ap_mYes, Math.ap_iSq, Math.ap_iZp, Math.ap_iEn, Math.ap_mRetC, Math.ap_eCh, Math.ap_noPart, Math.ap_aPart, Math.ap_eSlice, Math.ap_mkF, Math.ap_mkC, Mir.env0, Mir.fin, Mir.finC, Mir.thenDo, Mir.toFl, Mir.wipeE, Mir.itemsOf, Mir.orBad, Mir.gNm, Mir.gTp, Mir.gNms, Mir.Out.bind, Mir.gIx, Mir.seqOf, Mir.gLen, Mir.gTuple, Mir.gAbs, Mir.gInt, Mir.gCmp, Mir.gI, Mir.gAdd, Mir.gSub, Mir.gNeg, Mir.gBols, Mir.gInts, Mir.gChain, Mir.nxO, Mir.putAt, Mir.appAt, Mir.isC, L2.atI, L2.ixN, Math.eIsi_tuple, Math.eIsi_int, Math.eIsi_bool, Math.gEq_int, Math.gEq_bool, run_law_lead, c]
theorem ll3 {s : Sto} {x d e h : PyData} (q : run_law_dot [.d d, .d e] s = .ok h s) : eCall 2 run_law_dot (aCons (lVar 2) (aCons (lVar 1) aNil)) [some (.d x), some (.d e), some (.d d)] s = .ok h s := by
  simp -implicitDefEqProofs [Math.ap_eVar, Math.ap_lVar, Math.ap_eC, Math.ap_eL, Math.ap_eUn, Math.ap_eBin, Math.ap_eAnd, Math.ap_eOr, Math.ap_eNot, Math.ap_mE, Math.ap_mNot, Math.ap_mAnd, Math.ap_mOr, Math.ap_eIf, Math.ap_aNil, Math.ap_aCons, Math.ap_dNil, Math.ap_dCons, Math.ap_eTup, Math.ap_cLst, Math.ap_eFr, Math.ap_eIx, Math.ap_eSl, Math.ap_cList, Math.ap_eCall, Math.ap_cCall, Math.ap_mSeq, Math.ap_mNil, Math.ap_mSet, Math.ap_mSetC, Math.ap_mRet, Math.ap_mRetN, Math.ap_mRetL, Math.ap_mDrop, Math.ap_mIf, Math.ap_mNever, Math.ap_mPar, Math.ap_mPar3, Math.ap_mPut, Math.ap_mApp, Math.ap_mTo, Math.ap_mYes, Math.ap_iSq, Math.ap_iZp, Math.ap_iEn, Math.ap_mRetC, Math.ap_eCh, Math.ap_noPart, Math.ap_aPart, Math.ap_eSlice, Math.ap_mkF, Math.ap_mkC, Mir.env0, Mir.fin, Mir.finC, Mir.thenDo, Mir.toFl, Mir.wipeE, Mir.itemsOf, Mir.orBad, Mir.gNm, Mir.gTp, Mir.gNms, Mir.Out.bind, Mir.gIx, Mir.seqOf, Mir.gLen, Mir.gTuple, Mir.gAbs, Mir.gInt, Mir.gCmp, Mir.gI, Mir.gAdd, Mir.gSub, Mir.gNeg, Mir.gBols, Mir.gInts, Mir.gChain, Mir.nxO, Mir.putAt, Mir.appAt, Mir.isC, L2.atI, L2.ixN, Math.eIsi_tuple, Math.eIsi_int, Math.eIsi_bool, Math.gEq_int, Math.gEq_bool, q]
theorem law_lead {s : Sto} {w : Nat} {A : List (List Int)} {x : List Int} (ga : GridOk w A) : run_law_lead [.d (grid_D w A), .d (rowD x)] s = .ok (rowD (lead A x)) s := by
  have hh := ga.high
  have c := comp_mapL (it := iSq (eIx (lVar 0) (eC (.int 1)))) (k := 2) (fe := eCall 2 run_law_dot (aCons (lVar 2) (aCons (lVar 1) aNil))) (ρ := [some (.d (.tuple [.int (w : Int), .tuple (A.map rowD)])), some (.d (rowD x)), none]) (s := s)
    rowD (fun r => .int (dot r x)) A rfl (by omega) fun r hr => ll3 (law_dot (ga.few r hr))
  have q := ll1 c
  unfold grid_D
  rw [q]
  unfold lead rowD
  rw [List.map_map]
  rfl
theorem lt1 {s : Sto} {a : PyData} {rs ys : List PyData}
    (c : cComp (iRg1 (eVar 1)) (gNm 3) mYes (eSl gTuple (eL (eFr (cComp (iSq (eVar 2)) (gNm 4) mYes (eIx (lVar 4) (eVar 3)) [4])))) [3] [some (.d (.tuple [a, .tuple rs])), some (.d a), some (.d (.tuple rs)), none, none] s = .ok ys s) :
    run_law_turn [.d (.tuple [a, .tuple rs])] s = .ok (.tuple [.int rs.length, .tuple ys]) s := by
  simp -implicitDefEqProofs [Math.ap_eVar, Math.ap_lVar, Math.ap_eC, Math.ap_eL, Math.ap_eUn, Math.ap_eBin, Math.ap_eAnd, Math.ap_eOr, Math.ap_eNot, Math.ap_mE, Math.ap_mNot, Math.ap_mAnd, Math.ap_mOr, Math.ap_eIf, Math.ap_aNil, Math.ap_aCons, Math.ap_dNil, Math.ap_dCons, Math.ap_eTup, Math.ap_cLst, Math.ap_eFr, Math.ap_eIx, Math.ap_eSl, Math.ap_cList, Math.ap_eCall, Math.ap_cCall, Math.ap_mSeq, Math.ap_mNil, Math.ap_mSet, Math.ap_mSetC, Math.ap_mRet, Math.ap_mRetN, Math.ap_mRetL, Math.ap_mDrop, Math.ap_mIf, Math.ap_mNever, Math.ap_mPar, Math.ap_mPar3, Math.ap_mPut, Math.ap_mApp, Math.ap_mTo, Math.ap_mYes, Math.ap_iSq, Math.ap_iZp, Math.ap_iEn, Math.ap_mRetC, Math.ap_eCh, Math.ap_noPart, Math.ap_aPart, Math.ap_eSlice, Math.ap_mkF, Math.ap_mkC, Mir.env0, Mir.fin, Mir.finC, Mir.thenDo, Mir.toFl, Mir.wipeE, Mir.itemsOf, Mir.orBad, Mir.gNm, Mir.gTp, Mir.gNms, Mir.Out.bind, Mir.gIx, Mir.seqOf, Mir.gLen, Mir.gTuple, Mir.gAbs, Mir.gInt, Mir.gCmp, Mir.gI, Mir.gAdd, Mir.gSub, Mir.gNeg, Mir.gBols, Mir.gInts, Mir.gChain, Mir.nxO, Mir.putAt, Mir.appAt, Mir.isC, L2.atI, L2.ixN, Math.eIsi_tuple, Math.eIsi_int, Math.eIsi_bool, Math.gEq_int, Math.gEq_bool, run_law_turn, c]
theorem lt2 {s : Sto} {x y z d : PyData} {ys : List PyData} (c : cComp (iSq (eVar 2)) (gNm 4) mYes (eIx (lVar 4) (eVar 3)) [4] [some (.d x), some (.d y), some (.d z), some (.d d), none] s = .ok ys s) :
    eSl gTuple (eL (eFr (cComp (iSq (eVar 2)) (gNm 4) mYes (eIx (lVar 4) (eVar 3)) [4]))) [some (.d x), some (.d y), some (.d z), some (.d d), none] s = .ok (.tuple ys) s := by
  simp -implicitDefEqProofs [Math.ap_eVar, Math.ap_lVar, Math.ap_eC, Math.ap_eL, Math.ap_eUn, Math.ap_eBin, Math.ap_eAnd, Math.ap_eOr, Math.ap_eNot, Math.ap_mE, Math.ap_mNot, Math.ap_mAnd, Math.ap_mOr, Math.ap_eIf, Math.ap_aNil, Math.ap_aCons, Math.ap_dNil, Math.ap_dCons, Math.ap_eTup, Math.ap_cLst, Math.ap_eFr, Math.ap_eIx, Math.ap_eSl, Math.ap_cList, Math.ap_eCall, Math.ap_cCall, Math.ap_mSeq, Math.ap_mNil, Math.ap_mSet, Math.ap_mSetC, Math.ap_mRet, Math.ap_mRetN, Math.ap_mRetL, Math.ap_mDrop, Math.ap_mIf, Math.ap_mNever, Math.ap_mPar, Math.ap_mPar3, Math.ap_mPut, Math.ap_mApp, Math.ap_mTo, Math.ap_mYes, Math.ap_iSq, Math.ap_iZp, Math.ap_iEn, Math.ap_mRetC, Math.ap_eCh, Math.ap_noPart, Math.ap_aPart, Math.ap_eSlice, Math.ap_mkF, Math.ap_mkC, Mir.env0, Mir.fin, Mir.finC, Mir.thenDo, Mir.toFl, Mir.wipeE, Mir.itemsOf, Mir.orBad, Mir.gNm, Mir.gTp, Mir.gNms, Mir.Out.bind, Mir.gIx, Mir.seqOf, Mir.gLen, Mir.gTuple, Mir.gAbs, Mir.gInt, Mir.gCmp, Mir.gI, Mir.gAdd, Mir.gSub, Mir.gNeg, Mir.gBols, Mir.gInts, Mir.gChain, Mir.nxO, Mir.putAt, Mir.appAt, Mir.isC, L2.atI, L2.ixN, Math.eIsi_tuple, Math.eIsi_int, Math.eIsi_bool, Math.gEq_int, Math.gEq_bool, c]
theorem law_turn {s : Sto} {w : Nat} {A : List (List Int)} (ga : GridOk w A) : run_law_turn [.d (grid_D w A)] s = .ok (grid_D A.length (cols A w)) s := by
  have hw := ga.wide
  have hh := ga.high
  let G : PyData := .tuple [.int (w : Int), .tuple (A.map rowD)]
  have c := comp_mapL (it := iRg1 (eVar 1)) (k := 3) (fe := eSl gTuple (eL (eFr (cComp (iSq (eVar 2)) (gNm 4) mYes (eIx (lVar 4) (eVar 3)) [4])))) (ρ := [some (.d G), some (.d (.int (w : Int))), some (.d (.tuple (A.map rowD))), none, none]) (s := s)
    (fun j : Nat => .int j) (fun j => rowD (col A j)) (List.range w) (by rw [range_ok 1 _ s w (by omega) rfl, rangeOf_eq]) (by rw [List.length_range]; omega) fun j hj => by
    refine lt2 ?_
    have q := comp_mapL (it := iSq (eVar 2)) (k := 4) (fe := eIx (lVar 4) (eVar 3)) (ρ := [some (.d G), some (.d (.int (w : Int))), some (.d (.tuple (A.map rowD))), some (.d (.int (j : Int))), none]) (s := s)
      rowD (fun r => .int (r.getD j 0)) A rfl (by omega) fun r hr => by
      exact at_row rfl (by rw [ga.len r hr]; exact List.mem_range.mp hj) s
    rw [q]
    unfold col
    rw [List.map_map]
    rfl
  have e : (List.range w).map (fun j => rowD (col A j)) = (cols A w).map rowD := by
    unfold cols
    rw [List.map_map]
    rfl
  rw [e] at c
  have q := lt1 c
  rw [List.length_map] at q
  exact q
theorem lm1 {s : Sto} {a b t : PyData} {xs ys cs zs : List PyData} (e1 : run_law_turn [.d (.tuple [b, .tuple ys])] s = .ok (.tuple [t, .tuple cs]) s)
    (c : cComp (iSq (eIx (lVar 0) (eC (.int 1)))) (gNm 3) mYes (eSl gTuple (eL (eFr (cComp (iSq (eVar 2)) (gNm 4) mYes (eCall 2 run_law_dot (aCons (lVar 3) (aCons (lVar 4) aNil))) [4])))) [3] [some (.d (.tuple [a, .tuple xs])), some (.d (.tuple [b, .tuple ys])), some (.d (.tuple cs)), none, none] s = .ok zs s) :
    run_law_times [.d (.tuple [a, .tuple xs]), .d (.tuple [b, .tuple ys])] s = .ok (.tuple [b, .tuple zs]) s := by
  simp -implicitDefEqProofs [Math.ap_eVar, Math.ap_lVar, Math.ap_eC, Math.ap_eL, Math.ap_eUn, Math.ap_eBin, Math.ap_eAnd, Math.ap_eOr, Math.ap_eNot, Math.ap_mE, Math.ap_mNot, Math.ap_mAnd, Math.ap_mOr, Math.ap_eIf, Math.ap_aNil, Math.ap_aCons, Math.ap_dNil, Math.ap_dCons, Math.ap_eTup, Math.ap_cLst, Math.ap_eFr, Math.ap_eIx, Math.ap_eSl, Math.ap_cList, Math.ap_eCall, Math.ap_cCall, Math.ap_mSeq, Math.ap_mNil, Math.ap_mSet, Math.ap_mSetC, Math.ap_mRet, Math.ap_mRetN, Math.ap_mRetL, Math.ap_mDrop, Math.ap_mIf, Math.ap_mNever, Math.ap_mPar, Math.ap_mPar3, Math.ap_mPut, Math.ap_mApp, Math.ap_mTo, Math.ap_mYes, Math.ap_iSq, Math.ap_iZp, Math.ap_iEn, Math.ap_mRetC, Math.ap_eCh, Math.ap_noPart, Math.ap_aPart, Math.ap_eSlice, Math.ap_mkF, Math.ap_mkC, Mir.env0, Mir.fin, Mir.finC, Mir.thenDo, Mir.toFl, Mir.wipeE, Mir.itemsOf, Mir.orBad, Mir.gNm, Mir.gTp, Mir.gNms, Mir.Out.bind, Mir.gIx, Mir.seqOf, Mir.gLen, Mir.gTuple, Mir.gAbs, Mir.gInt, Mir.gCmp, Mir.gI, Mir.gAdd, Mir.gSub, Mir.gNeg, Mir.gBols, Mir.gInts, Mir.gChain, Mir.nxO, Mir.putAt, Mir.appAt, Mir.isC, L2.atI, L2.ixN, Math.eIsi_tuple, Math.eIsi_int, Math.eIsi_bool, Math.gEq_int, Math.gEq_bool, run_law_times, e1, c]
theorem lm2 {s : Sto} {x y d : PyData} {cs ns : List PyData} (c : cComp (iSq (eVar 2)) (gNm 4) mYes (eCall 2 run_law_dot (aCons (lVar 3) (aCons (lVar 4) aNil))) [4] [some (.d x), some (.d y), some (.d (.tuple cs)), some (.d d), none] s = .ok ns s) :
    eSl gTuple (eL (eFr (cComp (iSq (eVar 2)) (gNm 4) mYes (eCall 2 run_law_dot (aCons (lVar 3) (aCons (lVar 4) aNil))) [4]))) [some (.d x), some (.d y), some (.d (.tuple cs)), some (.d d), none] s = .ok (.tuple ns) s := by
  simp -implicitDefEqProofs [Math.ap_eVar, Math.ap_lVar, Math.ap_eC, Math.ap_eL, Math.ap_eUn, Math.ap_eBin, Math.ap_eAnd, Math.ap_eOr, Math.ap_eNot, Math.ap_mE, Math.ap_mNot, Math.ap_mAnd, Math.ap_mOr, Math.ap_eIf, Math.ap_aNil, Math.ap_aCons, Math.ap_dNil, Math.ap_dCons, Math.ap_eTup, Math.ap_cLst, Math.ap_eFr, Math.ap_eIx, Math.ap_eSl, Math.ap_cList, Math.ap_eCall, Math.ap_cCall, Math.ap_mSeq, Math.ap_mNil, Math.ap_mSet, Math.ap_mSetC, Math.ap_mRet, Math.ap_mRetN, Math.ap_mRetL, Math.ap_mDrop, Math.ap_mIf, Math.ap_mNever, Math.ap_mPar, Math.ap_mPar3, Math.ap_mPut, Math.ap_mApp, Math.ap_mTo, Math.ap_mYes, Math.ap_iSq, Math.ap_iZp, Math.ap_iEn, Math.ap_mRetC, Math.ap_eCh, Math.ap_noPart, Math.ap_aPart, Math.ap_eSlice, Math.ap_mkF, Math.ap_mkC, Mir.env0, Mir.fin, Mir.finC, Mir.thenDo, Mir.toFl, Mir.wipeE, Mir.itemsOf, Mir.orBad, Mir.gNm, Mir.gTp, Mir.gNms, Mir.Out.bind, Mir.gIx, Mir.seqOf, Mir.gLen, Mir.gTuple, Mir.gAbs, Mir.gInt, Mir.gCmp, Mir.gI, Mir.gAdd, Mir.gSub, Mir.gNeg, Mir.gBols, Mir.gInts, Mir.gChain, Mir.nxO, Mir.putAt, Mir.appAt, Mir.isC, L2.atI, L2.ixN, Math.eIsi_tuple, Math.eIsi_int, Math.eIsi_bool, Math.gEq_int, Math.gEq_bool, c]
theorem lm3 {s : Sto} {x y z d e h : PyData} (q : run_law_dot [.d d, .d e] s = .ok h s) : eCall 2 run_law_dot (aCons (lVar 3) (aCons (lVar 4) aNil)) [some (.d x), some (.d y), some (.d z), some (.d d), some (.d e)] s = .ok h s := by
  simp -implicitDefEqProofs [Math.ap_eVar, Math.ap_lVar, Math.ap_eC, Math.ap_eL, Math.ap_eUn, Math.ap_eBin, Math.ap_eAnd, Math.ap_eOr, Math.ap_eNot, Math.ap_mE, Math.ap_mNot, Math.ap_mAnd, Math.ap_mOr, Math.ap_eIf, Math.ap_aNil, Math.ap_aCons, Math.ap_dNil, Math.ap_dCons, Math.ap_eTup, Math.ap_cLst, Math.ap_eFr, Math.ap_eIx, Math.ap_eSl, Math.ap_cList, Math.ap_eCall, Math.ap_cCall, Math.ap_mSeq, Math.ap_mNil, Math.ap_mSet, Math.ap_mSetC, Math.ap_mRet, Math.ap_mRetN, Math.ap_mRetL, Math.ap_mDrop, Math.ap_mIf, Math.ap_mNever, Math.ap_mPar, Math.ap_mPar3, Math.ap_mPut, Math.ap_mApp, Math.ap_mTo, Math.ap_mYes, Math.ap_iSq, Math.ap_iZp, Math.ap_iEn, Math.ap_mRetC, Math.ap_eCh, Math.ap_noPart, Math.ap_aPart, Math.ap_eSlice, Math.ap_mkF, Math.ap_mkC, Mir.env0, Mir.fin, Mir.finC, Mir.thenDo, Mir.toFl, Mir.wipeE, Mir.itemsOf, Mir.orBad, Mir.gNm, Mir.gTp, Mir.gNms, Mir.Out.bind, Mir.gIx, Mir.seqOf, Mir.gLen, Mir.gTuple, Mir.gAbs, Mir.gInt, Mir.gCmp, Mir.gI, Mir.gAdd, Mir.gSub, Mir.gNeg, Mir.gBols, Mir.gInts, Mir.gChain, Mir.nxO, Mir.putAt, Mir.appAt, Mir.isC, L2.atI, L2.ixN, Math.eIsi_tuple, Math.eIsi_int, Math.eIsi_bool, Math.gEq_int, Math.gEq_bool, q]
theorem law_times {s : Sto} {w v : Nat} {A B : List (List Int)} (ga : GridOk w A) (gb : GridOk v B) : run_law_times [.d (grid_D w A), .d (grid_D v B)] s = .ok (grid_D v (prod A B v)) s := by
  have hA := ga.high
  have hv := gb.wide
  let G : PyData := .tuple [.int (w : Int), .tuple (A.map rowD)]
  let G2 : PyData := .tuple [.int (v : Int), .tuple (B.map rowD)]
  have c := comp_mapL (it := iSq (eIx (lVar 0) (eC (.int 1)))) (k := 3) (fe := eSl gTuple (eL (eFr (cComp (iSq (eVar 2)) (gNm 4) mYes (eCall 2 run_law_dot (aCons (lVar 3) (aCons (lVar 4) aNil))) [4]))))
    (ρ := [some (.d G), some (.d G2), some (.d (.tuple ((cols B v).map rowD))), none, none]) (s := s) rowD (fun r => rowD ((cols B v).map (dot r))) A rfl (by omega) fun r hr => by
    refine lm2 ?_
    have q := comp_mapL (it := iSq (eVar 2)) (k := 4) (fe := eCall 2 run_law_dot (aCons (lVar 3) (aCons (lVar 4) aNil)))
      (ρ := [some (.d G), some (.d G2), some (.d (.tuple ((cols B v).map rowD))), some (.d (rowD r)), none]) (s := s) rowD (fun c => .int (dot r c)) (cols B v) rfl (by rw [cols_length]; omega) fun c _ => lm3 (law_dot (ga.few r hr))
    rw [q, List.map_map]
    rfl
  have e : A.map (fun r => rowD ((cols B v).map (dot r))) = (prod A B v).map rowD := by
    unfold prod
    rw [List.map_map]
    rfl
  rw [e] at c
  exact lm1 (law_turn gb) c
theorem lp1 {s : Sto} {a b : PyData} {xs ys zs : List PyData}
    (c : cComp (iZp (eIx (lVar 0) (eC (.int 1))) (eIx (lVar 1) (eC (.int 1)))) (gTp [2, 3]) mYes (eSl gTuple (eL (eFr (cComp (iZp (eVar 2) (eVar 3)) (gTp [4, 5]) mYes (eBin gAdd (eVar 4) (eVar 5)) [4, 5])))) [2, 3] [some (.d (.tuple [a, .tuple xs])), some (.d (.tuple [b, .tuple ys])), none, none, none, none] s = .ok zs s) :
    run_law_jg_plus [.d (.tuple [a, .tuple xs]), .d (.tuple [b, .tuple ys])] s = .ok (.tuple [a, .tuple zs]) s := by
  simp -implicitDefEqProofs [Math.ap_eVar, Math.ap_lVar, Math.ap_eC, Math.ap_eL, Math.ap_eUn, Math.ap_eBin, Math.ap_eAnd, Math.ap_eOr, Math.ap_eNot, Math.ap_mE, Math.ap_mNot, Math.ap_mAnd, Math.ap_mOr, Math.ap_eIf, Math.ap_aNil, Math.ap_aCons, Math.ap_dNil, Math.ap_dCons, Math.ap_eTup, Math.ap_cLst, Math.ap_eFr, Math.ap_eIx, Math.ap_eSl, Math.ap_cList, Math.ap_eCall, Math.ap_cCall, Math.ap_mSeq, Math.ap_mNil, Math.ap_mSet, Math.ap_mSetC, Math.ap_mRet, Math.ap_mRetN, Math.ap_mRetL, Math.ap_mDrop, Math.ap_mIf, Math.ap_mNever, Math.ap_mPar, Math.ap_mPar3, Math.ap_mPut, Math.ap_mApp, Math.ap_mTo, Math.ap_mYes, Math.ap_iSq, Math.ap_iZp, Math.ap_iEn, Math.ap_mRetC, Math.ap_eCh, Math.ap_noPart, Math.ap_aPart, Math.ap_eSlice, Math.ap_mkF, Math.ap_mkC, Mir.env0, Mir.fin, Mir.finC, Mir.thenDo, Mir.toFl, Mir.wipeE, Mir.itemsOf, Mir.orBad, Mir.gNm, Mir.gTp, Mir.gNms, Mir.Out.bind, Mir.gIx, Mir.seqOf, Mir.gLen, Mir.gTuple, Mir.gAbs, Mir.gInt, Mir.gCmp, Mir.gI, Mir.gAdd, Mir.gSub, Mir.gNeg, Mir.gBols, Mir.gInts, Mir.gChain, Mir.nxO, Mir.putAt, Mir.appAt, Mir.isC, L2.atI, L2.ixN, Math.eIsi_tuple, Math.eIsi_int, Math.eIsi_bool, Math.gEq_int, Math.gEq_bool, run_law_jg_plus, c]
theorem lp2 {s : Sto} {x y d e : PyData} {zs : List PyData} (c : cComp (iZp (eVar 2) (eVar 3)) (gTp [4, 5]) mYes (eBin gAdd (eVar 4) (eVar 5)) [4, 5] [some (.d x), some (.d y), some (.d d), some (.d e), none, none] s = .ok zs s) :
    eSl gTuple (eL (eFr (cComp (iZp (eVar 2) (eVar 3)) (gTp [4, 5]) mYes (eBin gAdd (eVar 4) (eVar 5)) [4, 5]))) [some (.d x), some (.d y), some (.d d), some (.d e), none, none] s = .ok (.tuple zs) s := by
  simp -implicitDefEqProofs [Math.ap_eVar, Math.ap_lVar, Math.ap_eC, Math.ap_eL, Math.ap_eUn, Math.ap_eBin, Math.ap_eAnd, Math.ap_eOr, Math.ap_eNot, Math.ap_mE, Math.ap_mNot, Math.ap_mAnd, Math.ap_mOr, Math.ap_eIf, Math.ap_aNil, Math.ap_aCons, Math.ap_dNil, Math.ap_dCons, Math.ap_eTup, Math.ap_cLst, Math.ap_eFr, Math.ap_eIx, Math.ap_eSl, Math.ap_cList, Math.ap_eCall, Math.ap_cCall, Math.ap_mSeq, Math.ap_mNil, Math.ap_mSet, Math.ap_mSetC, Math.ap_mRet, Math.ap_mRetN, Math.ap_mRetL, Math.ap_mDrop, Math.ap_mIf, Math.ap_mNever, Math.ap_mPar, Math.ap_mPar3, Math.ap_mPut, Math.ap_mApp, Math.ap_mTo, Math.ap_mYes, Math.ap_iSq, Math.ap_iZp, Math.ap_iEn, Math.ap_mRetC, Math.ap_eCh, Math.ap_noPart, Math.ap_aPart, Math.ap_eSlice, Math.ap_mkF, Math.ap_mkC, Mir.env0, Mir.fin, Mir.finC, Mir.thenDo, Mir.toFl, Mir.wipeE, Mir.itemsOf, Mir.orBad, Mir.gNm, Mir.gTp, Mir.gNms, Mir.Out.bind, Mir.gIx, Mir.seqOf, Mir.gLen, Mir.gTuple, Mir.gAbs, Mir.gInt, Mir.gCmp, Mir.gI, Mir.gAdd, Mir.gSub, Mir.gNeg, Mir.gBols, Mir.gInts, Mir.gChain, Mir.nxO, Mir.putAt, Mir.appAt, Mir.isC, L2.atI, L2.ixN, Math.eIsi_tuple, Math.eIsi_int, Math.eIsi_bool, Math.gEq_int, Math.gEq_bool, c]
theorem lp3 {s : Sto} {x y d e : PyData} {a b : Int} : eBin gAdd (eVar 4) (eVar 5) [some (.d x), some (.d y), some (.d d), some (.d e), some (.d (.int a)), some (.d (.int b))] s = .ok (.int (a + b)) s := by
  simp -implicitDefEqProofs [Math.ap_eVar, Math.ap_lVar, Math.ap_eC, Math.ap_eL, Math.ap_eUn, Math.ap_eBin, Math.ap_eAnd, Math.ap_eOr, Math.ap_eNot, Math.ap_mE, Math.ap_mNot, Math.ap_mAnd, Math.ap_mOr, Math.ap_eIf, Math.ap_aNil, Math.ap_aCons, Math.ap_dNil, Math.ap_dCons, Math.ap_eTup, Math.ap_cLst, Math.ap_eFr, Math.ap_eIx, Math.ap_eSl, Math.ap_cList, Math.ap_eCall, Math.ap_cCall, Math.ap_mSeq, Math.ap_mNil, Math.ap_mSet, Math.ap_mSetC, Math.ap_mRet, Math.ap_mRetN, Math.ap_mRetL, Math.ap_mDrop, Math.ap_mIf, Math.ap_mNever, Math.ap_mPar, Math.ap_mPar3, Math.ap_mPut, Math.ap_mApp, Math.ap_mTo, Math.ap_mYes, Math.ap_iSq, Math.ap_iZp, Math.ap_iEn, Math.ap_mRetC, Math.ap_eCh, Math.ap_noPart, Math.ap_aPart, Math.ap_eSlice, Math.ap_mkF, Math.ap_mkC, Mir.env0, Mir.fin, Mir.finC, Mir.thenDo, Mir.toFl, Mir.wipeE, Mir.itemsOf, Mir.orBad, Mir.gNm, Mir.gTp, Mir.gNms, Mir.Out.bind, Mir.gIx, Mir.seqOf, Mir.gLen, Mir.gTuple, Mir.gAbs, Mir.gInt, Mir.gCmp, Mir.gI, Mir.gAdd, Mir.gSub, Mir.gNeg, Mir.gBols, Mir.gInts, Mir.gChain, Mir.nxO, Mir.putAt, Mir.appAt, Mir.isC, L2.atI, L2.ixN, Math.eIsi_tuple, Math.eIsi_int, Math.eIsi_bool, Math.gEq_int, Math.gEq_bool]
theorem lp4 {s : Sto} {x y : PyData} {r l : List PyData} : iZp (eVar 2) (eVar 3) [some (.d x), some (.d y), some (.d (.tuple r)), some (.d (.tuple l)), none, none] s = .ok (zipD r l) s := by
  simp -implicitDefEqProofs [Math.ap_eVar, Math.ap_lVar, Math.ap_eC, Math.ap_eL, Math.ap_eUn, Math.ap_eBin, Math.ap_eAnd, Math.ap_eOr, Math.ap_eNot, Math.ap_mE, Math.ap_mNot, Math.ap_mAnd, Math.ap_mOr, Math.ap_eIf, Math.ap_aNil, Math.ap_aCons, Math.ap_dNil, Math.ap_dCons, Math.ap_eTup, Math.ap_cLst, Math.ap_eFr, Math.ap_eIx, Math.ap_eSl, Math.ap_cList, Math.ap_eCall, Math.ap_cCall, Math.ap_mSeq, Math.ap_mNil, Math.ap_mSet, Math.ap_mSetC, Math.ap_mRet, Math.ap_mRetN, Math.ap_mRetL, Math.ap_mDrop, Math.ap_mIf, Math.ap_mNever, Math.ap_mPar, Math.ap_mPar3, Math.ap_mPut, Math.ap_mApp, Math.ap_mTo, Math.ap_mYes, Math.ap_iSq, Math.ap_iZp, Math.ap_iEn, Math.ap_mRetC, Math.ap_eCh, Math.ap_noPart, Math.ap_aPart, Math.ap_eSlice, Math.ap_mkF, Math.ap_mkC, Mir.env0, Mir.fin, Mir.finC, Mir.thenDo, Mir.toFl, Mir.wipeE, Mir.itemsOf, Mir.orBad, Mir.gNm, Mir.gTp, Mir.gNms, Mir.Out.bind, Mir.gIx, Mir.seqOf, Mir.gLen, Mir.gTuple, Mir.gAbs, Mir.gInt, Mir.gCmp, Mir.gI, Mir.gAdd, Mir.gSub, Mir.gNeg, Mir.gBols, Mir.gInts, Mir.gChain, Mir.nxO, Mir.putAt, Mir.appAt, Mir.isC, L2.atI, L2.ixN, Math.eIsi_tuple, Math.eIsi_int, Math.eIsi_bool, Math.gEq_int, Math.gEq_bool]
theorem lp5 {s : Sto} {a b : PyData} {xs ys : List PyData} : iZp (eIx (lVar 0) (eC (.int 1))) (eIx (lVar 1) (eC (.int 1))) [some (.d (.tuple [a, .tuple xs])), some (.d (.tuple [b, .tuple ys])), none, none, none, none] s = .ok (zipD xs ys) s := by
  simp -implicitDefEqProofs [Math.ap_eVar, Math.ap_lVar, Math.ap_eC, Math.ap_eL, Math.ap_eUn, Math.ap_eBin, Math.ap_eAnd, Math.ap_eOr, Math.ap_eNot, Math.ap_mE, Math.ap_mNot, Math.ap_mAnd, Math.ap_mOr, Math.ap_eIf, Math.ap_aNil, Math.ap_aCons, Math.ap_dNil, Math.ap_dCons, Math.ap_eTup, Math.ap_cLst, Math.ap_eFr, Math.ap_eIx, Math.ap_eSl, Math.ap_cList, Math.ap_eCall, Math.ap_cCall, Math.ap_mSeq, Math.ap_mNil, Math.ap_mSet, Math.ap_mSetC, Math.ap_mRet, Math.ap_mRetN, Math.ap_mRetL, Math.ap_mDrop, Math.ap_mIf, Math.ap_mNever, Math.ap_mPar, Math.ap_mPar3, Math.ap_mPut, Math.ap_mApp, Math.ap_mTo, Math.ap_mYes, Math.ap_iSq, Math.ap_iZp, Math.ap_iEn, Math.ap_mRetC, Math.ap_eCh, Math.ap_noPart, Math.ap_aPart, Math.ap_eSlice, Math.ap_mkF, Math.ap_mkC, Mir.env0, Mir.fin, Mir.finC, Mir.thenDo, Mir.toFl, Mir.wipeE, Mir.itemsOf, Mir.orBad, Mir.gNm, Mir.gTp, Mir.gNms, Mir.Out.bind, Mir.gIx, Mir.seqOf, Mir.gLen, Mir.gTuple, Mir.gAbs, Mir.gInt, Mir.gCmp, Mir.gI, Mir.gAdd, Mir.gSub, Mir.gNeg, Mir.gBols, Mir.gInts, Mir.gChain, Mir.nxO, Mir.putAt, Mir.appAt, Mir.isC, L2.atI, L2.ixN, Math.eIsi_tuple, Math.eIsi_int, Math.eIsi_bool, Math.gEq_int, Math.gEq_bool]
theorem jg_plus {s : Sto} {w v : Nat} {A B : List (List Int)} (ga : GridOk w A) : run_law_jg_plus [.d (grid_D w A), .d (grid_D v B)] s = .ok (grid_D w (plusG A B)) s := by
  have hh := ga.high
  have hw := ga.wide
  let G : PyData := .tuple [.int (w : Int), .tuple (A.map rowD)]
  let G2 : PyData := .tuple [.int (v : Int), .tuple (B.map rowD)]
  have c : cComp (iZp (eIx (lVar 0) (eC (.int 1))) (eIx (lVar 1) (eC (.int 1)))) (gTp [2, 3]) mYes (eSl gTuple (eL (eFr (cComp (iZp (eVar 2) (eVar 3)) (gTp [4, 5]) mYes (eBin gAdd (eVar 4) (eVar 5)) [4, 5])))) [2, 3] [some (.d G), some (.d G2), none, none, none, none] s = .ok ((plusG A B).map rowD) s := by
    have hz := zipD_length (A.map rowD) (B.map rowD)
    rw [List.length_map] at hz
    rw [ap_cComp, lp5, Out.bind_ok, if_pos (by omega)]
    rw [zip_comp (i := 2) (j := 3) (fe := eSl gTuple (eL (eFr (cComp (iZp (eVar 2) (eVar 3)) (gTp [4, 5]) mYes (eBin gAdd (eVar 4) (eVar 5)) [4, 5])))) (ρ := wipeE [some (.d G), some (.d G2), none, none, none, none] [2, 3]) (s := s) (g := rowD) (g' := rowD) (f := fun r l => rowD (List.zipWith (· + ·) r l)) A B fun a ha b _ => lp2 (zip_rows (x := .none) (y := .none) 4 5 lp4 (by rw [ga.len a ha]; omega) fun _ _ _ _ => lp3)]
    unfold plusG
    rw [List.map_zipWith]
  exact lp1 c
theorem lc1 {s : Sto} {a n : PyData} {rs ys : List PyData}
    (c : cComp (iSq (eIx (lVar 0) (eC (.int 1)))) (gNm 2) mYes (eSl gTuple (eL (eFr (cComp (iSq (eVar 2)) (gNm 3) mYes (eBin Mir.gMulA (eVar 1) (eVar 3)) [3])))) [2] [some (.d (.tuple [a, .tuple rs])), some (.d n), none, none] s = .ok ys s) :
    run_law_jg_scaled [.d (.tuple [a, .tuple rs]), .d n] s = .ok (.tuple [a, .tuple ys]) s := by
  simp -implicitDefEqProofs [Math.ap_eVar, Math.ap_lVar, Math.ap_eC, Math.ap_eL, Math.ap_eUn, Math.ap_eBin, Math.ap_eAnd, Math.ap_eOr, Math.ap_eNot, Math.ap_mE, Math.ap_mNot, Math.ap_mAnd, Math.ap_mOr, Math.ap_eIf, Math.ap_aNil, Math.ap_aCons, Math.ap_dNil, Math.ap_dCons, Math.ap_eTup, Math.ap_cLst, Math.ap_eFr, Math.ap_eIx, Math.ap_eSl, Math.ap_cList, Math.ap_eCall, Math.ap_cCall, Math.ap_mSeq, Math.ap_mNil, Math.ap_mSet, Math.ap_mSetC, Math.ap_mRet, Math.ap_mRetN, Math.ap_mRetL, Math.ap_mDrop, Math.ap_mIf, Math.ap_mNever, Math.ap_mPar, Math.ap_mPar3, Math.ap_mPut, Math.ap_mApp, Math.ap_mTo, Math.ap_mYes, Math.ap_iSq, Math.ap_iZp, Math.ap_iEn, Math.ap_mRetC, Math.ap_eCh, Math.ap_noPart, Math.ap_aPart, Math.ap_eSlice, Math.ap_mkF, Math.ap_mkC, Mir.env0, Mir.fin, Mir.finC, Mir.thenDo, Mir.toFl, Mir.wipeE, Mir.itemsOf, Mir.orBad, Mir.gNm, Mir.gTp, Mir.gNms, Mir.Out.bind, Mir.gIx, Mir.seqOf, Mir.gLen, Mir.gTuple, Mir.gAbs, Mir.gInt, Mir.gCmp, Mir.gI, Mir.gAdd, Mir.gSub, Mir.gNeg, Mir.gBols, Mir.gInts, Mir.gChain, Mir.nxO, Mir.putAt, Mir.appAt, Mir.isC, L2.atI, L2.ixN, Math.eIsi_tuple, Math.eIsi_int, Math.eIsi_bool, Math.gEq_int, Math.gEq_bool, run_law_jg_scaled, c]
theorem lc2 {s : Sto} {x n d : PyData} {ys : List PyData} (c : cComp (iSq (eVar 2)) (gNm 3) mYes (eBin Mir.gMulA (eVar 1) (eVar 3)) [3] [some (.d x), some (.d n), some (.d d), none] s = .ok ys s) :
    eSl gTuple (eL (eFr (cComp (iSq (eVar 2)) (gNm 3) mYes (eBin Mir.gMulA (eVar 1) (eVar 3)) [3]))) [some (.d x), some (.d n), some (.d d), none] s = .ok (.tuple ys) s := by
  simp -implicitDefEqProofs [Math.ap_eVar, Math.ap_lVar, Math.ap_eC, Math.ap_eL, Math.ap_eUn, Math.ap_eBin, Math.ap_eAnd, Math.ap_eOr, Math.ap_eNot, Math.ap_mE, Math.ap_mNot, Math.ap_mAnd, Math.ap_mOr, Math.ap_eIf, Math.ap_aNil, Math.ap_aCons, Math.ap_dNil, Math.ap_dCons, Math.ap_eTup, Math.ap_cLst, Math.ap_eFr, Math.ap_eIx, Math.ap_eSl, Math.ap_cList, Math.ap_eCall, Math.ap_cCall, Math.ap_mSeq, Math.ap_mNil, Math.ap_mSet, Math.ap_mSetC, Math.ap_mRet, Math.ap_mRetN, Math.ap_mRetL, Math.ap_mDrop, Math.ap_mIf, Math.ap_mNever, Math.ap_mPar, Math.ap_mPar3, Math.ap_mPut, Math.ap_mApp, Math.ap_mTo, Math.ap_mYes, Math.ap_iSq, Math.ap_iZp, Math.ap_iEn, Math.ap_mRetC, Math.ap_eCh, Math.ap_noPart, Math.ap_aPart, Math.ap_eSlice, Math.ap_mkF, Math.ap_mkC, Mir.env0, Mir.fin, Mir.finC, Mir.thenDo, Mir.toFl, Mir.wipeE, Mir.itemsOf, Mir.orBad, Mir.gNm, Mir.gTp, Mir.gNms, Mir.Out.bind, Mir.gIx, Mir.seqOf, Mir.gLen, Mir.gTuple, Mir.gAbs, Mir.gInt, Mir.gCmp, Mir.gI, Mir.gAdd, Mir.gSub, Mir.gNeg, Mir.gBols, Mir.gInts, Mir.gChain, Mir.nxO, Mir.putAt, Mir.appAt, Mir.isC, L2.atI, L2.ixN, Math.eIsi_tuple, Math.eIsi_int, Math.eIsi_bool, Math.gEq_int, Math.gEq_bool, c]
theorem jg_scaled {s : Sto} {w : Nat} {A : List (List Int)} {n : Int} (ga : GridOk w A) (hn : Few n) : run_law_jg_scaled [.d (grid_D w A), .d (.int n)] s = .ok (grid_D w (scaledG n A)) s := by
  have hw := ga.wide
  have hh := ga.high
  have c := comp_mapL (it := iSq (eIx (lVar 0) (eC (.int 1)))) (k := 2) (fe := eSl gTuple (eL (eFr (cComp (iSq (eVar 2)) (gNm 3) mYes (eBin Mir.gMulA (eVar 1) (eVar 3)) [3])))) (ρ := [some (.d (.tuple [.int (w : Int), .tuple (A.map rowD)])), some (.d (.int n)), none, none]) (s := s)
    rowD (fun r => rowD (r.map (n * ·))) A rfl (by omega) fun r hr => by
    refine lc2 ?_
    have q := comp_mapL (it := iSq (eVar 2)) (k := 3) (fe := eBin Mir.gMulA (eVar 1) (eVar 3)) (ρ := [some (.d (.tuple [.int (w : Int), .tuple (A.map rowD)])), some (.d (.int n)), some (.d (rowD r)), none]) (s := s) PyData.int (fun a => .int (n * a)) r rfl (by rw [ga.len r hr]; omega) fun a _ => pm3 hn
    rw [q, List.map_map]
    rfl
  have e : A.map (fun r => rowD (r.map (n * ·))) = (scaledG n A).map rowD := by
    unfold scaledG
    rw [List.map_map]
    rfl
  rw [e] at c
  exact lc1 c
theorem lb1 {s : Sto} {a b : Int} {xs ys zs : List PyData}
    (c : cComp (iZp (eIx (lVar 0) (eC (.int 1))) (eIx (lVar 1) (eC (.int 1)))) (gTp [2, 3]) mYes (eBin gAdd (eVar 2) (eVar 3)) [2, 3] [some (.d (.tuple [.int a, .tuple xs])), some (.d (.tuple [.int b, .tuple ys])), none, none] s = .ok zs s) :
    run_law_jg_beside [.d (.tuple [.int a, .tuple xs]), .d (.tuple [.int b, .tuple ys])] s = .ok (.tuple [.int (a + b), .tuple zs]) s := by
  simp -implicitDefEqProofs [Math.ap_eVar, Math.ap_lVar, Math.ap_eC, Math.ap_eL, Math.ap_eUn, Math.ap_eBin, Math.ap_eAnd, Math.ap_eOr, Math.ap_eNot, Math.ap_mE, Math.ap_mNot, Math.ap_mAnd, Math.ap_mOr, Math.ap_eIf, Math.ap_aNil, Math.ap_aCons, Math.ap_dNil, Math.ap_dCons, Math.ap_eTup, Math.ap_cLst, Math.ap_eFr, Math.ap_eIx, Math.ap_eSl, Math.ap_cList, Math.ap_eCall, Math.ap_cCall, Math.ap_mSeq, Math.ap_mNil, Math.ap_mSet, Math.ap_mSetC, Math.ap_mRet, Math.ap_mRetN, Math.ap_mRetL, Math.ap_mDrop, Math.ap_mIf, Math.ap_mNever, Math.ap_mPar, Math.ap_mPar3, Math.ap_mPut, Math.ap_mApp, Math.ap_mTo, Math.ap_mYes, Math.ap_iSq, Math.ap_iZp, Math.ap_iEn, Math.ap_mRetC, Math.ap_eCh, Math.ap_noPart, Math.ap_aPart, Math.ap_eSlice, Math.ap_mkF, Math.ap_mkC, Mir.env0, Mir.fin, Mir.finC, Mir.thenDo, Mir.toFl, Mir.wipeE, Mir.itemsOf, Mir.orBad, Mir.gNm, Mir.gTp, Mir.gNms, Mir.Out.bind, Mir.gIx, Mir.seqOf, Mir.gLen, Mir.gTuple, Mir.gAbs, Mir.gInt, Mir.gCmp, Mir.gI, Mir.gAdd, Mir.gSub, Mir.gNeg, Mir.gBols, Mir.gInts, Mir.gChain, Mir.nxO, Mir.putAt, Mir.appAt, Mir.isC, L2.atI, L2.ixN, Math.eIsi_tuple, Math.eIsi_int, Math.eIsi_bool, Math.gEq_int, Math.gEq_bool, run_law_jg_beside, c]
theorem jg_beside {s : Sto} {w v : Nat} {A B : List (List Int)} (ga : GridOk w A) (gb : GridOk v B) : run_law_jg_beside [.d (grid_D w A), .d (grid_D v B)] s = .ok (grid_D (w + v) (besideG A B)) s := by
  have hA := ga.high
  have hw := ga.wide
  have hv := gb.wide
  let G : PyData := .tuple [.int (w : Int), .tuple (A.map rowD)]
  let G2 : PyData := .tuple [.int (v : Int), .tuple (B.map rowD)]
  have c : cComp (iZp (eIx (lVar 0) (eC (.int 1))) (eIx (lVar 1) (eC (.int 1)))) (gTp [2, 3]) mYes (eBin gAdd (eVar 2) (eVar 3)) [2, 3] [some (.d G), some (.d G2), none, none] s = .ok ((besideG A B).map rowD) s := by
    have hz := zipD_length (A.map rowD) (B.map rowD)
    rw [List.length_map] at hz
    rw [ap_cComp, be3, Out.bind_ok, if_pos (by omega)]
    have q := zip_comp (i := 2) (j := 3) (fe := eBin gAdd (eVar 2) (eVar 3)) (ρ := wipeE [some (.d G), some (.d G2), none, none] [2, 3]) (s := s) (g := rowD) (g' := rowD) (f := fun a b => rowD (a ++ b)) A B fun a ha b hb => by
      have h1 := ga.len a ha
      have h2 := gb.len b hb
      have e := be2 (s := s) (x := G) (y := G2) (xs := a.map .int) (ys := b.map .int) (by rw [List.length_map, List.length_map]; omega)
      unfold rowD
      rw [List.map_append]
      exact e
    rw [q]
    unfold besideG
    rw [List.map_zipWith]
  have q := lb1 c
  unfold grid_D
  rw [q]
  rfl
end Math
/-! # k01: the draws, the first half -/
namespace Math
open PySem Mir Fn
theorem gEq_row (neg : Bool) (r : List Int) (s : Sto) : gEq neg (rowD r) (rowD r) s = .ok (.bool (neg != true)) s := by
  rw [gEq_sh ((sh_row r).mono (by decide)) ((sh_row r).mono (by decide)), eqv_row]
def pfBody : MS := mSeq (mIf (mE (eBin (gEq true) (eCall 2 run_row_sum (aCons (lVar 8) (aCons (lVar 9) aNil))) (eSl gTuple (eL (eFr (cComp (iZp (eVar 8) (eVar 9)) (gTp [13, 14]) mYes (eBin gAdd (eVar 13) (eVar 14)) [13, 14]))))))
    (mRet (eC (.bool false)))
    mNil)
    (mIf (mE (eBin (gEq true) (eCall 2 run_row_difference (aCons (lVar 8) (aCons (lVar 9) aNil))) (eSl gTuple (eL (eFr (cComp (iZp (eVar 8) (eVar 9)) (gTp [13, 14]) mYes (eBin gSub (eVar 13) (eVar 14)) [13, 14]))))))
    (mRet (eC (.bool false)))
    mNil)
theorem pf1 {s : Sto} {a0 a1 a2 a3 a4 a5 a6 a7 a10 a11 a12 a13 a14 : Option Sl} {x y : PyData} {zs ds : List PyData}
    (e1 : run_row_sum [.d x, .d y] s = .ok (.tuple zs) s) (c1 : cComp (iZp (eVar 8) (eVar 9)) (gTp [13, 14]) mYes (eBin gAdd (eVar 13) (eVar 14)) [13, 14] [a0, a1, a2, a3, a4, a5, a6, a7, some (.d x), some (.d y), a10, a11, a12, a13, a14] s = .ok zs s)
    (e2 : run_row_difference [.d x, .d y] s = .ok (.tuple ds) s) (c2 : cComp (iZp (eVar 8) (eVar 9)) (gTp [13, 14]) mYes (eBin gSub (eVar 13) (eVar 14)) [13, 14] [a0, a1, a2, a3, a4, a5, a6, a7, some (.d x), some (.d y), a10, a11, a12, a13, a14] s = .ok ds s)
    (q1 : gEq true (.tuple zs) (.tuple zs) s = .ok (.bool false) s) (q2 : gEq true (.tuple ds) (.tuple ds) s = .ok (.bool false) s) :
    pfBody [a0, a1, a2, a3, a4, a5, a6, a7, some (.d x), some (.d y), a10, a11, a12, a13, a14] s = .nx [a0, a1, a2, a3, a4, a5, a6, a7, some (.d x), some (.d y), a10, a11, a12, a13, a14] s := by
  simp -implicitDefEqProofs [Math.ap_eVar, Math.ap_lVar, Math.ap_eC, Math.ap_eL, Math.ap_eUn, Math.ap_eBin, Math.ap_eAnd, Math.ap_eOr, Math.ap_eNot, Math.ap_mE, Math.ap_mNot, Math.ap_mAnd, Math.ap_mOr, Math.ap_eIf, Math.ap_aNil, Math.ap_aCons, Math.ap_dNil, Math.ap_dCons, Math.ap_eTup, Math.ap_cLst, Math.ap_eFr, Math.ap_eIx, Math.ap_eSl, Math.ap_cList, Math.ap_eCall, Math.ap_cCall, Math.ap_mSeq, Math.ap_mNil, Math.ap_mSet, Math.ap_mSetC, Math.ap_mRet, Math.ap_mRetN, Math.ap_mRetL, Math.ap_mDrop, Math.ap_mIf, Math.ap_mNever, Math.ap_mPar, Math.ap_mPar3, Math.ap_mPut, Math.ap_mApp, Math.ap_mTo, Math.ap_mYes, Math.ap_iSq, Math.ap_iZp, Math.ap_iEn, Math.ap_mRetC, Math.ap_eCh, Math.ap_noPart, Math.ap_aPart, Math.ap_eSlice, Math.ap_mkF, Math.ap_mkC, Mir.env0, Mir.fin, Mir.finC, Mir.thenDo, Mir.toFl, Mir.wipeE, Mir.itemsOf, Mir.orBad, Mir.gNm, Mir.gTp, Mir.gNms, Mir.Out.bind, Mir.gIx, Mir.seqOf, Mir.gLen, Mir.gTuple, Mir.gAbs, Mir.gInt, Mir.gCmp, Mir.gI, Mir.gAdd, Mir.gSub, Mir.gNeg, Mir.gBols, Mir.gInts, Mir.gChain, Mir.nxO, Mir.putAt, Mir.appAt, Mir.isC, L2.atI, L2.ixN, Math.eIsi_tuple, Math.eIsi_int, Math.eIsi_bool, Math.gEq_int, Math.gEq_bool, pfBody, e1, c1, e2, c2, q1, q2]
theorem pf2 {s : Sto} {a0 a1 a2 a3 a4 a5 a6 a7 a10 a11 a12 a13 a14 : Option Sl} {xs ys : List PyData} : iZp (eVar 8) (eVar 9) [a0, a1, a2, a3, a4, a5, a6, a7, some (.d (.tuple xs)), some (.d (.tuple ys)), a10, a11, a12, a13, a14] s = .ok (zipD xs ys) s := by
  simp -implicitDefEqProofs [Math.ap_eVar, Math.ap_lVar, Math.ap_eC, Math.ap_eL, Math.ap_eUn, Math.ap_eBin, Math.ap_eAnd, Math.ap_eOr, Math.ap_eNot, Math.ap_mE, Math.ap_mNot, Math.ap_mAnd, Math.ap_mOr, Math.ap_eIf, Math.ap_aNil, Math.ap_aCons, Math.ap_dNil, Math.ap_dCons, Math.ap_eTup, Math.ap_cLst, Math.ap_eFr, Math.ap_eIx, Math.ap_eSl, Math.ap_cList, Math.ap_eCall, Math.ap_cCall, Math.ap_mSeq, Math.ap_mNil, Math.ap_mSet, Math.ap_mSetC, Math.ap_mRet, Math.ap_mRetN, Math.ap_mRetL, Math.ap_mDrop, Math.ap_mIf, Math.ap_mNever, Math.ap_mPar, Math.ap_mPar3, Math.ap_mPut, Math.ap_mApp, Math.ap_mTo, Math.ap_mYes, Math.ap_iSq, Math.ap_iZp, Math.ap_iEn, Math.ap_mRetC, Math.ap_eCh, Math.ap_noPart, Math.ap_aPart, Math.ap_eSlice, Math.ap_mkF, Math.ap_mkC, Mir.env0, Mir.fin, Mir.finC, Mir.thenDo, Mir.toFl, Mir.wipeE, Mir.itemsOf, Mir.orBad, Mir.gNm, Mir.gTp, Mir.gNms, Mir.Out.bind, Mir.gIx, Mir.seqOf, Mir.gLen, Mir.gTuple, Mir.gAbs, Mir.gInt, Mir.gCmp, Mir.gI, Mir.gAdd, Mir.gSub, Mir.gNeg, Mir.gBols, Mir.gInts, Mir.gChain, Mir.nxO, Mir.putAt, Mir.appAt, Mir.isC, L2.atI, L2.ixN, Math.eIsi_tuple, Math.eIsi_int, Math.eIsi_bool, Math.gEq_int, Math.gEq_bool]
theorem pf3 {s : Sto} {a0 a1 a2 a3 a4 a5 a6 a7 a8 a9 a10 a11 a12 : Option Sl} {a b : Int} : eBin gAdd (eVar 13) (eVar 14) [a0, a1, a2, a3, a4, a5, a6, a7, a8, a9, a10, a11, a12, some (.d (.int a)), some (.d (.int b))] s = .ok (.int (a + b)) s := by
  simp -implicitDefEqProofs [Math.ap_eVar, Math.ap_lVar, Math.ap_eC, Math.ap_eL, Math.ap_eUn, Math.ap_eBin, Math.ap_eAnd, Math.ap_eOr, Math.ap_eNot, Math.ap_mE, Math.ap_mNot, Math.ap_mAnd, Math.ap_mOr, Math.ap_eIf, Math.ap_aNil, Math.ap_aCons, Math.ap_dNil, Math.ap_dCons, Math.ap_eTup, Math.ap_cLst, Math.ap_eFr, Math.ap_eIx, Math.ap_eSl, Math.ap_cList, Math.ap_eCall, Math.ap_cCall, Math.ap_mSeq, Math.ap_mNil, Math.ap_mSet, Math.ap_mSetC, Math.ap_mRet, Math.ap_mRetN, Math.ap_mRetL, Math.ap_mDrop, Math.ap_mIf, Math.ap_mNever, Math.ap_mPar, Math.ap_mPar3, Math.ap_mPut, Math.ap_mApp, Math.ap_mTo, Math.ap_mYes, Math.ap_iSq, Math.ap_iZp, Math.ap_iEn, Math.ap_mRetC, Math.ap_eCh, Math.ap_noPart, Math.ap_aPart, Math.ap_eSlice, Math.ap_mkF, Math.ap_mkC, Mir.env0, Mir.fin, Mir.finC, Mir.thenDo, Mir.toFl, Mir.wipeE, Mir.itemsOf, Mir.orBad, Mir.gNm, Mir.gTp, Mir.gNms, Mir.Out.bind, Mir.gIx, Mir.seqOf, Mir.gLen, Mir.gTuple, Mir.gAbs, Mir.gInt, Mir.gCmp, Mir.gI, Mir.gAdd, Mir.gSub, Mir.gNeg, Mir.gBols, Mir.gInts, Mir.gChain, Mir.nxO, Mir.putAt, Mir.appAt, Mir.isC, L2.atI, L2.ixN, Math.eIsi_tuple, Math.eIsi_int, Math.eIsi_bool, Math.gEq_int, Math.gEq_bool]
theorem pf4 {s : Sto} {a0 a1 a2 a3 a4 a5 a6 a7 a8 a9 a10 a11 a12 : Option Sl} {a b : Int} : eBin gSub (eVar 13) (eVar 14) [a0, a1, a2, a3, a4, a5, a6, a7, a8, a9, a10, a11, a12, some (.d (.int a)), some (.d (.int b))] s = .ok (.int (a - b)) s := by
  simp -implicitDefEqProofs [Math.ap_eVar, Math.ap_lVar, Math.ap_eC, Math.ap_eL, Math.ap_eUn, Math.ap_eBin, Math.ap_eAnd, Math.ap_eOr, Math.ap_eNot, Math.ap_mE, Math.ap_mNot, Math.ap_mAnd, Math.ap_mOr, Math.ap_eIf, Math.ap_aNil, Math.ap_aCons, Math.ap_dNil, Math.ap_dCons, Math.ap_eTup, Math.ap_cLst, Math.ap_eFr, Math.ap_eIx, Math.ap_eSl, Math.ap_cList, Math.ap_eCall, Math.ap_cCall, Math.ap_mSeq, Math.ap_mNil, Math.ap_mSet, Math.ap_mSetC, Math.ap_mRet, Math.ap_mRetN, Math.ap_mRetL, Math.ap_mDrop, Math.ap_mIf, Math.ap_mNever, Math.ap_mPar, Math.ap_mPar3, Math.ap_mPut, Math.ap_mApp, Math.ap_mTo, Math.ap_mYes, Math.ap_iSq, Math.ap_iZp, Math.ap_iEn, Math.ap_mRetC, Math.ap_eCh, Math.ap_noPart, Math.ap_aPart, Math.ap_eSlice, Math.ap_mkF, Math.ap_mkC, Mir.env0, Mir.fin, Mir.finC, Mir.thenDo, Mir.toFl, Mir.wipeE, Mir.itemsOf, Mir.orBad, Mir.gNm, Mir.gTp, Mir.gNms, Mir.Out.bind, Mir.gIx, Mir.seqOf, Mir.gLen, Mir.gTuple, Mir.gAbs, Mir.gInt, Mir.gCmp, Mir.gI, Mir.gAdd, Mir.gSub, Mir.gNeg, Mir.gBols, Mir.gInts, Mir.gChain, Mir.nxO, Mir.putAt, Mir.appAt, Mir.isC, L2.atI, L2.ixN, Math.eIsi_tuple, Math.eIsi_int, Math.eIsi_bool, Math.gEq_int, Math.gEq_bool]
theorem pf_loop {s : Sto} {w : Nat} {a0 a1 a2 a3 a4 a5 a6 a7 a10 a11 a12 a13 a14 : Option Sl} : ∀ (A B : List (List Int)) (a8 a9 : Option Sl), (∀ r ∈ A, RowOk w r) → (∀ r ∈ B, RowOk w r) →
    ∃ b8 b9, forL (gTp [8, 9]) pfBody (zipD (A.map rowD) (B.map rowD)) [a0, a1, a2, a3, a4, a5, a6, a7, a8, a9, a10, a11, a12, a13, a14] s = .nx [a0, a1, a2, a3, a4, a5, a6, a7, b8, b9, a10, a11, a12, a13, a14] s
  | [], _, a8, a9, _, _ => ⟨a8, a9, by simp [zipD, forL]⟩
  | _ :: _, [], a8, a9, _, _ => ⟨a8, a9, by simp [zipD, forL]⟩
  | r :: A, c :: B, a8, a9, hA, hB => by
    obtain ⟨b8, b9, e⟩ := pf_loop (s := s) (w := w) (a0 := a0) (a1 := a1) (a2 := a2) (a3 := a3) (a4 := a4) (a5 := a5) (a6 := a6) (a7 := a7) (a10 := a10) (a11 := a11) (a12 := a12) (a13 := a13) (a14 := a14) A B (some (.d (rowD r))) (some (.d (rowD c))) (fun x hx => hA x (by simp [hx])) fun x hx => hB x (by simp [hx])
    refine ⟨b8, b9, ?_⟩
    have hr := hA r (by simp)
    have hc := hB c (by simp)
    have hl := hr.wide
    have l := hr.len
    have eg : gTp [8, 9] (.tuple [rowD r, rowD c]) [a0, a1, a2, a3, a4, a5, a6, a7, a8, a9, a10, a11, a12, a13, a14] = some [a0, a1, a2, a3, a4, a5, a6, a7, some (.d (rowD r)), some (.d (rowD c)), a10, a11, a12, a13, a14] := rfl
    have e2 := pf1 (a0 := a0) (a1 := a1) (a2 := a2) (a3 := a3) (a4 := a4) (a5 := a5) (a6 := a6) (a7 := a7) (a10 := a10) (a11 := a11) (a12 := a12) (a13 := a13) (a14 := a14) (row_sum (s := s) hr hc) (zip_rows (x := .none) (y := .none) 13 14 pf2 (by omega) fun _ _ _ _ => pf3) (row_difference hr hc) (zip_rows (x := .none) (y := .none) 13 14 pf2 (by omega) fun _ _ _ _ => pf4) (gEq_row true _ s) (gEq_row true _ s)
    rw [List.map_cons, List.map_cons]
    unfold zipD forL
    rw [eg]
    have e3 : pfBody [a0, a1, a2, a3, a4, a5, a6, a7, some (.d (rowD r)), some (.d (rowD c)), a10, a11, a12, a13, a14] s = .nx [a0, a1, a2, a3, a4, a5, a6, a7, some (.d (rowD r)), some (.d (rowD c)), a10, a11, a12, a13, a14] s := e2
    simp only [e3]
    exact e
theorem pr1k {n : Nat} {s s1 s2 s3 s4 s5 s6 s7 s8 s9 : Sto} {a b m k : Int} {rs ls rms l1 l2 as bs : List PyData} {tt su mu di nb bb th pp dd : PyData} {u v : Option Sl}
    (e1 : run_law_up_to [.c n, .d (.int 6)] s = .ok (.int a) s1) (e2 : run_law_up_to [.c n, .d (.int 6)] s1 = .ok (.int b) s2) (e3 : run_law_jg_entry [.c n] s2 = .ok (.int m) s3)
    (e4 : run_law_jg_wide [.c n, .d (.int a), .d (.int b)] s3 = .ok (.tuple [.int b, .tuple as]) s4) (e5 : run_law_jg_wide [.c n, .d (.int a), .d (.int b)] s4 = .ok (.tuple [.int b, .tuple bs]) s5)
    (e6 : cComp (iRg1 (eVar 2)) (gNm 11) mYes (eCall 1 run_law_jg_entry (aCons (lVar 0) aNil)) [11] [some (.c n), some (.d (.int a)), some (.d (.int b)), some (.d (.int m)), some (.d (.tuple [.int b, .tuple as])), some (.d (.tuple [.int b, .tuple bs])), none, none, none, none, none, none, none, none, none] s5 = .ok rs s6)
    (e7 : cComp (iRg1 (eVar 1)) (gNm 11) mYes (eCall 1 run_law_jg_entry (aCons (lVar 0) aNil)) [11] [some (.c n), some (.d (.int a)), some (.d (.int b)), some (.d (.int m)), some (.d (.tuple [.int b, .tuple as])), some (.d (.tuple [.int b, .tuple bs])), some (.d (.tuple rs)), none, none, none, none, none, none, none, none] s6 = .ok ls s7)
    (c1 : run_led [.d (.tuple [.int b, .tuple as]), .d (.tuple rs)] s7 = .ok (.tuple l1) s7) (c1' : run_law_lead [.d (.tuple [.int b, .tuple as]), .d (.tuple rs)] s7 = .ok (.tuple l1) s7) (q1 : gEq true (.tuple l1) (.tuple l1) s7 = .ok (.bool false) s7)
    (c2 : run_read_by [.d (.tuple ls), .d (.tuple [.int b, .tuple as])] s7 = .ok (.tuple l2) s7) (c2' : run_law_lead [.d tt, .d (.tuple ls)] s7 = .ok (.tuple l2) s7) (q2 : gEq true (.tuple l2) (.tuple l2) s7 = .ok (.bool false) s7)
    (c3 : run_turned [.d (.tuple [.int b, .tuple as])] s7 = .ok tt s7) (c3' : run_law_turn [.d (.tuple [.int b, .tuple as])] s7 = .ok tt s7) (q3 : gEq true tt tt s7 = .ok (.bool false) s7)
    (c4 : run_turned [.d tt] s7 = .ok (.tuple [.int b, .tuple as]) s7) (q4 : gEq true (.tuple [.int b, .tuple as]) (.tuple [.int b, .tuple as]) s7 = .ok (.bool false) s7)
    (c5 : run_grid_sum [.d (.tuple [.int b, .tuple as]), .d (.tuple [.int b, .tuple bs])] s7 = .ok su s7) (c5' : run_law_jg_plus [.d (.tuple [.int b, .tuple as]), .d (.tuple [.int b, .tuple bs])] s7 = .ok su s7) (q5 : gEq true su su s7 = .ok (.bool false) s7)
    (c6 : run_grid_multiple [.d (.tuple [.int b, .tuple as]), .d (.int m)] s7 = .ok mu s7) (c6' : run_law_jg_scaled [.d (.tuple [.int b, .tuple as]), .d (.int m)] s7 = .ok mu s7) (q6 : gEq true mu mu s7 = .ok (.bool false) s7)
    (c7 : run_row_multiple [.d (.tuple rs), .d (.int m)] s7 = .ok (.tuple rms) s7)
    (c7' : cComp (iSq (eVar 6)) (gNm 12) mYes (eBin Mir.gMulA (eVar 3) (eVar 12)) [12] [some (.c n), some (.d (.int a)), some (.d (.int b)), some (.d (.int m)), some (.d (.tuple [.int b, .tuple as])), some (.d (.tuple [.int b, .tuple bs])), some (.d (.tuple rs)), some (.d (.tuple ls)), none, none, none, none, none, none, none] s7 = .ok rms s7)
    (q7 : gEq true (.tuple rms) (.tuple rms) s7 = .ok (.bool false) s7)
    (c8 : run_grid_difference [.d (.tuple [.int b, .tuple as]), .d (.tuple [.int b, .tuple bs])] s7 = .ok di s7) (c8' : run_law_jg_scaled [.d (.tuple [.int b, .tuple bs]), .d (.int (-1))] s7 = .ok nb s7) (c8'' : run_law_jg_plus [.d (.tuple [.int b, .tuple as]), .d nb] s7 = .ok di s7) (q8 : gEq true di di s7 = .ok (.bool false) s7)
    (c9 : run_beside [.d (.tuple [.int b, .tuple as]), .d (.tuple [.int b, .tuple bs])] s7 = .ok bb s7) (c9' : run_law_jg_beside [.d (.tuple [.int b, .tuple as]), .d (.tuple [.int b, .tuple bs])] s7 = .ok bb s7) (q9 : gEq true bb bb s7 = .ok (.bool false) s7)
    (c10 : run_over [.d (.tuple [.int b, .tuple as]), .d (.tuple [.int b, .tuple bs])] s7 = .ok (.tuple [.int b, .tuple (as ++ bs)]) s7) (hl : as.length + bs.length ≤ 100000) (q10 : gEq true (.tuple [.int b, .tuple (as ++ bs)]) (.tuple [.int b, .tuple (as ++ bs)]) s7 = .ok (.bool false) s7)
    (c11 : run_dot [.d (.tuple rs), .d (.tuple rs)] s7 = .ok dd s7) (c11' : run_law_dot [.d (.tuple rs), .d (.tuple rs)] s7 = .ok dd s7) (q11 : gEq true dd dd s7 = .ok (.bool false) s7)
    (lp : forL (gTp [8, 9]) (mSeq (mIf (mE (eBin (gEq true) (eCall 2 run_row_sum (aCons (lVar 8) (aCons (lVar 9) aNil))) (eSl gTuple (eL (eFr (cComp (iZp (eVar 8) (eVar 9)) (gTp [13, 14]) mYes (eBin gAdd (eVar 13) (eVar 14)) [13, 14]))))))
      (mRet (eC (.bool false)))
      mNil)
      (mIf (mE (eBin (gEq true) (eCall 2 run_row_difference (aCons (lVar 8) (aCons (lVar 9) aNil))) (eSl gTuple (eL (eFr (cComp (iZp (eVar 8) (eVar 9)) (gTp [13, 14]) mYes (eBin gSub (eVar 13) (eVar 14)) [13, 14]))))))
      (mRet (eC (.bool false)))
      mNil)) (zipD as bs) [some (.c n), some (.d (.int a)), some (.d (.int b)), some (.d (.int m)), some (.d (.tuple [.int b, .tuple as])), some (.d (.tuple [.int b, .tuple bs])), some (.d (.tuple rs)), some (.d (.tuple ls)), none, none, none, none, none, none, none] s7
      = .nx [some (.c n), some (.d (.int a)), some (.d (.int b)), some (.d (.int m)), some (.d (.tuple [.int b, .tuple as])), some (.d (.tuple [.int b, .tuple bs])), some (.d (.tuple rs)), some (.d (.tuple ls)), u, v, none, none, none, none, none] s7)
    (e8 : run_law_up_to [.c n, .d (.int 6)] s7 = .ok (.int k) s8) (e9 : run_law_jg_wide [.c n, .d (.int b), .d (.int k)] s8 = .ok th s9)
    (c12 : run_grid_product [.d (.tuple [.int b, .tuple as]), .d th] s9 = .ok pp s9) (c12' : run_law_times [.d (.tuple [.int b, .tuple as]), .d th] s9 = .ok pp s9) (q12 : gEq false pp pp s9 = .ok (.bool true) s9)
    (ht : List.take (List.length s) s9 = s9) : run_law_plain_right [.c n] s = .ok (.bool true) s9 := by
  simp -implicitDefEqProofs [Math.ap_eVar, Math.ap_lVar, Math.ap_eC, Math.ap_eL, Math.ap_eUn, Math.ap_eBin, Math.ap_eAnd, Math.ap_eOr, Math.ap_eNot, Math.ap_mE, Math.ap_mNot, Math.ap_mAnd, Math.ap_mOr, Math.ap_eIf, Math.ap_aNil, Math.ap_aCons, Math.ap_dNil, Math.ap_dCons, Math.ap_eTup, Math.ap_cLst, Math.ap_eFr, Math.ap_eIx, Math.ap_eSl, Math.ap_cList, Math.ap_eCall, Math.ap_cCall, Math.ap_mSeq, Math.ap_mNil, Math.ap_mSet, Math.ap_mSetC, Math.ap_mRet, Math.ap_mRetN, Math.ap_mRetL, Math.ap_mDrop, Math.ap_mIf, Math.ap_mNever, Math.ap_mPar, Math.ap_mPar3, Math.ap_mPut, Math.ap_mApp, Math.ap_mTo, Math.ap_mYes, Math.ap_iSq, Math.ap_iZp, Math.ap_iEn, Math.ap_mRetC, Math.ap_eCh, Math.ap_noPart, Math.ap_aPart, Math.ap_eSlice, Math.ap_mkF, Math.ap_mkC, Mir.env0, Mir.fin, Mir.finC, Mir.thenDo, Mir.toFl, Mir.wipeE, Mir.itemsOf, Mir.orBad, Mir.gNm, Mir.gTp, Mir.gNms, Mir.Out.bind, Mir.gIx, Mir.seqOf, Mir.gLen, Mir.gTuple, Mir.gAbs, Mir.gInt, Mir.gCmp, Mir.gI, Mir.gAdd, Mir.gSub, Mir.gNeg, Mir.gBols, Mir.gInts, Mir.gChain, Mir.nxO, Mir.putAt, Mir.appAt, Mir.isC, L2.atI, L2.ixN, Math.eIsi_tuple, Math.eIsi_int, Math.eIsi_bool, Math.gEq_int, Math.gEq_bool, run_law_plain_right, ap_mFor, e1, e2, e3, e4, e5, e6, e7, c1, c1', q1, c2, c2', q2, c3, c3', q3, c4, q4, c5, c5', q5, c6, c6', q6, c7, c7', q7, c8, c8', c8'', q8, c9, c9', q9, c10, hl, q10, c11, c11', q11, lp, e8, e9, c12, c12', q12, ht]
end Math
/-! # k01: the first half, whole -/
namespace Math
open PySem Mir Fn
theorem rm12 {s : Sto} {a0 a1 a2 a4 a5 a6 a7 a8 a9 a10 a11 a13 a14 : Option Sl} {n a : Int} (h : Few n) : eBin Mir.gMulA (eVar 3) (eVar 12) [a0, a1, a2, some (.d (.int n)), a4, a5, a6, a7, a8, a9, a10, a11, some (.d (.int a)), a13, a14] s = .ok (.int (n * a)) s := by
  have hc : CMulB n a := .inl (by unfold Few at h; omega)
  simp -implicitDefEqProofs [Math.ap_eVar, Math.ap_lVar, Math.ap_eC, Math.ap_eL, Math.ap_eUn, Math.ap_eBin, Math.ap_eAnd, Math.ap_eOr, Math.ap_eNot, Math.ap_mE, Math.ap_mNot, Math.ap_mAnd, Math.ap_mOr, Math.ap_eIf, Math.ap_aNil, Math.ap_aCons, Math.ap_dNil, Math.ap_dCons, Math.ap_eTup, Math.ap_cLst, Math.ap_eFr, Math.ap_eIx, Math.ap_eSl, Math.ap_cList, Math.ap_eCall, Math.ap_cCall, Math.ap_mSeq, Math.ap_mNil, Math.ap_mSet, Math.ap_mSetC, Math.ap_mRet, Math.ap_mRetN, Math.ap_mRetL, Math.ap_mDrop, Math.ap_mIf, Math.ap_mNever, Math.ap_mPar, Math.ap_mPar3, Math.ap_mPut, Math.ap_mApp, Math.ap_mTo, Math.ap_mYes, Math.ap_iSq, Math.ap_iZp, Math.ap_iEn, Math.ap_mRetC, Math.ap_eCh, Math.ap_noPart, Math.ap_aPart, Math.ap_eSlice, Math.ap_mkF, Math.ap_mkC, Mir.env0, Mir.fin, Mir.finC, Mir.thenDo, Mir.toFl, Mir.wipeE, Mir.itemsOf, Mir.orBad, Mir.gNm, Mir.gTp, Mir.gNms, Mir.Out.bind, Mir.gIx, Mir.seqOf, Mir.gLen, Mir.gTuple, Mir.gAbs, Mir.gInt, Mir.gCmp, Mir.gI, Mir.gAdd, Mir.gSub, Mir.gNeg, Mir.gBols, Mir.gInts, Mir.gChain, Mir.nxO, Mir.putAt, Mir.appAt, Mir.isC, L2.atI, L2.ixN, Math.eIsi_tuple, Math.eIsi_int, Math.eIsi_bool, Math.gEq_int, Math.gEq_bool, Mir.gMulA, hc]
theorem it6 {s : Sto} {a0 a1 a2 a3 a4 a5 a7 a8 a9 a10 a11 a12 a13 a14 : Option Sl} {xs : List PyData} : iSq (eVar 6) [a0, a1, a2, a3, a4, a5, some (.d (.tuple xs)), a7, a8, a9, a10, a11, a12, a13, a14] s = .ok xs s := by
  simp -implicitDefEqProofs [Math.ap_eVar, Math.ap_lVar, Math.ap_eC, Math.ap_eL, Math.ap_eUn, Math.ap_eBin, Math.ap_eAnd, Math.ap_eOr, Math.ap_eNot, Math.ap_mE, Math.ap_mNot, Math.ap_mAnd, Math.ap_mOr, Math.ap_eIf, Math.ap_aNil, Math.ap_aCons, Math.ap_dNil, Math.ap_dCons, Math.ap_eTup, Math.ap_cLst, Math.ap_eFr, Math.ap_eIx, Math.ap_eSl, Math.ap_cList, Math.ap_eCall, Math.ap_cCall, Math.ap_mSeq, Math.ap_mNil, Math.ap_mSet, Math.ap_mSetC, Math.ap_mRet, Math.ap_mRetN, Math.ap_mRetL, Math.ap_mDrop, Math.ap_mIf, Math.ap_mNever, Math.ap_mPar, Math.ap_mPar3, Math.ap_mPut, Math.ap_mApp, Math.ap_mTo, Math.ap_mYes, Math.ap_iSq, Math.ap_iZp, Math.ap_iEn, Math.ap_mRetC, Math.ap_eCh, Math.ap_noPart, Math.ap_aPart, Math.ap_eSlice, Math.ap_mkF, Math.ap_mkC, Mir.env0, Mir.fin, Mir.finC, Mir.thenDo, Mir.toFl, Mir.wipeE, Mir.itemsOf, Mir.orBad, Mir.gNm, Mir.gTp, Mir.gNms, Mir.Out.bind, Mir.gIx, Mir.seqOf, Mir.gLen, Mir.gTuple, Mir.gAbs, Mir.gInt, Mir.gCmp, Mir.gI, Mir.gAdd, Mir.gSub, Mir.gNeg, Mir.gBols, Mir.gInts, Mir.gChain, Mir.nxO, Mir.putAt, Mir.appAt, Mir.isC, L2.atI, L2.ixN, Math.eIsi_tuple, Math.eIsi_int, Math.eIsi_bool, Math.gEq_int, Math.gEq_bool]
theorem gEq_ints {neg : Bool} {i : Int} {s : Sto} : gEq neg (.int i) (.int i) s = .ok (.bool (neg != true)) s := by
  rw [gEq_int, decide_eq_true rfl]
theorem plain_right {n : Nat} {s : Sto} (h : Hat n s) : ∃ s', Hats n s s' ∧ run_law_plain_right [.c n] s = .ok (.bool true) s' := by
  obtain ⟨r1, s1, a0, a1, h1, e1⟩ := up_to (m := 6) h (by decide) (by decide)
  obtain ⟨r2, s2, b0, b1, h2, e2⟩ := up_to (m := 6) (h1.hat h) (by decide) (by decide)
  have t2 := h1.trans h2
  obtain ⟨m, s3, hm, h3, e3⟩ := jg_entry (t2.hat h)
  have t3 := t2.trans h3
  obtain ⟨a, rfl, ha⟩ := small_nat (k := 6) a0 a1
  obtain ⟨b, rfl, hb⟩ := small_nat (k := 6) b0 b1
  obtain ⟨A, s4, lA, gA, h4, e4⟩ := jg_wide (hh := a) (w := b) (t3.hat h) (by omega) (by omega)
  have t4 := t3.trans h4
  subst lA
  obtain ⟨B, s5, lB, gB, h5, e5⟩ := jg_wide (hh := A.length) (w := b) (t4.hat h) (by omega) (by omega)
  have t5 := t4.trans h5
  obtain ⟨R, s6, lR, gR, h6, e6⟩ := jg_row (i := 2) (j := 11) (ρ := [some (.c n), some (.d (.int (A.length : Int))), some (.d (.int (b : Int))), some (.d (.int m)), some (.d (grid_D b A)), some (.d (grid_D b B)), none, none, none, none, none, none, none, none, none]) (w := b) (t5.hat h) (by omega) rfl rfl (by decide)
  have t6 := t5.trans h6
  obtain ⟨L, s7, lL, gL, h7, e7⟩ := jg_row (i := 1) (j := 11) (ρ := [some (.c n), some (.d (.int (A.length : Int))), some (.d (.int (b : Int))), some (.d (.int m)), some (.d (grid_D b A)), some (.d (grid_D b B)), some (.d (rowD R)), none, none, none, none, none, none, none, none]) (w := A.length) (t6.hat h) (by omega) rfl rfl (by decide)
  have t7 := t6.trans h7
  have okA : GridOk b A := ⟨by omega, by omega, fun r hr => (gA r hr).1, fun r hr => (gA r hr).2⟩
  have okB : GridOk b B := ⟨by omega, by omega, fun r hr => (gB r hr).1, fun r hr => (gB r hr).2⟩
  have okR : RowOk b R := ⟨lR, by omega, gR⟩
  have okL : RowOk A.length L := ⟨lL, by omega, gL⟩
  have rA : ∀ r ∈ A, RowOk b r := fun r hr => ⟨okA.len r hr, by omega, okA.few r hr⟩
  have rB : ∀ r ∈ B, RowOk b r := fun r hr => ⟨okB.len r hr, by omega, okB.few r hr⟩
  have okT := okA.turned
  have okS : GridOk b (scaledG (-1) B) := ⟨okB.wide, by simp [scaledG]; exact okB.high, fun r hr => by
    obtain ⟨x, hx, rfl⟩ := List.mem_map.mp hr
    rw [List.length_map, okB.len x hx], fun r hr y hy => by
    obtain ⟨x, hx, rfl⟩ := List.mem_map.mp hr
    obtain ⟨z, hz, rfl⟩ := List.mem_map.mp hy
    have := okB.few x hx z hz
    unfold Few at this ⊢
    omega⟩
  obtain ⟨u, v, lp⟩ := pf_loop (s := s7) (w := b) (a0 := some (.c n)) (a1 := some (.d (.int (A.length : Int)))) (a2 := some (.d (.int (b : Int)))) (a3 := some (.d (.int m))) (a4 := some (.d (grid_D b A))) (a5 := some (.d (grid_D b B))) (a6 := some (.d (rowD R))) (a7 := some (.d (rowD L))) (a10 := none) (a11 := none) (a12 := none) (a13 := none) (a14 := none) A B none none rA rB
  obtain ⟨r3, s8, k0, k1, h8, e8⟩ := up_to (m := 6) (t7.hat h) (by decide) (by decide)
  have t8 := t7.trans h8
  obtain ⟨k, rfl, hk⟩ := small_nat (k := 6) k0 k1
  obtain ⟨C, s9, lC, gC, h9, e9⟩ := jg_wide (hh := b) (w := k) (t8.hat h) (by omega) (by omega)
  have t9 := t8.trans h9
  have okC : GridOk k C := ⟨by omega, by omega, fun r hr => (gC r hr).1, fun r hr => (gC r hr).2⟩
  have c4 := turned (s := s7) okT
  rw [cols_length, cols_cols okA.len] at c4
  have c8'' := jg_plus (s := s7) (v := b) (B := scaledG (-1) B) okA
  rw [plus_scaled] at c8''
  have c7' := comp_mapL (it := iSq (eVar 6)) (k := 12) (fe := eBin Mir.gMulA (eVar 3) (eVar 12)) (ρ := [some (.c n), some (.d (.int (A.length : Int))), some (.d (.int (b : Int))), some (.d (.int m)), some (.d (grid_D b A)), some (.d (grid_D b B)), some (.d (rowD R)), some (.d (rowD L)), none, none, none, none, none, none, none]) (s := s7) PyData.int (fun a => .int (m * a)) R it6 (by omega) fun a _ => rm12 hm
  have c7 := row_multiple (s := s7) okR hm
  have e7r : rowD (R.map (m * ·)) = .tuple (R.map fun a => .int (m * a)) := by
    unfold rowD
    rw [List.map_map]
    rfl
  have q7 := gEq_row true (R.map (m * ·)) s7
  rw [e7r] at c7 q7
  have c10 := over (s := s7) okA okB (by omega)
  have q10 := gEq_grid true b (A ++ B) s7
  have e10 : grid_D b (A ++ B) = .tuple [.int (b : Int), .tuple (A.map rowD ++ B.map rowD)] := by
    unfold grid_D
    rw [List.map_append]
  rw [e10] at c10 q10
  refine ⟨s9, t9, pr1k (as := A.map rowD) (bs := B.map rowD) (rs := R.map .int) (ls := L.map .int) e1 e2 e3 e4 e5 e6 e7 (led okA okR) (law_lead okA) (gEq_row true _ _) (read_by okA okL) (law_lead okT) (gEq_row true _ _) (turned okA) (law_turn okA) (gEq_grid true _ _ _) c4 (gEq_grid true _ _ _)
    (grid_sum okA okB lB.symm) (jg_plus okA) (gEq_grid true _ _ _) (grid_multiple okA hm) (jg_scaled okA hm) (gEq_grid true _ _ _) c7 c7' q7 (grid_difference okA okB lB.symm) (jg_scaled okB few_neg) c8'' (gEq_grid true _ _ _) (beside okA okB lB.symm (by omega)) (jg_beside okA okB) (gEq_grid true _ _ _)
    c10 (by rw [List.length_map, List.length_map]; omega) q10 (dot_call okR okR) (law_dot gR) gEq_ints lp e8 e9 (okA.mk_product okC lC.symm) (law_times okA okC) (gEq_grid false _ _ _) (take_hats t9.len)⟩
end Math
/-! # small drawn integers -/
namespace Math
open PySem Mir Fn
theorem number {n : Nat} {s : Sto} (h : Hat n s) : ∃ (i : Int) (s' : Sto), i.natAbs ≤ 3 ∧ Hats n s s' ∧ run_law_number [.c n] s = .ok (.int i) s' := by
  obtain ⟨d, s2, hd, hs, e2⟩ := out_of (ds := [.int (-3), .int (-2), .int (-1), .int 1, .int 1, .int 2, .int 3, .int 0]) h (by simp) (by simp)
  have hi : ∃ i : Int, i.natAbs ≤ 3 ∧ d = .int i := by
    simp only [List.mem_cons, List.not_mem_nil, or_false] at hd
    rcases hd with rfl | rfl | rfl | rfl | rfl | rfl | rfl | rfl <;> exact ⟨_, by decide, rfl⟩
  obtain ⟨i, hi, rfl⟩ := hi
  refine ⟨i, s2, hi, hs, ?_⟩
  have ht := hats_take hs
  simp -implicitDefEqProofs [Math.ap_eVar, Math.ap_lVar, Math.ap_eC, Math.ap_eL, Math.ap_eUn, Math.ap_eBin, Math.ap_eAnd, Math.ap_eOr, Math.ap_eNot, Math.ap_mE, Math.ap_mNot, Math.ap_mAnd, Math.ap_mOr, Math.ap_eIf, Math.ap_aNil, Math.ap_aCons, Math.ap_dNil, Math.ap_dCons, Math.ap_eTup, Math.ap_cLst, Math.ap_eFr, Math.ap_eIx, Math.ap_eSl, Math.ap_cList, Math.ap_eCall, Math.ap_cCall, Math.ap_mSeq, Math.ap_mNil, Math.ap_mSet, Math.ap_mSetC, Math.ap_mRet, Math.ap_mRetN, Math.ap_mRetL, Math.ap_mDrop, Math.ap_mIf, Math.ap_mNever, Math.ap_mPar, Math.ap_mPar3, Math.ap_mPut, Math.ap_mApp, Math.ap_mTo, Math.ap_mYes, Math.ap_iSq, Math.ap_iZp, Math.ap_iEn, Math.ap_mRetC, Math.ap_eCh, Math.ap_noPart, Math.ap_aPart, Math.ap_eSlice, Math.ap_mkF, Math.ap_mkC, Mir.env0, Mir.fin, Mir.finC, Mir.thenDo, Mir.toFl, Mir.wipeE, Mir.itemsOf, Mir.orBad, Mir.gNm, Mir.gTp, Mir.gNms, Mir.Out.bind, Mir.gIx, Mir.seqOf, Mir.gLen, Mir.gTuple, Mir.gAbs, Mir.gInt, Mir.gCmp, Mir.gI, Mir.gAdd, Mir.gSub, Mir.gNeg, Mir.gBols, Mir.gInts, Mir.gChain, Mir.nxO, Mir.putAt, Mir.appAt, Mir.isC, L2.atI, L2.ixN, Math.eIsi_tuple, Math.eIsi_int, Math.eIsi_bool, Math.gEq_int, Math.gEq_bool, run_law_number, e2, ht]
end Math
/-! # k01: the second half -/
namespace Math
open PySem Mir Fn
theorem lw1 {s s' : Sto} {n : Nat} {b : Int} {ys : List PyData} (ht : List.take (List.length s) s' = s') (c : cComp (iRg1 (eVar 1)) (gNm 2) mYes (eCall 1 run_law_number (aCons (lVar 0) aNil)) [2] [some (.c n), some (.d (.int b)), none] s = .ok ys s') :
    run_law_row [.c n, .d (.int b)] s = .ok (.tuple ys) s' := by
  simp -implicitDefEqProofs [Math.ap_eVar, Math.ap_lVar, Math.ap_eC, Math.ap_eL, Math.ap_eUn, Math.ap_eBin, Math.ap_eAnd, Math.ap_eOr, Math.ap_eNot, Math.ap_mE, Math.ap_mNot, Math.ap_mAnd, Math.ap_mOr, Math.ap_eIf, Math.ap_aNil, Math.ap_aCons, Math.ap_dNil, Math.ap_dCons, Math.ap_eTup, Math.ap_cLst, Math.ap_eFr, Math.ap_eIx, Math.ap_eSl, Math.ap_cList, Math.ap_eCall, Math.ap_cCall, Math.ap_mSeq, Math.ap_mNil, Math.ap_mSet, Math.ap_mSetC, Math.ap_mRet, Math.ap_mRetN, Math.ap_mRetL, Math.ap_mDrop, Math.ap_mIf, Math.ap_mNever, Math.ap_mPar, Math.ap_mPar3, Math.ap_mPut, Math.ap_mApp, Math.ap_mTo, Math.ap_mYes, Math.ap_iSq, Math.ap_iZp, Math.ap_iEn, Math.ap_mRetC, Math.ap_eCh, Math.ap_noPart, Math.ap_aPart, Math.ap_eSlice, Math.ap_mkF, Math.ap_mkC, Mir.env0, Mir.fin, Mir.finC, Mir.thenDo, Mir.toFl, Mir.wipeE, Mir.itemsOf, Mir.orBad, Mir.gNm, Mir.gTp, Mir.gNms, Mir.Out.bind, Mir.gIx, Mir.seqOf, Mir.gLen, Mir.gTuple, Mir.gAbs, Mir.gInt, Mir.gCmp, Mir.gI, Mir.gAdd, Mir.gSub, Mir.gNeg, Mir.gBols, Mir.gInts, Mir.gChain, Mir.nxO, Mir.putAt, Mir.appAt, Mir.isC, L2.atI, L2.ixN, Math.eIsi_tuple, Math.eIsi_int, Math.eIsi_bool, Math.gEq_int, Math.gEq_bool, run_law_row, c, ht]
theorem small_row {n : Nat} {s : Sto} {w : Nat} (h : Hat n s) (hw : w ≤ 1000) : ∃ (r : List Int) (s' : Sto), r.length = w ∧ (∀ x ∈ r, x.natAbs ≤ 3) ∧ Hats n s s' ∧ run_law_row [.c n, .d (.int w)] s = .ok (rowD r) s' := by
  obtain ⟨ys, s', p1, p2, q, e⟩ := comp_draw (P := fun y => ∃ i : Int, i.natAbs ≤ 3 ∧ y = .int i) (k := 2) (fe := eCall 1 run_law_number (aCons (lVar 0) aNil)) (ρ := [some (.c n), some (.d (.int w)), none]) (range_ok 1 _ s w hw rfl) (by rw [rangeOf_length]; omega) h fun s1 h1 d _ => by
    obtain ⟨x, s2, p, q, e⟩ := number h1
    refine ⟨.int x, s2, ⟨x, p, rfl⟩, q, ?_⟩
    simp -implicitDefEqProofs [Math.ap_eVar, Math.ap_lVar, Math.ap_eC, Math.ap_eL, Math.ap_eUn, Math.ap_eBin, Math.ap_eAnd, Math.ap_eOr, Math.ap_eNot, Math.ap_mE, Math.ap_mNot, Math.ap_mAnd, Math.ap_mOr, Math.ap_eIf, Math.ap_aNil, Math.ap_aCons, Math.ap_dNil, Math.ap_dCons, Math.ap_eTup, Math.ap_cLst, Math.ap_eFr, Math.ap_eIx, Math.ap_eSl, Math.ap_cList, Math.ap_eCall, Math.ap_cCall, Math.ap_mSeq, Math.ap_mNil, Math.ap_mSet, Math.ap_mSetC, Math.ap_mRet, Math.ap_mRetN, Math.ap_mRetL, Math.ap_mDrop, Math.ap_mIf, Math.ap_mNever, Math.ap_mPar, Math.ap_mPar3, Math.ap_mPut, Math.ap_mApp, Math.ap_mTo, Math.ap_mYes, Math.ap_iSq, Math.ap_iZp, Math.ap_iEn, Math.ap_mRetC, Math.ap_eCh, Math.ap_noPart, Math.ap_aPart, Math.ap_eSlice, Math.ap_mkF, Math.ap_mkC, Mir.env0, Mir.fin, Mir.finC, Mir.thenDo, Mir.toFl, Mir.wipeE, Mir.itemsOf, Mir.orBad, Mir.gNm, Mir.gTp, Mir.gNms, Mir.Out.bind, Mir.gIx, Mir.seqOf, Mir.gLen, Mir.gTuple, Mir.gAbs, Mir.gInt, Mir.gCmp, Mir.gI, Mir.gAdd, Mir.gSub, Mir.gNeg, Mir.gBols, Mir.gInts, Mir.gChain, Mir.nxO, Mir.putAt, Mir.appAt, Mir.isC, L2.atI, L2.ixN, Math.eIsi_tuple, Math.eIsi_int, Math.eIsi_bool, Math.gEq_int, Math.gEq_bool, e]
  obtain ⟨r, rfl, hr⟩ := list_of p2
  refine ⟨r, s', ?_, hr, q, lw1 (hats_take q) e⟩
  rw [List.length_map, rangeOf_length] at p1
  exact p1
theorem jg1 {s s' : Sto} {n : Nat} {a b : Int} {ys : List PyData} (ht : List.take (List.length s) s' = s')
    (c : cComp (iRg1 (eVar 1)) (gNm 4) mYes (eSl gTuple (eL (eFr (cComp (iRg1 (eVar 2)) (gNm 5) mYes (eCall 2 run_law_out_of (aCons (lVar 0) (aCons (eL (eFr (cLst (dCons (eC (.int 0)) (dCons (eC (.int 0)) (dCons (eC (.int 0)) (dCons (eC (.int 1)) (dCons (eUn gNeg (eC (.int 1))) (dCons (eC (.int 2)) (dCons (eUn gNeg (eC (.int 2))) (dCons (eC (.int 3)) (dCons (eC (.int 4)) dNil)))))))))))) aNil))) [5])))) [4] [some (.c n), some (.d (.int a)), some (.d (.int b)), none, none, none] s = .ok ys s') :
    run_law_jg_grid [.c n, .d (.int a), .d (.int b)] s = .ok (.tuple [.int b, .tuple ys]) s' := by
  simp -implicitDefEqProofs [Math.ap_eVar, Math.ap_lVar, Math.ap_eC, Math.ap_eL, Math.ap_eUn, Math.ap_eBin, Math.ap_eAnd, Math.ap_eOr, Math.ap_eNot, Math.ap_mE, Math.ap_mNot, Math.ap_mAnd, Math.ap_mOr, Math.ap_eIf, Math.ap_aNil, Math.ap_aCons, Math.ap_dNil, Math.ap_dCons, Math.ap_eTup, Math.ap_cLst, Math.ap_eFr, Math.ap_eIx, Math.ap_eSl, Math.ap_cList, Math.ap_eCall, Math.ap_cCall, Math.ap_mSeq, Math.ap_mNil, Math.ap_mSet, Math.ap_mSetC, Math.ap_mRet, Math.ap_mRetN, Math.ap_mRetL, Math.ap_mDrop, Math.ap_mIf, Math.ap_mNever, Math.ap_mPar, Math.ap_mPar3, Math.ap_mPut, Math.ap_mApp, Math.ap_mTo, Math.ap_mYes, Math.ap_iSq, Math.ap_iZp, Math.ap_iEn, Math.ap_mRetC, Math.ap_eCh, Math.ap_noPart, Math.ap_aPart, Math.ap_eSlice, Math.ap_mkF, Math.ap_mkC, Mir.env0, Mir.fin, Mir.finC, Mir.thenDo, Mir.toFl, Mir.wipeE, Mir.itemsOf, Mir.orBad, Mir.gNm, Mir.gTp, Mir.gNms, Mir.Out.bind, Mir.gIx, Mir.seqOf, Mir.gLen, Mir.gTuple, Mir.gAbs, Mir.gInt, Mir.gCmp, Mir.gI, Mir.gAdd, Mir.gSub, Mir.gNeg, Mir.gBols, Mir.gInts, Mir.gChain, Mir.nxO, Mir.putAt, Mir.appAt, Mir.isC, L2.atI, L2.ixN, Math.eIsi_tuple, Math.eIsi_int, Math.eIsi_bool, Math.gEq_int, Math.gEq_bool, run_law_jg_grid, c, ht]
theorem jg2 {s s' : Sto} {n : Nat} {a b : PyData} {d : PyData} {r : List PyData}
    (c : cComp (iRg1 (eVar 2)) (gNm 5) mYes (eCall 2 run_law_out_of (aCons (lVar 0) (aCons (eL (eFr (cLst (dCons (eC (.int 0)) (dCons (eC (.int 0)) (dCons (eC (.int 0)) (dCons (eC (.int 1)) (dCons (eUn gNeg (eC (.int 1))) (dCons (eC (.int 2)) (dCons (eUn gNeg (eC (.int 2))) (dCons (eC (.int 3)) (dCons (eC (.int 4)) dNil)))))))))))) aNil))) [5] [some (.c n), some (.d a), some (.d b), none, some (.d d), none] s = .ok r s') :
    eSl gTuple (eL (eFr (cComp (iRg1 (eVar 2)) (gNm 5) mYes (eCall 2 run_law_out_of (aCons (lVar 0) (aCons (eL (eFr (cLst (dCons (eC (.int 0)) (dCons (eC (.int 0)) (dCons (eC (.int 0)) (dCons (eC (.int 1)) (dCons (eUn gNeg (eC (.int 1))) (dCons (eC (.int 2)) (dCons (eUn gNeg (eC (.int 2))) (dCons (eC (.int 3)) (dCons (eC (.int 4)) dNil)))))))))))) aNil))) [5]))) [some (.c n), some (.d a), some (.d b), none, some (.d d), none] s = .ok (.tuple r) s' := by
  simp -implicitDefEqProofs [Math.ap_eVar, Math.ap_lVar, Math.ap_eC, Math.ap_eL, Math.ap_eUn, Math.ap_eBin, Math.ap_eAnd, Math.ap_eOr, Math.ap_eNot, Math.ap_mE, Math.ap_mNot, Math.ap_mAnd, Math.ap_mOr, Math.ap_eIf, Math.ap_aNil, Math.ap_aCons, Math.ap_dNil, Math.ap_dCons, Math.ap_eTup, Math.ap_cLst, Math.ap_eFr, Math.ap_eIx, Math.ap_eSl, Math.ap_cList, Math.ap_eCall, Math.ap_cCall, Math.ap_mSeq, Math.ap_mNil, Math.ap_mSet, Math.ap_mSetC, Math.ap_mRet, Math.ap_mRetN, Math.ap_mRetL, Math.ap_mDrop, Math.ap_mIf, Math.ap_mNever, Math.ap_mPar, Math.ap_mPar3, Math.ap_mPut, Math.ap_mApp, Math.ap_mTo, Math.ap_mYes, Math.ap_iSq, Math.ap_iZp, Math.ap_iEn, Math.ap_mRetC, Math.ap_eCh, Math.ap_noPart, Math.ap_aPart, Math.ap_eSlice, Math.ap_mkF, Math.ap_mkC, Mir.env0, Mir.fin, Mir.finC, Mir.thenDo, Mir.toFl, Mir.wipeE, Mir.itemsOf, Mir.orBad, Mir.gNm, Mir.gTp, Mir.gNms, Mir.Out.bind, Mir.gIx, Mir.seqOf, Mir.gLen, Mir.gTuple, Mir.gAbs, Mir.gInt, Mir.gCmp, Mir.gI, Mir.gAdd, Mir.gSub, Mir.gNeg, Mir.gBols, Mir.gInts, Mir.gChain, Mir.nxO, Mir.putAt, Mir.appAt, Mir.isC, L2.atI, L2.ixN, Math.eIsi_tuple, Math.eIsi_int, Math.eIsi_bool, Math.gEq_int, Math.gEq_bool, c]
theorem jg3 {s s' : Sto} {n : Nat} {a b d e x : PyData} (q : run_law_out_of [.c n, .d (.list [.int 0, .int 0, .int 0, .int 1, .int (-1), .int 2, .int (-2), .int 3, .int 4])] s = .ok x s') :
    eCall 2 run_law_out_of (aCons (lVar 0) (aCons (eL (eFr (cLst (dCons (eC (.int 0)) (dCons (eC (.int 0)) (dCons (eC (.int 0)) (dCons (eC (.int 1)) (dCons (eUn gNeg (eC (.int 1))) (dCons (eC (.int 2)) (dCons (eUn gNeg (eC (.int 2))) (dCons (eC (.int 3)) (dCons (eC (.int 4)) dNil)))))))))))) aNil)) [some (.c n), some (.d a), some (.d b), none, some (.d d), some (.d e)] s = .ok x s' := by
  simp -implicitDefEqProofs [Math.ap_eVar, Math.ap_lVar, Math.ap_eC, Math.ap_eL, Math.ap_eUn, Math.ap_eBin, Math.ap_eAnd, Math.ap_eOr, Math.ap_eNot, Math.ap_mE, Math.ap_mNot, Math.ap_mAnd, Math.ap_mOr, Math.ap_eIf, Math.ap_aNil, Math.ap_aCons, Math.ap_dNil, Math.ap_dCons, Math.ap_eTup, Math.ap_cLst, Math.ap_eFr, Math.ap_eIx, Math.ap_eSl, Math.ap_cList, Math.ap_eCall, Math.ap_cCall, Math.ap_mSeq, Math.ap_mNil, Math.ap_mSet, Math.ap_mSetC, Math.ap_mRet, Math.ap_mRetN, Math.ap_mRetL, Math.ap_mDrop, Math.ap_mIf, Math.ap_mNever, Math.ap_mPar, Math.ap_mPar3, Math.ap_mPut, Math.ap_mApp, Math.ap_mTo, Math.ap_mYes, Math.ap_iSq, Math.ap_iZp, Math.ap_iEn, Math.ap_mRetC, Math.ap_eCh, Math.ap_noPart, Math.ap_aPart, Math.ap_eSlice, Math.ap_mkF, Math.ap_mkC, Mir.env0, Mir.fin, Mir.finC, Mir.thenDo, Mir.toFl, Mir.wipeE, Mir.itemsOf, Mir.orBad, Mir.gNm, Mir.gTp, Mir.gNms, Mir.Out.bind, Mir.gIx, Mir.seqOf, Mir.gLen, Mir.gTuple, Mir.gAbs, Mir.gInt, Mir.gCmp, Mir.gI, Mir.gAdd, Mir.gSub, Mir.gNeg, Mir.gBols, Mir.gInts, Mir.gChain, Mir.nxO, Mir.putAt, Mir.appAt, Mir.isC, L2.atI, L2.ixN, Math.eIsi_tuple, Math.eIsi_int, Math.eIsi_bool, Math.gEq_int, Math.gEq_bool, q]
theorem small_grid {n : Nat} {s : Sto} {hh w : Nat} (h : Hat n s) (hw : w ≤ 1000) (hhl : hh ≤ 1000) :
    ∃ (rows : List (List Int)) (s' : Sto), rows.length = hh ∧ (∀ r ∈ rows, r.length = w ∧ ∀ x ∈ r, x.natAbs ≤ 4) ∧ Hats n s s' ∧ run_law_jg_grid [.c n, .d (.int hh), .d (.int w)] s = .ok (grid_D w rows) s' := by
  obtain ⟨ys, s', p1, p2, q, e⟩ := comp_draw (P := fun y => ∃ r : List Int, (r.length = w ∧ ∀ x ∈ r, x.natAbs ≤ 4) ∧ y = rowD r) (k := 4)
    (fe := eSl gTuple (eL (eFr (cComp (iRg1 (eVar 2)) (gNm 5) mYes (eCall 2 run_law_out_of (aCons (lVar 0) (aCons (eL (eFr (cLst (dCons (eC (.int 0)) (dCons (eC (.int 0)) (dCons (eC (.int 0)) (dCons (eC (.int 1)) (dCons (eUn gNeg (eC (.int 1))) (dCons (eC (.int 2)) (dCons (eUn gNeg (eC (.int 2))) (dCons (eC (.int 3)) (dCons (eC (.int 4)) dNil)))))))))))) aNil))) [5]))))
    (ρ := [some (.c n), some (.d (.int hh)), some (.d (.int w)), none, none, none]) (range_ok 1 _ s hh hhl rfl) (by rw [rangeOf_length]; omega) h fun s1 h1 d _ => by
    obtain ⟨zs, s2, p3, p4, q2, e2⟩ := comp_draw (P := fun y => ∃ i : Int, i.natAbs ≤ 4 ∧ y = .int i) (k := 5)
      (fe := eCall 2 run_law_out_of (aCons (lVar 0) (aCons (eL (eFr (cLst (dCons (eC (.int 0)) (dCons (eC (.int 0)) (dCons (eC (.int 0)) (dCons (eC (.int 1)) (dCons (eUn gNeg (eC (.int 1))) (dCons (eC (.int 2)) (dCons (eUn gNeg (eC (.int 2))) (dCons (eC (.int 3)) (dCons (eC (.int 4)) dNil)))))))))))) aNil)))
      (ρ := [some (.c n), some (.d (.int hh)), some (.d (.int w)), none, some (.d d), none]) (range_ok 2 _ s1 w hw rfl) (by rw [rangeOf_length]; omega) h1 fun s2 h2 d2 _ => by
      obtain ⟨x, s3, hx, hs, e3⟩ := out_of (ds := [.int 0, .int 0, .int 0, .int 1, .int (-1), .int 2, .int (-2), .int 3, .int 4]) h2 (by simp) (by simp)
      refine ⟨x, s3, ?_, hs, jg3 e3⟩
      simp only [List.mem_cons, List.not_mem_nil, or_false] at hx
      rcases hx with rfl | rfl | rfl | rfl | rfl | rfl | rfl | rfl | rfl <;> exact ⟨_, by decide, rfl⟩
    obtain ⟨r, rfl, hr⟩ := list_of p4
    rw [List.length_map, rangeOf_length] at p3
    exact ⟨rowD r, s2, ⟨r, ⟨p3, hr⟩, rfl⟩, q2, jg2 e2⟩
  obtain ⟨rows, rfl, hr⟩ := list_of p2
  refine ⟨rows, s', ?_, hr, q, jg1 (hats_take q) e⟩
  rw [List.length_map, rangeOf_length] at p1
  exact p1
theorem sz_draw {n : Nat} {s : Sto} (h : Hat n s) {r : Mir.Env} (hr : r = [some (.c n), none, none, none, none, none, none, none, none, none, none]) : ∃ (a b c d : Nat) (s' : Sto), (a < 5 ∧ b < 5 ∧ c < 5 ∧ d < 5) ∧ Hats n s s' ∧
    cComp (iRg1 (eC (.int 4))) (gNm 9) mYes (eCall 2 run_law_up_to (aCons (lVar 0) (aCons (eL (eC (.int 5))) aNil))) [9] r s = .ok [.int a, .int b, .int c, .int d] s' := by
  subst hr
  obtain ⟨ys, s', p1, p2, q, e⟩ := comp_draw (P := fun y => ∃ i : Nat, i < 5 ∧ y = .int i) (k := 9) (fe := eCall 2 run_law_up_to (aCons (lVar 0) (aCons (eL (eC (.int 5))) aNil))) (it := iRg1 (eC (.int 4))) (ds := rangeOf 0 4)
    (ρ := [some (.c n), none, none, none, none, none, none, none, none, none, none]) (s := s) (by simp [ap_iRg1, ap_eC, Out.bind]) (by rw [rangeOf_length]; omega) h fun s1 h1 d _ => by
    obtain ⟨x, s2, x0, x1, q, e⟩ := up_to (m := 5) h1 (by decide) (by decide)
    obtain ⟨i, rfl, hi⟩ := small_nat (k := 5) x0 x1
    refine ⟨.int i, s2, ⟨i, hi, rfl⟩, q, ?_⟩
    simp -implicitDefEqProofs [Math.ap_eVar, Math.ap_lVar, Math.ap_eC, Math.ap_eL, Math.ap_eUn, Math.ap_eBin, Math.ap_eAnd, Math.ap_eOr, Math.ap_eNot, Math.ap_mE, Math.ap_mNot, Math.ap_mAnd, Math.ap_mOr, Math.ap_eIf, Math.ap_aNil, Math.ap_aCons, Math.ap_dNil, Math.ap_dCons, Math.ap_eTup, Math.ap_cLst, Math.ap_eFr, Math.ap_eIx, Math.ap_eSl, Math.ap_cList, Math.ap_eCall, Math.ap_cCall, Math.ap_mSeq, Math.ap_mNil, Math.ap_mSet, Math.ap_mSetC, Math.ap_mRet, Math.ap_mRetN, Math.ap_mRetL, Math.ap_mDrop, Math.ap_mIf, Math.ap_mNever, Math.ap_mPar, Math.ap_mPar3, Math.ap_mPut, Math.ap_mApp, Math.ap_mTo, Math.ap_mYes, Math.ap_iSq, Math.ap_iZp, Math.ap_iEn, Math.ap_mRetC, Math.ap_eCh, Math.ap_noPart, Math.ap_aPart, Math.ap_eSlice, Math.ap_mkF, Math.ap_mkC, Mir.env0, Mir.fin, Mir.finC, Mir.thenDo, Mir.toFl, Mir.wipeE, Mir.itemsOf, Mir.orBad, Mir.gNm, Mir.gTp, Mir.gNms, Mir.Out.bind, Mir.gIx, Mir.seqOf, Mir.gLen, Mir.gTuple, Mir.gAbs, Mir.gInt, Mir.gCmp, Mir.gI, Mir.gAdd, Mir.gSub, Mir.gNeg, Mir.gBols, Mir.gInts, Mir.gChain, Mir.nxO, Mir.putAt, Mir.appAt, Mir.isC, L2.atI, L2.ixN, Math.eIsi_tuple, Math.eIsi_int, Math.eIsi_bool, Math.gEq_int, Math.gEq_bool, e]
  obtain ⟨xs, rfl, hx⟩ := list_of (g := fun i : Nat => PyData.int i) p2
  rw [List.length_map, rangeOf_length] at p1
  match xs, p1, hx, e with
  | [a, b, c, d], _, hx, e => exact ⟨a, b, c, d, s', ⟨hx a (by simp), hx b (by simp), hx c (by simp), hx d (by simp)⟩, q, e⟩
end Math
/-! # k01: the second half, its steps -/
namespace Math
open PySem Mir Fn
theorem gr_three {n : Nat} {s s1 s2 s3 : Sto} {a b c d : Int} {x y z : PyData} {ρ : Mir.Env} (hr : ρ = [some (.c n), some (.d (.list [.int a, .int b, .int c, .int d])), none, none, none, none, none, none, none, none, none])
    (e1 : run_law_jg_grid [.c n, .d (.int a), .d (.int b)] s = .ok x s1) (e2 : run_law_jg_grid [.c n, .d (.int b), .d (.int c)] s1 = .ok y s2) (e3 : run_law_jg_grid [.c n, .d (.int c), .d (.int d)] s2 = .ok z s3) :
    cComp (iRg1 (eC (.int 3))) (gNm 10) mYes (eCall 3 run_law_jg_grid (aCons (lVar 0) (aCons (eL (eIx (lVar 1) (eVar 10))) (aCons (eL (eIx (lVar 1) (eBin gAdd (eVar 10) (eC (.int 1))))) aNil)))) [10] ρ s = .ok [x, y, z] s3 := by
  subst hr
  have hi : iRg1 (eC (.int 3)) [some (.c n), some (.d (.list [.int a, .int b, .int c, .int d])), none, none, none, none, none, none, none, none, none] s = .ok [.int 0, .int 1, .int 2] s := by
    simp [ap_iRg1, ap_eC, Out.bind, rangeOf]
    rfl
  have f1 : eCall 3 run_law_jg_grid (aCons (lVar 0) (aCons (eL (eIx (lVar 1) (eVar 10))) (aCons (eL (eIx (lVar 1) (eBin gAdd (eVar 10) (eC (.int 1))))) aNil))) [some (.c n), some (.d (.list [.int a, .int b, .int c, .int d])), none, none, none, none, none, none, none, none, some (.d (.int 0))] s = .ok x s1 := by
    simp -implicitDefEqProofs [Math.ap_eVar, Math.ap_lVar, Math.ap_eC, Math.ap_eL, Math.ap_eUn, Math.ap_eBin, Math.ap_eAnd, Math.ap_eOr, Math.ap_eNot, Math.ap_mE, Math.ap_mNot, Math.ap_mAnd, Math.ap_mOr, Math.ap_eIf, Math.ap_aNil, Math.ap_aCons, Math.ap_dNil, Math.ap_dCons, Math.ap_eTup, Math.ap_cLst, Math.ap_eFr, Math.ap_eIx, Math.ap_eSl, Math.ap_cList, Math.ap_eCall, Math.ap_cCall, Math.ap_mSeq, Math.ap_mNil, Math.ap_mSet, Math.ap_mSetC, Math.ap_mRet, Math.ap_mRetN, Math.ap_mRetL, Math.ap_mDrop, Math.ap_mIf, Math.ap_mNever, Math.ap_mPar, Math.ap_mPar3, Math.ap_mPut, Math.ap_mApp, Math.ap_mTo, Math.ap_mYes, Math.ap_iSq, Math.ap_iZp, Math.ap_iEn, Math.ap_mRetC, Math.ap_eCh, Math.ap_noPart, Math.ap_aPart, Math.ap_eSlice, Math.ap_mkF, Math.ap_mkC, Mir.env0, Mir.fin, Mir.finC, Mir.thenDo, Mir.toFl, Mir.wipeE, Mir.itemsOf, Mir.orBad, Mir.gNm, Mir.gTp, Mir.gNms, Mir.Out.bind, Mir.gIx, Mir.seqOf, Mir.gLen, Mir.gTuple, Mir.gAbs, Mir.gInt, Mir.gCmp, Mir.gI, Mir.gAdd, Mir.gSub, Mir.gNeg, Mir.gBols, Mir.gInts, Mir.gChain, Mir.nxO, Mir.putAt, Mir.appAt, Mir.isC, L2.atI, L2.ixN, Math.eIsi_tuple, Math.eIsi_int, Math.eIsi_bool, Math.gEq_int, Math.gEq_bool, e1]
  have f2 : eCall 3 run_law_jg_grid (aCons (lVar 0) (aCons (eL (eIx (lVar 1) (eVar 10))) (aCons (eL (eIx (lVar 1) (eBin gAdd (eVar 10) (eC (.int 1))))) aNil))) [some (.c n), some (.d (.list [.int a, .int b, .int c, .int d])), none, none, none, none, none, none, none, none, some (.d (.int 1))] s1 = .ok y s2 := by
    simp -implicitDefEqProofs [Math.ap_eVar, Math.ap_lVar, Math.ap_eC, Math.ap_eL, Math.ap_eUn, Math.ap_eBin, Math.ap_eAnd, Math.ap_eOr, Math.ap_eNot, Math.ap_mE, Math.ap_mNot, Math.ap_mAnd, Math.ap_mOr, Math.ap_eIf, Math.ap_aNil, Math.ap_aCons, Math.ap_dNil, Math.ap_dCons, Math.ap_eTup, Math.ap_cLst, Math.ap_eFr, Math.ap_eIx, Math.ap_eSl, Math.ap_cList, Math.ap_eCall, Math.ap_cCall, Math.ap_mSeq, Math.ap_mNil, Math.ap_mSet, Math.ap_mSetC, Math.ap_mRet, Math.ap_mRetN, Math.ap_mRetL, Math.ap_mDrop, Math.ap_mIf, Math.ap_mNever, Math.ap_mPar, Math.ap_mPar3, Math.ap_mPut, Math.ap_mApp, Math.ap_mTo, Math.ap_mYes, Math.ap_iSq, Math.ap_iZp, Math.ap_iEn, Math.ap_mRetC, Math.ap_eCh, Math.ap_noPart, Math.ap_aPart, Math.ap_eSlice, Math.ap_mkF, Math.ap_mkC, Mir.env0, Mir.fin, Mir.finC, Mir.thenDo, Mir.toFl, Mir.wipeE, Mir.itemsOf, Mir.orBad, Mir.gNm, Mir.gTp, Mir.gNms, Mir.Out.bind, Mir.gIx, Mir.seqOf, Mir.gLen, Mir.gTuple, Mir.gAbs, Mir.gInt, Mir.gCmp, Mir.gI, Mir.gAdd, Mir.gSub, Mir.gNeg, Mir.gBols, Mir.gInts, Mir.gChain, Mir.nxO, Mir.putAt, Mir.appAt, Mir.isC, L2.atI, L2.ixN, Math.eIsi_tuple, Math.eIsi_int, Math.eIsi_bool, Math.gEq_int, Math.gEq_bool, e2]
  have f3 : eCall 3 run_law_jg_grid (aCons (lVar 0) (aCons (eL (eIx (lVar 1) (eVar 10))) (aCons (eL (eIx (lVar 1) (eBin gAdd (eVar 10) (eC (.int 1))))) aNil))) [some (.c n), some (.d (.list [.int a, .int b, .int c, .int d])), none, none, none, none, none, none, none, none, some (.d (.int 2))] s2 = .ok z s3 := by
    simp -implicitDefEqProofs [Math.ap_eVar, Math.ap_lVar, Math.ap_eC, Math.ap_eL, Math.ap_eUn, Math.ap_eBin, Math.ap_eAnd, Math.ap_eOr, Math.ap_eNot, Math.ap_mE, Math.ap_mNot, Math.ap_mAnd, Math.ap_mOr, Math.ap_eIf, Math.ap_aNil, Math.ap_aCons, Math.ap_dNil, Math.ap_dCons, Math.ap_eTup, Math.ap_cLst, Math.ap_eFr, Math.ap_eIx, Math.ap_eSl, Math.ap_cList, Math.ap_eCall, Math.ap_cCall, Math.ap_mSeq, Math.ap_mNil, Math.ap_mSet, Math.ap_mSetC, Math.ap_mRet, Math.ap_mRetN, Math.ap_mRetL, Math.ap_mDrop, Math.ap_mIf, Math.ap_mNever, Math.ap_mPar, Math.ap_mPar3, Math.ap_mPut, Math.ap_mApp, Math.ap_mTo, Math.ap_mYes, Math.ap_iSq, Math.ap_iZp, Math.ap_iEn, Math.ap_mRetC, Math.ap_eCh, Math.ap_noPart, Math.ap_aPart, Math.ap_eSlice, Math.ap_mkF, Math.ap_mkC, Mir.env0, Mir.fin, Mir.finC, Mir.thenDo, Mir.toFl, Mir.wipeE, Mir.itemsOf, Mir.orBad, Mir.gNm, Mir.gTp, Mir.gNms, Mir.Out.bind, Mir.gIx, Mir.seqOf, Mir.gLen, Mir.gTuple, Mir.gAbs, Mir.gInt, Mir.gCmp, Mir.gI, Mir.gAdd, Mir.gSub, Mir.gNeg, Mir.gBols, Mir.gInts, Mir.gChain, Mir.nxO, Mir.putAt, Mir.appAt, Mir.isC, L2.atI, L2.ixN, Math.eIsi_tuple, Math.eIsi_int, Math.eIsi_bool, Math.gEq_int, Math.gEq_bool, e3]
  have g : ∀ v : PyData, gNm 10 v (wipeE [some (.c n), some (.d (.list [.int a, .int b, .int c, .int d])), none, none, none, none, none, none, none, none, none] [10]) = some [some (.c n), some (.d (.list [.int a, .int b, .int c, .int d])), none, none, none, none, none, none, none, none, some (.d v)] := fun v => rfl
  rw [ap_cComp, hi, Out.bind_ok, if_pos (by simp)]
  unfold compL
  rw [g]
  simp only [mYes, Out.bind_ok, if_true, f1]
  unfold compL
  rw [g]
  simp only [mYes, Out.bind_ok, if_true, f2]
  unfold compL
  rw [g]
  simp only [mYes, Out.bind_ok, if_true, f3]
  rfl
theorem gr_one {n : Nat} {s s1 s2 s3 s4 : Sto} {a b c d : Int} {g1 g2 g3 p12 p23 p t t1 t2 bo u ub ot : PyData} {rs ls xs ys zs : List PyData} {dd : Int}
    (e1 : cComp (iRg1 (eC (.int 4))) (gNm 9) mYes (eCall 2 run_law_up_to (aCons (lVar 0) (aCons (eL (eC (.int 5))) aNil))) [9] [some (.c n), none, none, none, none, none, none, none, none, none, none] s = .ok [.int a, .int b, .int c, .int d] s1)
    (e2 : cComp (iRg1 (eC (.int 3))) (gNm 10) mYes (eCall 3 run_law_jg_grid (aCons (lVar 0) (aCons (eL (eIx (lVar 1) (eVar 10))) (aCons (eL (eIx (lVar 1) (eBin gAdd (eVar 10) (eC (.int 1))))) aNil)))) [10] [some (.c n), some (.d (.list [.int a, .int b, .int c, .int d])), none, none, none, none, none, none, none, none, none] s1 = .ok [g1, g2, g3] s2)
    (c1 : ∀ s, run_grid_product [.d g1, .d g2] s = .ok p12 s) (c2 : ∀ s, run_grid_product [.d p12, .d g3] s = .ok p s) (c3 : ∀ s, run_grid_product [.d g2, .d g3] s = .ok p23 s) (c4 : ∀ s, run_grid_product [.d g1, .d p23] s = .ok p s) (q1 : ∀ s, gEq true p p s = .ok (.bool false) s)
    (c5 : ∀ s, run_turned [.d p12] s = .ok t s) (c6 : ∀ s, run_turned [.d g2] s = .ok t2 s) (c7 : ∀ s, run_turned [.d g1] s = .ok t1 s) (c8 : ∀ s, run_grid_product [.d t2, .d t1] s = .ok t s) (q2 : ∀ s, gEq true t t s = .ok (.bool false) s)
    (e3 : run_law_row [.c n, .d (.int c)] s2 = .ok (.tuple rs) s3) (e4 : run_law_row [.c n, .d (.int a)] s3 = .ok (.tuple ls) s4)
    (c9 : ∀ s, run_led [.d g2, .d (.tuple rs)] s = .ok (.tuple xs) s) (c10 : ∀ s, run_led [.d g1, .d (.tuple xs)] s = .ok (.tuple ys) s) (c11 : ∀ s, run_led [.d p12, .d (.tuple rs)] s = .ok (.tuple ys) s) (q3 : ∀ s, gEq true (.tuple ys) (.tuple ys) s = .ok (.bool false) s)
    (c12 : ∀ s, run_read_by [.d (.tuple ls), .d g1] s = .ok (.tuple zs) s) (c13 : ∀ s, run_dot [.d (.tuple zs), .d (.tuple xs)] s = .ok (.int dd) s) (c14 : ∀ s, run_dot [.d (.tuple ls), .d (.tuple ys)] s = .ok (.int dd) s)
    (c15 : ∀ s, run_beside [.d g1, .d p12] s = .ok bo s) (c16 : ∀ s, run_law_unit [.d (.int b)] s = .ok u s) (c17 : ∀ s, run_beside [.d u, .d g2] s = .ok ub s) (c18 : ∀ s, run_grid_product [.d g1, .d ub] s = .ok bo s) (q4 : ∀ s, gEq false bo bo s = .ok (.bool true) s)
    (c19 : ∀ s, run_over [.d t1, .d t] s = .ok ot s) (c20 : ∀ s, run_turned [.d bo] s = .ok ot s) (q5 : ∀ s, gEq false ot ot s = .ok (.bool true) s)
    (ht : List.take (List.length s) s4 = s4) : run_law_grouped_right [.c n] s = .ok (.bool true) s4 := by
  simp -implicitDefEqProofs [Math.ap_eVar, Math.ap_lVar, Math.ap_eC, Math.ap_eL, Math.ap_eUn, Math.ap_eBin, Math.ap_eAnd, Math.ap_eOr, Math.ap_eNot, Math.ap_mE, Math.ap_mNot, Math.ap_mAnd, Math.ap_mOr, Math.ap_eIf, Math.ap_aNil, Math.ap_aCons, Math.ap_dNil, Math.ap_dCons, Math.ap_eTup, Math.ap_cLst, Math.ap_eFr, Math.ap_eIx, Math.ap_eSl, Math.ap_cList, Math.ap_eCall, Math.ap_cCall, Math.ap_mSeq, Math.ap_mNil, Math.ap_mSet, Math.ap_mSetC, Math.ap_mRet, Math.ap_mRetN, Math.ap_mRetL, Math.ap_mDrop, Math.ap_mIf, Math.ap_mNever, Math.ap_mPar, Math.ap_mPar3, Math.ap_mPut, Math.ap_mApp, Math.ap_mTo, Math.ap_mYes, Math.ap_iSq, Math.ap_iZp, Math.ap_iEn, Math.ap_mRetC, Math.ap_eCh, Math.ap_noPart, Math.ap_aPart, Math.ap_eSlice, Math.ap_mkF, Math.ap_mkC, Mir.env0, Mir.fin, Mir.finC, Mir.thenDo, Mir.toFl, Mir.wipeE, Mir.itemsOf, Mir.orBad, Mir.gNm, Mir.gTp, Mir.gNms, Mir.Out.bind, Mir.gIx, Mir.seqOf, Mir.gLen, Mir.gTuple, Mir.gAbs, Mir.gInt, Mir.gCmp, Mir.gI, Mir.gAdd, Mir.gSub, Mir.gNeg, Mir.gBols, Mir.gInts, Mir.gChain, Mir.nxO, Mir.putAt, Mir.appAt, Mir.isC, L2.atI, L2.ixN, Math.eIsi_tuple, Math.eIsi_int, Math.eIsi_bool, Math.gEq_int, Math.gEq_bool, run_law_grouped_right, gTpL, e1, e2, c1, c2, c3, c4, q1, c5, c6, c7, c8, q2, e3, e4, c9, c10, c11, q3, c12, c13, c14, c15, c16, c17, c18, q4, c19, c20, q5, ht]
end Math
/-! # k01: the second half, whole -/
namespace Math
open PySem Mir Fn
theorem few_le {x : Int} {k : Nat} (h : x.natAbs ≤ k) (hk : k < 1000000000000) : Few x := by
  unfold Few
  omega
theorem prod_bound {A B : List (List Int)} {v a b n : Nat} (hA : ∀ r ∈ A, r.length ≤ n ∧ ∀ x ∈ r, x.natAbs ≤ a) (hB : ∀ r ∈ B, ∀ x ∈ r, x.natAbs ≤ b) (hb : ∀ r ∈ B, r.length = v) : ∀ r ∈ prod A B v, ∀ x ∈ r, x.natAbs ≤ n * (a * b) := fun r hr x hx => by
  obtain ⟨r', hr', rfl⟩ := List.mem_map.mp hr
  obtain ⟨c, hc, rfl⟩ := List.mem_map.mp hx
  obtain ⟨j, hj, rfl⟩ := List.mem_map.mp hc
  refine Nat.le_trans (dot_bound r' (col B j) (hA r' hr').2 fun y hy => ?_) (Nat.mul_le_mul_right _ (hA r' hr').1)
  obtain ⟨q, hq, rfl⟩ := List.mem_map.mp hy
  have hj' : j < q.length := by
    rw [hb q hq]
    exact List.mem_range.mp hj
  rw [List.getD_eq_getElem?_getD, List.getElem?_eq_getElem hj']
  exact hB q hq _ (List.getElem_mem hj')
theorem lead_bound {A : List (List Int)} {x : List Int} {a b n : Nat} (hA : ∀ r ∈ A, r.length ≤ n ∧ ∀ x ∈ r, x.natAbs ≤ a) (hx : ∀ y ∈ x, y.natAbs ≤ b) : ∀ y ∈ lead A x, y.natAbs ≤ n * (a * b) := fun y hy => by
  obtain ⟨r, hr, rfl⟩ := List.mem_map.mp hy
  exact Nat.le_trans (dot_bound r x (hA r hr).2 hx) (Nat.mul_le_mul_right _ (hA r hr).1)
theorem grouped_right {n : Nat} {s : Sto} (h : Hat n s) : ∃ s', Hats n s s' ∧ run_law_grouped_right [.c n] s = .ok (.bool true) s' := by
  obtain ⟨a, b, c, d, s1, ⟨ha, hb, hc, hd⟩, h1, e1⟩ := sz_draw h rfl
  obtain ⟨A, sa, lA, gA, ha1, f1⟩ := small_grid (hh := a) (w := b) (h1.hat h) (by omega) (by omega)
  have ta := h1.trans ha1
  obtain ⟨B, sb, lB, gB, hb1, f2⟩ := small_grid (hh := b) (w := c) (ta.hat h) (by omega) (by omega)
  have tb := ta.trans hb1
  obtain ⟨C, s2, lC, gC, hc1, f3⟩ := small_grid (hh := c) (w := d) (tb.hat h) (by omega) (by omega)
  have t2 := tb.trans hc1
  have e2 := gr_three (ρ := [some (.c n), some (.d (.list [.int a, .int b, .int c, .int d])), none, none, none, none, none, none, none, none, none]) rfl f1 f2 f3
  obtain ⟨R, s3, lR, gR, h3, e3⟩ := small_row (w := c) (t2.hat h) (by omega)
  have t3 := t2.trans h3
  obtain ⟨L, s4, lL, gL, h4, e4⟩ := small_row (w := a) (t3.hat h) (by omega)
  have t4 := t3.trans h4
  subst lA
  have okA : GridOk b A := ⟨by omega, by omega, fun r hr => (gA r hr).1, fun r hr x hx => few_le ((gA r hr).2 x hx) (by decide)⟩
  have okB : GridOk c B := ⟨by omega, by omega, fun r hr => (gB r hr).1, fun r hr x hx => few_le ((gB r hr).2 x hx) (by decide)⟩
  have okC : GridOk d C := ⟨by omega, by omega, fun r hr => (gC r hr).1, fun r hr x hx => few_le ((gC r hr).2 x hx) (by decide)⟩
  have rowsA : ∀ r ∈ A, r.length ≤ 4 ∧ ∀ x ∈ r, x.natAbs ≤ 4 := fun r hr => ⟨by rw [(gA r hr).1]; omega, (gA r hr).2⟩
  have rowsB : ∀ r ∈ B, r.length ≤ 4 ∧ ∀ x ∈ r, x.natAbs ≤ 4 := fun r hr => ⟨by rw [(gB r hr).1]; omega, (gB r hr).2⟩
  have ok12 : GridOk c (prod A B c) := ⟨by omega, by rw [prod_length]; omega, prod_wide, fun r hr x hx => few_le (prod_bound rowsA (fun r hr => (gB r hr).2) okB.len r hr x hx) (by decide)⟩
  have ok23 : GridOk d (prod B C d) := ⟨by omega, by rw [prod_length]; omega, prod_wide, fun r hr x hx => few_le (prod_bound rowsB (fun r hr => (gC r hr).2) okC.len r hr x hx) (by decide)⟩
  have okR : RowOk c R := ⟨lR, by omega, fun x hx => few_le (gR x hx) (by decide)⟩
  have okL : RowOk A.length L := ⟨lL, by omega, fun x hx => few_le (gL x hx) (by decide)⟩
  have bX := lead_bound rowsB gR
  have okX : RowOk b (lead B R) := ⟨by rw [lead_length, lB], by omega, fun x hx => few_le (bX x hx) (by decide)⟩
  have bY := lead_bound rowsA bX
  have okY : RowOk A.length (lead A (lead B R)) := ⟨lead_length _ _, by omega, fun x hx => few_le (bY x hx) (by decide)⟩
  have rowsT : ∀ r ∈ cols A b, r.length ≤ 4 ∧ ∀ x ∈ r, x.natAbs ≤ 4 := fun r hr => by
    obtain ⟨j, hj, rfl⟩ := List.mem_map.mp hr
    refine ⟨by rw [col_length]; omega, fun x hx => ?_⟩
    obtain ⟨q, hq, rfl⟩ := List.mem_map.mp hx
    have hj' : j < q.length := by
      rw [(gA q hq).1]
      exact List.mem_range.mp hj
    rw [List.getD_eq_getElem?_getD, List.getElem?_eq_getElem hj']
    exact (gA q hq).2 _ (List.getElem_mem hj')
  have bZ := lead_bound rowsT gL
  have okZ : RowOk b (lead (cols A b) L) := ⟨by rw [lead_length, cols_length], by omega, fun x hx => few_le (bZ x hx) (by decide)⟩
  have okTA := okA.turned
  have okTB := okB.turned
  have okT := ok12.turned
  have lAB : ∀ r ∈ A, r.length = B.length := fun r hr => by rw [okA.len r hr, lB]
  have c2 : ∀ s, run_grid_product [.d (grid_D c (prod A B c)), .d (grid_D d C)] s = .ok (grid_D d (prod (prod A B c) C d)) s := fun s => ok12.mk_product okC lC.symm
  have c4 : ∀ s, run_grid_product [.d (grid_D b A), .d (grid_D d (prod B C d))] s = .ok (grid_D d (prod (prod A B c) C d)) s := fun s => by
    rw [prod_assoc lAB okB.len]
    exact okA.mk_product ok23 (by rw [prod_length, lB])
  have c5 : ∀ s, run_turned [.d (grid_D c (prod A B c))] s = .ok (grid_D A.length (cols (prod A B c) c)) s := fun s => by
    have := turned (s := s) ok12
    rw [prod_length] at this
    exact this
  have c8 : ∀ s, run_grid_product [.d (grid_D B.length (cols B c)), .d (grid_D A.length (cols A b))] s = .ok (grid_D A.length (cols (prod A B c) c)) s := fun s => by
    rw [cols_prod okA.len]
    exact okTB.mk_product okTA (by rw [cols_length, lB])
  have c11 : ∀ s, run_led [.d (grid_D c (prod A B c)), .d (rowD R)] s = .ok (rowD (lead A (lead B R))) s := fun s => by
    rw [← lead_prod lAB okB.len]
    exact led ok12 okR
  have c13 : ∀ s, run_dot [.d (rowD (lead (cols A b) L)), .d (rowD (lead B R))] s = .ok (.int (dot L (lead A (lead B R)))) s := fun s => by
    rw [← dot_read lL okA.len]
    exact dot_call okZ okX
  have okU := unit_ok (n := b) (by omega)
  have okBO := okA.beside ok12 (prod_length A B c).symm (by omega)
  have lU : (unitG b).length = B.length := by simp [unitG, lB]
  have okUB := okU.beside okB lU (by omega)
  have c18 : ∀ s, run_grid_product [.d (grid_D b A), .d (grid_D (b + c) (besideG (unitG b) B))] s = .ok (grid_D (b + c) (besideG A (prod A B c))) s := fun s => by
    rw [← prod_beside okA.len lB]
    exact okA.mk_product okUB (by
      unfold besideG
      rw [List.length_zipWith, lU, lB]
      omega)
  have lBO : (besideG A (prod A B c)).length = A.length := by
    unfold besideG
    rw [List.length_zipWith, prod_length]
    omega
  have c20 : ∀ s, run_turned [.d (grid_D (b + c) (besideG A (prod A B c)))] s = .ok (grid_D A.length (cols (besideG A (prod A B c)) (b + c))) s := fun s => by
    have := turned (s := s) okBO
    rw [lBO] at this
    exact this
  have okT' : GridOk A.length (cols (prod A B c) c) := by
    have := okT
    rw [prod_length] at this
    exact this
  have c19 : ∀ s, run_over [.d (grid_D A.length (cols A b)), .d (grid_D A.length (cols (prod A B c) c))] s = .ok (grid_D A.length (cols (besideG A (prod A B c)) (b + c))) s := fun s => by
    rw [← cols_beside (prod_length A B c).symm okA.len]
    exact over okTA okT' (by rw [cols_length, cols_length]; omega)
  refine ⟨s4, t4, gr_one e1 e2 (fun s => okA.mk_product okB lB.symm) c2 (fun s => okB.mk_product okC lC.symm) c4 (fun s => gEq_grid true _ _ _) c5 (fun s => turned okB) (fun s => turned okA) c8 (fun s => gEq_grid true _ _ _) e3 e4
    (fun s => led okB okR) (fun s => led okA okX) c11 (fun s => gEq_row true _ _) (fun s => read_by okA okL) c13 (fun s => dot_call okL okY) (fun s => beside okA ok12 (prod_length A B c).symm (by omega)) (fun s => law_unit (by omega)) (fun s => beside okU okB lU (by omega)) c18 (fun s => gEq_grid false _ _ _) c19 c20 (fun s => gEq_grid false _ _ _) (take_hats t4.len)⟩
end Math
/-! # the draws' beginning -/
namespace Math
open PySem Mir Fn
theorem mul_l {a b : Int} (h : a.natAbs < 2 ^ 64) : CMulB a b := .inl h
theorem mul_r {a b : Int} (h : b.natAbs < 2 ^ 64) : CMulB a b := .inr (.inl h)
def hatRest : MS := mSeq (mSet 3 (eBin gMod (eSl gInt (eL (eSl gAbs (lVar 2)))) (eBin gPow (eBin gPow (eC (.int 10)) (eC (.int 51))) (eC (.int 8)))))
    (mSeq (mSet 4 (eSl gInt (eL (eBin gAdd (eBin gAdd (eBin gAdd (eBin Mir.gMulA (eBin gMod (eVar 3) (eC (.int 2305843009213693907))) (eC (.int 83))) (eBin Mir.gMulA (eC (.int 5261)) (eVar 1))) (eBin Mir.gMulA (eC (.int 29)) (eSl gInt (eL (eBin gLt (eVar 2) (eC (.int 0))))))) (eC (.int 61))))))
    (mRetC (cLst (dCons (eTwo (fun i j => if j > i then j else i) (eC (.int 0)) (eBin gSub (eVar 3) (eBin gPow (eC (.int 10)) (eC (.int 16))))) (dCons (eBin gMod (eVar 4) (eC (.int 2305843009213693951))) (dCons (eC (.int 0)) dNil))))))
theorem hat_rest {s : Sto} {a : Sl} {i c : Int} : ∃ x y : Int, hatRest [some a, some (.d (.int i)), some (.d (.int c)), none, none] s = .rt (.c s.length) (s ++ [[.int x, .int y, .int 0]]) := by
  have h1 : CPowB 10 51 := by decide +kernel
  have h2 : CPowB 1000000000000000000000000000000000000000000000000000 8 := by decide +kernel
  have h3 : CPowB 10 16 := by decide +kernel
  have m1 : ∀ x, CMulB x 83 := fun x => mul_r (by decide)
  have m2 : ∀ x, CMulB 5261 x := fun x => mul_l (by decide)
  have m3 : ∀ x, CMulB 29 x := fun x => mul_l (by decide)
  have q : ∃ d e : Int, hatRest [some a, some (.d (.int i)), some (.d (.int c)), none, none] s = .rt (.c s.length) (s ++ [[.int d, .int e, .int 0]]) := by
    simp -implicitDefEqProofs [Math.ap_eVar, Math.ap_lVar, Math.ap_eC, Math.ap_eL, Math.ap_eUn, Math.ap_eBin, Math.ap_eAnd, Math.ap_eOr, Math.ap_eNot, Math.ap_mE, Math.ap_mNot, Math.ap_mAnd, Math.ap_mOr, Math.ap_eIf, Math.ap_aNil, Math.ap_aCons, Math.ap_dNil, Math.ap_dCons, Math.ap_eTup, Math.ap_cLst, Math.ap_eFr, Math.ap_eIx, Math.ap_eSl, Math.ap_cList, Math.ap_eCall, Math.ap_cCall, Math.ap_mSeq, Math.ap_mNil, Math.ap_mSet, Math.ap_mSetC, Math.ap_mRet, Math.ap_mRetN, Math.ap_mRetL, Math.ap_mDrop, Math.ap_mIf, Math.ap_mNever, Math.ap_mPar, Math.ap_mPar3, Math.ap_mPut, Math.ap_mApp, Math.ap_mTo, Math.ap_mYes, Math.ap_iSq, Math.ap_iZp, Math.ap_iEn, Math.ap_mRetC, Math.ap_eCh, Math.ap_noPart, Math.ap_aPart, Math.ap_eSlice, Math.ap_mkF, Math.ap_mkC, Mir.env0, Mir.fin, Mir.finC, Mir.thenDo, Mir.toFl, Mir.wipeE, Mir.itemsOf, Mir.orBad, Mir.gNm, Mir.gTp, Mir.gNms, Mir.Out.bind, Mir.gIx, Mir.seqOf, Mir.gLen, Mir.gTuple, Mir.gAbs, Mir.gInt, Mir.gCmp, Mir.gI, Mir.gAdd, Mir.gSub, Mir.gNeg, Mir.gBols, Mir.gInts, Mir.gChain, Mir.nxO, Mir.putAt, Mir.appAt, Mir.isC, L2.atI, L2.ixN, Math.eIsi_tuple, Math.eIsi_int, Math.eIsi_bool, Math.gEq_int, Math.gEq_bool, hatRest, Mir.eTwo, Mir.gTwo, Mir.gMulA, h1, h2, h3, m1, m2, m3]
  exact q
theorem ix_s {s : Sto} {ns : List Int} {i : Nat} (h : i < ns.length) : gIx (.s ns) (.int i) s = .ok (.int ns[i]) s := by
  have h2 : L2.atI (ns.map PyData.int) (i : Int) = some (.int ns[i]) := by
    unfold L2.atI L2.ixN
    rw [List.length_map, if_pos (by omega), if_pos (by omega)]
    show (ns.map PyData.int)[((i : Int)).toNat]? = _
    rw [Int.toNat_natCast, List.getElem?_map, List.getElem?_eq_getElem h]
    rfl
  unfold gIx
  have h3 : seqOf (.s ns) s = some (false, ns.map PyData.int) := rfl
  rw [h3]
  simp only [h2]
theorem hat_first {s : Sto} {ns : List Int} {i l : Int} {c : PyData} (hl : gLen (.s ns) s = .ok (.int l) s) (h : i < l) (hc : gIx (.s ns) (.int i) s = .ok c s) (hi : gInt (.d c) s = .ok c s) :
    mSet 2 (eIf (mE (eBin gLt (eVar 1) (eSl gLen (lVar 0)))) (eSl gInt (eL (eIx (lVar 0) (eVar 1)))) (eBin gAdd (eBin Mir.gMulA (eC (.int 311)) (eVar 1)) (eC (.int 47)))) [some (.s ns), some (.d (.int i)), none, none, none] s = .nx [some (.s ns), some (.d (.int i)), some (.d c), none, none] s := by
  simp only [ap_mSet, ap_eIf, ap_mE, ap_eBin, ap_eVar, ap_eSl, ap_lVar, ap_eL, ap_eIx, List.getElem?_cons_succ, List.getElem?_cons_zero, Out.bind_ok, hl, hc, hi]
  simp [gCmp, h, toFl, hc, hi]
theorem hat_c {s : Sto} {a : Sl} {i : Int} {c : Int} (e : mSet 2 (eIf (mE (eBin gLt (eVar 1) (eSl gLen (lVar 0)))) (eSl gInt (eL (eIx (lVar 0) (eVar 1)))) (eBin gAdd (eBin Mir.gMulA (eC (.int 311)) (eVar 1)) (eC (.int 47)))) [some a, some (.d (.int i)), none, none, none] s = .nx [some a, some (.d (.int i)), some (.d (.int c)), none, none] s) :
    ∃ x y : Int, runC_law_hat [a, .d (.int i)] s = .ok [.int x, .int y, .int 0] s := by
  obtain ⟨x, y, q⟩ := hat_rest (s := s) (a := a) (i := i) (c := c)
  refine ⟨x, y, ?_⟩
  have e1 : runC_law_hat = mkC 5 (mSeq (mSet 2 (eIf (mE (eBin gLt (eVar 1) (eSl gLen (lVar 0)))) (eSl gInt (eL (eIx (lVar 0) (eVar 1)))) (eBin gAdd (eBin Mir.gMulA (eC (.int 311)) (eVar 1)) (eC (.int 47))))) hatRest) := rfl
  rw [e1, ap_mkC, ap_mSeq]
  have e2 : env0 5 [a, .d (.int i)] = [some a, some (.d (.int i)), none, none, none] := rfl
  rw [e2, e]
  show finC s.length (hatRest _ s) = _
  rw [q]
  show own1 s.length s.length (s ++ [[PyData.int x, .int y, .int 0]]) _ = _
  unfold own1
  rw [if_pos (Nat.le_refl _)]
  simp
theorem hat_far {s : Sto} {ns : List Int} {i l : Int} (hl : gLen (.s ns) s = .ok (.int l) s) (h : ¬ i < l) :
    mSet 2 (eIf (mE (eBin gLt (eVar 1) (eSl gLen (lVar 0)))) (eSl gInt (eL (eIx (lVar 0) (eVar 1)))) (eBin gAdd (eBin Mir.gMulA (eC (.int 311)) (eVar 1)) (eC (.int 47)))) [some (.s ns), some (.d (.int i)), none, none, none] s = .nx [some (.s ns), some (.d (.int i)), some (.d (.int (311 * i + 47))), none, none] s := by
  have m4 : ∀ x, CMulB 311 x := fun x => mul_l (by decide)
  simp only [ap_mSet, ap_eIf, ap_mE, ap_eBin, ap_eVar, ap_eSl, ap_lVar, ap_eL, ap_eIx, ap_eC, List.getElem?_cons_succ, List.getElem?_cons_zero, Out.bind_ok, hl]
  simp [gCmp, h, toFl, gI, gAdd, Mir.gMulA, m4]
theorem hat_ok {s : Sto} {ns : List Int} (i : Nat) : ∃ x y : Int, runC_law_hat [.s ns, .d (.int i)] s = .ok [.int x, .int y, .int 0] s := by
  have hl : gLen (.s ns) s = .ok (.int ns.length) s := by
    have h3 : seqOf (.s ns) s = some (false, ns.map PyData.int) := rfl
    unfold gLen
    rw [h3]
    simp
  by_cases h : i < ns.length
  · exact hat_c (hat_first hl (by omega) (ix_s h) rfl)
  · exact hat_c (hat_far hl (by omega))
end Math
/-! # k01: the whole law -/
namespace Math
open PySem Mir Fn
def lwTurn : MS := mIf (mOr (mNot (mE (eCall 1 run_law_plain_right (aCons (lVar 2) aNil)))) (mNot (mE (eCall 1 run_law_grouped_right (aCons (lVar 2) aNil)))))
    (mRet (eC (.bool false)))
    mNil
def lwSpot : MS := mSeq (mSetC 2 (cCall 2 runC_law_hat (aCons (lVar 0) (aCons (lVar 1) aNil))))
    (mFor (iRg1 (eC (.int 3))) (gNm 3) lwTurn)
theorem lw_turn {n : Nat} {s s1 s2 : Sto} {a b c d e f : Option Sl} (e1 : run_law_plain_right [.c n] s = .ok (.bool true) s1) (e2 : run_law_grouped_right [.c n] s1 = .ok (.bool true) s2) :
    lwTurn [a, b, some (.c n), c, d, e, f] s = .nx [a, b, some (.c n), c, d, e, f] s2 := by
  simp -implicitDefEqProofs [Math.ap_eVar, Math.ap_lVar, Math.ap_eC, Math.ap_eL, Math.ap_eUn, Math.ap_eBin, Math.ap_eAnd, Math.ap_eOr, Math.ap_eNot, Math.ap_mE, Math.ap_mNot, Math.ap_mAnd, Math.ap_mOr, Math.ap_eIf, Math.ap_aNil, Math.ap_aCons, Math.ap_dNil, Math.ap_dCons, Math.ap_eTup, Math.ap_cLst, Math.ap_eFr, Math.ap_eIx, Math.ap_eSl, Math.ap_cList, Math.ap_eCall, Math.ap_cCall, Math.ap_mSeq, Math.ap_mNil, Math.ap_mSet, Math.ap_mSetC, Math.ap_mRet, Math.ap_mRetN, Math.ap_mRetL, Math.ap_mDrop, Math.ap_mIf, Math.ap_mNever, Math.ap_mPar, Math.ap_mPar3, Math.ap_mPut, Math.ap_mApp, Math.ap_mTo, Math.ap_mYes, Math.ap_iSq, Math.ap_iZp, Math.ap_iEn, Math.ap_mRetC, Math.ap_eCh, Math.ap_noPart, Math.ap_aPart, Math.ap_eSlice, Math.ap_mkF, Math.ap_mkC, Mir.env0, Mir.fin, Mir.finC, Mir.thenDo, Mir.toFl, Mir.wipeE, Mir.itemsOf, Mir.orBad, Mir.gNm, Mir.gTp, Mir.gNms, Mir.Out.bind, Mir.gIx, Mir.seqOf, Mir.gLen, Mir.gTuple, Mir.gAbs, Mir.gInt, Mir.gCmp, Mir.gI, Mir.gAdd, Mir.gSub, Mir.gNeg, Mir.gBols, Mir.gInts, Mir.gChain, Mir.nxO, Mir.putAt, Mir.appAt, Mir.isC, L2.atI, L2.ixN, Math.eIsi_tuple, Math.eIsi_int, Math.eIsi_bool, Math.gEq_int, Math.gEq_bool, lwTurn, e1, e2]
theorem lw_turns {n : Nat} {a b d e f : Option Sl} : ∀ (xs : List PyData) {s : Sto} {c : Option Sl}, Hat n s → ∃ (c' : Option Sl) (s' : Sto), Hats n s s' ∧ forL (gNm 3) lwTurn xs [a, b, some (.c n), c, d, e, f] s = .nx [a, b, some (.c n), c', d, e, f] s'
  | [], s, c, h => ⟨c, s, Hats.refl h, rfl⟩
  | x :: xs, s, c, h => by
    obtain ⟨s1, h1, e1⟩ := plain_right h
    obtain ⟨s2, h2, e2⟩ := grouped_right (h1.hat h)
    have t2 := h1.trans h2
    obtain ⟨c', s3, h3, e3⟩ := lw_turns (a := a) (b := b) (d := d) (e := e) (f := f) xs (c := some (.d x)) (t2.hat h)
    refine ⟨c', s3, t2.trans h3, ?_⟩
    have eg : gNm 3 x [a, b, some (.c n), c, d, e, f] = some [a, b, some (.c n), some (.d x), d, e, f] := rfl
    unfold forL
    rw [eg]
    simp only [lw_turn e1 e2]
    exact e3
theorem lw_spot {s : Sto} {ns : List Int} {i : Nat} {c d e f : Option Sl} {t : Option Sl} : ∃ (t' c' : Option Sl) (s' : Sto), lwSpot [some (.s ns), some (.d (.int i)), t, c, d, e, f] s = .nx [some (.s ns), some (.d (.int i)), t', c', d, e, f] s' := by
  obtain ⟨x, y, q⟩ := hat_ok (s := s) (ns := ns) i
  have h : Hat s.length (s ++ [[.int x, .int y, .int 0]]) := ⟨x, y, 0, by simp⟩
  obtain ⟨c', s', _, e2⟩ := lw_turns (a := some (.s ns)) (b := some (.d (.int i))) (d := d) (e := e) (f := f) (rangeOf 0 3) (c := c) h
  refine ⟨some (.c s.length), c', s', ?_⟩
  have e3 : mSetC 2 (cCall 2 runC_law_hat (aCons (lVar 0) (aCons (lVar 1) aNil))) [some (.s ns), some (.d (.int i)), t, c, d, e, f] s = .nx [some (.s ns), some (.d (.int i)), some (.c s.length), c, d, e, f] (s ++ [[.int x, .int y, .int 0]]) := by
    simp [ap_mSetC, ap_cCall, ap_aCons, ap_aNil, ap_lVar, q, toFl, Out.bind]
  have e4 : iRg1 (eC (.int 3)) [some (.s ns), some (.d (.int i)), some (.c s.length), c, d, e, f] (s ++ [[.int x, .int y, .int 0]]) = .ok (rangeOf 0 3) (s ++ [[.int x, .int y, .int 0]]) := by
    simp [ap_iRg1, ap_eC, Out.bind]
  unfold lwSpot
  rw [ap_mSeq, e3, thenDo_nx, ap_mFor, e4, toFl_ok']
  exact e2
theorem lw_spots {ns : List Int} {d e f : Option Sl} : ∀ (xs : List Nat) {s : Sto} {b t c : Option Sl}, ∃ (b' t' c' : Option Sl) (s' : Sto), forL (gNm 1) lwSpot (xs.map fun i => .int (i : Nat)) [some (.s ns), b, t, c, d, e, f] s = .nx [some (.s ns), b', t', c', d, e, f] s'
  | [], s, b, t, c => ⟨b, t, c, s, rfl⟩
  | x :: xs, s, b, t, c => by
    obtain ⟨t1, c1, s1, e1⟩ := lw_spot (s := s) (ns := ns) (i := x) (c := c) (d := d) (e := e) (f := f) (t := t)
    obtain ⟨b2, t2, c2, s2, e2⟩ := lw_spots xs (ns := ns) (d := d) (e := e) (f := f) (s := s1) (b := some (.d (.int x))) (t := t1) (c := c1)
    refine ⟨b2, t2, c2, s2, ?_⟩
    have eg : gNm 1 (.int (x : Nat)) [some (.s ns), b, t, c, d, e, f] = some [some (.s ns), some (.d (.int (x : Nat))), t, c, d, e, f] := rfl
    rw [List.map_cons]
    unfold forL
    rw [eg]
    simp only [e1]
    exact e2
abbrev flatD : PyData := .tuple [.int 3, .tuple []]
abbrev thinD : PyData := .tuple [.int 0, .tuple [.tuple [], .tuple []]]
theorem ok_flat (w : Nat) (h : w ≤ 60) : GridOk w [] := ⟨h, by simp, fun r hr => by simp at hr, fun r hr => by simp at hr⟩
theorem ok_thin : GridOk 0 [[], []] := ⟨by decide, by simp, fun r hr => by
  simp only [List.mem_cons, List.not_mem_nil, or_false, or_self] at hr
  rw [hr]
  rfl, fun r hr x hx => by
  simp only [List.mem_cons, List.not_mem_nil, or_false, or_self] at hr
  rw [hr] at hx
  simp at hx⟩
theorem ok_nil : RowOk 0 [] := ⟨rfl, by decide, fun x hx => by simp at hx⟩
theorem ok_far : GridOk 1 [[999999999999]] := ⟨by decide, by simp, fun r hr => by
  rw [List.mem_singleton.mp hr]
  rfl, fun r hr x hx => by
  rw [List.mem_singleton.mp hr] at hx
  rw [List.mem_singleton.mp hx]
  unfold Few
  decide⟩
theorem v1 (s : Sto) : run_turned [.d flatD] s = .ok (.tuple [.int 0, .tuple [.tuple [], .tuple [], .tuple []]]) s := turned (w := 3) (rows := []) (ok_flat 3 (by decide))
theorem v2 (s : Sto) : run_turned [.d thinD] s = .ok (.tuple [.int 2, .tuple []]) s := turned (w := 0) (rows := [[], []]) ok_thin
theorem v3 (s : Sto) : run_grid_product [.d thinD, .d (.tuple [.int 0, .tuple []])] s = .ok thinD s := ok_thin.mk_product (ok_flat 0 (by decide)) rfl
theorem v4 (s : Sto) : run_grid_product [.d thinD, .d (.tuple [.int 4, .tuple []])] s = .ok (.tuple [.int 4, .tuple [.tuple [.int 0, .int 0, .int 0, .int 0], .tuple [.int 0, .int 0, .int 0, .int 0]]]) s := ok_thin.mk_product (ok_flat 4 (by decide)) rfl
theorem v5 (s : Sto) : run_led [.d thinD, .d (.tuple [])] s = .ok (.tuple [.int 0, .int 0]) s := led ok_thin ok_nil
theorem v6 (s : Sto) : run_read_by [.d (.tuple []), .d flatD] s = .ok (.tuple [.int 0, .int 0, .int 0]) s := read_by (ok_flat 3 (by decide)) ok_nil
theorem v7 (s : Sto) : run_dot [.d (.tuple []), .d (.tuple [])] s = .ok (.int 0) s := dot_call ok_nil ok_nil
theorem v8 (s : Sto) : run_grid_product [.d (.tuple [.int 1, .tuple [.tuple [.int 999999999999]]]), .d (.tuple [.int 1, .tuple [.tuple [.int 999999999999]]])] s = .ok (.tuple [.int 1, .tuple [.tuple [.int 999999999998000000000001]]]) s := ok_far.mk_product ok_far rfl
theorem v9 (s : Sto) : run_grid_sum [.d flatD, .d flatD] s = .ok flatD s := grid_sum (ok_flat 3 (by decide)) (ok_flat 3 (by decide)) rfl
theorem v10 (s : Sto) : run_grid_multiple [.d thinD, .d (.int 7)] s = .ok thinD s := grid_multiple ok_thin (by unfold Few; decide)
theorem same_lit (neg : Bool) (v : PyData) (s : Sto) (h : SeqAt.shaped v = true) (e : PyData.eqv v v = true) : gEq neg v v s = .ok (.bool (neg != true)) s := by
  unfold gEq
  rw [if_pos ⟨h, h⟩, e]
end Math
/-! # k01: the constants, and the whole law -/
namespace Math
open PySem Mir Fn
def lwTail : MS := mSeq (mTo (gTp [4, 5]) (eTup (dCons (eTup (dCons (eC (.int 3)) (dCons (eTup dNil) dNil))) (dCons (eTup (dCons (eC (.int 0)) (dCons (eTup (dCons (eTup dNil) (dCons (eTup dNil) dNil))) dNil))) dNil))))
    (mSeq (mIf (mOr (mE (eBin (gEq true) (eCall 1 run_turned (aCons (lVar 4) aNil)) (eTup (dCons (eC (.int 0)) (dCons (eTup (dCons (eTup dNil) (dCons (eTup dNil) (dCons (eTup dNil) dNil)))) dNil))))) (mOr (mE (eBin (gEq true) (eCall 1 run_turned (aCons (lVar 5) aNil)) (eTup (dCons (eC (.int 2)) (dCons (eTup dNil) dNil))))) (mE (eBin (gEq true) (eCall 2 run_grid_product (aCons (lVar 5) (aCons (eL (eTup (dCons (eC (.int 0)) (dCons (eTup dNil) dNil)))) aNil))) (eVar 5)))))
    (mRet (eC (.bool false)))
    mNil)
    (mSeq (mIf (mOr (mE (eBin (gEq true) (eCall 2 run_grid_product (aCons (lVar 5) (aCons (eL (eTup (dCons (eC (.int 4)) (dCons (eTup dNil) dNil)))) aNil))) (eTup (dCons (eC (.int 4)) (dCons (eBin Mir.gMulA (eTup (dCons (eTup (dCons (eC (.int 0)) (dCons (eC (.int 0)) (dCons (eC (.int 0)) (dCons (eC (.int 0)) dNil))))) dNil)) (eC (.int 2))) dNil))))) (mOr (mE (eBin (gEq true) (eCall 2 run_led (aCons (lVar 5) (aCons (eL (eTup dNil)) aNil))) (eTup (dCons (eC (.int 0)) (dCons (eC (.int 0)) dNil))))) (mOr (mE (eBin (gEq true) (eCall 2 run_read_by (aCons (eL (eTup dNil)) (aCons (lVar 4) aNil))) (eTup (dCons (eC (.int 0)) (dCons (eC (.int 0)) (dCons (eC (.int 0)) dNil)))))) (mE (eBin (gEq true) (eCall 2 run_dot (aCons (eL (eTup dNil)) (aCons (eL (eTup dNil)) aNil))) (eC (.int 0)))))))
    (mRet (eC (.bool false)))
    mNil)
    (mSeq (mSet 6 (eTup (dCons (eC (.int 1)) (dCons (eTup (dCons (eTup (dCons (eBin gSub (eBin gPow (eC (.int 10)) (eC (.int 12))) (eC (.int 1))) dNil)) dNil)) dNil))))
    (mRet (eAnd (eBin (gEq false) (eCall 2 run_grid_product (aCons (lVar 6) (aCons (lVar 6) aNil))) (eTup (dCons (eC (.int 1)) (dCons (eTup (dCons (eTup (dCons (eBin gAdd (eBin gSub (eBin gPow (eC (.int 10)) (eC (.int 24))) (eBin Mir.gMulA (eC (.int 2)) (eBin gPow (eC (.int 10)) (eC (.int 12))))) (eC (.int 1))) dNil)) dNil)) dNil)))) (eAnd (eBin (gEq false) (eCall 2 run_grid_sum (aCons (lVar 4) (aCons (lVar 4) aNil))) (eVar 4)) (eBin (gEq false) (eCall 2 run_grid_multiple (aCons (lVar 5) (aCons (eL (eC (.int 7))) aNil))) (eVar 5))))))))
theorem w1 (s : Sto) : gEq true (.tuple [.int 0, .tuple [.tuple [], .tuple [], .tuple []]]) (.tuple [.int 0, .tuple [.tuple [], .tuple [], .tuple []]]) s = .ok (.bool false) s := same_lit true _ s (by decide +kernel) (by decide +kernel)
theorem w2 (s : Sto) : gEq true (.tuple [.int 2, .tuple []]) (.tuple [.int 2, .tuple []]) s = .ok (.bool false) s := same_lit true _ s (by decide +kernel) (by decide +kernel)
theorem w3 (s : Sto) : gEq true thinD thinD s = .ok (.bool false) s := same_lit true _ s (by decide +kernel) (by decide +kernel)
theorem w4 (s : Sto) : gEq true (.tuple [.int 4, .tuple [.tuple [.int 0, .int 0, .int 0, .int 0], .tuple [.int 0, .int 0, .int 0, .int 0]]]) (.tuple [.int 4, .tuple [.tuple [.int 0, .int 0, .int 0, .int 0], .tuple [.int 0, .int 0, .int 0, .int 0]]]) s = .ok (.bool false) s := same_lit true _ s (by decide +kernel) (by decide +kernel)
theorem w5 (s : Sto) : gEq true (.tuple [.int 0, .int 0]) (.tuple [.int 0, .int 0]) s = .ok (.bool false) s := same_lit true _ s (by decide +kernel) (by decide +kernel)
theorem w6 (s : Sto) : gEq true (.tuple [.int 0, .int 0, .int 0]) (.tuple [.int 0, .int 0, .int 0]) s = .ok (.bool false) s := same_lit true _ s (by decide +kernel) (by decide +kernel)
theorem w8 (s : Sto) : gEq false (.tuple [.int 1, .tuple [.tuple [.int 999999999998000000000001]]]) (.tuple [.int 1, .tuple [.tuple [.int 999999999998000000000001]]]) s = .ok (.bool true) s := same_lit false _ s (by decide +kernel) (by decide +kernel)
theorem w9 (s : Sto) : gEq false flatD flatD s = .ok (.bool true) s := same_lit false _ s (by decide +kernel) (by decide +kernel)
theorem w10 (s : Sto) : gEq false thinD thinD s = .ok (.bool true) s := same_lit false _ s (by decide +kernel) (by decide +kernel)
theorem lw_far {a b c d e f g : Option Sl} {s : Sto} : mSet 6 (eTup (dCons (eC (.int 1)) (dCons (eTup (dCons (eTup (dCons (eBin gSub (eBin gPow (eC (.int 10)) (eC (.int 12))) (eC (.int 1))) dNil)) dNil)) dNil))) [a, b, c, d, e, f, g] s = .nx [a, b, c, d, e, f, some (.d (.tuple [.int 1, .tuple [.tuple [.int 999999999999]]]))] s := by
  have hc : CPowB 10 12 := by decide
  simp -implicitDefEqProofs [Math.ap_eVar, Math.ap_lVar, Math.ap_eC, Math.ap_eL, Math.ap_eUn, Math.ap_eBin, Math.ap_eAnd, Math.ap_eOr, Math.ap_eNot, Math.ap_mE, Math.ap_mNot, Math.ap_mAnd, Math.ap_mOr, Math.ap_eIf, Math.ap_aNil, Math.ap_aCons, Math.ap_dNil, Math.ap_dCons, Math.ap_eTup, Math.ap_cLst, Math.ap_eFr, Math.ap_eIx, Math.ap_eSl, Math.ap_cList, Math.ap_eCall, Math.ap_cCall, Math.ap_mSeq, Math.ap_mNil, Math.ap_mSet, Math.ap_mSetC, Math.ap_mRet, Math.ap_mRetN, Math.ap_mRetL, Math.ap_mDrop, Math.ap_mIf, Math.ap_mNever, Math.ap_mPar, Math.ap_mPar3, Math.ap_mPut, Math.ap_mApp, Math.ap_mTo, Math.ap_mYes, Math.ap_iSq, Math.ap_iZp, Math.ap_iEn, Math.ap_mRetC, Math.ap_eCh, Math.ap_noPart, Math.ap_aPart, Math.ap_eSlice, Math.ap_mkF, Math.ap_mkC, Mir.env0, Mir.fin, Mir.finC, Mir.thenDo, Mir.toFl, Mir.wipeE, Mir.itemsOf, Mir.orBad, Mir.gNm, Mir.gTp, Mir.gNms, Mir.Out.bind, Mir.gIx, Mir.seqOf, Mir.gLen, Mir.gTuple, Mir.gAbs, Mir.gInt, Mir.gCmp, Mir.gI, Mir.gAdd, Mir.gSub, Mir.gNeg, Mir.gBols, Mir.gInts, Mir.gChain, Mir.nxO, Mir.putAt, Mir.appAt, Mir.isC, L2.atI, L2.ixN, Math.eIsi_tuple, Math.eIsi_int, Math.eIsi_bool, Math.gEq_int, Math.gEq_bool, hc]
theorem lw_last {a b c d : Option Sl} {s : Sto} : (mRet (eAnd (eBin (gEq false) (eCall 2 run_grid_product (aCons (lVar 6) (aCons (lVar 6) aNil))) (eTup (dCons (eC (.int 1)) (dCons (eTup (dCons (eTup (dCons (eBin gAdd (eBin gSub (eBin gPow (eC (.int 10)) (eC (.int 24))) (eBin Mir.gMulA (eC (.int 2)) (eBin gPow (eC (.int 10)) (eC (.int 12))))) (eC (.int 1))) dNil)) dNil)) dNil)))) (eAnd (eBin (gEq false) (eCall 2 run_grid_sum (aCons (lVar 4) (aCons (lVar 4) aNil))) (eVar 4)) (eBin (gEq false) (eCall 2 run_grid_multiple (aCons (lVar 5) (aCons (eL (eC (.int 7))) aNil))) (eVar 5))))) [a, b, c, d, some (.d flatD), some (.d thinD), some (.d (.tuple [.int 1, .tuple [.tuple [.int 999999999999]]]))] s = .rt (.d (.bool true)) s := by
  have hc : CPowB 10 12 := by decide
  have hc2 : CPowB 10 24 := by decide
  have m : CMulB 2 1000000000000 := mul_l (by decide)
  simp -implicitDefEqProofs [Math.ap_eVar, Math.ap_lVar, Math.ap_eC, Math.ap_eL, Math.ap_eUn, Math.ap_eBin, Math.ap_eAnd, Math.ap_eOr, Math.ap_eNot, Math.ap_mE, Math.ap_mNot, Math.ap_mAnd, Math.ap_mOr, Math.ap_eIf, Math.ap_aNil, Math.ap_aCons, Math.ap_dNil, Math.ap_dCons, Math.ap_eTup, Math.ap_cLst, Math.ap_eFr, Math.ap_eIx, Math.ap_eSl, Math.ap_cList, Math.ap_eCall, Math.ap_cCall, Math.ap_mSeq, Math.ap_mNil, Math.ap_mSet, Math.ap_mSetC, Math.ap_mRet, Math.ap_mRetN, Math.ap_mRetL, Math.ap_mDrop, Math.ap_mIf, Math.ap_mNever, Math.ap_mPar, Math.ap_mPar3, Math.ap_mPut, Math.ap_mApp, Math.ap_mTo, Math.ap_mYes, Math.ap_iSq, Math.ap_iZp, Math.ap_iEn, Math.ap_mRetC, Math.ap_eCh, Math.ap_noPart, Math.ap_aPart, Math.ap_eSlice, Math.ap_mkF, Math.ap_mkC, Mir.env0, Mir.fin, Mir.finC, Mir.thenDo, Mir.toFl, Mir.wipeE, Mir.itemsOf, Mir.orBad, Mir.gNm, Mir.gTp, Mir.gNms, Mir.Out.bind, Mir.gIx, Mir.seqOf, Mir.gLen, Mir.gTuple, Mir.gAbs, Mir.gInt, Mir.gCmp, Mir.gI, Mir.gAdd, Mir.gSub, Mir.gNeg, Mir.gBols, Mir.gInts, Mir.gChain, Mir.nxO, Mir.putAt, Mir.appAt, Mir.isC, L2.atI, L2.ixN, Math.eIsi_tuple, Math.eIsi_int, Math.eIsi_bool, Math.gEq_int, Math.gEq_bool, hc, hc2, Mir.gMulA, m, v8, v9, v10, w8, w9, w10]
theorem lw_tail {a b c d e f g : Option Sl} {s : Sto} : lwTail [a, b, c, d, e, f, g] s = .rt (.d (.bool true)) s := by
  unfold lwTail
  refine seq_nx (s1 := s) (ρ1 := [a, b, c, d, some (.d flatD), some (.d thinD), g]) rfl ?_
  refine seq_nx (if_no (or_no (unlike (v := .tuple [.int 0, .tuple [.tuple [], .tuple [], .tuple []]]) (v1 s) rfl (w1 s)) (or_no (unlike (v := .tuple [.int 2, .tuple []]) (v2 s) rfl (w2 s)) (unlike (v := thinD) (v3 s) rfl (w3 s))))) ?_
  refine seq_nx (if_no (or_no (unlike (v := .tuple [.int 4, .tuple [.tuple [.int 0, .int 0, .int 0, .int 0], .tuple [.int 0, .int 0, .int 0, .int 0]]]) (v4 s) rfl (w4 s)) (or_no (unlike (v := .tuple [.int 0, .int 0]) (v5 s) rfl (w5 s)) (or_no (unlike (v := .tuple [.int 0, .int 0, .int 0]) (v6 s) rfl (w6 s)) (unlike (v := .int 0) (v7 s) rfl gEq_ints))))) ?_
  exact seq_nx lw_far lw_last
theorem law_true (ns : List Int) (h : ns.length ≤ 63) : ∃ s, run_law [.s ns] [] = .ok (.bool true) s := by
  have hr : ∃ k : Nat, iRg1 (eTwo (fun i j => if j > i then j else i) (eC (.int 1)) (eTwo (fun i j => if j < i then j else i) (eC (.int 3)) (eSl gLen (lVar 0)))) [some (.s ns), none, none, none, none, none, none] [] = .ok (rangeOf 0 k) [] := by
    have h3 : seqOf (.s ns) [] = some (false, ns.map PyData.int) := rfl
    have el : eSl gLen (lVar 0) [some (.s ns), none, none, none, none, none, none] [] = .ok (.int ns.length) [] := by
      show gLen (.s ns) [] = _
      unfold gLen
      rw [h3]
      simp
    have e2 : ∀ z : Int, eTwo (fun i j => if j > i then j else i) (eC (.int 1)) (eTwo (fun i j => if j < i then j else i) (eC (.int 3)) (eSl gLen (lVar 0))) [some (.s ns), none, none, none, none, none, none] [] = .ok (.int z) [] → -(2 ^ 62) ≤ z ∧ z < 2 ^ 62 → ∃ k : Nat, iRg1 (eTwo (fun i j => if j > i then j else i) (eC (.int 1)) (eTwo (fun i j => if j < i then j else i) (eC (.int 3)) (eSl gLen (lVar 0)))) [some (.s ns), none, none, none, none, none, none] [] = .ok (rangeOf 0 k) [] := by
      intro z hz hb
      refine ⟨z.toNat, ?_⟩
      rw [ap_iRg1, hz, Out.bind_ok]
      simp only [hb, and_self, if_true]
    refine e2 _ (by
      unfold Mir.eTwo
      simp only [ap_eBin, ap_eC, el, Out.bind_ok, Mir.gTwo]
      rfl) ?_
    constructor <;> (repeat' split) <;> omega
  obtain ⟨k, hr⟩ := hr
  obtain ⟨b', t', c', s', e⟩ := lw_spots (ns := ns) (d := none) (e := none) (f := none) (List.range k) (s := []) (b := none) (t := none) (c := none)
  refine ⟨[], ?_⟩
  have e0 : run_law = mkF 7 (mSeq (mFor (iRg1 (eTwo (fun i j => if j > i then j else i) (eC (.int 1)) (eTwo (fun i j => if j < i then j else i) (eC (.int 3)) (eSl gLen (lVar 0))))) (gNm 1) lwSpot) lwTail) := rfl
  rw [e0, ap_mkF, ap_mSeq]
  have e1 : env0 7 [.s ns] = [some (.s ns), none, none, none, none, none, none] := rfl
  rw [e1, ap_mFor, hr, toFl_ok', rangeOf_eq, e, thenDo_nx, lw_tail]
  rfl
end Math

namespace My
open PySem PySem.Spec PyProof.Rows L2 Mir Fn
def top (i : Nat) : Stmt := PySem.Challenge.pw_gluewhole_k01_whole_sums_and_products_of.main.body.getD i (.Pass ⟨0, 0, 0, 0⟩)
abbrev s_plain_dot : Stmt := My.top 1
theorem sc_plain_dot : FnScope ["one", "other", "left", "right"] ["one", "other"] (defScope s_plain_dot) := ⟨rfl, rfl, rfl, by decide +kernel, rfl, by decide +kernel, by decide +kernel⟩
abbrev s_row_more : Stmt := My.top 2
theorem sc_row_more : FnScope ["one", "other", "left", "right"] ["one", "other"] (defScope s_row_more) := ⟨rfl, rfl, rfl, by decide +kernel, rfl, by decide +kernel, by decide +kernel⟩
abbrev s_row_less : Stmt := My.top 3
theorem sc_row_less : FnScope ["one", "other", "left", "right"] ["one", "other"] (defScope s_row_less) := ⟨rfl, rfl, rfl, by decide +kernel, rfl, by decide +kernel, by decide +kernel⟩
abbrev s_plain_led : Stmt := My.top 4
theorem sc_plain_led : FnScope ["grid", "row", "line"] ["grid", "row"] (defScope s_plain_led) := ⟨rfl, rfl, rfl, by decide +kernel, rfl, by decide +kernel, by decide +kernel⟩
abbrev s_plain_grid : Stmt := My.top 5
theorem sc_plain_grid : FnScope ["rows", "width", "row"] ["rows", "width"] (defScope s_plain_grid) := ⟨rfl, rfl, rfl, by decide +kernel, rfl, by decide +kernel, by decide +kernel⟩
abbrev s_turned_rows_of : Stmt := My.top 6
theorem sc_turned_rows_of : FnScope ["rows", "width"] ["rows", "width"] (defScope s_turned_rows_of) := ⟨rfl, rfl, rfl, by decide +kernel, rfl, by decide +kernel, by decide +kernel⟩
abbrev s_plain_turned : Stmt := My.top 7
theorem sc_plain_turned : FnScope ["grid", "width", "rows"] ["grid"] (defScope s_plain_turned) := ⟨rfl, rfl, rfl, by decide +kernel, rfl, by decide +kernel, by decide +kernel⟩
abbrev s_plain_product : Stmt := My.top 8
theorem sc_plain_product : FnScope ["one", "other", "columns", "row", "column", "left", "right"] ["one", "other"] (defScope s_plain_product) := ⟨rfl, rfl, rfl, by decide +kernel, rfl, by decide +kernel, by decide +kernel⟩
abbrev s_plain_difference : Stmt := My.top 9
theorem sc_plain_difference : FnScope ["one", "other", "pairs", "row", "line", "pair", "left", "right"] ["one", "other"] (defScope s_plain_difference) := ⟨rfl, rfl, rfl, by decide +kernel, rfl, by decide +kernel, by decide +kernel⟩
abbrev s_plain_multiple : Stmt := My.top 10
theorem sc_plain_multiple : FnScope ["grid", "number", "row", "item"] ["grid", "number"] (defScope s_plain_multiple) := ⟨rfl, rfl, rfl, by decide +kernel, rfl, by decide +kernel, by decide +kernel⟩
abbrev s_plain_sum : Stmt := My.top 11
theorem sc_plain_sum : FnScope ["one", "other"] ["one", "other"] (defScope s_plain_sum) := ⟨rfl, rfl, rfl, by decide +kernel, rfl, by decide +kernel, by decide +kernel⟩
abbrev s_plain_read : Stmt := My.top 12
theorem sc_plain_read : FnScope ["row", "grid"] ["row", "grid"] (defScope s_plain_read) := ⟨rfl, rfl, rfl, by decide +kernel, rfl, by decide +kernel, by decide +kernel⟩
abbrev s_plain_beside : Stmt := My.top 13
theorem sc_plain_beside : FnScope ["one", "other", "left", "right"] ["one", "other"] (defScope s_plain_beside) := ⟨rfl, rfl, rfl, by decide +kernel, rfl, by decide +kernel, by decide +kernel⟩
abbrev s_is_long_integer : Stmt := My.top 24
theorem sc_is_long_integer : FnScope ["value"] ["value"] (defScope s_is_long_integer) := ⟨rfl, rfl, rfl, by decide +kernel, rfl, by decide +kernel, by decide +kernel⟩
abbrev s_are_long_integers : Stmt := My.top 25
theorem sc_are_long_integers : FnScope ["values", "value"] ["values"] (defScope s_are_long_integers) := ⟨rfl, rfl, rfl, by decide +kernel, rfl, by decide +kernel, by decide +kernel⟩
abbrev s_have_integers : Stmt := My.top 26
theorem sc_have_integers : FnScope ["rows", "row", "item"] ["rows"] (defScope s_have_integers) := ⟨rfl, rfl, rfl, by decide +kernel, rfl, by decide +kernel, by decide +kernel⟩
abbrev s_are_short : Stmt := My.top 27
theorem sc_are_short : FnScope ["numbers"] ["numbers"] (defScope s_are_short) := ⟨rfl, rfl, rfl, by decide +kernel, rfl, by decide +kernel, by decide +kernel⟩
abbrev s_is_integer : Stmt := My.top 28
theorem sc_is_integer : FnScope ["value"] ["value"] (defScope s_is_integer) := ⟨rfl, rfl, rfl, by decide +kernel, rfl, by decide +kernel, by decide +kernel⟩
abbrev s_is_long_row : Stmt := My.top 29
theorem sc_is_long_row : FnScope ["value"] ["value"] (defScope s_is_long_row) := ⟨rfl, rfl, rfl, by decide +kernel, rfl, by decide +kernel, by decide +kernel⟩
abbrev s_is_row : Stmt := My.top 30
theorem sc_is_row : FnScope ["value"] ["value"] (defScope s_is_row) := ⟨rfl, rfl, rfl, by decide +kernel, rfl, by decide +kernel, by decide +kernel⟩
abbrev s_is_grid_up_to : Stmt := My.top 31
theorem sc_is_grid_up_to : FnScope ["value", "most", "width", "rows", "row"] ["value", "most"] (defScope s_is_grid_up_to) := ⟨rfl, rfl, rfl, by decide +kernel, rfl, by decide +kernel, by decide +kernel⟩
abbrev s_is_long_grid : Stmt := My.top 32
theorem sc_is_long_grid : FnScope ["value"] ["value"] (defScope s_is_long_grid) := ⟨rfl, rfl, rfl, by decide +kernel, rfl, by decide +kernel, by decide +kernel⟩
abbrev s_is_grid : Stmt := My.top 33
theorem sc_is_grid : FnScope ["value", "row"] ["value"] (defScope s_is_grid) := ⟨rfl, rfl, rfl, by decide +kernel, rfl, by decide +kernel, by decide +kernel⟩
abbrev s_check_row : Stmt := My.top 34
theorem sc_check_row : FnScope ["value"] ["value"] (defScope s_check_row) := ⟨rfl, rfl, rfl, by decide +kernel, rfl, by decide +kernel, by decide +kernel⟩
abbrev s_check_grid : Stmt := My.top 35
theorem sc_check_grid : FnScope ["value"] ["value"] (defScope s_check_grid) := ⟨rfl, rfl, rfl, by decide +kernel, rfl, by decide +kernel, by decide +kernel⟩
abbrev s_check_grids : Stmt := My.top 36
theorem sc_check_grids : FnScope ["one", "other"] ["one", "other"] (defScope s_check_grids) := ⟨rfl, rfl, rfl, by decide +kernel, rfl, by decide +kernel, by decide +kernel⟩
abbrev s_check_integer : Stmt := My.top 37
theorem sc_check_integer : FnScope ["value"] ["value"] (defScope s_check_integer) := ⟨rfl, rfl, rfl, by decide +kernel, rfl, by decide +kernel, by decide +kernel⟩
abbrev s_check_fit : Stmt := My.top 38
theorem sc_check_fit : FnScope ["fits", "reason"] ["fits", "reason"] (defScope s_check_fit) := ⟨rfl, rfl, rfl, by decide +kernel, rfl, by decide +kernel, by decide +kernel⟩
abbrev s_check_rows : Stmt := My.top 39
theorem sc_check_rows : FnScope ["one", "other"] ["one", "other"] (defScope s_check_rows) := ⟨rfl, rfl, rfl, by decide +kernel, rfl, by decide +kernel, by decide +kernel⟩
abbrev s_dot : Stmt := My.top 40
theorem sc_dot : FnScope ["one", "other"] ["one", "other"] (defScope s_dot) := ⟨rfl, rfl, rfl, by decide +kernel, rfl, by decide +kernel, by decide +kernel⟩
abbrev s_row_sum : Stmt := My.top 41
theorem sc_row_sum : FnScope ["one", "other"] ["one", "other"] (defScope s_row_sum) := ⟨rfl, rfl, rfl, by decide +kernel, rfl, by decide +kernel, by decide +kernel⟩
abbrev s_row_difference : Stmt := My.top 42
theorem sc_row_difference : FnScope ["one", "other"] ["one", "other"] (defScope s_row_difference) := ⟨rfl, rfl, rfl, by decide +kernel, rfl, by decide +kernel, by decide +kernel⟩
abbrev s_row_multiple : Stmt := My.top 43
theorem sc_row_multiple : FnScope ["row", "number", "item"] ["row", "number"] (defScope s_row_multiple) := ⟨rfl, rfl, rfl, by decide +kernel, rfl, by decide +kernel, by decide +kernel⟩
abbrev s_turned : Stmt := My.top 44
theorem sc_turned : FnScope ["grid"] ["grid"] (defScope s_turned) := ⟨rfl, rfl, rfl, by decide +kernel, rfl, by decide +kernel, by decide +kernel⟩
abbrev s_grid_multiple : Stmt := My.top 45
theorem sc_grid_multiple : FnScope ["grid", "number"] ["grid", "number"] (defScope s_grid_multiple) := ⟨rfl, rfl, rfl, by decide +kernel, rfl, by decide +kernel, by decide +kernel⟩
abbrev s_check_like : Stmt := My.top 46
theorem sc_check_like : FnScope ["one", "other"] ["one", "other"] (defScope s_check_like) := ⟨rfl, rfl, rfl, by decide +kernel, rfl, by decide +kernel, by decide +kernel⟩
abbrev s_grid_sum : Stmt := My.top 47
theorem sc_grid_sum : FnScope ["one", "other"] ["one", "other"] (defScope s_grid_sum) := ⟨rfl, rfl, rfl, by decide +kernel, rfl, by decide +kernel, by decide +kernel⟩
abbrev s_grid_difference : Stmt := My.top 48
theorem sc_grid_difference : FnScope ["one", "other"] ["one", "other"] (defScope s_grid_difference) := ⟨rfl, rfl, rfl, by decide +kernel, rfl, by decide +kernel, by decide +kernel⟩
abbrev s_grid_product : Stmt := My.top 49
theorem sc_grid_product : FnScope ["one", "other"] ["one", "other"] (defScope s_grid_product) := ⟨rfl, rfl, rfl, by decide +kernel, rfl, by decide +kernel, by decide +kernel⟩
abbrev s_check_most : Stmt := My.top 50
theorem sc_check_most : FnScope ["size"] ["size"] (defScope s_check_most) := ⟨rfl, rfl, rfl, by decide +kernel, rfl, by decide +kernel, by decide +kernel⟩
abbrev s_beside : Stmt := My.top 51
theorem sc_beside : FnScope ["one", "other"] ["one", "other"] (defScope s_beside) := ⟨rfl, rfl, rfl, by decide +kernel, rfl, by decide +kernel, by decide +kernel⟩
abbrev s_over : Stmt := My.top 52
theorem sc_over : FnScope ["one", "other"] ["one", "other"] (defScope s_over) := ⟨rfl, rfl, rfl, by decide +kernel, rfl, by decide +kernel, by decide +kernel⟩
abbrev s_led : Stmt := My.top 53
theorem sc_led : FnScope ["grid", "row"] ["grid", "row"] (defScope s_led) := ⟨rfl, rfl, rfl, by decide +kernel, rfl, by decide +kernel, by decide +kernel⟩
abbrev s_read_by : Stmt := My.top 54
theorem sc_read_by : FnScope ["row", "grid"] ["row", "grid"] (defScope s_read_by) := ⟨rfl, rfl, rfl, by decide +kernel, rfl, by decide +kernel, by decide +kernel⟩
abbrev s_law_hat : Stmt := My.top 56
theorem sc_law_hat : FnScope ["script", "spot", "cell", "great", "seed"] ["script", "spot"] (defScope s_law_hat) := ⟨rfl, rfl, rfl, by decide +kernel, rfl, by decide +kernel, by decide +kernel⟩
abbrev s_law_up_to : Stmt := My.top 57
theorem sc_law_up_to : FnScope ["hat", "total", "found", "one", "two"] ["hat", "total"] (defScope s_law_up_to) := ⟨rfl, rfl, rfl, by decide +kernel, rfl, by decide +kernel, by decide +kernel⟩
abbrev s_law_out_of : Stmt := My.top 58
theorem sc_law_out_of : FnScope ["hat", "items"] ["hat", "items"] (defScope s_law_out_of) := ⟨rfl, rfl, rfl, by decide +kernel, rfl, by decide +kernel, by decide +kernel⟩
abbrev s_law_number : Stmt := My.top 59
theorem sc_law_number : FnScope ["hat"] ["hat"] (defScope s_law_number) := ⟨rfl, rfl, rfl, by decide +kernel, rfl, by decide +kernel, by decide +kernel⟩
abbrev s_law_row : Stmt := My.top 60
theorem sc_law_row : FnScope ["hat", "many", "turn"] ["hat", "many"] (defScope s_law_row) := ⟨rfl, rfl, rfl, by decide +kernel, rfl, by decide +kernel, by decide +kernel⟩
abbrev s_law_dot : Stmt := My.top 61
theorem sc_law_dot : FnScope ["one", "other", "found", "left", "right"] ["one", "other"] (defScope s_law_dot) := ⟨rfl, rfl, rfl, by decide +kernel, rfl, by decide +kernel, by decide +kernel⟩
abbrev s_law_lead : Stmt := My.top 62
theorem sc_law_lead : FnScope ["grid", "row", "line"] ["grid", "row"] (defScope s_law_lead) := ⟨rfl, rfl, rfl, by decide +kernel, rfl, by decide +kernel, by decide +kernel⟩
abbrev s_law_turn : Stmt := My.top 63
theorem sc_law_turn : FnScope ["grid", "width", "lines", "at", "line"] ["grid"] (defScope s_law_turn) := ⟨rfl, rfl, rfl, by decide +kernel, rfl, by decide +kernel, by decide +kernel⟩
abbrev s_law_times : Stmt := My.top 64
theorem sc_law_times : FnScope ["one", "other", "columns", "line", "column"] ["one", "other"] (defScope s_law_times) := ⟨rfl, rfl, rfl, by decide +kernel, rfl, by decide +kernel, by decide +kernel⟩
abbrev s_law_unit : Stmt := My.top 65
theorem sc_law_unit : FnScope ["size", "at", "to"] ["size"] (defScope s_law_unit) := ⟨rfl, rfl, rfl, by decide +kernel, rfl, by decide +kernel, by decide +kernel⟩
abbrev s_law_jg_entry : Stmt := My.top 66
theorem sc_law_jg_entry : FnScope ["hat"] ["hat"] (defScope s_law_jg_entry) := ⟨rfl, rfl, rfl, by decide +kernel, rfl, by decide +kernel, by decide +kernel⟩
abbrev s_law_jg_wide : Stmt := My.top 67
theorem sc_law_jg_wide : FnScope ["hat", "height", "width", "line", "at"] ["hat", "height", "width"] (defScope s_law_jg_wide) := ⟨rfl, rfl, rfl, by decide +kernel, rfl, by decide +kernel, by decide +kernel⟩
abbrev s_law_jg_grid : Stmt := My.top 68
theorem sc_law_jg_grid : FnScope ["hat", "height", "width", "lines", "line", "at"] ["hat", "height", "width"] (defScope s_law_jg_grid) := ⟨rfl, rfl, rfl, by decide +kernel, rfl, by decide +kernel, by decide +kernel⟩
abbrev s_law_jg_plus : Stmt := My.top 69
theorem sc_law_jg_plus : FnScope ["one", "other", "left", "right", "a", "b"] ["one", "other"] (defScope s_law_jg_plus) := ⟨rfl, rfl, rfl, by decide +kernel, rfl, by decide +kernel, by decide +kernel⟩
abbrev s_law_jg_scaled : Stmt := My.top 70
theorem sc_law_jg_scaled : FnScope ["grid", "number", "line", "entry"] ["grid", "number"] (defScope s_law_jg_scaled) := ⟨rfl, rfl, rfl, by decide +kernel, rfl, by decide +kernel, by decide +kernel⟩
abbrev s_law_jg_beside : Stmt := My.top 71
theorem sc_law_jg_beside : FnScope ["one", "other", "left", "right"] ["one", "other"] (defScope s_law_jg_beside) := ⟨rfl, rfl, rfl, by decide +kernel, rfl, by decide +kernel, by decide +kernel⟩
abbrev s_law_plain_right : Stmt := My.top 72
theorem sc_law_plain_right : FnScope ["hat", "high", "wide", "number", "one", "other", "row", "line", "left", "right", "third", "at", "entry", "a", "b"] ["hat"] (defScope s_law_plain_right) := ⟨rfl, rfl, rfl, by decide +kernel, rfl, by decide +kernel, by decide +kernel⟩
abbrev s_law_grouped_right : Stmt := My.top 73
theorem sc_law_grouped_right : FnScope ["hat", "sizes", "one", "two", "three", "row", "line", "led_on", "both", "turn", "at"] ["hat"] (defScope s_law_grouped_right) := ⟨rfl, rfl, rfl, by decide +kernel, rfl, by decide +kernel, by decide +kernel⟩
abbrev s_law : Stmt := My.top 74
theorem sc_law : FnScope ["script", "spot", "hat", "turn", "flat", "thin", "far"] ["script"] (defScope s_law) := ⟨rfl, rfl, rfl, by decide +kernel, rfl, by decide +kernel, by decide +kernel⟩
structure Txt (K : PySem.W.Frag) (mg : Str → Option Value) where
  a_plain_dot : Addr
  fd_plain_dot : FuncData
  F_plain_dot : Fun K "plain_dot" "plain_dot" s_plain_dot a_plain_dot fd_plain_dot
  b_plain_dot : Binds K fd_plain_dot ["one", "other"] []
  m_plain_dot : mg "plain_dot" = some (.ref a_plain_dot)
  a_row_more : Addr
  fd_row_more : FuncData
  F_row_more : Fun K "row_more" "row_more" s_row_more a_row_more fd_row_more
  b_row_more : Binds K fd_row_more ["one", "other"] []
  m_row_more : mg "row_more" = some (.ref a_row_more)
  a_row_less : Addr
  fd_row_less : FuncData
  F_row_less : Fun K "row_less" "row_less" s_row_less a_row_less fd_row_less
  b_row_less : Binds K fd_row_less ["one", "other"] []
  m_row_less : mg "row_less" = some (.ref a_row_less)
  a_plain_led : Addr
  fd_plain_led : FuncData
  F_plain_led : Fun K "plain_led" "plain_led" s_plain_led a_plain_led fd_plain_led
  b_plain_led : Binds K fd_plain_led ["grid", "row"] []
  m_plain_led : mg "plain_led" = some (.ref a_plain_led)
  a_plain_grid : Addr
  fd_plain_grid : FuncData
  F_plain_grid : Fun K "plain_grid" "plain_grid" s_plain_grid a_plain_grid fd_plain_grid
  b_plain_grid : Binds K fd_plain_grid ["rows", "width"] []
  m_plain_grid : mg "plain_grid" = some (.ref a_plain_grid)
  a_turned_rows_of : Addr
  fd_turned_rows_of : FuncData
  F_turned_rows_of : Fun K "turned_rows_of" "turned_rows_of" s_turned_rows_of a_turned_rows_of fd_turned_rows_of
  b_turned_rows_of : Binds K fd_turned_rows_of ["rows", "width"] []
  m_turned_rows_of : mg "turned_rows_of" = some (.ref a_turned_rows_of)
  a_plain_turned : Addr
  fd_plain_turned : FuncData
  F_plain_turned : Fun K "plain_turned" "plain_turned" s_plain_turned a_plain_turned fd_plain_turned
  b_plain_turned : Binds K fd_plain_turned ["grid"] []
  m_plain_turned : mg "plain_turned" = some (.ref a_plain_turned)
  a_plain_product : Addr
  fd_plain_product : FuncData
  F_plain_product : Fun K "plain_product" "plain_product" s_plain_product a_plain_product fd_plain_product
  b_plain_product : Binds K fd_plain_product ["one", "other"] []
  m_plain_product : mg "plain_product" = some (.ref a_plain_product)
  a_plain_difference : Addr
  fd_plain_difference : FuncData
  F_plain_difference : Fun K "plain_difference" "plain_difference" s_plain_difference a_plain_difference fd_plain_difference
  b_plain_difference : Binds K fd_plain_difference ["one", "other"] []
  m_plain_difference : mg "plain_difference" = some (.ref a_plain_difference)
  a_plain_multiple : Addr
  fd_plain_multiple : FuncData
  F_plain_multiple : Fun K "plain_multiple" "plain_multiple" s_plain_multiple a_plain_multiple fd_plain_multiple
  b_plain_multiple : Binds K fd_plain_multiple ["grid", "number"] []
  m_plain_multiple : mg "plain_multiple" = some (.ref a_plain_multiple)
  a_plain_sum : Addr
  fd_plain_sum : FuncData
  F_plain_sum : Fun K "plain_sum" "plain_sum" s_plain_sum a_plain_sum fd_plain_sum
  b_plain_sum : Binds K fd_plain_sum ["one", "other"] []
  m_plain_sum : mg "plain_sum" = some (.ref a_plain_sum)
  a_plain_read : Addr
  fd_plain_read : FuncData
  F_plain_read : Fun K "plain_read" "plain_read" s_plain_read a_plain_read fd_plain_read
  b_plain_read : Binds K fd_plain_read ["row", "grid"] []
  m_plain_read : mg "plain_read" = some (.ref a_plain_read)
  a_plain_beside : Addr
  fd_plain_beside : FuncData
  F_plain_beside : Fun K "plain_beside" "plain_beside" s_plain_beside a_plain_beside fd_plain_beside
  b_plain_beside : Binds K fd_plain_beside ["one", "other"] []
  m_plain_beside : mg "plain_beside" = some (.ref a_plain_beside)
  a_is_long_integer : Addr
  fd_is_long_integer : FuncData
  F_is_long_integer : Fun K "is_long_integer" "is_long_integer" s_is_long_integer a_is_long_integer fd_is_long_integer
  b_is_long_integer : Binds K fd_is_long_integer ["value"] []
  m_is_long_integer : mg "is_long_integer" = some (.ref a_is_long_integer)
  a_are_long_integers : Addr
  fd_are_long_integers : FuncData
  F_are_long_integers : Fun K "are_long_integers" "are_long_integers" s_are_long_integers a_are_long_integers fd_are_long_integers
  b_are_long_integers : Binds K fd_are_long_integers ["values"] []
  m_are_long_integers : mg "are_long_integers" = some (.ref a_are_long_integers)
  a_have_integers : Addr
  fd_have_integers : FuncData
  F_have_integers : Fun K "have_integers" "have_integers" s_have_integers a_have_integers fd_have_integers
  b_have_integers : Binds K fd_have_integers ["rows"] []
  m_have_integers : mg "have_integers" = some (.ref a_have_integers)
  a_are_short : Addr
  fd_are_short : FuncData
  F_are_short : Fun K "are_short" "are_short" s_are_short a_are_short fd_are_short
  b_are_short : Binds K fd_are_short ["numbers"] []
  m_are_short : mg "are_short" = some (.ref a_are_short)
  a_is_integer : Addr
  fd_is_integer : FuncData
  F_is_integer : Fun K "is_integer" "is_integer" s_is_integer a_is_integer fd_is_integer
  b_is_integer : Binds K fd_is_integer ["value"] []
  m_is_integer : mg "is_integer" = some (.ref a_is_integer)
  a_is_long_row : Addr
  fd_is_long_row : FuncData
  F_is_long_row : Fun K "is_long_row" "is_long_row" s_is_long_row a_is_long_row fd_is_long_row
  b_is_long_row : Binds K fd_is_long_row ["value"] []
  m_is_long_row : mg "is_long_row" = some (.ref a_is_long_row)
  a_is_row : Addr
  fd_is_row : FuncData
  F_is_row : Fun K "is_row" "is_row" s_is_row a_is_row fd_is_row
  b_is_row : Binds K fd_is_row ["value"] []
  m_is_row : mg "is_row" = some (.ref a_is_row)
  a_is_grid_up_to : Addr
  fd_is_grid_up_to : FuncData
  F_is_grid_up_to : Fun K "is_grid_up_to" "is_grid_up_to" s_is_grid_up_to a_is_grid_up_to fd_is_grid_up_to
  b_is_grid_up_to : Binds K fd_is_grid_up_to ["value", "most"] []
  m_is_grid_up_to : mg "is_grid_up_to" = some (.ref a_is_grid_up_to)
  a_is_long_grid : Addr
  fd_is_long_grid : FuncData
  F_is_long_grid : Fun K "is_long_grid" "is_long_grid" s_is_long_grid a_is_long_grid fd_is_long_grid
  b_is_long_grid : Binds K fd_is_long_grid ["value"] []
  m_is_long_grid : mg "is_long_grid" = some (.ref a_is_long_grid)
  a_is_grid : Addr
  fd_is_grid : FuncData
  F_is_grid : Fun K "is_grid" "is_grid" s_is_grid a_is_grid fd_is_grid
  b_is_grid : Binds K fd_is_grid ["value"] []
  m_is_grid : mg "is_grid" = some (.ref a_is_grid)
  a_check_row : Addr
  fd_check_row : FuncData
  F_check_row : Fun K "check_row" "check_row" s_check_row a_check_row fd_check_row
  b_check_row : Binds K fd_check_row ["value"] []
  m_check_row : mg "check_row" = some (.ref a_check_row)
  a_check_grid : Addr
  fd_check_grid : FuncData
  F_check_grid : Fun K "check_grid" "check_grid" s_check_grid a_check_grid fd_check_grid
  b_check_grid : Binds K fd_check_grid ["value"] []
  m_check_grid : mg "check_grid" = some (.ref a_check_grid)
  a_check_grids : Addr
  fd_check_grids : FuncData
  F_check_grids : Fun K "check_grids" "check_grids" s_check_grids a_check_grids fd_check_grids
  b_check_grids : Binds K fd_check_grids ["one", "other"] []
  m_check_grids : mg "check_grids" = some (.ref a_check_grids)
  a_check_integer : Addr
  fd_check_integer : FuncData
  F_check_integer : Fun K "check_integer" "check_integer" s_check_integer a_check_integer fd_check_integer
  b_check_integer : Binds K fd_check_integer ["value"] []
  m_check_integer : mg "check_integer" = some (.ref a_check_integer)
  a_check_fit : Addr
  fd_check_fit : FuncData
  F_check_fit : Fun K "check_fit" "check_fit" s_check_fit a_check_fit fd_check_fit
  b_check_fit : Binds K fd_check_fit ["fits", "reason"] []
  m_check_fit : mg "check_fit" = some (.ref a_check_fit)
  a_check_rows : Addr
  fd_check_rows : FuncData
  F_check_rows : Fun K "check_rows" "check_rows" s_check_rows a_check_rows fd_check_rows
  b_check_rows : Binds K fd_check_rows ["one", "other"] []
  m_check_rows : mg "check_rows" = some (.ref a_check_rows)
  a_dot : Addr
  fd_dot : FuncData
  F_dot : Fun K "dot" "dot" s_dot a_dot fd_dot
  b_dot : Binds K fd_dot ["one", "other"] []
  m_dot : mg "dot" = some (.ref a_dot)
  a_row_sum : Addr
  fd_row_sum : FuncData
  F_row_sum : Fun K "row_sum" "row_sum" s_row_sum a_row_sum fd_row_sum
  b_row_sum : Binds K fd_row_sum ["one", "other"] []
  m_row_sum : mg "row_sum" = some (.ref a_row_sum)
  a_row_difference : Addr
  fd_row_difference : FuncData
  F_row_difference : Fun K "row_difference" "row_difference" s_row_difference a_row_difference fd_row_difference
  b_row_difference : Binds K fd_row_difference ["one", "other"] []
  m_row_difference : mg "row_difference" = some (.ref a_row_difference)
  a_row_multiple : Addr
  fd_row_multiple : FuncData
  F_row_multiple : Fun K "row_multiple" "row_multiple" s_row_multiple a_row_multiple fd_row_multiple
  b_row_multiple : Binds K fd_row_multiple ["row", "number"] []
  m_row_multiple : mg "row_multiple" = some (.ref a_row_multiple)
  a_turned : Addr
  fd_turned : FuncData
  F_turned : Fun K "turned" "turned" s_turned a_turned fd_turned
  b_turned : Binds K fd_turned ["grid"] []
  m_turned : mg "turned" = some (.ref a_turned)
  a_grid_multiple : Addr
  fd_grid_multiple : FuncData
  F_grid_multiple : Fun K "grid_multiple" "grid_multiple" s_grid_multiple a_grid_multiple fd_grid_multiple
  b_grid_multiple : Binds K fd_grid_multiple ["grid", "number"] []
  m_grid_multiple : mg "grid_multiple" = some (.ref a_grid_multiple)
  a_check_like : Addr
  fd_check_like : FuncData
  F_check_like : Fun K "check_like" "check_like" s_check_like a_check_like fd_check_like
  b_check_like : Binds K fd_check_like ["one", "other"] []
  m_check_like : mg "check_like" = some (.ref a_check_like)
  a_grid_sum : Addr
  fd_grid_sum : FuncData
  F_grid_sum : Fun K "grid_sum" "grid_sum" s_grid_sum a_grid_sum fd_grid_sum
  b_grid_sum : Binds K fd_grid_sum ["one", "other"] []
  m_grid_sum : mg "grid_sum" = some (.ref a_grid_sum)
  a_grid_difference : Addr
  fd_grid_difference : FuncData
  F_grid_difference : Fun K "grid_difference" "grid_difference" s_grid_difference a_grid_difference fd_grid_difference
  b_grid_difference : Binds K fd_grid_difference ["one", "other"] []
  m_grid_difference : mg "grid_difference" = some (.ref a_grid_difference)
  a_grid_product : Addr
  fd_grid_product : FuncData
  F_grid_product : Fun K "grid_product" "grid_product" s_grid_product a_grid_product fd_grid_product
  b_grid_product : Binds K fd_grid_product ["one", "other"] []
  m_grid_product : mg "grid_product" = some (.ref a_grid_product)
  a_check_most : Addr
  fd_check_most : FuncData
  F_check_most : Fun K "check_most" "check_most" s_check_most a_check_most fd_check_most
  b_check_most : Binds K fd_check_most ["size"] []
  m_check_most : mg "check_most" = some (.ref a_check_most)
  a_beside : Addr
  fd_beside : FuncData
  F_beside : Fun K "beside" "beside" s_beside a_beside fd_beside
  b_beside : Binds K fd_beside ["one", "other"] []
  m_beside : mg "beside" = some (.ref a_beside)
  a_over : Addr
  fd_over : FuncData
  F_over : Fun K "over" "over" s_over a_over fd_over
  b_over : Binds K fd_over ["one", "other"] []
  m_over : mg "over" = some (.ref a_over)
  a_led : Addr
  fd_led : FuncData
  F_led : Fun K "led" "led" s_led a_led fd_led
  b_led : Binds K fd_led ["grid", "row"] []
  m_led : mg "led" = some (.ref a_led)
  a_read_by : Addr
  fd_read_by : FuncData
  F_read_by : Fun K "read_by" "read_by" s_read_by a_read_by fd_read_by
  b_read_by : Binds K fd_read_by ["row", "grid"] []
  m_read_by : mg "read_by" = some (.ref a_read_by)
  a_law_hat : Addr
  fd_law_hat : FuncData
  F_law_hat : Fun K "_law_hat" "_law_hat" s_law_hat a_law_hat fd_law_hat
  b_law_hat : Binds K fd_law_hat ["script", "spot"] []
  m_law_hat : mg "_law_hat" = some (.ref a_law_hat)
  a_law_up_to : Addr
  fd_law_up_to : FuncData
  F_law_up_to : Fun K "_law_up_to" "_law_up_to" s_law_up_to a_law_up_to fd_law_up_to
  b_law_up_to : Binds K fd_law_up_to ["hat", "total"] []
  m_law_up_to : mg "_law_up_to" = some (.ref a_law_up_to)
  a_law_out_of : Addr
  fd_law_out_of : FuncData
  F_law_out_of : Fun K "_law_out_of" "_law_out_of" s_law_out_of a_law_out_of fd_law_out_of
  b_law_out_of : Binds K fd_law_out_of ["hat", "items"] []
  m_law_out_of : mg "_law_out_of" = some (.ref a_law_out_of)
  a_law_number : Addr
  fd_law_number : FuncData
  F_law_number : Fun K "_law_number" "_law_number" s_law_number a_law_number fd_law_number
  b_law_number : Binds K fd_law_number ["hat"] []
  m_law_number : mg "_law_number" = some (.ref a_law_number)
  a_law_row : Addr
  fd_law_row : FuncData
  F_law_row : Fun K "_law_row" "_law_row" s_law_row a_law_row fd_law_row
  b_law_row : Binds K fd_law_row ["hat", "many"] []
  m_law_row : mg "_law_row" = some (.ref a_law_row)
  a_law_dot : Addr
  fd_law_dot : FuncData
  F_law_dot : Fun K "_law_dot" "_law_dot" s_law_dot a_law_dot fd_law_dot
  b_law_dot : Binds K fd_law_dot ["one", "other"] []
  m_law_dot : mg "_law_dot" = some (.ref a_law_dot)
  a_law_lead : Addr
  fd_law_lead : FuncData
  F_law_lead : Fun K "_law_lead" "_law_lead" s_law_lead a_law_lead fd_law_lead
  b_law_lead : Binds K fd_law_lead ["grid", "row"] []
  m_law_lead : mg "_law_lead" = some (.ref a_law_lead)
  a_law_turn : Addr
  fd_law_turn : FuncData
  F_law_turn : Fun K "_law_turn" "_law_turn" s_law_turn a_law_turn fd_law_turn
  b_law_turn : Binds K fd_law_turn ["grid"] []
  m_law_turn : mg "_law_turn" = some (.ref a_law_turn)
  a_law_times : Addr
  fd_law_times : FuncData
  F_law_times : Fun K "_law_times" "_law_times" s_law_times a_law_times fd_law_times
  b_law_times : Binds K fd_law_times ["one", "other"] []
  m_law_times : mg "_law_times" = some (.ref a_law_times)
  a_law_unit : Addr
  fd_law_unit : FuncData
  F_law_unit : Fun K "_law_unit" "_law_unit" s_law_unit a_law_unit fd_law_unit
  b_law_unit : Binds K fd_law_unit ["size"] []
  m_law_unit : mg "_law_unit" = some (.ref a_law_unit)
  a_law_jg_entry : Addr
  fd_law_jg_entry : FuncData
  F_law_jg_entry : Fun K "_law_jg_entry" "_law_jg_entry" s_law_jg_entry a_law_jg_entry fd_law_jg_entry
  b_law_jg_entry : Binds K fd_law_jg_entry ["hat"] []
  m_law_jg_entry : mg "_law_jg_entry" = some (.ref a_law_jg_entry)
  a_law_jg_wide : Addr
  fd_law_jg_wide : FuncData
  F_law_jg_wide : Fun K "_law_jg_wide" "_law_jg_wide" s_law_jg_wide a_law_jg_wide fd_law_jg_wide
  b_law_jg_wide : Binds K fd_law_jg_wide ["hat", "height", "width"] []
  m_law_jg_wide : mg "_law_jg_wide" = some (.ref a_law_jg_wide)
  a_law_jg_grid : Addr
  fd_law_jg_grid : FuncData
  F_law_jg_grid : Fun K "_law_jg_grid" "_law_jg_grid" s_law_jg_grid a_law_jg_grid fd_law_jg_grid
  b_law_jg_grid : Binds K fd_law_jg_grid ["hat", "height", "width"] []
  m_law_jg_grid : mg "_law_jg_grid" = some (.ref a_law_jg_grid)
  a_law_jg_plus : Addr
  fd_law_jg_plus : FuncData
  F_law_jg_plus : Fun K "_law_jg_plus" "_law_jg_plus" s_law_jg_plus a_law_jg_plus fd_law_jg_plus
  b_law_jg_plus : Binds K fd_law_jg_plus ["one", "other"] []
  m_law_jg_plus : mg "_law_jg_plus" = some (.ref a_law_jg_plus)
  a_law_jg_scaled : Addr
  fd_law_jg_scaled : FuncData
  F_law_jg_scaled : Fun K "_law_jg_scaled" "_law_jg_scaled" s_law_jg_scaled a_law_jg_scaled fd_law_jg_scaled
  b_law_jg_scaled : Binds K fd_law_jg_scaled ["grid", "number"] []
  m_law_jg_scaled : mg "_law_jg_scaled" = some (.ref a_law_jg_scaled)
  a_law_jg_beside : Addr
  fd_law_jg_beside : FuncData
  F_law_jg_beside : Fun K "_law_jg_beside" "_law_jg_beside" s_law_jg_beside a_law_jg_beside fd_law_jg_beside
  b_law_jg_beside : Binds K fd_law_jg_beside ["one", "other"] []
  m_law_jg_beside : mg "_law_jg_beside" = some (.ref a_law_jg_beside)
  a_law_plain_right : Addr
  fd_law_plain_right : FuncData
  F_law_plain_right : Fun K "_law_plain_right" "_law_plain_right" s_law_plain_right a_law_plain_right fd_law_plain_right
  b_law_plain_right : Binds K fd_law_plain_right ["hat"] []
  m_law_plain_right : mg "_law_plain_right" = some (.ref a_law_plain_right)
  a_law_grouped_right : Addr
  fd_law_grouped_right : FuncData
  F_law_grouped_right : Fun K "_law_grouped_right" "_law_grouped_right" s_law_grouped_right a_law_grouped_right fd_law_grouped_right
  b_law_grouped_right : Binds K fd_law_grouped_right ["hat"] []
  m_law_grouped_right : mg "_law_grouped_right" = some (.ref a_law_grouped_right)
  a_law : Addr
  fd_law : FuncData
  F_law : Fun K "law" "law" s_law a_law fd_law
  b_law : Binds K fd_law ["script"] []
  m_law : mg "law" = some (.ref a_law)
  t_MAX_SIZE : Tok
  c_MAX_SIZE : mg "MAX_SIZE" = some (.int 60 t_MAX_SIZE)
  t_TOO_LONG : Tok
  c_TOO_LONG : mg "TOO_LONG" = some (.int 1000000000000 t_TOO_LONG)
  z_abs : mg "abs" = none
  z_all : mg "all" = none
  z_int : mg "int" = none
  z_isinstance : mg "isinstance" = none
  z_len : mg "len" = none
  z_list : mg "list" = none
  z_max : mg "max" = none
  z_min : mg "min" = none
  z_range : mg "range" = none
  z_sum : mg "sum" = none
  z_tuple : mg "tuple" = none
  z_zip : mg "zip" = none
def XR0 : XRel := fun _ _ _ _ => False
section
variable {P : Program} {w : World} {K : PySem.W.Frag} {mg : Str → Option Value} {base : Heap}
theorem ok_plain_dot (T : Txt K mg) : FnOk P w K mg base CX0 1 T.a_plain_dot T.fd_plain_dot ["one", "other"] (spM K XR0 2 run_plain_dot) := fn_mir T.F_plain_dot sc_plain_dot (fun _ _ _ _ q => q) fun cdv A outer s H E hr =>
    (sb_one (ss_ret (se_sum rfl (by rfl) T.z_sum (sl_e (se_sc (sc_comp2 ["one", "other", "left", "right"] (defScope s_plain_dot) [("left", 2), ("right", 3)] rfl sc_plain_dot.nd (si_zp (by rfl) T.z_zip (se_var 0) (se_var 1)) rfl rfl (by decide +kernel) rfl (fun _ _ _ _ _ => (sg_tup rfl (sgs_cons 2 sc_plain_dot.nd rfl (by first | exact Or.inl rfl | exact Or.inr rfl) (sgs_cons 3 sc_plain_dot.nd rfl (by first | exact Or.inl rfl | exact Or.inr rfl) sgs_nil)))) (fun _ _ _ _ _ => sts_nil) (fun _ _ _ _ _ => (se_mulA (se_var 2) (se_var 3)))))))))
theorem ok_row_more (T : Txt K mg) : FnOk P w K mg base CX0 1 T.a_row_more T.fd_row_more ["one", "other"] (spM K XR0 2 run_row_more) := fn_mir T.F_row_more sc_row_more (fun _ _ _ _ q => q) fun cdv A outer s H E hr =>
    (sb_one (ss_ret (se_tuple (by rfl) T.z_tuple (sl_e (se_sc (sc_comp2 ["one", "other", "left", "right"] (defScope s_row_more) [("left", 2), ("right", 3)] rfl sc_row_more.nd (si_zp (by rfl) T.z_zip (se_var 0) (se_var 1)) rfl rfl (by decide +kernel) rfl (fun _ _ _ _ _ => (sg_tup rfl (sgs_cons 2 sc_row_more.nd rfl (by first | exact Or.inl rfl | exact Or.inr rfl) (sgs_cons 3 sc_row_more.nd rfl (by first | exact Or.inl rfl | exact Or.inr rfl) sgs_nil)))) (fun _ _ _ _ _ => sts_nil) (fun _ _ _ _ _ => (se_add (se_var 2) (se_var 3)))))))))
theorem ok_row_less (T : Txt K mg) : FnOk P w K mg base CX0 1 T.a_row_less T.fd_row_less ["one", "other"] (spM K XR0 2 run_row_less) := fn_mir T.F_row_less sc_row_less (fun _ _ _ _ q => q) fun cdv A outer s H E hr =>
    (sb_one (ss_ret (se_tuple (by rfl) T.z_tuple (sl_e (se_sc (sc_comp2 ["one", "other", "left", "right"] (defScope s_row_less) [("left", 2), ("right", 3)] rfl sc_row_less.nd (si_zp (by rfl) T.z_zip (se_var 0) (se_var 1)) rfl rfl (by decide +kernel) rfl (fun _ _ _ _ _ => (sg_tup rfl (sgs_cons 2 sc_row_less.nd rfl (by first | exact Or.inl rfl | exact Or.inr rfl) (sgs_cons 3 sc_row_less.nd rfl (by first | exact Or.inl rfl | exact Or.inr rfl) sgs_nil)))) (fun _ _ _ _ _ => sts_nil) (fun _ _ _ _ _ => (se_sub (se_var 2) (se_var 3)))))))))
theorem ok_plain_led (T : Txt K mg) : FnOk P w K mg base CX0 2 T.a_plain_led T.fd_plain_led ["grid", "row"] (spM K XR0 2 run_plain_led) := fn_mir T.F_plain_led sc_plain_led (fun _ _ _ _ q => q) fun cdv A outer s H E hr =>
    (sb_one (ss_ret (se_tuple (by rfl) T.z_tuple (sl_e (se_sc (sc_comp2 ["grid", "row", "line"] (defScope s_plain_led) [("line", 2)] rfl sc_plain_led.nd (si_seq (se_ix (sl_var 0) se_int (fun _ _ => rfl))) rfl rfl (by decide +kernel) rfl (fun _ _ _ _ _ => (sg_name 2 sc_plain_led.nd rfl (by first | exact Or.inl rfl | exact Or.inr rfl))) (fun _ _ _ _ _ => sts_nil) (fun _ _ _ _ _ => (se_call (ok_plain_dot T) (hr.mono (by decide)) (by rfl) T.m_plain_dot T.F_plain_dot.kp T.b_plain_dot (sa_cons (sl_var 2) (sa_cons (sl_var 1) sa_nil))))))))))
theorem ok_plain_grid (T : Txt K mg) : FnOk P w K mg base CX0 1 T.a_plain_grid T.fd_plain_grid ["rows", "width"] (spM K XR0 2 run_plain_grid) := fn_mir T.F_plain_grid sc_plain_grid (fun _ _ _ _ q => q) fun cdv A outer s H E hr =>
    (sb_one (ss_ret (se_tup (sd_cons (se_var 1) (sd_cons (se_tuple (by rfl) T.z_tuple (sl_e (se_sc (sc_comp2 ["rows", "width", "row"] (defScope s_plain_grid) [("row", 2)] rfl sc_plain_grid.nd (si_seq (se_var 0)) rfl rfl (by decide +kernel) rfl (fun _ _ _ _ _ => (sg_name 2 sc_plain_grid.nd rfl (by first | exact Or.inl rfl | exact Or.inr rfl))) (fun _ _ _ _ _ => sts_nil) (fun _ _ _ _ _ => (se_tuple (by rfl) T.z_tuple (sl_var 2))))))) sd_nil)))))
theorem ok_turned_rows_of (T : Txt K mg) : FnOk P w K mg base CX0 1 T.a_turned_rows_of T.fd_turned_rows_of ["rows", "width"] (spM K XR0 2 run_turned_rows_of) := fn_mir T.F_turned_rows_of sc_turned_rows_of (fun _ _ _ _ q => q) fun cdv A outer s H E hr =>
    (sb_one (ss_ret (se_if (st_tru (sl_var 0)) (se_sc (sc_lzs rfl (by rfl) T.z_list (by rfl) T.z_zip (se_var 0))) (se_mulL (se_sc (sc_lst (sd_cons (se_tup sd_nil) sd_nil))) (se_var 1)))))
theorem ok_plain_turned (T : Txt K mg) : FnOk P w K mg base CX0 2 T.a_plain_turned T.fd_plain_turned ["grid"] (spM K XR0 1 run_plain_turned) := fn_mir T.F_plain_turned sc_plain_turned (fun _ _ _ _ q => q) fun cdv A outer s H E hr =>
    (sb_cons (ss_to (se_var 0) (sg_tup rfl (sgs_cons 1 sc_plain_turned.nd rfl (by first | exact Or.inl rfl | exact Or.inr rfl) (sgs_cons 2 sc_plain_turned.nd rfl (by first | exact Or.inl rfl | exact Or.inr rfl) sgs_nil))))
    (sb_one (ss_ret (se_tup (sd_cons (se_len (by rfl) T.z_len (sl_var 2)) (sd_cons (se_tuple (by rfl) T.z_tuple (sl_e (se_call (ok_turned_rows_of T) (hr.mono (by decide)) (by rfl) T.m_turned_rows_of T.F_turned_rows_of.kp T.b_turned_rows_of (sa_cons (sl_var 2) (sa_cons (sl_var 1) sa_nil))))) sd_nil))))))
theorem ok_plain_product (T : Txt K mg) : FnOk P w K mg base CX0 2 T.a_plain_product T.fd_plain_product ["one", "other"] (spM K XR0 2 run_plain_product) := fn_mir T.F_plain_product sc_plain_product (fun _ _ _ _ q => q) fun cdv A outer s H E hr =>
    (sb_cons (ss_set 2 sc_plain_product.nd rfl (by first | exact Or.inl rfl | exact Or.inr rfl) (se_call (ok_turned_rows_of T) (hr.mono (by decide)) (by rfl) T.m_turned_rows_of T.F_turned_rows_of.kp T.b_turned_rows_of (sa_cons (sl_e (se_ix (sl_var 1) se_int (fun _ _ => rfl))) (sa_cons (sl_e (se_ix (sl_var 1) se_int (fun _ _ => rfl))) sa_nil))))
    (sb_one (ss_ret (se_tup (sd_cons (se_ix (sl_var 1) se_int (fun _ _ => rfl)) (sd_cons (se_tuple (by rfl) T.z_tuple (sl_e (se_sc (sc_comp2 ["one", "other", "columns", "row", "column", "left", "right"] (defScope s_plain_product) [("row", 3)] rfl sc_plain_product.nd (si_seq (se_ix (sl_var 0) se_int (fun _ _ => rfl))) rfl rfl (by decide +kernel) rfl (fun _ _ _ _ _ => (sg_name 3 sc_plain_product.nd rfl (by first | exact Or.inl rfl | exact Or.inr rfl))) (fun _ _ _ _ _ => sts_nil) (fun _ _ _ _ _ => (se_tuple (by rfl) T.z_tuple (sl_e (se_sc (sc_compN ["one", "other", "columns", "row", "column", "left", "right"] [("column", 4)] rfl sc_plain_product.nd (si_seq (se_var 2)) rfl (by decide +kernel) rfl (fun _ _ _ _ _ => (sg_name 4 sc_plain_product.nd rfl (by first | exact Or.inl rfl | exact Or.inr rfl))) (fun _ _ _ _ _ => sts_nil) (fun _ _ _ _ _ => (se_sum rfl (by rfl) T.z_sum (sl_e (se_sc (sc_compN ["one", "other", "columns", "row", "column", "left", "right"] [("left", 5), ("right", 6)] rfl sc_plain_product.nd (si_zp (by rfl) T.z_zip (se_var 3) (se_var 4)) rfl (by decide +kernel) rfl (fun _ _ _ _ _ => (sg_tup rfl (sgs_cons 5 sc_plain_product.nd rfl (by first | exact Or.inl rfl | exact Or.inr rfl) (sgs_cons 6 sc_plain_product.nd rfl (by first | exact Or.inl rfl | exact Or.inr rfl) sgs_nil)))) (fun _ _ _ _ _ => sts_nil) (fun _ _ _ _ _ => (se_mulA (se_var 5) (se_var 6))))))))))))))))) sd_nil))))))
theorem ok_plain_difference (T : Txt K mg) : FnOk P w K mg base CX0 2 T.a_plain_difference T.fd_plain_difference ["one", "other"] (spM K XR0 2 run_plain_difference) := fn_mir T.F_plain_difference sc_plain_difference (fun _ _ _ _ q => q) fun cdv A outer s H E hr =>
    (sb_cons (ss_setLc2 2 ["one", "other", "pairs", "row", "line", "pair", "left", "right"] (defScope s_plain_difference) [("row", 3), ("line", 4)] rfl sc_plain_difference.nd rfl rfl (sw_true rfl rfl rfl (by decide +kernel)) (si_zp (by rfl) T.z_zip (se_ix (sl_var 0) se_int (fun _ _ => rfl)) (se_ix (sl_var 1) se_int (fun _ _ => rfl))) rfl rfl (by decide +kernel) rfl (fun _ _ _ _ _ => (sg_tup rfl (sgs_cons 3 sc_plain_difference.nd rfl (by first | exact Or.inl rfl | exact Or.inr rfl) (sgs_cons 4 sc_plain_difference.nd rfl (by first | exact Or.inl rfl | exact Or.inr rfl) sgs_nil)))) (fun _ _ _ _ _ => sts_nil) (fun _ _ _ _ _ => (se_sc (sc_lz rfl (by rfl) T.z_list (by rfl) T.z_zip (se_var 3) (se_var 4)))))
    (sb_one (ss_ret (se_call (ok_plain_grid T) (hr.mono (by decide)) (by rfl) T.m_plain_grid T.F_plain_grid.kp T.b_plain_grid (sa_cons (sl_e (se_sc (sc_comp2 ["one", "other", "pairs", "row", "line", "pair", "left", "right"] (defScope s_plain_difference) [("pair", 5)] rfl sc_plain_difference.nd (si_seq (se_var 2)) rfl rfl (by decide +kernel) rfl (fun _ _ _ _ _ => (sg_name 5 sc_plain_difference.nd rfl (by first | exact Or.inl rfl | exact Or.inr rfl))) (fun _ _ _ _ _ => sts_nil) (fun _ _ _ _ _ => (se_sc (sc_compN ["one", "other", "pairs", "row", "line", "pair", "left", "right"] [("left", 6), ("right", 7)] rfl sc_plain_difference.nd (si_seq (se_var 5)) rfl (by decide +kernel) rfl (fun _ _ _ _ _ => (sg_tup rfl (sgs_cons 6 sc_plain_difference.nd rfl (by first | exact Or.inl rfl | exact Or.inr rfl) (sgs_cons 7 sc_plain_difference.nd rfl (by first | exact Or.inl rfl | exact Or.inr rfl) sgs_nil)))) (fun _ _ _ _ _ => sts_nil) (fun _ _ _ _ _ => (se_sub (se_var 6) (se_var 7))))))))) (sa_cons (sl_e (se_ix (sl_var 0) se_int (fun _ _ => rfl))) sa_nil))))))
theorem ok_plain_multiple (T : Txt K mg) : FnOk P w K mg base CX0 2 T.a_plain_multiple T.fd_plain_multiple ["grid", "number"] (spM K XR0 2 run_plain_multiple) := fn_mir T.F_plain_multiple sc_plain_multiple (fun _ _ _ _ q => q) fun cdv A outer s H E hr =>
    (sb_one (ss_ret (se_call (ok_plain_grid T) (hr.mono (by decide)) (by rfl) T.m_plain_grid T.F_plain_grid.kp T.b_plain_grid (sa_cons (sl_e (se_sc (sc_comp2 ["grid", "number", "row", "item"] (defScope s_plain_multiple) [("row", 2)] rfl sc_plain_multiple.nd (si_seq (se_ix (sl_var 0) se_int (fun _ _ => rfl))) rfl rfl (by decide +kernel) rfl (fun _ _ _ _ _ => (sg_name 2 sc_plain_multiple.nd rfl (by first | exact Or.inl rfl | exact Or.inr rfl))) (fun _ _ _ _ _ => sts_nil) (fun _ _ _ _ _ => (se_sc (sc_compN ["grid", "number", "row", "item"] [("item", 3)] rfl sc_plain_multiple.nd (si_seq (se_var 2)) rfl (by decide +kernel) rfl (fun _ _ _ _ _ => (sg_name 3 sc_plain_multiple.nd rfl (by first | exact Or.inl rfl | exact Or.inr rfl))) (fun _ _ _ _ _ => sts_nil) (fun _ _ _ _ _ => (se_mulA (se_var 1) (se_var 3))))))))) (sa_cons (sl_e (se_ix (sl_var 0) se_int (fun _ _ => rfl))) sa_nil)))))
theorem ok_plain_sum (T : Txt K mg) : FnOk P w K mg base CX0 3 T.a_plain_sum T.fd_plain_sum ["one", "other"] (spM K XR0 2 run_plain_sum) := fn_mir T.F_plain_sum sc_plain_sum (fun _ _ _ _ q => q) fun cdv A outer s H E hr =>
    (sb_one (ss_ret (se_call (ok_plain_difference T) (hr.mono (by decide)) (by rfl) T.m_plain_difference T.F_plain_difference.kp T.b_plain_difference (sa_cons (sl_var 0) (sa_cons (sl_e (se_call (ok_plain_multiple T) (hr.mono (by decide)) (by rfl) T.m_plain_multiple T.F_plain_multiple.kp T.b_plain_multiple (sa_cons (sl_var 1) (sa_cons (sl_e (se_neg se_int)) sa_nil)))) sa_nil)))))
theorem ok_plain_read (T : Txt K mg) : FnOk P w K mg base CX0 3 T.a_plain_read T.fd_plain_read ["row", "grid"] (spM K XR0 2 run_plain_read) := fn_mir T.F_plain_read sc_plain_read (fun _ _ _ _ q => q) fun cdv A outer s H E hr =>
    (sb_one (ss_ret (se_call (ok_plain_led T) (hr.mono (by decide)) (by rfl) T.m_plain_led T.F_plain_led.kp T.b_plain_led (sa_cons (sl_e (se_call (ok_plain_turned T) (hr.mono (by decide)) (by rfl) T.m_plain_turned T.F_plain_turned.kp T.b_plain_turned (sa_cons (sl_var 1) sa_nil))) (sa_cons (sl_var 0) sa_nil)))))
theorem ok_plain_beside (T : Txt K mg) : FnOk P w K mg base CX0 2 T.a_plain_beside T.fd_plain_beside ["one", "other"] (spM K XR0 2 run_plain_beside) := fn_mir T.F_plain_beside sc_plain_beside (fun _ _ _ _ q => q) fun cdv A outer s H E hr =>
    (sb_one (ss_ret (se_call (ok_plain_grid T) (hr.mono (by decide)) (by rfl) T.m_plain_grid T.F_plain_grid.kp T.b_plain_grid (sa_cons (sl_e (se_sc (sc_comp2 ["one", "other", "left", "right"] (defScope s_plain_beside) [("left", 2), ("right", 3)] rfl sc_plain_beside.nd (si_zp (by rfl) T.z_zip (se_ix (sl_var 0) se_int (fun _ _ => rfl)) (se_ix (sl_var 1) se_int (fun _ _ => rfl))) rfl rfl (by decide +kernel) rfl (fun _ _ _ _ _ => (sg_tup rfl (sgs_cons 2 sc_plain_beside.nd rfl (by first | exact Or.inl rfl | exact Or.inr rfl) (sgs_cons 3 sc_plain_beside.nd rfl (by first | exact Or.inl rfl | exact Or.inr rfl) sgs_nil)))) (fun _ _ _ _ _ => sts_nil) (fun _ _ _ _ _ => (se_add (se_var 2) (se_var 3)))))) (sa_cons (sl_e (se_add (se_ix (sl_var 0) se_int (fun _ _ => rfl)) (se_ix (sl_var 1) se_int (fun _ _ => rfl)))) sa_nil)))))
theorem ok_is_long_integer (T : Txt K mg) : FnOk P w K mg base CX0 1 T.a_is_long_integer T.fd_is_long_integer ["value"] (spM K XR0 1 run_is_long_integer) := fn_mir T.F_is_long_integer sc_is_long_integer (fun _ _ _ _ q => q) fun cdv A outer s H E hr =>
    (sb_one (ss_ret (se_and (se_isi "int" (pe_bltn (by rfl) T.z_int (by decide +kernel) rfl) (by rfl) T.z_isinstance (se_var 0)) (se_and (se_isnot (se_var 0) se_bl) (se_one (se_isnot (se_var 0) se_bl))))))
theorem ok_are_long_integers (T : Txt K mg) : FnOk P w K mg base CX0 1 T.a_are_long_integers T.fd_are_long_integers ["values"] (spM K XR0 1 run_are_long_integers) := fn_mir T.F_are_long_integers sc_are_long_integers (fun _ _ _ _ q => q) fun cdv A outer s H E hr =>
    (sb_one (ss_ret (se_all rfl (by rfl) T.z_all (sl_e (se_sc (sc_comp2 ["values", "value"] (defScope s_are_long_integers) [("value", 1)] rfl sc_are_long_integers.nd (si_seq (se_var 0)) rfl rfl (by decide +kernel) rfl (fun _ _ _ _ _ => (sg_name 1 sc_are_long_integers.nd rfl (by first | exact Or.inl rfl | exact Or.inr rfl))) (fun _ _ _ _ _ => sts_nil) (fun _ _ _ _ _ => (se_and (se_isi "int" (pe_bltn (by rfl) T.z_int (by decide +kernel) rfl) (by rfl) T.z_isinstance (se_var 1)) (se_and (se_isnot (se_var 1) se_bl) (se_one (se_isnot (se_var 1) se_bl)))))))))))
theorem ok_have_integers (T : Txt K mg) : FnOk P w K mg base CX0 1 T.a_have_integers T.fd_have_integers ["rows"] (spM K XR0 1 run_have_integers) := fn_mir T.F_have_integers sc_have_integers (fun _ _ _ _ q => q) fun cdv A outer s H E hr =>
    (sb_one (ss_ret (se_all rfl (by rfl) T.z_all (sl_e (se_sc (sc_lc2 ["rows", "row", "item"] (defScope s_have_integers) [("row", 1), ("item", 2)] rfl sc_have_integers.nd (si_seq (se_var 0)) rfl rfl (by decide +kernel) rfl (fun _ _ _ _ _ => (sg_name 1 sc_have_integers.nd rfl (by first | exact Or.inl rfl | exact Or.inr rfl))) (fun _ _ _ _ _ => sts_nil) (fun _ _ _ _ _ => (si_seq (se_var 1))) (fun _ _ _ _ _ => (sg_name 2 sc_have_integers.nd rfl (by first | exact Or.inl rfl | exact Or.inr rfl))) (fun _ _ _ _ _ => sts_nil) (fun _ _ _ _ _ => (se_and (se_isi "int" (pe_bltn (by rfl) T.z_int (by decide +kernel) rfl) (by rfl) T.z_isinstance (se_var 2)) (se_and (se_isnot (se_var 2) se_bl) (se_one (se_isnot (se_var 2) se_bl)))))))))))
theorem ok_are_short (T : Txt K mg) : FnOk P w K mg base CX0 1 T.a_are_short T.fd_are_short ["numbers"] (spM K XR0 1 run_are_short) := fn_mir T.F_are_short sc_are_short (fun _ _ _ _ q => q) fun cdv A outer s H E hr =>
    (sb_one (ss_ret (se_and (se_lt (se_maxD rfl hr.units (by rfl) T.z_max (sl_var 0)) (se_gint (by rfl) T.c_TOO_LONG)) (se_one (se_gt (se_minD rfl hr.units (by rfl) T.z_min (sl_var 0)) (se_neg (se_gint (by rfl) T.c_TOO_LONG)))))))
theorem ok_is_integer (T : Txt K mg) : FnOk P w K mg base CX0 2 T.a_is_integer T.fd_is_integer ["value"] (spM K XR0 1 run_is_integer) := fn_mir T.F_is_integer sc_is_integer (fun _ _ _ _ q => q) fun cdv A outer s H E hr =>
    (sb_one (ss_ret (se_and (se_call (ok_is_long_integer T) (hr.mono (by decide)) (by rfl) T.m_is_long_integer T.F_is_long_integer.kp T.b_is_long_integer (sa_cons (sl_var 0) sa_nil)) (se_one (se_lt (se_abs (by rfl) T.z_abs (sl_var 0)) (se_gint (by rfl) T.c_TOO_LONG))))))
theorem ok_is_long_row (T : Txt K mg) : FnOk P w K mg base CX0 2 T.a_is_long_row T.fd_is_long_row ["value"] (spM K XR0 1 run_is_long_row) := fn_mir T.F_is_long_row sc_is_long_row (fun _ _ _ _ q => q) fun cdv A outer s H E hr =>
    (sb_one (ss_ret (se_and (se_isi "tuple" (pe_bltn (by rfl) T.z_tuple (by decide +kernel) rfl) (by rfl) T.z_isinstance (se_var 0)) (se_and (se_le (se_len (by rfl) T.z_len (sl_var 0)) (se_gint (by rfl) T.c_MAX_SIZE)) (se_one (se_call (ok_are_long_integers T) (hr.mono (by decide)) (by rfl) T.m_are_long_integers T.F_are_long_integers.kp T.b_are_long_integers (sa_cons (sl_var 0) sa_nil)))))))
theorem ok_is_row (T : Txt K mg) : FnOk P w K mg base CX0 3 T.a_is_row T.fd_is_row ["value"] (spM K XR0 1 run_is_row) := fn_mir T.F_is_row sc_is_row (fun _ _ _ _ q => q) fun cdv A outer s H E hr =>
    (sb_one (ss_ret (se_and (se_call (ok_is_long_row T) (hr.mono (by decide)) (by rfl) T.m_is_long_row T.F_is_long_row.kp T.b_is_long_row (sa_cons (sl_var 0) sa_nil)) (se_one (se_call (ok_are_short T) (hr.mono (by decide)) (by rfl) T.m_are_short T.F_are_short.kp T.b_are_short (sa_cons (sl_var 0) sa_nil))))))
theorem ok_is_grid_up_to (T : Txt K mg) : FnOk P w K mg base CX0 2 T.a_is_grid_up_to T.fd_is_grid_up_to ["value", "most"] (spM K XR0 2 run_is_grid_up_to) := fn_mir T.F_is_grid_up_to sc_is_grid_up_to (fun _ _ _ _ q => q) fun cdv A outer s H E hr =>
    (sb_cons (ss_if (st_w (sw_or (st_not (st_val (se_isi "tuple" (pe_bltn (by rfl) T.z_tuple (by decide +kernel) rfl) (by rfl) T.z_isinstance (se_var 0)))) (sw_or1 (st_ne hr.units (se_len (by rfl) T.z_len (sl_var 0)) se_int))))
    (sb_one (ss_ret se_bl))
    sb_nil)
    (sb_cons (ss_to (se_var 0) (sg_tup rfl (sgs_cons 2 sc_is_grid_up_to.nd rfl (by first | exact Or.inl rfl | exact Or.inr rfl) (sgs_cons 3 sc_is_grid_up_to.nd rfl (by first | exact Or.inl rfl | exact Or.inr rfl) sgs_nil))))
    (sb_cons (ss_if (st_w (sw_or (st_not (st_val (se_call (ok_is_long_integer T) (hr.mono (by decide)) (by rfl) T.m_is_long_integer T.F_is_long_integer.kp T.b_is_long_integer (sa_cons (sl_var 2) sa_nil)))) (sw_or (st_not (st_ch op_le op_le se_int (se_var 2) (se_var 1))) (sw_or (st_not (st_val (se_isi "tuple" (pe_bltn (by rfl) T.z_tuple (by decide +kernel) rfl) (by rfl) T.z_isinstance (se_var 3)))) (sw_or1 (st_gt (se_len (by rfl) T.z_len (sl_var 3)) (se_var 1)))))))
    (sb_one (ss_ret se_bl))
    sb_nil)
    (sb_one (ss_ret (se_and (se_all rfl (by rfl) T.z_all (sl_e (se_sc (sc_comp2 ["value", "most", "width", "rows", "row"] (defScope s_is_grid_up_to) [("row", 4)] rfl sc_is_grid_up_to.nd (si_seq (se_var 3)) rfl rfl (by decide +kernel) rfl (fun _ _ _ _ _ => (sg_name 4 sc_is_grid_up_to.nd rfl (by first | exact Or.inl rfl | exact Or.inr rfl))) (fun _ _ _ _ _ => sts_nil) (fun _ _ _ _ _ => (se_and (se_isi "tuple" (pe_bltn (by rfl) T.z_tuple (by decide +kernel) rfl) (by rfl) T.z_isinstance (se_var 4)) (se_one (se_eq hr.units (se_len (by rfl) T.z_len (sl_var 4)) (se_var 2))))))))) (se_one (se_call (ok_have_integers T) (hr.mono (by decide)) (by rfl) T.m_have_integers T.F_have_integers.kp T.b_have_integers (sa_cons (sl_var 3) sa_nil)))))))))
theorem ok_is_long_grid (T : Txt K mg) : FnOk P w K mg base CX0 3 T.a_is_long_grid T.fd_is_long_grid ["value"] (spM K XR0 1 run_is_long_grid) := fn_mir T.F_is_long_grid sc_is_long_grid (fun _ _ _ _ q => q) fun cdv A outer s H E hr =>
    (sb_one (ss_ret (se_call (ok_is_grid_up_to T) (hr.mono (by decide)) (by rfl) T.m_is_grid_up_to T.F_is_grid_up_to.kp T.b_is_grid_up_to (sa_cons (sl_var 0) (sa_cons (sl_e (se_gint (by rfl) T.c_MAX_SIZE)) sa_nil)))))
theorem ok_is_grid (T : Txt K mg) : FnOk P w K mg base CX0 4 T.a_is_grid T.fd_is_grid ["value"] (spM K XR0 1 run_is_grid) := fn_mir T.F_is_grid sc_is_grid (fun _ _ _ _ q => q) fun cdv A outer s H E hr =>
    (sb_one (ss_ret (se_and (se_call (ok_is_long_grid T) (hr.mono (by decide)) (by rfl) T.m_is_long_grid T.F_is_long_grid.kp T.b_is_long_grid (sa_cons (sl_var 0) sa_nil)) (se_one (se_all rfl (by rfl) T.z_all (sl_e (se_sc (sc_comp2 ["value", "row"] (defScope s_is_grid) [("row", 1)] rfl sc_is_grid.nd (si_seq (se_ix (sl_var 0) se_int (fun _ _ => rfl))) rfl rfl (by decide +kernel) rfl (fun _ _ _ _ _ => (sg_name 1 sc_is_grid.nd rfl (by first | exact Or.inl rfl | exact Or.inr rfl))) (fun _ _ _ _ _ => sts_nil) (fun _ _ _ _ _ => (se_call (ok_are_short T) (hr.mono (by decide)) (by rfl) T.m_are_short T.F_are_short.kp T.b_are_short (sa_cons (sl_var 1) sa_nil)))))))))))
theorem ok_check_row (T : Txt K mg) : FnOk P w K mg base CX0 4 T.a_check_row T.fd_check_row ["value"] (spM K XR0 1 run_check_row) := fn_mir T.F_check_row sc_check_row (fun _ _ _ _ q => q) fun cdv A outer s H E hr =>
    (sb_one (ss_if (st_not (st_val (se_call (ok_is_row T) (hr.mono (by decide)) (by rfl) T.m_is_row T.F_is_row.kp T.b_is_row (sa_cons (sl_var 0) sa_nil))))
    (sb_one ss_never)
    sb_nil))
theorem ok_check_grid (T : Txt K mg) : FnOk P w K mg base CX0 5 T.a_check_grid T.fd_check_grid ["value"] (spM K XR0 1 run_check_grid) := fn_mir T.F_check_grid sc_check_grid (fun _ _ _ _ q => q) fun cdv A outer s H E hr =>
    (sb_one (ss_if (st_not (st_val (se_call (ok_is_grid T) (hr.mono (by decide)) (by rfl) T.m_is_grid T.F_is_grid.kp T.b_is_grid (sa_cons (sl_var 0) sa_nil))))
    (sb_one ss_never)
    sb_nil))
theorem ok_check_grids (T : Txt K mg) : FnOk P w K mg base CX0 6 T.a_check_grids T.fd_check_grids ["one", "other"] (spM K XR0 2 run_check_grids) := fn_mir T.F_check_grids sc_check_grids (fun _ _ _ _ q => q) fun cdv A outer s H E hr =>
    (sb_cons (ss_drop (se_call (ok_check_grid T) (hr.mono (by decide)) (by rfl) T.m_check_grid T.F_check_grid.kp T.b_check_grid (sa_cons (sl_var 0) sa_nil)))
    (sb_one (ss_drop (se_call (ok_check_grid T) (hr.mono (by decide)) (by rfl) T.m_check_grid T.F_check_grid.kp T.b_check_grid (sa_cons (sl_var 1) sa_nil)))))
theorem ok_check_integer (T : Txt K mg) : FnOk P w K mg base CX0 3 T.a_check_integer T.fd_check_integer ["value"] (spM K XR0 1 run_check_integer) := fn_mir T.F_check_integer sc_check_integer (fun _ _ _ _ q => q) fun cdv A outer s H E hr =>
    (sb_one (ss_if (st_not (st_val (se_call (ok_is_integer T) (hr.mono (by decide)) (by rfl) T.m_is_integer T.F_is_integer.kp T.b_is_integer (sa_cons (sl_var 0) sa_nil))))
    (sb_one ss_never)
    sb_nil))
theorem ok_check_fit (T : Txt K mg) : FnOk P w K mg base CX0 1 T.a_check_fit T.fd_check_fit ["fits", "reason"] (spM K XR0 2 run_check_fit) := fn_mir T.F_check_fit sc_check_fit (fun _ _ _ _ q => q) fun cdv A outer s H E hr =>
    (sb_one (ss_if (st_not (st_val (se_var 0)))
    (sb_one ss_never)
    sb_nil))
theorem ok_check_rows (T : Txt K mg) : FnOk P w K mg base CX0 5 T.a_check_rows T.fd_check_rows ["one", "other"] (spM K XR0 2 run_check_rows) := fn_mir T.F_check_rows sc_check_rows (fun _ _ _ _ q => q) fun cdv A outer s H E hr =>
    (sb_cons (ss_drop (se_call (ok_check_row T) (hr.mono (by decide)) (by rfl) T.m_check_row T.F_check_row.kp T.b_check_row (sa_cons (sl_var 0) sa_nil)))
    (sb_cons (ss_drop (se_call (ok_check_row T) (hr.mono (by decide)) (by rfl) T.m_check_row T.F_check_row.kp T.b_check_row (sa_cons (sl_var 1) sa_nil)))
    (sb_one (ss_drop (se_call (ok_check_fit T) (hr.mono (by decide)) (by rfl) T.m_check_fit T.F_check_fit.kp T.b_check_fit (sa_cons (sl_e (se_eq hr.units (se_len (by rfl) T.z_len (sl_var 0)) (se_len (by rfl) T.z_len (sl_var 1)))) (sa_cons (sl_e se_str) sa_nil)))))))
theorem ok_dot (T : Txt K mg) : FnOk P w K mg base CX0 6 T.a_dot T.fd_dot ["one", "other"] (spM K XR0 2 run_dot) := fn_mir T.F_dot sc_dot (fun _ _ _ _ q => q) fun cdv A outer s H E hr =>
    (sb_cons (ss_drop (se_call (ok_check_rows T) (hr.mono (by decide)) (by rfl) T.m_check_rows T.F_check_rows.kp T.b_check_rows (sa_cons (sl_var 0) (sa_cons (sl_var 1) sa_nil))))
    (sb_one (ss_ret (se_call (ok_plain_dot T) (hr.mono (by decide)) (by rfl) T.m_plain_dot T.F_plain_dot.kp T.b_plain_dot (sa_cons (sl_var 0) (sa_cons (sl_var 1) sa_nil))))))
theorem ok_row_sum (T : Txt K mg) : FnOk P w K mg base CX0 6 T.a_row_sum T.fd_row_sum ["one", "other"] (spM K XR0 2 run_row_sum) := fn_mir T.F_row_sum sc_row_sum (fun _ _ _ _ q => q) fun cdv A outer s H E hr =>
    (sb_cons (ss_drop (se_call (ok_check_rows T) (hr.mono (by decide)) (by rfl) T.m_check_rows T.F_check_rows.kp T.b_check_rows (sa_cons (sl_var 0) (sa_cons (sl_var 1) sa_nil))))
    (sb_one (ss_ret (se_call (ok_row_more T) (hr.mono (by decide)) (by rfl) T.m_row_more T.F_row_more.kp T.b_row_more (sa_cons (sl_var 0) (sa_cons (sl_var 1) sa_nil))))))
theorem ok_row_difference (T : Txt K mg) : FnOk P w K mg base CX0 6 T.a_row_difference T.fd_row_difference ["one", "other"] (spM K XR0 2 run_row_difference) := fn_mir T.F_row_difference sc_row_difference (fun _ _ _ _ q => q) fun cdv A outer s H E hr =>
    (sb_cons (ss_drop (se_call (ok_check_rows T) (hr.mono (by decide)) (by rfl) T.m_check_rows T.F_check_rows.kp T.b_check_rows (sa_cons (sl_var 0) (sa_cons (sl_var 1) sa_nil))))
    (sb_one (ss_ret (se_call (ok_row_less T) (hr.mono (by decide)) (by rfl) T.m_row_less T.F_row_less.kp T.b_row_less (sa_cons (sl_var 0) (sa_cons (sl_var 1) sa_nil))))))
theorem ok_row_multiple (T : Txt K mg) : FnOk P w K mg base CX0 5 T.a_row_multiple T.fd_row_multiple ["row", "number"] (spM K XR0 2 run_row_multiple) := fn_mir T.F_row_multiple sc_row_multiple (fun _ _ _ _ q => q) fun cdv A outer s H E hr =>
    (sb_cons (ss_drop (se_call (ok_check_row T) (hr.mono (by decide)) (by rfl) T.m_check_row T.F_check_row.kp T.b_check_row (sa_cons (sl_var 0) sa_nil)))
    (sb_cons (ss_drop (se_call (ok_check_integer T) (hr.mono (by decide)) (by rfl) T.m_check_integer T.F_check_integer.kp T.b_check_integer (sa_cons (sl_var 1) sa_nil)))
    (sb_one (ss_ret (se_tuple (by rfl) T.z_tuple (sl_e (se_sc (sc_comp2 ["row", "number", "item"] (defScope s_row_multiple) [("item", 2)] rfl sc_row_multiple.nd (si_seq (se_var 0)) rfl rfl (by decide +kernel) rfl (fun _ _ _ _ _ => (sg_name 2 sc_row_multiple.nd rfl (by first | exact Or.inl rfl | exact Or.inr rfl))) (fun _ _ _ _ _ => sts_nil) (fun _ _ _ _ _ => (se_mulA (se_var 1) (se_var 2)))))))))))
theorem ok_turned (T : Txt K mg) : FnOk P w K mg base CX0 6 T.a_turned T.fd_turned ["grid"] (spM K XR0 1 run_turned) := fn_mir T.F_turned sc_turned (fun _ _ _ _ q => q) fun cdv A outer s H E hr =>
    (sb_cons (ss_drop (se_call (ok_check_grid T) (hr.mono (by decide)) (by rfl) T.m_check_grid T.F_check_grid.kp T.b_check_grid (sa_cons (sl_var 0) sa_nil)))
    (sb_one (ss_ret (se_call (ok_plain_turned T) (hr.mono (by decide)) (by rfl) T.m_plain_turned T.F_plain_turned.kp T.b_plain_turned (sa_cons (sl_var 0) sa_nil)))))
theorem ok_grid_multiple (T : Txt K mg) : FnOk P w K mg base CX0 6 T.a_grid_multiple T.fd_grid_multiple ["grid", "number"] (spM K XR0 2 run_grid_multiple) := fn_mir T.F_grid_multiple sc_grid_multiple (fun _ _ _ _ q => q) fun cdv A outer s H E hr =>
    (sb_cons (ss_drop (se_call (ok_check_grid T) (hr.mono (by decide)) (by rfl) T.m_check_grid T.F_check_grid.kp T.b_check_grid (sa_cons (sl_var 0) sa_nil)))
    (sb_cons (ss_drop (se_call (ok_check_integer T) (hr.mono (by decide)) (by rfl) T.m_check_integer T.F_check_integer.kp T.b_check_integer (sa_cons (sl_var 1) sa_nil)))
    (sb_one (ss_ret (se_call (ok_plain_multiple T) (hr.mono (by decide)) (by rfl) T.m_plain_multiple T.F_plain_multiple.kp T.b_plain_multiple (sa_cons (sl_var 0) (sa_cons (sl_var 1) sa_nil)))))))
theorem ok_check_like (T : Txt K mg) : FnOk P w K mg base CX0 7 T.a_check_like T.fd_check_like ["one", "other"] (spM K XR0 2 run_check_like) := fn_mir T.F_check_like sc_check_like (fun _ _ _ _ q => q) fun cdv A outer s H E hr =>
    (sb_cons (ss_drop (se_call (ok_check_grids T) (hr.mono (by decide)) (by rfl) T.m_check_grids T.F_check_grids.kp T.b_check_grids (sa_cons (sl_var 0) (sa_cons (sl_var 1) sa_nil))))
    (sb_one (ss_drop (se_call (ok_check_fit T) (hr.mono (by decide)) (by rfl) T.m_check_fit T.F_check_fit.kp T.b_check_fit (sa_cons (sl_e (se_and (se_eq hr.units (se_ix (sl_var 0) se_int (fun _ _ => rfl)) (se_ix (sl_var 1) se_int (fun _ _ => rfl))) (se_one (se_eq hr.units (se_len (by rfl) T.z_len (sl_e (se_ix (sl_var 0) se_int (fun _ _ => rfl)))) (se_len (by rfl) T.z_len (sl_e (se_ix (sl_var 1) se_int (fun _ _ => rfl)))))))) (sa_cons (sl_e se_str) sa_nil))))))
theorem ok_grid_sum (T : Txt K mg) : FnOk P w K mg base CX0 8 T.a_grid_sum T.fd_grid_sum ["one", "other"] (spM K XR0 2 run_grid_sum) := fn_mir T.F_grid_sum sc_grid_sum (fun _ _ _ _ q => q) fun cdv A outer s H E hr =>
    (sb_cons (ss_drop (se_call (ok_check_like T) (hr.mono (by decide)) (by rfl) T.m_check_like T.F_check_like.kp T.b_check_like (sa_cons (sl_var 0) (sa_cons (sl_var 1) sa_nil))))
    (sb_one (ss_ret (se_call (ok_plain_sum T) (hr.mono (by decide)) (by rfl) T.m_plain_sum T.F_plain_sum.kp T.b_plain_sum (sa_cons (sl_var 0) (sa_cons (sl_var 1) sa_nil))))))
theorem ok_grid_difference (T : Txt K mg) : FnOk P w K mg base CX0 8 T.a_grid_difference T.fd_grid_difference ["one", "other"] (spM K XR0 2 run_grid_difference) := fn_mir T.F_grid_difference sc_grid_difference (fun _ _ _ _ q => q) fun cdv A outer s H E hr =>
    (sb_cons (ss_drop (se_call (ok_check_like T) (hr.mono (by decide)) (by rfl) T.m_check_like T.F_check_like.kp T.b_check_like (sa_cons (sl_var 0) (sa_cons (sl_var 1) sa_nil))))
    (sb_one (ss_ret (se_call (ok_plain_difference T) (hr.mono (by decide)) (by rfl) T.m_plain_difference T.F_plain_difference.kp T.b_plain_difference (sa_cons (sl_var 0) (sa_cons (sl_var 1) sa_nil))))))
theorem ok_grid_product (T : Txt K mg) : FnOk P w K mg base CX0 7 T.a_grid_product T.fd_grid_product ["one", "other"] (spM K XR0 2 run_grid_product) := fn_mir T.F_grid_product sc_grid_product (fun _ _ _ _ q => q) fun cdv A outer s H E hr =>
    (sb_cons (ss_drop (se_call (ok_check_grids T) (hr.mono (by decide)) (by rfl) T.m_check_grids T.F_check_grids.kp T.b_check_grids (sa_cons (sl_var 0) (sa_cons (sl_var 1) sa_nil))))
    (sb_cons (ss_drop (se_call (ok_check_fit T) (hr.mono (by decide)) (by rfl) T.m_check_fit T.F_check_fit.kp T.b_check_fit (sa_cons (sl_e (se_eq hr.units (se_ix (sl_var 0) se_int (fun _ _ => rfl)) (se_len (by rfl) T.z_len (sl_e (se_ix (sl_var 1) se_int (fun _ _ => rfl)))))) (sa_cons (sl_e se_str) sa_nil))))
    (sb_one (ss_ret (se_call (ok_plain_product T) (hr.mono (by decide)) (by rfl) T.m_plain_product T.F_plain_product.kp T.b_plain_product (sa_cons (sl_var 0) (sa_cons (sl_var 1) sa_nil)))))))
theorem ok_check_most (T : Txt K mg) : FnOk P w K mg base CX0 1 T.a_check_most T.fd_check_most ["size"] (spM K XR0 1 run_check_most) := fn_mir T.F_check_most sc_check_most (fun _ _ _ _ q => q) fun cdv A outer s H E hr =>
    (sb_one (ss_if (st_gt (se_var 0) (se_gint (by rfl) T.c_MAX_SIZE))
    (sb_one ss_never)
    sb_nil))
theorem ok_beside (T : Txt K mg) : FnOk P w K mg base CX0 7 T.a_beside T.fd_beside ["one", "other"] (spM K XR0 2 run_beside) := fn_mir T.F_beside sc_beside (fun _ _ _ _ q => q) fun cdv A outer s H E hr =>
    (sb_cons (ss_drop (se_call (ok_check_grids T) (hr.mono (by decide)) (by rfl) T.m_check_grids T.F_check_grids.kp T.b_check_grids (sa_cons (sl_var 0) (sa_cons (sl_var 1) sa_nil))))
    (sb_cons (ss_drop (se_call (ok_check_fit T) (hr.mono (by decide)) (by rfl) T.m_check_fit T.F_check_fit.kp T.b_check_fit (sa_cons (sl_e (se_eq hr.units (se_len (by rfl) T.z_len (sl_e (se_ix (sl_var 0) se_int (fun _ _ => rfl)))) (se_len (by rfl) T.z_len (sl_e (se_ix (sl_var 1) se_int (fun _ _ => rfl)))))) (sa_cons (sl_e se_str) sa_nil))))
    (sb_cons (ss_drop (se_call (ok_check_most T) (hr.mono (by decide)) (by rfl) T.m_check_most T.F_check_most.kp T.b_check_most (sa_cons (sl_e (se_add (se_ix (sl_var 0) se_int (fun _ _ => rfl)) (se_ix (sl_var 1) se_int (fun _ _ => rfl)))) sa_nil)))
    (sb_one (ss_ret (se_call (ok_plain_beside T) (hr.mono (by decide)) (by rfl) T.m_plain_beside T.F_plain_beside.kp T.b_plain_beside (sa_cons (sl_var 0) (sa_cons (sl_var 1) sa_nil))))))))
theorem ok_over (T : Txt K mg) : FnOk P w K mg base CX0 7 T.a_over T.fd_over ["one", "other"] (spM K XR0 2 run_over) := fn_mir T.F_over sc_over (fun _ _ _ _ q => q) fun cdv A outer s H E hr =>
    (sb_cons (ss_drop (se_call (ok_check_grids T) (hr.mono (by decide)) (by rfl) T.m_check_grids T.F_check_grids.kp T.b_check_grids (sa_cons (sl_var 0) (sa_cons (sl_var 1) sa_nil))))
    (sb_cons (ss_drop (se_call (ok_check_fit T) (hr.mono (by decide)) (by rfl) T.m_check_fit T.F_check_fit.kp T.b_check_fit (sa_cons (sl_e (se_eq hr.units (se_ix (sl_var 0) se_int (fun _ _ => rfl)) (se_ix (sl_var 1) se_int (fun _ _ => rfl)))) (sa_cons (sl_e se_str) sa_nil))))
    (sb_cons (ss_drop (se_call (ok_check_most T) (hr.mono (by decide)) (by rfl) T.m_check_most T.F_check_most.kp T.b_check_most (sa_cons (sl_e (se_add (se_len (by rfl) T.z_len (sl_e (se_ix (sl_var 0) se_int (fun _ _ => rfl)))) (se_len (by rfl) T.z_len (sl_e (se_ix (sl_var 1) se_int (fun _ _ => rfl)))))) sa_nil)))
    (sb_one (ss_ret (se_tup (sd_cons (se_ix (sl_var 0) se_int (fun _ _ => rfl)) (sd_cons (se_add (se_ix (sl_var 0) se_int (fun _ _ => rfl)) (se_ix (sl_var 1) se_int (fun _ _ => rfl))) sd_nil))))))))
theorem ok_led (T : Txt K mg) : FnOk P w K mg base CX0 6 T.a_led T.fd_led ["grid", "row"] (spM K XR0 2 run_led) := fn_mir T.F_led sc_led (fun _ _ _ _ q => q) fun cdv A outer s H E hr =>
    (sb_cons (ss_drop (se_call (ok_check_grid T) (hr.mono (by decide)) (by rfl) T.m_check_grid T.F_check_grid.kp T.b_check_grid (sa_cons (sl_var 0) sa_nil)))
    (sb_cons (ss_drop (se_call (ok_check_row T) (hr.mono (by decide)) (by rfl) T.m_check_row T.F_check_row.kp T.b_check_row (sa_cons (sl_var 1) sa_nil)))
    (sb_cons (ss_drop (se_call (ok_check_fit T) (hr.mono (by decide)) (by rfl) T.m_check_fit T.F_check_fit.kp T.b_check_fit (sa_cons (sl_e (se_eq hr.units (se_len (by rfl) T.z_len (sl_var 1)) (se_ix (sl_var 0) se_int (fun _ _ => rfl)))) (sa_cons (sl_e se_str) sa_nil))))
    (sb_one (ss_ret (se_call (ok_plain_led T) (hr.mono (by decide)) (by rfl) T.m_plain_led T.F_plain_led.kp T.b_plain_led (sa_cons (sl_var 0) (sa_cons (sl_var 1) sa_nil))))))))
theorem ok_read_by (T : Txt K mg) : FnOk P w K mg base CX0 6 T.a_read_by T.fd_read_by ["row", "grid"] (spM K XR0 2 run_read_by) := fn_mir T.F_read_by sc_read_by (fun _ _ _ _ q => q) fun cdv A outer s H E hr =>
    (sb_cons (ss_drop (se_call (ok_check_row T) (hr.mono (by decide)) (by rfl) T.m_check_row T.F_check_row.kp T.b_check_row (sa_cons (sl_var 0) sa_nil)))
    (sb_cons (ss_drop (se_call (ok_check_grid T) (hr.mono (by decide)) (by rfl) T.m_check_grid T.F_check_grid.kp T.b_check_grid (sa_cons (sl_var 1) sa_nil)))
    (sb_cons (ss_drop (se_call (ok_check_fit T) (hr.mono (by decide)) (by rfl) T.m_check_fit T.F_check_fit.kp T.b_check_fit (sa_cons (sl_e (se_eq hr.units (se_len (by rfl) T.z_len (sl_var 0)) (se_len (by rfl) T.z_len (sl_e (se_ix (sl_var 1) se_int (fun _ _ => rfl)))))) (sa_cons (sl_e se_str) sa_nil))))
    (sb_one (ss_ret (se_call (ok_plain_read T) (hr.mono (by decide)) (by rfl) T.m_plain_read T.F_plain_read.kp T.b_plain_read (sa_cons (sl_var 0) (sa_cons (sl_var 1) sa_nil))))))))
theorem okC_law_hat (T : Txt K mg) : FnOk P w K mg base CX0 1 T.a_law_hat T.fd_law_hat ["script", "spot"] (spC K XR0 2 runC_law_hat) := fn_mirC T.F_law_hat sc_law_hat (fun _ _ _ _ q => q) fun cdv A outer s H E hr =>
    (sb_cons (ss_set 2 sc_law_hat.nd rfl (by first | exact Or.inl rfl | exact Or.inr rfl) (se_if (st_lt (se_var 1) (se_len (by rfl) T.z_len (sl_var 0))) (se_int1 (by rfl) T.z_int (sl_e (se_ix (sl_var 0) (se_var 1) (fun _ _ => rfl)))) (se_add (se_mulA se_int (se_var 1)) se_int)))
    (sb_cons (ss_set 3 sc_law_hat.nd rfl (by first | exact Or.inl rfl | exact Or.inr rfl) (se_mod (se_int1 (by rfl) T.z_int (sl_e (se_abs (by rfl) T.z_abs (sl_var 2)))) (se_pow (se_pow se_int se_int) se_int)))
    (sb_cons (ss_set 4 sc_law_hat.nd rfl (by first | exact Or.inl rfl | exact Or.inr rfl) (se_int1 (by rfl) T.z_int (sl_e (se_add (se_add (se_add (se_mulA (se_mod (se_var 3) se_int) se_int) (se_mulA se_int (se_var 1))) (se_mulA se_int (se_int1 (by rfl) T.z_int (sl_e (se_lt (se_var 2) se_int))))) se_int))))
    (sb_one (ss_retC (sc_lst (sd_cons (se_max2 rfl (by rfl) T.z_max se_int (se_sub (se_var 3) (se_pow se_int se_int))) (sd_cons (se_mod (se_var 4) se_int) (sd_cons se_int sd_nil)))))))))
theorem ok_law_up_to (T : Txt K mg) : FnOk P w K mg base CX0 1 T.a_law_up_to T.fd_law_up_to ["hat", "total"] (spM K XR0 2 run_law_up_to) := fn_mir T.F_law_up_to sc_law_up_to (fun _ _ _ _ q => q) fun cdv A outer s H E hr =>
    (sb_cons (ss_if (st_gt (se_ix (sl_var 0) se_int (fun _ _ => rfl)) se_int)
    (sb_cons (ss_set 2 sc_law_up_to.nd rfl (by first | exact Or.inl rfl | exact Or.inr rfl) (se_mod (se_int1 (by rfl) T.z_int (sl_e (se_ix (sl_var 0) se_int (fun _ _ => rfl)))) (se_var 1)))
    (sb_cons (ss_put (se_fdiv (se_ix (sl_var 0) se_int (fun _ _ => rfl)) (se_var 1)) (sl_var 0) se_int (fun _ _ p q => ⟨_, pg_sub p q set_list, fun _ _ _ _ h => h⟩))
    (sb_one (ss_ret (se_var 2)))))
    sb_nil)
    (sb_cons (ss_put (se_add (se_ix (sl_var 0) se_int (fun _ _ => rfl)) se_int) (sl_var 0) se_int (fun _ _ p q => ⟨_, pg_sub p q set_list, fun _ _ _ _ h => h⟩))
    (sb_cons (ss_set 3 sc_law_up_to.nd rfl (by first | exact Or.inl rfl | exact Or.inr rfl) (se_mod (se_int1 (by rfl) T.z_int (sl_e (se_add (se_ix (sl_var 0) se_int (fun _ _ => rfl)) (se_mulA se_int (se_ix (sl_var 0) se_int (fun _ _ => rfl)))))) se_int))
    (sb_cons (ss_set 4 sc_law_up_to.nd rfl (by first | exact Or.inl rfl | exact Or.inr rfl) (se_add (se_add (se_mulA (se_mod (se_int1 (by rfl) T.z_int (sl_e (se_add (se_mulA (se_var 3) (se_var 3)) se_int))) se_int) se_int) (se_var 3)) (se_mulA se_int (se_ix (sl_var 0) se_int (fun _ _ => rfl)))))
    (sb_one (ss_ret (se_mod (se_int1 (by rfl) T.z_int (sl_e (se_fdiv (se_var 4) se_int))) (se_var 1))))))))
theorem ok_law_out_of (T : Txt K mg) : FnOk P w K mg base CX0 2 T.a_law_out_of T.fd_law_out_of ["hat", "items"] (spM K XR0 2 run_law_out_of) := fn_mir T.F_law_out_of sc_law_out_of (fun _ _ _ _ q => q) fun cdv A outer s H E hr =>
    (sb_one (ss_ret (se_ix (sl_var 1) (se_call (ok_law_up_to T) (hr.mono (by decide)) (by rfl) T.m_law_up_to T.F_law_up_to.kp T.b_law_up_to (sa_cons (sl_var 0) (sa_cons (sl_e (se_len (by rfl) T.z_len (sl_var 1))) sa_nil))) (fun _ _ => rfl))))
theorem ok_law_number (T : Txt K mg) : FnOk P w K mg base CX0 3 T.a_law_number T.fd_law_number ["hat"] (spM K XR0 1 run_law_number) := fn_mir T.F_law_number sc_law_number (fun _ _ _ _ q => q) fun cdv A outer s H E hr =>
    (sb_one (ss_ret (se_call (ok_law_out_of T) (hr.mono (by decide)) (by rfl) T.m_law_out_of T.F_law_out_of.kp T.b_law_out_of (sa_cons (sl_var 0) (sa_cons (sl_e (se_sc (sc_lst (sd_cons (se_neg se_int) (sd_cons (se_neg se_int) (sd_cons (se_neg se_int) (sd_cons se_int (sd_cons se_int (sd_cons se_int (sd_cons se_int (sd_cons se_int sd_nil))))))))))) sa_nil)))))
theorem ok_law_row (T : Txt K mg) : FnOk P w K mg base CX0 4 T.a_law_row T.fd_law_row ["hat", "many"] (spM K XR0 2 run_law_row) := fn_mir T.F_law_row sc_law_row (fun _ _ _ _ q => q) fun cdv A outer s H E hr =>
    (sb_one (ss_ret (se_tuple (by rfl) T.z_tuple (sl_e (se_sc (sc_comp2 ["hat", "many", "turn"] (defScope s_law_row) [("turn", 2)] rfl sc_law_row.nd (si_range1 (by rfl) T.z_range (se_var 1)) rfl rfl (by decide +kernel) rfl (fun _ _ _ _ _ => (sg_name 2 sc_law_row.nd rfl (by first | exact Or.inl rfl | exact Or.inr rfl))) (fun _ _ _ _ _ => sts_nil) (fun _ _ _ _ _ => (se_call (ok_law_number T) (hr.mono (by decide)) (by rfl) T.m_law_number T.F_law_number.kp T.b_law_number (sa_cons (sl_var 0) sa_nil)))))))))
theorem ok_law_dot (T : Txt K mg) : FnOk P w K mg base CX0 1 T.a_law_dot T.fd_law_dot ["one", "other"] (spM K XR0 2 run_law_dot) := fn_mir T.F_law_dot sc_law_dot (fun _ _ _ _ q => q) fun cdv A outer s H E hr =>
    (sb_cons (ss_set 2 sc_law_dot.nd rfl (by first | exact Or.inl rfl | exact Or.inr rfl) se_int)
    (sb_cons (ss_for PassesOwn.never rfl (si_zp (by rfl) T.z_zip (se_var 0) (se_var 1)) (sg_tup rfl (sgs_cons 3 sc_law_dot.nd rfl (by first | exact Or.inl rfl | exact Or.inr rfl) (sgs_cons 4 sc_law_dot.nd rfl (by first | exact Or.inl rfl | exact Or.inr rfl) sgs_nil)))
    (sb_one (ss_set 2 sc_law_dot.nd rfl (by first | exact Or.inl rfl | exact Or.inr rfl) (se_add (se_var 2) (se_mulA (se_var 3) (se_var 4))))))
    (sb_one (ss_ret (se_var 2)))))
theorem ok_law_lead (T : Txt K mg) : FnOk P w K mg base CX0 2 T.a_law_lead T.fd_law_lead ["grid", "row"] (spM K XR0 2 run_law_lead) := fn_mir T.F_law_lead sc_law_lead (fun _ _ _ _ q => q) fun cdv A outer s H E hr =>
    (sb_one (ss_ret (se_tuple (by rfl) T.z_tuple (sl_e (se_sc (sc_comp2 ["grid", "row", "line"] (defScope s_law_lead) [("line", 2)] rfl sc_law_lead.nd (si_seq (se_ix (sl_var 0) se_int (fun _ _ => rfl))) rfl rfl (by decide +kernel) rfl (fun _ _ _ _ _ => (sg_name 2 sc_law_lead.nd rfl (by first | exact Or.inl rfl | exact Or.inr rfl))) (fun _ _ _ _ _ => sts_nil) (fun _ _ _ _ _ => (se_call (ok_law_dot T) (hr.mono (by decide)) (by rfl) T.m_law_dot T.F_law_dot.kp T.b_law_dot (sa_cons (sl_var 2) (sa_cons (sl_var 1) sa_nil))))))))))
theorem ok_law_turn (T : Txt K mg) : FnOk P w K mg base CX0 1 T.a_law_turn T.fd_law_turn ["grid"] (spM K XR0 1 run_law_turn) := fn_mir T.F_law_turn sc_law_turn (fun _ _ _ _ q => q) fun cdv A outer s H E hr =>
    (sb_cons (ss_to (se_var 0) (sg_tup rfl (sgs_cons 1 sc_law_turn.nd rfl (by first | exact Or.inl rfl | exact Or.inr rfl) (sgs_cons 2 sc_law_turn.nd rfl (by first | exact Or.inl rfl | exact Or.inr rfl) sgs_nil))))
    (sb_one (ss_ret (se_tup (sd_cons (se_len (by rfl) T.z_len (sl_var 2)) (sd_cons (se_tuple (by rfl) T.z_tuple (sl_e (se_sc (sc_comp2 ["grid", "width", "lines", "at", "line"] (defScope s_law_turn) [("at", 3)] rfl sc_law_turn.nd (si_range1 (by rfl) T.z_range (se_var 1)) rfl rfl (by decide +kernel) rfl (fun _ _ _ _ _ => (sg_name 3 sc_law_turn.nd rfl (by first | exact Or.inl rfl | exact Or.inr rfl))) (fun _ _ _ _ _ => sts_nil) (fun _ _ _ _ _ => (se_tuple (by rfl) T.z_tuple (sl_e (se_sc (sc_compN ["grid", "width", "lines", "at", "line"] [("line", 4)] rfl sc_law_turn.nd (si_seq (se_var 2)) rfl (by decide +kernel) rfl (fun _ _ _ _ _ => (sg_name 4 sc_law_turn.nd rfl (by first | exact Or.inl rfl | exact Or.inr rfl))) (fun _ _ _ _ _ => sts_nil) (fun _ _ _ _ _ => (se_ix (sl_var 4) (se_var 3) (fun _ _ => rfl)))))))))))) sd_nil))))))
theorem ok_law_times (T : Txt K mg) : FnOk P w K mg base CX0 2 T.a_law_times T.fd_law_times ["one", "other"] (spM K XR0 2 run_law_times) := fn_mir T.F_law_times sc_law_times (fun _ _ _ _ q => q) fun cdv A outer s H E hr =>
    (sb_cons (ss_set 2 sc_law_times.nd rfl (by first | exact Or.inl rfl | exact Or.inr rfl) (se_ix (sl_e (se_call (ok_law_turn T) (hr.mono (by decide)) (by rfl) T.m_law_turn T.F_law_turn.kp T.b_law_turn (sa_cons (sl_var 1) sa_nil))) se_int (fun _ _ => rfl)))
    (sb_one (ss_ret (se_tup (sd_cons (se_ix (sl_var 1) se_int (fun _ _ => rfl)) (sd_cons (se_tuple (by rfl) T.z_tuple (sl_e (se_sc (sc_comp2 ["one", "other", "columns", "line", "column"] (defScope s_law_times) [("line", 3)] rfl sc_law_times.nd (si_seq (se_ix (sl_var 0) se_int (fun _ _ => rfl))) rfl rfl (by decide +kernel) rfl (fun _ _ _ _ _ => (sg_name 3 sc_law_times.nd rfl (by first | exact Or.inl rfl | exact Or.inr rfl))) (fun _ _ _ _ _ => sts_nil) (fun _ _ _ _ _ => (se_tuple (by rfl) T.z_tuple (sl_e (se_sc (sc_compN ["one", "other", "columns", "line", "column"] [("column", 4)] rfl sc_law_times.nd (si_seq (se_var 2)) rfl (by decide +kernel) rfl (fun _ _ _ _ _ => (sg_name 4 sc_law_times.nd rfl (by first | exact Or.inl rfl | exact Or.inr rfl))) (fun _ _ _ _ _ => sts_nil) (fun _ _ _ _ _ => (se_call (ok_law_dot T) (hr.mono (by decide)) (by rfl) T.m_law_dot T.F_law_dot.kp T.b_law_dot (sa_cons (sl_var 3) (sa_cons (sl_var 4) sa_nil))))))))))))) sd_nil))))))
theorem ok_law_unit (T : Txt K mg) : FnOk P w K mg base CX0 1 T.a_law_unit T.fd_law_unit ["size"] (spM K XR0 1 run_law_unit) := fn_mir T.F_law_unit sc_law_unit (fun _ _ _ _ q => q) fun cdv A outer s H E hr =>
    (sb_one (ss_ret (se_tup (sd_cons (se_var 0) (sd_cons (se_tuple (by rfl) T.z_tuple (sl_e (se_sc (sc_comp2 ["size", "at", "to"] (defScope s_law_unit) [("at", 1)] rfl sc_law_unit.nd (si_range1 (by rfl) T.z_range (se_var 0)) rfl rfl (by decide +kernel) rfl (fun _ _ _ _ _ => (sg_name 1 sc_law_unit.nd rfl (by first | exact Or.inl rfl | exact Or.inr rfl))) (fun _ _ _ _ _ => sts_nil) (fun _ _ _ _ _ => (se_tuple (by rfl) T.z_tuple (sl_e (se_sc (sc_compN ["size", "at", "to"] [("to", 2)] rfl sc_law_unit.nd (si_range1 (by rfl) T.z_range (se_var 0)) rfl (by decide +kernel) rfl (fun _ _ _ _ _ => (sg_name 2 sc_law_unit.nd rfl (by first | exact Or.inl rfl | exact Or.inr rfl))) (fun _ _ _ _ _ => sts_nil) (fun _ _ _ _ _ => (se_int1 (by rfl) T.z_int (sl_e (se_eq hr.units (se_var 1) (se_var 2)))))))))))))) sd_nil)))))
theorem ok_law_jg_entry (T : Txt K mg) : FnOk P w K mg base CX0 3 T.a_law_jg_entry T.fd_law_jg_entry ["hat"] (spM K XR0 1 run_law_jg_entry) := fn_mir T.F_law_jg_entry sc_law_jg_entry (fun _ _ _ _ q => q) fun cdv A outer s H E hr =>
    (sb_one (ss_ret (se_call (ok_law_out_of T) (hr.mono (by decide)) (by rfl) T.m_law_out_of T.F_law_out_of.kp T.b_law_out_of (sa_cons (sl_var 0) (sa_cons (sl_e (se_sc (sc_lst (sd_cons se_int (sd_cons se_int (sd_cons se_int (sd_cons (se_neg se_int) (sd_cons se_int (sd_cons (se_neg se_int) (sd_cons se_int (sd_cons (se_sub (se_pow se_int se_int) se_int) (sd_cons (se_sub se_int (se_pow se_int se_int)) (sd_cons (se_sub (se_call (ok_law_up_to T) (hr.mono (by decide)) (by rfl) T.m_law_up_to T.F_law_up_to.kp T.b_law_up_to (sa_cons (sl_var 0) (sa_cons (sl_e (se_pow se_int se_int)) sa_nil))) se_int) sd_nil))))))))))))) sa_nil)))))
theorem ok_law_jg_wide (T : Txt K mg) : FnOk P w K mg base CX0 4 T.a_law_jg_wide T.fd_law_jg_wide ["hat", "height", "width"] (spM K XR0 3 run_law_jg_wide) := fn_mir T.F_law_jg_wide sc_law_jg_wide (fun _ _ _ _ q => q) fun cdv A outer s H E hr =>
    (sb_one (ss_ret (se_tup (sd_cons (se_var 2) (sd_cons (se_tuple (by rfl) T.z_tuple (sl_e (se_sc (sc_comp2 ["hat", "height", "width", "line", "at"] (defScope s_law_jg_wide) [("line", 3)] rfl sc_law_jg_wide.nd (si_range1 (by rfl) T.z_range (se_var 1)) rfl rfl (by decide +kernel) rfl (fun _ _ _ _ _ => (sg_name 3 sc_law_jg_wide.nd rfl (by first | exact Or.inl rfl | exact Or.inr rfl))) (fun _ _ _ _ _ => sts_nil) (fun _ _ _ _ _ => (se_tuple (by rfl) T.z_tuple (sl_e (se_sc (sc_compN ["hat", "height", "width", "line", "at"] [("at", 4)] rfl sc_law_jg_wide.nd (si_range1 (by rfl) T.z_range (se_var 2)) rfl (by decide +kernel) rfl (fun _ _ _ _ _ => (sg_name 4 sc_law_jg_wide.nd rfl (by first | exact Or.inl rfl | exact Or.inr rfl))) (fun _ _ _ _ _ => sts_nil) (fun _ _ _ _ _ => (se_call (ok_law_jg_entry T) (hr.mono (by decide)) (by rfl) T.m_law_jg_entry T.F_law_jg_entry.kp T.b_law_jg_entry (sa_cons (sl_var 0) sa_nil)))))))))))) sd_nil)))))
theorem ok_law_jg_grid (T : Txt K mg) : FnOk P w K mg base CX0 3 T.a_law_jg_grid T.fd_law_jg_grid ["hat", "height", "width"] (spM K XR0 3 run_law_jg_grid) := fn_mir T.F_law_jg_grid sc_law_jg_grid (fun _ _ _ _ q => q) fun cdv A outer s H E hr =>
    (sb_cons (ss_setLc2 3 ["hat", "height", "width", "lines", "line", "at"] (defScope s_law_jg_grid) [("line", 4)] rfl sc_law_jg_grid.nd rfl rfl (sw_true rfl rfl rfl (by decide +kernel)) (si_range1 (by rfl) T.z_range (se_var 1)) rfl rfl (by decide +kernel) rfl (fun _ _ _ _ _ => (sg_name 4 sc_law_jg_grid.nd rfl (by first | exact Or.inl rfl | exact Or.inr rfl))) (fun _ _ _ _ _ => sts_nil) (fun _ _ _ _ _ => (se_tuple (by rfl) T.z_tuple (sl_e (se_sc (sc_compN ["hat", "height", "width", "lines", "line", "at"] [("at", 5)] rfl sc_law_jg_grid.nd (si_range1 (by rfl) T.z_range (se_var 2)) rfl (by decide +kernel) rfl (fun _ _ _ _ _ => (sg_name 5 sc_law_jg_grid.nd rfl (by first | exact Or.inl rfl | exact Or.inr rfl))) (fun _ _ _ _ _ => sts_nil) (fun _ _ _ _ _ => (se_call (ok_law_out_of T) (hr.mono (by decide)) (by rfl) T.m_law_out_of T.F_law_out_of.kp T.b_law_out_of (sa_cons (sl_var 0) (sa_cons (sl_e (se_sc (sc_lst (sd_cons se_int (sd_cons se_int (sd_cons se_int (sd_cons se_int (sd_cons (se_neg se_int) (sd_cons se_int (sd_cons (se_neg se_int) (sd_cons se_int (sd_cons se_int sd_nil)))))))))))) sa_nil))))))))))
    (sb_one (ss_ret (se_tup (sd_cons (se_var 2) (sd_cons (se_tuple (by rfl) T.z_tuple (sl_var 3)) sd_nil))))))
theorem ok_law_jg_plus (T : Txt K mg) : FnOk P w K mg base CX0 1 T.a_law_jg_plus T.fd_law_jg_plus ["one", "other"] (spM K XR0 2 run_law_jg_plus) := fn_mir T.F_law_jg_plus sc_law_jg_plus (fun _ _ _ _ q => q) fun cdv A outer s H E hr =>
    (sb_one (ss_ret (se_tup (sd_cons (se_ix (sl_var 0) se_int (fun _ _ => rfl)) (sd_cons (se_tuple (by rfl) T.z_tuple (sl_e (se_sc (sc_comp2 ["one", "other", "left", "right", "a", "b"] (defScope s_law_jg_plus) [("left", 2), ("right", 3)] rfl sc_law_jg_plus.nd (si_zp (by rfl) T.z_zip (se_ix (sl_var 0) se_int (fun _ _ => rfl)) (se_ix (sl_var 1) se_int (fun _ _ => rfl))) rfl rfl (by decide +kernel) rfl (fun _ _ _ _ _ => (sg_tup rfl (sgs_cons 2 sc_law_jg_plus.nd rfl (by first | exact Or.inl rfl | exact Or.inr rfl) (sgs_cons 3 sc_law_jg_plus.nd rfl (by first | exact Or.inl rfl | exact Or.inr rfl) sgs_nil)))) (fun _ _ _ _ _ => sts_nil) (fun _ _ _ _ _ => (se_tuple (by rfl) T.z_tuple (sl_e (se_sc (sc_compN ["one", "other", "left", "right", "a", "b"] [("a", 4), ("b", 5)] rfl sc_law_jg_plus.nd (si_zp (by rfl) T.z_zip (se_var 2) (se_var 3)) rfl (by decide +kernel) rfl (fun _ _ _ _ _ => (sg_tup rfl (sgs_cons 4 sc_law_jg_plus.nd rfl (by first | exact Or.inl rfl | exact Or.inr rfl) (sgs_cons 5 sc_law_jg_plus.nd rfl (by first | exact Or.inl rfl | exact Or.inr rfl) sgs_nil)))) (fun _ _ _ _ _ => sts_nil) (fun _ _ _ _ _ => (se_add (se_var 4) (se_var 5)))))))))))) sd_nil)))))
theorem ok_law_jg_scaled (T : Txt K mg) : FnOk P w K mg base CX0 1 T.a_law_jg_scaled T.fd_law_jg_scaled ["grid", "number"] (spM K XR0 2 run_law_jg_scaled) := fn_mir T.F_law_jg_scaled sc_law_jg_scaled (fun _ _ _ _ q => q) fun cdv A outer s H E hr =>
    (sb_one (ss_ret (se_tup (sd_cons (se_ix (sl_var 0) se_int (fun _ _ => rfl)) (sd_cons (se_tuple (by rfl) T.z_tuple (sl_e (se_sc (sc_comp2 ["grid", "number", "line", "entry"] (defScope s_law_jg_scaled) [("line", 2)] rfl sc_law_jg_scaled.nd (si_seq (se_ix (sl_var 0) se_int (fun _ _ => rfl))) rfl rfl (by decide +kernel) rfl (fun _ _ _ _ _ => (sg_name 2 sc_law_jg_scaled.nd rfl (by first | exact Or.inl rfl | exact Or.inr rfl))) (fun _ _ _ _ _ => sts_nil) (fun _ _ _ _ _ => (se_tuple (by rfl) T.z_tuple (sl_e (se_sc (sc_compN ["grid", "number", "line", "entry"] [("entry", 3)] rfl sc_law_jg_scaled.nd (si_seq (se_var 2)) rfl (by decide +kernel) rfl (fun _ _ _ _ _ => (sg_name 3 sc_law_jg_scaled.nd rfl (by first | exact Or.inl rfl | exact Or.inr rfl))) (fun _ _ _ _ _ => sts_nil) (fun _ _ _ _ _ => (se_mulA (se_var 1) (se_var 3)))))))))))) sd_nil)))))
theorem ok_law_jg_beside (T : Txt K mg) : FnOk P w K mg base CX0 1 T.a_law_jg_beside T.fd_law_jg_beside ["one", "other"] (spM K XR0 2 run_law_jg_beside) := fn_mir T.F_law_jg_beside sc_law_jg_beside (fun _ _ _ _ q => q) fun cdv A outer s H E hr =>
    (sb_one (ss_ret (se_tup (sd_cons (se_add (se_ix (sl_var 0) se_int (fun _ _ => rfl)) (se_ix (sl_var 1) se_int (fun _ _ => rfl))) (sd_cons (se_tuple (by rfl) T.z_tuple (sl_e (se_sc (sc_comp2 ["one", "other", "left", "right"] (defScope s_law_jg_beside) [("left", 2), ("right", 3)] rfl sc_law_jg_beside.nd (si_zp (by rfl) T.z_zip (se_ix (sl_var 0) se_int (fun _ _ => rfl)) (se_ix (sl_var 1) se_int (fun _ _ => rfl))) rfl rfl (by decide +kernel) rfl (fun _ _ _ _ _ => (sg_tup rfl (sgs_cons 2 sc_law_jg_beside.nd rfl (by first | exact Or.inl rfl | exact Or.inr rfl) (sgs_cons 3 sc_law_jg_beside.nd rfl (by first | exact Or.inl rfl | exact Or.inr rfl) sgs_nil)))) (fun _ _ _ _ _ => sts_nil) (fun _ _ _ _ _ => (se_add (se_var 2) (se_var 3))))))) sd_nil)))))
theorem ok_law_plain_right (T : Txt K mg) : FnOk P w K mg base CX0 9 T.a_law_plain_right T.fd_law_plain_right ["hat"] (spM K XR0 1 run_law_plain_right) := fn_mir T.F_law_plain_right sc_law_plain_right (fun _ _ _ _ q => q) fun cdv A outer s H E hr =>
    (sb_cons (ss_to (se_tup (sd_cons (se_call (ok_law_up_to T) (hr.mono (by decide)) (by rfl) T.m_law_up_to T.F_law_up_to.kp T.b_law_up_to (sa_cons (sl_var 0) (sa_cons (sl_e se_int) sa_nil))) (sd_cons (se_call (ok_law_up_to T) (hr.mono (by decide)) (by rfl) T.m_law_up_to T.F_law_up_to.kp T.b_law_up_to (sa_cons (sl_var 0) (sa_cons (sl_e se_int) sa_nil))) (sd_cons (se_call (ok_law_jg_entry T) (hr.mono (by decide)) (by rfl) T.m_law_jg_entry T.F_law_jg_entry.kp T.b_law_jg_entry (sa_cons (sl_var 0) sa_nil)) sd_nil)))) (sg_tup rfl (sgs_cons 1 sc_law_plain_right.nd rfl (by first | exact Or.inl rfl | exact Or.inr rfl) (sgs_cons 2 sc_law_plain_right.nd rfl (by first | exact Or.inl rfl | exact Or.inr rfl) (sgs_cons 3 sc_law_plain_right.nd rfl (by first | exact Or.inl rfl | exact Or.inr rfl) sgs_nil)))))
    (sb_cons (ss_par 4 5 rfl sc_law_plain_right.nd rfl rfl (by decide) rfl rfl (se_call (ok_law_jg_wide T) (hr.mono (by decide)) (by rfl) T.m_law_jg_wide T.F_law_jg_wide.kp T.b_law_jg_wide (sa_cons (sl_var 0) (sa_cons (sl_var 1) (sa_cons (sl_var 2) sa_nil)))) (se_call (ok_law_jg_wide T) (hr.mono (by decide)) (by rfl) T.m_law_jg_wide T.F_law_jg_wide.kp T.b_law_jg_wide (sa_cons (sl_var 0) (sa_cons (sl_var 1) (sa_cons (sl_var 2) sa_nil)))) (by rfl))
    (sb_cons (ss_set 6 sc_law_plain_right.nd rfl (by first | exact Or.inl rfl | exact Or.inr rfl) (se_tuple (by rfl) T.z_tuple (sl_e (se_sc (sc_comp2 ["hat", "high", "wide", "number", "one", "other", "row", "line", "left", "right", "third", "at", "entry", "a", "b"] (defScope s_law_plain_right) [("at", 11)] rfl sc_law_plain_right.nd (si_range1 (by rfl) T.z_range (se_var 2)) rfl rfl (by decide +kernel) rfl (fun _ _ _ _ _ => (sg_name 11 sc_law_plain_right.nd rfl (by first | exact Or.inl rfl | exact Or.inr rfl))) (fun _ _ _ _ _ => sts_nil) (fun _ _ _ _ _ => (se_call (ok_law_jg_entry T) (hr.mono (by decide)) (by rfl) T.m_law_jg_entry T.F_law_jg_entry.kp T.b_law_jg_entry (sa_cons (sl_var 0) sa_nil))))))))
    (sb_cons (ss_set 7 sc_law_plain_right.nd rfl (by first | exact Or.inl rfl | exact Or.inr rfl) (se_tuple (by rfl) T.z_tuple (sl_e (se_sc (sc_comp2 ["hat", "high", "wide", "number", "one", "other", "row", "line", "left", "right", "third", "at", "entry", "a", "b"] (defScope s_law_plain_right) [("at", 11)] rfl sc_law_plain_right.nd (si_range1 (by rfl) T.z_range (se_var 1)) rfl rfl (by decide +kernel) rfl (fun _ _ _ _ _ => (sg_name 11 sc_law_plain_right.nd rfl (by first | exact Or.inl rfl | exact Or.inr rfl))) (fun _ _ _ _ _ => sts_nil) (fun _ _ _ _ _ => (se_call (ok_law_jg_entry T) (hr.mono (by decide)) (by rfl) T.m_law_jg_entry T.F_law_jg_entry.kp T.b_law_jg_entry (sa_cons (sl_var 0) sa_nil))))))))
    (sb_cons (ss_if (st_w (sw_or (st_ne hr.units (se_call (ok_led T) (hr.mono (by decide)) (by rfl) T.m_led T.F_led.kp T.b_led (sa_cons (sl_var 4) (sa_cons (sl_var 6) sa_nil))) (se_call (ok_law_lead T) (hr.mono (by decide)) (by rfl) T.m_law_lead T.F_law_lead.kp T.b_law_lead (sa_cons (sl_var 4) (sa_cons (sl_var 6) sa_nil)))) (sw_or1 (st_ne hr.units (se_call (ok_read_by T) (hr.mono (by decide)) (by rfl) T.m_read_by T.F_read_by.kp T.b_read_by (sa_cons (sl_var 7) (sa_cons (sl_var 4) sa_nil))) (se_call (ok_law_lead T) (hr.mono (by decide)) (by rfl) T.m_law_lead T.F_law_lead.kp T.b_law_lead (sa_cons (sl_e (se_call (ok_law_turn T) (hr.mono (by decide)) (by rfl) T.m_law_turn T.F_law_turn.kp T.b_law_turn (sa_cons (sl_var 4) sa_nil))) (sa_cons (sl_var 7) sa_nil)))))))
    (sb_one (ss_ret se_bl))
    sb_nil)
    (sb_cons (ss_if (st_w (sw_or (st_ne hr.units (se_call (ok_turned T) (hr.mono (by decide)) (by rfl) T.m_turned T.F_turned.kp T.b_turned (sa_cons (sl_var 4) sa_nil)) (se_call (ok_law_turn T) (hr.mono (by decide)) (by rfl) T.m_law_turn T.F_law_turn.kp T.b_law_turn (sa_cons (sl_var 4) sa_nil))) (sw_or (st_ne hr.units (se_call (ok_turned T) (hr.mono (by decide)) (by rfl) T.m_turned T.F_turned.kp T.b_turned (sa_cons (sl_e (se_call (ok_turned T) (hr.mono (by decide)) (by rfl) T.m_turned T.F_turned.kp T.b_turned (sa_cons (sl_var 4) sa_nil))) sa_nil)) (se_var 4)) (sw_or1 (st_ne hr.units (se_call (ok_grid_sum T) (hr.mono (by decide)) (by rfl) T.m_grid_sum T.F_grid_sum.kp T.b_grid_sum (sa_cons (sl_var 4) (sa_cons (sl_var 5) sa_nil))) (se_call (ok_law_jg_plus T) (hr.mono (by decide)) (by rfl) T.m_law_jg_plus T.F_law_jg_plus.kp T.b_law_jg_plus (sa_cons (sl_var 4) (sa_cons (sl_var 5) sa_nil))))))))
    (sb_one (ss_ret se_bl))
    sb_nil)
    (sb_cons (ss_if (st_ne hr.units (se_call (ok_grid_multiple T) (hr.mono (by decide)) (by rfl) T.m_grid_multiple T.F_grid_multiple.kp T.b_grid_multiple (sa_cons (sl_var 4) (sa_cons (sl_var 3) sa_nil))) (se_call (ok_law_jg_scaled T) (hr.mono (by decide)) (by rfl) T.m_law_jg_scaled T.F_law_jg_scaled.kp T.b_law_jg_scaled (sa_cons (sl_var 4) (sa_cons (sl_var 3) sa_nil))))
    (sb_one (ss_ret se_bl))
    sb_nil)
    (sb_cons (ss_if (st_ne hr.units (se_call (ok_row_multiple T) (hr.mono (by decide)) (by rfl) T.m_row_multiple T.F_row_multiple.kp T.b_row_multiple (sa_cons (sl_var 6) (sa_cons (sl_var 3) sa_nil))) (se_tuple (by rfl) T.z_tuple (sl_e (se_sc (sc_comp2 ["hat", "high", "wide", "number", "one", "other", "row", "line", "left", "right", "third", "at", "entry", "a", "b"] (defScope s_law_plain_right) [("entry", 12)] rfl sc_law_plain_right.nd (si_seq (se_var 6)) rfl rfl (by decide +kernel) rfl (fun _ _ _ _ _ => (sg_name 12 sc_law_plain_right.nd rfl (by first | exact Or.inl rfl | exact Or.inr rfl))) (fun _ _ _ _ _ => sts_nil) (fun _ _ _ _ _ => (se_mulA (se_var 3) (se_var 12))))))))
    (sb_one (ss_ret se_bl))
    sb_nil)
    (sb_cons (ss_if (st_w (sw_or (st_ne hr.units (se_call (ok_grid_difference T) (hr.mono (by decide)) (by rfl) T.m_grid_difference T.F_grid_difference.kp T.b_grid_difference (sa_cons (sl_var 4) (sa_cons (sl_var 5) sa_nil))) (se_call (ok_law_jg_plus T) (hr.mono (by decide)) (by rfl) T.m_law_jg_plus T.F_law_jg_plus.kp T.b_law_jg_plus (sa_cons (sl_var 4) (sa_cons (sl_e (se_call (ok_law_jg_scaled T) (hr.mono (by decide)) (by rfl) T.m_law_jg_scaled T.F_law_jg_scaled.kp T.b_law_jg_scaled (sa_cons (sl_var 5) (sa_cons (sl_e (se_neg se_int)) sa_nil)))) sa_nil)))) (sw_or1 (st_ne hr.units (se_call (ok_beside T) (hr.mono (by decide)) (by rfl) T.m_beside T.F_beside.kp T.b_beside (sa_cons (sl_var 4) (sa_cons (sl_var 5) sa_nil))) (se_call (ok_law_jg_beside T) (hr.mono (by decide)) (by rfl) T.m_law_jg_beside T.F_law_jg_beside.kp T.b_law_jg_beside (sa_cons (sl_var 4) (sa_cons (sl_var 5) sa_nil)))))))
    (sb_one (ss_ret se_bl))
    sb_nil)
    (sb_cons (ss_if (st_w (sw_or (st_ne hr.units (se_call (ok_over T) (hr.mono (by decide)) (by rfl) T.m_over T.F_over.kp T.b_over (sa_cons (sl_var 4) (sa_cons (sl_var 5) sa_nil))) (se_tup (sd_cons (se_var 2) (sd_cons (se_add (se_ix (sl_var 4) se_int (fun _ _ => rfl)) (se_ix (sl_var 5) se_int (fun _ _ => rfl))) sd_nil)))) (sw_or1 (st_ne hr.units (se_call (ok_dot T) (hr.mono (by decide)) (by rfl) T.m_dot T.F_dot.kp T.b_dot (sa_cons (sl_var 6) (sa_cons (sl_var 6) sa_nil))) (se_call (ok_law_dot T) (hr.mono (by decide)) (by rfl) T.m_law_dot T.F_law_dot.kp T.b_law_dot (sa_cons (sl_var 6) (sa_cons (sl_var 6) sa_nil)))))))
    (sb_one (ss_ret se_bl))
    sb_nil)
    (sb_cons (ss_for PassesOwn.never rfl (si_zp (by rfl) T.z_zip (se_ix (sl_var 4) se_int (fun _ _ => rfl)) (se_ix (sl_var 5) se_int (fun _ _ => rfl))) (sg_tup rfl (sgs_cons 8 sc_law_plain_right.nd rfl (by first | exact Or.inl rfl | exact Or.inr rfl) (sgs_cons 9 sc_law_plain_right.nd rfl (by first | exact Or.inl rfl | exact Or.inr rfl) sgs_nil)))
    (sb_cons (ss_if (st_ne hr.units (se_call (ok_row_sum T) (hr.mono (by decide)) (by rfl) T.m_row_sum T.F_row_sum.kp T.b_row_sum (sa_cons (sl_var 8) (sa_cons (sl_var 9) sa_nil))) (se_tuple (by rfl) T.z_tuple (sl_e (se_sc (sc_comp2 ["hat", "high", "wide", "number", "one", "other", "row", "line", "left", "right", "third", "at", "entry", "a", "b"] (defScope s_law_plain_right) [("a", 13), ("b", 14)] rfl sc_law_plain_right.nd (si_zp (by rfl) T.z_zip (se_var 8) (se_var 9)) rfl rfl (by decide +kernel) rfl (fun _ _ _ _ _ => (sg_tup rfl (sgs_cons 13 sc_law_plain_right.nd rfl (by first | exact Or.inl rfl | exact Or.inr rfl) (sgs_cons 14 sc_law_plain_right.nd rfl (by first | exact Or.inl rfl | exact Or.inr rfl) sgs_nil)))) (fun _ _ _ _ _ => sts_nil) (fun _ _ _ _ _ => (se_add (se_var 13) (se_var 14))))))))
    (sb_one (ss_ret se_bl))
    sb_nil)
    (sb_one (ss_if (st_ne hr.units (se_call (ok_row_difference T) (hr.mono (by decide)) (by rfl) T.m_row_difference T.F_row_difference.kp T.b_row_difference (sa_cons (sl_var 8) (sa_cons (sl_var 9) sa_nil))) (se_tuple (by rfl) T.z_tuple (sl_e (se_sc (sc_comp2 ["hat", "high", "wide", "number", "one", "other", "row", "line", "left", "right", "third", "at", "entry", "a", "b"] (defScope s_law_plain_right) [("a", 13), ("b", 14)] rfl sc_law_plain_right.nd (si_zp (by rfl) T.z_zip (se_var 8) (se_var 9)) rfl rfl (by decide +kernel) rfl (fun _ _ _ _ _ => (sg_tup rfl (sgs_cons 13 sc_law_plain_right.nd rfl (by first | exact Or.inl rfl | exact Or.inr rfl) (sgs_cons 14 sc_law_plain_right.nd rfl (by first | exact Or.inl rfl | exact Or.inr rfl) sgs_nil)))) (fun _ _ _ _ _ => sts_nil) (fun _ _ _ _ _ => (se_sub (se_var 13) (se_var 14))))))))
    (sb_one (ss_ret se_bl))
    sb_nil))))
    (sb_cons (ss_set 10 sc_law_plain_right.nd rfl (by first | exact Or.inl rfl | exact Or.inr rfl) (se_call (ok_law_jg_wide T) (hr.mono (by decide)) (by rfl) T.m_law_jg_wide T.F_law_jg_wide.kp T.b_law_jg_wide (sa_cons (sl_var 0) (sa_cons (sl_var 2) (sa_cons (sl_e (se_call (ok_law_up_to T) (hr.mono (by decide)) (by rfl) T.m_law_up_to T.F_law_up_to.kp T.b_law_up_to (sa_cons (sl_var 0) (sa_cons (sl_e se_int) sa_nil)))) sa_nil)))))
    (sb_one (ss_ret (se_eq hr.units (se_call (ok_grid_product T) (hr.mono (by decide)) (by rfl) T.m_grid_product T.F_grid_product.kp T.b_grid_product (sa_cons (sl_var 4) (sa_cons (sl_var 10) sa_nil))) (se_call (ok_law_times T) (hr.mono (by decide)) (by rfl) T.m_law_times T.F_law_times.kp T.b_law_times (sa_cons (sl_var 4) (sa_cons (sl_var 10) sa_nil))))))))))))))))))
theorem ok_law_grouped_right (T : Txt K mg) : FnOk P w K mg base CX0 8 T.a_law_grouped_right T.fd_law_grouped_right ["hat"] (spM K XR0 1 run_law_grouped_right) := fn_mir T.F_law_grouped_right sc_law_grouped_right (fun _ _ _ _ q => q) fun cdv A outer s H E hr =>
    (sb_cons (ss_set 1 sc_law_grouped_right.nd rfl (by first | exact Or.inl rfl | exact Or.inr rfl) (se_sc (sc_comp2 ["hat", "sizes", "one", "two", "three", "row", "line", "led_on", "both", "turn", "at"] (defScope s_law_grouped_right) [("turn", 9)] rfl sc_law_grouped_right.nd (si_range1 (by rfl) T.z_range se_int) rfl rfl (by decide +kernel) rfl (fun _ _ _ _ _ => (sg_name 9 sc_law_grouped_right.nd rfl (by first | exact Or.inl rfl | exact Or.inr rfl))) (fun _ _ _ _ _ => sts_nil) (fun _ _ _ _ _ => (se_call (ok_law_up_to T) (hr.mono (by decide)) (by rfl) T.m_law_up_to T.F_law_up_to.kp T.b_law_up_to (sa_cons (sl_var 0) (sa_cons (sl_e se_int) sa_nil)))))))
    (sb_cons (ss_to (se_sc (sc_comp2 ["hat", "sizes", "one", "two", "three", "row", "line", "led_on", "both", "turn", "at"] (defScope s_law_grouped_right) [("at", 10)] rfl sc_law_grouped_right.nd (si_range1 (by rfl) T.z_range se_int) rfl rfl (by decide +kernel) rfl (fun _ _ _ _ _ => (sg_name 10 sc_law_grouped_right.nd rfl (by first | exact Or.inl rfl | exact Or.inr rfl))) (fun _ _ _ _ _ => sts_nil) (fun _ _ _ _ _ => (se_call (ok_law_jg_grid T) (hr.mono (by decide)) (by rfl) T.m_law_jg_grid T.F_law_jg_grid.kp T.b_law_jg_grid (sa_cons (sl_var 0) (sa_cons (sl_e (se_ix (sl_var 1) (se_var 10) (fun _ _ => rfl))) (sa_cons (sl_e (se_ix (sl_var 1) (se_add (se_var 10) se_int) (fun _ _ => rfl))) sa_nil))))))) (sg_lst rfl (sgs_cons 2 sc_law_grouped_right.nd rfl (by first | exact Or.inl rfl | exact Or.inr rfl) (sgs_cons 3 sc_law_grouped_right.nd rfl (by first | exact Or.inl rfl | exact Or.inr rfl) (sgs_cons 4 sc_law_grouped_right.nd rfl (by first | exact Or.inl rfl | exact Or.inr rfl) sgs_nil)))))
    (sb_cons (ss_if (st_ne hr.units (se_call (ok_grid_product T) (hr.mono (by decide)) (by rfl) T.m_grid_product T.F_grid_product.kp T.b_grid_product (sa_cons (sl_e (se_call (ok_grid_product T) (hr.mono (by decide)) (by rfl) T.m_grid_product T.F_grid_product.kp T.b_grid_product (sa_cons (sl_var 2) (sa_cons (sl_var 3) sa_nil)))) (sa_cons (sl_var 4) sa_nil))) (se_call (ok_grid_product T) (hr.mono (by decide)) (by rfl) T.m_grid_product T.F_grid_product.kp T.b_grid_product (sa_cons (sl_var 2) (sa_cons (sl_e (se_call (ok_grid_product T) (hr.mono (by decide)) (by rfl) T.m_grid_product T.F_grid_product.kp T.b_grid_product (sa_cons (sl_var 3) (sa_cons (sl_var 4) sa_nil)))) sa_nil))))
    (sb_one (ss_ret se_bl))
    sb_nil)
    (sb_cons (ss_if (st_ne hr.units (se_call (ok_turned T) (hr.mono (by decide)) (by rfl) T.m_turned T.F_turned.kp T.b_turned (sa_cons (sl_e (se_call (ok_grid_product T) (hr.mono (by decide)) (by rfl) T.m_grid_product T.F_grid_product.kp T.b_grid_product (sa_cons (sl_var 2) (sa_cons (sl_var 3) sa_nil)))) sa_nil)) (se_call (ok_grid_product T) (hr.mono (by decide)) (by rfl) T.m_grid_product T.F_grid_product.kp T.b_grid_product (sa_cons (sl_e (se_call (ok_turned T) (hr.mono (by decide)) (by rfl) T.m_turned T.F_turned.kp T.b_turned (sa_cons (sl_var 3) sa_nil))) (sa_cons (sl_e (se_call (ok_turned T) (hr.mono (by decide)) (by rfl) T.m_turned T.F_turned.kp T.b_turned (sa_cons (sl_var 2) sa_nil))) sa_nil))))
    (sb_one (ss_ret se_bl))
    sb_nil)
    (sb_cons (ss_par 5 6 rfl sc_law_grouped_right.nd rfl rfl (by decide) rfl rfl (se_call (ok_law_row T) (hr.mono (by decide)) (by rfl) T.m_law_row T.F_law_row.kp T.b_law_row (sa_cons (sl_var 0) (sa_cons (sl_e (se_ix (sl_var 1) se_int (fun _ _ => rfl))) sa_nil))) (se_call (ok_law_row T) (hr.mono (by decide)) (by rfl) T.m_law_row T.F_law_row.kp T.b_law_row (sa_cons (sl_var 0) (sa_cons (sl_e (se_ix (sl_var 1) se_int (fun _ _ => rfl))) sa_nil))) (by rfl))
    (sb_cons (ss_set 7 sc_law_grouped_right.nd rfl (by first | exact Or.inl rfl | exact Or.inr rfl) (se_call (ok_led T) (hr.mono (by decide)) (by rfl) T.m_led T.F_led.kp T.b_led (sa_cons (sl_var 2) (sa_cons (sl_e (se_call (ok_led T) (hr.mono (by decide)) (by rfl) T.m_led T.F_led.kp T.b_led (sa_cons (sl_var 3) (sa_cons (sl_var 5) sa_nil)))) sa_nil))))
    (sb_cons (ss_if (st_w (sw_or (st_ne hr.units (se_call (ok_led T) (hr.mono (by decide)) (by rfl) T.m_led T.F_led.kp T.b_led (sa_cons (sl_e (se_call (ok_grid_product T) (hr.mono (by decide)) (by rfl) T.m_grid_product T.F_grid_product.kp T.b_grid_product (sa_cons (sl_var 2) (sa_cons (sl_var 3) sa_nil)))) (sa_cons (sl_var 5) sa_nil))) (se_var 7)) (sw_or1 (st_ne hr.units (se_call (ok_dot T) (hr.mono (by decide)) (by rfl) T.m_dot T.F_dot.kp T.b_dot (sa_cons (sl_e (se_call (ok_read_by T) (hr.mono (by decide)) (by rfl) T.m_read_by T.F_read_by.kp T.b_read_by (sa_cons (sl_var 6) (sa_cons (sl_var 2) sa_nil)))) (sa_cons (sl_e (se_call (ok_led T) (hr.mono (by decide)) (by rfl) T.m_led T.F_led.kp T.b_led (sa_cons (sl_var 3) (sa_cons (sl_var 5) sa_nil)))) sa_nil))) (se_call (ok_dot T) (hr.mono (by decide)) (by rfl) T.m_dot T.F_dot.kp T.b_dot (sa_cons (sl_var 6) (sa_cons (sl_var 7) sa_nil)))))))
    (sb_one (ss_ret se_bl))
    sb_nil)
    (sb_cons (ss_set 8 sc_law_grouped_right.nd rfl (by first | exact Or.inl rfl | exact Or.inr rfl) (se_call (ok_beside T) (hr.mono (by decide)) (by rfl) T.m_beside T.F_beside.kp T.b_beside (sa_cons (sl_var 2) (sa_cons (sl_e (se_call (ok_grid_product T) (hr.mono (by decide)) (by rfl) T.m_grid_product T.F_grid_product.kp T.b_grid_product (sa_cons (sl_var 2) (sa_cons (sl_var 3) sa_nil)))) sa_nil))))
    (sb_one (ss_ret (se_and (se_eq hr.units (se_var 8) (se_call (ok_grid_product T) (hr.mono (by decide)) (by rfl) T.m_grid_product T.F_grid_product.kp T.b_grid_product (sa_cons (sl_var 2) (sa_cons (sl_e (se_call (ok_beside T) (hr.mono (by decide)) (by rfl) T.m_beside T.F_beside.kp T.b_beside (sa_cons (sl_e (se_call (ok_law_unit T) (hr.mono (by decide)) (by rfl) T.m_law_unit T.F_law_unit.kp T.b_law_unit (sa_cons (sl_e (se_ix (sl_var 1) se_int (fun _ _ => rfl))) sa_nil))) (sa_cons (sl_var 3) sa_nil)))) sa_nil)))) (se_one (se_eq hr.units (se_call (ok_over T) (hr.mono (by decide)) (by rfl) T.m_over T.F_over.kp T.b_over (sa_cons (sl_e (se_call (ok_turned T) (hr.mono (by decide)) (by rfl) T.m_turned T.F_turned.kp T.b_turned (sa_cons (sl_var 2) sa_nil))) (sa_cons (sl_e (se_call (ok_turned T) (hr.mono (by decide)) (by rfl) T.m_turned T.F_turned.kp T.b_turned (sa_cons (sl_e (se_call (ok_grid_product T) (hr.mono (by decide)) (by rfl) T.m_grid_product T.F_grid_product.kp T.b_grid_product (sa_cons (sl_var 2) (sa_cons (sl_var 3) sa_nil)))) sa_nil))) sa_nil))) (se_call (ok_turned T) (hr.mono (by decide)) (by rfl) T.m_turned T.F_turned.kp T.b_turned (sa_cons (sl_var 8) sa_nil)))))))))))))))
theorem ok_law (T : Txt K mg) : FnOk P w K mg base CX0 10 T.a_law T.fd_law ["script"] (spM K XR0 1 run_law) := fn_mir T.F_law sc_law (fun _ _ _ _ q => q) fun cdv A outer s H E hr =>
    (sb_cons (ss_for PassesOwn.never rfl (si_range1 (by rfl) T.z_range (se_max2 rfl (by rfl) T.z_max se_int (se_min2 rfl (by rfl) T.z_min se_int (se_len (by rfl) T.z_len (sl_var 0))))) (sg_name 1 sc_law.nd rfl (by first | exact Or.inl rfl | exact Or.inr rfl))
    (sb_cons (ss_setC 2 sc_law.nd rfl (by first | exact Or.inl rfl | exact Or.inr rfl) (sc_call (okC_law_hat T) (hr.mono (by decide)) (by rfl) T.m_law_hat T.F_law_hat.kp T.b_law_hat (sa_cons (sl_var 0) (sa_cons (sl_var 1) sa_nil))))
    (sb_one (ss_for PassesOwn.never rfl (si_range1 (by rfl) T.z_range se_int) (sg_name 3 sc_law.nd rfl (by first | exact Or.inl rfl | exact Or.inr rfl))
    (sb_one (ss_if (st_w (sw_or (st_not (st_val (se_call (ok_law_plain_right T) (hr.mono (by decide)) (by rfl) T.m_law_plain_right T.F_law_plain_right.kp T.b_law_plain_right (sa_cons (sl_var 2) sa_nil)))) (sw_or1 (st_not (st_val (se_call (ok_law_grouped_right T) (hr.mono (by decide)) (by rfl) T.m_law_grouped_right T.F_law_grouped_right.kp T.b_law_grouped_right (sa_cons (sl_var 2) sa_nil)))))))
    (sb_one (ss_ret se_bl))
    sb_nil))))))
    (sb_cons (ss_to (se_tup (sd_cons (se_tup (sd_cons se_int (sd_cons (se_tup sd_nil) sd_nil))) (sd_cons (se_tup (sd_cons se_int (sd_cons (se_tup (sd_cons (se_tup sd_nil) (sd_cons (se_tup sd_nil) sd_nil))) sd_nil))) sd_nil))) (sg_tup rfl (sgs_cons 4 sc_law.nd rfl (by first | exact Or.inl rfl | exact Or.inr rfl) (sgs_cons 5 sc_law.nd rfl (by first | exact Or.inl rfl | exact Or.inr rfl) sgs_nil))))
    (sb_cons (ss_if (st_w (sw_or (st_ne hr.units (se_call (ok_turned T) (hr.mono (by decide)) (by rfl) T.m_turned T.F_turned.kp T.b_turned (sa_cons (sl_var 4) sa_nil)) (se_tup (sd_cons se_int (sd_cons (se_tup (sd_cons (se_tup sd_nil) (sd_cons (se_tup sd_nil) (sd_cons (se_tup sd_nil) sd_nil)))) sd_nil)))) (sw_or (st_ne hr.units (se_call (ok_turned T) (hr.mono (by decide)) (by rfl) T.m_turned T.F_turned.kp T.b_turned (sa_cons (sl_var 5) sa_nil)) (se_tup (sd_cons se_int (sd_cons (se_tup sd_nil) sd_nil)))) (sw_or1 (st_ne hr.units (se_call (ok_grid_product T) (hr.mono (by decide)) (by rfl) T.m_grid_product T.F_grid_product.kp T.b_grid_product (sa_cons (sl_var 5) (sa_cons (sl_e (se_tup (sd_cons se_int (sd_cons (se_tup sd_nil) sd_nil)))) sa_nil))) (se_var 5))))))
    (sb_one (ss_ret se_bl))
    sb_nil)
    (sb_cons (ss_if (st_w (sw_or (st_ne hr.units (se_call (ok_grid_product T) (hr.mono (by decide)) (by rfl) T.m_grid_product T.F_grid_product.kp T.b_grid_product (sa_cons (sl_var 5) (sa_cons (sl_e (se_tup (sd_cons se_int (sd_cons (se_tup sd_nil) sd_nil)))) sa_nil))) (se_tup (sd_cons se_int (sd_cons (se_mulA (se_tup (sd_cons (se_tup (sd_cons se_int (sd_cons se_int (sd_cons se_int (sd_cons se_int sd_nil))))) sd_nil)) se_int) sd_nil)))) (sw_or (st_ne hr.units (se_call (ok_led T) (hr.mono (by decide)) (by rfl) T.m_led T.F_led.kp T.b_led (sa_cons (sl_var 5) (sa_cons (sl_e (se_tup sd_nil)) sa_nil))) (se_tup (sd_cons se_int (sd_cons se_int sd_nil)))) (sw_or (st_ne hr.units (se_call (ok_read_by T) (hr.mono (by decide)) (by rfl) T.m_read_by T.F_read_by.kp T.b_read_by (sa_cons (sl_e (se_tup sd_nil)) (sa_cons (sl_var 4) sa_nil))) (se_tup (sd_cons se_int (sd_cons se_int (sd_cons se_int sd_nil))))) (sw_or1 (st_ne hr.units (se_call (ok_dot T) (hr.mono (by decide)) (by rfl) T.m_dot T.F_dot.kp T.b_dot (sa_cons (sl_e (se_tup sd_nil)) (sa_cons (sl_e (se_tup sd_nil)) sa_nil))) se_int))))))
    (sb_one (ss_ret se_bl))
    sb_nil)
    (sb_cons (ss_set 6 sc_law.nd rfl (by first | exact Or.inl rfl | exact Or.inr rfl) (se_tup (sd_cons se_int (sd_cons (se_tup (sd_cons (se_tup (sd_cons (se_sub (se_pow se_int se_int) se_int) sd_nil)) sd_nil)) sd_nil))))
    (sb_one (ss_ret (se_and (se_eq hr.units (se_call (ok_grid_product T) (hr.mono (by decide)) (by rfl) T.m_grid_product T.F_grid_product.kp T.b_grid_product (sa_cons (sl_var 6) (sa_cons (sl_var 6) sa_nil))) (se_tup (sd_cons se_int (sd_cons (se_tup (sd_cons (se_tup (sd_cons (se_add (se_sub (se_pow se_int se_int) (se_mulA se_int (se_pow se_int se_int))) se_int) sd_nil)) sd_nil)) sd_nil)))) (se_and (se_eq hr.units (se_call (ok_grid_sum T) (hr.mono (by decide)) (by rfl) T.m_grid_sum T.F_grid_sum.kp T.b_grid_sum (sa_cons (sl_var 4) (sa_cons (sl_var 4) sa_nil))) (se_var 4)) (se_one (se_eq hr.units (se_call (ok_grid_multiple T) (hr.mono (by decide)) (by rfl) T.m_grid_multiple T.F_grid_multiple.kp T.b_grid_multiple (sa_cons (sl_var 5) (sa_cons (sl_e se_int) sa_nil))) (se_var 5))))))))))))
end
def sp_law (K : PySem.W.Frag) : Sp := fun vs H Q _ => ∃ (a : Addr) (ns : List Int), vs = [.ref a] ∧ SqL K H a (ns.map V.int) ∧ ns.length ≤ 63 ∧ ∀ H', Q (.bl true) H'
theorem law_sp (math : ∀ ns : List Int, ns.length ≤ 63 → ∃ s, run_law [.s ns] [] = .ok (.bool true) s) {P : Program} {w : World} {K : PySem.W.Frag} {mg : Str → Option Value} {base : Heap} (T : Txt K mg) : FnOk P w K mg base CX0 10 T.a_law T.fd_law ["script"] (sp_law K) := by
  refine (ok_law T).imp fun vs H Q E h => ?_
  obtain ⟨a, ns, rfl, hS, hl, k⟩ := h
  obtain ⟨s, e⟩ := math ns hl
  obtain ⟨Hi, e1, e2, hS⟩ := start_hi hS
  refine ⟨[], Hi, [.s ns], [], rfl, ⟨e1, (fun _ m => nomatch m), List.nodup_nil, rfl, (fun _ _ _ q => nomatch q), (fun _ m => nomatch m), e2⟩, ⟨.ref a, [], rfl, ⟨a, rfl, hS⟩, rfl⟩, ?_⟩
  rw [e]
  intro v Hi' H' _ _ d
  cases (show v = .bl true from d)
  exact k H'
theorem all_mk (math : ∀ ns : List Int, ns.length ≤ 63 → ∃ s, run_law [.s ns] [] = .ok (.bool true) s) {l : PySem.W.OpenLaw} {w : World} {K : PySem.W.Frag} {h : Heap} {mg : Str → Option Value} {fa : Addr} (X : K.In h) (G : h.Ns mainGlobals mg) (hfa : mg "law" = some (.ref fa))
  {f0 f1 f2 f3 f4 f5 f6 f7 f8 f9 f10 f11 f12 f13 f14 f15 f16 f17 f18 f19 f20 f21 f22 f23 f24 f25 f26 f27 f28 f29 f30 f31 f32 f33 f34 f35 f36 f37 f38 f39 f40 f41 f42 f43 f44 f45 f46 f47 f48 f49 f50 f51 f52 f53 f54 f55 f56 f57 f58 f59 f60 f61 f62 : Addr}
  {od0 an0 od1 an1 od2 an2 od3 an3 od4 an4 od5 an5 od6 an6 od7 an7 od8 an8 od9 an9 od10 an10 od11 an11 od12 an12 od13 an13 od14 an14 od15 an15 od16 an16 od17 an17 od18 an18 od19 an19 od20 an20 od21 an21 od22 an22 od23 an23 od24 an24 od25 an25 od26 an26 od27 an27 od28 an28 od29 an29 od30 an30 od31 an31 od32 an32 od33 an33 od34 an34 od35 an35 od36 an36 od37 an37 od38 an38 od39 an39 od40 an40 od41 an41 od42 an42 od43 an43 od44 an44 od45 an45 od46 an46 od47 an47 od48 an48 od49 an49 od50 an50 od51 an51 od52 an52 od53 an53 od54 an54 od55 an55 od56 an56 od57 an57 od58 an58 od59 an59 od60 an60 od61 an61 od62 an62 : Option Addr} {sl0 sl1 sl2 sl3 sl4 sl5 sl6 sl7 sl8 sl9 sl10 sl11 sl12 sl13 sl14 sl15 sl16 sl17 sl18 sl19 sl20 sl21 sl22 sl23 sl24 sl25 sl26 sl27 sl28 sl29 sl30 sl31 sl32 sl33 sl34 sl35 sl36 sl37 sl38 sl39 sl40 sl41 sl42 sl43 sl44 sl45 sl46 sl47 sl48 sl49 sl50 sl51 sl52 sl53 sl54 sl55 sl56 sl57 sl58 sl59 sl60 sl61 sl62 : Array (Option Value)}
  {oc0 kV0 dc0 pm0 cd0 ct0 oc1 kV1 dc1 pm1 cd1 ct1 oc2 kV2 dc2 pm2 cd2 ct2 oc3 kV3 dc3 pm3 cd3 ct3 oc4 kV4 dc4 pm4 cd4 ct4 oc5 kV5 dc5 pm5 cd5 ct5 oc6 kV6 dc6 pm6 cd6 ct6 oc7 kV7 dc7 pm7 cd7 ct7 oc8 kV8 dc8 pm8 cd8 ct8 oc9 kV9 dc9 pm9 cd9 ct9 oc10 kV10 dc10 pm10 cd10 ct10 oc11 kV11 dc11 pm11 cd11 ct11 oc12 kV12 dc12 pm12 cd12 ct12 oc13 kV13 dc13 pm13 cd13 ct13 oc14 kV14 dc14 pm14 cd14 ct14 oc15 kV15 dc15 pm15 cd15 ct15 oc16 kV16 dc16 pm16 cd16 ct16 oc17 kV17 dc17 pm17 cd17 ct17 oc18 kV18 dc18 pm18 cd18 ct18 oc19 kV19 dc19 pm19 cd19 ct19 oc20 kV20 dc20 pm20 cd20 ct20 oc21 kV21 dc21 pm21 cd21 ct21 oc22 kV22 dc22 pm22 cd22 ct22 oc23 kV23 dc23 pm23 cd23 ct23 oc24 kV24 dc24 pm24 cd24 ct24 oc25 kV25 dc25 pm25 cd25 ct25 oc26 kV26 dc26 pm26 cd26 ct26 oc27 kV27 dc27 pm27 cd27 ct27 oc28 kV28 dc28 pm28 cd28 ct28 oc29 kV29 dc29 pm29 cd29 ct29 oc30 kV30 dc30 pm30 cd30 ct30 oc31 kV31 dc31 pm31 cd31 ct31 oc32 kV32 dc32 pm32 cd32 ct32 oc33 kV33 dc33 pm33 cd33 ct33 oc34 kV34 dc34 pm34 cd34 ct34 oc35 kV35 dc35 pm35 cd35 ct35 oc36 kV36 dc36 pm36 cd36 ct36 oc37 kV37 dc37 pm37 cd37 ct37 oc38 kV38 dc38 pm38 cd38 ct38 oc39 kV39 dc39 pm39 cd39 ct39 oc40 kV40 dc40 pm40 cd40 ct40 oc41 kV41 dc41 pm41 cd41 ct41 oc42 kV42 dc42 pm42 cd42 ct42 oc43 kV43 dc43 pm43 cd43 ct43 oc44 kV44 dc44 pm44 cd44 ct44 oc45 kV45 dc45 pm45 cd45 ct45 oc46 kV46 dc46 pm46 cd46 ct46 oc47 kV47 dc47 pm47 cd47 ct47 oc48 kV48 dc48 pm48 cd48 ct48 oc49 kV49 dc49 pm49 cd49 ct49 oc50 kV50 dc50 pm50 cd50 ct50 oc51 kV51 dc51 pm51 cd51 ct51 oc52 kV52 dc52 pm52 cd52 ct52 oc53 kV53 dc53 pm53 cd53 ct53 oc54 kV54 dc54 pm54 cd54 ct54 oc55 kV55 dc55 pm55 cd55 ct55 oc56 kV56 dc56 pm56 cd56 ct56 oc57 kV57 dc57 pm57 cd57 ct57 oc58 kV58 dc58 pm58 cd58 ct58 oc59 kV59 dc59 pm59 cd59 ct59 oc60 kV60 dc60 pm60 cd60 ct60 oc61 kV61 dc61 pm61 cd61 ct61 oc62 kV62 dc62 pm62 cd62 ct62 : Value}
  (a0 : PySem.W.nsIn K mainGlobals "plain_dot" = some (some (.ref f0))) (l0 : K.lookup f0 = some ⟨oc0, od0, .func (PySem.W.fnOf "plain_dot" "plain_dot" (defArgs s_plain_dot) (defBody s_plain_dot) (defScope s_plain_dot) .none kV0 dc0 pm0 an0 cd0 ct0), sl0⟩) (c0 : PySem.W.codeIn K cd0 "plain_dot" = true) (k0 : PySem.W.keepIn K (.ref f0) = true)
  (a1 : PySem.W.nsIn K mainGlobals "row_more" = some (some (.ref f1))) (l1 : K.lookup f1 = some ⟨oc1, od1, .func (PySem.W.fnOf "row_more" "row_more" (defArgs s_row_more) (defBody s_row_more) (defScope s_row_more) .none kV1 dc1 pm1 an1 cd1 ct1), sl1⟩) (c1 : PySem.W.codeIn K cd1 "row_more" = true) (k1 : PySem.W.keepIn K (.ref f1) = true)
  (a2 : PySem.W.nsIn K mainGlobals "row_less" = some (some (.ref f2))) (l2 : K.lookup f2 = some ⟨oc2, od2, .func (PySem.W.fnOf "row_less" "row_less" (defArgs s_row_less) (defBody s_row_less) (defScope s_row_less) .none kV2 dc2 pm2 an2 cd2 ct2), sl2⟩) (c2 : PySem.W.codeIn K cd2 "row_less" = true) (k2 : PySem.W.keepIn K (.ref f2) = true)
  (a3 : PySem.W.nsIn K mainGlobals "plain_led" = some (some (.ref f3))) (l3 : K.lookup f3 = some ⟨oc3, od3, .func (PySem.W.fnOf "plain_led" "plain_led" (defArgs s_plain_led) (defBody s_plain_led) (defScope s_plain_led) .none kV3 dc3 pm3 an3 cd3 ct3), sl3⟩) (c3 : PySem.W.codeIn K cd3 "plain_led" = true) (k3 : PySem.W.keepIn K (.ref f3) = true)
  (a4 : PySem.W.nsIn K mainGlobals "plain_grid" = some (some (.ref f4))) (l4 : K.lookup f4 = some ⟨oc4, od4, .func (PySem.W.fnOf "plain_grid" "plain_grid" (defArgs s_plain_grid) (defBody s_plain_grid) (defScope s_plain_grid) .none kV4 dc4 pm4 an4 cd4 ct4), sl4⟩) (c4 : PySem.W.codeIn K cd4 "plain_grid" = true) (k4 : PySem.W.keepIn K (.ref f4) = true)
  (a5 : PySem.W.nsIn K mainGlobals "turned_rows_of" = some (some (.ref f5))) (l5 : K.lookup f5 = some ⟨oc5, od5, .func (PySem.W.fnOf "turned_rows_of" "turned_rows_of" (defArgs s_turned_rows_of) (defBody s_turned_rows_of) (defScope s_turned_rows_of) .none kV5 dc5 pm5 an5 cd5 ct5), sl5⟩) (c5 : PySem.W.codeIn K cd5 "turned_rows_of" = true) (k5 : PySem.W.keepIn K (.ref f5) = true)
  (a6 : PySem.W.nsIn K mainGlobals "plain_turned" = some (some (.ref f6))) (l6 : K.lookup f6 = some ⟨oc6, od6, .func (PySem.W.fnOf "plain_turned" "plain_turned" (defArgs s_plain_turned) (defBody s_plain_turned) (defScope s_plain_turned) .none kV6 dc6 pm6 an6 cd6 ct6), sl6⟩) (c6 : PySem.W.codeIn K cd6 "plain_turned" = true) (k6 : PySem.W.keepIn K (.ref f6) = true)
  (a7 : PySem.W.nsIn K mainGlobals "plain_product" = some (some (.ref f7))) (l7 : K.lookup f7 = some ⟨oc7, od7, .func (PySem.W.fnOf "plain_product" "plain_product" (defArgs s_plain_product) (defBody s_plain_product) (defScope s_plain_product) .none kV7 dc7 pm7 an7 cd7 ct7), sl7⟩) (c7 : PySem.W.codeIn K cd7 "plain_product" = true) (k7 : PySem.W.keepIn K (.ref f7) = true)
  (a8 : PySem.W.nsIn K mainGlobals "plain_difference" = some (some (.ref f8))) (l8 : K.lookup f8 = some ⟨oc8, od8, .func (PySem.W.fnOf "plain_difference" "plain_difference" (defArgs s_plain_difference) (defBody s_plain_difference) (defScope s_plain_difference) .none kV8 dc8 pm8 an8 cd8 ct8), sl8⟩) (c8 : PySem.W.codeIn K cd8 "plain_difference" = true) (k8 : PySem.W.keepIn K (.ref f8) = true)
  (a9 : PySem.W.nsIn K mainGlobals "plain_multiple" = some (some (.ref f9))) (l9 : K.lookup f9 = some ⟨oc9, od9, .func (PySem.W.fnOf "plain_multiple" "plain_multiple" (defArgs s_plain_multiple) (defBody s_plain_multiple) (defScope s_plain_multiple) .none kV9 dc9 pm9 an9 cd9 ct9), sl9⟩) (c9 : PySem.W.codeIn K cd9 "plain_multiple" = true) (k9 : PySem.W.keepIn K (.ref f9) = true)
  (a10 : PySem.W.nsIn K mainGlobals "plain_sum" = some (some (.ref f10))) (l10 : K.lookup f10 = some ⟨oc10, od10, .func (PySem.W.fnOf "plain_sum" "plain_sum" (defArgs s_plain_sum) (defBody s_plain_sum) (defScope s_plain_sum) .none kV10 dc10 pm10 an10 cd10 ct10), sl10⟩) (c10 : PySem.W.codeIn K cd10 "plain_sum" = true) (k10 : PySem.W.keepIn K (.ref f10) = true)
  (a11 : PySem.W.nsIn K mainGlobals "plain_read" = some (some (.ref f11))) (l11 : K.lookup f11 = some ⟨oc11, od11, .func (PySem.W.fnOf "plain_read" "plain_read" (defArgs s_plain_read) (defBody s_plain_read) (defScope s_plain_read) .none kV11 dc11 pm11 an11 cd11 ct11), sl11⟩) (c11 : PySem.W.codeIn K cd11 "plain_read" = true) (k11 : PySem.W.keepIn K (.ref f11) = true)
  (a12 : PySem.W.nsIn K mainGlobals "plain_beside" = some (some (.ref f12))) (l12 : K.lookup f12 = some ⟨oc12, od12, .func (PySem.W.fnOf "plain_beside" "plain_beside" (defArgs s_plain_beside) (defBody s_plain_beside) (defScope s_plain_beside) .none kV12 dc12 pm12 an12 cd12 ct12), sl12⟩) (c12 : PySem.W.codeIn K cd12 "plain_beside" = true) (k12 : PySem.W.keepIn K (.ref f12) = true)
  (a13 : PySem.W.nsIn K mainGlobals "is_long_integer" = some (some (.ref f13))) (l13 : K.lookup f13 = some ⟨oc13, od13, .func (PySem.W.fnOf "is_long_integer" "is_long_integer" (defArgs s_is_long_integer) (defBody s_is_long_integer) (defScope s_is_long_integer) .none kV13 dc13 pm13 an13 cd13 ct13), sl13⟩) (c13 : PySem.W.codeIn K cd13 "is_long_integer" = true) (k13 : PySem.W.keepIn K (.ref f13) = true)
  (a14 : PySem.W.nsIn K mainGlobals "are_long_integers" = some (some (.ref f14))) (l14 : K.lookup f14 = some ⟨oc14, od14, .func (PySem.W.fnOf "are_long_integers" "are_long_integers" (defArgs s_are_long_integers) (defBody s_are_long_integers) (defScope s_are_long_integers) .none kV14 dc14 pm14 an14 cd14 ct14), sl14⟩) (c14 : PySem.W.codeIn K cd14 "are_long_integers" = true) (k14 : PySem.W.keepIn K (.ref f14) = true)
  (a15 : PySem.W.nsIn K mainGlobals "have_integers" = some (some (.ref f15))) (l15 : K.lookup f15 = some ⟨oc15, od15, .func (PySem.W.fnOf "have_integers" "have_integers" (defArgs s_have_integers) (defBody s_have_integers) (defScope s_have_integers) .none kV15 dc15 pm15 an15 cd15 ct15), sl15⟩) (c15 : PySem.W.codeIn K cd15 "have_integers" = true) (k15 : PySem.W.keepIn K (.ref f15) = true)
  (a16 : PySem.W.nsIn K mainGlobals "are_short" = some (some (.ref f16))) (l16 : K.lookup f16 = some ⟨oc16, od16, .func (PySem.W.fnOf "are_short" "are_short" (defArgs s_are_short) (defBody s_are_short) (defScope s_are_short) .none kV16 dc16 pm16 an16 cd16 ct16), sl16⟩) (c16 : PySem.W.codeIn K cd16 "are_short" = true) (k16 : PySem.W.keepIn K (.ref f16) = true)
  (a17 : PySem.W.nsIn K mainGlobals "is_integer" = some (some (.ref f17))) (l17 : K.lookup f17 = some ⟨oc17, od17, .func (PySem.W.fnOf "is_integer" "is_integer" (defArgs s_is_integer) (defBody s_is_integer) (defScope s_is_integer) .none kV17 dc17 pm17 an17 cd17 ct17), sl17⟩) (c17 : PySem.W.codeIn K cd17 "is_integer" = true) (k17 : PySem.W.keepIn K (.ref f17) = true)
  (a18 : PySem.W.nsIn K mainGlobals "is_long_row" = some (some (.ref f18))) (l18 : K.lookup f18 = some ⟨oc18, od18, .func (PySem.W.fnOf "is_long_row" "is_long_row" (defArgs s_is_long_row) (defBody s_is_long_row) (defScope s_is_long_row) .none kV18 dc18 pm18 an18 cd18 ct18), sl18⟩) (c18 : PySem.W.codeIn K cd18 "is_long_row" = true) (k18 : PySem.W.keepIn K (.ref f18) = true)
  (a19 : PySem.W.nsIn K mainGlobals "is_row" = some (some (.ref f19))) (l19 : K.lookup f19 = some ⟨oc19, od19, .func (PySem.W.fnOf "is_row" "is_row" (defArgs s_is_row) (defBody s_is_row) (defScope s_is_row) .none kV19 dc19 pm19 an19 cd19 ct19), sl19⟩) (c19 : PySem.W.codeIn K cd19 "is_row" = true) (k19 : PySem.W.keepIn K (.ref f19) = true)
  (a20 : PySem.W.nsIn K mainGlobals "is_grid_up_to" = some (some (.ref f20))) (l20 : K.lookup f20 = some ⟨oc20, od20, .func (PySem.W.fnOf "is_grid_up_to" "is_grid_up_to" (defArgs s_is_grid_up_to) (defBody s_is_grid_up_to) (defScope s_is_grid_up_to) .none kV20 dc20 pm20 an20 cd20 ct20), sl20⟩) (c20 : PySem.W.codeIn K cd20 "is_grid_up_to" = true) (k20 : PySem.W.keepIn K (.ref f20) = true)
  (a21 : PySem.W.nsIn K mainGlobals "is_long_grid" = some (some (.ref f21))) (l21 : K.lookup f21 = some ⟨oc21, od21, .func (PySem.W.fnOf "is_long_grid" "is_long_grid" (defArgs s_is_long_grid) (defBody s_is_long_grid) (defScope s_is_long_grid) .none kV21 dc21 pm21 an21 cd21 ct21), sl21⟩) (c21 : PySem.W.codeIn K cd21 "is_long_grid" = true) (k21 : PySem.W.keepIn K (.ref f21) = true)
  (a22 : PySem.W.nsIn K mainGlobals "is_grid" = some (some (.ref f22))) (l22 : K.lookup f22 = some ⟨oc22, od22, .func (PySem.W.fnOf "is_grid" "is_grid" (defArgs s_is_grid) (defBody s_is_grid) (defScope s_is_grid) .none kV22 dc22 pm22 an22 cd22 ct22), sl22⟩) (c22 : PySem.W.codeIn K cd22 "is_grid" = true) (k22 : PySem.W.keepIn K (.ref f22) = true)
  (a23 : PySem.W.nsIn K mainGlobals "check_row" = some (some (.ref f23))) (l23 : K.lookup f23 = some ⟨oc23, od23, .func (PySem.W.fnOf "check_row" "check_row" (defArgs s_check_row) (defBody s_check_row) (defScope s_check_row) .none kV23 dc23 pm23 an23 cd23 ct23), sl23⟩) (c23 : PySem.W.codeIn K cd23 "check_row" = true) (k23 : PySem.W.keepIn K (.ref f23) = true)
  (a24 : PySem.W.nsIn K mainGlobals "check_grid" = some (some (.ref f24))) (l24 : K.lookup f24 = some ⟨oc24, od24, .func (PySem.W.fnOf "check_grid" "check_grid" (defArgs s_check_grid) (defBody s_check_grid) (defScope s_check_grid) .none kV24 dc24 pm24 an24 cd24 ct24), sl24⟩) (c24 : PySem.W.codeIn K cd24 "check_grid" = true) (k24 : PySem.W.keepIn K (.ref f24) = true)
  (a25 : PySem.W.nsIn K mainGlobals "check_grids" = some (some (.ref f25))) (l25 : K.lookup f25 = some ⟨oc25, od25, .func (PySem.W.fnOf "check_grids" "check_grids" (defArgs s_check_grids) (defBody s_check_grids) (defScope s_check_grids) .none kV25 dc25 pm25 an25 cd25 ct25), sl25⟩) (c25 : PySem.W.codeIn K cd25 "check_grids" = true) (k25 : PySem.W.keepIn K (.ref f25) = true)
  (a26 : PySem.W.nsIn K mainGlobals "check_integer" = some (some (.ref f26))) (l26 : K.lookup f26 = some ⟨oc26, od26, .func (PySem.W.fnOf "check_integer" "check_integer" (defArgs s_check_integer) (defBody s_check_integer) (defScope s_check_integer) .none kV26 dc26 pm26 an26 cd26 ct26), sl26⟩) (c26 : PySem.W.codeIn K cd26 "check_integer" = true) (k26 : PySem.W.keepIn K (.ref f26) = true)
  (a27 : PySem.W.nsIn K mainGlobals "check_fit" = some (some (.ref f27))) (l27 : K.lookup f27 = some ⟨oc27, od27, .func (PySem.W.fnOf "check_fit" "check_fit" (defArgs s_check_fit) (defBody s_check_fit) (defScope s_check_fit) .none kV27 dc27 pm27 an27 cd27 ct27), sl27⟩) (c27 : PySem.W.codeIn K cd27 "check_fit" = true) (k27 : PySem.W.keepIn K (.ref f27) = true)
  (a28 : PySem.W.nsIn K mainGlobals "check_rows" = some (some (.ref f28))) (l28 : K.lookup f28 = some ⟨oc28, od28, .func (PySem.W.fnOf "check_rows" "check_rows" (defArgs s_check_rows) (defBody s_check_rows) (defScope s_check_rows) .none kV28 dc28 pm28 an28 cd28 ct28), sl28⟩) (c28 : PySem.W.codeIn K cd28 "check_rows" = true) (k28 : PySem.W.keepIn K (.ref f28) = true)
  (a29 : PySem.W.nsIn K mainGlobals "dot" = some (some (.ref f29))) (l29 : K.lookup f29 = some ⟨oc29, od29, .func (PySem.W.fnOf "dot" "dot" (defArgs s_dot) (defBody s_dot) (defScope s_dot) .none kV29 dc29 pm29 an29 cd29 ct29), sl29⟩) (c29 : PySem.W.codeIn K cd29 "dot" = true) (k29 : PySem.W.keepIn K (.ref f29) = true)
  (a30 : PySem.W.nsIn K mainGlobals "row_sum" = some (some (.ref f30))) (l30 : K.lookup f30 = some ⟨oc30, od30, .func (PySem.W.fnOf "row_sum" "row_sum" (defArgs s_row_sum) (defBody s_row_sum) (defScope s_row_sum) .none kV30 dc30 pm30 an30 cd30 ct30), sl30⟩) (c30 : PySem.W.codeIn K cd30 "row_sum" = true) (k30 : PySem.W.keepIn K (.ref f30) = true)
  (a31 : PySem.W.nsIn K mainGlobals "row_difference" = some (some (.ref f31))) (l31 : K.lookup f31 = some ⟨oc31, od31, .func (PySem.W.fnOf "row_difference" "row_difference" (defArgs s_row_difference) (defBody s_row_difference) (defScope s_row_difference) .none kV31 dc31 pm31 an31 cd31 ct31), sl31⟩) (c31 : PySem.W.codeIn K cd31 "row_difference" = true) (k31 : PySem.W.keepIn K (.ref f31) = true)
  (a32 : PySem.W.nsIn K mainGlobals "row_multiple" = some (some (.ref f32))) (l32 : K.lookup f32 = some ⟨oc32, od32, .func (PySem.W.fnOf "row_multiple" "row_multiple" (defArgs s_row_multiple) (defBody s_row_multiple) (defScope s_row_multiple) .none kV32 dc32 pm32 an32 cd32 ct32), sl32⟩) (c32 : PySem.W.codeIn K cd32 "row_multiple" = true) (k32 : PySem.W.keepIn K (.ref f32) = true)
  (a33 : PySem.W.nsIn K mainGlobals "turned" = some (some (.ref f33))) (l33 : K.lookup f33 = some ⟨oc33, od33, .func (PySem.W.fnOf "turned" "turned" (defArgs s_turned) (defBody s_turned) (defScope s_turned) .none kV33 dc33 pm33 an33 cd33 ct33), sl33⟩) (c33 : PySem.W.codeIn K cd33 "turned" = true) (k33 : PySem.W.keepIn K (.ref f33) = true)
  (a34 : PySem.W.nsIn K mainGlobals "grid_multiple" = some (some (.ref f34))) (l34 : K.lookup f34 = some ⟨oc34, od34, .func (PySem.W.fnOf "grid_multiple" "grid_multiple" (defArgs s_grid_multiple) (defBody s_grid_multiple) (defScope s_grid_multiple) .none kV34 dc34 pm34 an34 cd34 ct34), sl34⟩) (c34 : PySem.W.codeIn K cd34 "grid_multiple" = true) (k34 : PySem.W.keepIn K (.ref f34) = true)
  (a35 : PySem.W.nsIn K mainGlobals "check_like" = some (some (.ref f35))) (l35 : K.lookup f35 = some ⟨oc35, od35, .func (PySem.W.fnOf "check_like" "check_like" (defArgs s_check_like) (defBody s_check_like) (defScope s_check_like) .none kV35 dc35 pm35 an35 cd35 ct35), sl35⟩) (c35 : PySem.W.codeIn K cd35 "check_like" = true) (k35 : PySem.W.keepIn K (.ref f35) = true)
  (a36 : PySem.W.nsIn K mainGlobals "grid_sum" = some (some (.ref f36))) (l36 : K.lookup f36 = some ⟨oc36, od36, .func (PySem.W.fnOf "grid_sum" "grid_sum" (defArgs s_grid_sum) (defBody s_grid_sum) (defScope s_grid_sum) .none kV36 dc36 pm36 an36 cd36 ct36), sl36⟩) (c36 : PySem.W.codeIn K cd36 "grid_sum" = true) (k36 : PySem.W.keepIn K (.ref f36) = true)
  (a37 : PySem.W.nsIn K mainGlobals "grid_difference" = some (some (.ref f37))) (l37 : K.lookup f37 = some ⟨oc37, od37, .func (PySem.W.fnOf "grid_difference" "grid_difference" (defArgs s_grid_difference) (defBody s_grid_difference) (defScope s_grid_difference) .none kV37 dc37 pm37 an37 cd37 ct37), sl37⟩) (c37 : PySem.W.codeIn K cd37 "grid_difference" = true) (k37 : PySem.W.keepIn K (.ref f37) = true)
  (a38 : PySem.W.nsIn K mainGlobals "grid_product" = some (some (.ref f38))) (l38 : K.lookup f38 = some ⟨oc38, od38, .func (PySem.W.fnOf "grid_product" "grid_product" (defArgs s_grid_product) (defBody s_grid_product) (defScope s_grid_product) .none kV38 dc38 pm38 an38 cd38 ct38), sl38⟩) (c38 : PySem.W.codeIn K cd38 "grid_product" = true) (k38 : PySem.W.keepIn K (.ref f38) = true)
  (a39 : PySem.W.nsIn K mainGlobals "check_most" = some (some (.ref f39))) (l39 : K.lookup f39 = some ⟨oc39, od39, .func (PySem.W.fnOf "check_most" "check_most" (defArgs s_check_most) (defBody s_check_most) (defScope s_check_most) .none kV39 dc39 pm39 an39 cd39 ct39), sl39⟩) (c39 : PySem.W.codeIn K cd39 "check_most" = true) (k39 : PySem.W.keepIn K (.ref f39) = true)
  (a40 : PySem.W.nsIn K mainGlobals "beside" = some (some (.ref f40))) (l40 : K.lookup f40 = some ⟨oc40, od40, .func (PySem.W.fnOf "beside" "beside" (defArgs s_beside) (defBody s_beside) (defScope s_beside) .none kV40 dc40 pm40 an40 cd40 ct40), sl40⟩) (c40 : PySem.W.codeIn K cd40 "beside" = true) (k40 : PySem.W.keepIn K (.ref f40) = true)
  (a41 : PySem.W.nsIn K mainGlobals "over" = some (some (.ref f41))) (l41 : K.lookup f41 = some ⟨oc41, od41, .func (PySem.W.fnOf "over" "over" (defArgs s_over) (defBody s_over) (defScope s_over) .none kV41 dc41 pm41 an41 cd41 ct41), sl41⟩) (c41 : PySem.W.codeIn K cd41 "over" = true) (k41 : PySem.W.keepIn K (.ref f41) = true)
  (a42 : PySem.W.nsIn K mainGlobals "led" = some (some (.ref f42))) (l42 : K.lookup f42 = some ⟨oc42, od42, .func (PySem.W.fnOf "led" "led" (defArgs s_led) (defBody s_led) (defScope s_led) .none kV42 dc42 pm42 an42 cd42 ct42), sl42⟩) (c42 : PySem.W.codeIn K cd42 "led" = true) (k42 : PySem.W.keepIn K (.ref f42) = true)
  (a43 : PySem.W.nsIn K mainGlobals "read_by" = some (some (.ref f43))) (l43 : K.lookup f43 = some ⟨oc43, od43, .func (PySem.W.fnOf "read_by" "read_by" (defArgs s_read_by) (defBody s_read_by) (defScope s_read_by) .none kV43 dc43 pm43 an43 cd43 ct43), sl43⟩) (c43 : PySem.W.codeIn K cd43 "read_by" = true) (k43 : PySem.W.keepIn K (.ref f43) = true)
  (a44 : PySem.W.nsIn K mainGlobals "_law_hat" = some (some (.ref f44))) (l44 : K.lookup f44 = some ⟨oc44, od44, .func (PySem.W.fnOf "_law_hat" "_law_hat" (defArgs s_law_hat) (defBody s_law_hat) (defScope s_law_hat) .none kV44 dc44 pm44 an44 cd44 ct44), sl44⟩) (c44 : PySem.W.codeIn K cd44 "_law_hat" = true) (k44 : PySem.W.keepIn K (.ref f44) = true)
  (a45 : PySem.W.nsIn K mainGlobals "_law_up_to" = some (some (.ref f45))) (l45 : K.lookup f45 = some ⟨oc45, od45, .func (PySem.W.fnOf "_law_up_to" "_law_up_to" (defArgs s_law_up_to) (defBody s_law_up_to) (defScope s_law_up_to) .none kV45 dc45 pm45 an45 cd45 ct45), sl45⟩) (c45 : PySem.W.codeIn K cd45 "_law_up_to" = true) (k45 : PySem.W.keepIn K (.ref f45) = true)
  (a46 : PySem.W.nsIn K mainGlobals "_law_out_of" = some (some (.ref f46))) (l46 : K.lookup f46 = some ⟨oc46, od46, .func (PySem.W.fnOf "_law_out_of" "_law_out_of" (defArgs s_law_out_of) (defBody s_law_out_of) (defScope s_law_out_of) .none kV46 dc46 pm46 an46 cd46 ct46), sl46⟩) (c46 : PySem.W.codeIn K cd46 "_law_out_of" = true) (k46 : PySem.W.keepIn K (.ref f46) = true)
  (a47 : PySem.W.nsIn K mainGlobals "_law_number" = some (some (.ref f47))) (l47 : K.lookup f47 = some ⟨oc47, od47, .func (PySem.W.fnOf "_law_number" "_law_number" (defArgs s_law_number) (defBody s_law_number) (defScope s_law_number) .none kV47 dc47 pm47 an47 cd47 ct47), sl47⟩) (c47 : PySem.W.codeIn K cd47 "_law_number" = true) (k47 : PySem.W.keepIn K (.ref f47) = true)
  (a48 : PySem.W.nsIn K mainGlobals "_law_row" = some (some (.ref f48))) (l48 : K.lookup f48 = some ⟨oc48, od48, .func (PySem.W.fnOf "_law_row" "_law_row" (defArgs s_law_row) (defBody s_law_row) (defScope s_law_row) .none kV48 dc48 pm48 an48 cd48 ct48), sl48⟩) (c48 : PySem.W.codeIn K cd48 "_law_row" = true) (k48 : PySem.W.keepIn K (.ref f48) = true)
  (a49 : PySem.W.nsIn K mainGlobals "_law_dot" = some (some (.ref f49))) (l49 : K.lookup f49 = some ⟨oc49, od49, .func (PySem.W.fnOf "_law_dot" "_law_dot" (defArgs s_law_dot) (defBody s_law_dot) (defScope s_law_dot) .none kV49 dc49 pm49 an49 cd49 ct49), sl49⟩) (c49 : PySem.W.codeIn K cd49 "_law_dot" = true) (k49 : PySem.W.keepIn K (.ref f49) = true)
  (a50 : PySem.W.nsIn K mainGlobals "_law_lead" = some (some (.ref f50))) (l50 : K.lookup f50 = some ⟨oc50, od50, .func (PySem.W.fnOf "_law_lead" "_law_lead" (defArgs s_law_lead) (defBody s_law_lead) (defScope s_law_lead) .none kV50 dc50 pm50 an50 cd50 ct50), sl50⟩) (c50 : PySem.W.codeIn K cd50 "_law_lead" = true) (k50 : PySem.W.keepIn K (.ref f50) = true)
  (a51 : PySem.W.nsIn K mainGlobals "_law_turn" = some (some (.ref f51))) (l51 : K.lookup f51 = some ⟨oc51, od51, .func (PySem.W.fnOf "_law_turn" "_law_turn" (defArgs s_law_turn) (defBody s_law_turn) (defScope s_law_turn) .none kV51 dc51 pm51 an51 cd51 ct51), sl51⟩) (c51 : PySem.W.codeIn K cd51 "_law_turn" = true) (k51 : PySem.W.keepIn K (.ref f51) = true)
  (a52 : PySem.W.nsIn K mainGlobals "_law_times" = some (some (.ref f52))) (l52 : K.lookup f52 = some ⟨oc52, od52, .func (PySem.W.fnOf "_law_times" "_law_times" (defArgs s_law_times) (defBody s_law_times) (defScope s_law_times) .none kV52 dc52 pm52 an52 cd52 ct52), sl52⟩) (c52 : PySem.W.codeIn K cd52 "_law_times" = true) (k52 : PySem.W.keepIn K (.ref f52) = true)
  (a53 : PySem.W.nsIn K mainGlobals "_law_unit" = some (some (.ref f53))) (l53 : K.lookup f53 = some ⟨oc53, od53, .func (PySem.W.fnOf "_law_unit" "_law_unit" (defArgs s_law_unit) (defBody s_law_unit) (defScope s_law_unit) .none kV53 dc53 pm53 an53 cd53 ct53), sl53⟩) (c53 : PySem.W.codeIn K cd53 "_law_unit" = true) (k53 : PySem.W.keepIn K (.ref f53) = true)
  (a54 : PySem.W.nsIn K mainGlobals "_law_jg_entry" = some (some (.ref f54))) (l54 : K.lookup f54 = some ⟨oc54, od54, .func (PySem.W.fnOf "_law_jg_entry" "_law_jg_entry" (defArgs s_law_jg_entry) (defBody s_law_jg_entry) (defScope s_law_jg_entry) .none kV54 dc54 pm54 an54 cd54 ct54), sl54⟩) (c54 : PySem.W.codeIn K cd54 "_law_jg_entry" = true) (k54 : PySem.W.keepIn K (.ref f54) = true)
  (a55 : PySem.W.nsIn K mainGlobals "_law_jg_wide" = some (some (.ref f55))) (l55 : K.lookup f55 = some ⟨oc55, od55, .func (PySem.W.fnOf "_law_jg_wide" "_law_jg_wide" (defArgs s_law_jg_wide) (defBody s_law_jg_wide) (defScope s_law_jg_wide) .none kV55 dc55 pm55 an55 cd55 ct55), sl55⟩) (c55 : PySem.W.codeIn K cd55 "_law_jg_wide" = true) (k55 : PySem.W.keepIn K (.ref f55) = true)
  (a56 : PySem.W.nsIn K mainGlobals "_law_jg_grid" = some (some (.ref f56))) (l56 : K.lookup f56 = some ⟨oc56, od56, .func (PySem.W.fnOf "_law_jg_grid" "_law_jg_grid" (defArgs s_law_jg_grid) (defBody s_law_jg_grid) (defScope s_law_jg_grid) .none kV56 dc56 pm56 an56 cd56 ct56), sl56⟩) (c56 : PySem.W.codeIn K cd56 "_law_jg_grid" = true) (k56 : PySem.W.keepIn K (.ref f56) = true)
  (a57 : PySem.W.nsIn K mainGlobals "_law_jg_plus" = some (some (.ref f57))) (l57 : K.lookup f57 = some ⟨oc57, od57, .func (PySem.W.fnOf "_law_jg_plus" "_law_jg_plus" (defArgs s_law_jg_plus) (defBody s_law_jg_plus) (defScope s_law_jg_plus) .none kV57 dc57 pm57 an57 cd57 ct57), sl57⟩) (c57 : PySem.W.codeIn K cd57 "_law_jg_plus" = true) (k57 : PySem.W.keepIn K (.ref f57) = true)
  (a58 : PySem.W.nsIn K mainGlobals "_law_jg_scaled" = some (some (.ref f58))) (l58 : K.lookup f58 = some ⟨oc58, od58, .func (PySem.W.fnOf "_law_jg_scaled" "_law_jg_scaled" (defArgs s_law_jg_scaled) (defBody s_law_jg_scaled) (defScope s_law_jg_scaled) .none kV58 dc58 pm58 an58 cd58 ct58), sl58⟩) (c58 : PySem.W.codeIn K cd58 "_law_jg_scaled" = true) (k58 : PySem.W.keepIn K (.ref f58) = true)
  (a59 : PySem.W.nsIn K mainGlobals "_law_jg_beside" = some (some (.ref f59))) (l59 : K.lookup f59 = some ⟨oc59, od59, .func (PySem.W.fnOf "_law_jg_beside" "_law_jg_beside" (defArgs s_law_jg_beside) (defBody s_law_jg_beside) (defScope s_law_jg_beside) .none kV59 dc59 pm59 an59 cd59 ct59), sl59⟩) (c59 : PySem.W.codeIn K cd59 "_law_jg_beside" = true) (k59 : PySem.W.keepIn K (.ref f59) = true)
  (a60 : PySem.W.nsIn K mainGlobals "_law_plain_right" = some (some (.ref f60))) (l60 : K.lookup f60 = some ⟨oc60, od60, .func (PySem.W.fnOf "_law_plain_right" "_law_plain_right" (defArgs s_law_plain_right) (defBody s_law_plain_right) (defScope s_law_plain_right) .none kV60 dc60 pm60 an60 cd60 ct60), sl60⟩) (c60 : PySem.W.codeIn K cd60 "_law_plain_right" = true) (k60 : PySem.W.keepIn K (.ref f60) = true)
  (a61 : PySem.W.nsIn K mainGlobals "_law_grouped_right" = some (some (.ref f61))) (l61 : K.lookup f61 = some ⟨oc61, od61, .func (PySem.W.fnOf "_law_grouped_right" "_law_grouped_right" (defArgs s_law_grouped_right) (defBody s_law_grouped_right) (defScope s_law_grouped_right) .none kV61 dc61 pm61 an61 cd61 ct61), sl61⟩) (c61 : PySem.W.codeIn K cd61 "_law_grouped_right" = true) (k61 : PySem.W.keepIn K (.ref f61) = true)
  (a62 : PySem.W.nsIn K mainGlobals "law" = some (some (.ref f62))) (l62 : K.lookup f62 = some ⟨oc62, od62, .func (PySem.W.fnOf "law" "law" (defArgs s_law) (defBody s_law) (defScope s_law) .none kV62 dc62 pm62 an62 cd62 ct62), sl62⟩) (c62 : PySem.W.codeIn K cd62 "law" = true) (k62 : PySem.W.keepIn K (.ref f62) = true)
  {t_MAX_SIZE : Tok} (g_MAX_SIZE : PySem.W.nsIn K mainGlobals "MAX_SIZE" = some (some (.int 60 t_MAX_SIZE)))
  {t_TOO_LONG : Tok} (g_TOO_LONG : PySem.W.nsIn K mainGlobals "TOO_LONG" = some (some (.int 1000000000000 t_TOO_LONG)))
  (z_abs : PySem.W.nsIn K mainGlobals "abs" = some none)
  (z_all : PySem.W.nsIn K mainGlobals "all" = some none)
  (z_int : PySem.W.nsIn K mainGlobals "int" = some none)
  (z_isinstance : PySem.W.nsIn K mainGlobals "isinstance" = some none)
  (z_len : PySem.W.nsIn K mainGlobals "len" = some none)
  (z_list : PySem.W.nsIn K mainGlobals "list" = some none)
  (z_max : PySem.W.nsIn K mainGlobals "max" = some none)
  (z_min : PySem.W.nsIn K mainGlobals "min" = some none)
  (z_range : PySem.W.nsIn K mainGlobals "range" = some none)
  (z_sum : PySem.W.nsIn K mainGlobals "sum" = some none)
  (z_tuple : PySem.W.nsIn K mainGlobals "tuple" = some none)
  (z_zip : PySem.W.nsIn K mainGlobals "zip" = some none)
  : ∃ fd : FuncData, (∀ (s : Shared) (v : Value), BindsTo s fd ⟨[v], []⟩ [("script", v)]) ∧ ∀ base : Heap, K.In base → base.Ns mainGlobals mg → FnOk l.prog w K mg base CX0 10 fa fd ["script"] (sp_law K) := by
  have e := hfa.symm.trans (PySem.W.mg_of X G a62)
  cases e
  have F0 := fun_mk (st := s_plain_dot) l0 c0 k0
  have b0 := F0.binds (ps := ["one", "other"]) fun _ _ _ _ _ _ us hl => match us, hl with | [_, _], _ => rfl
  have F1 := fun_mk (st := s_row_more) l1 c1 k1
  have b1 := F1.binds (ps := ["one", "other"]) fun _ _ _ _ _ _ us hl => match us, hl with | [_, _], _ => rfl
  have F2 := fun_mk (st := s_row_less) l2 c2 k2
  have b2 := F2.binds (ps := ["one", "other"]) fun _ _ _ _ _ _ us hl => match us, hl with | [_, _], _ => rfl
  have F3 := fun_mk (st := s_plain_led) l3 c3 k3
  have b3 := F3.binds (ps := ["grid", "row"]) fun _ _ _ _ _ _ us hl => match us, hl with | [_, _], _ => rfl
  have F4 := fun_mk (st := s_plain_grid) l4 c4 k4
  have b4 := F4.binds (ps := ["rows", "width"]) fun _ _ _ _ _ _ us hl => match us, hl with | [_, _], _ => rfl
  have F5 := fun_mk (st := s_turned_rows_of) l5 c5 k5
  have b5 := F5.binds (ps := ["rows", "width"]) fun _ _ _ _ _ _ us hl => match us, hl with | [_, _], _ => rfl
  have F6 := fun_mk (st := s_plain_turned) l6 c6 k6
  have b6 := F6.binds (ps := ["grid"]) fun _ _ _ _ _ _ us hl => match us, hl with | [_], _ => rfl
  have F7 := fun_mk (st := s_plain_product) l7 c7 k7
  have b7 := F7.binds (ps := ["one", "other"]) fun _ _ _ _ _ _ us hl => match us, hl with | [_, _], _ => rfl
  have F8 := fun_mk (st := s_plain_difference) l8 c8 k8
  have b8 := F8.binds (ps := ["one", "other"]) fun _ _ _ _ _ _ us hl => match us, hl with | [_, _], _ => rfl
  have F9 := fun_mk (st := s_plain_multiple) l9 c9 k9
  have b9 := F9.binds (ps := ["grid", "number"]) fun _ _ _ _ _ _ us hl => match us, hl with | [_, _], _ => rfl
  have F10 := fun_mk (st := s_plain_sum) l10 c10 k10
  have b10 := F10.binds (ps := ["one", "other"]) fun _ _ _ _ _ _ us hl => match us, hl with | [_, _], _ => rfl
  have F11 := fun_mk (st := s_plain_read) l11 c11 k11
  have b11 := F11.binds (ps := ["row", "grid"]) fun _ _ _ _ _ _ us hl => match us, hl with | [_, _], _ => rfl
  have F12 := fun_mk (st := s_plain_beside) l12 c12 k12
  have b12 := F12.binds (ps := ["one", "other"]) fun _ _ _ _ _ _ us hl => match us, hl with | [_, _], _ => rfl
  have F13 := fun_mk (st := s_is_long_integer) l13 c13 k13
  have b13 := F13.binds (ps := ["value"]) fun _ _ _ _ _ _ us hl => match us, hl with | [_], _ => rfl
  have F14 := fun_mk (st := s_are_long_integers) l14 c14 k14
  have b14 := F14.binds (ps := ["values"]) fun _ _ _ _ _ _ us hl => match us, hl with | [_], _ => rfl
  have F15 := fun_mk (st := s_have_integers) l15 c15 k15
  have b15 := F15.binds (ps := ["rows"]) fun _ _ _ _ _ _ us hl => match us, hl with | [_], _ => rfl
  have F16 := fun_mk (st := s_are_short) l16 c16 k16
  have b16 := F16.binds (ps := ["numbers"]) fun _ _ _ _ _ _ us hl => match us, hl with | [_], _ => rfl
  have F17 := fun_mk (st := s_is_integer) l17 c17 k17
  have b17 := F17.binds (ps := ["value"]) fun _ _ _ _ _ _ us hl => match us, hl with | [_], _ => rfl
  have F18 := fun_mk (st := s_is_long_row) l18 c18 k18
  have b18 := F18.binds (ps := ["value"]) fun _ _ _ _ _ _ us hl => match us, hl with | [_], _ => rfl
  have F19 := fun_mk (st := s_is_row) l19 c19 k19
  have b19 := F19.binds (ps := ["value"]) fun _ _ _ _ _ _ us hl => match us, hl with | [_], _ => rfl
  have F20 := fun_mk (st := s_is_grid_up_to) l20 c20 k20
  have b20 := F20.binds (ps := ["value", "most"]) fun _ _ _ _ _ _ us hl => match us, hl with | [_, _], _ => rfl
  have F21 := fun_mk (st := s_is_long_grid) l21 c21 k21
  have b21 := F21.binds (ps := ["value"]) fun _ _ _ _ _ _ us hl => match us, hl with | [_], _ => rfl
  have F22 := fun_mk (st := s_is_grid) l22 c22 k22
  have b22 := F22.binds (ps := ["value"]) fun _ _ _ _ _ _ us hl => match us, hl with | [_], _ => rfl
  have F23 := fun_mk (st := s_check_row) l23 c23 k23
  have b23 := F23.binds (ps := ["value"]) fun _ _ _ _ _ _ us hl => match us, hl with | [_], _ => rfl
  have F24 := fun_mk (st := s_check_grid) l24 c24 k24
  have b24 := F24.binds (ps := ["value"]) fun _ _ _ _ _ _ us hl => match us, hl with | [_], _ => rfl
  have F25 := fun_mk (st := s_check_grids) l25 c25 k25
  have b25 := F25.binds (ps := ["one", "other"]) fun _ _ _ _ _ _ us hl => match us, hl with | [_, _], _ => rfl
  have F26 := fun_mk (st := s_check_integer) l26 c26 k26
  have b26 := F26.binds (ps := ["value"]) fun _ _ _ _ _ _ us hl => match us, hl with | [_], _ => rfl
  have F27 := fun_mk (st := s_check_fit) l27 c27 k27
  have b27 := F27.binds (ps := ["fits", "reason"]) fun _ _ _ _ _ _ us hl => match us, hl with | [_, _], _ => rfl
  have F28 := fun_mk (st := s_check_rows) l28 c28 k28
  have b28 := F28.binds (ps := ["one", "other"]) fun _ _ _ _ _ _ us hl => match us, hl with | [_, _], _ => rfl
  have F29 := fun_mk (st := s_dot) l29 c29 k29
  have b29 := F29.binds (ps := ["one", "other"]) fun _ _ _ _ _ _ us hl => match us, hl with | [_, _], _ => rfl
  have F30 := fun_mk (st := s_row_sum) l30 c30 k30
  have b30 := F30.binds (ps := ["one", "other"]) fun _ _ _ _ _ _ us hl => match us, hl with | [_, _], _ => rfl
  have F31 := fun_mk (st := s_row_difference) l31 c31 k31
  have b31 := F31.binds (ps := ["one", "other"]) fun _ _ _ _ _ _ us hl => match us, hl with | [_, _], _ => rfl
  have F32 := fun_mk (st := s_row_multiple) l32 c32 k32
  have b32 := F32.binds (ps := ["row", "number"]) fun _ _ _ _ _ _ us hl => match us, hl with | [_, _], _ => rfl
  have F33 := fun_mk (st := s_turned) l33 c33 k33
  have b33 := F33.binds (ps := ["grid"]) fun _ _ _ _ _ _ us hl => match us, hl with | [_], _ => rfl
  have F34 := fun_mk (st := s_grid_multiple) l34 c34 k34
  have b34 := F34.binds (ps := ["grid", "number"]) fun _ _ _ _ _ _ us hl => match us, hl with | [_, _], _ => rfl
  have F35 := fun_mk (st := s_check_like) l35 c35 k35
  have b35 := F35.binds (ps := ["one", "other"]) fun _ _ _ _ _ _ us hl => match us, hl with | [_, _], _ => rfl
  have F36 := fun_mk (st := s_grid_sum) l36 c36 k36
  have b36 := F36.binds (ps := ["one", "other"]) fun _ _ _ _ _ _ us hl => match us, hl with | [_, _], _ => rfl
  have F37 := fun_mk (st := s_grid_difference) l37 c37 k37
  have b37 := F37.binds (ps := ["one", "other"]) fun _ _ _ _ _ _ us hl => match us, hl with | [_, _], _ => rfl
  have F38 := fun_mk (st := s_grid_product) l38 c38 k38
  have b38 := F38.binds (ps := ["one", "other"]) fun _ _ _ _ _ _ us hl => match us, hl with | [_, _], _ => rfl
  have F39 := fun_mk (st := s_check_most) l39 c39 k39
  have b39 := F39.binds (ps := ["size"]) fun _ _ _ _ _ _ us hl => match us, hl with | [_], _ => rfl
  have F40 := fun_mk (st := s_beside) l40 c40 k40
  have b40 := F40.binds (ps := ["one", "other"]) fun _ _ _ _ _ _ us hl => match us, hl with | [_, _], _ => rfl
  have F41 := fun_mk (st := s_over) l41 c41 k41
  have b41 := F41.binds (ps := ["one", "other"]) fun _ _ _ _ _ _ us hl => match us, hl with | [_, _], _ => rfl
  have F42 := fun_mk (st := s_led) l42 c42 k42
  have b42 := F42.binds (ps := ["grid", "row"]) fun _ _ _ _ _ _ us hl => match us, hl with | [_, _], _ => rfl
  have F43 := fun_mk (st := s_read_by) l43 c43 k43
  have b43 := F43.binds (ps := ["row", "grid"]) fun _ _ _ _ _ _ us hl => match us, hl with | [_, _], _ => rfl
  have F44 := fun_mk (st := s_law_hat) l44 c44 k44
  have b44 := F44.binds (ps := ["script", "spot"]) fun _ _ _ _ _ _ us hl => match us, hl with | [_, _], _ => rfl
  have F45 := fun_mk (st := s_law_up_to) l45 c45 k45
  have b45 := F45.binds (ps := ["hat", "total"]) fun _ _ _ _ _ _ us hl => match us, hl with | [_, _], _ => rfl
  have F46 := fun_mk (st := s_law_out_of) l46 c46 k46
  have b46 := F46.binds (ps := ["hat", "items"]) fun _ _ _ _ _ _ us hl => match us, hl with | [_, _], _ => rfl
  have F47 := fun_mk (st := s_law_number) l47 c47 k47
  have b47 := F47.binds (ps := ["hat"]) fun _ _ _ _ _ _ us hl => match us, hl with | [_], _ => rfl
  have F48 := fun_mk (st := s_law_row) l48 c48 k48
  have b48 := F48.binds (ps := ["hat", "many"]) fun _ _ _ _ _ _ us hl => match us, hl with | [_, _], _ => rfl
  have F49 := fun_mk (st := s_law_dot) l49 c49 k49
  have b49 := F49.binds (ps := ["one", "other"]) fun _ _ _ _ _ _ us hl => match us, hl with | [_, _], _ => rfl
  have F50 := fun_mk (st := s_law_lead) l50 c50 k50
  have b50 := F50.binds (ps := ["grid", "row"]) fun _ _ _ _ _ _ us hl => match us, hl with | [_, _], _ => rfl
  have F51 := fun_mk (st := s_law_turn) l51 c51 k51
  have b51 := F51.binds (ps := ["grid"]) fun _ _ _ _ _ _ us hl => match us, hl with | [_], _ => rfl
  have F52 := fun_mk (st := s_law_times) l52 c52 k52
  have b52 := F52.binds (ps := ["one", "other"]) fun _ _ _ _ _ _ us hl => match us, hl with | [_, _], _ => rfl
  have F53 := fun_mk (st := s_law_unit) l53 c53 k53
  have b53 := F53.binds (ps := ["size"]) fun _ _ _ _ _ _ us hl => match us, hl with | [_], _ => rfl
  have F54 := fun_mk (st := s_law_jg_entry) l54 c54 k54
  have b54 := F54.binds (ps := ["hat"]) fun _ _ _ _ _ _ us hl => match us, hl with | [_], _ => rfl
  have F55 := fun_mk (st := s_law_jg_wide) l55 c55 k55
  have b55 := F55.binds (ps := ["hat", "height", "width"]) fun _ _ _ _ _ _ us hl => match us, hl with | [_, _, _], _ => rfl
  have F56 := fun_mk (st := s_law_jg_grid) l56 c56 k56
  have b56 := F56.binds (ps := ["hat", "height", "width"]) fun _ _ _ _ _ _ us hl => match us, hl with | [_, _, _], _ => rfl
  have F57 := fun_mk (st := s_law_jg_plus) l57 c57 k57
  have b57 := F57.binds (ps := ["one", "other"]) fun _ _ _ _ _ _ us hl => match us, hl with | [_, _], _ => rfl
  have F58 := fun_mk (st := s_law_jg_scaled) l58 c58 k58
  have b58 := F58.binds (ps := ["grid", "number"]) fun _ _ _ _ _ _ us hl => match us, hl with | [_, _], _ => rfl
  have F59 := fun_mk (st := s_law_jg_beside) l59 c59 k59
  have b59 := F59.binds (ps := ["one", "other"]) fun _ _ _ _ _ _ us hl => match us, hl with | [_, _], _ => rfl
  have F60 := fun_mk (st := s_law_plain_right) l60 c60 k60
  have b60 := F60.binds (ps := ["hat"]) fun _ _ _ _ _ _ us hl => match us, hl with | [_], _ => rfl
  have F61 := fun_mk (st := s_law_grouped_right) l61 c61 k61
  have b61 := F61.binds (ps := ["hat"]) fun _ _ _ _ _ _ us hl => match us, hl with | [_], _ => rfl
  have F62 := fun_mk (st := s_law) l62 c62 k62
  have b62 := F62.binds (ps := ["script"]) fun _ _ _ _ _ _ us hl => match us, hl with | [_], _ => rfl
  let T : Txt K mg := {
    a_plain_dot := f0, fd_plain_dot := _, F_plain_dot := F0, m_plain_dot := PySem.W.mg_of X G a0, b_plain_dot := b0,
    a_row_more := f1, fd_row_more := _, F_row_more := F1, m_row_more := PySem.W.mg_of X G a1, b_row_more := b1,
    a_row_less := f2, fd_row_less := _, F_row_less := F2, m_row_less := PySem.W.mg_of X G a2, b_row_less := b2,
    a_plain_led := f3, fd_plain_led := _, F_plain_led := F3, m_plain_led := PySem.W.mg_of X G a3, b_plain_led := b3,
    a_plain_grid := f4, fd_plain_grid := _, F_plain_grid := F4, m_plain_grid := PySem.W.mg_of X G a4, b_plain_grid := b4,
    a_turned_rows_of := f5, fd_turned_rows_of := _, F_turned_rows_of := F5, m_turned_rows_of := PySem.W.mg_of X G a5, b_turned_rows_of := b5,
    a_plain_turned := f6, fd_plain_turned := _, F_plain_turned := F6, m_plain_turned := PySem.W.mg_of X G a6, b_plain_turned := b6,
    a_plain_product := f7, fd_plain_product := _, F_plain_product := F7, m_plain_product := PySem.W.mg_of X G a7, b_plain_product := b7,
    a_plain_difference := f8, fd_plain_difference := _, F_plain_difference := F8, m_plain_difference := PySem.W.mg_of X G a8, b_plain_difference := b8,
    a_plain_multiple := f9, fd_plain_multiple := _, F_plain_multiple := F9, m_plain_multiple := PySem.W.mg_of X G a9, b_plain_multiple := b9,
    a_plain_sum := f10, fd_plain_sum := _, F_plain_sum := F10, m_plain_sum := PySem.W.mg_of X G a10, b_plain_sum := b10,
    a_plain_read := f11, fd_plain_read := _, F_plain_read := F11, m_plain_read := PySem.W.mg_of X G a11, b_plain_read := b11,
    a_plain_beside := f12, fd_plain_beside := _, F_plain_beside := F12, m_plain_beside := PySem.W.mg_of X G a12, b_plain_beside := b12,
    a_is_long_integer := f13, fd_is_long_integer := _, F_is_long_integer := F13, m_is_long_integer := PySem.W.mg_of X G a13, b_is_long_integer := b13,
    a_are_long_integers := f14, fd_are_long_integers := _, F_are_long_integers := F14, m_are_long_integers := PySem.W.mg_of X G a14, b_are_long_integers := b14,
    a_have_integers := f15, fd_have_integers := _, F_have_integers := F15, m_have_integers := PySem.W.mg_of X G a15, b_have_integers := b15,
    a_are_short := f16, fd_are_short := _, F_are_short := F16, m_are_short := PySem.W.mg_of X G a16, b_are_short := b16,
    a_is_integer := f17, fd_is_integer := _, F_is_integer := F17, m_is_integer := PySem.W.mg_of X G a17, b_is_integer := b17,
    a_is_long_row := f18, fd_is_long_row := _, F_is_long_row := F18, m_is_long_row := PySem.W.mg_of X G a18, b_is_long_row := b18,
    a_is_row := f19, fd_is_row := _, F_is_row := F19, m_is_row := PySem.W.mg_of X G a19, b_is_row := b19,
    a_is_grid_up_to := f20, fd_is_grid_up_to := _, F_is_grid_up_to := F20, m_is_grid_up_to := PySem.W.mg_of X G a20, b_is_grid_up_to := b20,
    a_is_long_grid := f21, fd_is_long_grid := _, F_is_long_grid := F21, m_is_long_grid := PySem.W.mg_of X G a21, b_is_long_grid := b21,
    a_is_grid := f22, fd_is_grid := _, F_is_grid := F22, m_is_grid := PySem.W.mg_of X G a22, b_is_grid := b22,
    a_check_row := f23, fd_check_row := _, F_check_row := F23, m_check_row := PySem.W.mg_of X G a23, b_check_row := b23,
    a_check_grid := f24, fd_check_grid := _, F_check_grid := F24, m_check_grid := PySem.W.mg_of X G a24, b_check_grid := b24,
    a_check_grids := f25, fd_check_grids := _, F_check_grids := F25, m_check_grids := PySem.W.mg_of X G a25, b_check_grids := b25,
    a_check_integer := f26, fd_check_integer := _, F_check_integer := F26, m_check_integer := PySem.W.mg_of X G a26, b_check_integer := b26,
    a_check_fit := f27, fd_check_fit := _, F_check_fit := F27, m_check_fit := PySem.W.mg_of X G a27, b_check_fit := b27,
    a_check_rows := f28, fd_check_rows := _, F_check_rows := F28, m_check_rows := PySem.W.mg_of X G a28, b_check_rows := b28,
    a_dot := f29, fd_dot := _, F_dot := F29, m_dot := PySem.W.mg_of X G a29, b_dot := b29,
    a_row_sum := f30, fd_row_sum := _, F_row_sum := F30, m_row_sum := PySem.W.mg_of X G a30, b_row_sum := b30,
    a_row_difference := f31, fd_row_difference := _, F_row_difference := F31, m_row_difference := PySem.W.mg_of X G a31, b_row_difference := b31,
    a_row_multiple := f32, fd_row_multiple := _, F_row_multiple := F32, m_row_multiple := PySem.W.mg_of X G a32, b_row_multiple := b32,
    a_turned := f33, fd_turned := _, F_turned := F33, m_turned := PySem.W.mg_of X G a33, b_turned := b33,
    a_grid_multiple := f34, fd_grid_multiple := _, F_grid_multiple := F34, m_grid_multiple := PySem.W.mg_of X G a34, b_grid_multiple := b34,
    a_check_like := f35, fd_check_like := _, F_check_like := F35, m_check_like := PySem.W.mg_of X G a35, b_check_like := b35,
    a_grid_sum := f36, fd_grid_sum := _, F_grid_sum := F36, m_grid_sum := PySem.W.mg_of X G a36, b_grid_sum := b36,
    a_grid_difference := f37, fd_grid_difference := _, F_grid_difference := F37, m_grid_difference := PySem.W.mg_of X G a37, b_grid_difference := b37,
    a_grid_product := f38, fd_grid_product := _, F_grid_product := F38, m_grid_product := PySem.W.mg_of X G a38, b_grid_product := b38,
    a_check_most := f39, fd_check_most := _, F_check_most := F39, m_check_most := PySem.W.mg_of X G a39, b_check_most := b39,
    a_beside := f40, fd_beside := _, F_beside := F40, m_beside := PySem.W.mg_of X G a40, b_beside := b40,
    a_over := f41, fd_over := _, F_over := F41, m_over := PySem.W.mg_of X G a41, b_over := b41,
    a_led := f42, fd_led := _, F_led := F42, m_led := PySem.W.mg_of X G a42, b_led := b42,
    a_read_by := f43, fd_read_by := _, F_read_by := F43, m_read_by := PySem.W.mg_of X G a43, b_read_by := b43,
    a_law_hat := f44, fd_law_hat := _, F_law_hat := F44, m_law_hat := PySem.W.mg_of X G a44, b_law_hat := b44,
    a_law_up_to := f45, fd_law_up_to := _, F_law_up_to := F45, m_law_up_to := PySem.W.mg_of X G a45, b_law_up_to := b45,
    a_law_out_of := f46, fd_law_out_of := _, F_law_out_of := F46, m_law_out_of := PySem.W.mg_of X G a46, b_law_out_of := b46,
    a_law_number := f47, fd_law_number := _, F_law_number := F47, m_law_number := PySem.W.mg_of X G a47, b_law_number := b47,
    a_law_row := f48, fd_law_row := _, F_law_row := F48, m_law_row := PySem.W.mg_of X G a48, b_law_row := b48,
    a_law_dot := f49, fd_law_dot := _, F_law_dot := F49, m_law_dot := PySem.W.mg_of X G a49, b_law_dot := b49,
    a_law_lead := f50, fd_law_lead := _, F_law_lead := F50, m_law_lead := PySem.W.mg_of X G a50, b_law_lead := b50,
    a_law_turn := f51, fd_law_turn := _, F_law_turn := F51, m_law_turn := PySem.W.mg_of X G a51, b_law_turn := b51,
    a_law_times := f52, fd_law_times := _, F_law_times := F52, m_law_times := PySem.W.mg_of X G a52, b_law_times := b52,
    a_law_unit := f53, fd_law_unit := _, F_law_unit := F53, m_law_unit := PySem.W.mg_of X G a53, b_law_unit := b53,
    a_law_jg_entry := f54, fd_law_jg_entry := _, F_law_jg_entry := F54, m_law_jg_entry := PySem.W.mg_of X G a54, b_law_jg_entry := b54,
    a_law_jg_wide := f55, fd_law_jg_wide := _, F_law_jg_wide := F55, m_law_jg_wide := PySem.W.mg_of X G a55, b_law_jg_wide := b55,
    a_law_jg_grid := f56, fd_law_jg_grid := _, F_law_jg_grid := F56, m_law_jg_grid := PySem.W.mg_of X G a56, b_law_jg_grid := b56,
    a_law_jg_plus := f57, fd_law_jg_plus := _, F_law_jg_plus := F57, m_law_jg_plus := PySem.W.mg_of X G a57, b_law_jg_plus := b57,
    a_law_jg_scaled := f58, fd_law_jg_scaled := _, F_law_jg_scaled := F58, m_law_jg_scaled := PySem.W.mg_of X G a58, b_law_jg_scaled := b58,
    a_law_jg_beside := f59, fd_law_jg_beside := _, F_law_jg_beside := F59, m_law_jg_beside := PySem.W.mg_of X G a59, b_law_jg_beside := b59,
    a_law_plain_right := f60, fd_law_plain_right := _, F_law_plain_right := F60, m_law_plain_right := PySem.W.mg_of X G a60, b_law_plain_right := b60,
    a_law_grouped_right := f61, fd_law_grouped_right := _, F_law_grouped_right := F61, m_law_grouped_right := PySem.W.mg_of X G a61, b_law_grouped_right := b61,
    a_law := fa, fd_law := _, F_law := F62, m_law := PySem.W.mg_of X G a62, b_law := b62,
    t_MAX_SIZE := t_MAX_SIZE, c_MAX_SIZE := PySem.W.mg_of X G g_MAX_SIZE,
    t_TOO_LONG := t_TOO_LONG, c_TOO_LONG := PySem.W.mg_of X G g_TOO_LONG,
    z_abs := PySem.W.mg_none_of X G z_abs,
    z_all := PySem.W.mg_none_of X G z_all,
    z_int := PySem.W.mg_none_of X G z_int,
    z_isinstance := PySem.W.mg_none_of X G z_isinstance,
    z_len := PySem.W.mg_none_of X G z_len,
    z_list := PySem.W.mg_none_of X G z_list,
    z_max := PySem.W.mg_none_of X G z_max,
    z_min := PySem.W.mg_none_of X G z_min,
    z_range := PySem.W.mg_none_of X G z_range,
    z_sum := PySem.W.mg_none_of X G z_sum,
    z_tuple := PySem.W.mg_none_of X G z_tuple,
    z_zip := PySem.W.mg_none_of X G z_zip }
  exact ⟨_, fun s v => .of_eq rfl, fun base _ _ => law_sp math (T := T)⟩
end My
open PySem PySem.W PyProof.Rows in
set_option maxRecDepth 100000 in
set_option maxHeartbeats 0 in
theorem PySem.Challenge.cw_gluewhole_k01_whole_sums_and_products_of_holds : PySem.Challenge.rw_gluewhole_k01_whole_sums_and_products_of.Holds := by
  w_on; o_law; k_head; (case hw => w_witness2)
  k_fill
  refine L2.walk_of (l := PySem.Challenge.rw_gluewhole_k01_whole_sums_and_products_of) (n := 63) (k := 10) (x := "script") (CX := fun _ => L2.CX0) (sp := fun w => My.sp_law _) rfl (by decide) rfl ⟨rfl, by decide, by decide⟩ (fun w h Y => PySem.W.kIn_of Y) ?F (fun _ _ a ns hl _ hS => ⟨a, ns, rfl, hS, hl, fun _ => rfl⟩) (fun _ _ _ _ _ h => h)
  case F =>
    intro w mg fa h KX G hmg
    refine' My.all_mk Math.law_true KX G hmg ?a0 ?l0 ?c0 ?k0 ?a1 ?l1 ?c1 ?k1 ?a2 ?l2 ?c2 ?k2 ?a3 ?l3 ?c3 ?k3 ?a4 ?l4 ?c4 ?k4 ?a5 ?l5 ?c5 ?k5 ?a6 ?l6 ?c6 ?k6 ?a7 ?l7 ?c7 ?k7 ?a8 ?l8 ?c8 ?k8 ?a9 ?l9 ?c9 ?k9 ?a10 ?l10 ?c10 ?k10 ?a11 ?l11 ?c11 ?k11 ?a12 ?l12 ?c12 ?k12 ?a13 ?l13 ?c13 ?k13 ?a14 ?l14 ?c14 ?k14 ?a15 ?l15 ?c15 ?k15 ?a16 ?l16 ?c16 ?k16 ?a17 ?l17 ?c17 ?k17 ?a18 ?l18 ?c18 ?k18 ?a19 ?l19 ?c19 ?k19 ?a20 ?l20 ?c20 ?k20 ?a21 ?l21 ?c21 ?k21 ?a22 ?l22 ?c22 ?k22 ?a23 ?l23 ?c23 ?k23 ?a24 ?l24 ?c24 ?k24 ?a25 ?l25 ?c25 ?k25 ?a26 ?l26 ?c26 ?k26 ?a27 ?l27 ?c27 ?k27 ?a28 ?l28 ?c28 ?k28 ?a29 ?l29 ?c29 ?k29 ?a30 ?l30 ?c30 ?k30 ?a31 ?l31 ?c31 ?k31 ?a32 ?l32 ?c32 ?k32 ?a33 ?l33 ?c33 ?k33 ?a34 ?l34 ?c34 ?k34 ?a35 ?l35 ?c35 ?k35 ?a36 ?l36 ?c36 ?k36 ?a37 ?l37 ?c37 ?k37 ?a38 ?l38 ?c38 ?k38 ?a39 ?l39 ?c39 ?k39 ?a40 ?l40 ?c40 ?k40 ?a41 ?l41 ?c41 ?k41 ?a42 ?l42 ?c42 ?k42 ?a43 ?l43 ?c43 ?k43 ?a44 ?l44 ?c44 ?k44 ?a45 ?l45 ?c45 ?k45 ?a46 ?l46 ?c46 ?k46 ?a47 ?l47 ?c47 ?k47 ?a48 ?l48 ?c48 ?k48 ?a49 ?l49 ?c49 ?k49 ?a50 ?l50 ?c50 ?k50 ?a51 ?l51 ?c51 ?k51 ?a52 ?l52 ?c52 ?k52 ?a53 ?l53 ?c53 ?k53 ?a54 ?l54 ?c54 ?k54 ?a55 ?l55 ?c55 ?k55 ?a56 ?l56 ?c56 ?k56 ?a57 ?l57 ?c57 ?k57 ?a58 ?l58 ?c58 ?k58 ?a59 ?l59 ?c59 ?k59 ?a60 ?l60 ?c60 ?k60 ?a61 ?l61 ?c61 ?k61 ?a62 ?l62 ?c62 ?k62 ?g_MAX_SIZE ?g_TOO_LONG ?z_abs ?z_all ?z_int ?z_isinstance ?z_len ?z_list ?z_max ?z_min ?z_range ?z_sum ?z_tuple ?z_zip
    (case a0 => k_is)
    (case l0 => k_is)
    (case c0 => k_is)
    (case k0 => k_is)
    (case a1 => k_is)
    (case l1 => k_is)
    (case c1 => k_is)
    (case k1 => k_is)
    (case a2 => k_is)
    (case l2 => k_is)
    (case c2 => k_is)
    (case k2 => k_is)
    (case a3 => k_is)
    (case l3 => k_is)
    (case c3 => k_is)
    (case k3 => k_is)
    (case a4 => k_is)
    (case l4 => k_is)
    (case c4 => k_is)
    (case k4 => k_is)
    (case a5 => k_is)
    (case l5 => k_is)
    (case c5 => k_is)
    (case k5 => k_is)
    (case a6 => k_is)
    (case l6 => k_is)
    (case c6 => k_is)
    (case k6 => k_is)
    (case a7 => k_is)
    (case l7 => k_is)
    (case c7 => k_is)
    (case k7 => k_is)
    (case a8 => k_is)
    (case l8 => k_is)
    (case c8 => k_is)
    (case k8 => k_is)
    (case a9 => k_is)
    (case l9 => k_is)
    (case c9 => k_is)
    (case k9 => k_is)
    (case a10 => k_is)
    (case l10 => k_is)
    (case c10 => k_is)
    (case k10 => k_is)
    (case a11 => k_is)
    (case l11 => k_is)
    (case c11 => k_is)
    (case k11 => k_is)
    (case a12 => k_is)
    (case l12 => k_is)
    (case c12 => k_is)
    (case k12 => k_is)
    (case a13 => k_is)
    (case l13 => k_is)
    (case c13 => k_is)
    (case k13 => k_is)
    (case a14 => k_is)
    (case l14 => k_is)
    (case c14 => k_is)
    (case k14 => k_is)
    (case a15 => k_is)
    (case l15 => k_is)
    (case c15 => k_is)
    (case k15 => k_is)
    (case a16 => k_is)
    (case l16 => k_is)
    (case c16 => k_is)
    (case k16 => k_is)
    (case a17 => k_is)
    (case l17 => k_is)
    (case c17 => k_is)
    (case k17 => k_is)
    (case a18 => k_is)
    (case l18 => k_is)
    (case c18 => k_is)
    (case k18 => k_is)
    (case a19 => k_is)
    (case l19 => k_is)
    (case c19 => k_is)
    (case k19 => k_is)
    (case a20 => k_is)
    (case l20 => k_is)
    (case c20 => k_is)
    (case k20 => k_is)
    (case a21 => k_is)
    (case l21 => k_is)
    (case c21 => k_is)
    (case k21 => k_is)
    (case a22 => k_is)
    (case l22 => k_is)
    (case c22 => k_is)
    (case k22 => k_is)
    (case a23 => k_is)
    (case l23 => k_is)
    (case c23 => k_is)
    (case k23 => k_is)
    (case a24 => k_is)
    (case l24 => k_is)
    (case c24 => k_is)
    (case k24 => k_is)
    (case a25 => k_is)
    (case l25 => k_is)
    (case c25 => k_is)
    (case k25 => k_is)
    (case a26 => k_is)
    (case l26 => k_is)
    (case c26 => k_is)
    (case k26 => k_is)
    (case a27 => k_is)
    (case l27 => k_is)
    (case c27 => k_is)
    (case k27 => k_is)
    (case a28 => k_is)
    (case l28 => k_is)
    (case c28 => k_is)
    (case k28 => k_is)
    (case a29 => k_is)
    (case l29 => k_is)
    (case c29 => k_is)
    (case k29 => k_is)
    (case a30 => k_is)
    (case l30 => k_is)
    (case c30 => k_is)
    (case k30 => k_is)
    (case a31 => k_is)
    (case l31 => k_is)
    (case c31 => k_is)
    (case k31 => k_is)
    (case a32 => k_is)
    (case l32 => k_is)
    (case c32 => k_is)
    (case k32 => k_is)
    (case a33 => k_is)
    (case l33 => k_is)
    (case c33 => k_is)
    (case k33 => k_is)
    (case a34 => k_is)
    (case l34 => k_is)
    (case c34 => k_is)
    (case k34 => k_is)
    (case a35 => k_is)
    (case l35 => k_is)
    (case c35 => k_is)
    (case k35 => k_is)
    (case a36 => k_is)
    (case l36 => k_is)
    (case c36 => k_is)
    (case k36 => k_is)
    (case a37 => k_is)
    (case l37 => k_is)
    (case c37 => k_is)
    (case k37 => k_is)
    (case a38 => k_is)
    (case l38 => k_is)
    (case c38 => k_is)
    (case k38 => k_is)
    (case a39 => k_is)
    (case l39 => k_is)
    (case c39 => k_is)
    (case k39 => k_is)
    (case a40 => k_is)
    (case l40 => k_is)
    (case c40 => k_is)
    (case k40 => k_is)
    (case a41 => k_is)
    (case l41 => k_is)
    (case c41 => k_is)
    (case k41 => k_is)
    (case a42 => k_is)
    (case l42 => k_is)
    (case c42 => k_is)
    (case k42 => k_is)
    (case a43 => k_is)
    (case l43 => k_is)
    (case c43 => k_is)
    (case k43 => k_is)
    (case a44 => k_is)
    (case l44 => k_is)
    (case c44 => k_is)
    (case k44 => k_is)
    (case a45 => k_is)
    (case l45 => k_is)
    (case c45 => k_is)
    (case k45 => k_is)
    (case a46 => k_is)
    (case l46 => k_is)
    (case c46 => k_is)
    (case k46 => k_is)
    (case a47 => k_is)
    (case l47 => k_is)
    (case c47 => k_is)
    (case k47 => k_is)
    (case a48 => k_is)
    (case l48 => k_is)
    (case c48 => k_is)
    (case k48 => k_is)
    (case a49 => k_is)
    (case l49 => k_is)
    (case c49 => k_is)
    (case k49 => k_is)
    (case a50 => k_is)
    (case l50 => k_is)
    (case c50 => k_is)
    (case k50 => k_is)
    (case a51 => k_is)
    (case l51 => k_is)
    (case c51 => k_is)
    (case k51 => k_is)
    (case a52 => k_is)
    (case l52 => k_is)
    (case c52 => k_is)
    (case k52 => k_is)
    (case a53 => k_is)
    (case l53 => k_is)
    (case c53 => k_is)
    (case k53 => k_is)
    (case a54 => k_is)
    (case l54 => k_is)
    (case c54 => k_is)
    (case k54 => k_is)
    (case a55 => k_is)
    (case l55 => k_is)
    (case c55 => k_is)
    (case k55 => k_is)
    (case a56 => k_is)
    (case l56 => k_is)
    (case c56 => k_is)
    (case k56 => k_is)
    (case a57 => k_is)
    (case l57 => k_is)
    (case c57 => k_is)
    (case k57 => k_is)
    (case a58 => k_is)
    (case l58 => k_is)
    (case c58 => k_is)
    (case k58 => k_is)
    (case a59 => k_is)
    (case l59 => k_is)
    (case c59 => k_is)
    (case k59 => k_is)
    (case a60 => k_is)
    (case l60 => k_is)
    (case c60 => k_is)
    (case k60 => k_is)
    (case a61 => k_is)
    (case l61 => k_is)
    (case c61 => k_is)
    (case k61 => k_is)
    (case a62 => k_is)
    (case l62 => k_is)
    (case c62 => k_is)
    (case k62 => k_is)
    (case g_MAX_SIZE => k_is)
    (case g_TOO_LONG => k_is)
    (case z_abs => k_is)
    (case z_all => k_is)
    (case z_int => k_is)
    (case z_isinstance => k_is)
    (case z_len => k_is)
    (case z_list => k_is)
    (case z_max => k_is)
    (case z_min => k_is)
    (case z_range => k_is)
    (case z_sum => k_is)
    (case z_tuple => k_is)
    (case z_zip => k_is)
