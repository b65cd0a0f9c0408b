import PyProof.Rows.All
import Wide.All
import OpenK.AllK
import Wide.FinOn
import HandS.ForMost
import HandS.ForExc
import HandS.Wide
import HandS.Style
import HandS.IsInst
import HandS.Flow
import HandS.Codes
import HandS.TupAny
import HandS.TupMul
import HandS.Zip
import KE.GoesMore
import KE.GoesZip
import KE.KTurns
import KE.KDictZip
import PyProof.ListNew
import HandS.Keys
import HandS.NoneIn
import HandS.Lambda
import HandS.TryMany
import HandS.ExcOwn
import HandS.ExcInit
import HandS.ExcField
import HandS.RaiseMore
import HandS.WordsExc
import HandS.EndTab
import HandS.CallLocal
import KE.KNestM
import PySem.Challenge.RW_gluewhole_k04_errors_of_numbers
set_option Elab.async false
set_option linter.all false
set_option maxRecDepth 100000
set_option maxHeartbeats 4000000
namespace Mir
open PySem PySem.Spec PyProof.Rows L2
set_option linter.all false

/-! ### data and what it is on the heap -/
mutual
def Dq (K : PySem.W.Frag) (H : Hp) : PyData → V → Prop
  | .none, v => v = .non
  | .bool b, v => v = .bl b
  | .int i, v => v = .int i
  | .str x, v => v = .str x
  | .list ds, v => ∃ a xs, v = .ref a ∧ H a = some (.lst xs) ∧ DqA K H ds xs
  | .tuple ds, v => ∃ a xs, v = .ref a ∧ SqT K H a xs ∧ DqA K H ds xs
  | .dict kvs, v => kvs = [] ∧ ∃ a, v = .ref a ∧ H a = some (.dK [])
def DqA (K : PySem.W.Frag) (H : Hp) : List PyData → List V → Prop
  | [], vs => vs = []
  | d :: ds, vs => ∃ v r, vs = v :: r ∧ Dq K H d v ∧ DqA K H ds r
end
section
variable {K : PySem.W.Frag} {H H' : Hp}
theorem sql_mono {a : Addr} {xs : List V} (e : Same H H') (h : SqL K H a xs) : SqL K H' a xs := e.seq h
theorem sqt_mono {a : Addr} {xs : List V} (e : Same H H') (h : SqT K H a xs) : SqT K H' a xs := by
  rcases h with (h | ⟨o, h⟩) | h
  · exact .inl (.inl (e _ _ h))
  · exact .inl (.inr ⟨o, e _ _ h⟩)
  · exact .inr h
mutual
theorem Dq.mono (e : Same H H') : ∀ (d : PyData) (v : V), Dq K H d v → Dq K H' d v
  | .none, _, h => h
  | .bool _, _, h => h
  | .int _, _, h => h
  | .str _, _, h => h
  | .list ds, _, h => by
    obtain ⟨a, xs, e1, h1, h2⟩ := h
    exact ⟨a, xs, e1, e _ _ h1, DqA.mono e ds xs h2⟩
  | .tuple ds, _, h => by
    obtain ⟨a, xs, e1, h1, h2⟩ := h
    exact ⟨a, xs, e1, sqt_mono e h1, DqA.mono e ds xs h2⟩
  | .dict _, _, h => by
    obtain ⟨e0, a, e1, h1⟩ := h
    exact ⟨e0, a, e1, e _ _ h1⟩
theorem DqA.mono (e : Same H H') : ∀ (ds : List PyData) (vs : List V), DqA K H ds vs → DqA K H' ds vs
  | [], _, h => h
  | d :: ds, _, h => by
    obtain ⟨v, r, e1, h1, h2⟩ := h
    exact ⟨v, r, e1, Dq.mono e d v h1, DqA.mono e ds r h2⟩
end
theorem DqA.length : ∀ {ds : List PyData} {vs : List V}, DqA K H ds vs → vs.length = ds.length
  | [], _, h => by
    have h' : _ = [] := h
    subst h'
    rfl
  | d :: ds, _, h => by
    obtain ⟨v, r, rfl, _, h2⟩ := h
    rw [List.length_cons, List.length_cons, DqA.length h2]
theorem DqA.get : ∀ {ds : List PyData} {vs : List V} {i : Nat} {d : PyData}, DqA K H ds vs → ds[i]? = some d → ∃ v, vs[i]? = some v ∧ Dq K H d v
  | [], _, _, _, _, e => by simp at e
  | x :: ds, _, 0, d, h, e => by
    obtain ⟨v, r, rfl, h1, _⟩ := h
    have e' : x = d := by simpa using e
    subst e'
    exact ⟨v, rfl, h1⟩
  | x :: ds, _, i + 1, d, h, e => by
    obtain ⟨v, r, rfl, _, h2⟩ := h
    obtain ⟨u, a, b⟩ := DqA.get (i := i) (d := d) h2 (by simpa using e)
    exact ⟨u, by simpa using a, b⟩
theorem DqA.append : ∀ {ds es : List PyData} {vs us : List V}, DqA K H ds vs → DqA K H es us → DqA K H (ds ++ es) (vs ++ us)
  | [], _, _, _, h, g => by
    have h' : _ = [] := h
    subst h'
    exact g
  | d :: ds, es, _, us, h, g => by
    obtain ⟨v, r, rfl, h1, h2⟩ := h
    exact ⟨v, r ++ us, rfl, h1, DqA.append h2 g⟩
theorem DqA.snoc {ds : List PyData} {vs : List V} {d : PyData} {v : V} (h : DqA K H ds vs) (g : Dq K H d v) : DqA K H (ds ++ [d]) (vs ++ [v]) :=
  DqA.append h ⟨v, [], rfl, g, rfl⟩
theorem DqA.take : ∀ {ds : List PyData} {vs : List V} (n : Nat), DqA K H ds vs → DqA K H (ds.take n) (vs.take n)
  | [], _, n, h => by
    have h' : _ = [] := h
    subst h'
    simpa [DqA] using h
  | _ :: _, _, 0, _ => by simp [DqA]
  | d :: ds, _, n + 1, h => by
    obtain ⟨v, r, rfl, h1, h2⟩ := h
    exact ⟨v, r.take n, rfl, h1, DqA.take n h2⟩
theorem DqA.drop : ∀ {ds : List PyData} {vs : List V} (n : Nat), DqA K H ds vs → DqA K H (ds.drop n) (vs.drop n)
  | [], _, n, h => by
    have h' : _ = [] := h
    subst h'
    simpa [DqA] using h
  | _ :: _, _, 0, h => h
  | d :: ds, _, n + 1, h => by
    obtain ⟨v, r, rfl, h1, h2⟩ := h
    exact DqA.drop n h2
theorem DqA.set : ∀ {ds : List PyData} {vs : List V} {d : PyData} {v : V} (i : Nat), DqA K H ds vs → Dq K H d v → DqA K H (ds.set i d) (vs.set i v)
  | [], _, _, _, i, h, g => by
    have h' : _ = [] := h
    subst h'
    exact h
  | x :: ds, _, d, v, 0, h, g => by
    obtain ⟨u, r, rfl, h1, h2⟩ := h
    exact ⟨v, r, rfl, g, h2⟩
  | x :: ds, _, d, v, i + 1, h, g => by
    obtain ⟨u, r, rfl, h1, h2⟩ := h
    exact ⟨u, r.set i v, rfl, h1, DqA.set i h2 g⟩
mutual
theorem Dq.dp : ∀ (d : PyData) (v : V), PyData.canLay0 d = true → Dq K H d v → Dp K H v d
  | .none, _, _, h => by cases h; exact .non
  | .bool b, _, _, h => by cases h; exact .bl b
  | .int i, _, _, h => by cases h; exact .int i
  | .str x, _, _, h => by cases h; exact .str x
  | .list ds, _, c, h => by
    obtain ⟨a, xs, rfl, h1, h2⟩ := h
    exact .lst (SqL.of h1) (DqA.dp ds xs (by simpa [PyData.canLay0] using c) h2)
  | .tuple ds, _, c, h => by
    obtain ⟨a, xs, rfl, h1, h2⟩ := h
    exact .tup h1 (DqA.dp ds xs (by simpa [PyData.canLay0] using c) h2)
  | .dict kvs, _, c, _ => by simp [PyData.canLay0] at c
theorem DqA.dp : ∀ (ds : List PyData) (vs : List V), PyData.canLayAll0 ds = true → DqA K H ds vs → DpAll K H vs ds
  | [], _, _, h => by
    have h' : _ = [] := h
    subst h'
    exact .nil
  | d :: ds, _, c, h => by
    obtain ⟨v, r, rfl, h1, h2⟩ := h
    have c' : PyData.canLay0 d = true ∧ PyData.canLayAll0 ds = true := by simpa [PyData.canLayAll0] using c
    exact .cons (Dq.dp d v c'.1 h1) (DqA.dp ds r c'.2 h2)
end
end

/-! ### the mirror's states and outcomes -/
inductive Sl where
  | d (x : PyData)
  | c (n : Nat)
  /-- a list of ints that is read alone: the script -/
  | s (ns : List Int)
  /-- a def -/
  | f (i : Nat)
abbrev Sto := List (List PyData)
abbrev Env := List (Option Sl)
structure Exn where
  cls : String
  arg : Option PyData
inductive Out (α : Type) where
  | ok (a : α) (s : Sto)
  | exc (x : Exn) (s : Sto)
  | bad
namespace Out
def bind {α β : Type} (o : Out α) (k : α → Sto → Out β) : Out β := match o with
  | .ok a s => k a s
  | .exc x s => .exc x s
  | .bad => .bad
@[simp] theorem bind_ok {α β : Type} (a : α) (s : Sto) (k : α → Sto → Out β) : (Out.ok a s).bind k = k a s := rfl
@[simp] theorem bind_bad {α β : Type} (k : α → Sto → Out β) : (Out.bad : Out α).bind k = .bad := rfl
end Out
abbrev ME := Env → Sto → Out PyData
abbrev MT := Env → Sto → Out Bool
abbrev ML := Env → Sto → Out Sl
abbrev MA := Env → Sto → Out (List Sl)
abbrev MD := Env → Sto → Out (List PyData)
inductive Fl where
  | nx (ρ : Env) (s : Sto)
  | rt (x : Sl) (s : Sto)
  | bk (ρ : Env) (s : Sto)
  | ct (ρ : Env) (s : Sto)
  | exc (x : Exn) (s : Sto)
  | bad
abbrev MS := Env → Sto → Fl
abbrev XRel := Exn → Hp → Value → Option Addr → Prop

/-- the tables of code objects of the defs that hold lambdas, with the name of what they make -/
class Tb where
  l : List (Addr × Str)
  /-- the defs that are values -/
  fs : List Addr
theorem tabs_ext {l : List (Addr × Str)} {H H' : Hp} (t : LamX.Tabs l H) (e : ∀ b o, H b = some o → H' b = some o) : LamX.Tabs l H' := fun p m => (t p m).ext e
theorem tabs_upd {l : List (Addr × Str)} {H : Hp} {p : Addr} {o : HO} (t : LamX.Tabs l H) (n : H p = none) : LamX.Tabs l (upd H p o) := tabs_ext t fun b u e => by rw [upd_ne (ne_of_none e n)]; exact e
theorem tabs_put {l : List (Addr × Str)} {H : Hp} {p : Addr} {xs : List V} {o : HO} (t : LamX.Tabs l H) (n : H p = some (.lst xs)) : LamX.Tabs l (upd H p o) := fun q m => by
  obtain ⟨ps, h1, h2, h3⟩ := t q m
  refine ⟨ps, ?_, h2, fun pos cv e => ?_⟩
  · rw [upd_ne (fun z => by rw [z, n] at h1; cases h1)]
    exact h1
  · obtain ⟨c, e1, e2⟩ := h3 pos cv e
    refine ⟨c, e1, ?_⟩
    rw [upd_ne (fun z => by rw [z, n] at e2; cases e2)]
    exact e2
variable [Tb]
/-- the store: its lists stand at the addresses A, apart from Hi, what never changes -/
structure RS (K : PySem.W.Frag) (A : List Addr) (Hi : Hp) (s : Sto) (H : Hp) : Prop where
  sub : Same Hi H
  out : ∀ a ∈ A, Hi a = none
  nd : A.Nodup
  len : A.length = s.length
  cel : ∀ (i : Nat) (a : Addr) (ds : List PyData), A[i]? = some a → s[i]? = some ds → ∃ xs, H a = some (.lst xs) ∧ DqA K Hi ds xs
  tab : LamX.Tabs Tb.l H
  nt : ∀ (b : Addr) (ps : Array Value), Hi b ≠ some (.tbl ps)
def RSl (K : PySem.W.Frag) (A : List Addr) (Hi : Hp) : Sl → V → Prop
  | .d x, v => Dq K Hi x v
  | .c n, v => ∃ a, A[n]? = some a ∧ v = .ref a
  | .s ns, v => ∃ a, v = .ref a ∧ SqL K Hi a (ns.map V.int)
  | .f i, v => ∃ a, Tb.fs[i]? = some a ∧ v = .ref a
def RE (K : PySem.W.Frag) (A : List Addr) (Hi : Hp) (ρ : Env) (σ : L2.St) : Prop := ρ.length = σ.length ∧ ∀ (i : Nat) (x : Sl), ρ[i]? = some (some x) → ∃ v, σ[i]? = some (some v) ∧ RSl K A Hi x v
def RL (K : PySem.W.Frag) (A : List Addr) (Hi : Hp) : List Sl → List V → Prop
  | [], vs => vs = []
  | x :: xs, vs => ∃ v r, vs = v :: r ∧ RSl K A Hi x v ∧ RL K A Hi xs r
section
variable {K : PySem.W.Frag} {A A' : List Addr} {Hi Hi' : Hp} {s : Sto} {H : Hp} {ρ : Env} {σ : L2.St}
theorem RSl.mono (e : Same Hi Hi') (p : A <+: A') : ∀ {x : Sl} {v : V}, RSl K A Hi x v → RSl K A' Hi' x v
  | .d x, v, h => Dq.mono e x v h
  | .c n, v, h => by
    obtain ⟨a, h1, h2⟩ := h
    obtain ⟨t, rfl⟩ := p
    refine ⟨a, ?_, h2⟩
    rw [List.getElem?_append_left (List.getElem?_eq_some_iff.mp h1).1]
    exact h1
  | .s ns, v, h => by
    obtain ⟨a, h1, h2⟩ := h
    exact ⟨a, h1, sql_mono e h2⟩
  | .f _, _, h => h
theorem RE.mono (e : Same Hi Hi') (p : A <+: A') (h : RE K A Hi ρ σ) : RE K A' Hi' ρ σ :=
  ⟨h.1, fun i x q => by
    obtain ⟨v, h1, h2⟩ := h.2 i x q
    exact ⟨v, h1, h2.mono e p⟩⟩
theorem RL.mono (e : Same Hi Hi') (p : A <+: A') : ∀ {xs : List Sl} {vs : List V}, RL K A Hi xs vs → RL K A' Hi' xs vs
  | [], _, h => h
  | _ :: _, _, h => by
    obtain ⟨v, r, e1, h1, h2⟩ := h
    exact ⟨v, r, e1, h1.mono e p, RL.mono e p h2⟩
theorem RE.set {i : Nat} {x : Sl} {v : V} (h : RE K A Hi ρ σ) (g : RSl K A Hi x v) : RE K A Hi (ρ.set i (some x)) (σ.set i (some v)) := by
  refine ⟨by rw [List.length_set, List.length_set]; exact h.1, fun j y q => ?_⟩
  by_cases e : i = j
  · subst e
    rw [List.getElem?_set_self'] at q
    cases hq : ρ[i]? with
    | none => rw [hq] at q; cases q
    | some z =>
      rw [hq] at q
      have e2 : x = y := Option.some.inj (Option.some.inj q)
      subst e2
      refine ⟨v, ?_, g⟩
      have hl : i < σ.length := by
        rw [← h.1]
        exact (List.getElem?_eq_some_iff.mp hq).1
      rw [List.getElem?_set_self hl]
  · rw [List.getElem?_set_ne e] at q
    obtain ⟨u, h1, h2⟩ := h.2 j y q
    exact ⟨u, by rw [List.getElem?_set_ne e]; exact h1, h2⟩
theorem RS.fresh (h : RS K A Hi s H) {p : Addr} (n : H p = none) : Hi p = none := by
  cases q : Hi p with
  | none => rfl
  | some o =>
    have := h.sub _ _ q
    rw [n] at this
    cases this
theorem RS.notin (h : RS K A Hi s H) {p : Addr} (n : H p = none) : p ∉ A := fun m => by
  obtain ⟨i, hi⟩ := List.getElem?_of_mem m
  have hl : i < s.length := by rw [← h.len]; exact (List.getElem?_eq_some_iff.mp hi).1
  obtain ⟨xs, e, _⟩ := h.cel i p _ hi (List.getElem?_eq_getElem hl)
  rw [n] at e
  cases e
theorem same_upd {Hi : Hp} {p : Addr} {o : HO} (n : Hi p = none) : Same Hi (upd Hi p o) := fun b u e => by rw [upd_ne (ne_of_none e n)]; exact e
/-- a new thing that never changes -/
theorem nt_upd {Hi : Hp} {p : Addr} {o : HO} (h : ∀ (b : Addr) (ps : Array Value), Hi b ≠ some (.tbl ps)) (no : ∀ ps : Array Value, o ≠ .tbl ps) : ∀ (b : Addr) (ps : Array Value), upd Hi p o b ≠ some (.tbl ps) := fun b ps => by
  by_cases q : b = p
  · subst q
    rw [upd_same]
    exact fun z => no ps (Option.some.inj z)
  · rw [upd_ne q]
    exact h b ps
theorem RS.new (h : RS K A Hi s H) {p : Addr} {o : HO} (n : H p = none) (no : ∀ ps : Array Value, o ≠ .tbl ps := by intro _ z; cases z) : RS K A (upd Hi p o) s (upd H p o) := by
  refine ⟨fun b u e => ?_, fun a m => ?_, h.nd, h.len, fun i a ds ha hs => ?_, tabs_upd h.tab n, nt_upd h.nt no⟩
  · by_cases q : b = p
    · subst q
      rw [upd_same] at e ⊢
      exact e
    · rw [upd_ne q] at e ⊢
      exact h.sub _ _ e
  · rw [upd_ne (fun q => h.notin n (by rw [← q]; exact m))]
    exact h.out a m
  · obtain ⟨xs, e, d⟩ := h.cel i a ds ha hs
    exact ⟨xs, by rw [upd_ne (ne_of_none e n)]; exact e, DqA.mono (same_upd (h.fresh n)) _ _ d⟩
theorem RS.new1 (h : RS K A Hi s H) {p : Addr} {o : HO} (n : H p = none) : RS K A Hi s (upd H p o) := by
  refine ⟨fun b u e => ?_, h.out, h.nd, h.len, fun i a ds ha hs => ?_, tabs_upd h.tab n, h.nt⟩
  · have q := h.sub _ _ e
    rw [upd_ne (ne_of_none q n)]
    exact q
  · obtain ⟨xs, e, d⟩ := h.cel i a ds ha hs
    exact ⟨xs, by rw [upd_ne (ne_of_none e n)]; exact e, d⟩
/-- what stands beside the store is taken to what never changes -/
theorem RS.own (h : RS K A Hi s H) {p : Addr} {o : HO} (hp : H p = some o) (n : Hi p = none) (m : p ∉ A) (no : ∀ ps : Array Value, o ≠ .tbl ps := by intro _ z; cases z) : RS K A (upd Hi p o) s H := by
  refine ⟨fun b u e => ?_, fun a q => ?_, h.nd, h.len, fun i a ds ha hs => ?_, h.tab, nt_upd h.nt no⟩
  · by_cases z : b = p
    · subst z
      rw [upd_same] at e
      rw [hp]
      exact e
    · rw [upd_ne z] at e
      exact h.sub _ _ e
  · rw [upd_ne (fun z => m (by rw [← z]; exact q))]
    exact h.out a q
  · obtain ⟨xs, e, d⟩ := h.cel i a ds ha hs
    exact ⟨xs, e, DqA.mono (same_upd n) _ _ d⟩
/-- a new list of the store -/
theorem RS.push (h : RS K A Hi s H) {p : Addr} {ds : List PyData} {xs : List V} (n : H p = none) (d : DqA K Hi ds xs) : RS K (A ++ [p]) Hi (s ++ [ds]) (upd H p (.lst xs)) := by
  refine ⟨fun b u e => ?_, fun a m => ?_, ?_, by rw [List.length_append, List.length_append, h.len]; rfl, fun i a es ha hs => ?_, tabs_upd h.tab n, h.nt⟩
  · rw [upd_ne (ne_of_none (h.sub _ _ e) n)]
    exact h.sub _ _ e
  · rcases List.mem_append.mp m with m | m
    · exact h.out a m
    · have : a = p := by simpa using m
      rw [this]
      exact h.fresh n
  · rw [List.nodup_append]
    refine ⟨h.nd, by simp, fun a ha b hb => ?_⟩
    have : b = p := by simpa using hb
    rw [this]
    exact fun q => h.notin n (by rw [← q]; exact ha)
  · by_cases hl : i < A.length
    · rw [List.getElem?_append_left hl] at ha
      rw [List.getElem?_append_left (by rw [← h.len]; exact hl)] at hs
      obtain ⟨ys, e, d'⟩ := h.cel i a es ha hs
      exact ⟨ys, by rw [upd_ne (ne_of_none e n)]; exact e, d'⟩
    · have hl' := (List.getElem?_eq_some_iff.mp ha).1
      rw [List.length_append, List.length_singleton] at hl'
      have hi : i = A.length := by omega
      subst hi
      rw [List.getElem?_append_right (Nat.le_refl _), Nat.sub_self] at ha
      rw [h.len, List.getElem?_append_right (Nat.le_refl _), Nat.sub_self] at hs
      cases ha
      cases hs
      exact ⟨xs, upd_same, d⟩
/-- a list of the store changes -/
theorem RS.put (h : RS K A Hi s H) {n : Nat} {p : Addr} {ds : List PyData} {xs : List V} (ha : A[n]? = some p) (d : DqA K Hi ds xs) : RS K A Hi (s.set n ds) (upd H p (.lst xs)) := by
  have hp : Hi p = none := h.out p (List.mem_of_getElem? ha)
  have hl0 : n < s.length := by rw [← h.len]; exact (List.getElem?_eq_some_iff.mp ha).1
  obtain ⟨ys0, e0, _⟩ := h.cel n p _ ha (List.getElem?_eq_getElem hl0)
  refine ⟨fun b u e => ?_, h.out, h.nd, by rw [List.length_set]; exact h.len, fun i a es hi hs => ?_, tabs_put h.tab e0, h.nt⟩
  · rw [upd_ne (ne_of_none e hp)]
    exact h.sub _ _ e
  · by_cases q : n = i
    · subst q
      rw [ha] at hi
      cases hi
      have hl : n < s.length := by rw [← h.len]; exact (List.getElem?_eq_some_iff.mp ha).1
      rw [List.getElem?_set_self hl] at hs
      cases hs
      exact ⟨xs, upd_same, d⟩
    · rw [List.getElem?_set_ne q] at hs
      obtain ⟨ys, e, d'⟩ := h.cel i a es hi hs
      have hne : a ≠ p := fun z => by
        subst z
        exact q (nd_ix h.nd ha hi)
      exact ⟨ys, by rw [upd_ne hne]; exact e, d'⟩
/-- the lists from n on are forgotten -/
theorem RS.cut (h : RS K A Hi s H) (n : Nat) : RS K (A.take n) Hi (s.take n) H := by
  refine ⟨h.sub, fun a m => h.out a (List.mem_of_mem_take m), h.nd.sublist (List.take_sublist _ _), by rw [List.length_take, List.length_take, h.len], fun i a ds ha hs => ?_, h.tab, h.nt⟩
  rw [List.getElem?_take] at ha hs
  split at ha
  · rename_i q
    rw [if_pos q] at hs
    exact h.cel i a ds ha hs
  · cases ha
/-- a list of the store that is forgotten stands for ever -/
theorem RS.freeze (h : RS K A Hi s H) {n m : Nat} {a : Addr} {xs : List V} (hn : n ≤ m) (ha : A[m]? = some a) (hx : H a = some (.lst xs)) : RS K (A.take n) (upd Hi a (.lst xs)) (s.take n) H := by
  have c := h.cut n
  have hp : Hi a = none := h.out a (List.mem_of_getElem? ha)
  refine ⟨fun b u e => ?_, fun b q => ?_, c.nd, c.len, fun i b ds hb hs => ?_, h.tab, nt_upd h.nt (by intro _ z; cases z)⟩
  · by_cases q : b = a
    · subst q
      rw [upd_same] at e
      rw [hx]
      exact e
    · rw [upd_ne q] at e
      exact h.sub _ _ e
  · have hne : b ≠ a := fun z => by
      subst z
      obtain ⟨i, hi⟩ := List.getElem?_of_mem q
      rw [List.getElem?_take] at hi
      split at hi
      · rename_i l
        have := nd_ix h.nd hi ha
        omega
      · cases hi
    rw [upd_ne hne]
    exact c.out b q
  · obtain ⟨ys, e, d⟩ := c.cel i b ds hb hs
    exact ⟨ys, e, DqA.mono (same_upd hp) _ _ d⟩
end
/-- how heaps go on: what never changes goes on, what is tracked beside the store stands, only new things become unchanging -/
structure Ext (A : List Addr) (Hi H Hi' H' : Hp) : Prop where
  same : Same Hi Hi'
  keep : ∀ b o, b ∉ A → (∀ ps : Array Value, o ≠ .tbl ps) → H b = some o → H' b = some o
  there : ∀ b, H' b = none → H b = none
  new : ∀ b, Hi b = none → H b ≠ none → Hi' b = none
theorem Ext.refl {A : List Addr} {Hi H : Hp} : Ext A Hi H Hi H := ⟨Same.refl _, fun _ _ _ _ e => e, fun _ e => e, fun _ e _ => e⟩
theorem Ext.trans {A : List Addr} {Hi H Hi1 H1 Hi2 H2 : Hp} (a : Ext A Hi H Hi1 H1) (b : Ext A Hi1 H1 Hi2 H2) : Ext A Hi H Hi2 H2 :=
  ⟨a.same.trans b.same, fun c o n k e => b.keep c o n k (a.keep c o n k e), fun c e => a.there c (b.there c e), fun c e n => b.new c (a.new c e n) fun q => n (a.there c q)⟩
theorem Ext.fresh {A : List Addr} {Hi H : Hp} {p : Addr} {o : HO} (n : H p = none) (m : Hi p = none) : Ext A Hi H (upd Hi p o) (upd H p o) := by
  refine ⟨same_upd m, fun b u _ _ e => ?_, fun b e => ?_, fun b e q => ?_⟩
  · rw [upd_ne (ne_of_none e n)]
    exact e
  · by_cases q : b = p
    · subst q
      rw [upd_same] at e
      cases e
    · rw [upd_ne q] at e
      exact e
  · by_cases z : b = p
    · subst z
      exact absurd n q
    · rw [upd_ne z]
      exact e
theorem Ext.fresh1 {A : List Addr} {Hi H : Hp} {p : Addr} {o : HO} (n : H p = none) : Ext A Hi H Hi (upd H p o) := by
  refine ⟨Same.refl _, fun b u _ _ e => ?_, fun b e => ?_, fun b e q => e⟩
  · rw [upd_ne (ne_of_none e n)]
    exact e
  · by_cases q : b = p
    · subst q
      exact n
    · rw [upd_ne q] at e
      exact e
theorem Ext.put {A : List Addr} {Hi H : Hp} {p : Addr} {o : HO} (m : p ∈ A) : Ext A Hi H Hi (upd H p o) := by
  refine ⟨Same.refl _, fun b u q _ e => ?_, fun b e => ?_, fun b e q => e⟩
  · rw [upd_ne (fun z => q (by rw [z]; exact m))]
    exact e
  · by_cases q : b = p
    · subst q
      rw [upd_same] at e
      cases e
    · rw [upd_ne q] at e
      exact e
/-- the same, more lists in the store -/
structure ExtS (A : List Addr) (Hi H : Hp) (A' : List Addr) (Hi' H' : Hp) : Prop where
  ext : Ext A Hi H Hi' H'
  pre : A <+: A'
  nw : ∀ a ∈ A', a ∉ A → H a = none
theorem ExtS.refl {A : List Addr} {Hi H : Hp} : ExtS A Hi H A Hi H := ⟨.refl, List.prefix_refl _, fun _ m n => absurd m n⟩
theorem Ext.s {A : List Addr} {Hi H Hi' H' : Hp} (e : Ext A Hi H Hi' H') : ExtS A Hi H A Hi' H' := ⟨e, List.prefix_refl _, fun _ m n => absurd m n⟩
theorem ExtS.trans {A A1 A2 : List Addr} {Hi H Hi1 H1 Hi2 H2 : Hp} (a : ExtS A Hi H A1 Hi1 H1) (b : ExtS A1 Hi1 H1 A2 Hi2 H2) : ExtS A Hi H A2 Hi2 H2 := by
  refine ⟨⟨a.ext.same.trans b.ext.same, fun c o n k e => ?_, fun c e => a.ext.there c (b.ext.there c e), fun c e n => b.ext.new c (a.ext.new c e n) fun q => n (a.ext.there c q)⟩, a.pre.trans b.pre, fun c m n => ?_⟩
  · refine b.ext.keep c o (fun q => ?_) k (a.ext.keep c o n k e)
    have := a.nw c q n
    rw [e] at this
    cases this
  · by_cases q : c ∈ A1
    · exact a.nw c q n
    · exact a.ext.there c (b.nw c m q)
/-- what is wanted of an outcome -/
def PO {α β : Type} (K : PySem.W.Frag) (A : List Addr) (Hi H : Hp) (XR : XRel) (E : XK) (R : Hp → Hp → α → β → Prop) (Q : β → Hp → Prop) : Out α → Prop
  | .ok x s => ∀ v Hi' H', Ext A Hi H Hi' H' → RS K A Hi' s H' → R Hi' H' x v → Q v H'
  | .exc x s => ∀ cls d Hi' H', Ext A Hi H Hi' H' → RS K A Hi' s H' → XR x Hi' cls d → E cls d H'
  | .bad => False
abbrev RD (K : PySem.W.Frag) : Hp → Hp → PyData → V → Prop := fun Hi _ x v => Dq K Hi x v
abbrev RB : Hp → Hp → Bool → Bool → Prop := fun _ _ b c => b = c
/-- a list that nobody else holds -/
abbrev RF (K : PySem.W.Frag) (A : List Addr) (H0 : Hp) : Hp → Hp → List PyData → V → Prop := fun Hi H ds v => ∃ p xs, v = .ref p ∧ H p = some (.lst xs) ∧ Hi p = none ∧ H0 p = none ∧ p ∉ A ∧ DqA K Hi ds xs
section
variable {K : PySem.W.Frag} {A : List Addr} {Hi H Hi' H' : Hp} {XR : XRel} {E : XK} {α β γ δ : Type} {R : Hp → Hp → α → β → Prop} {R' : Hp → Hp → γ → δ → Prop} {Q : β → Hp → Prop} {Q' : δ → Hp → Prop}
theorem PO.back {o : Out α} (e : Ext A Hi H Hi' H') (h : PO K A Hi H XR E R Q o) : PO K A Hi' H' XR E R Q o := by
  cases o with
  | ok x s => exact fun v H1 H2 e1 r d => h v H1 H2 (e.trans e1) r d
  | exc x s => exact fun c d H1 H2 e1 r q => h c d H1 H2 (e.trans e1) r q
  | bad => exact h
theorem PO.bind {o : Out α} {k : α → Sto → Out γ} (h : PO K A Hi H XR E R' Q' (o.bind k))
    (g : ∀ x s v Hi1 H1, o = .ok x s → Ext A Hi H Hi1 H1 → RS K A Hi1 s H1 → R Hi1 H1 x v → PO K A Hi1 H1 XR E R' Q' (k x s) → Q v H1) : PO K A Hi H XR E R Q o := by
  cases o with
  | ok x s => exact fun v H1 H2 e1 r d => g x s v H1 H2 rfl e1 r d (PO.back e1 h)
  | exc x s => exact h
  | bad => exact h
theorem PO.use {x : α} {s : Sto} {v : β} (h : PO K A Hi H XR E R Q (.ok x s)) (r : RS K A Hi s H) (d : R Hi H x v) : Q v H := h v Hi H .refl r d
theorem PO.out {x : α} {s : Sto} {v : β} (h : PO K A Hi H XR E R Q (.ok x s)) (e : Ext A Hi H Hi' H') (r : RS K A Hi' s H') (d : R Hi' H' x v) : Q v H' := h v Hi' H' e r d
end
/-- what is wanted of a statement's outcome -/
def PF (K : PySem.W.Frag) (A : List Addr) (Hi H : Hp) (XR : XRel) (E : XK) (D : Ends) : Fl → Prop
  | .nx ρ s => ∀ A' Hi' σ' H', ExtS A Hi H A' Hi' H' → RS K A' Hi' s H' → RE K A' Hi' ρ σ' → D.nx σ' H'
  | .bk ρ s => ∀ A' Hi' σ' H', ExtS A Hi H A' Hi' H' → RS K A' Hi' s H' → RE K A' Hi' ρ σ' → D.bk σ' H'
  | .ct ρ s => ∀ A' Hi' σ' H', ExtS A Hi H A' Hi' H' → RS K A' Hi' s H' → RE K A' Hi' ρ σ' → D.ct σ' H'
  | .rt x s => ∀ A' Hi' v H', ExtS A Hi H A' Hi' H' → RS K A' Hi' s H' → RSl K A' Hi' x v → D.rt v H'
  | .exc x s => ∀ cls d A' Hi' H', ExtS A Hi H A' Hi' H' → RS K A' Hi' s H' → XR x Hi' cls d → E cls d H'
  | .bad => False
theorem PF.back {K : PySem.W.Frag} {A A1 : List Addr} {Hi H Hi1 H1 : Hp} {XR : XRel} {E : XK} {D : Ends} {o : Fl} (e : ExtS A Hi H A1 Hi1 H1) (h : PF K A Hi H XR E D o) : PF K A1 Hi1 H1 XR E D o := by
  cases o with
  | nx ρ s => exact fun A' Hi' σ' H' e1 => h A' Hi' σ' H' (e.trans e1)
  | bk ρ s => exact fun A' Hi' σ' H' e1 => h A' Hi' σ' H' (e.trans e1)
  | ct ρ s => exact fun A' Hi' σ' H' e1 => h A' Hi' σ' H' (e.trans e1)
  | rt x s => exact fun A' Hi' v H' e1 => h A' Hi' v H' (e.trans e1)
  | exc x s => exact fun c d A' Hi' H' e1 => h c d A' Hi' H' (e.trans e1)
  | bad => exact h
/-! ### the judgements -/
section
variable (X : Cx) (XR : XRel) (E : XK)
def SE (e : Expr) (f : ME) : Prop := ∃ t, PE X e t ∧ ∀ A Hi ρ s σ H, RS X.K A Hi s H → RE X.K A Hi ρ σ → ∀ Q : VK, PO X.K A Hi H XR E (RD X.K) Q (f ρ s) → t σ H Q
def ST (e : Expr) (f : MT) : Prop := ∃ t, PT X e t ∧ ∀ A Hi ρ s σ H, RS X.K A Hi s H → RE X.K A Hi ρ σ → ∀ Q : Bool → Hp → Prop, PO X.K A Hi H XR E RB Q (f ρ s) → t σ H Q
def SW (e : Expr) (f : MT) : Prop := ∃ t, PW X e t ∧ ∀ A Hi ρ s σ H, RS X.K A Hi s H → RE X.K A Hi ρ σ → ∀ Q : Bool → Hp → Prop, PO X.K A Hi H XR E RB Q (f ρ s) → t σ H Q
def SL (e : Expr) (f : ML) : Prop := ∃ t, PE X e t ∧ ∀ A Hi ρ s σ H, RS X.K A Hi s H → RE X.K A Hi ρ σ → ∀ Q : VK, PO X.K A Hi H XR E (fun Hi _ => RSl X.K A Hi) Q (f ρ s) → t σ H Q
def SA (es : List Expr) (f : MA) : Prop := ∃ t, PA X es t ∧ ∀ A Hi ρ s σ H, RS X.K A Hi s H → RE X.K A Hi ρ σ → ∀ Q : List V → Hp → Prop, PO X.K A Hi H XR E (fun Hi _ => RL X.K A Hi) Q (f ρ s) → t σ H Q
def SD (es : List Expr) (f : MD) : Prop := ∃ t, PA X es t ∧ ∀ A Hi ρ s σ H, RS X.K A Hi s H → RE X.K A Hi ρ σ → ∀ Q : List V → Hp → Prop, PO X.K A Hi H XR E (fun Hi _ => DqA X.K Hi) Q (f ρ s) → t σ H Q
/-- gives a list that nobody else holds -/
def SC (e : Expr) (f : MD) : Prop := ∃ t, PE X e t ∧ ∀ A Hi ρ s σ H, RS X.K A Hi s H → RE X.K A Hi ρ σ → ∀ Q : VK, PO X.K A Hi H XR E (RF X.K A H) Q (f ρ s) → t σ H Q
def SS (st : Stmt) (g : MS) : Prop := ∃ t, PS X st t ∧ ∀ A Hi ρ s σ H, RS X.K A Hi s H → RE X.K A Hi ρ σ → ∀ D, PF X.K A Hi H XR E D (g ρ s) → t D σ H
def SB (sts : List Stmt) (g : MS) : Prop := ∃ t, PSs X sts t ∧ ∀ A Hi ρ s σ H, RS X.K A Hi s H → RE X.K A Hi ρ σ → ∀ D, PF X.K A Hi H XR E D (g ρ s) → t D σ H
end
end Mir

namespace Mir
open PySem PySem.Spec PyProof.Rows L2
variable [Tb]
section
variable {X : Cx} {XR : XRel} {E : XK}

/-! ### names, constants -/
def eVar (i : Nat) : ME := fun ρ s => match ρ[i]? with
  | some (some (.d x)) => .ok x s
  | _ => .bad
def lVar (i : Nat) : ML := fun ρ s => match ρ[i]? with
  | some (some x) => .ok x s
  | _ => .bad
def eC (x : PyData) : ME := fun _ s => .ok x s
theorem se_var (i : Nat) {x : Str} {pos : Pos} (hN : X.N[i]? = some x := by rfl) (hv : Vis X.env.scope x := by first | exact Or.inl rfl | exact Or.inr (Or.inl rfl) | exact Or.inr (Or.inr rfl)) (hd : (x == ("__debug__" : Str)) = false := by decide)
    (hcd : (x == ("__classdict__" : Str)) = false := by decide) : SE X XR E (.Name x pos) (eVar i) := by
  refine ⟨_, pe_var hN hv hd hcd, fun A Hi ρ s σ H r re Q h => ?_⟩
  unfold eVar at h
  split at h
  · rename_i y e
    obtain ⟨v, h1, h2⟩ := re.2 i _ e
    exact ⟨v, h1, h.use r h2⟩
  · exact h.elim
theorem sl_var (i : Nat) {x : Str} {pos : Pos} (hN : X.N[i]? = some x := by rfl) (hv : Vis X.env.scope x := by first | exact Or.inl rfl | exact Or.inr (Or.inl rfl) | exact Or.inr (Or.inr rfl)) (hd : (x == ("__debug__" : Str)) = false := by decide)
    (hcd : (x == ("__classdict__" : Str)) = false := by decide) : SL X XR E (.Name x pos) (lVar i) := by
  refine ⟨_, pe_var hN hv hd hcd, fun A Hi ρ s σ H r re Q h => ?_⟩
  unfold lVar at h
  split at h
  · rename_i y e
    obtain ⟨v, h1, h2⟩ := re.2 i _ e
    exact ⟨v, h1, h.use r h2⟩
  · exact h.elim
theorem se_c {e : Expr} {v : V} {x : PyData} (h : PE X e (tC v)) (d : ∀ Hi, Dq X.K Hi x v) : SE X XR E e (eC x) := ⟨_, h, fun _ Hi _ _ _ _ r _ _ h => h.use r (d Hi)⟩
theorem se_int {i j pos} : SE X XR E (.Constant (.int i) j pos) (eC (.int i)) := se_c pe_int fun _ => rfl
theorem se_bl {b j pos} : SE X XR E (.Constant (.bool b) j pos) (eC (.bool b)) := se_c pe_bl fun _ => rfl
theorem se_non {j pos} : SE X XR E (.Constant .none j pos) (eC .none) := se_c pe_non fun _ => rfl
theorem se_str {x j pos} : SE X XR E (.Constant (.str x) j pos) (eC (.str x)) := se_c pe_str fun _ => rfl
theorem se_gint {x : Str} {i : Int} {t : Tok} {pos : Pos} (hg : Gl X x) (hm : X.mg x = some (.int i t)) (hd : (x == ("__debug__" : Str)) = false := by decide) : SE X XR E (.Name x pos) (eC (.int i)) := se_c (v := .int i) (pe_glob hg hm ⟨_, rfl⟩ hd) fun _ => rfl
def eL (f : ME) : ML := fun ρ s => (f ρ s).bind fun x s => .ok (.d x) s
theorem sl_e {e : Expr} {f : ME} (h : SE X XR E e f) : SL X XR E e (eL f) := by
  obtain ⟨t, p, q⟩ := h
  exact ⟨t, p, fun A Hi ρ s σ H r re Q h => q A Hi ρ s σ H r re Q (PO.bind h fun x s1 v Hi1 H1 _ _ r1 d h1 => PO.use (R := fun Hi _ => RSl X.K A Hi) (x := Sl.d x) h1 r1 d)⟩

/-! ### one, two parts -/
def eUn (g : PyData → Sto → Out PyData) (fa : ME) : ME := fun ρ s => (fa ρ s).bind g
def eBin (g : PyData → PyData → Sto → Out PyData) (fa fb : ME) : ME := fun ρ s => (fa ρ s).bind fun x s1 => (fb ρ s1).bind fun y s2 => g x y s2
def GU (X : Cx) (XR : XRel) (E : XK) (r : V → Hp → VK → Prop) (g : PyData → Sto → Out PyData) : Prop := ∀ A Hi s H x v Q, RS X.K A Hi s H → Dq X.K Hi x v → PO X.K A Hi H XR E (RD X.K) Q (g x s) → r v H Q
def GB (X : Cx) (XR : XRel) (E : XK) (r : R2) (g : PyData → PyData → Sto → Out PyData) : Prop := ∀ A Hi s H x y v w Q, RS X.K A Hi s H → Dq X.K Hi x v → Dq X.K Hi y w → PO X.K A Hi H XR E (RD X.K) Q (g x y s) → r v w H Q
theorem se_un {a e : Expr} {fa : ME} {r : V → Hp → VK → Prop} {g : PyData → Sto → Out PyData} (he : ∀ ta, PE X a ta → PE X e (tUn r ta)) (hg : GU X XR E r g) (ha : SE X XR E a fa) : SE X XR E e (eUn g fa) := by
  obtain ⟨ta, pa, qa⟩ := ha
  exact ⟨_, he _ pa, fun A Hi ρ s σ H r re Q h => qa A Hi ρ s σ H r re _ (PO.bind h fun x s1 v Hi1 H1 _ _ r1 d h1 => hg A Hi1 s1 H1 x v Q r1 d h1)⟩
theorem se_bin {a b e : Expr} {fa fb : ME} {r : R2} {g : PyData → PyData → Sto → Out PyData} (he : ∀ ta tb, PE X a ta → PE X b tb → PE X e (tOp r ta tb)) (hg : GB X XR E r g) (ha : SE X XR E a fa) (hb : SE X XR E b fb) : SE X XR E e (eBin g fa fb) := by
  obtain ⟨ta, pa, qa⟩ := ha
  obtain ⟨tb, pb, qb⟩ := hb
  refine ⟨_, he _ _ pa pb, fun A Hi ρ s σ H r re Q h => ?_⟩
  refine qa A Hi ρ s σ H r re _ (PO.bind h fun x s1 v Hi1 H1 _ e1 r1 d h1 => ?_)
  refine qb A Hi1 ρ s1 σ H1 r1 (re.mono e1.same (List.prefix_refl _)) _ (PO.bind h1 fun y s2 w Hi2 H2 _ e2 r2 d2 h2 => ?_)
  exact hg A Hi2 s2 H2 x y v w Q r2 (Dq.mono e2.same _ _ d) d2 h2

/-! ### arithmetic -/
def CDivB (_ j : Int) : Prop := j ≠ 0 ∧ j.natAbs.log2 < 9000
def CPowB (i j : Int) : Prop := 0 ≤ j ∧ (Builtin.Int.intBits i : Int) * j ≤ 2 ^ 27
def CMulB (i j : Int) : Prop := i.natAbs < 2 ^ 64 ∨ j.natAbs < 2 ^ 64 ∨ i.natAbs.log2 + j.natAbs.log2 < 1000000
instance {i j : Int} : Decidable (CDivB i j) := inferInstanceAs (Decidable (_ ∧ _))
instance {i j : Int} : Decidable (CPowB i j) := inferInstanceAs (Decidable (_ ∧ _))
instance {i j : Int} : Decidable (CMulB i j) := inferInstanceAs (Decidable (_ ∨ _))
theorem op_fdivB : OpR X (binaryOp .FloorDiv) (rI CDivB fun i j => .int (i.fdiv j)) := opI fun _ _ _ _ _ _ _ hc q => floordiv_int hc.1 q (.inl (PyProof.noPylong_of_log2 hc.2))
theorem op_powB : OpR X (binaryOp .Pow) (rI CPowB fun i j => .int (i ^ j.toNat)) := opI fun _ _ _ _ _ _ _ hc q => pow_int hc.1 hc.2 q
theorem op_mulB : OpR X (binaryOp .Mult) (rI CMulB fun i j => .int (i * j)) := opI fun i j _ _ _ _ _ hc q => mul_int q (by
  rcases hc with h | h | h
  · exact CMul.ok (.inl ⟨by omega, by omega⟩)
  · exact CMul.ok (.inr ⟨by omega, by omega⟩)
  · exact CMulW.ok h)
/-- one of two rules, by the values -/
def rOr (r r' : R2) : R2 := fun x y H Q => r x y H Q ∨ r' x y H Q
theorem op_or2 {f : Value → Value → Sem Value} {r r' : R2} (h : OpR X f r) (h' : OpR X f r') : OpR X f (rOr r r') := by
  intro pins s σ H x y v u Q I rx ry q
  rcases q with q | q
  · exact h pins s σ H x y v u Q I rx ry q
  · exact h' pins s σ H x y v u Q I rx ry q
theorem GB.or1 {r r' : R2} {g : PyData → PyData → Sto → Out PyData} {x y : PyData} {s : Sto} {A : List Addr} {Hi H : Hp} {v w : V} {Q : VK} (h : r v w H Q) : rOr r r' v w H Q := .inl h
def gAdd : PyData → PyData → Sto → Out PyData := fun x y s => match x, y with
  | .int i, .int j => .ok (.int (i + j)) s
  | .tuple a, .tuple b => if a.length + b.length ≤ 100000 then .ok (.tuple (a ++ b)) s else .bad
  | .list a, .list b => if a.length + b.length ≤ 100000 then .ok (.list (a ++ b)) s else .bad
  | _, _ => .bad
theorem gb_add : GB X XR E (rOr (rI0 fun i j => .int (i + j)) (rOr (rCatA X.K) rCat)) gAdd := by
  intro A Hi s H x y v w Q r dx dy h
  unfold gAdd at h
  split at h
  · cases (show v = .int _ from dx)
    cases (show w = .int _ from dy)
    exact .inl ⟨_, _, rfl, rfl, h.use r rfl⟩
  · obtain ⟨a, xs, rfl, h1, h2⟩ := dx
    obtain ⟨b, ys, rfl, h3, h4⟩ := dy
    split at h
    · rename_i hl
      have l1 := h2.length
      have l2 := h4.length
      refine .inr (.inl ⟨a, b, xs, ys, rfl, rfl, sqt_mono r.sub h1, sqt_mono r.sub h3, by rw [l1, l2]; exact Nat.le_trans hl (by decide), fun e => ?_, fun _ e => ?_, fun _ _ p hp => ?_⟩)
      · refine h.use r ⟨b, ys, rfl, h3, ?_⟩
        have := DqA.append h2 h4
        rw [e] at this
        exact this
      · refine h.use r ⟨a, xs, rfl, h1, ?_⟩
        have := DqA.append h2 h4
        rw [e, List.append_nil] at this
        exact this
      · refine h.out (Ext.fresh hp (r.fresh hp)) (r.new hp) ⟨p, _, rfl, SqT.of upd_same, ?_⟩
        exact DqA.mono (same_upd (r.fresh hp)) _ _ (DqA.append h2 h4)
    · exact h.elim
  · obtain ⟨a, xs, rfl, h1, h2⟩ := dx
    obtain ⟨b, ys, rfl, h3, h4⟩ := dy
    split at h
    · rename_i hl
      have l1 := h2.length
      have l2 := h4.length
      refine .inr (.inr ⟨a, b, xs, ys, rfl, rfl, r.sub _ _ h1, r.sub _ _ h3, by rw [l1, l2]; exact Nat.le_trans hl (by decide), fun p hp => ?_⟩)
      refine h.out (Ext.fresh hp (r.fresh hp)) (r.new hp) ⟨p, _, rfl, upd_same, ?_⟩
      exact DqA.mono (same_upd (r.fresh hp)) _ _ (DqA.append h2 h4)
    · exact h.elim
  · exact h.elim
def gI (C : Int → Int → Prop) [∀ i j, Decidable (C i j)] (f : Int → Int → Int) : PyData → PyData → Sto → Out PyData := fun x y s => match x, y with
  | .int i, .int j => if C i j then .ok (.int (f i j)) s else .bad
  | _, _ => .bad
theorem gb_i {C : Int → Int → Prop} [∀ i j, Decidable (C i j)] {f : Int → Int → Int} : GB X XR E (rI C fun i j => .int (f i j)) (gI C f) := by
  intro A Hi s H x y v w Q r dx dy h
  unfold gI at h
  split at h
  · cases (show v = .int _ from dx)
    cases (show w = .int _ from dy)
    split at h
    · rename_i hc
      exact ⟨_, _, rfl, rfl, hc, h.use r rfl⟩
    · exact h.elim
  · exact h.elim
def gSub : PyData → PyData → Sto → Out PyData := fun x y s => match x, y with
  | .int i, .int j => .ok (.int (i - j)) s
  | _, _ => .bad
theorem gb_sub : GB X XR E (rI0 fun i j => .int (i - j)) gSub := by
  intro A Hi s H x y v w Q r dx dy h
  unfold gSub at h
  split at h
  · cases (show v = .int _ from dx)
    cases (show w = .int _ from dy)
    exact ⟨_, _, rfl, rfl, h.use r rfl⟩
  · exact h.elim
theorem se_add {a b : Expr} {fa fb : ME} {pos : Pos} (ha : SE X XR E a fa) (hb : SE X XR E b fb) : SE X XR E (.BinOp a .Add b pos) (eBin gAdd fa fb) :=
  se_bin (fun _ _ p q => pe_op (op_or2 op_add (op_or2 op_catA op_cat)) p q) gb_add ha hb
theorem se_sub {a b : Expr} {fa fb : ME} {pos : Pos} (ha : SE X XR E a fa) (hb : SE X XR E b fb) : SE X XR E (.BinOp a .Sub b pos) (eBin gSub fa fb) := se_bin (fun _ _ p q => pe_op op_sub p q) gb_sub ha hb
abbrev gMul := gI CMulB fun i j => i * j
abbrev gMod := gI (fun _ j => 0 < j) fun i j => i % j
abbrev gFdiv := gI CDivB fun i j => i.fdiv j
abbrev gPow := gI CPowB fun i j => i ^ j.toNat
theorem se_mul {a b : Expr} {fa fb : ME} {pos : Pos} (ha : SE X XR E a fa) (hb : SE X XR E b fb) : SE X XR E (.BinOp a .Mult b pos) (eBin gMul fa fb) := se_bin (fun _ _ p q => pe_op op_mulB p q) gb_i ha hb
theorem se_mod {a b : Expr} {fa fb : ME} {pos : Pos} (ha : SE X XR E a fa) (hb : SE X XR E b fb) : SE X XR E (.BinOp a .Mod b pos) (eBin gMod fa fb) := se_bin (fun _ _ p q => pe_op op_mod p q) gb_i ha hb
theorem se_fdiv {a b : Expr} {fa fb : ME} {pos : Pos} (ha : SE X XR E a fa) (hb : SE X XR E b fb) : SE X XR E (.BinOp a .FloorDiv b pos) (eBin gFdiv fa fb) := se_bin (fun _ _ p q => pe_op op_fdivB p q) gb_i ha hb
theorem se_pow {a b : Expr} {fa fb : ME} {pos : Pos} (ha : SE X XR E a fa) (hb : SE X XR E b fb) : SE X XR E (.BinOp a .Pow b pos) (eBin gPow fa fb) := se_bin (fun _ _ p q => pe_op op_powB p q) gb_i ha hb
def gNeg : PyData → Sto → Out PyData := fun x s => match x with
  | .int i => .ok (.int (-i)) s
  | _ => .bad
theorem se_neg {a : Expr} {fa : ME} {pos : Pos} (ha : SE X XR E a fa) : SE X XR E (.UnaryOp .USub a pos) (eUn gNeg fa) :=
  se_un (fun _ p => pe_un un_neg p) (fun A Hi s H x v Q r d h => by
    unfold gNeg at h
    split at h
    · cases (show v = .int _ from d)
      exact ⟨_, rfl, h.use r rfl⟩
    · exact h.elim) ha

/-! ### comparisons -/
def gCmp (p : Int → Int → Bool) : PyData → PyData → Sto → Out PyData := fun x y s => match x, y with
  | .int i, .int j => .ok (.bool (p i j)) s
  | _, _ => .bad
theorem gb_cmp {p : Int → Int → Bool} : GB X XR E (rI0 fun i j => .bl (p i j)) (gCmp p) := by
  intro A Hi s H x y v w Q r dx dy h
  unfold gCmp at h
  split at h
  · cases (show v = .int _ from dx)
    cases (show w = .int _ from dy)
    exact ⟨_, _, rfl, rfl, h.use r rfl⟩
  · exact h.elim
abbrev gLt := gCmp fun i j => decide (i < j)
abbrev gLe := gCmp fun i j => decide (i ≤ j)
abbrev gGt := gCmp fun i j => decide (j < i)
abbrev gGe := gCmp fun i j => decide (j ≤ i)
theorem se_lt {a b : Expr} {fa fb : ME} {pos : Pos} (ha : SE X XR E a fa) (hb : SE X XR E b fb) : SE X XR E (.Compare a [.Lt] [b] pos) (eBin gLt fa fb) := se_bin (fun _ _ p q => pe_cmpR op_lt p q (nomark _)) gb_cmp ha hb
theorem se_le {a b : Expr} {fa fb : ME} {pos : Pos} (ha : SE X XR E a fa) (hb : SE X XR E b fb) : SE X XR E (.Compare a [.LtE] [b] pos) (eBin gLe fa fb) := se_bin (fun _ _ p q => pe_cmpR op_le p q (nomark _)) gb_cmp ha hb
theorem se_gt {a b : Expr} {fa fb : ME} {pos : Pos} (ha : SE X XR E a fa) (hb : SE X XR E b fb) : SE X XR E (.Compare a [.Gt] [b] pos) (eBin gGt fa fb) := se_bin (fun _ _ p q => pe_cmpR op_gt p q (nomark _)) gb_cmp ha hb
theorem se_ge {a b : Expr} {fa fb : ME} {pos : Pos} (ha : SE X XR E a fa) (hb : SE X XR E b fb) : SE X XR E (.Compare a [.GtE] [b] pos) (eBin gGe fa fb) := se_bin (fun _ _ p q => pe_cmpR op_ge p q (nomark _)) gb_cmp ha hb
def gEq (neg : Bool) : PyData → PyData → Sto → Out PyData := fun x y s => if SeqAt.shaped x = true ∧ SeqAt.shaped y = true then .ok (.bool (neg != PyData.eqv x y)) s else .bad
theorem gb_eq : GB X XR E (rEqD X.K) (gEq false) := fun A Hi s H x y v w Q r dx dy h => by
  unfold gEq at h
  split at h
  · rename_i c
    refine ⟨x, y, Dq.dp x v (SeqAt.canLay_of_shaped c.1) (Dq.mono r.sub _ _ dx), Dq.dp y w (SeqAt.canLay_of_shaped c.2) (Dq.mono r.sub _ _ dy), c.1, c.2, ?_⟩
    refine h.use r ?_
    show _ = _
    simp
  · exact h.elim
theorem gb_ne : GB X XR E (rNeD X.K) (gEq true) := fun A Hi s H x y v w Q r dx dy h => by
  unfold gEq at h
  split at h
  · rename_i c
    refine ⟨x, y, Dq.dp x v (SeqAt.canLay_of_shaped c.1) (Dq.mono r.sub _ _ dx), Dq.dp y w (SeqAt.canLay_of_shaped c.2) (Dq.mono r.sub _ _ dy), c.1, c.2, ?_⟩
    refine h.use r ?_
    show _ = _
    simp
  · exact h.elim
theorem se_eq {a b : Expr} {fa fb : ME} {pos : Pos} (hu : X.A.units + 64 < cLine) (ha : SE X XR E a fa) (hb : SE X XR E b fb) : SE X XR E (.Compare a [.Eq] [b] pos) (eBin (gEq false) fa fb) := se_bin (fun _ _ p q => pe_cmpR (op_eqD hu) p q (nomark _)) gb_eq ha hb
theorem se_ne {a b : Expr} {fa fb : ME} {pos : Pos} (hu : X.A.units + 64 < cLine) (ha : SE X XR E a fa) (hb : SE X XR E b fb) : SE X XR E (.Compare a [.NotEq] [b] pos) (eBin (gEq true) fa fb) := se_bin (fun _ _ p q => pe_cmpR (op_neD hu) p q (nomark _)) gb_ne ha hb
/-- is, is not: of bools, and of anything with None -/
def gIs (neg : Bool) : PyData → PyData → Sto → Out PyData := fun x y s => match x, y with
  | .bool a, .bool b => .ok (.bool (neg != decide (a = b))) s
  | .none, .none => .ok (.bool (neg != true)) s
  | _, .none => .ok (.bool (neg != false)) s
  | _, _ => .bad
theorem dq_non {K : PySem.W.Frag} {Hi : Hp} {x : PyData} {v : V} (d : Dq K Hi x v) : decide (v = .non) = (match x with | .none => true | _ => false) := by
  cases x <;> first
    | (cases (show v = _ from d); rfl)
    | (obtain ⟨a, xs, rfl, _, _⟩ := d; rfl)
    | (obtain ⟨_, a, rfl, _⟩ := d; rfl)
theorem gb_is : GB X XR E (rOr rIsB (fun x y H Q => y = .non ∧ Q (.bl (decide (x = .non))) H)) (gIs false) := fun A Hi s H x y v w Q r dx dy h => by
    unfold gIs at h
    split at h
    · cases (show v = _ from dx)
      cases (show w = _ from dy)
      refine .inl ⟨_, _, rfl, rfl, h.use r ?_⟩
      show _ = _
      simp
    · cases (show v = _ from dx)
      cases (show w = _ from dy)
      exact .inr ⟨rfl, h.use r rfl⟩
    · cases (show w = _ from dy)
      refine .inr ⟨rfl, h.use r ?_⟩
      rw [dq_non dx]
      split
      · contradiction
      · rfl
    · exact h.elim
theorem gb_isnot : GB X XR E (rOr rNotB (fun x y H Q => y = .non ∧ Q (.bl (!decide (x = .non))) H)) (gIs true) := fun A Hi s H x y v w Q r dx dy h => by
    unfold gIs at h
    split at h
    · cases (show v = _ from dx)
      cases (show w = _ from dy)
      refine .inl ⟨_, _, rfl, rfl, h.use r ?_⟩
      show _ = _
      simp
    · cases (show v = _ from dx)
      cases (show w = _ from dy)
      exact .inr ⟨rfl, h.use r rfl⟩
    · cases (show w = _ from dy)
      refine .inr ⟨rfl, h.use r ?_⟩
      rw [dq_non dx]
      split
      · contradiction
      · rfl
    · exact h.elim
theorem se_is {a b : Expr} {fa fb : ME} {pos : Pos} (ha : SE X XR E a fa) (hb : SE X XR E b fb) : SE X XR E (.Compare a [.Is] [b] pos) (eBin (gIs false) fa fb) := se_bin (fun _ _ p q => pe_cmpR (op_or2 op_isBl op_isN) p q (nomark _)) gb_is ha hb
theorem se_isnot {a b : Expr} {fa fb : ME} {pos : Pos} (ha : SE X XR E a fa) (hb : SE X XR E b fb) : SE X XR E (.Compare a [.IsNot] [b] pos) (eBin (gIs true) fa fb) := se_bin (fun _ _ p q => pe_cmpR (op_or2 op_notBl op_notN) p q (nomark _)) gb_isnot ha hb
end
end Mir

namespace Mir
open PySem PySem.Spec PyProof.Rows L2
variable [Tb]
section
variable {X : Cx} {XR : XRel} {E : XK}
theorem pfx {A : List Addr} : A <+: A := List.prefix_refl _
/-! ### and, or, not, if .. else -/
def eAnd (fa fb : ME) : ME := fun ρ s => (fa ρ s).bind fun x s => match x with
  | .bool true => fb ρ s
  | .bool false => .ok (.bool false) s
  | _ => .bad
def eOr (fa fb : ME) : ME := fun ρ s => (fa ρ s).bind fun x s => match x with
  | .bool false => fb ρ s
  | .bool true => .ok (.bool true) s
  | _ => .bad
def eNot (fa : ME) : ME := fun ρ s => (fa ρ s).bind fun x s => match x with
  | .bool b => .ok (.bool (!b)) s
  | _ => .bad
variable {a b e : Expr} {rest : List Expr} {fa fb : ME} {pos : Pos}
theorem se_one {op} (h : SE X XR E a fa) : SE X XR E (.BoolOp op [a] pos) fa := by
  obtain ⟨t, p, q⟩ := h
  exact ⟨t, pe_one p, q⟩
theorem se_and (ha : SE X XR E a fa) (hb : SE X XR E (.BoolOp .And (b :: rest) pos) fb) : SE X XR E (.BoolOp .And (a :: b :: rest) pos) (eAnd fa fb) := by
  obtain ⟨ta, pa, qa⟩ := ha
  obtain ⟨tb, pb, qb⟩ := hb
  refine ⟨_, pe_and pa pb, fun A Hi ρ s σ H r re Q h => qa A Hi ρ s σ H r re _ (PO.bind h fun x s1 v Hi1 H1 _ e1 r1 d h1 => ?_)⟩
  split at h1
  · cases (show v = _ from d)
    exact ⟨true, rfl, iteT (qb A Hi1 ρ s1 σ H1 r1 (re.mono e1.same pfx) Q h1)⟩
  · cases (show v = _ from d)
    exact ⟨false, rfl, iteF (h1.use r1 rfl)⟩
  · exact h1.elim
theorem se_or (ha : SE X XR E a fa) (hb : SE X XR E (.BoolOp .Or (b :: rest) pos) fb) : SE X XR E (.BoolOp .Or (a :: b :: rest) pos) (eOr fa fb) := by
  obtain ⟨ta, pa, qa⟩ := ha
  obtain ⟨tb, pb, qb⟩ := hb
  refine ⟨_, pe_or pa pb, fun A Hi ρ s σ H r re Q h => qa A Hi ρ s σ H r re _ (PO.bind h fun x s1 v Hi1 H1 _ e1 r1 d h1 => ?_)⟩
  split at h1
  · cases (show v = _ from d)
    exact ⟨false, rfl, iteF (qb A Hi1 ρ s1 σ H1 r1 (re.mono e1.same pfx) Q h1)⟩
  · cases (show v = _ from d)
    exact ⟨true, rfl, iteT (h1.use r1 rfl)⟩
  · exact h1.elim
theorem se_not (ha : SE X XR E a fa) : SE X XR E (.UnaryOp .Not a pos) (eNot fa) := by
  obtain ⟨ta, pa, qa⟩ := ha
  refine ⟨_, pe_not pa, fun A Hi ρ s σ H r re Q h => qa A Hi ρ s σ H r re _ (PO.bind h fun x s1 v Hi1 H1 _ e1 r1 d h1 => ?_)⟩
  split at h1
  · cases (show v = _ from d)
    exact ⟨_, rfl, h1.use r1 rfl⟩
  · exact h1.elim
/-! ### tests -/
def mE (fa : ME) : MT := fun ρ s => (fa ρ s).bind fun x s => match x with
  | .bool b => .ok b s
  | _ => .bad
def mNot (fa : MT) : MT := fun ρ s => (fa ρ s).bind fun b s => .ok (!b) s
def mAnd (fa fb : MT) : MT := fun ρ s => (fa ρ s).bind fun b s => if b = true then fb ρ s else .ok false s
def mOr (fa fb : MT) : MT := fun ρ s => (fa ρ s).bind fun b s => if b = true then .ok true s else fb ρ s
variable {ma mb : MT}
theorem st_val (h : SE X XR E e fa) (he : ∀ whole, isTrue e X.env whole = (do let v ← whole; standAt e.pos; holding [v] (truthy v)) := by intro _; rfl) : ST X XR E e (mE fa) := by
  obtain ⟨ta, pa, qa⟩ := h
  refine ⟨_, pt_val pa he, fun A Hi ρ s σ H r re Q h => qa A Hi ρ s σ H r re _ (PO.bind h fun x s1 v Hi1 H1 _ e1 r1 d h1 => ?_)⟩
  split at h1
  · cases (show v = _ from d)
    exact ⟨_, rfl, h1.use r1 rfl⟩
  · exact h1.elim
theorem st_bin {r : R2} {g : PyData → PyData → Sto → Out PyData} (he : ∀ ta tb, PE X a ta → PE X b tb → PT X e (tTest (tOp r ta tb))) (hg : GB X XR E r g) (ha : SE X XR E a fa) (hb : SE X XR E b fb) : ST X XR E e (mE (eBin g fa fb)) := by
  obtain ⟨ta, pa, qa⟩ := ha
  obtain ⟨tb, pb, qb⟩ := hb
  refine ⟨_, he _ _ pa pb, fun A Hi ρ s σ H r re Q h => ?_⟩
  have h' : PO X.K A Hi H XR E RB Q ((fa ρ s).bind fun x s1 => (fb ρ s1).bind fun y s2 => (g x y s2).bind fun z s => match z with
    | .bool b => .ok b s
    | _ => .bad) := by
    unfold mE eBin at h
    cases q1 : fa ρ s with
    | ok x s1 =>
      rw [q1] at h
      cases q2 : fb ρ s1 with
      | ok y s2 => simp only [Out.bind, q2] at h ⊢; exact h
      | exc y s2 => simp only [Out.bind, q2] at h ⊢; exact h
      | bad => simp only [Out.bind, q2] at h ⊢; exact h
    | exc x s1 => rw [q1] at h; exact h
    | bad => rw [q1] at h; exact h
  refine qa A Hi ρ s σ H r re _ (PO.bind h' fun x s1 v Hi1 H1 _ e1 r1 d h1 => ?_)
  refine qb A Hi1 ρ s1 σ H1 r1 (re.mono e1.same pfx) _ (PO.bind h1 fun y s2 w Hi2 H2 _ e2 r2 d2 h2 => ?_)
  refine hg A Hi2 s2 H2 x y v w _ r2 (Dq.mono e2.same _ _ d) d2 (PO.bind h2 fun z s3 u Hi3 H3 _ e3 r3 d3 h3 => ?_)
  split at h3
  · cases (show u = _ from d3)
    exact ⟨_, rfl, h3.use r3 rfl⟩
  · exact h3.elim
theorem st_lt (ha : SE X XR E a fa) (hb : SE X XR E b fb) : ST X XR E (.Compare a [.Lt] [b] pos) (mE (eBin gLt fa fb)) := st_bin (fun _ _ p q => pt_cmpR op_lt p q (nomark _)) gb_cmp ha hb
theorem st_le (ha : SE X XR E a fa) (hb : SE X XR E b fb) : ST X XR E (.Compare a [.LtE] [b] pos) (mE (eBin gLe fa fb)) := st_bin (fun _ _ p q => pt_cmpR op_le p q (nomark _)) gb_cmp ha hb
theorem st_gt (ha : SE X XR E a fa) (hb : SE X XR E b fb) : ST X XR E (.Compare a [.Gt] [b] pos) (mE (eBin gGt fa fb)) := st_bin (fun _ _ p q => pt_cmpR op_gt p q (nomark _)) gb_cmp ha hb
theorem st_ge (ha : SE X XR E a fa) (hb : SE X XR E b fb) : ST X XR E (.Compare a [.GtE] [b] pos) (mE (eBin gGe fa fb)) := st_bin (fun _ _ p q => pt_cmpR op_ge p q (nomark _)) gb_cmp ha hb
theorem st_eq (hu : X.A.units + 64 < cLine) (ha : SE X XR E a fa) (hb : SE X XR E b fb) : ST X XR E (.Compare a [.Eq] [b] pos) (mE (eBin (gEq false) fa fb)) := st_bin (fun _ _ p q => pt_cmpR (op_eqD hu) p q (nomark _)) gb_eq ha hb
theorem st_ne (hu : X.A.units + 64 < cLine) (ha : SE X XR E a fa) (hb : SE X XR E b fb) : ST X XR E (.Compare a [.NotEq] [b] pos) (mE (eBin (gEq true) fa fb)) := st_bin (fun _ _ p q => pt_cmpR (op_neD hu) p q (nomark _)) gb_ne ha hb
theorem st_is (ha : SE X XR E a fa) (hb : SE X XR E b fb) : ST X XR E (.Compare a [.Is] [b] pos) (mE (eBin (gIs false) fa fb)) := st_bin (fun _ _ p q => pt_cmpR (op_or2 op_isBl op_isN) p q (nomark _)) gb_is ha hb
theorem st_isnot (ha : SE X XR E a fa) (hb : SE X XR E b fb) : ST X XR E (.Compare a [.IsNot] [b] pos) (mE (eBin (gIs true) fa fb)) := st_bin (fun _ _ p q => pt_cmpR (op_or2 op_notBl op_notN) p q (nomark _)) gb_isnot ha hb
theorem st_not (h : ST X XR E a ma) : ST X XR E (.UnaryOp .Not a pos) (mNot ma) := by
  obtain ⟨ta, pa, qa⟩ := h
  exact ⟨_, pt_not pa, fun A Hi ρ s σ H r re Q h => qa A Hi ρ s σ H r re _ (PO.bind h fun x s1 v Hi1 H1 _ e1 r1 d h1 => by
    cases d
    exact h1.use r1 rfl)⟩
theorem st_w (h : SW X XR E e ma) : ST X XR E e ma := by
  obtain ⟨ta, pa, qa⟩ := h
  exact ⟨_, pa.pt, qa⟩
theorem sw_and1 (h : ST X XR E a ma) : SW X XR E (.BoolOp .And [a] pos) ma := by
  obtain ⟨ta, pa, qa⟩ := h
  exact ⟨_, pw_and1 pa, qa⟩
theorem sw_or1 (h : ST X XR E a ma) : SW X XR E (.BoolOp .Or [a] pos) ma := by
  obtain ⟨ta, pa, qa⟩ := h
  exact ⟨_, pw_or1 pa, qa⟩
theorem sw_and (h : ST X XR E a ma) (g : SW X XR E (.BoolOp .And (b :: rest) pos) mb) : SW X XR E (.BoolOp .And (a :: b :: rest) pos) (mAnd ma mb) := by
  obtain ⟨ta, pa, qa⟩ := h
  obtain ⟨tb, pb, qb⟩ := g
  refine ⟨_, pw_and pa pb, fun A Hi ρ s σ H r re Q h => qa A Hi ρ s σ H r re _ (PO.bind h fun x s1 v Hi1 H1 _ e1 r1 d h1 => ?_)⟩
  cases d
  cases x with
  | true => exact iteT (qb A Hi1 ρ s1 σ H1 r1 (re.mono e1.same pfx) Q h1)
  | false => exact iteF (PO.use (R := RB) (x := false) h1 r1 rfl)
theorem sw_or (h : ST X XR E a ma) (g : SW X XR E (.BoolOp .Or (b :: rest) pos) mb) : SW X XR E (.BoolOp .Or (a :: b :: rest) pos) (mOr ma mb) := by
  obtain ⟨ta, pa, qa⟩ := h
  obtain ⟨tb, pb, qb⟩ := g
  refine ⟨_, pw_or pa pb, fun A Hi ρ s σ H r re Q h => qa A Hi ρ s σ H r re _ (PO.bind h fun x s1 v Hi1 H1 _ e1 r1 d h1 => ?_)⟩
  cases d
  cases x with
  | false => exact iteF (qb A Hi1 ρ s1 σ H1 r1 (re.mono e1.same pfx) Q h1)
  | true => exact iteT (PO.use (R := RB) (x := true) h1 r1 rfl)
def eIf (m : MT) (fa fb : ME) : ME := fun ρ s => (m ρ s).bind fun b s => if b = true then fa ρ s else fb ρ s
theorem se_if {c : Expr} (hc : ST X XR E c ma) (ha : SE X XR E a fa) (hb : SE X XR E b fb) : SE X XR E (.IfExp c a b pos) (eIf ma fa fb) := by
  obtain ⟨tc, pc, qc⟩ := hc
  obtain ⟨ta, pa, qa⟩ := ha
  obtain ⟨tb, pb, qb⟩ := hb
  refine ⟨_, pe_ifExp pc pa pb, fun A Hi ρ s σ H r re Q h => qc A Hi ρ s σ H r re _ (PO.bind h fun x s1 v Hi1 H1 _ e1 r1 d h1 => ?_)⟩
  cases d
  cases x with
  | true => exact iteT (qa A Hi1 ρ s1 σ H1 r1 (re.mono e1.same pfx) Q h1)
  | false => exact iteF (qb A Hi1 ρ s1 σ H1 r1 (re.mono e1.same pfx) Q h1)

/-! ### argument lists -/
def aNil : MA := fun _ s => .ok [] s
def aCons (fl : ML) (fr : MA) : MA := fun ρ s => (fl ρ s).bind fun x s => (fr ρ s).bind fun r s => .ok (x :: r) s
def dNil : MD := fun _ s => .ok [] s
def dCons (fa : ME) (fr : MD) : MD := fun ρ s => (fa ρ s).bind fun x s => (fr ρ s).bind fun r s => .ok (x :: r) s
theorem sa_nil : SA X XR E [] aNil := ⟨_, pa_nil, fun _ _ _ _ _ _ r _ _ h => PO.use (R := fun Hi _ => RL X.K _ Hi) (x := []) h r rfl⟩
theorem sd_nil : SD X XR E [] dNil := ⟨_, pa_nil, fun _ _ _ _ _ _ r _ _ h => PO.use (R := fun Hi _ => DqA X.K Hi) (x := []) h r rfl⟩
theorem sa_cons {fl : ML} {fr : MA} {es : List Expr} (ha : SL X XR E a fl) (hr : SA X XR E es fr) (hst : starEach (a :: es) X.env = (false, eval a X.env) :: starEach es X.env := by rfl) : SA X XR E (a :: es) (aCons fl fr) := by
  obtain ⟨ta, pa, qa⟩ := ha
  obtain ⟨tr, pr, qr⟩ := hr
  refine ⟨_, pa_cons pa pr hst, fun A Hi ρ s σ H r re Q h => ?_⟩
  refine qa A Hi ρ s σ H r re _ (PO.bind h fun x s1 v Hi1 H1 _ e1 r1 d h1 => ?_)
  refine qr A Hi1 ρ s1 σ H1 r1 (re.mono e1.same pfx) _ (PO.bind h1 fun y s2 w Hi2 H2 _ e2 r2 d2 h2 => ?_)
  exact PO.use (R := fun Hi _ => RL X.K A Hi) (x := x :: y) h2 r2 ⟨v, w, rfl, RSl.mono e2.same pfx d, d2⟩
theorem sd_cons {fr : MD} {es : List Expr} (ha : SE X XR E a fa) (hr : SD X XR E es fr) (hst : starEach (a :: es) X.env = (false, eval a X.env) :: starEach es X.env := by rfl) : SD X XR E (a :: es) (dCons fa fr) := by
  obtain ⟨ta, pa, qa⟩ := ha
  obtain ⟨tr, pr, qr⟩ := hr
  refine ⟨_, pa_cons pa pr hst, fun A Hi ρ s σ H r re Q h => ?_⟩
  refine qa A Hi ρ s σ H r re _ (PO.bind h fun x s1 v Hi1 H1 _ e1 r1 d h1 => ?_)
  refine qr A Hi1 ρ s1 σ H1 r1 (re.mono e1.same pfx) _ (PO.bind h1 fun y s2 w Hi2 H2 _ e2 r2 d2 h2 => ?_)
  exact PO.use (R := fun Hi _ => DqA X.K Hi) (x := x :: y) h2 r2 ⟨v, w, rfl, Dq.mono e2.same _ _ d, d2⟩

/-! ### displays -/
def eTup (fd : MD) : ME := fun ρ s => (fd ρ s).bind fun ds s => if ds.length ≤ 100000 then .ok (.tuple ds) s else .bad
def cLst (fd : MD) : MD := fun ρ s => (fd ρ s).bind fun ds s => if ds.length ≤ 100000 then .ok ds s else .bad
theorem sz5 {n : Nat} (h : n ≤ 100000) : n ≤ sizeLine := Nat.le_trans h (by decide)
theorem se_tup {es : List Expr} {fd : MD} {x1} (h : SD X XR E es fd) : SE X XR E (.Tuple es x1 pos) (eTup fd) := by
  obtain ⟨t, p, q⟩ := h
  refine ⟨_, pe_tup p, fun A Hi ρ s σ H r re Q h => q A Hi ρ s σ H r re _ (PO.bind h fun ds s1 vs Hi1 H1 _ e1 r1 d h1 => ?_)⟩
  split at h1
  · rename_i hl
    refine ⟨by rw [d.length]; exact sz5 hl, fun p hp => ?_⟩
    exact h1.out (Ext.fresh hp (r1.fresh hp)) (r1.new hp) ⟨p, vs, rfl, SqT.of upd_same, DqA.mono (same_upd (r1.fresh hp)) _ _ d⟩
  · exact h1.elim
theorem sc_lst {es : List Expr} {fd : MD} (h : SD X XR E es fd) : SC X XR E (.List es pos) (cLst fd) := by
  obtain ⟨t, p, q⟩ := h
  refine ⟨_, pe_lst p, fun A Hi ρ s σ H r re Q h => q A Hi ρ s σ H r re _ (PO.bind h fun ds s1 vs Hi1 H1 _ e1 r1 d h1 => ?_)⟩
  split at h1
  · rename_i hl
    refine ⟨by rw [d.length]; exact sz5 hl, fun p hp => ?_⟩
    exact PO.out (R := RF X.K A H) (x := ds) h1 (Ext.fresh1 hp) (r1.new1 hp) ⟨p, vs, rfl, upd_same, r1.fresh hp, e1.there p hp, r1.notin hp, d⟩
  · exact h1.elim
/-- a list that nobody holds, held for ever -/
def eFr (fd : MD) : ME := fun ρ s => (fd ρ s).bind fun ds s => .ok (.list ds) s
theorem se_sc {fd : MD} (h : SC X XR E e fd) : SE X XR E e (eFr fd) := by
  obtain ⟨t, p, q⟩ := h
  refine ⟨_, p, fun A Hi ρ s σ H r re Q h => ?_⟩
  refine q A Hi ρ s σ H r re Q ?_
  unfold eFr at h
  cases hf : fd ρ s with
  | ok ds s1 =>
    rw [hf] at h
    intro v Hi' H' e1 r1 d
    obtain ⟨a, xs, rfl, h1, h2, hn1, h3, h4⟩ := d
    refine h (.ref a) (upd Hi' a (.lst xs)) H' ⟨e1.same.trans (same_upd h2), e1.keep, e1.there, fun b hb hb2 => ?_⟩ (r1.own h1 h2 h3) ⟨a, xs, rfl, upd_same, DqA.mono (same_upd h2) _ _ h4⟩
    have hne : b ≠ a := fun z => by
      subst z
      exact hb2 hn1
    rw [upd_ne hne]
    exact e1.new b hb hb2
  | exc x s1 =>
    rw [hf] at h
    exact h
  | bad =>
    rw [hf] at h
    exact h
end
end Mir

namespace Mir
open PySem PySem.Spec PyProof.Rows L2
variable [Tb]
section
variable {X : Cx} {XR : XRel} {E : XK} {a b e : Expr} {fa fb : ME} {fl : ML} {pos p : Pos}
/-! ### what is read item by item: tuples, lists, the store's lists, the script -/
def seqOf : Sl → Sto → Option (Bool × List PyData)
  | .d (.tuple xs), _ => some (true, xs)
  | .d (.list xs), _ => some (false, xs)
  | .c n, s => s[n]?.map fun xs => (false, xs)
  | .s ns, _ => some (false, ns.map .int)
  | _, _ => none
theorem dqa_ints {K : PySem.W.Frag} {Hi : Hp} : ∀ ns : List Int, DqA K Hi (ns.map .int) (ns.map V.int)
  | [] => rfl
  | _ :: ns => ⟨_, _, rfl, rfl, dqa_ints ns⟩
theorem seq_rel {K : PySem.W.Frag} {A : List Addr} {Hi H : Hp} {s : Sto} {b : Sl} {v : V} {t : Bool} {ds : List PyData} (r : RS K A Hi s H) (d : RSl K A Hi b v) (e : seqOf b s = some (t, ds)) :
    ∃ a xs, v = .ref a ∧ DqA K Hi ds xs ∧ ((t = true ∧ SqT K H a xs) ∨ (t = false ∧ SqL K H a xs)) := by
  cases b with
  | d x =>
    cases x with
    | tuple ys =>
      have e' : (true, ys) = (t, ds) := Option.some.inj e
      cases e'
      obtain ⟨a, xs, rfl, h1, h2⟩ := d
      exact ⟨a, xs, rfl, h2, .inl ⟨rfl, sqt_mono r.sub h1⟩⟩
    | list ys =>
      have e' : (false, ys) = (t, ds) := Option.some.inj e
      cases e'
      obtain ⟨a, xs, rfl, h1, h2⟩ := d
      exact ⟨a, xs, rfl, h2, .inr ⟨rfl, SqL.of (r.sub _ _ h1)⟩⟩
    | _ => cases e
  | c n =>
    have e : s[n]?.map (fun xs => (false, xs)) = some (t, ds) := e
    cases hs : s[n]? with
    | none => rw [hs] at e; cases e
    | some ys =>
      rw [hs] at e
      have e' : (false, ys) = (t, ds) := Option.some.inj e
      cases e'
      obtain ⟨a, h1, rfl⟩ := d
      obtain ⟨xs, h2, h3⟩ := r.cel n a _ h1 hs
      exact ⟨a, xs, rfl, h3, .inr ⟨rfl, SqL.of h2⟩⟩
  | s ns =>
    have e' : (false, ns.map .int) = (t, ds) := Option.some.inj e
    cases e'
    obtain ⟨a, rfl, h⟩ := d
    exact ⟨a, _, rfl, dqa_ints ns, .inr ⟨rfl, sql_mono r.sub h⟩⟩
  | f _ => cases e
theorem atI_dq {K : PySem.W.Frag} {Hi : Hp} {ds : List PyData} {xs : List V} {i : Int} {d : PyData} (h : DqA K Hi ds xs) (e : atI ds i = some d) : ∃ v, atI xs i = some v ∧ Dq K Hi d v := by
  unfold atI at e ⊢
  rw [h.length]
  cases q : ixN ds.length i with
  | none => rw [q] at e; cases e
  | some j =>
    rw [q] at e
    exact DqA.get h e
def gIx (b : Sl) (y : PyData) (s : Sto) : Out PyData := match y with
  | .int i => (match seqOf b s with
    | some (_, ds) => (match atI ds i with
      | some d => .ok d s
      | none => .bad)
    | none => .bad)
  | _ => .bad
def eIx (fl : ML) (fi : ME) : ME := fun ρ s => (fl ρ s).bind fun b s => (fi ρ s).bind fun y s => gIx b y s
theorem se_ix (ha : SL X XR E a fl) (hb : SE X XR E b fb) (hs : PlainIx b) : SE X XR E (.Subscript a b pos) (eIx fl fb) := by
  obtain ⟨ta, pa, qa⟩ := ha
  obtain ⟨tb, pb, qb⟩ := hb
  refine ⟨_, pe_ix (ix_list.or ix_tup) pa pb hs, fun A Hi ρ s σ H r re Q h => ?_⟩
  refine qa A Hi ρ s σ H r re _ (PO.bind h fun x s1 v Hi1 H1 _ e1 r1 d h1 => ?_)
  refine qb A Hi1 ρ s1 σ H1 r1 (re.mono e1.same pfx) _ (PO.bind h1 fun y s2 w Hi2 H2 _ e2 r2 d2 h2 => ?_)
  unfold gIx at h2
  split at h2
  · cases (show w = _ from d2)
    split at h2
    · rename_i t ds hq
      split at h2
      · rename_i z hz
        obtain ⟨l, xs, rfl, h3, h4⟩ := seq_rel r2 (RSl.mono e2.same pfx d) hq
        obtain ⟨u, h5, h6⟩ := atI_dq h3 hz
        rcases h4 with ⟨_, h4⟩ | ⟨_, h4⟩
        · exact .inr ⟨l, xs, _, u, rfl, rfl, h4, h5, h2.use r2 h6⟩
        · exact .inl ⟨l, xs, _, u, rfl, rfl, h4, h5, h2.use r2 h6⟩
      · exact h2.elim
    · exact h2.elim
  · exact h2.elim
/-! ### built-in functions of one thing -/
def eSl (g : Sl → Sto → Out PyData) (fl : ML) : ME := fun ρ s => (fl ρ s).bind g
def GS (X : Cx) (XR : XRel) (E : XK) (r : List V → Hp → VK → Prop) (g : Sl → Sto → Out PyData) : Prop := ∀ A Hi s H b v Q, RS X.K A Hi s H → RSl X.K A Hi b v → PO X.K A Hi H XR E (RD X.K) Q (g b s) → r [v] H Q
theorem se_sl {r : List V → Hp → VK → Prop} {g : Sl → Sto → Out PyData} (he : ∀ ta, PE X a ta → PE X e (tCB r (tCons ta tNil))) (hg : GS X XR E r g) (ha : SL X XR E a fl) : SE X XR E e (eSl g fl) := by
  obtain ⟨ta, pa, qa⟩ := ha
  exact ⟨_, he _ pa, fun A Hi ρ s σ H r re Q h => qa A Hi ρ s σ H r re _ (PO.bind h fun x s1 v Hi1 H1 _ _ r1 d h1 => hg A Hi1 s1 H1 x v Q r1 d h1)⟩
def gLen (b : Sl) (s : Sto) : Out PyData := match seqOf b s with
  | some (_, ds) => .ok (.int ds.length) s
  | none => .bad
theorem se_len (hg : Gl X "len") (hm : X.mg "len" = none) (ha : SL X XR E a fl) (h1 : starEach [a] X.env = (false, eval a X.env) :: starEach [] X.env := by rfl) : SE X XR E (.Call (.Name "len" p) [a] [] pos) (eSl gLen fl) :=
  se_sl (fun ta q => pe_callB call_len_seq hg hm PySem.boot_len (pa_cons q pa_nil h1) (by decide) (by decide) h1) (fun A Hi s H b v Q r d h => by
    unfold gLen at h
    split at h
    · rename_i t ds hq
      obtain ⟨l, xs, rfl, h3, h4⟩ := seq_rel r d hq
      refine ⟨l, xs, rfl, ?_, ?_⟩
      · rcases h4 with ⟨_, h4⟩ | ⟨_, h4⟩
        · exact .inr h4
        · exact .inl h4
      · rw [h3.length]
        exact h.use r rfl
    · exact h.elim) ha
def gTuple (b : Sl) (s : Sto) : Out PyData := match seqOf b s with
  | some (_, ds) => .ok (.tuple ds) s
  | none => .bad
theorem se_tuple (hg : Gl X "tuple") (hm : X.mg "tuple" = none) (ha : SL X XR E a fl) (h1 : starEach [a] X.env = (false, eval a X.env) :: starEach [] X.env := by rfl) : SE X XR E (.Call (.Name "tuple" p) [a] [] pos) (eSl gTuple fl) :=
  se_sl (fun ta q => pe_callTy call_tuple_of hg hm (by decide +kernel) (pa_cons q pa_nil h1) (by decide) (by decide) h1) (fun A Hi s H b v Q r d h => by
    unfold gTuple at h
    split at h
    · rename_i t ds hq
      cases b with
      | d x =>
        cases x with
        | tuple ys =>
          have e' : (true, ys) = (t, ds) := Option.some.inj hq
          cases e'
          obtain ⟨a, xs, rfl, h1, h2⟩ := d
          exact ⟨a, xs, rfl, .inr ⟨sqt_mono r.sub h1, h.use r ⟨a, xs, rfl, h1, h2⟩⟩⟩
        | list ys =>
          obtain ⟨l, xs, rfl, h3, h4⟩ := seq_rel r d hq
          have e' : (false, ys) = (t, ds) := Option.some.inj hq
          cases e'
          rcases h4 with ⟨q, h4⟩ | ⟨_, h4⟩
          · cases q
          · exact ⟨l, xs, rfl, .inl ⟨h4, fun p hp => h.out (Ext.fresh hp (r.fresh hp)) (r.new hp) ⟨p, xs, rfl, SqT.of upd_same, DqA.mono (same_upd (r.fresh hp)) _ _ h3⟩⟩⟩
        | _ => cases hq
      | c n =>
        obtain ⟨l, xs, rfl, h3, h4⟩ := seq_rel r d hq
        rcases h4 with ⟨q, h4⟩ | ⟨_, h4⟩
        · have hq : s[n]?.map (fun xs => (false, xs)) = some (t, ds) := hq
          cases hs : s[n]? with
          | none => rw [hs] at hq; cases hq
          | some ys => rw [hs] at hq; cases hq; cases q
        · exact ⟨l, xs, rfl, .inl ⟨h4, fun p hp => h.out (Ext.fresh hp (r.fresh hp)) (r.new hp) ⟨p, xs, rfl, SqT.of upd_same, DqA.mono (same_upd (r.fresh hp)) _ _ h3⟩⟩⟩
      | s ns =>
        obtain ⟨l, xs, rfl, h3, h4⟩ := seq_rel r d hq
        rcases h4 with ⟨q, h4⟩ | ⟨_, h4⟩
        · cases hq
          cases q
        · exact ⟨l, xs, rfl, .inl ⟨h4, fun p hp => h.out (Ext.fresh hp (r.fresh hp)) (r.new hp) ⟨p, xs, rfl, SqT.of upd_same, DqA.mono (same_upd (r.fresh hp)) _ _ h3⟩⟩⟩
      | f _ => cases hq
    · exact h.elim) ha
def cList (fl : ML) : MD := fun ρ s => (fl ρ s).bind fun b s => match seqOf b s with
  | some (_, ds) => .ok ds s
  | none => .bad
theorem sc_list (hg : Gl X "list") (hm : X.mg "list" = none) (ha : SL X XR E a fl) (h1 : starEach [a] X.env = (false, eval a X.env) :: starEach [] X.env := by rfl) : SC X XR E (.Call (.Name "list" p) [a] [] pos) (cList fl) := by
  obtain ⟨ta, pa, qa⟩ := ha
  refine ⟨_, pe_callTy call_list_of hg hm (by decide +kernel) (pa_cons pa pa_nil h1) (by decide) (by decide) h1, fun A Hi ρ s σ H r re Q h => qa A Hi ρ s σ H r re _ (PO.bind h fun x s1 v Hi1 H1 _ e1 r1 d h1 => ?_)⟩
  split at h1
  · rename_i t ds hq
    obtain ⟨l, xs, rfl, h3, h4⟩ := seq_rel r1 d hq
    refine ⟨l, xs, rfl, ?_, fun q hq => PO.out (R := RF X.K A H) (x := ds) h1 (Ext.fresh1 hq) (r1.new1 hq) ⟨q, xs, rfl, upd_same, r1.fresh hq, e1.there q hq, r1.notin hq, h3⟩⟩
    rcases h4 with ⟨_, h4⟩ | ⟨_, h4⟩
    · exact .inr h4
    · exact .inl h4
  · exact h1.elim
/-- the ints of some data, if all are such -/
def intsOf : List PyData → Option (List Int)
  | [] => some []
  | .int i :: r => (intsOf r).map (i :: ·)
  | _ => none
def bolsOf : List PyData → Option (List Bool)
  | [] => some []
  | .bool i :: r => (bolsOf r).map (i :: ·)
  | _ => none
theorem intsOf_rel {K : PySem.W.Frag} {Hi : Hp} : ∀ {ds : List PyData} {xs : List V} {ns : List Int}, DqA K Hi ds xs → intsOf ds = some ns → xs = ns.map V.int
  | [], _, _, h, e => by
    cases e
    exact h
  | .int i :: r, _, ns, h, e => by
    obtain ⟨v, u, rfl, h1, h2⟩ := h
    cases (show v = _ from h1)
    unfold intsOf at e
    cases q : intsOf r with
    | none => rw [q] at e; cases e
    | some ms =>
      rw [q] at e
      cases e
      rw [intsOf_rel h2 q]
      rfl
  | .none :: _, _, _, _, e => by cases e
  | .bool _ :: _, _, _, _, e => by cases e
  | .str _ :: _, _, _, _, e => by cases e
  | .list _ :: _, _, _, _, e => by cases e
  | .tuple _ :: _, _, _, _, e => by cases e
  | .dict _ :: _, _, _, _, e => by cases e
theorem bolsOf_rel {K : PySem.W.Frag} {Hi : Hp} : ∀ {ds : List PyData} {xs : List V} {ns : List Bool}, DqA K Hi ds xs → bolsOf ds = some ns → xs = ns.map V.bl
  | [], _, _, h, e => by
    cases e
    exact h
  | .bool i :: r, _, ns, h, e => by
    obtain ⟨v, u, rfl, h1, h2⟩ := h
    cases (show v = _ from h1)
    unfold bolsOf at e
    cases q : bolsOf r with
    | none => rw [q] at e; cases e
    | some ms =>
      rw [q] at e
      cases e
      rw [bolsOf_rel h2 q]
      rfl
  | .none :: _, _, _, _, e => by cases e
  | .int _ :: _, _, _, _, e => by cases e
  | .str _ :: _, _, _, _, e => by cases e
  | .list _ :: _, _, _, _, e => by cases e
  | .tuple _ :: _, _, _, _, e => by cases e
  | .dict _ :: _, _, _, _, e => by cases e
@[simp] theorem intsOf_map (ns : List Int) : intsOf (ns.map .int) = some ns := by
  induction ns with
  | nil => rfl
  | cons n ns ih =>
    show (intsOf (ns.map .int)).map (n :: ·) = _
    rw [ih]
    rfl
@[simp] theorem bolsOf_map (ns : List Bool) : bolsOf (ns.map .bool) = some ns := by
  induction ns with
  | nil => rfl
  | cons n ns ih =>
    show (bolsOf (ns.map .bool)).map (n :: ·) = _
    rw [ih]
    rfl
def gInts (f : List Int → PyData) (b : Sl) (s : Sto) : Out PyData := match seqOf b s with
  | some (false, ds) => (match intsOf ds with
    | some ns => .ok (f ns) s
    | none => .bad)
  | _ => .bad
def gBols (f : List Bool → PyData) (b : Sl) (s : Sto) : Out PyData := match seqOf b s with
  | some (false, ds) => (match bolsOf ds with
    | some ns => .ok (f ns) s
    | none => .bad)
  | _ => .bad
theorem se_sum (hc : X.calm = true) (hg : Gl X "sum") (hm : X.mg "sum" = none) (ha : SL X XR E a fl) (h1 : starEach [a] X.env = (false, eval a X.env) :: starEach [] X.env := by rfl) : SE X XR E (.Call (.Name "sum" p) [a] [] pos) (eSl (gInts fun ns => .int ns.sum) fl) :=
  se_sl (fun ta q => pe_callB (cr_sum hc) hg hm (by decide +kernel) (pa_cons q pa_nil h1) (by decide) (by decide) h1) (fun A Hi s H b v Q r d h => by
    unfold gInts at h
    split at h
    · rename_i ds hq
      split at h
      · rename_i ns hn
        obtain ⟨l, xs, rfl, h3, ⟨q, _⟩ | ⟨_, h4⟩⟩ := seq_rel r d hq
        · cases q
        rw [intsOf_rel h3 hn] at h4
        exact ⟨l, ns, rfl, h4, h.use r rfl⟩
      · exact h.elim
    · exact h.elim) ha
theorem se_all (hc : X.calm = true) (hg : Gl X "all") (hm : X.mg "all" = none) (ha : SL X XR E a fl) (h1 : starEach [a] X.env = (false, eval a X.env) :: starEach [] X.env := by rfl) : SE X XR E (.Call (.Name "all" p) [a] [] pos) (eSl (gBols fun ns => .bool (ns.all id)) fl) :=
  se_sl (fun ta q => pe_callB (cr_all hc) hg hm (by decide +kernel) (pa_cons q pa_nil h1) (by decide) (by decide) h1) (fun A Hi s H b v Q r d h => by
    unfold gBols at h
    split at h
    · rename_i ds hq
      split at h
      · rename_i ns hn
        obtain ⟨l, xs, rfl, h3, ⟨q, _⟩ | ⟨_, h4⟩⟩ := seq_rel r d hq
        · cases q
        rw [bolsOf_rel h3 hn] at h4
        exact ⟨l, ns, rfl, h4, h.use r rfl⟩
      · exact h.elim
    · exact h.elim) ha
theorem se_any (hc : X.calm = true) (hg : Gl X "any") (hm : X.mg "any" = none) (ha : SL X XR E a fl) (h1 : starEach [a] X.env = (false, eval a X.env) :: starEach [] X.env := by rfl) : SE X XR E (.Call (.Name "any" p) [a] [] pos) (eSl (gBols fun ns => .bool (ns.any id)) fl) :=
  se_sl (fun ta q => pe_callB (cr_any hc) hg hm (by decide +kernel) (pa_cons q pa_nil h1) (by decide) (by decide) h1) (fun A Hi s H b v Q r d h => by
    unfold gBols at h
    split at h
    · rename_i ds hq
      split at h
      · rename_i ns hn
        obtain ⟨l, xs, rfl, h3, ⟨q, _⟩ | ⟨_, h4⟩⟩ := seq_rel r d hq
        · cases q
        rw [bolsOf_rel h3 hn] at h4
        exact ⟨l, ns, rfl, h4, h.use r rfl⟩
      · exact h.elim
    · exact h.elim) ha
def gAbs (b : Sl) (s : Sto) : Out PyData := match b with
  | .d (.int i) => .ok (.int (if i < 0 then -i else i)) s
  | _ => .bad
theorem se_abs (hg : Gl X "abs") (hm : X.mg "abs" = none) (ha : SL X XR E a fl) (h1 : starEach [a] X.env = (false, eval a X.env) :: starEach [] X.env := by rfl) : SE X XR E (.Call (.Name "abs" p) [a] [] pos) (eSl gAbs fl) :=
  se_sl (fun ta q => pe_callB call_abs hg hm (by decide +kernel) (pa_cons q pa_nil h1) (by decide) (by decide) h1) (fun A Hi s H b v Q r d h => by
    unfold gAbs at h
    split at h
    · cases (show v = _ from d)
      exact ⟨_, rfl, h.use r rfl⟩
    · exact h.elim) ha
def gInt (b : Sl) (s : Sto) : Out PyData := match b with
  | .d (.int i) => .ok (.int i) s
  | .d (.bool k) => .ok (.int (if k then 1 else 0)) s
  | _ => .bad
theorem se_int1 (hg : Gl X "int") (hm : X.mg "int" = none) (ha : SL X XR E a fl) (h1 : starEach [a] X.env = (false, eval a X.env) :: starEach [] X.env := by rfl) : SE X XR E (.Call (.Name "int" p) [a] [] pos) (eSl gInt fl) :=
  se_sl (fun ta q => pe_callTy call_int1 hg hm (by decide +kernel) (pa_cons q pa_nil h1) (by decide) (by decide) h1) (fun A Hi s H b v Q r d h => by
    unfold gInt at h
    split at h
    · cases (show v = _ from d)
      exact .inl ⟨_, rfl, h.use r rfl⟩
    · cases (show v = _ from d)
      exact .inr ⟨_, rfl, h.use r rfl⟩
    · exact h.elim) ha
/-- of two ints -/
def gTwo (g : Int → Int → Int) (x y : PyData) (s : Sto) : Out PyData := match x, y with
  | .int i, .int j => .ok (.int (g i j)) s
  | _, _ => .bad
def eTwo (g : Int → Int → Int) (fa fb : ME) : ME := eBin (gTwo g) fa fb
theorem se_two {g : Int → Int → Int} {ta' : TA → TE} (he : ∀ ta tb, PE X a ta → PE X b tb → PE X e (tCB (fun xs H Q => ∃ i j, xs = [.int i, .int j] ∧ Q (.int (g i j)) H) (tCons ta (tCons tb tNil)))) (ha : SE X XR E a fa) (hb : SE X XR E b fb) : SE X XR E e (eTwo g fa fb) := by
  obtain ⟨ta, pa, qa⟩ := ha
  obtain ⟨tb, pb, qb⟩ := hb
  refine ⟨_, he _ _ pa pb, fun A Hi ρ s σ H r re Q h => ?_⟩
  refine qa A Hi ρ s σ H r re _ (PO.bind h fun x s1 v Hi1 H1 _ e1 r1 d h1 => ?_)
  refine qb A Hi1 ρ s1 σ H1 r1 (re.mono e1.same pfx) _ (PO.bind h1 fun y s2 w Hi2 H2 _ e2 r2 d2 h2 => ?_)
  unfold gTwo at h2
  split at h2
  · cases (show v = _ from d)
    cases (show w = _ from d2)
    exact ⟨_, _, rfl, h2.use r2 rfl⟩
  · exact h2.elim
theorem se_max2 (hc : X.calm = true) (hg : Gl X "max") (hm : X.mg "max" = none) (ha : SE X XR E a fa) (hb : SE X XR E b fb) (h1 : starEach [a, b] X.env = (false, eval a X.env) :: starEach [b] X.env := by rfl) (h2 : starEach [b] X.env = (false, eval b X.env) :: starEach [] X.env := by rfl)
    (h3 : (backTo pos (starEach [b] X.env)).any (·.1) = false := by rfl) : SE X XR E (.Call (.Name "max" p) [a, b] [] pos) (eTwo (fun i j => if j > i then j else i) fa fb) :=
  se_two (ta' := fun _ _ _ _ => True) (fun ta tb q q2 => pe_callB (call_max2 hc) hg hm (by decide +kernel) (pa_cons q (pa_cons q2 pa_nil h2) h1) (by decide) (by decide) h1 h3) ha hb
theorem se_min2 (hc : X.calm = true) (hg : Gl X "min") (hm : X.mg "min" = none) (ha : SE X XR E a fa) (hb : SE X XR E b fb) (h1 : starEach [a, b] X.env = (false, eval a X.env) :: starEach [b] X.env := by rfl) (h2 : starEach [b] X.env = (false, eval b X.env) :: starEach [] X.env := by rfl)
    (h3 : (backTo pos (starEach [b] X.env)).any (·.1) = false := by rfl) : SE X XR E (.Call (.Name "min" p) [a, b] [] pos) (eTwo (fun i j => if j < i then j else i) fa fb) :=
  se_two (ta' := fun _ _ _ _ => True) (fun ta tb q q2 => pe_callB (call_min2 hc) hg hm (by decide +kernel) (pa_cons q (pa_cons q2 pa_nil h2) h1) (by decide) (by decide) h1 h3) ha hb
/-! ### isinstance -/
def kindOf : PyData → String
  | .none => "NoneType"
  | .bool _ => "bool"
  | .int _ => "int"
  | .str _ => "str"
  | .list _ => "list"
  | .tuple _ => "tuple"
  | .dict _ => "dict"
theorem kind_ty {K : PySem.W.Frag} {Hi H : Hp} {x : PyData} {v : V} (d : Dq K Hi x v) (e : Same Hi H) (nt : ∀ a xs, SqT K H a xs → TyX K H (.ref a) (.type "tuple")) : TyX K H v (.type (kindOf x)) := by
  cases x with
  | none => cases (show v = _ from d); exact .base .non
  | bool b => cases (show v = _ from d); exact .base (.bl b)
  | int i => cases (show v = _ from d); exact .base (.int i)
  | str i => cases (show v = _ from d); exact .base (.str i)
  | list ds =>
    obtain ⟨a, xs, rfl, h, _⟩ := d
    exact .base (.lst (e _ _ h))
  | tuple ds =>
    obtain ⟨a, xs, rfl, h, _⟩ := d
    exact nt a xs (sqt_mono e h)
  | dict kvs =>
    obtain ⟨_, a, rfl, h⟩ := d
    exact .base (.dK (e _ _ h))
theorem sqt_ty {K : PySem.W.Frag} {H : Hp} (a : Addr) (xs : List V) (h : SqT K H a xs) : TyX K H (.ref a) (.type "tuple") := by
  rcases h with (h | ⟨o, h⟩) | ⟨o, its, n, h1, h2, _⟩
  · exact .base (.tup h)
  · exact .fTuple h
  · exact .kTuple h1 h2
def eIsi (T : String) (fa : ME) : ME := fun ρ s => (fa ρ s).bind fun x s => match kitB (kindOf x) T with
  | some k => .ok (.bool k) s
  | none => .bad
theorem se_isi (T : String) {q : Expr} (hq : PE X q (tC (.ty T))) (hg : Gl X "isinstance") (hm : X.mg "isinstance" = none) (ha : SE X XR E a fa) (h1 : starEach [a, q] X.env = (false, eval a X.env) :: starEach [q] X.env := by rfl)
    (h2 : starEach [q] X.env = (false, eval q X.env) :: starEach [] X.env := by rfl) (h3 : (backTo pos (starEach [q] X.env)).any (·.1) = false := by rfl) : SE X XR E (.Call (.Name "isinstance" p) [a, q] [] pos) (eIsi T fa) := by
  obtain ⟨ta, pa, qa⟩ := ha
  refine ⟨_, pe_callB call_isi hg hm (by decide +kernel) (pa_cons pa (pa_cons hq pa_nil h2) h1) (by decide) (by decide) h1 h3, fun A Hi ρ s σ H r re Q h => ?_⟩
  refine qa A Hi ρ s σ H r re _ (PO.bind h fun x s1 v Hi1 H1 _ e1 r1 d h1 => ?_)
  split at h1
  · rename_i k hk
    exact ⟨v, .ty T, .type (kindOf x), .type T, k, rfl, .ty T, kind_ty d r1.sub sqt_ty, kit_ty hk, h1.use r1 rfl⟩
  · exact h1.elim

/-! ### functions -/
abbrev MF := List Sl → Sto → Out PyData
def own1 {α : Type} (n m : Nat) (s : Sto) (k : List PyData → Out α) : Out α := if n ≤ m then (match s[m]? with
    | some ds => k ds
    | none => .bad) else .bad
theorem own1_bad {α : Type} {n m : Nat} {s : Sto} {k : List PyData → Out α} {C : Out α → Prop} (hb : ¬ C .bad) (h : C (own1 n m s k)) : ∃ ds, n ≤ m ∧ s[m]? = some ds ∧ C (k ds) := by
  unfold own1 at h
  split at h
  · rename_i hn
    cases hs : s[m]? with
    | none =>
      rw [hs] at h
      exact absurd h hb
    | some ds =>
      rw [hs] at h
      exact ⟨ds, hn, rfl, h⟩
  · exact absurd h hb
/-- what is handed back, the lists of the call's own forgotten -/
def fin (n : Nat) : Fl → Out PyData
  | .nx _ s => .ok .none (s.take n)
  | .rt (.d x) s => .ok x (s.take n)
  | .rt (.c m) s => own1 n m s fun ds => .ok (.list ds) (s.take n)
  | .exc x s => .exc x (s.take n)
  | _ => .bad
def env0 (k : Nat) (as : List Sl) : Env := as.map some ++ List.replicate (k - as.length) none
def mkF (k : Nat) (g : MS) : MF := fun as s => fin s.length (g (env0 k as) s)
def spM (K : PySem.W.Frag) (XR : XRel) (n : Nat) (F : MF) : Sp := fun vs H Q E => ∃ A Hi as s, as.length = n ∧ RS K A Hi s H ∧ RL K A Hi as vs ∧ PO K A Hi H XR E (RD K) Q (F as s)
/-- as a list of the call's own that nobody else holds -/
abbrev MFc := List Sl → Sto → Out (List PyData)
def finC (n : Nat) : Fl → Out (List PyData)
  | .rt (.c m) s => own1 n m s fun ds => .ok ds (s.take n)
  | .exc x s => .exc x (s.take n)
  | _ => .bad
def mkC (k : Nat) (g : MS) : MFc := fun as s => finC s.length (g (env0 k as) s)
def spC (K : PySem.W.Frag) (XR : XRel) (n : Nat) (F : MFc) : Sp := fun vs H Q E => ∃ A Hi as s, as.length = n ∧ RS K A Hi s H ∧ RL K A Hi as vs ∧ PO K A Hi H XR E (RF K A H) Q (F as s)
theorem RL.length {K : PySem.W.Frag} {A : List Addr} {Hi : Hp} : ∀ {as : List Sl} {vs : List V}, RL K A Hi as vs → vs.length = as.length
  | [], _, h => by
    have h' : _ = [] := h
    subst h'
    rfl
  | _ :: _, _, h => by
    obtain ⟨v, r, rfl, _, h2⟩ := h
    rw [List.length_cons, List.length_cons, RL.length h2]
theorem RL.get {K : PySem.W.Frag} {A : List Addr} {Hi : Hp} : ∀ {as : List Sl} {vs : List V} {i : Nat} {x : Sl}, RL K A Hi as vs → as[i]? = some x → ∃ v, vs[i]? = some v ∧ RSl K A Hi x v
  | [], _, _, _, _, e => by simp at e
  | y :: as, _, 0, x, h, e => by
    obtain ⟨v, r, rfl, h1, _⟩ := h
    have e' : y = x := by simpa using e
    subst e'
    exact ⟨v, rfl, h1⟩
  | y :: as, _, i + 1, x, h, e => by
    obtain ⟨v, r, rfl, _, h2⟩ := h
    obtain ⟨u, a, b⟩ := RL.get (i := i) (x := x) h2 (by simpa using e)
    exact ⟨u, by simpa using a, b⟩
theorem re_start {K : PySem.W.Frag} {A : List Addr} {Hi : Hp} {as : List Sl} {vs : List V} {N : List Str} (h : RL K A Hi as vs) : RE K A Hi (env0 N.length as) (L2.start N vs) := by
  have hl := RL.length h
  refine ⟨?_, fun i x e => ?_⟩
  · unfold env0 L2.start
    rw [List.length_append, List.length_append, List.length_map, List.length_map, List.length_replicate, List.length_replicate, hl]
  · unfold env0 at e
    by_cases q : i < as.length
    · rw [List.getElem?_append_left (by rw [List.length_map]; exact q), List.getElem?_map] at e
      cases ha : as[i]? with
      | none => rw [ha] at e; cases e
      | some y =>
        rw [ha] at e
        have e' : y = x := Option.some.inj (Option.some.inj e)
        subst e'
        obtain ⟨v, h1, h2⟩ := RL.get h ha
        refine ⟨v, ?_, h2⟩
        unfold L2.start
        rw [List.getElem?_append_left (by rw [List.length_map, hl]; exact q), List.getElem?_map, h1]
        rfl
    · rw [List.getElem?_append_right (by rw [List.length_map]; omega), List.getElem?_replicate] at e
      split at e <;> cases e
theorem take_pre {A A' : List Addr} (p : A <+: A') : A'.take A.length = A := by
  obtain ⟨t, rfl⟩ := p
  simp
theorem ExtS.down {A A' : List Addr} {Hi H Hi' H' : Hp} (e : ExtS A Hi H A' Hi' H') : Ext A Hi H Hi' H' := e.ext
theorem fin_ok {K : PySem.W.Frag} {A : List Addr} {Hi H : Hp} {XR : XRel} {E : XK} {Q : VK} {s : Sto} {o : Fl} (r : RS K A Hi s H) (h : PO K A Hi H XR E (RD K) Q (fin s.length o)) : PF K A Hi H XR E { nx := fun _ H' => Q .non H', rt := Q } o := by
  cases o with
  | nx ρ s' =>
    intro A' Hi' σ' H' e r' _
    have c := r'.cut A.length
    rw [take_pre e.pre] at c
    rw [r.len] at c
    exact h .non Hi' H' e.ext c rfl
  | rt x s' =>
    cases x with
    | d x =>
      intro A' Hi' v H' e r' d
      have c := r'.cut A.length
      rw [take_pre e.pre, r.len] at c
      exact h v Hi' H' e.ext c d
    | c m =>
      obtain ⟨ds, hn, hs, h⟩ := own1_bad (C := PO K A Hi H XR E (RD K) Q) (fun z => z) h
      intro A' Hi' v H' e r' d
      obtain ⟨a, ha, rfl⟩ := d
      obtain ⟨xs, hx, hd⟩ := r'.cel m a ds ha hs
      have hm : a ∈ A' := List.mem_of_getElem? ha
      have hA : a ∉ A := fun q => by
        obtain ⟨i, hi⟩ := List.getElem?_of_mem q
        obtain ⟨t, rfl⟩ := e.pre
        have hl := (List.getElem?_eq_some_iff.mp hi).1
        have hi2 : (A ++ t)[i]? = some a := by rw [List.getElem?_append_left hl]; exact hi
        have := nd_ix r'.nd hi2 ha
        rw [← r.len] at hn
        omega
      have h0 := e.nw a hm hA
      have c := r'.freeze (n := A.length) (by rw [r.len]; exact hn) ha hx
      rw [take_pre e.pre, r.len] at c
      have hp : Hi' a = none := r'.out a hm
      refine h (.ref a) (upd Hi' a (.lst xs)) H' ⟨e.ext.same.trans (same_upd hp), e.ext.keep, e.ext.there, fun b hb hb2 => ?_⟩ c ⟨a, xs, rfl, upd_same, DqA.mono (same_upd hp) _ _ hd⟩
      have hne : b ≠ a := fun z => by
        subst z
        exact hb2 h0
      rw [upd_ne hne]
      exact e.ext.new b hb hb2
    | s ns => exact h.elim
    | f _ => exact h.elim
  | exc x s' =>
    intro cls d A' Hi' H' e r' q
    have c := r'.cut A.length
    rw [take_pre e.pre, r.len] at c
    exact h cls d Hi' H' e.ext c q
  | bk ρ s' => exact h.elim
  | ct ρ s' => exact h.elim
  | bad => exact h.elim
theorem finC_ok {K : PySem.W.Frag} {A : List Addr} {Hi H : Hp} {XR : XRel} {E : XK} {Q : VK} {s : Sto} {o : Fl} (r : RS K A Hi s H) (h : PO K A Hi H XR E (RF K A H) Q (finC s.length o)) : PF K A Hi H XR E { nx := fun _ H' => Q .non H', rt := Q } o := by
  cases o with
  | rt x s' =>
    cases x with
    | c m =>
      obtain ⟨ds, hn, hs, h⟩ := own1_bad (C := PO K A Hi H XR E (RF K A H) Q) (fun z => z) h
      intro A' Hi' v H' e r' d
      obtain ⟨a, ha, rfl⟩ := d
      obtain ⟨xs, hx, hd⟩ := r'.cel m a ds ha hs
      have hm : a ∈ A' := List.mem_of_getElem? ha
      have hA : a ∉ A := fun q => by
        obtain ⟨i, hi⟩ := List.getElem?_of_mem q
        obtain ⟨t, rfl⟩ := e.pre
        have hl := (List.getElem?_eq_some_iff.mp hi).1
        have hi2 : (A ++ t)[i]? = some a := by rw [List.getElem?_append_left hl]; exact hi
        have := nd_ix r'.nd hi2 ha
        rw [← r.len] at hn
        omega
      have c := r'.cut A.length
      rw [take_pre e.pre, r.len] at c
      exact h (.ref a) Hi' H' e.ext c ⟨a, xs, rfl, hx, r'.out a hm, e.nw a hm hA, hA, hd⟩
    | d x => exact h.elim
    | s ns => exact h.elim
    | f _ => exact h.elim
  | exc x s' =>
    intro cls d A' Hi' H' e r' q
    have c := r'.cut A.length
    rw [take_pre e.pre, r.len] at c
    exact h cls d Hi' H' e.ext c q
  | nx ρ s' => exact h.elim
  | bk ρ s' => exact h.elim
  | ct ρ s' => exact h.elim
  | bad => exact h.elim
section
variable {P : Program} {w : World} {K : PySem.W.Frag} {mg : Str → Option Value} {base : Heap}
theorem PO.noexc {α β : Type} {K : PySem.W.Frag} {A : List Addr} {Hi H : Hp} {XR : XRel} {E E' : XK} {R : Hp → Hp → α → β → Prop} {Q : β → Hp → Prop} {o : Out α} (hx : ∀ x H c d, ¬ XR x H c d) (h : PO K A Hi H XR E R Q o) : PO K A Hi H XR E' R Q o := by
  cases o with
  | ok x s => exact h
  | exc x s => exact fun c d Hi' H' _ _ q => (hx _ _ _ _ q).elim
  | bad => exact h
theorem fn_mir {x qual : Str} {st : Stmt} {f : Addr} {fd : FuncData} {N ps : List Str} {k : Nat} {g : MS} (F : Fun K x qual st f fd) (S : FnScope N ps (defScope st)) (hx : ∀ x H c d, ¬ XR x H c d)
    (hb : ∀ (cdv : Value) (A : Around) (outer : List PySem.Env) (s : Shared) (H : Hp) (E : XK), Room k (A.deeper (envOfC qual (defScope st) s.heap.objs.size f cdv)) → SB (cxOf CX0 P w K mg base N qual (defScope st) f cdv A outer s H E).nox XR E0 (defBody st) g) :
    FnOk P w K mg base CX0 (k + 1) f fd ps (spM K XR ps.length (mkF N.length g)) := by
  refine F.ok S (fun vs H Q E h => ?_) (fun cdv A outer s H vs Q E hr h => ?_)
  · obtain ⟨_, _, as, _, h1, _, h2, _⟩ := h
    rw [h2.length, h1]
  · obtain ⟨A', Hi, as, s', _, r, rl, h⟩ := h
    obtain ⟨t, p, q⟩ := hb cdv A outer s H E hr
    exact ⟨t, p, q A' Hi (env0 N.length as) s' _ H r (re_start rl) _ (fin_ok r (PO.noexc hx h))⟩
theorem fn_mirC {x qual : Str} {st : Stmt} {f : Addr} {fd : FuncData} {N ps : List Str} {k : Nat} {g : MS} (F : Fun K x qual st f fd) (S : FnScope N ps (defScope st)) (hx : ∀ x H c d, ¬ XR x H c d)
    (hb : ∀ (cdv : Value) (A : Around) (outer : List PySem.Env) (s : Shared) (H : Hp) (E : XK), Room k (A.deeper (envOfC qual (defScope st) s.heap.objs.size f cdv)) → SB (cxOf CX0 P w K mg base N qual (defScope st) f cdv A outer s H E).nox XR E0 (defBody st) g) :
    FnOk P w K mg base CX0 (k + 1) f fd ps (spC K XR ps.length (mkC N.length g)) := by
  refine F.ok S (fun vs H Q E h => ?_) (fun cdv A outer s H vs Q E hr h => ?_)
  · obtain ⟨_, _, as, _, h1, _, h2, _⟩ := h
    rw [h2.length, h1]
  · obtain ⟨A', Hi, as, s', _, r, rl, h⟩ := h
    obtain ⟨t, p, q⟩ := hb cdv A outer s H E hr
    exact ⟨t, p, q A' Hi (env0 N.length as) s' _ H r (re_start rl) _ (finC_ok r (PO.noexc hx h))⟩
end
/-! ### calls of own functions -/
def eCall (n : Nat) (F : MF) (fa : MA) : ME := fun ρ s => (fa ρ s).bind fun as s => if as.length = n then F as s else .bad
def cCall (n : Nat) (F : MFc) (fa : MA) : MD := fun ρ s => (fa ρ s).bind fun as s => if as.length = n then F as s else .bad
section
variable {k n : Nat} {f : Addr} {fd : FuncData} {ps : List Str} {F : MF} {Fc : MFc} {es : List Expr} {ma : MA} {x : Str} {XR' : XRel}
theorem se_call (G : FnOk X.prog X.w X.K X.mg X.base CX0 k f fd ps (spM X.K XR' n F)) (hr : Room k X.A) (hg : Gl X x) (hm : X.mg x = some (.ref f)) (hk : PySem.W.keepIn X.K (.ref f) = true) (hb : Binds X.K fd ps [])
    (ha : SA X XR' E0 (e :: es) ma) (hdb : (x == ("__debug__" : Str)) = false := by decide) (he : starEach (e :: es) X.env = (false, eval e X.env) :: starEach es X.env := by rfl) (hpl : (backTo pos (starEach es X.env)).any (·.1) = false := by rfl) :
    SE X XR' E0 (.Call (.Name x p) (e :: es) [] pos) (eCall n F ma) := by
  obtain ⟨t, pa, qa⟩ := ha
  refine ⟨_, pe_call G hr hg hm hk hb .nil pass0 pa hdb he hpl, fun A Hi ρ s σ H r re Q h => qa A Hi ρ s σ H r re _ (PO.bind h fun as s1 vs Hi1 H1 _ e1 r1 d h1 => ?_)⟩
  rw [List.append_nil]
  split at h1
  · rename_i hn
    exact ⟨A, Hi1, as, s1, hn, r1, d, h1⟩
  · exact h1.elim
theorem sc_call (G : FnOk X.prog X.w X.K X.mg X.base CX0 k f fd ps (spC X.K XR' n Fc)) (hr : Room k X.A) (hg : Gl X x) (hm : X.mg x = some (.ref f)) (hk : PySem.W.keepIn X.K (.ref f) = true) (hb : Binds X.K fd ps [])
    (ha : SA X XR' E0 (e :: es) ma) (hdb : (x == ("__debug__" : Str)) = false := by decide) (he : starEach (e :: es) X.env = (false, eval e X.env) :: starEach es X.env := by rfl) (hpl : (backTo pos (starEach es X.env)).any (·.1) = false := by rfl) :
    SC X XR' E0 (.Call (.Name x p) (e :: es) [] pos) (cCall n Fc ma) := by
  obtain ⟨t, pa, qa⟩ := ha
  refine ⟨_, pe_call G hr hg hm hk hb .nil pass0 pa hdb he hpl, fun A Hi ρ s σ H r re Q h => qa A Hi ρ s σ H r re _ (PO.bind h fun as s1 vs Hi1 H1 _ e1 r1 d h1 => ?_)⟩
  rw [List.append_nil]
  split at h1
  · rename_i hn
    refine ⟨A, Hi1, as, s1, hn, r1, d, ?_⟩
    cases hF : Fc as s1 with
    | ok ds s2 =>
      rw [hF] at h1
      intro v Hi2 H2 e2 r2 d2
      obtain ⟨q, xs, q1, q2, q3, q4, q5, q6⟩ := d2
      exact h1 v Hi2 H2 e2 r2 ⟨q, xs, q1, q2, q3, e1.there q q4, q5, q6⟩
    | exc x s2 =>
      rw [hF] at h1
      exact h1
    | bad =>
      rw [hF] at h1
      exact h1
  · exact h1.elim
end
end
end Mir

namespace Mir
open PySem PySem.Spec PyProof.Rows L2
variable [Tb]
section
variable {X : Cx} {XR : XRel} {E : XK} {a b e : Expr} {fa fb : ME} {fl : ML} {pos p : Pos} {st : Stmt} {rest : List Stmt} {g g1 g2 : MS}
/-! ### statements -/
def thenDo (o : Fl) (k : MS) : Fl := match o with
  | .nx ρ s => k ρ s
  | .rt x s => .rt x s
  | .bk ρ s => .bk ρ s
  | .ct ρ s => .ct ρ s
  | .exc x s => .exc x s
  | .bad => .bad
@[simp] theorem thenDo_nx (ρ : Env) (s : Sto) (k : MS) : thenDo (.nx ρ s) k = k ρ s := rfl
@[simp] theorem thenDo_rt (x : Sl) (s : Sto) (k : MS) : thenDo (.rt x s) k = .rt x s := rfl
def mSeq (g1 g2 : MS) : MS := fun ρ s => thenDo (g1 ρ s) g2
def mNil : MS := fun ρ s => .nx ρ s
/-- an expression's outcome taken to a statement's -/
def toFl {α : Type} (o : Out α) (k : α → Sto → Fl) : Fl := match o with
  | .ok a s => k a s
  | .exc x s => .exc x s
  | .bad => .bad
@[simp] theorem toFl_ok {α : Type} (x : α) (s : Sto) (k : α → Sto → Fl) : toFl (.ok x s) k = k x s := rfl
theorem PF.bind {α β : Type} {K : PySem.W.Frag} {A : List Addr} {Hi H : Hp} {R : Hp → Hp → α → β → Prop} {Q : β → Hp → Prop} {D : Ends} {o : Out α} {k : α → Sto → Fl} (h : PF K A Hi H XR E D (toFl o k))
    (gg : ∀ x s v Hi1 H1, o = .ok x s → Ext A Hi H Hi1 H1 → RS K A Hi1 s H1 → R Hi1 H1 x v → PF K A Hi1 H1 XR E D (k x s) → Q v H1) : PO K A Hi H XR E R Q o := by
  cases o with
  | ok x s => exact fun v H1 H2 e1 r d => gg x s v H1 H2 rfl e1 r d (PF.back e1.s h)
  | exc x s => exact fun c d H1 H2 e1 r q => h c d A H1 H2 e1.s r q
  | bad => exact h
theorem sb_nil : SB X XR E [] mNil := ⟨_, pss_nil, fun A Hi ρ s σ H r re D h => h A Hi σ H .refl r re⟩
theorem sb_one (h : SS X XR E st g) : SB X XR E [st] g := by
  obtain ⟨t, p, q⟩ := h
  exact ⟨t, pss_one p, q⟩
theorem sb_cons (h1 : SS X XR E st g1) (h2 : SB X XR E rest g2) : SB X XR E (st :: rest) (mSeq g1 g2) := by
  obtain ⟨t, p1, q1⟩ := h1
  obtain ⟨u, p2, q2⟩ := h2
  refine ⟨_, pss_cons p1 p2, fun A Hi ρ s σ H r re D h => q1 A Hi ρ s σ H r re _ ?_⟩
  unfold mSeq at h
  cases q : g1 ρ s with
  | nx ρ1 s1 =>
    rw [q] at h
    exact fun A' Hi' σ' H' e r' re' => q2 A' Hi' ρ1 s1 σ' H' r' re' D (PF.back e h)
  | rt x s1 => rw [q] at h; exact h
  | bk ρ1 s1 => rw [q] at h; exact h
  | ct ρ1 s1 => rw [q] at h; exact h
  | exc x s1 => rw [q] at h; exact h
  | bad => rw [q] at h; exact h
def mSet (i : Nat) (f : ME) : MS := fun ρ s => toFl (f ρ s) fun x s => .nx (ρ.set i (some (.d x))) s
def mSetC (i : Nat) (f : MD) : MS := fun ρ s => toFl (f ρ s) fun ds s' => .nx (ρ.set i (some (.c s'.length))) (s' ++ [ds])
theorem ss_set (i : Nat) {x : Str} {pos' : Pos} (hN : X.N.Nodup) (hi : X.N[i]? = some x) (hx : Loc X.env.scope x) (he : SE X XR E e fa) (hs : swapsWith e (some (.Name x pos')) pos.line X.env = pure false := by rfl)
    (hf : X.fn x = true ∨ X.env.scope.names.lookup x = some .local := by first | exact .inl rfl | exact .inr rfl | assumption) : SS X XR E (.Assign [.Name x pos'] e pos) (mSet i fa) := by
  obtain ⟨t, p, q⟩ := he
  refine ⟨_, ps_set hN hi hx p hs hf, fun A Hi ρ s σ H r re D h => q A Hi ρ s σ H r re _ (PF.bind h fun x s1 v Hi1 H1 _ e1 r1 d h1 => ?_)⟩
  exact h1 A Hi1 _ H1 .refl r1 (RE.set (re.mono e1.same pfx) d)
theorem RS.take1 {K : PySem.W.Frag} {A : List Addr} {Hi H : Hp} {s : Sto} {p : Addr} {xs : List V} {ds : List PyData} (h : RS K A Hi s H) (hp : H p = some (.lst xs)) (n : Hi p = none) (m : p ∉ A) (d : DqA K Hi ds xs) : RS K (A ++ [p]) Hi (s ++ [ds]) H := by
  refine ⟨h.sub, fun a q => ?_, ?_, by rw [List.length_append, List.length_append, h.len]; rfl, fun i a es ha hs => ?_, h.tab, h.nt⟩
  · rcases List.mem_append.mp q with q | q
    · exact h.out a q
    · have : a = p := by simpa using q
      rw [this]
      exact n
  · rw [List.nodup_append]
    refine ⟨h.nd, by simp, fun a ha b hb => ?_⟩
    have : b = p := by simpa using hb
    rw [this]
    exact fun z => m (by rw [← z]; exact ha)
  · by_cases hl : i < A.length
    · rw [List.getElem?_append_left hl] at ha
      rw [List.getElem?_append_left (by rw [← h.len]; exact hl)] at hs
      exact h.cel i a es ha hs
    · have hl' := (List.getElem?_eq_some_iff.mp ha).1
      rw [List.length_append, List.length_singleton] at hl'
      have hi : i = A.length := by omega
      subst hi
      rw [List.getElem?_append_right (Nat.le_refl _), Nat.sub_self] at ha
      rw [h.len, List.getElem?_append_right (Nat.le_refl _), Nat.sub_self] at hs
      cases ha
      cases hs
      exact ⟨xs, hp, d⟩
theorem setC_ok {A : List Addr} {Hi H : Hp} {ρ : Env} {s : Sto} {σ : L2.St} {D : Ends} {i : Nat} {f : MD} (re : RE X.K A Hi ρ σ) (h : PF X.K A Hi H XR E D (mSetC i f ρ s)) : PO X.K A Hi H XR E (RF X.K A H) (fun v H' => gName i v σ H' D.nx) (f ρ s) := by
  unfold mSetC at h
  cases hf : f ρ s with
  | bad => rw [hf] at h; exact h
  | exc x s1 =>
    rw [hf] at h
    exact fun c d H1 H2 e1 r q => h c d A H1 H2 e1.s r q
  | ok ds s1 =>
    rw [hf] at h
    rintro v Hi1 H1 e1 r1 ⟨p, xs, rfl, q1, q2, q3, q4, q5⟩
    have r2 := r1.take1 q1 q2 q4 q5
    refine h (A ++ [p]) Hi1 _ H1 ⟨e1, List.prefix_append _ _, fun a m n => ?_⟩ r2 (RE.set (re.mono e1.same (List.prefix_append _ _)) (x := .c s1.length) ⟨p, ?_, rfl⟩)
    · rcases List.mem_append.mp m with m | m
      · exact absurd m n
      · have : a = p := by simpa using m
        rw [this]
        exact q3
    · rw [← r1.len]
      simp
theorem ss_setC (i : Nat) {f : MD} {x : Str} {pos' : Pos} (hN : X.N.Nodup) (hi : X.N[i]? = some x) (hx : Loc X.env.scope x) (he : SC X XR E e f) (hs : swapsWith e (some (.Name x pos')) pos.line X.env = pure false := by rfl)
    (hf : X.fn x = true ∨ X.env.scope.names.lookup x = some .local := by first | exact .inl rfl | exact .inr rfl | assumption) : SS X XR E (.Assign [.Name x pos'] e pos) (mSetC i f) := by
  obtain ⟨t, p, q⟩ := he
  refine ⟨_, ps_set hN hi hx p hs hf, fun A Hi ρ s σ H r re D h => q A Hi ρ s σ H r re _ ?_⟩
  exact setC_ok re h
def mRet (f : ME) : MS := fun ρ s => toFl (f ρ s) fun x s => .rt (.d x) s
def mRetN : MS := fun _ s => .rt (.d .none) s
def mRetL (f : ML) : MS := fun ρ s => toFl (f ρ s) fun x s => .rt x s
theorem ss_ret (he : SE X XR E e fa) : SS X XR E (.Return (some e) pos) (mRet fa) := by
  obtain ⟨t, p, q⟩ := he
  refine ⟨_, ps_ret p, fun A Hi ρ s σ H r re D h => q A Hi ρ s σ H r re _ (PF.bind h fun x s1 v Hi1 H1 _ e1 r1 d h1 => ?_)⟩
  exact h1 A Hi1 v H1 .refl r1 d
theorem ss_retN : SS X XR E (.Return none pos) mRetN := ⟨_, ps_retN, fun A Hi ρ s σ H r re D h => h A Hi .non H .refl r rfl⟩
theorem ss_retL (he : SL X XR E e fl) : SS X XR E (.Return (some e) pos) (mRetL fl) := by
  obtain ⟨t, p, q⟩ := he
  refine ⟨_, ps_ret p, fun A Hi ρ s σ H r re D h => q A Hi ρ s σ H r re _ (PF.bind h fun x s1 v Hi1 H1 _ e1 r1 d h1 => ?_)⟩
  exact h1 A Hi1 v H1 .refl r1 d
def mDrop (f : ME) : MS := fun ρ s => toFl (f ρ s) fun _ s => .nx ρ s
theorem ss_drop (he : SE X XR E e fa) (hs : swapsWith e none pos.line X.env = pure false := by rfl) : SS X XR E (.Expr e pos) (mDrop fa) := by
  obtain ⟨t, p, q⟩ := he
  refine ⟨_, ps_expr p hs, fun A Hi ρ s σ H r re D h => q A Hi ρ s σ H r re _ (PF.bind h fun x s1 v Hi1 H1 _ e1 r1 d h1 => ?_)⟩
  exact h1 A Hi1 σ H1 .refl r1 (re.mono e1.same pfx)
def mIf (m : MT) (g1 g2 : MS) : MS := fun ρ s => toFl (m ρ s) fun b s => if b = true then g1 ρ s else g2 ρ s
theorem ss_if {c : Expr} {x y : List Stmt} {m : MT} (hc : ST X XR E c m) (h1 : SB X XR E x g1) (h2 : SB X XR E y g2) : SS X XR E (.If c x y pos) (mIf m g1 g2) := by
  obtain ⟨tc, pc, qc⟩ := hc
  obtain ⟨t1, p1, q1⟩ := h1
  obtain ⟨t2, p2, q2⟩ := h2
  refine ⟨_, ps_if pc p1 p2, fun A Hi ρ s σ H r re D h => qc A Hi ρ s σ H r re _ (PF.bind h fun b s1 v Hi1 H1 _ e1 r1 d hh => ?_)⟩
  cases d
  cases b with
  | true => exact iteT (q1 A Hi1 ρ s1 σ H1 r1 (re.mono e1.same pfx) D hh)
  | false => exact iteF (q2 A Hi1 ρ s1 σ H1 r1 (re.mono e1.same pfx) D hh)
def mNever : MS := fun _ _ => .bad
theorem ss_never : SS X XR E st mNever := ⟨_, ps_never, fun _ _ _ _ _ _ _ _ _ h => h.elim⟩
theorem ss_pass : SS X XR E (.Pass pos) mNil := ⟨_, ps_pass, fun A Hi ρ s σ H r re D h => h A Hi σ H .refl r re⟩
theorem ss_break : SS X XR E (.Break pos) (fun ρ s => .bk ρ s) := ⟨_, ps_break, fun A Hi ρ s σ H r re D h => h A Hi σ H .refl r re⟩
theorem ss_continue : SS X XR E (.Continue pos) (fun ρ s => .ct ρ s) := ⟨_, ps_continue, fun A Hi ρ s σ H r re D h => h A Hi σ H .refl r re⟩
/-- a, b = x, y -/
def mPar (i j : Nat) (fa fb : ME) : MS := fun ρ s => toFl (fa ρ s) fun x s => toFl (fb ρ s) fun y s => .nx ((ρ.set i (some (.d x))).set j (some (.d y))) s
theorem ss_par (i j : Nat) {x y : Str} {px py pt : Pos} {kt k2 pt2} (hc : X.calm = true) (hN : X.N.Nodup) (hi : X.N[i]? = some x) (hj : X.N[j]? = some y) (hij : i ≠ j)
    (hx : X.env.scope.names.lookup x = some .local) (hy : X.env.scope.names.lookup y = some .local) (ha : SE X XR E a fa) (hb : SE X XR E b fb)
    (hw : swappedStores [.Tuple [.Name x px, .Name y py] kt pt] (.Tuple [a, b] k2 pt2) X.env = pure (some [x, y])) (h1 : starEach [a, b] X.env = (false, eval a X.env) :: starEach [b] X.env := by rfl) (h2 : starEach [b] X.env = (false, eval b X.env) :: starEach [] X.env := by rfl)
    (hs : swapsWithSole [.Tuple [.Name x px, .Name y py] kt pt] (.Tuple [a, b] k2 pt2) pos.line X.env = pure false := by rfl) :
    SS X XR E (.Assign [.Tuple [.Name x px, .Name y py] kt pt] (.Tuple [a, b] k2 pt2) pos) (mPar i j fa fb) := by
  obtain ⟨ta, pa, qa⟩ := ha
  obtain ⟨tb, pb, qb⟩ := hb
  refine ⟨_, ps_par hc hN hi hj hij hx hy (pa_cons pa (pa_cons pb pa_nil h2) h1) hw hs, fun A Hi ρ s σ H r re D h => ?_⟩
  refine qa A Hi ρ s σ H r re _ (PF.bind h fun x s1 v Hi1 H1 _ e1 r1 d h1 => ?_)
  refine qb A Hi1 ρ s1 σ H1 r1 (re.mono e1.same pfx) _ (PF.bind h1 fun y s2 w Hi2 H2 _ e2 r2 d2 h2 => ?_)
  refine ⟨v, w, rfl, h2 A Hi2 _ H2 .refl r2 ?_⟩
  exact RE.set (RE.set ((re.mono e1.same pfx).mono e2.same pfx) (x := .d x) (Dq.mono e2.same _ _ d)) (x := .d y) d2
def mPar3 (i j l : Nat) (fa fb fc : ME) : MS := fun ρ s => toFl (fa ρ s) fun x s => toFl (fb ρ s) fun y s => toFl (fc ρ s) fun z s => .nx (((ρ.set i (some (.d x))).set j (some (.d y))).set l (some (.d z))) s
theorem ss_par3 (i j l : Nat) {c : Expr} {fc : ME} {x y z : Str} {px py pz pt : Pos} {kt k2 pt2} (hc : X.calm = true) (hN : X.N.Nodup) (hi : X.N[i]? = some x) (hj : X.N[j]? = some y) (hl : X.N[l]? = some z) (hij : i ≠ j) (hil : i ≠ l) (hjl : j ≠ l)
    (hx : X.env.scope.names.lookup x = some .local) (hy : X.env.scope.names.lookup y = some .local) (hz : X.env.scope.names.lookup z = some .local) (ha : SE X XR E a fa) (hb : SE X XR E b fb) (hcc : SE X XR E c fc)
    (hw : swappedStores [.Tuple [.Name x px, .Name y py, .Name z pz] kt pt] (.Tuple [a, b, c] k2 pt2) X.env = pure (some [x, y, z])) (h1 : starEach [a, b, c] X.env = (false, eval a X.env) :: starEach [b, c] X.env := by rfl)
    (h2 : starEach [b, c] X.env = (false, eval b X.env) :: starEach [c] X.env := by rfl) (h3 : starEach [c] X.env = (false, eval c X.env) :: starEach [] X.env := by rfl)
    (hs : swapsWithSole [.Tuple [.Name x px, .Name y py, .Name z pz] kt pt] (.Tuple [a, b, c] k2 pt2) pos.line X.env = pure false := by rfl) :
    SS X XR E (.Assign [.Tuple [.Name x px, .Name y py, .Name z pz] kt pt] (.Tuple [a, b, c] k2 pt2) pos) (mPar3 i j l fa fb fc) := by
  obtain ⟨ta, pa, qa⟩ := ha
  obtain ⟨tb, pb, qb⟩ := hb
  obtain ⟨tc, pc, qc⟩ := hcc
  refine ⟨_, ps_par3 hc hN hi hj hl hij hil hjl hx hy hz (pa_cons pa (pa_cons pb (pa_cons pc pa_nil h3) h2) h1) hw hs, fun A Hi ρ s σ H r re D h => ?_⟩
  refine qa A Hi ρ s σ H r re _ (PF.bind h fun x s1 v Hi1 H1 _ e1 r1 d h1 => ?_)
  refine qb A Hi1 ρ s1 σ H1 r1 (re.mono e1.same pfx) _ (PF.bind h1 fun y s2 w Hi2 H2 _ e2 r2 d2 h2 => ?_)
  refine qc A Hi2 ρ s2 σ H2 r2 ((re.mono e1.same pfx).mono e2.same pfx) _ (PF.bind h2 fun z s3 u Hi3 H3 _ e3 r3 d3 h3 => ?_)
  refine ⟨v, w, u, rfl, h3 A Hi3 _ H3 .refl r3 ?_⟩
  exact RE.set (RE.set (RE.set (((re.mono e1.same pfx).mono e2.same pfx).mono e3.same pfx) (x := .d x) (Dq.mono (e2.same.trans e3.same) _ _ d)) (x := .d y) (Dq.mono e3.same _ _ d2)) (x := .d z) d3
/-- xs[i] = e, of a list of the store -/
def putAt (b : Sl) (y x : PyData) (s : Sto) : Option Sto := match b, y with
  | .c n, .int i => (s[n]?).bind fun ds => (ixN ds.length i).map fun j => s.set n (ds.set j x)
  | _, _ => none
theorem putAt_some {b : Sl} {y x : PyData} {s s' : Sto} (h : putAt b y x s = some s') : ∃ n i ds j, b = .c n ∧ y = .int i ∧ s[n]? = some ds ∧ ixN ds.length i = some j ∧ s' = s.set n (ds.set j x) := by
  unfold putAt at h
  split at h
  · rename_i n i
    cases hq : s[n]? with
    | none => rw [hq] at h; cases h
    | some ds =>
      rw [hq] at h
      have h : (ixN ds.length i).map (fun j => s.set n (ds.set j x)) = some s' := h
      cases hj : ixN ds.length i with
      | none => rw [hj] at h; cases h
      | some j =>
        rw [hj] at h
        exact ⟨n, i, ds, j, rfl, rfl, hq, hj, (Option.some.inj h).symm⟩
  · cases h
def nxO (ρ : Env) (o : Option Sto) : Fl := match o with
  | some s => .nx ρ s
  | none => .bad
@[simp] theorem nxO_some (ρ : Env) (s : Sto) : nxO ρ (some s) = .nx ρ s := rfl
def mPut (fl : ML) (fi fe : ME) : MS := fun ρ s => toFl (fe ρ s) fun x s => toFl (fl ρ s) fun b s => toFl (fi ρ s) fun y s => nxO ρ (putAt b y x s)
theorem ss_put {l i : Expr} {fi : ME} {pos2 : Pos} (he : SE X XR E e fa) (hl : SL X XR E l fl) (hi : SE X XR E i fi) (hg : ∀ tl ti, PE X l tl → PE X i ti → ∃ t, PG X (.Subscript l i pos2) t ∧ ∀ v σ H Q, (tl σ H fun o H1 => ti σ H1 fun k H2 => rSetL o k v H2 (Q σ)) → t v σ H Q)
    (hs : swapsWithSole [.Subscript l i pos2] e pos.line X.env = pure false := by rfl) (hw : swappedStores [.Subscript l i pos2] e X.env = pure none := by rfl) (h1 : (assignEach [.Subscript l i pos2] X.env).map (·.2) = [assign (.Subscript l i pos2) X.env] := by rfl) :
    SS X XR E (.Assign [.Subscript l i pos2] e pos) (mPut fl fi fa) := by
  obtain ⟨te, pe, qe⟩ := he
  obtain ⟨tl, pl, ql⟩ := hl
  obtain ⟨ti, pi, qi⟩ := hi
  obtain ⟨t, pg, qg⟩ := hg tl ti pl pi
  refine ⟨_, ps_asg pe pg hs hw h1, fun A Hi ρ s σ H r re D h => ?_⟩
  refine qe A Hi ρ s σ H r re _ (PF.bind h fun x s1 v Hi1 H1 _ e1 r1 d h1 => qg v σ H1 D.nx ?_)
  refine ql A Hi1 ρ s1 σ H1 r1 (re.mono e1.same pfx) _ (PF.bind h1 fun b s2 w Hi2 H2 _ e2 r2 d2 h2 => ?_)
  refine qi A Hi2 ρ s2 σ H2 r2 ((re.mono e1.same pfx).mono e2.same pfx) _ (PF.bind h2 fun y s3 u Hi3 H3 _ e3 r3 d3 h3 => ?_)
  cases hq : putAt b y x s3 with
  | none => rw [hq] at h3; exact h3.elim
  | some s' =>
    rw [hq] at h3
    obtain ⟨n, i, ds, j, rfl, rfl, q1, q2, rfl⟩ := putAt_some hq
    cases (show u = _ from d3)
    obtain ⟨l, hl, rfl⟩ := d2
    obtain ⟨xs, h4, h5⟩ := r3.cel n l ds hl q1
    refine ⟨l, xs, i, j, rfl, rfl, h4, by rw [h5.length]; exact q2, ?_⟩
    have d' := Dq.mono (e2.same.trans e3.same) _ _ d
    exact h3 A Hi3 σ _ (Ext.put (List.mem_of_getElem? hl)).s (r3.put hl (DqA.set j h5 d')) (((re.mono e1.same pfx).mono e2.same pfx).mono e3.same pfx)
/-- xs.append(e), of a list of the store -/
def appAt (b : Sl) (x : PyData) (s : Sto) : Option Sto := match b with
  | .c n => (s[n]?).bind fun ds => if ds.length < 100000 then some (s.set n (ds ++ [x])) else none
  | _ => none
theorem appAt_some {b : Sl} {x : PyData} {s s' : Sto} (h : appAt b x s = some s') : ∃ n ds, b = .c n ∧ s[n]? = some ds ∧ ds.length < 100000 ∧ s' = s.set n (ds ++ [x]) := by
  unfold appAt at h
  split at h
  · rename_i n
    cases hq : s[n]? with
    | none => rw [hq] at h; cases h
    | some ds =>
      rw [hq] at h
      have h : (if ds.length < 100000 then some (s.set n (ds ++ [x])) else none) = some s' := h
      split at h
      · exact ⟨n, ds, rfl, hq, by assumption, (Option.some.inj h).symm⟩
      · cases h
  · cases h
def isC : Sl → Bool
  | .c _ => true
  | _ => false
def mApp (fl : ML) (fa : ME) : MS := fun ρ s => toFl (fl ρ s) fun b s => if isC b = true then (toFl (fa ρ s) fun x s => nxO ρ (appAt b x s)) else .bad
theorem ss_app {l : Expr} {apos cpos : Pos} (hl : SL X XR E l fl) (he : SE X XR E e fa) (hp : ∀ tl te, PE X l tl → PE X e te → PE X (.Call (.Attribute l "append" apos) [e] [] cpos) (tBM X.K "list" rAppend tl (tCons te tNil)))
    (hs : swapsWith (.Call (.Attribute l "append" apos) [e] [] cpos) none pos.line X.env = pure false := by rfl) : SS X XR E (.Expr (.Call (.Attribute l "append" apos) [e] [] cpos) pos) (mApp fl fa) := by
  obtain ⟨te, pe, qe⟩ := he
  obtain ⟨tl, pl, ql⟩ := hl
  refine ⟨_, ps_expr (hp tl te pl pe) hs, fun A Hi ρ s σ H r re D h => ?_⟩
  refine ql A Hi ρ s σ H r re _ (PF.bind h fun b s2 w Hi2 H2 _ e2 r2 d2 h2 => ?_)
  cases b with
  | d x => exact h2.elim
  | s ns => exact h2.elim
  | f _ => exact h2.elim
  | c n =>
    obtain ⟨l, hl, rfl⟩ := d2
    have hlt : n < s2.length := by rw [← r2.len]; exact (List.getElem?_eq_some_iff.mp hl).1
    obtain ⟨xs0, h40, _⟩ := r2.cel n l _ hl (List.getElem?_eq_getElem hlt)
    refine ⟨.inl ⟨rfl, xs0, SqL.of h40⟩, ?_⟩
    refine qe A Hi2 ρ s2 σ H2 r2 (re.mono e2.same pfx) _ (PF.bind h2 fun x s3 u Hi3 H3 _ e3 r3 d3 h3 => ?_)
    cases hq : appAt (.c n) x s3 with
    | none => rw [hq] at h3; exact h3.elim
    | some s' =>
      rw [hq] at h3
      obtain ⟨n', ds, e', q1, q2, rfl⟩ := appAt_some hq
      cases e'
      obtain ⟨xs, h4, h5⟩ := r3.cel n l ds hl q1
      refine ⟨l, xs, u, rfl, rfl, h4, by rw [h5.length]; exact Nat.lt_of_lt_of_le q2 (by decide), ?_⟩
      exact h3 A Hi3 σ _ (Ext.put (List.mem_of_getElem? hl)).s (r3.put hl (DqA.snoc h5 d3)) ((re.mono e2.same pfx).mono e3.same pfx)
end
end Mir

namespace Mir
open PySem PySem.Spec PyProof.Rows L2
variable [Tb]
section
variable {X : Cx} {XR : XRel} {E : XK} {a b e : Expr} {fa fb : ME} {fl : ML} {pos p : Pos} {st : Stmt} {g g1 g2 : MS}
/-! ### targets: a name, names in a tuple -/
abbrev MG := PyData → Env → Option Env
theorem wipe_set {σ : L2.St} {i : Nat} {x : Option V} : ∀ {vs : List Nat}, i ∈ vs → wipe (σ.set i x) vs = wipe σ vs
  | [], h => by cases h
  | v :: vs, h => by
    unfold wipe
    by_cases q : i ∈ vs
    · rw [wipe_set q]
    · have hv : i = v := by
        rcases List.mem_cons.mp h with h | h
        · exact h
        · exact absurd h q
      subst hv
      have aux : ∀ us : List Nat, i ∉ us → wipe (σ.set i x) us = (wipe σ us).set i x := by
        intro us
        induction us with
        | nil => intro _; rfl
        | cons u us ih =>
          intro hn
          have h1 : i ≠ u := fun z => hn (by rw [z]; exact List.mem_cons_self)
          have h2 : i ∉ us := fun z => hn (List.mem_cons_of_mem _ z)
          unfold wipe
          rw [ih h2, List.set_comm _ _ h1]
      rw [aux vs q, List.set_set]
structure TGOk (X : Cx) (g : TG) (f : MG) (ix : List Nat) : Prop where
  run : ∀ A Hi ρ s σ H d v, RS X.K A Hi s H → RE X.K A Hi ρ σ → Dq X.K Hi d v → ∀ ρ', f d ρ = some ρ' → ∀ Q : L2.St → Hp → Prop, (∀ σ', RE X.K A Hi ρ' σ' → (∀ vs, (∀ i ∈ ix, i ∈ vs) → wipe σ' vs = wipe σ vs) → Q σ' H) → g v σ H Q
def SG (X : Cx) (tg : Expr) (f : MG) (ix : List Nat) : Prop := ∃ g, PG X tg g ∧ TGOk X g f ix
def gNm (i : Nat) : MG := fun d ρ => some (ρ.set i (some (.d d)))
theorem sg_name (i : Nat) {x : Str} (hN : X.N.Nodup) (hi : X.N[i]? = some x) (hx : Loc X.env.scope x) (hf : X.fn x = true ∨ X.env.scope.names.lookup x = some .local := by first | exact .inl rfl | exact .inr rfl | assumption) : SG X (.Name x pos) (gNm i) [i] := by
  refine ⟨_, pg_name hN hi hx hf, ⟨fun A Hi ρ s σ H d v r re dq ρ' e Q k => ?_⟩⟩
  cases e
  exact k _ (RE.set re (x := .d d) dq) fun vs h => wipe_set (h i (by simp))
def gNms : List Nat → List PyData → Env → Option Env
  | [], [], ρ => some ρ
  | i :: is, d :: ds, ρ => gNms is ds (ρ.set i (some (.d d)))
  | _, _, _ => none
def gTp (is : List Nat) : MG := fun d ρ => match d with
  | .tuple ds => gNms is ds ρ
  | _ => none
def SGs (X : Cx) (ts : List Expr) (is : List Nat) : Prop := ∃ t, PGs X ts t ∧ ∀ A Hi ρ s σ H ds vs, RS X.K A Hi s H → RE X.K A Hi ρ σ → DqA X.K Hi ds vs → ∀ ρ', gNms is ds ρ = some ρ' → ∀ Q : L2.St → Hp → Prop, (∀ σ', RE X.K A Hi ρ' σ' → (∀ ws, (∀ i ∈ is, i ∈ ws) → wipe σ' ws = wipe σ ws) → Q σ' H) → t vs σ H Q
theorem sgs_nil : SGs X [] [] := by
  refine ⟨_, pgs_nil, fun A Hi ρ s σ H ds vs r re dq ρ' e Q k => ?_⟩
  cases ds with
  | nil =>
    cases (show vs = [] from dq)
    cases e
    exact ⟨rfl, k σ re fun _ _ => rfl⟩
  | cons d ds => cases e
theorem sgs_cons {ts : List Expr} {is : List Nat} (i : Nat) {x : Str} (hN : X.N.Nodup) (hi : X.N[i]? = some x) (hx : Loc X.env.scope x) (h : SGs X ts is) (hf : X.fn x = true ∨ X.env.scope.names.lookup x = some .local := by first | exact .inl rfl | exact .inr rfl | assumption)
    (hs : assignEach (.Name x pos :: ts) X.env = (false, assign (.Name x pos) X.env) :: assignEach ts X.env := by rfl) : SGs X (.Name x pos :: ts) (i :: is) := by
  obtain ⟨t, p, q⟩ := h
  refine ⟨_, pgs_cons (pg_name hN hi hx hf) p, fun A Hi ρ s σ H ds vs r re dq ρ' e Q k => ?_⟩
  cases ds with
  | nil => cases e
  | cons d ds =>
    obtain ⟨v, u, rfl, h1, h2⟩ := dq
    refine ⟨v, u, rfl, q A Hi _ s _ H ds u r (RE.set re (x := .d d) h1) h2 ρ' e Q fun σ' re' w => k σ' re' fun ws hw => ?_⟩
    rw [w ws fun j hj => hw j (List.mem_cons_of_mem _ hj)]
    exact wipe_set (hw i List.mem_cons_self)
theorem gNms_len : ∀ {is : List Nat} {ds : List PyData} {ρ ρ' : Env}, gNms is ds ρ = some ρ' → ds.length = is.length
  | [], [], _, _, _ => rfl
  | [], _ :: _, _, _, h => by cases h
  | _ :: _, [], _, _, h => by cases h
  | i :: is, d :: ds, ρ, ρ', h => by rw [List.length_cons, List.length_cons, gNms_len (is := is) (ds := ds) h]
theorem sg_tup {es : List Expr} {is : List Nat} {k : Nat} (hc : X.calm = true) (h : SGs X es is) (hn : (assignEach es X.env).length = is.length := by rfl) (hst : (assignEach es X.env).findIdx? (·.1) = none := by rfl) : SG X (.Tuple es k pos) (gTp is) is := by
  obtain ⟨t, p, q⟩ := h
  refine ⟨_, pg_tup hc p hn hst, ⟨fun A Hi ρ s σ H d v r re dq ρ' e Q k => ?_⟩⟩
  cases d with
  | tuple ds =>
    obtain ⟨a, xs, rfl, h1, h2⟩ := dq
    exact ⟨a, xs, rfl, sqt_mono r.sub h1, by rw [h2.length]; exact gNms_len e, q A Hi ρ s σ H ds xs r re h2 ρ' e Q k⟩
  | _ => cases e
/-- a, b = e, e some data -/
def mTo (f : MG) (fa : ME) : MS := fun ρ s => toFl (fa ρ s) fun x s => match f x ρ with
  | some ρ' => .nx ρ' s
  | none => .bad
theorem ss_to {tg : Expr} {f : MG} {ix : List Nat} (he : SE X XR E e fa) (hg : SG X tg f ix) (hs : swapsWithSole [tg] e pos.line X.env = pure false := by rfl) (hw : swappedStores [tg] e X.env = pure none := by rfl)
    (h1 : (assignEach [tg] X.env).map (·.2) = [assign tg X.env] := by rfl) : SS X XR E (.Assign [tg] e pos) (mTo f fa) := by
  obtain ⟨te, pe, qe⟩ := he
  obtain ⟨g, pg, qg⟩ := hg
  refine ⟨_, ps_asg pe pg hs hw h1, fun A Hi ρ s σ H r re D h => qe A Hi ρ s σ H r re _ (PF.bind h fun x s1 v Hi1 H1 _ e1 r1 d h1 => ?_)⟩
  cases q : f x ρ with
  | none => simp only [q] at h1; exact h1.elim
  | some ρ' =>
    simp only [q] at h1
    exact qg.run A Hi1 ρ s1 σ H1 x v r1 (re.mono e1.same pfx) d ρ' q _ fun σ' re' _ => h1 A Hi1 σ' H1 .refl r1 re'

/-! ### what is walked -/
/-- it yields the items, whatever happens beside what never changes -/
def IOk (K : PySem.W.Frag) (Hi : Hp) (J : It) (ds : List PyData) : Prop := ∀ A' Hi' s' H', Same Hi Hi' → RS K A' Hi' s' H' → ∀ i,
  (∀ d, ds[i]? = some d → J.go i H' ∧ ∀ x H'', J.yld i H' x H'' → ∃ Hi'', Ext A' Hi' H' Hi'' H'' ∧ RS K A' Hi'' s' H'' ∧ Dq K Hi'' d x) ∧ (i = ds.length → J.stop i H')
def SI (X : Cx) (XR : XRel) (E : XK) (tg iter : Expr) (f : MD) : Prop := ∃ wi, PI X tg iter wi ∧ ∀ A Hi ρ s σ H, RS X.K A Hi s H → RE X.K A Hi ρ σ → ∀ R : It → Hp → Prop, PO X.K A Hi H XR E (fun Hi' _ ds J => IOk X.K Hi' J ds) R (f ρ s) → wi σ H R
def iLst (fa : ME) : MD := fun ρ s => (fa ρ s).bind fun x s => match x with
  | .list ds => .ok ds s
  | _ => .bad
def iTpl (fa : ME) : MD := fun ρ s => (fa ρ s).bind fun x s => match x with
  | .tuple ds => .ok ds s
  | _ => .bad
variable {tg : Expr}
theorem si_list (ha : SE X XR E a fa) : SI X XR E tg a (iLst fa) := by
  obtain ⟨t, p, q⟩ := ha
  refine ⟨_, pi_list p, fun A Hi ρ s σ H r re R h => q A Hi ρ s σ H r re _ (PO.bind h fun x s1 v Hi1 H1 _ e1 r1 d h1 => ?_)⟩
  cases x with
  | list ds =>
    obtain ⟨l, xs, rfl, h2, h3⟩ := d
    refine ⟨l, rfl, ⟨xs, SqL.of (r1.sub _ _ h2)⟩, PO.use (R := fun Hi' _ ds J => IOk X.K Hi' J ds) (x := ds) h1 r1 fun A' Hi' s' H' sm r' i => ⟨fun d hd => ?_, fun hl => ?_⟩⟩
    · obtain ⟨v, hv, dv⟩ := DqA.get h3 hd
      have hx : SqL X.K H' l xs := SqL.of (r'.sub _ _ (sm _ _ h2))
      refine ⟨⟨xs, v, hx, hv⟩, fun x H'' y => ?_⟩
      obtain ⟨e, y⟩ := y
      subst e
      have := y xs hx
      rw [hv] at this
      cases this
      exact ⟨Hi', .refl, r', Dq.mono sm _ _ dv⟩
    · exact ⟨xs, SqL.of (r'.sub _ _ (sm _ _ h2)), by rw [h3.length]; omega⟩
  | _ => exact h1.elim
theorem si_tup (ha : SE X XR E a fa) : SI X XR E tg a (iTpl fa) := by
  obtain ⟨t, p, q⟩ := ha
  refine ⟨_, pi_tup p, fun A Hi ρ s σ H r re R h => q A Hi ρ s σ H r re _ (PO.bind h fun x s1 v Hi1 H1 _ e1 r1 d h1 => ?_)⟩
  cases x with
  | tuple ds =>
    obtain ⟨l, xs, rfl, h2, h3⟩ := d
    refine ⟨l, rfl, ⟨xs, sqt_mono r1.sub h2⟩, PO.use (R := fun Hi' _ ds J => IOk X.K Hi' J ds) (x := ds) h1 r1 fun A' Hi' s' H' sm r' i => ⟨fun d hd => ?_, fun hl => ?_⟩⟩
    · obtain ⟨v, hv, dv⟩ := DqA.get h3 hd
      have hx : SqT X.K H' l xs := sqt_mono r'.sub (sqt_mono sm h2)
      refine ⟨⟨xs, v, hx, hv⟩, fun x H'' y => ?_⟩
      obtain ⟨e, y⟩ := y
      subst e
      have := y xs hx
      rw [hv] at this
      cases this
      exact ⟨Hi', .refl, r', Dq.mono sm _ _ dv⟩
    · exact ⟨xs, sqt_mono r'.sub (sqt_mono sm h2), by rw [h3.length]; omega⟩
  | _ => exact h1.elim
def rangeOf (lo : Int) (n : Nat) : List PyData := (List.range n).map fun i => .int (lo + (i : Nat))
theorem range_get {lo : Int} {n i : Nat} {d : PyData} (h : (rangeOf lo n)[i]? = some d) : i < n ∧ d = .int (lo + (i : Nat)) := by
  unfold rangeOf at h
  rw [List.getElem?_map] at h
  by_cases q : i < n
  · rw [List.getElem?_range q] at h
    cases h
    exact ⟨q, rfl⟩
  · rw [List.getElem?_eq_none (by simpa using q)] at h
    cases h
theorem range_len {lo : Int} {n : Nat} : (rangeOf lo n).length = n := by
  unfold rangeOf
  simp
theorem iok_range {K : PySem.W.Frag} {Hi : Hp} {lo : Int} {n : Nat} : IOk K Hi (Itr lo n) (rangeOf lo n) := fun A' Hi' s' H' sm r' i => ⟨fun d hd => by
  obtain ⟨h1, rfl⟩ := range_get hd
  exact ⟨h1, fun x H'' y => by
    obtain ⟨e1, e2⟩ := y
    subst e1 e2
    exact ⟨Hi', .refl, r', rfl⟩⟩, fun hl => by
  rw [range_len] at hl
  exact Nat.le_of_eq hl.symm⟩
def iRg1 (fa : ME) : MD := fun ρ s => (fa ρ s).bind fun x s => match x with
  | .int j => if -(2 ^ 62) ≤ j ∧ j < 2 ^ 62 then .ok (rangeOf 0 j.toNat) s else .bad
  | _ => .bad
theorem si_range1 (hg : Gl X "range") (hm : X.mg "range" = none) (ha : SE X XR E a fa) (h1 : starEach [a] X.env = (false, eval a X.env) :: starEach [] X.env := by rfl) (h2 : starEach [a] X.env = [(false, eval a X.env)] := by rfl) : SI X XR E tg (.Call (.Name "range" p) [a] [] pos) (iRg1 fa) := by
  obtain ⟨t, q, qq⟩ := ha
  refine ⟨_, pi_range1 hg hm (pa_cons q pa_nil h1) h2, fun A Hi ρ s σ H r re R h => qq A Hi ρ s σ H r re _ (PO.bind h fun x s1 v Hi1 H1 _ e1 r1 d h1 => ?_)⟩
  split at h1
  · cases (show v = _ from d)
    split at h1
    · rename_i c
      exact ⟨_, rfl, c.1, c.2, PO.use (R := fun Hi' _ ds J => IOk X.K Hi' J ds) h1 r1 iok_range⟩
    · exact h1.elim
  · exact h1.elim
def iRg2 (fa fb : ME) : MD := fun ρ s => (fa ρ s).bind fun x s => (fb ρ s).bind fun y s => match x, y with
  | .int i, .int j => if (-(2 ^ 62) ≤ i ∧ i < 2 ^ 62) ∧ -(2 ^ 62) ≤ j ∧ j < 2 ^ 62 then .ok (rangeOf i (j - i).toNat) s else .bad
  | _, _ => .bad
theorem si_range2 (hg : Gl X "range") (hm : X.mg "range" = none) (ha : SE X XR E a fa) (hb : SE X XR E b fb) (h1 : starEach [a, b] X.env = (false, eval a X.env) :: starEach [b] X.env := by rfl) (h2 : starEach [b] X.env = (false, eval b X.env) :: starEach [] X.env := by rfl)
    (h3 : starEach [a, b] X.env = [(false, eval a X.env), (false, eval b X.env)] := by rfl) (h4 : starEach [b] X.env = [(false, eval b X.env)] := by rfl) : SI X XR E tg (.Call (.Name "range" p) [a, b] [] pos) (iRg2 fa fb) := by
  obtain ⟨ta, pa, qa⟩ := ha
  obtain ⟨tb, pb, qb⟩ := hb
  refine ⟨_, pi_range2 hg hm (pa_cons pa (pa_cons pb pa_nil h2) h1) h3 h4, fun A Hi ρ s σ H r re R h => ?_⟩
  refine qa A Hi ρ s σ H r re _ (PO.bind h fun x s1 v Hi1 H1 _ e1 r1 d h1 => ?_)
  refine qb A Hi1 ρ s1 σ H1 r1 (re.mono e1.same pfx) _ (PO.bind h1 fun y s2 w Hi2 H2 _ e2 r2 d2 h2 => ?_)
  split at h2
  · cases (show v = _ from d)
    cases (show w = _ from d2)
    split at h2
    · rename_i c
      exact ⟨_, _, rfl, ⟨c.1.1, c.1.2, c.2.1, c.2.2⟩, PO.use (R := fun Hi' _ ds J => IOk X.K Hi' J ds) h2 r2 iok_range⟩
    · exact h2.elim
  · exact h2.elim

/-! ### for -/
def forL (tg : MG) (body : MS) : List PyData → MS
  | [], ρ, s => .nx ρ s
  | d :: ds, ρ, s => match tg d ρ with
    | none => .bad
    | some ρ1 => (match body ρ1 s with
      | .nx ρ2 s2 => forL tg body ds ρ2 s2
      | .ct ρ2 s2 => forL tg body ds ρ2 s2
      | .bk ρ2 s2 => .nx ρ2 s2
      | .rt x s2 => .rt x s2
      | .exc x s2 => .exc x s2
      | .bad => .bad)
def mFor (it : MD) (tg : MG) (body : MS) : MS := fun ρ s => toFl (it ρ s) fun ds s => forL tg body ds ρ s
theorem for_ok {A : List Addr} {Hi H : Hp} {ρ : Env} {s : Sto} {σ : L2.St} {D : Ends} {J : It} {ds : List PyData} {f : MG} {ix : List Nat} {gt : TG} {tb : TS} {body : MS} (r : RS X.K A Hi s H) (re : RE X.K A Hi ρ σ) (hJ : IOk X.K Hi J ds) (hg : TGOk X gt f ix)
    (hb : ∀ A Hi ρ s σ H, RS X.K A Hi s H → RE X.K A Hi ρ σ → ∀ D, PF X.K A Hi H XR E D (body ρ s) → tb D σ H) (h : PF X.K A Hi H XR E D (forL f body ds ρ s)) :
    ∃ W : Nat → Nat → L2.St → Hp → Prop, (∃ m, W 0 m σ H) ∧ ∀ i m σ H, W i m σ H →
      (J.stop i H ∧ D.nx σ H) ∨ (J.go i H ∧ ∃ N : L2.St → Hp → Prop, (∀ σ' H', N σ' H' → ∃ m', m' < m ∧ W (i + 1) m' σ' H') ∧ ∀ x H', J.yld i H x H' → gt x σ H' fun σ2 H2 => tb { D with nx := N, ct := N, bk := D.nx } σ2 H2) := by
  refine ⟨fun i m σ' H' => ∃ A' Hi' ρ' s', Same Hi Hi' ∧ RS X.K A' Hi' s' H' ∧ RE X.K A' Hi' ρ' σ' ∧ m = ds.length - i ∧ i ≤ ds.length ∧ PF X.K A' Hi' H' XR E D (forL f body (ds.drop i) ρ' s'),
    ⟨_, A, Hi, ρ, s, Same.refl _, r, re, rfl, Nat.zero_le _, h⟩, ?_⟩
  rintro i m σ' H' ⟨A', Hi', ρ', s', sm, r', re', rfl, hi, h'⟩
  by_cases hl : i < ds.length
  · obtain ⟨go, yl⟩ := (hJ A' Hi' s' H' sm r' i).1 ds[i] (List.getElem?_eq_getElem hl)
    rw [List.drop_eq_getElem_cons hl] at h'
    refine .inr ⟨go, fun σ2 H2 => ∃ A2 Hi2 ρ2 s2, Same Hi Hi2 ∧ RS X.K A2 Hi2 s2 H2 ∧ RE X.K A2 Hi2 ρ2 σ2 ∧ PF X.K A2 Hi2 H2 XR E D (forL f body (ds.drop (i + 1)) ρ2 s2), ?_, ?_⟩
    · rintro σ2 H2 ⟨A2, Hi2, ρ2, s2, a1, a2, a3, a4⟩
      exact ⟨ds.length - (i + 1), by omega, A2, Hi2, ρ2, s2, a1, a2, a3, rfl, hl, a4⟩
    · intro x H'' y
      obtain ⟨Hi'', e2, r2, d2⟩ := yl x H'' y
      unfold forL at h'
      cases hf : f ds[i] ρ' with
      | none => simp only [hf] at h'; exact h'.elim
      | some ρ1 =>
        simp only [hf] at h'
        refine hg.run A' Hi'' ρ' s' σ' H'' ds[i] x r2 (re'.mono e2.same pfx) d2 ρ1 hf _ fun σ1 re1 _ => ?_
        refine hb A' Hi'' ρ1 s' σ1 H'' r2 re1 _ ?_
        have h2 := PF.back e2.s h'
        cases hB : body ρ1 s' with
        | nx ρ2 s2 =>
          simp only [hB] at h2
          exact fun A3 Hi3 σ3 H3 e3 r3 re3 => ⟨A3, Hi3, ρ2, s2, sm.trans (e2.same.trans e3.ext.same), r3, re3, PF.back e3 h2⟩
        | ct ρ2 s2 =>
          simp only [hB] at h2
          exact fun A3 Hi3 σ3 H3 e3 r3 re3 => ⟨A3, Hi3, ρ2, s2, sm.trans (e2.same.trans e3.ext.same), r3, re3, PF.back e3 h2⟩
        | bk ρ2 s2 => simp only [hB] at h2; exact h2
        | rt x s2 => simp only [hB] at h2; exact h2
        | exc x s2 => simp only [hB] at h2; exact h2
        | bad => simp only [hB] at h2; exact h2
  · have ei : i = ds.length := by omega
    subst ei
    rw [List.drop_length] at h'
    exact .inl ⟨(hJ A' Hi' s' H' sm r' ds.length).2 rfl, h' A' Hi' σ' H' .refl r' re'⟩
theorem ss_for {iter : Expr} {body : List Stmt} {it : MD} {f : MG} {ix : List Nat} {gb : MS} (hp : PassesOwn (model X.prog X.w) X.A X.env X.xe) (hc : X.calm = true) (hi : SI X XR E tg iter it) (hg : SG X tg f ix) (hb : SB X XR E body gb)
    (hs : ∀ x, foldedSetIterable iter X.env x = pure x := by intro _; rfl) : SS X XR E (.For tg iter body [] pos) (mFor it f gb) := by
  obtain ⟨wi, pi, qi⟩ := hi
  obtain ⟨g, pg, qg⟩ := hg
  obtain ⟨tb, pb, qb⟩ := hb
  refine ⟨_, ps_for hp hc pi pg pb hs, fun A Hi ρ s σ H r re D h => qi A Hi ρ s σ H r re _ (PF.bind h fun ds s1 J Hi1 H1 _ e1 r1 d h1 => ?_)⟩
  exact for_ok r1 (re.mono e1.same pfx) d qg qb h1
/-! ### while, with fuel -/
def whileL (m : MT) (body : MS) : Nat → MS
  | 0, _, _ => .bad
  | n + 1, ρ, s => toFl (m ρ s) fun b s => if b = true then (match body ρ s with
      | .nx ρ2 s2 => whileL m body n ρ2 s2
      | .ct ρ2 s2 => whileL m body n ρ2 s2
      | .bk ρ2 s2 => .nx ρ2 s2
      | .rt x s2 => .rt x s2
      | .exc x s2 => .exc x s2
      | .bad => .bad) else .nx ρ s
def mWhile (n : Env → Sto → Nat) (m : MT) (body : MS) : MS := fun ρ s => whileL m body (n ρ s) ρ s
theorem ss_while {c : Expr} {body : List Stmt} {m : MT} {gb : MS} (n : Env → Sto → Nat) (hp : PassesOwn (model X.prog X.w) X.A X.env X.xe) (hc : ST X XR E c m) (hb : SB X XR E body gb) : SS X XR E (.While c body [] pos) (mWhile n m gb) := by
  obtain ⟨tc, pc, qc⟩ := hc
  obtain ⟨tb, pb, qb⟩ := hb
  refine ⟨_, ps_while hp pc pb, fun A Hi ρ s σ H r re D h => ?_⟩
  refine ⟨fun k σ' H' => ∃ A' Hi' ρ' s', RS X.K A' Hi' s' H' ∧ RE X.K A' Hi' ρ' σ' ∧ PF X.K A' Hi' H' XR E D (whileL m gb k ρ' s'), ⟨n ρ s, A, Hi, ρ, s, r, re, h⟩, ?_⟩
  rintro k σ' H' ⟨A', Hi', ρ', s', r', re', h'⟩
  cases k with
  | zero => exact h'.elim
  | succ k =>
    unfold whileL at h'
    refine qc A' Hi' ρ' s' σ' H' r' re' _ (PF.bind h' fun b s1 v Hi1 H1 _ e1 r1 d h1 => ?_)
    cases d
    cases b with
    | false => exact iteF (h1 A' Hi1 σ' H1 .refl r1 (re'.mono e1.same pfx))
    | true =>
      refine iteT ⟨fun σ2 H2 => ∃ A2 Hi2 ρ2 s2, RS X.K A2 Hi2 s2 H2 ∧ RE X.K A2 Hi2 ρ2 σ2 ∧ PF X.K A2 Hi2 H2 XR E D (whileL m gb k ρ2 s2), fun σ2 H2 w => ⟨k, Nat.lt_succ_self _, w⟩, ?_⟩
      refine qb A' Hi1 ρ' s1 σ' H1 r1 (re'.mono e1.same pfx) _ ?_
      rw [if_pos rfl] at h1
      cases hB : gb ρ' s1 with
      | nx ρ2 s2 =>
        simp only [hB] at h1
        exact fun A3 Hi3 σ3 H3 e3 r3 re3 => ⟨A3, Hi3, ρ2, s2, r3, re3, PF.back e3 h1⟩
      | ct ρ2 s2 =>
        simp only [hB] at h1
        exact fun A3 Hi3 σ3 H3 e3 r3 re3 => ⟨A3, Hi3, ρ2, s2, r3, re3, PF.back e3 h1⟩
      | bk ρ2 s2 => simp only [hB] at h1; exact h1
      | rt x s2 => simp only [hB] at h1; exact h1
      | exc x s2 => simp only [hB] at h1; exact h1
      | bad => simp only [hB] at h1; exact h1

/-! ### comprehensions -/
def wipeE (ρ : Env) : List Nat → Env
  | [] => ρ
  | v :: vs => (wipeE ρ vs).set v none
def compL (tg : MG) (m : MT) (fe : ME) (ρ : Env) : List PyData → Sto → Out (List PyData)
  | [], s => .ok [] s
  | d :: ds, s => match tg d ρ with
    | none => .bad
    | some ρ1 => (m ρ1 s).bind fun b s => if b = true then ((fe ρ1 s).bind fun x s => (compL tg m fe ρ ds s).bind fun r s => .ok (x :: r) s) else compL tg m fe ρ ds s
def cComp (it : MD) (tg : MG) (m : MT) (fe : ME) (own : List Nat) : MD := fun ρ s => (it ρ s).bind fun ds s => if ds.length ≤ 100000 then compL tg m fe (wipeE ρ own) ds s else .bad
def mYes : MT := fun _ s => .ok true s
theorem wipeE_set_len (ρ : Env) : ∀ vs : List Nat, (wipeE ρ vs).length = ρ.length
  | [] => rfl
  | v :: vs => by
    unfold wipeE
    rw [List.length_set]
    exact wipeE_set_len ρ vs
theorem RE.wipe {K : PySem.W.Frag} {A : List Addr} {Hi : Hp} {ρ : Env} {σ : L2.St} (h : RE K A Hi ρ σ) : ∀ vs : List Nat, RE K A Hi (wipeE ρ vs) (L2.wipe σ vs)
  | [] => h
  | v :: vs => by
    have ih := RE.wipe h vs
    refine ⟨by unfold wipeE L2.wipe; rw [List.length_set, List.length_set]; exact ih.1, fun i x e => ?_⟩
    unfold wipeE at e
    by_cases q : v = i
    · subst q
      rw [List.getElem?_set_self'] at e
      cases hq : (wipeE ρ vs)[v]? with
      | none => rw [hq] at e; cases e
      | some z => rw [hq] at e; cases e
    · rw [List.getElem?_set_ne q] at e
      obtain ⟨u, h1, h2⟩ := ih.2 i x e
      refine ⟨u, ?_, h2⟩
      unfold L2.wipe
      rw [List.getElem?_set_ne q]
      exact h1
def STs (X : Cx) (XR : XRel) (E : XK) (ifs : List Expr) (f : MT) : Prop := ∃ t, PTs X ifs t ∧ ∀ A Hi ρ s σ H, RS X.K A Hi s H → RE X.K A Hi ρ σ → ∀ Q : Bool → Hp → Prop, PO X.K A Hi H XR E RB Q (f ρ s) → t σ H Q
theorem sts_nil : STs X XR E [] mYes := ⟨_, pts_nil, fun A Hi ρ s σ H r re Q h => PO.use (R := RB) (x := true) h r rfl⟩
theorem sts_one {c : Expr} {m : MT} (h : ST X XR E c m) : STs X XR E [c] m := by
  obtain ⟨t, p, q⟩ := h
  exact ⟨_, pts_one p, q⟩
theorem wipe_get {σ : L2.St} : ∀ (vs : List Nat) (i : Nat), (L2.wipe σ vs)[i]? = if i ∈ vs then (if i < σ.length then some none else none) else σ[i]?
  | [], i => by simp [L2.wipe]
  | v :: vs, i => by
    unfold L2.wipe
    by_cases q : v = i
    · subst q
      rw [List.getElem?_set, if_pos rfl, wipe_length]
      simp
    · rw [List.getElem?_set_ne q, wipe_get vs i]
      have : (i ∈ v :: vs) = (i ∈ vs) := by
        rw [List.mem_cons]
        exact propext ⟨fun h => h.elim (fun z => absurd z.symm q) id, .inr⟩
      simp only [this]
theorem wipe_wipe (σ : L2.St) (vs : List Nat) : L2.wipe (L2.wipe σ vs) vs = L2.wipe σ vs := by
  apply List.ext_getElem?
  intro i
  rw [wipe_get vs i, wipe_get vs i, wipe_length]
  split
  · rfl
  · rfl
theorem PO.bindB {α β γ δ : Type} {K : PySem.W.Frag} {A : List Addr} {Hi H Hi1 H1 : Hp} {R : Hp → Hp → α → β → Prop} {R' : Hp → Hp → γ → δ → Prop} {Q : β → Hp → Prop} {Q' : δ → Hp → Prop} {o : Out α} {k : α → Sto → Out γ} (ex : Ext A Hi1 H1 Hi H) (h : PO K A Hi1 H1 XR E R' Q' (o.bind k))
    (g : ∀ x s v Hi2 H2, o = .ok x s → Ext A Hi H Hi2 H2 → RS K A Hi2 s H2 → R Hi2 H2 x v → PO K A Hi1 H1 XR E R' Q' (k x s) → Q v H2) : PO K A Hi H XR E R Q o := by
  cases o with
  | ok x s => exact fun v H1 H2 e1 r d => g x s v H1 H2 rfl e1 r d h
  | exc x s => exact fun c d H1 H2 e1 r q => h c d H1 H2 (ex.trans e1) r q
  | bad => exact h
theorem Ext.side {A : List Addr} {Hi H Hi' H' : Hp} {C : Addr} {o : HO} (e : Ext A Hi H Hi' H') (n : H C = none) : Ext A Hi H Hi' (upd H' C o) := by
  refine ⟨e.same, fun b u m k q => ?_, fun b q => ?_, e.new⟩
  · rw [upd_ne (ne_of_none q n)]
    exact e.keep b u m k q
  · by_cases z : b = C
    · subst z
      exact n
    · rw [upd_ne z] at q
      exact e.there b q
theorem RS.side {K : PySem.W.Frag} {A : List Addr} {Hi H : Hp} {s : Sto} {C : Addr} {o : HO} (r : RS K A Hi s H) (n : Hi C = none) (m : C ∉ A) (z : H C = none ∨ ∃ xs, H C = some (.lst xs)) : RS K A Hi s (upd H C o) := by
  refine ⟨fun b u e => ?_, r.out, r.nd, r.len, fun i a ds ha hs => ?_, z.elim (fun z => tabs_upd r.tab z) fun ⟨_, z⟩ => tabs_put r.tab z, r.nt⟩
  · rw [upd_ne (ne_of_none e n)]
    exact r.sub _ _ e
  · obtain ⟨xs, e, d⟩ := r.cel i a ds ha hs
    exact ⟨xs, by rw [upd_ne (fun z => m (by rw [← z]; exact List.mem_of_getElem? ha))]; exact e, d⟩
/-- the reading of a comprehension -/
theorem comp_ok {wi : TI} {gt : TG} {tt : TT} {te : TE} {own : List Nat} {it : MD} {f : MG} {ix : List Nat} {m : MT} {fe : ME} {A : List Addr} {Hi H : Hp} {ρ : Env} {s : Sto} {σ : L2.St} {Q : VK}
    (qi : ∀ A Hi ρ s σ H, RS X.K A Hi s H → RE X.K A Hi ρ σ → ∀ R : It → Hp → Prop, PO X.K A Hi H XR E (fun Hi' _ ds J => IOk X.K Hi' J ds) R (it ρ s) → wi σ H R) (qg : TGOk X gt f ix) (hix : ∀ i ∈ ix, i ∈ own)
    (qt : ∀ A Hi ρ s σ H, RS X.K A Hi s H → RE X.K A Hi ρ σ → ∀ Q : Bool → Hp → Prop, PO X.K A Hi H XR E RB Q (m ρ s) → tt σ H Q) (qe : ∀ A Hi ρ s σ H, RS X.K A Hi s H → RE X.K A Hi ρ σ → ∀ Q : VK, PO X.K A Hi H XR E (RD X.K) Q (fe ρ s) → te σ H Q)
    (r : RS X.K A Hi s H) (re : RE X.K A Hi ρ σ) (h : PO X.K A Hi H XR E (RF X.K A H) Q (cComp it f m fe own ρ s)) : tLc wi gt tt te own σ H Q := by
  refine qi A Hi ρ s σ H r re _ (PO.bindB .refl h fun ds s1 J Hi1 H1 _ e1 r1 hJ h1 => ?_)
  intro C hC
  have hC0 : H C = none := e1.there C hC
  have hCA : C ∉ A := r1.notin hC
  split at h1
  · rename_i hlen
    have reW := RE.wipe (re.mono e1.same pfx) own
    -- the state at a turn: the list at C holds what is made so far
    refine ⟨fun i k H' => ∃ Hi' s' acc accD, Ext A Hi H Hi' H' ∧ Same Hi1 Hi' ∧ RS X.K A Hi' s' H' ∧ H' C = some (.lst acc) ∧ Hi' C = none ∧ DqA X.K Hi' accD acc ∧ acc.length ≤ i ∧ k = ds.length - i ∧ i ≤ ds.length ∧
        PO X.K A Hi H XR E (RF X.K A H) Q ((compL f m fe (wipeE ρ own) (ds.drop i) s').bind fun r s => .ok (accD ++ r) s), ⟨_, Hi1, s1, [], [], e1.trans (Ext.fresh1 hC), Same.refl _, r1.new1 hC, upd_same, r1.fresh hC, rfl, Nat.zero_le _, rfl, Nat.zero_le _, ?_⟩, ?_⟩
    · rw [List.drop_zero]
      cases hq : compL f m fe (wipeE ρ own) ds s1 with
      | ok x s => rw [hq] at h1; exact h1
      | exc x s => rw [hq] at h1; exact h1
      | bad => rw [hq] at h1; exact h1
    · rintro i k H' ⟨Hi', s', acc, accD, ex, sm, r', hc, hn, da, hle, rfl, hi, h'⟩
      by_cases hl : i < ds.length
      · obtain ⟨go, yl⟩ := (hJ A Hi' s' H' sm r' i).1 ds[i] (List.getElem?_eq_getElem hl)
        rw [List.drop_eq_getElem_cons hl] at h'
        refine .inr ⟨go, fun H' => ∃ Hi' s' acc accD, Ext A Hi H Hi' H' ∧ Same Hi1 Hi' ∧ RS X.K A Hi' s' H' ∧ H' C = some (.lst acc) ∧ Hi' C = none ∧ DqA X.K Hi' accD acc ∧ acc.length ≤ i + 1 ∧
          PO X.K A Hi H XR E (RF X.K A H) Q ((compL f m fe (wipeE ρ own) (ds.drop (i + 1)) s').bind fun r s => .ok (accD ++ r) s), ?_, ?_⟩
        · rintro H2 ⟨Hi2, s2, acc2, accD2, a1, a2, a3, a4, a5, a6, a7, a8⟩
          exact ⟨_, by omega, Hi2, s2, acc2, accD2, a1, a2, a3, a4, a5, a6, a7, rfl, hl, a8⟩
        · intro x H'' y
          obtain ⟨Hi'', e2, r2, d2⟩ := yl x H'' y
          unfold compL at h'
          cases hf : f ds[i] (wipeE ρ own) with
          | none => simp only [hf] at h'; exact h'.elim
          | some ρ1 =>
            simp only [hf] at h'
            refine qg.run A Hi'' (wipeE ρ own) s' (L2.wipe σ own) H'' ds[i] x r2 (reW.mono (sm.trans e2.same) pfx) d2 ρ1 hf _ fun σ1 re1 hw => ⟨by rw [hw own hix, wipe_wipe], ?_⟩
            have ex2 := ex.trans e2
            have hc2 : H'' C = some (.lst acc) := e2.keep C _ hCA (by intro _ z; cases z) hc
            have hn2 : Hi'' C = none := e2.new C hn (by rw [hc]; intro z; cases z)
            have h'2 : PO X.K A Hi H XR E (RF X.K A H) Q ((m ρ1 s').bind fun b s => (if b = true then ((fe ρ1 s).bind fun x s => (compL f m fe (wipeE ρ own) (ds.drop (i + 1)) s).bind fun r s => .ok (x :: r) s) else compL f m fe (wipeE ρ own) (ds.drop (i + 1)) s).bind fun r s => .ok (accD ++ r) s) := by
              cases hq : m ρ1 s' with
              | ok x s => rw [hq] at h'; exact h'
              | exc x s => rw [hq] at h'; exact h'
              | bad => rw [hq] at h'; exact h'
            refine qt A Hi'' ρ1 s' σ1 H'' r2 re1 _ (PO.bindB ex2 h'2 fun b s3 v3 Hi3 H3 _ e3 r3 d3 h3 => ?_)
            cases d3
            have ex3 := ex2.trans e3
            have hc3 : H3 C = some (.lst acc) := e3.keep C _ hCA (by intro _ z; cases z) hc2
            have hn3 : Hi3 C = none := e3.new C hn2 (by rw [hc2]; intro z; cases z)
            cases b with
            | false =>
              rw [if_neg Bool.false_ne_true] at h3
              exact iteF ⟨Hi3, s3, acc, accD, ex3, sm.trans (e2.same.trans e3.same), r3, hc3, hn3, DqA.mono (e2.same.trans e3.same) _ _ da, by omega, h3⟩
            | true =>
              rw [if_pos rfl] at h3
              have h32 : PO X.K A Hi H XR E (RF X.K A H) Q ((fe ρ1 s3).bind fun x s => (compL f m fe (wipeE ρ own) (ds.drop (i + 1)) s).bind fun r s => .ok ((accD ++ [x]) ++ r) s) := by
                cases hq : fe ρ1 s3 with
                | ok x s =>
                  rw [hq] at h3
                  cases hq2 : compL f m fe (wipeE ρ own) (ds.drop (i + 1)) s with
                  | ok r s => simp only [Out.bind, hq2] at h3 ⊢; rw [List.append_assoc]; exact h3
                  | exc x s => simp only [Out.bind, hq2] at h3 ⊢; exact h3
                  | bad => simp only [Out.bind, hq2] at h3 ⊢; exact h3
                | exc x s => rw [hq] at h3; exact h3
                | bad => rw [hq] at h3; exact h3
              refine iteT (qe A Hi3 ρ1 s3 σ1 H3 r3 (re1.mono e3.same pfx) _ (PO.bindB ex3 h32 fun y s4 w Hi4 H4 _ e4 r4 d4 h4 => ?_))
              have hc4 : H4 C = some (.lst acc) := e4.keep C _ hCA (by intro _ z; cases z) hc3
              have hn4 : Hi4 C = none := e4.new C hn3 (by rw [hc3]; intro z; cases z)
              refine ⟨acc, hc4, Nat.lt_of_lt_of_le (Nat.lt_of_le_of_lt hle (Nat.lt_of_lt_of_le hl hlen)) (by decide), Hi4, s4, acc ++ [w], accD ++ [y], (ex3.trans e4).side hC0, sm.trans ((e2.same.trans e3.same).trans e4.same), r4.side hn4 hCA (.inr ⟨_, hc4⟩), upd_same, hn4, ?_, ?_, h4⟩
              · exact DqA.snoc (DqA.mono ((e2.same.trans e3.same).trans e4.same) _ _ da) d4
              · rw [List.length_append, List.length_singleton]
                omega
      · have ei : i = ds.length := by omega
        subst ei
        rw [List.drop_length] at h'
        refine .inl ⟨(hJ A Hi' s' H' sm r' ds.length).2 rfl, ?_⟩
        exact PO.out (R := RF X.K A H) (x := accD ++ []) h' ex r' ⟨C, acc, rfl, hc, hn, hC0, hCA, by rw [List.append_nil]; exact da⟩
  · exact h1.elim
/-! the readings that the mirrors ask, which hang on no place -/
def tOf (K : PySem.W.Frag) (XR : XRel) (E : XK) (f : ME) : TE := fun σ H Q => ∃ A Hi ρ s, RS K A Hi s H ∧ RE K A Hi ρ σ ∧ PO K A Hi H XR E (RD K) Q (f ρ s)
def ttOf (K : PySem.W.Frag) (XR : XRel) (E : XK) (f : MT) : TT := fun σ H Q => ∃ A Hi ρ s, RS K A Hi s H ∧ RE K A Hi ρ σ ∧ PO K A Hi H XR E RB Q (f ρ s)
def tgOf (K : PySem.W.Frag) (f : MG) (ix : List Nat) : TG := fun v σ H Q => ∃ A Hi ρ s d ρ', RS K A Hi s H ∧ RE K A Hi ρ σ ∧ Dq K Hi d v ∧ f d ρ = some ρ' ∧ ∀ σ', RE K A Hi ρ' σ' → (∀ vs, (∀ i ∈ ix, i ∈ vs) → L2.wipe σ' vs = L2.wipe σ vs) → Q σ' H
theorem SE.pe {f : ME} (h : SE X XR E e f) : PE X e (tOf X.K XR E f) := by
  obtain ⟨t, p, q⟩ := h
  exact ⟨fun pins s σ H Q I ⟨A, Hi, ρ, s', r, re, z⟩ => p.run pins s σ H Q I (q A Hi ρ s' σ H r re Q z)⟩
theorem STs.pts {ifs : List Expr} {f : MT} (h : STs X XR E ifs f) : PTs X ifs (ttOf X.K XR E f) := by
  obtain ⟨t, p, q⟩ := h
  exact ⟨fun pins s σ H Q I ⟨A, Hi, ρ, s', r, re, z⟩ => p.run pins s σ H Q I (q A Hi ρ s' σ H r re Q z)⟩
theorem SG.pg {f : MG} {ix : List Nat} (h : SG X tg f ix) : PG X tg (tgOf X.K f ix) := by
  obtain ⟨t, p, q⟩ := h
  exact ⟨fun pins s σ H v u Q I rv ⟨A, Hi, ρ, s', d, ρ', r, re, dq, e, k⟩ => p.run pins s σ H v u Q I rv (q.run A Hi ρ s' σ H d v r re dq ρ' e Q k)⟩
section
variable {elt iter : Expr} {ifs : List Expr} {scope : Scope} {own : List (Str × Nat)} {it : MD} {f : MG} {ix : List Nat} {m : MT} {fe : ME}
theorem sc_comp (hc : X.calm = true) (hN : X.N.Nodup) (hi : SI X XR E tg iter it) (ok : BlkOk X.N X.env.scope scope own)
    (hg : ∀ (s : Shared) (H : Hp) (C : Addr) (cl : List (Str × Addr)) (fp : List Addr), SG (X.blk s H scope (compEnvC scope cl C X.env) fp) tg f ix)
    (ht : ∀ (s : Shared) (H : Hp) (C : Addr) (cl : List (Str × Addr)) (fp : List Addr), STs (X.blk s H scope (compEnvC scope cl C X.env) fp) XR E ifs m)
    (he : ∀ (s : Shared) (H : Hp) (C : Addr) (cl : List (Str × Addr)) (fp : List Addr), SE (X.blk s H scope (compEnvC scope cl C X.env) fp) XR E elt fe)
    (hix : ∀ i ∈ ix, i ∈ own.map (·.2) := by decide) (hs : ∀ x, foldedSetIterable iter X.env x = pure x := by intro _; rfl) : SC X XR E (.ListComp elt [⟨tg, iter, ifs, 0⟩] scope pos) (cComp it f m fe (own.map (·.2))) := by
  obtain ⟨wi, pi, qi⟩ := hi
  exact ⟨_, pe_lc (g := tgOf X.K f ix) (tt := ttOf X.K XR E m) (te := tOf X.K XR E fe) hc hN pi ok (fun s H C cl fp => (hg s H C cl fp).pg) (fun s H C cl fp => (ht s H C cl fp).pts) (fun s H C cl fp => (he s H C cl fp).pe) hs, fun A Hi ρ s σ H r re Q h =>
    comp_ok qi ⟨fun A Hi ρ s σ H d v r re dq ρ' e Q k => ⟨A, Hi, ρ, s, d, ρ', r, re, dq, e, k⟩⟩ hix (fun A Hi ρ s σ H r re Q h => ⟨A, Hi, ρ, s, r, re, h⟩) (fun A Hi ρ s σ H r re Q h => ⟨A, Hi, ρ, s, r, re, h⟩) r re h⟩
/-- name = [..] on one line: data at the name -/
theorem ss_setLc (i : Nat) {y : Str} {py spos : Pos} (hc : X.calm = true) (hN : X.N.Nodup) (hy : X.N[i]? = some y) (hyl : X.env.scope.names.lookup y = some .local)
    (hsw : swapsWith (.ListComp elt [⟨tg, iter, ifs, 0⟩] scope pos) (some (.Name y py)) spos.line X.env = pure true) (hi : SI X XR E tg iter it) (ok : BlkOk X.N X.env.scope scope own)
    (hg : ∀ (s : Shared) (H : Hp) (C : Addr) (cl : List (Str × Addr)) (fp : List Addr), SG (X.blk s H scope (compEnvC scope cl C X.env) fp) tg f ix)
    (ht : ∀ (s : Shared) (H : Hp) (C : Addr) (cl : List (Str × Addr)) (fp : List Addr), STs (X.blk s H scope (compEnvC scope cl C X.env) fp) XR E ifs m)
    (he : ∀ (s : Shared) (H : Hp) (C : Addr) (cl : List (Str × Addr)) (fp : List Addr), SE (X.blk s H scope (compEnvC scope cl C X.env) fp) XR E elt fe)
    (hix : ∀ i ∈ ix, i ∈ own.map (·.2) := by decide) (hs : ∀ x, foldedSetIterable iter X.env x = pure x := by intro _; rfl) :
    SS X XR E (.Assign [.Name y py] (.ListComp elt [⟨tg, iter, ifs, 0⟩] scope pos) spos) (mSet i (eFr (cComp it f m fe (own.map (·.2))))) := by
  obtain ⟨wi, pi, qi⟩ := hi
  refine ⟨_, ps_setLc (g := tgOf X.K f ix) (tt := ttOf X.K XR E m) (te := tOf X.K XR E fe) hc hN hy hyl hsw pi ok (fun s H C cl fp => (hg s H C cl fp).pg) (fun s H C cl fp => (ht s H C cl fp).pts) (fun s H C cl fp => (he s H C cl fp).pe) hs, fun A Hi ρ s σ H r re D h => ?_⟩
  refine comp_ok qi ⟨fun A Hi ρ s σ H d v r re dq ρ' e Q k => ⟨A, Hi, ρ, s, d, ρ', r, re, dq, e, k⟩⟩ hix (fun A Hi ρ s σ H r re Q h => ⟨A, Hi, ρ, s, r, re, h⟩) (fun A Hi ρ s σ H r re Q h => ⟨A, Hi, ρ, s, r, re, h⟩) r re ?_
  have h2 : PO X.K A Hi H XR E (RD X.K) (fun v H' => gName i v σ H' D.nx) (eFr (cComp it f m fe (own.map (·.2))) ρ s) := PF.bind h fun x s1 v Hi1 H1 _ e1 r1 d h1 => h1 A Hi1 _ H1 .refl r1 (RE.set (re.mono e1.same pfx) (x := .d x) d)
  unfold eFr at h2
  cases hf : cComp it f m fe (own.map (·.2)) ρ s with
  | ok ds s1 =>
    rw [hf] at h2
    rintro v Hi' H' e1 r1 ⟨a, xs, rfl, q1, q2, q3, q4, q5⟩
    refine h2 (.ref a) (upd Hi' a (.lst xs)) H' ⟨e1.same.trans (same_upd q2), e1.keep, e1.there, fun b hb hb2 => ?_⟩ (r1.own q1 q2 q4) ⟨a, xs, rfl, upd_same, DqA.mono (same_upd q2) _ _ q5⟩
    have hne : b ≠ a := fun z => by
      subst z
      exact hb2 q3
    rw [upd_ne hne]
    exact e1.new b hb hb2
  | exc x s1 => rw [hf] at h2; exact h2
  | bad => rw [hf] at h2; exact h2
/-- the same: a list of the store -/
theorem ss_setLcC (i : Nat) {y : Str} {py spos : Pos} (hc : X.calm = true) (hN : X.N.Nodup) (hy : X.N[i]? = some y) (hyl : X.env.scope.names.lookup y = some .local)
    (hsw : swapsWith (.ListComp elt [⟨tg, iter, ifs, 0⟩] scope pos) (some (.Name y py)) spos.line X.env = pure true) (hi : SI X XR E tg iter it) (ok : BlkOk X.N X.env.scope scope own)
    (hg : ∀ (s : Shared) (H : Hp) (C : Addr) (cl : List (Str × Addr)) (fp : List Addr), SG (X.blk s H scope (compEnvC scope cl C X.env) fp) tg f ix)
    (ht : ∀ (s : Shared) (H : Hp) (C : Addr) (cl : List (Str × Addr)) (fp : List Addr), STs (X.blk s H scope (compEnvC scope cl C X.env) fp) XR E ifs m)
    (he : ∀ (s : Shared) (H : Hp) (C : Addr) (cl : List (Str × Addr)) (fp : List Addr), SE (X.blk s H scope (compEnvC scope cl C X.env) fp) XR E elt fe)
    (hix : ∀ i ∈ ix, i ∈ own.map (·.2) := by decide) (hs : ∀ x, foldedSetIterable iter X.env x = pure x := by intro _; rfl) :
    SS X XR E (.Assign [.Name y py] (.ListComp elt [⟨tg, iter, ifs, 0⟩] scope pos) spos) (mSetC i (cComp it f m fe (own.map (·.2)))) := by
  obtain ⟨wi, pi, qi⟩ := hi
  refine ⟨_, ps_setLc (g := tgOf X.K f ix) (tt := ttOf X.K XR E m) (te := tOf X.K XR E fe) hc hN hy hyl hsw pi ok (fun s H C cl fp => (hg s H C cl fp).pg) (fun s H C cl fp => (ht s H C cl fp).pts) (fun s H C cl fp => (he s H C cl fp).pe) hs, fun A Hi ρ s σ H r re D h => ?_⟩
  exact comp_ok qi ⟨fun A Hi ρ s σ H d v r re dq ρ' e Q k => ⟨A, Hi, ρ, s, d, ρ', r, re, dq, e, k⟩⟩ hix (fun A Hi ρ s σ H r re Q h => ⟨A, Hi, ρ, s, r, re, h⟩) (fun A Hi ρ s σ H r re Q h => ⟨A, Hi, ρ, s, r, re, h⟩) r re (setC_ok re h)
end
end
end Mir

namespace Mir
open PySem PySem.Spec PyProof.Rows L2
variable [Tb]
/-! ### zip of a list or a tuple and of a list or a tuple -/
def gK (t : Bool) (K : PySem.W.Frag) (H : Hp) (a : Addr) (xs : List V) : Prop := match t with
  | true => SqT K H a xs
  | false => SqL K H a xs
def itK (t : Bool) (h : Heap) (it l : Addr) (i : Nat) : Prop := match t with
  | true => h.IsTupleIter it l i
  | false => h.IsListIter it l i
def sqK (t : Bool) (h : Heap) (l : Addr) (vs : Array Value) : Prop := match t with
  | true => h.IsTuple l vs
  | false => h.IsList l vs
theorem itK_obj {t : Bool} {h : Heap} {it l : Addr} {i : Nat} (x : itK t h it l i) : ∃ o, h.get? it = some o ∧ ∀ v, o.data ≠ .cell v := by
  cases t with
  | true =>
    obtain ⟨o, e, _, d⟩ := x
    exact ⟨o, e, fun v q => by rw [d] at q; cases q⟩
  | false =>
    obtain ⟨o, e, _, d⟩ := x
    exact ⟨o, e, fun v q => by rw [d] at q; cases q⟩
theorem itK_at {t : Bool} {h h' : Heap} {it l : Addr} {i : Nat} (x : itK t h it l i) (e : ∀ o, h.get? it = some o → h'.get? it = some o) : itK t h' it l i := by
  cases t with
  | true => exact Heap.IsTupleIter.at x e
  | false => exact Heap.IsListIter.at x e
theorem draws_k {prog : Program} {w : World} {A : Around} (t : Bool) (hh : A.handled = none) (it l : Addr) (hne : l ≠ it) (vs : Array Value) : Draws prog w A it [it, l] vs.size (fun i v => vs[i]? = some v) (fun i h => itK t h it l i ∧ sqK t h l vs) := by
  cases t with
  | true => exact Draws.tuple hh it l hne vs
  | false => exact Draws.list hh it l hne vs
section
variable {X : Cx} {pins : List (Addr × Obj)} {σ : L2.St} {H : Hp} {s : Shared}
theorem gK_vals {t : Bool} {a : Addr} {xs : List V} (I : Inv X pins σ H s) (h : gK t X.K H a xs) : ∃ us : List Value, Vals xs us ∧ sqK t s.heap a us.toArray ∧ a < s.heap.objs.size := by
  cases t with
  | true =>
    obtain ⟨us, r, p, _⟩ := I.tuple h
    exact ⟨us, r, p, p.lt⟩
  | false =>
    obtain ⟨us, r, p, _⟩ := I.list h
    exact ⟨us, r, p.isList, p.lt⟩
theorem gK_inj {t : Bool} {a : Addr} {xs ys : List V} (I : Inv X pins σ H s) (h : gK t X.K H a xs) (h' : gK t X.K H a ys) : xs = ys := by
  cases t with
  | true => exact I.tuple_inj h h'
  | false => exact I.list_inj h h'
end
def Izm (K : PySem.W.Frag) (t u : Bool) (a b : Addr) : It :=
  ⟨fun i H => ∃ (xs ys : List V) (x y : V), gK t K H a xs ∧ gK u K H b ys ∧ xs[i]? = some x ∧ ys[i]? = some y,
   fun i H v H' => ∃ p x y, v = .ref p ∧ H p = none ∧ H' = upd H p (.tup [x, y]) ∧ (∀ xs, gK t K H a xs → xs[i]? = some x) ∧ ∀ ys, gK u K H b ys → ys[i]? = some y,
   fun i H => ∃ xs ys : List V, gK t K H a xs ∧ gK u K H b ys ∧ i ≤ xs.length ∧ i ≤ ys.length ∧ (i = xs.length ∨ i = ys.length)⟩
structure Zst (t u : Bool) (z c d i1 i2 a b : Addr) (i : Nat) (h : Heap) : Prop where
  hz : IsZip h z c d .none
  hc : IsTupOf2 h c (.ref i1) (.ref i2)
  hd : ∃ x y, IsTupOf2 h d x y
  h1 : itK t h i1 a i
  h2 : itK u h i2 b i
theorem sep_of {z c d i1 i2 a b : Addr} (D : ZipApart z c d i1 i2 a b) (n1 : i1 ≠ b) (n2 : i2 ≠ a) (n3 : b ≠ z) (n4 : b ≠ d) : ZipSep2 z c d i1 i2 [i1, a] [i2, b] where
  TIz := D.TIz
  TOz := D.TOz
  TITO := D.TITO
  TIi1 := D.TIi1
  mem1 := by simp
  zf1 := by simp [D.i1z.symm, D.l1z.symm]
  Tf1 := by simp [D.TOi1, D.l1TO.symm]
  TIi2 := D.TIi2
  mem2 := by simp
  zf2 := by simp [D.i2z.symm, n3.symm]
  Tf2 := by simp [D.TOi2, n4.symm]
  sep1_2 := by simp [D.i12, n1]
  sep2_1 := by simp [D.i12.symm, n2]
theorem turn_zm {P : Program} {w : World} {K : PySem.W.Frag} {es : List Expr} {k : Nat} {tp : Pos} {t u : Bool} {a b z c d i1 i2 : Addr} (S : ZipSep2 z c d i1 i2 [i1, a] [i2, b]) (n1 : a ≠ i1) (n2 : b ≠ i2) :
    Turn P w K (.Tuple es k tp) (Izm K t u a b) [z, c, d, i1, i2] z (Zst t u z c d i1 i2 a b) where
  mem := List.mem_cons_self
  obj := fun i h st y hy => by
    simp only [List.mem_cons, List.not_mem_nil, or_false] at hy
    rcases hy with rfl | rfl | rfl | rfl | rfl
    · exact ⟨_, st.hz, fun _ => by intro q; cases q⟩
    · exact ⟨_, st.hc, fun _ => by intro q; cases q⟩
    · obtain ⟨_, _, q⟩ := st.hd
      exact ⟨_, q, fun _ => by intro q; cases q⟩
    · exact itK_obj st.h1
    · exact itK_obj st.h2
  keep := fun i h h' st kk => by
    obtain ⟨x, y, q⟩ := st.hd
    exact ⟨kk z (by simp) _ st.hz, kk c (by simp) _ st.hc, ⟨x, y, kk d (by simp) _ q⟩, itK_at st.h1 fun o e => kk i1 (by simp) o e, itK_at st.h2 fun o e => kk i2 (by simp) o e⟩
  item := by
    intro X hP hw hK calm i pins s σ H E I hf st go
    subst hP hw hK
    obtain ⟨x0, y0, hd0⟩ := st.hd
    obtain ⟨xs, ys, x, y, gx, gy, ex, ey⟩ := go
    obtain ⟨us, r1, p1, _⟩ := gK_vals I gx
    obtain ⟨vs, r2, p2, _⟩ := gK_vals I gy
    obtain ⟨v1, e1, q1⟩ := r1.get ex
    obtain ⟨v2, e2, q2⟩ := r2.get ey
    have hh : X.A.in1.handled = none := I.ok.hd calm
    have D1 := draws_k (prog := X.prog) (w := X.w) t hh i1 a n1 us.toArray
    have D2 := draws_k (prog := X.prog) (w := X.w) u hh i2 b n2 vs.toArray
    have l1 : i < us.toArray.size := by simpa using (List.getElem?_eq_some_iff.mp e1).1
    have l2 : i < vs.toArray.size := by simpa using (List.getElem?_eq_some_iff.mp e2).1
    refine wpAny_pyNext_zipD2_item S D1 D2 st.hz st.hc hd0 ⟨st.h1, p1⟩ ⟨st.h2, p2⟩ l1 l2 fun w1 w2 h' tk a1 a2 z1 z2 st1 st2 hT hsz kp => ?_
    have b1 : w1 = v1 := by
      have a1' : us.toArray[i]? = some w1 := a1
      rw [List.getElem?_toArray, e1] at a1'
      exact (Option.some.inj a1').symm
    have b2 : w2 = v2 := by
      have a2' : vs.toArray[i]? = some w2 := a2
      rw [List.getElem?_toArray, e2] at a2'
      exact (Option.some.inj a2').symm
    subst b1 b2
    have zlt : z < s.heap.objs.size := Heap.lt_size st.hz
    refine ⟨_, rfl, wpAny_letOwnedTupleGo_zip (s := { s with heap := h', toks := tk }) z1 fun h2 z3 sb => ?_⟩
    have hT2 : h2.get? s.heap.objs.size = some { cls := .type "tuple", data := .seq #[w1, w2] } := (sb.2 _ (Nat.ne_of_gt zlt)).trans hT
    have ok : ObjOk X.prog X.w (upd H s.heap.objs.size (.tup [x, y])) h2 s.heap.objs.size (.tup [x, y]) := ⟨by show 2 ≤ sizeLine; decide, [w1, w2], .cons q1 (.cons q2 .nil), _, hT2, rfl, _, rfl⟩
    have kp2 : ∀ e o, e ∉ [z, c, d, i1, i2] → s.heap.get? e = some o → h2.get? e = some o := fun e o ne he => by
      simp only [List.mem_cons, List.not_mem_nil, or_false, not_or] at ne
      exact (sb.2 e ne.1).trans (kp e o ne.1 ne.2.2.1 ne.2.2.2.1 ne.2.2.2.2 he)
    refine ⟨.ref s.heap.objs.size, _, I.turnedNew (t' := tk) (ch := [z, c, d, i1, i2]) kp2 hf (Nat.le_refl _) ok, rfl, ⟨_, x, y, rfl, I.hok.fresh (Nat.le_refl _), rfl, fun l hl => by rw [gK_inj I hl gx]; exact ex, fun l hl => by rw [gK_inj I hl gy]; exact ey⟩, ⟨z3, ?_, ⟨w1, w2, ?_⟩, ?_, ?_⟩, fun e he => ?_⟩
    · have hcc : h'.get? c = _ := kp c _ S.TIz S.TITO S.TIi1 S.TIi2 st.hc
      exact (sb.2 _ S.TIz).trans hcc
    · exact (sb.2 _ S.TOz).trans z2
    · exact itK_at st1.1 fun o q => (sb.2 _ S.zi1.symm).trans q
    · exact itK_at st2.1 fun o q => (sb.2 _ S.zi2.symm).trans q
    · have hlt : e < s.heap.objs.size := by
        simp only [List.mem_cons, List.not_mem_nil, or_false] at he
        rcases he with rfl | rfl | rfl | rfl | rfl
        · exact zlt
        · exact Heap.lt_size st.hc
        · exact Heap.lt_size hd0
        · obtain ⟨_, q, _⟩ := itK_obj st.h1
          exact Heap.lt_size q
        · obtain ⟨_, q, _⟩ := itK_obj st.h2
          exact Heap.lt_size q
      rw [upd_ne (Nat.ne_of_lt hlt)]
      exact (hf e he).1
  done := by
    intro X hP hw hK calm i pins s σ H E I hf st stop
    subst hP hw hK
    obtain ⟨x0, y0, hd0⟩ := st.hd
    obtain ⟨xs, ys, gx, gy, le1, le2, hend⟩ := stop
    obtain ⟨us, r1, p1, _⟩ := gK_vals I gx
    obtain ⟨vs, r2, p2, _⟩ := gK_vals I gy
    have hh : X.A.in1.handled = none := I.ok.hd calm
    have D1 := draws_k (prog := X.prog) (w := X.w) t hh i1 a n1 us.toArray
    have D2 := draws_k (prog := X.prog) (w := X.w) u hh i2 b n2 vs.toArray
    have z1 : us.toArray.size = xs.length := by rw [List.size_toArray, r1.length]
    have z2 : vs.toArray.size = ys.length := by rw [List.size_toArray, r2.length]
    refine wpAny_pyNext_zipD2_end S D1 D2 st.hz st.hc hd0 ⟨st.h1, p1⟩ ⟨st.h2, p2⟩ (by omega) (by omega) (by omega) fun h' tk kp => ⟨rfl, ?_⟩
    refine I.turnedL (t' := tk) (ch := [z, c, d, i1, i2]) (fun e o ne he => ?_) hf
    simp only [List.mem_cons, List.not_mem_nil, or_false, not_or] at ne
    exact kp e o ne.1 ne.2.2.1 ne.2.2.2.1 ne.2.2.2.2 he
  self := fun A i s Q E st h => wpAny_pyIter_zip st.hz h
def iZm (K : PySem.W.Frag) (t u : Bool) (ta : TA) : TI := fun σ H R => ta σ H fun vs H1 => ∃ a b xs ys, vs = [.ref a, .ref b] ∧ gK t K H1 a xs ∧ gK u K H1 b ys ∧ R (Izm K t u a b) H1
def obK (t : Bool) (l : Addr) : Obj := match t with
  | true => { cls := .type "tuple_iterator", data := .fields #[.ref l, .int 0 0] }
  | false => { cls := .type "list_iterator", data := .fields #[.ref l, .int 0 0] }
theorem begins_k (t : Bool) (l : Addr) (vs : Array Value) : Begins (.ref l) (obK t l) (fun h => sqK t h l vs) := by
  cases t with
  | true => exact begins_tuple l vs
  | false => exact begins_list l vs
theorem itK_new {t : Bool} {h : Heap} {it l : Addr} (e : h.get? it = some (obK t l)) : itK t h it l 0 := by
  cases t with
  | true => exact ⟨_, e, rfl, rfl⟩
  | false => exact ⟨_, e, rfl, rfl⟩
theorem pi_zm {X : Cx} {e e2 : Expr} {ta : TA} {p pos tp : Pos} {es : List Expr} {k : Nat} (t u : Bool) (hg : Gl X "zip") (hm : X.mg "zip" = none) (ha : PA X [e, e2] ta)
    (hs : starEach [e, e2] X.env = (false, eval e X.env) :: starEach [e2] X.env := by rfl) (hpl : (backTo pos (starEach [e2] X.env)).any (·.1) = false := by rfl) :
    PI X (.Tuple es k tp) (.Call (.Name "zip" p) [e, e2] [] pos) (iZm X.K t u ta) := by
  refine ⟨fun pins s σ H R I h => ?_⟩
  refine Call_ (ld_blt I hg hm PyProof.Rows.boot_zip (PyProof.Rows.callWith_type1 (thn (ha.run pos pins s σ H _ I h) fun us s1 ⟨vs, H1, I1, r1, a, b, xs, ys, ex, gx, gy, q⟩ => ?_) hs hpl))
  subst ex
  obtain ⟨u1, u2, rfl, q1, q2⟩ := vals2 r1
  cases (show u1 = Value.ref a from q1)
  cases (show u2 = Value.ref b from q2)
  obtain ⟨its1, v1, p1, la⟩ := gK_vals I1 gx
  obtain ⟨its2, v2, p2, lb⟩ := gK_vals I1 gy
  refine zip_begins2 (begins_k t a its1.toArray) (begins_k u b its2.toArray) p1 p2 fun h' hz hT hO g1 g2 hsz kp => wpAny_pyIter_zip hz ?_
  have I2 : Inv X pins σ H1 { s1 with heap := h' } := I1.kept (t' := s1.toks) kp
  have ap := PySem.W.ktu_apart s1.heap.objs.size a b la lb
  have sp := sep_of ap (Nat.ne_of_gt (Nat.lt_of_lt_of_le lb (Nat.le_refl _))) (Nat.ne_of_gt (Nat.lt_succ_of_lt la)) (Nat.ne_of_lt (Nat.lt_of_lt_of_le lb (Nat.le_add_right _ _))) (Nat.ne_of_lt (Nat.lt_of_lt_of_le lb (Nat.le_add_right _ _)))
  refine ⟨s1.heap.objs.size + 4, [s1.heap.objs.size + 4, s1.heap.objs.size + 2, s1.heap.objs.size + 3, s1.heap.objs.size, s1.heap.objs.size + 1], _, _, H1, rfl, I2, turn_zm sp ap.l1i1 (Nat.ne_of_lt (Nat.lt_succ_of_lt lb)), ⟨hz, hT, ⟨_, _, hO⟩, itK_new g1, itK_new g2⟩, fun c hc => ?_, q⟩
  have hle : s1.heap.objs.size ≤ c := by
    simp only [List.mem_cons, List.not_mem_nil, or_false] at hc
    rcases hc with rfl | rfl | rfl | rfl | rfl <;> omega
  exact I1.fpOk hle (I1.hok.fresh hle)
section
variable {X : Cx} {XR : XRel} {E : XK} {a b : Expr} {fa fb : ME} {pos p tp : Pos} {es : List Expr} {k : Nat}
def zipD : List PyData → List PyData → List PyData
  | x :: xs, y :: ys => .tuple [x, y] :: zipD xs ys
  | _, _ => []
theorem zipD_len : ∀ xs ys : List PyData, (zipD xs ys).length = min xs.length ys.length
  | [], _ => by simp [zipD]
  | _ :: _, [] => by simp [zipD]
  | x :: xs, y :: ys => by
    simp only [zipD, List.length_cons, zipD_len xs ys]
    omega
theorem zipD_get : ∀ {xs ys : List PyData} {i : Nat} {d : PyData}, (zipD xs ys)[i]? = some d → ∃ x y, xs[i]? = some x ∧ ys[i]? = some y ∧ d = .tuple [x, y]
  | [], _, _, _, h => by simp [zipD] at h
  | _ :: _, [], _, _, h => by simp [zipD] at h
  | x :: xs, y :: ys, 0, d, h => by
    have h' : PyData.tuple [x, y] = d := by simpa [zipD] using h
    exact ⟨x, y, rfl, rfl, h'.symm⟩
  | x :: xs, y :: ys, i + 1, d, h => by
    obtain ⟨u, v, h1, h2, h3⟩ := zipD_get (xs := xs) (ys := ys) (i := i) (d := d) (by simpa [zipD] using h)
    exact ⟨u, v, by simpa using h1, by simpa using h2, h3⟩
/-- the items of a tuple (t) or list -/
def sqOf (t : Bool) (x : PyData) : Option (List PyData) := match t, x with
  | true, .tuple ds => some ds
  | false, .list ds => some ds
  | _, _ => none
theorem sqOf_rel {K : PySem.W.Frag} {Hi H' : Hp} {t : Bool} {x : PyData} {v : V} {ds : List PyData} (d : Dq K Hi x v) (e : sqOf t x = some ds) : ∃ l xs, v = .ref l ∧ DqA K Hi ds xs ∧ ∀ H', Same Hi H' → gK t K H' l xs := by
  cases t with
  | true =>
    cases x with
    | tuple ys =>
      cases e
      obtain ⟨l, xs, rfl, h1, h2⟩ := d
      exact ⟨l, xs, rfl, h2, fun H' s => sqt_mono s h1⟩
    | _ => cases e
  | false =>
    cases x with
    | list ys =>
      cases e
      obtain ⟨l, xs, rfl, h1, h2⟩ := d
      exact ⟨l, xs, rfl, h2, fun H' s => SqL.of (s _ _ h1)⟩
    | _ => cases e
def zipO (t u : Bool) (x y : PyData) (s : Sto) : Out (List PyData) := match sqOf t x with
  | some xs => (match sqOf u y with
    | some ys => .ok (zipD xs ys) s
    | none => .bad)
  | none => .bad
def iZip (t u : Bool) (fa fb : ME) : MD := fun ρ s => (fa ρ s).bind fun x s => (fb ρ s).bind fun y s => zipO t u x y s
theorem si_zip (t u : Bool) (hg : Gl X "zip") (hm : X.mg "zip" = none) (ha : SE X XR E a fa) (hb : SE X XR E b fb) (h1 : starEach [a, b] X.env = (false, eval a X.env) :: starEach [b] X.env := by rfl) (h2 : starEach [b] X.env = (false, eval b X.env) :: starEach [] X.env := by rfl)
    (h3 : (backTo pos (starEach [b] X.env)).any (·.1) = false := by rfl) : SI X XR E (.Tuple es k tp) (.Call (.Name "zip" p) [a, b] [] pos) (iZip t u fa fb) := by
  obtain ⟨ta, pa, qa⟩ := ha
  obtain ⟨tb, pb, qb⟩ := hb
  refine ⟨_, pi_zm t u hg hm (pa_cons pa (pa_cons pb pa_nil h2) h1) h1 h3, fun A Hi ρ s σ H r re R h => ?_⟩
  refine qa A Hi ρ s σ H r re _ (PO.bind h fun x s1 v Hi1 H1 _ e1 r1 d h1 => ?_)
  refine qb A Hi1 ρ s1 σ H1 r1 (re.mono e1.same pfx) _ (PO.bind h1 fun y s2 w Hi2 H2 _ e2 r2 d2 h2 => ?_)
  unfold zipO at h2
  split at h2
  · rename_i xs hx
    split at h2
    · rename_i ys hy
      obtain ⟨l, xv, rfl, dx, gx⟩ := sqOf_rel (H' := H2) (Dq.mono e2.same _ _ d) hx
      obtain ⟨l2, yv, rfl, dy, gy⟩ := sqOf_rel (H' := H2) d2 hy
      refine ⟨l, l2, xv, yv, rfl, gx H2 r2.sub, gy H2 r2.sub, PO.use (R := fun Hi' _ ds J => IOk X.K Hi' J ds) (x := zipD xs ys) h2 r2 fun A' Hi' s' H' sm r' i => ⟨fun dd hd => ?_, fun hl => ?_⟩⟩
      · obtain ⟨x', y', hx', hy', rfl⟩ := zipD_get hd
        obtain ⟨v1, hv1, dv1⟩ := DqA.get dx hx'
        obtain ⟨v2, hv2, dv2⟩ := DqA.get dy hy'
        have gx' := gx H' (sm.trans r'.sub)
        have gy' := gy H' (sm.trans r'.sub)
        refine ⟨⟨xv, yv, v1, v2, gx', gy', hv1, hv2⟩, fun x H'' q => ?_⟩
        obtain ⟨p, a1, a2, rfl, hp, rfl, hx2, hy2⟩ := q
        have b1 := hx2 xv gx'
        have b2 := hy2 yv gy'
        rw [hv1] at b1
        rw [hv2] at b2
        cases b1
        cases b2
        have hpi := r'.fresh hp
        exact ⟨_, Ext.fresh hp hpi, r'.new hp, p, _, rfl, SqT.of upd_same, v1, _, rfl, Dq.mono (sm.trans (same_upd hpi)) _ _ dv1, v2, [], rfl, Dq.mono (sm.trans (same_upd hpi)) _ _ dv2, rfl⟩
      · rw [zipD_len, ← dx.length, ← dy.length] at hl
        exact ⟨xv, yv, gx H' (sm.trans r'.sub), gy H' (sm.trans r'.sub), by omega, by omega, by omega⟩
    · exact h2.elim
  · exact h2.elim
end
end Mir

namespace Mir
open PySem PySem.Spec PyProof.Rows L2
variable [Tb]
theorem tmul_same (l : Addr) (items : Array Value) (n : Nat) (dd : Option Addr) (sl : Array (Option Value)) (x : Int) (u : Tok) (c0 : (decide (x < -(2 ^ 63)) || decide (x ≥ 2 ^ 63)) = false) (c1 : (items.isEmpty || x == 1) = true) :
    Meets (Builtin.«tuple.__mul__» ⟨[.ref l, .int x u], []⟩) (fun _ R s => s.heap.get? l = some { cls := .type "tuple", dict := dd, data := .seq items n, slots := sl } ∧ R (.ok (.ret (Value.ref l))) s) :=
  .of_wp fun prog w A R s h => by
    obtain ⟨hp, g, d, tk, os⟩ := s
    obtain ⟨hl, h⟩ := h
    have f1 := AutoSeq1.idx_int
    wp_walk using wpAny_loadPart' hl
    repeat (first
      | (refine wpAny_ite_false (decide_eq_false (by rw [c0]; exact Bool.false_ne_true)) ?_; wp_walk using wpAny_loadPart' hl)
      | (refine wpAny_ite_true (decide_eq_true (by rw [c1])) ?_; wp_walk using wpAny_loadPart' hl))
    exact ⟨_, rfl, h⟩
theorem tmul_none (l : Addr) (items : Array Value) (n : Nat) (dd : Option Addr) (sl : Array (Option Value)) (x : Int) (u : Tok) (c0 : (decide (x < -(2 ^ 63)) || decide (x ≥ 2 ^ 63)) = false) (c1 : (items.isEmpty || x == 1) = false) (c2 : (decide (x ≤ 0) || items.isEmpty) = true) :
    Meets (Builtin.«tuple.__mul__» ⟨[.ref l, .int x u], []⟩) (fun _ R s => s.heap.get? l = some { cls := .type "tuple", dict := dd, data := .seq items n, slots := sl } ∧
      R (.ok (.ret (Value.ref s.heap.objs.size))) { s with heap := s.heap.push { cls := Value.type "tuple", data := Data.seq #[] }, toks := s.toks }) :=
  .of_wp fun prog w A R s h => by
    obtain ⟨hp, g, d, tk, os⟩ := s
    obtain ⟨hl, h⟩ := h
    have f1 := AutoSeq1.idx_int
    wp_walk using wpAny_loadPart' hl
    repeat (first
      | (refine wpAny_ite_false (decide_eq_false (by rw [c0]; exact Bool.false_ne_true)) ?_; wp_walk using wpAny_loadPart' hl)
      | (refine wpAny_ite_false (decide_eq_false (by rw [c1]; exact Bool.false_ne_true)) ?_; wp_walk using wpAny_loadPart' hl)
      | (refine wpAny_ite_true (decide_eq_true (by rw [c2])) ?_; wp_walk using wpAny_loadPart' hl))
    exact ⟨_, rfl, h⟩
end Mir

namespace Mir
open PySem PySem.Spec PyProof.Rows L2
variable [Tb]
section
variable {X : Cx} {XR : XRel} {E : XK} {a b c e : Expr} {fa fb fc : ME} {fl : ML} {pos p : Pos}
/-! ### a <= b <= c, of ints -/
def gChain (q : Int → Int → Bool) (f : Env → Sto → Out PyData) (k : Bool) (y : PyData) (ρ : Env) (s : Sto) : Out PyData := if k = true then (f ρ s).bind fun z s => gCmp q y z s else .ok (.bool false) s
def eCh (p q : Int → Int → Bool) (fa fb fc : ME) : ME := fun ρ s => (fa ρ s).bind fun x s => (fb ρ s).bind fun y s => (gCmp p x y s).bind fun r s => match r with
  | .bool k => gChain q fc k y ρ s
  | _ => .bad
theorem se_ch {op op' : CmpOp} {p q : Int → Int → Bool} (h1 : OpR X (compareOp op) (rI0 fun i j => .bl (p i j))) (h2 : OpR X (compareOp op') (rI0 fun i j => .bl (q i j))) (ha : SE X XR E a fa) (hb : SE X XR E b fb) (hc : SE X XR E c fc)
    (hm : lastMarks [op, op'] [b, c] = false := by with_unfolding_all rfl) : SE X XR E (.Compare a [op, op'] [b, c] pos) (eCh p q fa fb fc) := by
  obtain ⟨ta, pa, qa⟩ := ha
  obtain ⟨tb, pb, qb⟩ := hb
  obtain ⟨tc, pc, qc⟩ := hc
  refine ⟨_, pe_chain h1 h2 pa pb pc hm, fun A Hi ρ s σ H r re Q h => ?_⟩
  refine qa A Hi ρ s σ H r re _ (PO.bind h fun x s1 v Hi1 H1 _ e1 r1 d h1 => ?_)
  refine qb A Hi1 ρ s1 σ H1 r1 (re.mono e1.same pfx) _ (PO.bind h1 fun y s2 w Hi2 H2 _ e2 r2 d2 h2 => ?_)
  have d1 := Dq.mono e2.same _ _ d
  cases x with
  | int i =>
    cases y with
    | int j =>
      cases (show v = _ from d1)
      cases (show w = _ from d2)
      have h2' : PO X.K A Hi2 H2 XR E (RD X.K) Q (gChain q fc (p i j) (.int j) ρ s2) := h2
      refine ⟨i, j, rfl, rfl, _, rfl, ?_⟩
      unfold gChain at h2'
      cases hp : p i j with
      | false =>
        rw [hp, if_neg Bool.false_ne_true] at h2'
        exact iteF (h2'.use r2 rfl)
      | true =>
        rw [hp, if_pos rfl] at h2'
        refine iteT (qc A Hi2 ρ s2 σ H2 r2 ((re.mono e1.same pfx).mono e2.same pfx) _ (PO.bind h2' fun z s3 u Hi3 H3 _ e3 r3 d3 h3 => ?_))
        exact gb_cmp (p := q) A Hi3 s3 H3 (.int j) z _ u Q r3 rfl d3 h3
    | _ => exact h2.elim
  | _ => cases y <;> exact h2.elim
theorem st_ch {op op' : CmpOp} {p q : Int → Int → Bool} (h1 : OpR X (compareOp op) (rI0 fun i j => .bl (p i j))) (h2 : OpR X (compareOp op') (rI0 fun i j => .bl (q i j))) (ha : SE X XR E a fa) (hb : SE X XR E b fb) (hc : SE X XR E c fc)
    (hm : lastMarks [op, op'] [b, c] = false := by with_unfolding_all rfl) : ST X XR E (.Compare a [op, op'] [b, c] pos) (mE (eCh p q fa fb fc)) := by
  obtain ⟨ta, pa, qa⟩ := ha
  obtain ⟨tb, pb, qb⟩ := hb
  obtain ⟨tc, pc, qc⟩ := hc
  refine ⟨_, pt_chain h1 h2 pa pb pc hm, fun A Hi ρ s σ H r re Q h => ?_⟩
  have h' : PO X.K A Hi H XR E RB Q ((fa ρ s).bind fun x s1 => (fb ρ s1).bind fun y s2 => mE (fun ρ s => (gCmp p x y s).bind fun r s => match r with
      | .bool k => gChain q fc k y ρ s
      | _ => .bad) ρ s2) := by
    unfold mE eCh at h
    cases q1 : fa ρ s with
    | ok x s1 =>
      rw [q1] at h
      cases q2 : fb ρ s1 with
      | ok y s2 => simp only [Out.bind, q2] at h ⊢; exact h
      | exc y s2 => simp only [Out.bind, q2] at h ⊢; exact h
      | bad => simp only [Out.bind, q2] at h ⊢; exact h
    | exc x s1 => rw [q1] at h; exact h
    | bad => rw [q1] at h; exact h
  refine qa A Hi ρ s σ H r re _ (PO.bind h' fun x s1 v Hi1 H1 _ e1 r1 d h1 => ?_)
  refine qb A Hi1 ρ s1 σ H1 r1 (re.mono e1.same pfx) _ (PO.bind h1 fun y s2 w Hi2 H2 _ e2 r2 d2 h2 => ?_)
  have d1 := Dq.mono e2.same _ _ d
  cases x with
  | int i =>
    cases y with
    | int j =>
      cases (show v = _ from d1)
      cases (show w = _ from d2)
      have h2' : PO X.K A Hi2 H2 XR E RB Q (mE (gChain q fc (p i j) (.int j)) ρ s2) := h2
      refine ⟨i, j, rfl, rfl, _, rfl, ?_⟩
      unfold mE gChain at h2'
      cases hp : p i j with
      | false =>
        rw [hp, if_neg Bool.false_ne_true] at h2'
        exact iteF ⟨false, rfl, PO.use (R := RB) (x := false) h2' r2 rfl⟩
      | true =>
        rw [hp, if_pos rfl] at h2'
        have h3' : PO X.K A Hi2 H2 XR E RB Q ((fc ρ s2).bind fun z s => (gCmp q (.int j) z s).bind fun x s => match x with
            | .bool b => .ok b s
            | _ => .bad) := by
          cases q1 : fc ρ s2 with
          | ok z s3 => rw [q1] at h2'; exact h2'
          | exc z s3 => rw [q1] at h2'; exact h2'
          | bad => rw [q1] at h2'; exact h2'
        refine iteT (qc A Hi2 ρ s2 σ H2 r2 ((re.mono e1.same pfx).mono e2.same pfx) _ (PO.bind h3' fun z s3 u Hi3 H3 _ e3 r3 d3 h3 => ?_))
        refine gb_cmp (p := q) A Hi3 s3 H3 (.int j) z _ u _ r3 rfl d3 (PO.bind h3 fun x s4 u4 Hi4 H4 _ e4 r4 d4 h4 => ?_)
        split at h4
        · cases (show u4 = _ from d4)
          exact ⟨_, rfl, h4.use r4 rfl⟩
        · exact h4.elim
    | _ => exact h2.elim
  | _ => cases y <;> exact h2.elim
/-! ### slices of tuples and lists -/
def cutD (xs : List PyData) (lo hi : Option Int) : List PyData := (xs.drop (HT.sIx xs.length 0 lo)).take (HT.sIx xs.length xs.length hi - HT.sIx xs.length 0 lo)
theorem cut_rel {K : PySem.W.Frag} {Hi : Hp} {ds : List PyData} {xs : List V} {lo hi : Option Int} (h : DqA K Hi ds xs) : DqA K Hi (cutD ds lo hi) (cutV xs lo hi) := by
  unfold cutD cutV
  rw [h.length]
  exact DqA.take _ (DqA.drop _ h)
def SPt (X : Cx) (XR : XRel) (E : XK) (e : Option Expr) (f : Env → Sto → Out (Option Int)) : Prop := ∃ t, L2.PO X e t ∧ ∀ A Hi ρ s σ H, RS X.K A Hi s H → RE X.K A Hi ρ σ → ∀ Q : Option Int → Hp → Prop, PO X.K A Hi H XR E (fun _ _ x y => x = y) Q (f ρ s) → t σ H Q
def noPart : Env → Sto → Out (Option Int) := fun _ s => .ok none s
def aPart (fa : ME) : Env → Sto → Out (Option Int) := fun ρ s => (fa ρ s).bind fun x s => match x with
  | .int i => .ok (some i) s
  | _ => .bad
theorem sp_none : SPt X XR E none noPart := ⟨_, po_none, fun A Hi ρ s σ H r re Q h => PO.use (R := fun _ _ x y => x = y) h r rfl⟩
theorem sp_some (h : SE X XR E a fa) : SPt X XR E (some a) (aPart fa) := by
  obtain ⟨t, p, q⟩ := h
  refine ⟨_, po_some p, fun A Hi ρ s σ H r re Q h => q A Hi ρ s σ H r re _ (PO.bind h fun x s1 v Hi1 H1 _ e1 r1 d h1 => ?_)⟩
  cases x with
  | int i =>
    cases (show v = _ from d)
    exact ⟨i, rfl, PO.use (R := fun _ _ x y => x = y) h1 r1 rfl⟩
  | _ => exact h1.elim
def gSl (x : PyData) (lo hi : Option Int) (s : Sto) : Out PyData := match x with
  | .tuple ds => .ok (.tuple (cutD ds lo hi)) s
  | .list ds => .ok (.list (cutD ds lo hi)) s
  | _ => .bad
def eSlice (fa : ME) (fl fh : Env → Sto → Out (Option Int)) : ME := fun ρ s => (fa ρ s).bind fun x s => (fl ρ s).bind fun lo s => (fh ρ s).bind fun hi s => gSl x lo hi s
theorem se_slice {lo hi : Option Expr} {fl fh : Env → Sto → Out (Option Int)} {p2 : Pos} (ha : SE X XR E a fa) (hl : SPt X XR E lo fl) (hh : SPt X XR E hi fh) : SE X XR E (.Subscript a (.Slice lo hi none p2) pos) (eSlice fa fl fh) := by
  obtain ⟨ta, pa, qa⟩ := ha
  obtain ⟨tl, pl, ql⟩ := hl
  obtain ⟨th, ph, qh⟩ := hh
  refine ⟨_, pe_slice (sl_tupA.or sl_list) pa pl ph, fun A Hi ρ s σ H r re Q h => ?_⟩
  refine qa A Hi ρ s σ H r re _ (PO.bind h fun x s1 v Hi1 H1 _ e1 r1 d h1 => ?_)
  refine ql A Hi1 ρ s1 σ H1 r1 (re.mono e1.same pfx) _ (PO.bind h1 fun lo s2 w Hi2 H2 _ e2 r2 d2 h2 => ?_)
  refine qh A Hi2 ρ s2 σ H2 r2 ((re.mono e1.same pfx).mono e2.same pfx) _ (PO.bind h2 fun hi s3 u Hi3 H3 _ e3 r3 d3 h3 => ?_)
  cases d2
  cases d3
  have d' := Dq.mono (e2.same.trans e3.same) _ _ d
  unfold gSl at h3
  cases x with
  | tuple ds =>
    obtain ⟨l, xs, rfl, q1, q2⟩ := d'
    refine .inl ⟨l, xs, rfl, sqt_mono r3.sub q1, fun hw => ?_, fun _ p hp => ?_⟩
    · have e1 : cutD ds lo hi = ds := by
        unfold cutD
        rw [← q2.length, hw.1, hw.2, List.drop_zero, Nat.sub_zero, q2.length, List.take_length]
      have h4 : PO X.K A Hi3 H3 XR E (RD X.K) Q (.ok (.tuple (cutD ds lo hi)) s3) := h3
      rw [e1] at h4
      exact h4.use r3 ⟨l, xs, rfl, q1, q2⟩
    · exact h3.out (Ext.fresh hp (r3.fresh hp)) (r3.new hp) ⟨p, _, rfl, SqT.of upd_same, DqA.mono (same_upd (r3.fresh hp)) _ _ (cut_rel q2)⟩
  | list ds =>
    obtain ⟨l, xs, rfl, q1, q2⟩ := d'
    refine .inr ⟨l, xs, rfl, SqL.of (r3.sub _ _ q1), fun p hp => ?_⟩
    exact h3.out (Ext.fresh hp (r3.fresh hp)) (r3.new hp) ⟨p, _, rfl, upd_same, DqA.mono (same_upd (r3.fresh hp)) _ _ (cut_rel q2)⟩
  | _ => exact h3.elim
/-! ### tuple * int -/
def rTm (K : PySem.W.Frag) : R2 := fun x y H Q => ∃ l k xs, x = .ref l ∧ y = .int k ∧ SqT K H l xs ∧ -1000000 ≤ k ∧ k ≤ 1000 ∧ xs.length ≤ 1000 ∧ (xs = [] ∨ k = 1 → Q (.ref l) H) ∧ (xs ≠ [] → k ≠ 1 → ∀ p, H p = none → Q (.ref p) (upd H p (.tup (List.replicate k.toNat xs).flatten)))
theorem op_tm : OpR X (binaryOp .Mult) (rTm X.K) := by
  intro pins s σ H x y v u Q I rx ry h
  obtain ⟨l, k, xs, rfl, rfl, hT, h1, h2, h3, q1, q2⟩ := h
  by_cases hb : xs ≠ [] ∧ 2 ≤ k
  · exact op_repT pins s σ H _ _ v u Q I rx ry ⟨l, k, xs, rfl, rfl, hT, hb.1, hb.2, h2, h3, q2 hb.1 (by omega)⟩
  · cases rx
    obtain ⟨t, rfl⟩ := ry
    obtain ⟨its, r, ⟨⟨cls, dd, data, sl⟩, ho, hc, n, hd⟩, hs⟩ := I.tuple hT
    simp only at hc hd
    subst hc hd
    have hle : its.length = xs.length := r.length.symm
    have c0 : (decide (k < -(2 ^ 63)) || decide (k ≥ 2 ^ 63)) = false := by
      rw [decide_eq_false (by omega), decide_eq_false (by omega)]
      rfl
    have hem : its.toArray.isEmpty = decide (xs = []) := by
      cases its with
      | nil =>
        cases xs with
        | nil => rfl
        | cons => cases hle
      | cons =>
        cases xs with
        | nil => cases hle
        | cons => rfl
    refine wpAny_binaryOp_repeat_ref (T := "tuple") (U := "int") (by decide) ⟨_, ho, rfl⟩ (fun s' => typeIs_int s' k t) noFill_tuple_mul F.fills_int_mul F.slot_int_rmul repeat_tuple F.slot_int_index.lookup
      (call_meets F.slot_int_rmul (typeIs_int s k t) F.entry_int_rmul (F.args_int_rmul_2 _ _) (int_rmul_tuple k t l its.toArray n dd sl) ⟨ho, rfl, ⟨_, ho, rfl⟩, ?_⟩)
    by_cases he : xs = [] ∨ k = 1
    · refine call_meets F.slot_tuple_mul ⟨_, ho, rfl⟩ F.entry_tuple_mul (F.args_tuple_mul_2 _ _) (tmul_same l its.toArray n dd sl k t c0 ?_) ⟨ho, ?_⟩
      · rw [hem]
        rcases he with he | he
        · rw [decide_eq_true he]
          rfl
        · rw [he]
          simp
      · exact ⟨.ref l, H, I, rfl, q1 he⟩
    · have hne : xs ≠ [] := fun z => he (.inl z)
      have hk1 : k ≠ 1 := fun z => he (.inr z)
      have hk : k ≤ 0 := by
        have : ¬ 2 ≤ k := fun z => hb ⟨hne, z⟩
        omega
      refine call_meets F.slot_tuple_mul ⟨_, ho, rfl⟩ F.entry_tuple_mul (F.args_tuple_mul_2 _ _) (tmul_none l its.toArray n dd sl k t c0 ?_ ?_) ⟨ho, ?_⟩
      · rw [hem, decide_eq_false hne, Bool.false_or]
        exact beq_eq_false_iff_ne.mpr hk1
      · rw [decide_eq_true hk]
        rfl
      · have hz : k.toNat = 0 := by omega
        have q3 := q2 hne hk1 s.heap.objs.size (I.hok.fresh (Nat.le_refl _))
        rw [hz, List.replicate_zero, List.flatten_nil] at q3
        refine ⟨.ref s.heap.objs.size, _, I.laid (t' := s.toks) (o := .tup []) (fun b ob q => Heap.get?_push_of_some _ q) (Nat.le_refl _) ?_, rfl, q3⟩
        exact ⟨Nat.zero_le _, [], .nil, IsTup.new _ _⟩
theorem dqa_rep {K : PySem.W.Frag} {Hi : Hp} {ds : List PyData} {xs : List V} (h : DqA K Hi ds xs) : ∀ n : Nat, DqA K Hi (List.replicate n ds).flatten (List.replicate n xs).flatten
  | 0 => rfl
  | n + 1 => by
    rw [List.replicate_succ, List.replicate_succ, List.flatten_cons, List.flatten_cons]
    exact DqA.append h (dqa_rep h n)
def gMulA : PyData → PyData → Sto → Out PyData := fun x y s => match x, y with
  | .int i, .int j => if CMulB i j then .ok (.int (i * j)) s else .bad
  | .tuple ds, .int k => if -1000000 ≤ k ∧ k ≤ 1000 ∧ ds.length ≤ 1000 then .ok (.tuple (List.replicate k.toNat ds).flatten) s else .bad
  | _, _ => .bad
theorem gb_mulA : GB X XR E (rOr (rI CMulB fun i j => .int (i * j)) (rTm X.K)) gMulA := by
  intro A Hi s H x y v w Q r dx dy h
  unfold gMulA at h
  split at h
  · cases (show v = _ from dx)
    cases (show w = _ from dy)
    split at h
    · rename_i hc
      exact .inl ⟨_, _, rfl, rfl, hc, h.use r rfl⟩
    · exact h.elim
  · rename_i ds k
    obtain ⟨l, xs, rfl, h1, h2⟩ := dx
    cases (show w = _ from dy)
    split at h
    · rename_i hc
      refine .inr ⟨l, k, xs, rfl, rfl, sqt_mono r.sub h1, hc.1, hc.2.1, by rw [h2.length]; exact hc.2.2, fun he => ?_, fun _ _ p hp => ?_⟩
      · refine h.use r ⟨l, xs, rfl, h1, ?_⟩
        rcases he with he | he
        · have : ds = [] := by
            have q := h2.length
            rw [he] at q
            exact List.eq_nil_of_length_eq_zero q.symm
          rw [this, he]
          simp [DqA]
        · rw [he]
          have : (List.replicate (1 : Int).toNat ds).flatten = ds := by simp
          rw [this]
          exact h2
      · exact h.out (Ext.fresh hp (r.fresh hp)) (r.new hp) ⟨p, _, rfl, SqT.of upd_same, DqA.mono (same_upd (r.fresh hp)) _ _ (dqa_rep h2 _)⟩
    · exact h.elim
  · exact h.elim
theorem se_mulA (ha : SE X XR E a fa) (hb : SE X XR E b fb) : SE X XR E (.BinOp a .Mult b pos) (eBin gMulA fa fb) := se_bin (fun _ _ p q => pe_op (op_or2 op_mulB op_tm) p q) gb_mulA ha hb
/-! ### {} -/
theorem se_dict0 : SE X XR E (.Dict [] [] pos) (eC (.dict [])) :=
  ⟨_, pe_dnewK, fun A Hi ρ s σ H r re Q h => fun d hd => h.out (Ext.fresh hd (r.fresh hd)) (r.new hd) ⟨rfl, d, rfl, upd_same⟩⟩
/-! ### return of a list that nobody else holds -/
def mRetC (f : MD) : MS := fun ρ s => toFl (f ρ s) fun ds s => .rt (.c s.length) (s ++ [ds])
theorem ss_retC {f : MD} (he : SC X XR E e f) : SS X XR E (.Return (some e) pos) (mRetC f) := by
  obtain ⟨t, p, q⟩ := he
  refine ⟨_, ps_ret p, fun A Hi ρ s σ H r re D h => q A Hi ρ s σ H r re _ ?_⟩
  unfold mRetC at h
  cases hf : f ρ s with
  | bad => rw [hf] at h; exact h
  | exc x s1 =>
    rw [hf] at h
    exact fun c d H1 H2 e1 r q => h c d A H1 H2 e1.s r q
  | ok ds s1 =>
    rw [hf] at h
    rintro v Hi1 H1 e1 r1 ⟨p, xs, rfl, q1, q2, q3, q4, q5⟩
    refine h (A ++ [p]) Hi1 _ H1 ⟨e1, List.prefix_append _ _, fun a m n => ?_⟩ (r1.take1 q1 q2 q4 q5) ⟨p, ?_, rfl⟩
    · rcases List.mem_append.mp m with m | m
      · exact absurd m n
      · have : a = p := by simpa using m
        rw [this]
        exact q3
    · rw [← r1.len]
      simp
end
end Mir

namespace Mir
open PySem PySem.Spec PyProof.Rows L2
variable [Tb]
section
variable {X : Cx} {XR : XRel} {E : XK} {a b tg : Expr} {fa fb : ME} {pos p tp : Pos} {es : List Expr} {k : Nat}
/-! ### for, over a list or a tuple, as it comes; zip of any two of these -/
def iSeq (K : PySem.W.Frag) (tl : TE) : TI := fun σ H R => tl σ H fun x H1 => (∃ a, x = .ref a ∧ (∃ xs, SqL K H1 a xs) ∧ R (Itl K a) H1) ∨ ∃ a, x = .ref a ∧ (∃ xs, SqT K H1 a xs) ∧ R (Itt K a) H1
theorem pi_seq {l : Expr} {tl : TE} (hl : PE X l tl) : PI X tg l (iSeq X.K tl) := by
  refine ⟨fun pins s σ H R I h => ?_⟩
  have c : PE X l (fun σ H Q => tl σ H Q) := hl
  refine thn (hl.run pins s σ H _ I h) fun v s1 ⟨x, H1, I1, r1, q1⟩ => ?_
  have one : PE X l (tC x) → True := fun _ => trivial
  rcases q1 with ⟨a, rfl, ⟨xs, hq⟩, q⟩ | ⟨a, rfl, ⟨xs, hq⟩, q⟩
  · cases r1
    obtain ⟨us, rv, pl, _⟩ := I1.list hq
    refine wpAny_pyIter_list pl.isList ⟨s1.heap.objs.size, [s1.heap.objs.size], _, _, H1, rfl, I1.kept (t' := s1.toks) (fun b o e => Heap.get?_push_of_some _ e), turn_list a _, ⟨_, Heap.get?_push_size _ rfl, rfl, rfl⟩, fun b hb => ?_, q⟩
    rw [List.mem_singleton.mp hb]
    exact I1.fpOk (Nat.le_refl _) (I1.hok.fresh (Nat.le_refl _))
  · cases r1
    obtain ⟨us, rv, pl, _⟩ := I1.tuple hq
    refine wpAny_pyIter_tuple (show s1.heap.IsTuple a us.toArray from pl) ⟨s1.heap.objs.size, [s1.heap.objs.size], _, _, H1, rfl, I1.kept (t' := s1.toks) (fun b o e => Heap.get?_push_of_some _ e), turn_tuple a _, ⟨_, Heap.get?_push_size _ rfl, rfl, rfl⟩, fun b hb => ?_, q⟩
    rw [List.mem_singleton.mp hb]
    exact I1.fpOk (Nat.le_refl _) (I1.hok.fresh (Nat.le_refl _))
/-- the items of a list or tuple -/
def itemsOf : PyData → Option (List PyData)
  | .list ds => some ds
  | .tuple ds => some ds
  | _ => none
def orBad {α β : Type} (o : Option α) (k : α → Out β) : Out β := match o with
  | some x => k x
  | none => .bad
@[simp] theorem orBad_some {α β : Type} (x : α) (k : α → Out β) : orBad (some x) k = k x := rfl
@[simp] theorem orBad_none {α β : Type} (k : α → Out β) : orBad (none : Option α) k = .bad := rfl
theorem orBad_po {α β γ : Type} {K : PySem.W.Frag} {A : List Addr} {Hi H : Hp} {R : Hp → Hp → β → γ → Prop} {Q : γ → Hp → Prop} {o : Option α} {k : α → Out β} (h : PO K A Hi H XR E R Q (orBad o k)) : ∃ x, o = some x ∧ PO K A Hi H XR E R Q (k x) := by
  cases o with
  | some x => exact ⟨x, rfl, h⟩
  | none => exact h.elim
def iSq (fa : ME) : MD := fun ρ s => (fa ρ s).bind fun x s => orBad (itemsOf x) fun ds => .ok ds s
theorem iok_l {K : PySem.W.Frag} {Hi : Hp} {l : Addr} {xs : List V} {ds : List PyData} (h2 : Hi l = some (.lst xs)) (h3 : DqA K Hi ds xs) : IOk K Hi (Itl K l) ds := fun A' Hi' s' H' sm r' i => ⟨fun d hd => by
  obtain ⟨v, hv, dv⟩ := DqA.get h3 hd
  have hx : SqL K H' l xs := SqL.of (r'.sub _ _ (sm _ _ h2))
  refine ⟨⟨xs, v, hx, hv⟩, fun x H'' y => ?_⟩
  obtain ⟨e, y⟩ := y
  subst e
  have := y xs hx
  rw [hv] at this
  cases this
  exact ⟨Hi', .refl, r', Dq.mono sm _ _ dv⟩, fun hl => ⟨xs, SqL.of (r'.sub _ _ (sm _ _ h2)), by rw [h3.length]; omega⟩⟩
theorem iok_t {K : PySem.W.Frag} {Hi : Hp} {l : Addr} {xs : List V} {ds : List PyData} (h2 : SqT K Hi l xs) (h3 : DqA K Hi ds xs) : IOk K Hi (Itt K l) ds := fun A' Hi' s' H' sm r' i => ⟨fun d hd => by
  obtain ⟨v, hv, dv⟩ := DqA.get h3 hd
  have hx : SqT K H' l xs := sqt_mono r'.sub (sqt_mono sm h2)
  refine ⟨⟨xs, v, hx, hv⟩, fun x H'' y => ?_⟩
  obtain ⟨e, y⟩ := y
  subst e
  have := y xs hx
  rw [hv] at this
  cases this
  exact ⟨Hi', .refl, r', Dq.mono sm _ _ dv⟩, fun hl => ⟨xs, sqt_mono r'.sub (sqt_mono sm h2), by rw [h3.length]; omega⟩⟩
theorem si_seq (ha : SE X XR E a fa) : SI X XR E tg a (iSq fa) := by
  obtain ⟨t, p, q⟩ := ha
  refine ⟨_, pi_seq p, fun A Hi ρ s σ H r re R h => q A Hi ρ s σ H r re _ (PO.bind h fun x s1 v Hi1 H1 _ e1 r1 d h1 => ?_)⟩
  obtain ⟨ds, hd, h1⟩ := orBad_po h1
  cases x with
  | list es =>
    cases hd
    obtain ⟨l, xs, rfl, h2, h3⟩ := d
    exact .inl ⟨l, rfl, ⟨xs, SqL.of (r1.sub _ _ h2)⟩, PO.use (R := fun Hi' _ ds J => IOk X.K Hi' J ds) (x := ds) h1 r1 (iok_l h2 h3)⟩
  | tuple es =>
    cases hd
    obtain ⟨l, xs, rfl, h2, h3⟩ := d
    exact .inr ⟨l, rfl, ⟨xs, sqt_mono r1.sub h2⟩, PO.use (R := fun Hi' _ ds J => IOk X.K Hi' J ds) (x := ds) h1 r1 (iok_t h2 h3)⟩
  | _ => cases hd
def iZq (K : PySem.W.Frag) (ta : TA) : TI := fun σ H R => ta σ H fun vs H1 => ∃ t u a b xs ys, vs = [.ref a, .ref b] ∧ gK t K H1 a xs ∧ gK u K H1 b ys ∧ R (Izm K t u a b) H1
theorem pi_zq {e e2 : Expr} {ta : TA} (hg : Gl X "zip") (hm : X.mg "zip" = none) (ha : PA X [e, e2] ta)
    (hs : starEach [e, e2] X.env = (false, eval e X.env) :: starEach [e2] X.env := by rfl) (hpl : (backTo pos (starEach [e2] X.env)).any (·.1) = false := by rfl) :
    PI X (.Tuple es k tp) (.Call (.Name "zip" p) [e, e2] [] pos) (iZq X.K ta) := by
  refine ⟨fun pins s σ H R I h => ?_⟩
  refine Call_ (ld_blt I hg hm PyProof.Rows.boot_zip (PyProof.Rows.callWith_type1 (thn (ha.run pos pins s σ H _ I h) fun us s1 ⟨vs, H1, I1, r1, t, u, a, b, xs, ys, ex, gx, gy, q⟩ => ?_) hs hpl))
  subst ex
  obtain ⟨u1, u2, rfl, q1, q2⟩ := vals2 r1
  cases (show u1 = Value.ref a from q1)
  cases (show u2 = Value.ref b from q2)
  obtain ⟨its1, v1, p1, la⟩ := gK_vals I1 gx
  obtain ⟨its2, v2, p2, lb⟩ := gK_vals I1 gy
  refine zip_begins2 (begins_k t a its1.toArray) (begins_k u b its2.toArray) p1 p2 fun h' hz hT hO g1 g2 hsz kp => wpAny_pyIter_zip hz ?_
  have I2 : Inv X pins σ H1 { s1 with heap := h' } := I1.kept (t' := s1.toks) kp
  have ap := PySem.W.ktu_apart s1.heap.objs.size a b la lb
  have sp := sep_of ap (Nat.ne_of_gt (Nat.lt_of_lt_of_le lb (Nat.le_refl _))) (Nat.ne_of_gt (Nat.lt_succ_of_lt la)) (Nat.ne_of_lt (Nat.lt_of_lt_of_le lb (Nat.le_add_right _ _))) (Nat.ne_of_lt (Nat.lt_of_lt_of_le lb (Nat.le_add_right _ _)))
  refine ⟨s1.heap.objs.size + 4, [s1.heap.objs.size + 4, s1.heap.objs.size + 2, s1.heap.objs.size + 3, s1.heap.objs.size, s1.heap.objs.size + 1], _, _, H1, rfl, I2, turn_zm sp ap.l1i1 (Nat.ne_of_lt (Nat.lt_succ_of_lt lb)), ⟨hz, hT, ⟨_, _, hO⟩, itK_new g1, itK_new g2⟩, fun c hc => ?_, q⟩
  have hle : s1.heap.objs.size ≤ c := by
    simp only [List.mem_cons, List.not_mem_nil, or_false] at hc
    rcases hc with rfl | rfl | rfl | rfl | rfl <;> omega
  exact I1.fpOk hle (I1.hok.fresh hle)
theorem items_rel {K : PySem.W.Frag} {Hi : Hp} {x : PyData} {v : V} {ds : List PyData} (d : Dq K Hi x v) (e : itemsOf x = some ds) : ∃ t l xs, v = .ref l ∧ DqA K Hi ds xs ∧ ∀ H', Same Hi H' → gK t K H' l xs := by
  cases x with
  | tuple ys =>
    cases e
    obtain ⟨l, xs, rfl, h1, h2⟩ := d
    exact ⟨true, l, xs, rfl, h2, fun H' s => sqt_mono s h1⟩
  | list ys =>
    cases e
    obtain ⟨l, xs, rfl, h1, h2⟩ := d
    exact ⟨false, l, xs, rfl, h2, fun H' s => SqL.of (s _ _ h1)⟩
  | _ => cases e
theorem iok_z {K : PySem.W.Frag} {Hi : Hp} {t u : Bool} {l l2 : Addr} {xv yv : List V} {xs ys : List PyData} (dx : DqA K Hi xs xv) (dy : DqA K Hi ys yv) (gx : ∀ H', Same Hi H' → gK t K H' l xv) (gy : ∀ H', Same Hi H' → gK u K H' l2 yv) : IOk K Hi (Izm K t u l l2) (zipD xs ys) := fun A' Hi' s' H' sm r' i => ⟨fun dd hd => by
  obtain ⟨x', y', hx', hy', rfl⟩ := zipD_get hd
  obtain ⟨v1, hv1, dv1⟩ := DqA.get dx hx'
  obtain ⟨v2, hv2, dv2⟩ := DqA.get dy hy'
  have gx' := gx H' (sm.trans r'.sub)
  have gy' := gy H' (sm.trans r'.sub)
  refine ⟨⟨xv, yv, v1, v2, gx', gy', hv1, hv2⟩, fun x H'' q => ?_⟩
  obtain ⟨p, a1, a2, rfl, hp, rfl, hx2, hy2⟩ := q
  have b1 := hx2 xv gx'
  have b2 := hy2 yv gy'
  rw [hv1] at b1
  rw [hv2] at b2
  cases b1
  cases b2
  have hpi := r'.fresh hp
  exact ⟨_, Ext.fresh hp hpi, r'.new hp, p, _, rfl, SqT.of upd_same, v1, _, rfl, Dq.mono (sm.trans (same_upd hpi)) _ _ dv1, v2, [], rfl, Dq.mono (sm.trans (same_upd hpi)) _ _ dv2, rfl⟩, fun hl => by
  rw [zipD_len, ← dx.length, ← dy.length] at hl
  exact ⟨xv, yv, gx H' (sm.trans r'.sub), gy H' (sm.trans r'.sub), by omega, by omega, by omega⟩⟩
def iZp (fa fb : ME) : MD := fun ρ s => (fa ρ s).bind fun x s => (fb ρ s).bind fun y s => orBad (itemsOf x) fun xs => orBad (itemsOf y) fun ys => .ok (zipD xs ys) s
theorem si_zp (hg : Gl X "zip") (hm : X.mg "zip" = none) (ha : SE X XR E a fa) (hb : SE X XR E b fb) (h1 : starEach [a, b] X.env = (false, eval a X.env) :: starEach [b] X.env := by rfl) (h2 : starEach [b] X.env = (false, eval b X.env) :: starEach [] X.env := by rfl)
    (h3 : (backTo pos (starEach [b] X.env)).any (·.1) = false := by rfl) : SI X XR E (.Tuple es k tp) (.Call (.Name "zip" p) [a, b] [] pos) (iZp fa fb) := by
  obtain ⟨ta, pa, qa⟩ := ha
  obtain ⟨tb, pb, qb⟩ := hb
  refine ⟨_, pi_zq hg hm (pa_cons pa (pa_cons pb pa_nil h2) h1) h1 h3, fun A Hi ρ s σ H r re R h => ?_⟩
  refine qa A Hi ρ s σ H r re _ (PO.bind h fun x s1 v Hi1 H1 _ e1 r1 d h1 => ?_)
  refine qb A Hi1 ρ s1 σ H1 r1 (re.mono e1.same pfx) _ (PO.bind h1 fun y s2 w Hi2 H2 _ e2 r2 d2 h2 => ?_)
  obtain ⟨xs, hx, h2⟩ := orBad_po h2
  obtain ⟨ys, hy, h2⟩ := orBad_po h2
  obtain ⟨t, l, xv, rfl, dx, gx⟩ := items_rel (Dq.mono e2.same _ _ d) hx
  obtain ⟨u, l2, yv, rfl, dy, gy⟩ := items_rel d2 hy
  exact ⟨t, u, l, l2, xv, yv, rfl, gx H2 r2.sub, gy H2 r2.sub, PO.use (R := fun Hi' _ ds J => IOk X.K Hi' J ds) (x := zipD xs ys) h2 r2 (iok_z dx dy gx gy)⟩
/-! ### for i, x in enumerate(list) -/
def enumD : Nat → List PyData → List PyData
  | _, [] => []
  | n, x :: xs => .tuple [.int (n : Nat), x] :: enumD (n + 1) xs
theorem enumD_get : ∀ {xs : List PyData} {n i : Nat} {d : PyData}, (enumD n xs)[i]? = some d → ∃ x, xs[i]? = some x ∧ d = .tuple [.int ((n + i : Nat) : Int), x]
  | [], _, _, _, h => by simp [enumD] at h
  | x :: xs, n, 0, d, h => by
    have h' : PyData.tuple [.int (n : Nat), x] = d := by simpa [enumD] using h
    exact ⟨x, rfl, h'.symm⟩
  | x :: xs, n, i + 1, d, h => by
    obtain ⟨y, h1, h2⟩ := enumD_get (xs := xs) (n := n + 1) (i := i) (d := d) (by simpa [enumD] using h)
    refine ⟨y, by simpa using h1, ?_⟩
    rw [h2]
    have : n + 1 + i = n + (i + 1) := by omega
    rw [this]
theorem enumD_len : ∀ (xs : List PyData) (n : Nat), (enumD n xs).length = xs.length
  | [], _ => rfl
  | _ :: xs, n => by simp [enumD, enumD_len xs (n + 1)]
def iEn (fa : ME) : MD := fun ρ s => (fa ρ s).bind fun x s => match x with
  | .list ds => .ok (enumD 0 ds) s
  | _ => .bad
theorem si_enum (hg : Gl X "enumerate") (hm : X.mg "enumerate" = none) (ha : SE X XR E a fa) (h1 : starEach [a] X.env = (false, eval a X.env) :: starEach [] X.env := by rfl) (h2 : starEach [a] X.env = [(false, eval a X.env)] := by rfl) : SI X XR E (.Tuple es k tp) (.Call (.Name "enumerate" p) [a] [] pos) (iEn fa) := by
  obtain ⟨ta, pa, qa⟩ := ha
  refine ⟨_, pi_enum hg hm (pa_cons pa pa_nil h1) h2, fun A Hi ρ s σ H r re R h => qa A Hi ρ s σ H r re _ (PO.bind h fun x s1 v Hi1 H1 _ e1 r1 d h1 => ?_)⟩
  cases x with
  | list ds =>
    obtain ⟨l, xs, rfl, h2, h3⟩ := d
    refine ⟨l, xs, rfl, SqL.of (r1.sub _ _ h2), PO.use (R := fun Hi' _ ds J => IOk X.K Hi' J ds) (x := enumD 0 ds) h1 r1 fun A' Hi' s' H' sm r' i => ⟨fun dd hd => ?_, fun hl => ?_⟩⟩
    · obtain ⟨x', hx', rfl⟩ := enumD_get hd
      obtain ⟨v1, hv1, dv1⟩ := DqA.get h3 hx'
      have gx : SqL X.K H' l xs := SqL.of (r'.sub _ _ (sm _ _ h2))
      refine ⟨⟨xs, v1, gx, hv1⟩, fun x H'' q => ?_⟩
      obtain ⟨p, a1, rfl, hp, rfl, hx2⟩ := q
      have b1 := hx2 xs gx
      rw [hv1] at b1
      cases b1
      have hpi := r'.fresh hp
      rw [Nat.zero_add]
      exact ⟨_, Ext.fresh hp hpi, r'.new hp, p, _, rfl, SqT.of upd_same, _, _, rfl, rfl, v1, [], rfl, Dq.mono (sm.trans (same_upd hpi)) _ _ dv1, rfl⟩
    · rw [enumD_len] at hl
      exact ⟨xs, SqL.of (r'.sub _ _ (sm _ _ h2)), by rw [h3.length]; omega⟩
  | _ => exact h1.elim
end
end Mir

/-! ## more: recursion -/
namespace Mir
open PySem PySem.Spec PyProof.Rows L2
variable [Tb]
theorem fn_bad {P : Program} {w : World} {K : PySem.W.Frag} {mg : Str → Option Value} {base : Heap} {k : Nat} {f : Addr} {fd : FuncData} {ps : List Str} {XR : XRel} {n : Nat} (hn : ps.length = n) :
    FnOk P w K mg base CX0 k f fd ps (spM K XR n fun _ _ => .bad) :=
  ⟨fun vs H Q E h => by
      obtain ⟨_, _, as, _, h1, _, h2, _⟩ := h
      rw [h2.length, h1, hn],
    fun A outer s H args us vs Q E hr he hb hv h => by
      obtain ⟨_, _, _, _, _, _, _, h⟩ := h
      exact False.elim h⟩
/-- a block within a block: free names may be told as cells -/
theorem lookup_relab {env : PySem.Env} {x : Str} : ∀ {names : List (Str × NameKind)}, names.lookup x = some .cell ∨ names.lookup x = some .free →
    (names.map fun (n, k) => if (k == NameKind.free && env.scope.kind == .function && env.kindOf n == some .cell) then (n, NameKind.cell) else (n, k)).lookup x = some .cell ∨
    (names.map fun (n, k) => if (k == NameKind.free && env.scope.kind == .function && env.kindOf n == some .cell) then (n, NameKind.cell) else (n, k)).lookup x = some .free
  | [], h => by simp at h
  | (n, k) :: r, h => by
    have ih := @lookup_relab env x r
    rw [List.map_cons]
    show List.lookup x ((if (k == NameKind.free && env.scope.kind == .function && env.kindOf n == some .cell) = true then (n, NameKind.cell) else (n, k)) :: _) = _ ∨ List.lookup x ((if (k == NameKind.free && env.scope.kind == .function && env.kindOf n == some .cell) = true then (n, NameKind.cell) else (n, k)) :: _) = _
    rw [List.lookup_cons] at h
    cases hx : x == n with
    | true =>
      rw [hx] at h
      have h' : some k = some NameKind.cell ∨ some k = some NameKind.free := h
      split
      · left
        rw [List.lookup_cons, hx]
      · rw [List.lookup_cons, hx]
        exact h'
    | false =>
      rw [hx] at h
      have q := ih h
      split <;> rw [List.lookup_cons, hx] <;> exact q
theorem blkOk_in {N : List Str} {sc scope : Scope} {own : List (Str × Nat)} {env : PySem.Env} (h : blkC N sc scope own = true) : BlkOk N (relabel sc env) scope own := by
  have b := blkOk_by h
  exact ⟨b.kind, b.uniq, b.ix, fun y hy e => lookup_relab (b.free y hy e), b.own⟩
/-! comprehensions, told by the indices of their own names -/
section
variable {X : Cx} {XR : XRel} {E : XK}
variable {elt tg iter : Expr} {ifs : List Expr} {scope : Scope} {it : MD} {f : MG} {ix js : List Nat} {m : MT} {fe : ME} {pos : Pos}
theorem sc_comp2 (N : List Str) (sc1 : Scope) (own : List (Str × Nat)) (hc : X.calm = true) (hN : X.N.Nodup) (hi : SI X XR E tg iter it) (eN : X.N = N) (esc : X.env.scope = sc1) (hb : blkC N sc1 scope own = true) (hj : own.map (·.2) = js)
    (hg : ∀ (s : Shared) (H : Hp) (C : Addr) (cl : List (Str × Addr)) (fp : List Addr), SG (X.blk s H scope (compEnvC scope cl C X.env) fp) tg f ix)
    (ht : ∀ (s : Shared) (H : Hp) (C : Addr) (cl : List (Str × Addr)) (fp : List Addr), STs (X.blk s H scope (compEnvC scope cl C X.env) fp) XR E ifs m)
    (he : ∀ (s : Shared) (H : Hp) (C : Addr) (cl : List (Str × Addr)) (fp : List Addr), SE (X.blk s H scope (compEnvC scope cl C X.env) fp) XR E elt fe)
    (hix : ∀ i ∈ ix, i ∈ js := by decide) (hs : ∀ x, foldedSetIterable iter X.env x = pure x := by intro _; rfl) : SC X XR E (.ListComp elt [⟨tg, iter, ifs, 0⟩] scope pos) (cComp it f m fe js) := by
  subst hj eN esc
  exact sc_comp hc hN hi (blkOk_by hb) hg ht he hix hs
theorem sc_compN {Y : Cx} {s0 : Shared} {H0 : Hp} {C0 : Addr} {cl0 : List (Str × Addr)} {fp0 : List Addr} {e0 : PySem.Env} {sc0 : Scope} (N : List Str) (own : List (Str × Nat)) (hc : (Y.blk s0 H0 sc0 (compEnvC sc0 cl0 C0 e0) fp0).calm = true) (hN : (Y.blk s0 H0 sc0 (compEnvC sc0 cl0 C0 e0) fp0).N.Nodup) (hi : SI (Y.blk s0 H0 sc0 (compEnvC sc0 cl0 C0 e0) fp0) XR E tg iter it) (eN : (Y.blk s0 H0 sc0 (compEnvC sc0 cl0 C0 e0) fp0).N = N) (hb : blkC N sc0 scope own = true) (hj : own.map (·.2) = js)
    (hg : ∀ (s : Shared) (H : Hp) (C : Addr) (cl : List (Str × Addr)) (fp : List Addr), SG ((Y.blk s0 H0 sc0 (compEnvC sc0 cl0 C0 e0) fp0).blk s H scope (compEnvC scope cl C (Y.blk s0 H0 sc0 (compEnvC sc0 cl0 C0 e0) fp0).env) fp) tg f ix)
    (ht : ∀ (s : Shared) (H : Hp) (C : Addr) (cl : List (Str × Addr)) (fp : List Addr), STs ((Y.blk s0 H0 sc0 (compEnvC sc0 cl0 C0 e0) fp0).blk s H scope (compEnvC scope cl C (Y.blk s0 H0 sc0 (compEnvC sc0 cl0 C0 e0) fp0).env) fp) XR E ifs m)
    (he : ∀ (s : Shared) (H : Hp) (C : Addr) (cl : List (Str × Addr)) (fp : List Addr), SE ((Y.blk s0 H0 sc0 (compEnvC sc0 cl0 C0 e0) fp0).blk s H scope (compEnvC scope cl C (Y.blk s0 H0 sc0 (compEnvC sc0 cl0 C0 e0) fp0).env) fp) XR E elt fe)
    (hix : ∀ i ∈ ix, i ∈ js := by decide) (hs : ∀ x, foldedSetIterable iter (Y.blk s0 H0 sc0 (compEnvC sc0 cl0 C0 e0) fp0).env x = pure x := by intro _; rfl) : SC (Y.blk s0 H0 sc0 (compEnvC sc0 cl0 C0 e0) fp0) XR E (.ListComp elt [⟨tg, iter, ifs, 0⟩] scope pos) (cComp it f m fe js) :=
  by
    subst hj eN
    exact sc_comp hc hN hi (blkOk_in hb) hg ht he hix hs
theorem ss_setLc2 (i : Nat) {y : Str} {py spos : Pos} (N : List Str) (sc1 : Scope) (own : List (Str × Nat)) (hc : X.calm = true) (hN : X.N.Nodup) (hy : X.N[i]? = some y) (hyl : X.env.scope.names.lookup y = some .local)
    (hsw : swapsWith (.ListComp elt [⟨tg, iter, ifs, 0⟩] scope pos) (some (.Name y py)) spos.line X.env = pure true) (hi : SI X XR E tg iter it) (eN : X.N = N) (esc : X.env.scope = sc1) (hb : blkC N sc1 scope own = true) (hj : own.map (·.2) = js)
    (hg : ∀ (s : Shared) (H : Hp) (C : Addr) (cl : List (Str × Addr)) (fp : List Addr), SG (X.blk s H scope (compEnvC scope cl C X.env) fp) tg f ix)
    (ht : ∀ (s : Shared) (H : Hp) (C : Addr) (cl : List (Str × Addr)) (fp : List Addr), STs (X.blk s H scope (compEnvC scope cl C X.env) fp) XR E ifs m)
    (he : ∀ (s : Shared) (H : Hp) (C : Addr) (cl : List (Str × Addr)) (fp : List Addr), SE (X.blk s H scope (compEnvC scope cl C X.env) fp) XR E elt fe)
    (hix : ∀ i ∈ ix, i ∈ js := by decide) (hs : ∀ x, foldedSetIterable iter X.env x = pure x := by intro _; rfl) :
    SS X XR E (.Assign [.Name y py] (.ListComp elt [⟨tg, iter, ifs, 0⟩] scope pos) spos) (mSet i (eFr (cComp it f m fe js))) := by
  subst hj eN esc
  exact ss_setLc i hc hN hy hyl hsw hi (blkOk_by hb) hg ht he hix hs
theorem ss_setLcC2 (i : Nat) {y : Str} {py spos : Pos} (N : List Str) (sc1 : Scope) (own : List (Str × Nat)) (hc : X.calm = true) (hN : X.N.Nodup) (hy : X.N[i]? = some y) (hyl : X.env.scope.names.lookup y = some .local)
    (hsw : swapsWith (.ListComp elt [⟨tg, iter, ifs, 0⟩] scope pos) (some (.Name y py)) spos.line X.env = pure true) (hi : SI X XR E tg iter it) (eN : X.N = N) (esc : X.env.scope = sc1) (hb : blkC N sc1 scope own = true) (hj : own.map (·.2) = js)
    (hg : ∀ (s : Shared) (H : Hp) (C : Addr) (cl : List (Str × Addr)) (fp : List Addr), SG (X.blk s H scope (compEnvC scope cl C X.env) fp) tg f ix)
    (ht : ∀ (s : Shared) (H : Hp) (C : Addr) (cl : List (Str × Addr)) (fp : List Addr), STs (X.blk s H scope (compEnvC scope cl C X.env) fp) XR E ifs m)
    (he : ∀ (s : Shared) (H : Hp) (C : Addr) (cl : List (Str × Addr)) (fp : List Addr), SE (X.blk s H scope (compEnvC scope cl C X.env) fp) XR E elt fe)
    (hix : ∀ i ∈ ix, i ∈ js := by decide) (hs : ∀ x, foldedSetIterable iter X.env x = pure x := by intro _; rfl) :
    SS X XR E (.Assign [.Name y py] (.ListComp elt [⟨tg, iter, ifs, 0⟩] scope pos) spos) (mSetC i (cComp it f m fe js)) := by
  subst hj eN esc
  exact ss_setLcC i hc hN hy hyl hsw hi (blkOk_by hb) hg ht he hix hs
end
end Mir

namespace Mir
open PySem PySem.Spec PyProof.Rows L2
variable [Tb]
/-! ### list(zip(a, b)) of lists and tuples in any mix -/
section
variable {prog : Program} {w : World} {A : Around} {E : Value → Shared → Prop} {s : Shared} {z c d i1 i2 T : Addr} {fp1 fp2 : List Addr} {n1 n2 i : Nat} {P1 P2 : Nat → Value → Prop} {St1 St2 : Nat → Heap → Prop} {f : Bool} {oT : Obj}
theorem heldItem {Q : Value → Shared → Prop} (S : ZipSep2 z c d i1 i2 fp1 fp2) (D1 : Draws prog w A i1 fp1 n1 P1 St1) (D2 : Draws prog w A i2 fp2 n2 P2 St2)
    (hz : IsZipHeld s.heap z c d T f) (hT : s.heap.get? T = some oT) (hc : IsTupOf2 s.heap c (.ref i1) (.ref i2)) (st1 : St1 i s.heap) (st2 : St2 i s.heap) (lt1 : i < n1) (lt2 : i < n2)
    (hQ : ∀ x1 x2 h' tk, P1 i x1 → P2 i x2 → IsZipHeld h' z c d T true → St1 (i + 1) h' → St2 (i + 1) h' → IsTupOf2 h' s.heap.objs.size x1 x2 →
      (∀ e o, e ≠ z → e ≠ i1 → e ≠ i2 → s.heap.get? e = some o → h'.get? e = some o) → Q (.ref s.heap.objs.size) { s with heap := h', toks := tk }) :
    wpAny (model prog w) A (Builtin.«zip.__next__» ⟨[.ref z], []⟩) (fun fin s' => ∃ v, fin = .done (.ret v) ∧ Q v s') E s := by
  obtain ⟨hp, gg, dr, tk0, os⟩ := s
  show wpAny (model prog w) A (field (.ref z) 2 >>= _) _ _ _
  refine wpAny_bind (wpAny_field hz rfl (x := .bool false) rfl ?_)
  show wpAny (model prog w) A (field (.ref z) 3 >>= _) _ _ _
  refine wpAny_bind (wpAny_field hz rfl (x := .ref c) rfl (wpAny_bind (wpAny_seqItems hc rfl ?_)))
  show wpAny (model prog w) A (Builtin.SmallTypes.ownedTupleIsFree (.ref z) >>= _) _ _ _
  refine wpAny_bind (wpAny_tupleHeld_zip hz hT fun ha za sa => ?_)
  simp only [Bool.false_eq_true, if_false]
  refine wpAny_bind ?_
  rw [← Array.forIn_toList]
  simp only [List.forIn_cons, List.forIn_nil]
  refine wpAny_bind (wpAny_bind (wpAny_holding (wpAny_bind (D1.item i ⟨ha, gg, dr, tk0, os⟩ _ _ lt1 (D1.over st1 sa S.zf1) fun x1 hb tb p1 n1' sb => wpAny_pure (wpAny_pure ?_)))))
  replace sb : Heap.SameBut i1 ha hb := sb
  refine wpAny_bind (wpAny_bind (wpAny_holding (wpAny_bind (D2.item i ⟨hb, gg, dr, tb, os⟩ _ _ lt2 (D2.over (D2.over st2 sa S.zf2) sb S.sep1_2) fun x2 hd td p2 n2' sd => wpAny_pure (wpAny_pure (wpAny_pure ?_))))))
  replace sd : Heap.SameBut i2 hb hd := sd
  refine wpAny_bind (wpAny_newTuple (wpAny_pure ⟨_, rfl, ?_⟩) (hsz := (show (2 : Nat) ≤ sizeLine by decide)))
  have hsz : hd.objs.size = hp.objs.size := by rw [sd.1, sb.1, sa.1]
  have hzz : IsZipHeld hd z c d T true := sd.extBut _ _ S.zi2 (sb.extBut _ _ S.zi1 za)
  have kk : ∀ e o, e ≠ z → e ≠ i1 → e ≠ i2 → hp.get? e = some o → hd.get? e = some o := fun e o e1 e2 e3 q => sd.extBut _ _ e3 (sb.extBut _ _ e2 (sa.extBut _ _ e1 q))
  have m1 : St1 (i + 1) hd := D1.over n1' sd S.sep2_1
  have push : ∀ (h : Heap) (o : Obj) (e : Addr) (u : Obj), h.get? e = some u → (h.push o).get? e = some u := fun h o e u q => Heap.get?_push_of_some _ q
  have nw : IsTupOf2 (hd.push { cls := .type "tuple", data := .seq #[x1, x2] }) hd.objs.size x1 x2 := Heap.get?_push_size _ rfl
  rw [hsz] at nw
  have q := hQ x1 x2 (hd.push { cls := .type "tuple", data := .seq #[x1, x2] }) td p1 p2 (push _ _ _ _ hzz) (D1.frame _ _ _ m1 fun b _ o q => push _ _ _ _ q) (D2.frame _ _ _ n2' fun b _ o q => push _ _ _ _ q) nw (fun e o e1 e2 e3 q => push _ _ _ _ (kk e o e1 e2 e3 q))
  show Q (.ref hd.objs.size) _
  rw [hsz]
  exact q
theorem heldEnd {Q : Fin → Shared → Prop} (S : ZipSep2 z c d i1 i2 fp1 fp2) (D1 : Draws prog w A i1 fp1 n1 P1 St1) (D2 : Draws prog w A i2 fp2 n2 P2 St2)
    (hz : IsZipHeld s.heap z c d T f) (hT : s.heap.get? T = some oT) (hc : IsTupOf2 s.heap c (.ref i1) (.ref i2)) (st1 : St1 i s.heap) (st2 : St2 i s.heap) (le1 : i ≤ n1) (le2 : i ≤ n2) (hend : i = n1 ∨ i = n2)
    (hE : ∀ h' tk e, (∀ b o, b ≠ z → b ≠ i1 → b ≠ i2 → s.heap.get? b = some o → h'.get? b = some o) → (∃ o, h'.get? e = some o ∧ o.cls = .type "StopIteration") → E (.ref e) { s with heap := h', toks := tk }) :
    wpAny (model prog w) A (Builtin.«zip.__next__» ⟨[.ref z], []⟩) Q E s := by
  obtain ⟨hp, gg, dr, tk0, os⟩ := s
  show wpAny (model prog w) A (field (.ref z) 2 >>= _) _ _ _
  refine wpAny_bind (wpAny_field hz rfl (x := .bool false) rfl ?_)
  show wpAny (model prog w) A (field (.ref z) 3 >>= _) _ _ _
  refine wpAny_bind (wpAny_field hz rfl (x := .ref c) rfl (wpAny_bind (wpAny_seqItems hc rfl ?_)))
  show wpAny (model prog w) A (Builtin.SmallTypes.ownedTupleIsFree (.ref z) >>= _) _ _ _
  refine wpAny_bind (wpAny_tupleHeld_zip hz hT fun ha za sa => ?_)
  simp only [Bool.false_eq_true, if_false]
  refine wpAny_bind ?_
  rw [← Array.forIn_toList]
  simp only [List.forIn_cons, List.forIn_nil]
  refine wpAny_bind (wpAny_bind (wpAny_holding ?_))
  by_cases lt1 : i < n1
  · refine wpAny_bind (D1.item i ⟨ha, gg, dr, tk0, os⟩ _ _ lt1 (D1.over st1 sa S.zf1) fun x1 hb tb p1 n1' sb => wpAny_pure (wpAny_pure ?_))
    replace sb : Heap.SameBut i1 ha hb := sb
    have e2 : i = n2 := by omega
    refine wpAny_bind (wpAny_bind (wpAny_holding (wpAny_bind (D2.done ⟨hb, gg, dr, tb, os⟩ _ _ (by rw [← e2]; exact D2.over (D2.over st2 sa S.zf2) sb S.sep1_2) fun q e hq he => ?_))))
    exact hE q tb e (fun b o b1 b2 b3 x => hq _ _ b3 (sb.extBut _ _ b2 (sa.extBut _ _ b1 x))) he
  · have e1 : i = n1 := by omega
    refine wpAny_bind (D1.done ⟨ha, gg, dr, tk0, os⟩ _ _ (by rw [← e1]; exact D1.over st1 sa S.zf1) fun q e hq he => ?_)
    exact hE q tk0 e (fun b o b1 b2 _ x => hq _ _ b2 (sa.extBut _ _ b1 x)) he
theorem heldNext {Q : Option Value → Shared → Prop} (S : ZipSep2 z c d i1 i2 fp1 fp2) (D1 : Draws prog w A.in1 i1 fp1 n1 P1 St1) (D2 : Draws prog w A.in1 i2 fp2 n2 P2 St2)
    (hz : IsZipHeld s.heap z c d T f) (hT : s.heap.get? T = some oT) (hc : IsTupOf2 s.heap c (.ref i1) (.ref i2)) (st1 : St1 i s.heap) (st2 : St2 i s.heap) (lt1 : i < n1) (lt2 : i < n2)
    (hQ : ∀ x1 x2 h' tk, P1 i x1 → P2 i x2 → IsZipHeld h' z c d T true → St1 (i + 1) h' → St2 (i + 1) h' → IsTupOf2 h' s.heap.objs.size x1 x2 →
      (∀ e o, e ≠ z → e ≠ i1 → e ≠ i2 → s.heap.get? e = some o → h'.get? e = some o) → Q (some (.ref s.heap.objs.size)) { s with heap := h', toks := tk }) :
    wpAny (model prog w) A (pyNext (.ref z)) Q E s := by
  have ty : s.TypeIs (.ref z) "zip" := ⟨_, hz, rfl⟩
  refine wpAny_bind (wpAny_attempt (wpAny_callSpecial?_slot ty F.slot_zip_next (wpAny_call_entry F.slot_zip_next ty F.entry_zip_next ?_ (F.args_zip_next_1 _))))
  exact heldItem S D1 D2 hz hT hc st1 st2 lt1 lt2 fun x1 x2 h' tk a1 a2 a3 a4 a5 a6 a7 => wpAny_pure (hQ x1 x2 h' tk a1 a2 a3 a4 a5 a6 a7)
theorem heldStop {Q : Option Value → Shared → Prop} (S : ZipSep2 z c d i1 i2 fp1 fp2) (D1 : Draws prog w A.in1 i1 fp1 n1 P1 St1) (D2 : Draws prog w A.in1 i2 fp2 n2 P2 St2)
    (hz : IsZipHeld s.heap z c d T f) (hT : s.heap.get? T = some oT) (hc : IsTupOf2 s.heap c (.ref i1) (.ref i2)) (st1 : St1 i s.heap) (st2 : St2 i s.heap) (le1 : i ≤ n1) (le2 : i ≤ n2) (hend : i = n1 ∨ i = n2)
    (hQ : ∀ h' tk, (∀ b o, b ≠ z → b ≠ i1 → b ≠ i2 → s.heap.get? b = some o → h'.get? b = some o) → Q none { s with heap := h', toks := tk }) :
    wpAny (model prog w) A (pyNext (.ref z)) Q E s := by
  have ty : s.TypeIs (.ref z) "zip" := ⟨_, hz, rfl⟩
  refine wpAny_bind (wpAny_attempt (wpAny_callSpecial?_slot ty F.slot_zip_next (wpAny_call_entry F.slot_zip_next ty F.entry_zip_next ?_ (F.args_zip_next_1 _))))
  refine heldEnd S D1 D2 hz hT hc st1 st2 le1 le2 hend fun h' tk e kk he => ?_
  obtain ⟨o, h1, h2⟩ := he
  exact wpAny_bind (wpAny_isInstance (T := "StopIteration") (b := true) ⟨o, h1, h2⟩ isSubtype_stop (wpAny_pure (hQ h' tk kk)))
end
/-- a zip that gives tuples which are kept -/
structure ZL (t u : Bool) (z c d i1 i2 a b S : Addr) (i : Nat) (h : Heap) : Prop where
  hz : (IsZip h z c d .none ∧ ∃ x y, IsTupOf2 h d x y) ∨ ∃ T f o, IsZipHeld h z c d T f ∧ h.get? T = some o ∧ T ∉ [z, c, d, i1, i2, S]
  hc : IsTupOf2 h c (.ref i1) (.ref i2)
  h1 : itK t h i1 a i
  h2 : itK u h i2 b i
  hd : ∃ o, h.get? d = some o
theorem ZL.dl {t u : Bool} {z c d i1 i2 a b S : Addr} {i : Nat} {h : Heap} (Z : ZL t u z c d i1 i2 a b S i h) : d < h.objs.size := by
  obtain ⟨o, q⟩ := Z.hd
  exact Heap.lt_size q
theorem ZL.side {t u : Bool} {z c d i1 i2 a b S : Addr} {i : Nat} {h h' : Heap} (Z : ZL t u z c d i1 i2 a b S i h) (hS : S ∉ [z, c, d, i1, i2]) (k : ∀ e o, e ≠ S → h.get? e = some o → h'.get? e = some o) : ZL t u z c d i1 i2 a b S i h' := by
  simp only [List.mem_cons, List.not_mem_nil, or_false, not_or] at hS
  obtain ⟨e1, e2, e3, e4, e5⟩ := hS
  refine ⟨?_, k _ _ (Ne.symm e2) Z.hc, itK_at Z.h1 fun o q => k _ _ (Ne.symm e4) q, itK_at Z.h2 fun o q => k _ _ (Ne.symm e5) q, ?_⟩
  rcases Z.hz with ⟨q, x, y, r⟩ | ⟨T, f, o, q, r, m⟩
  · exact .inl ⟨k _ _ (Ne.symm e1) q, x, y, k _ _ (Ne.symm e3) r⟩
  · refine .inr ⟨T, f, o, k _ _ (Ne.symm e1) q, k _ _ (fun e => m (by simp [e])) r, m⟩
  · obtain ⟨o, q⟩ := Z.hd
    exact ⟨o, k _ _ (Ne.symm e3) q⟩
theorem gK_mono {t : Bool} {K : PySem.W.Frag} {H H' : Hp} {a : Addr} {xs : List V} (e : Same H H') (h : gK t K H a xs) : gK t K H' a xs := by
  cases t with
  | true => exact sqt_mono e h
  | false => exact sql_mono e h
theorem gK_small {X : Cx} {pins : List (Addr × Obj)} {σ : L2.St} {H : Hp} {s : Shared} {t : Bool} {a : Addr} {xs : List V} (I : Inv X pins σ H s) (h : gK t X.K H a xs) : xs.length ≤ sizeLine := by
  cases t with
  | true =>
    obtain ⟨us, r, p, hz⟩ := I.tuple h
    exact hz
  | false =>
    obtain ⟨us, r, p, hz⟩ := I.list h
    exact hz
theorem zl_lt {t u : Bool} {z c d i1 i2 a b S : Addr} {i : Nat} {h : Heap} {oS : Obj} (Z : ZL t u z c d i1 i2 a b S i h) (hS : h.get? S = some oS) : ∀ e ∈ S :: [z, c, d, i1, i2], e < h.objs.size := fun e m => by
  obtain ⟨o1, g1, _⟩ := itK_obj Z.h1
  obtain ⟨o2, g2, _⟩ := itK_obj Z.h2
  have hz : z < h.objs.size := by
    rcases Z.hz with ⟨q, _⟩ | ⟨_, _, _, q, _⟩
    · exact Heap.lt_size q
    · exact Heap.lt_size q
  simp only [List.mem_cons, List.not_mem_nil, or_false] at m
  rcases m with rfl | rfl | rfl | rfl | rfl | rfl
  · exact Heap.lt_size hS
  · exact hz
  · exact Heap.lt_size Z.hc
  · exact Z.dl
  · exact Heap.lt_size g1
  · exact Heap.lt_size g2
section
variable {X : Cx} {pins : List (Addr × Obj)} {σ : L2.St} {H : Hp} {s : Shared} {A : Around} {E : Value → Shared → Prop} {t u : Bool} {z c d i1 i2 a b S : Addr} {i : Nat} {xs ys : List V} {x y : V}
theorem zl_next {Q : Option Value → Shared → Prop} {oS : Obj} (Sp : ZipSep2 z c d i1 i2 [i1, a] [i2, b]) (n1 : a ≠ i1) (n2 : b ≠ i2) (hS : S ∉ [z, c, d, i1, i2]) (hh : A.in1.handled = none) (I : Inv X pins σ H s) (hf : ∀ e ∈ [z, c, d, i1, i2], FpOk X pins H e)
    (Z : ZL t u z c d i1 i2 a b S i s.heap) (hSo : s.heap.get? S = some oS) (gx : gK t X.K H a xs) (gy : gK u X.K H b ys) (ex : xs[i]? = some x) (ey : ys[i]? = some y)
    (h : ∀ s', Inv X pins σ (upd H s.heap.objs.size (.tup [x, y])) s' → ZL t u z c d i1 i2 a b S (i + 1) s'.heap → s'.heap.get? S = some oS → Q (some (.ref s.heap.objs.size)) s') :
    wpAny (model X.prog X.w) A (pyNext (.ref z)) Q E s := by
  obtain ⟨us, r1, p1, _⟩ := gK_vals I gx
  obtain ⟨vs, r2, p2, _⟩ := gK_vals I gy
  obtain ⟨v1, e1, q1⟩ := r1.get ex
  obtain ⟨v2, e2, q2⟩ := r2.get ey
  have D1 := draws_k (prog := X.prog) (w := X.w) t hh i1 a n1 us.toArray
  have D2 := draws_k (prog := X.prog) (w := X.w) u hh i2 b n2 vs.toArray
  have l1 : i < us.toArray.size := by simpa using (List.getElem?_eq_some_iff.mp e1).1
  have l2 : i < vs.toArray.size := by simpa using (List.getElem?_eq_some_iff.mp e2).1
  have val1 : ∀ w1, us.toArray[i]? = some w1 → w1 = v1 := fun w1 q => by
    rw [List.getElem?_toArray, e1] at q
    exact (Option.some.inj q).symm
  have val2 : ∀ w2, vs.toArray[i]? = some w2 → w2 = v2 := fun w2 q => by
    rw [List.getElem?_toArray, e2] at q
    exact (Option.some.inj q).symm
  have low : ∀ {e o}, s.heap.get? e = some o → s.heap.objs.size ≠ e := fun q => Nat.ne_of_gt (Heap.lt_size q)
  obtain ⟨o1, g1, _⟩ := itK_obj Z.h1
  obtain ⟨o2, g2, _⟩ := itK_obj Z.h2
  have lz : s.heap.objs.size ≠ z := by
    rcases Z.hz with ⟨q, _⟩ | ⟨_, _, _, q, _⟩
    · exact low q
    · exact low q
  have sub : ∀ {e : Addr}, e ∈ [z, d, i1, i2] → e ∈ [z, c, d, i1, i2] := fun m => by
    simp only [List.mem_cons, List.not_mem_nil, or_false] at m ⊢
    rcases m with m | m | m | m <;> simp [m]
  have fin : ∀ (h' : Heap) (tk : Nat), (∃ f, IsZipHeld h' z c d s.heap.objs.size f ∧ s.heap.objs.size ≠ d) ∨ (∃ T g o, IsZipHeld h' z c d T g ∧ h'.get? T = some o ∧ T ∉ [z, c, d, i1, i2, S]) → itK t h' i1 a (i + 1) → itK u h' i2 b (i + 1) → IsTupOf2 h' s.heap.objs.size v1 v2 → (∃ o, h'.get? d = some o) →
      (∀ e o, e ∉ [z, d, i1, i2] → s.heap.get? e = some o → h'.get? e = some o) → Q (some (.ref s.heap.objs.size)) { s with heap := h', toks := tk } := by
    intro h' tk hzz m1 m2 hT hd' kp
    have ok : ObjOk X.prog X.w (upd H s.heap.objs.size (.tup [x, y])) h' s.heap.objs.size (.tup [x, y]) := ⟨by show 2 ≤ sizeLine; decide, [v1, v2], .cons q1 (.cons q2 .nil), _, hT, rfl, _, rfl⟩
    have cn : c ∉ [z, d, i1, i2] := by
      simp only [List.mem_cons, List.not_mem_nil, or_false, not_or]
      exact ⟨Sp.TIz, Sp.TITO, Sp.TIi1, Sp.TIi2⟩
    refine h _ (I.turnedNew (t' := tk) (ch := [z, c, d, i1, i2]) (fun e o ne he => kp e o (fun m => ne (sub m)) he) hf (Nat.le_refl _) ok) ⟨.inr ?_, kp _ _ cn Z.hc, m1, m2, hd'⟩ (kp _ _ (fun m => hS (sub m)) hSo)
    rcases hzz with ⟨f, q, ld⟩ | q
    · refine ⟨_, f, _, q, hT, ?_⟩
      simp only [List.mem_cons, List.not_mem_nil, or_false, not_or]
      exact ⟨lz, low Z.hc, ld, low g1, low g2, low hSo⟩
    · exact q
  have nin : ∀ {e : Addr}, e ∉ [z, d, i1, i2] → e ≠ z ∧ e ≠ d ∧ e ≠ i1 ∧ e ≠ i2 := fun m => by simpa only [List.mem_cons, List.not_mem_nil, or_false, not_or] using m
  rcases Z.hz with ⟨hz, x0, y0, hd⟩ | ⟨T, f, oT, hz, hT, nT⟩
  · refine wpAny_pyNext_zipD2_item Sp D1 D2 hz Z.hc hd ⟨Z.h1, p1⟩ ⟨Z.h2, p2⟩ l1 l2 fun w1 w2 h' tk a1 a2 z1 z2 st1 st2 hT hsz kp => ?_
    cases val1 w1 a1
    cases val2 w2 a2
    exact fin h' tk (.inl ⟨false, z1, low hd⟩) st1.1 st2.1 hT ⟨_, z2⟩ fun e o m q => kp e o (nin m).1 (nin m).2.1 (nin m).2.2.1 (nin m).2.2.2 q
  · have nT' := nT
    simp only [List.mem_cons, List.not_mem_nil, or_false, not_or] at nT'
    obtain ⟨t1, _, _, t4, t5, _⟩ := nT'
    refine heldNext Sp D1 D2 hz hT Z.hc ⟨Z.h1, p1⟩ ⟨Z.h2, p2⟩ l1 l2 fun w1 w2 h' tk a1 a2 z1 st1 st2 hN kp => ?_
    cases val1 w1 a1
    cases val2 w2 a2
    exact fin h' tk (.inr ⟨T, true, oT, z1, kp _ _ t1 t4 t5 hT, nT⟩) st1.1 st2.1 hN (Z.hd.imp fun o q => kp _ _ Sp.TOz Sp.Ti1 Sp.Ti2 q) fun e o m q => kp e o (nin m).1 (nin m).2.2.1 (nin m).2.2.2 q
theorem zl_stop {Q : Option Value → Shared → Prop} {oS : Obj} (Sp : ZipSep2 z c d i1 i2 [i1, a] [i2, b]) (n1 : a ≠ i1) (n2 : b ≠ i2) (hS : S ∉ [z, c, d, i1, i2]) (hh : A.in1.handled = none) (I : Inv X pins σ H s) (hf : ∀ e ∈ [z, c, d, i1, i2], FpOk X pins H e)
    (Z : ZL t u z c d i1 i2 a b S i s.heap) (hSo : s.heap.get? S = some oS) (gx : gK t X.K H a xs) (gy : gK u X.K H b ys) (le1 : i ≤ xs.length) (le2 : i ≤ ys.length) (hend : i = xs.length ∨ i = ys.length)
    (h : ∀ s', Inv X pins σ H s' → s'.heap.get? S = some oS → Q none s') : wpAny (model X.prog X.w) A (pyNext (.ref z)) Q E s := by
  obtain ⟨us, r1, p1, _⟩ := gK_vals I gx
  obtain ⟨vs, r2, p2, _⟩ := gK_vals I gy
  have D1 := draws_k (prog := X.prog) (w := X.w) t hh i1 a n1 us.toArray
  have D2 := draws_k (prog := X.prog) (w := X.w) u hh i2 b n2 vs.toArray
  have z1 : us.toArray.size = xs.length := by rw [List.size_toArray, r1.length]
  have z2 : vs.toArray.size = ys.length := by rw [List.size_toArray, r2.length]
  have sub : ∀ {e : Addr}, e ∈ [z, d, i1, i2] → e ∈ [z, c, d, i1, i2] := fun m => by
    simp only [List.mem_cons, List.not_mem_nil, or_false] at m ⊢
    rcases m with m | m | m | m <;> simp [m]
  have nin : ∀ {e : Addr}, e ∉ [z, d, i1, i2] → e ≠ z ∧ e ≠ d ∧ e ≠ i1 ∧ e ≠ i2 := fun m => by simpa only [List.mem_cons, List.not_mem_nil, or_false, not_or] using m
  have fin : ∀ (h' : Heap) (tk : Nat), (∀ e o, e ∉ [z, d, i1, i2] → s.heap.get? e = some o → h'.get? e = some o) → Q none { s with heap := h', toks := tk } := fun h' tk kp =>
    h _ (I.turnedL (t' := tk) (ch := [z, c, d, i1, i2]) (fun e o ne he => kp e o (fun m => ne (sub m)) he) hf) (kp _ _ (fun m => hS (sub m)) hSo)
  rcases Z.hz with ⟨hz, x0, y0, hd⟩ | ⟨T, f, oT, hz, hT, nT⟩
  · exact wpAny_pyNext_zipD2_end Sp D1 D2 hz Z.hc hd ⟨Z.h1, p1⟩ ⟨Z.h2, p2⟩ (by omega) (by omega) (by omega) fun h' tk kp => fin h' tk fun e o m q => kp e o (nin m).1 (nin m).2.1 (nin m).2.2.1 (nin m).2.2.2 q
  · exact heldStop Sp D1 D2 hz hT Z.hc ⟨Z.h1, p1⟩ ⟨Z.h2, p2⟩ (by omega) (by omega) (by omega) fun h' tk kp => fin h' tk fun e o m q => kp e o (nin m).1 (nin m).2.2.1 (nin m).2.2.2 q
/-- the tuples come, one by one -/
def zgo (Q : List V → Hp → Prop) : List V → List V → List V → Hp → Prop
  | x :: xs, y :: ys, acc, H => ∀ p, H p = none → zgo Q xs ys (acc ++ [.ref p]) (upd H p (.tup [x, y]))
  | [], _, acc, H => Q acc H
  | _ :: _, [], acc, H => Q acc H
theorem vals_snoc {xs : List V} {us : List Value} {x : V} {v : Value} (h : Vals xs us) (r : RelV x v) : Vals (xs ++ [x]) (us ++ [v]) := by
  induction h with
  | nil => exact .cons r .nil
  | cons a _ ih => exact .cons a ih
theorem fpOk_upd {e p : Addr} {o : HO} (f : FpOk X pins H e) (n : e ≠ p) : FpOk X pins (upd H p o) e := ⟨by rw [upd_ne n]; exact f.1, f.2⟩
theorem lz_loop {Q : List V → Hp → Prop} {R : Result → Shared → Prop} (Sp : ZipSep2 z c d i1 i2 [i1, a] [i2, b]) (n1 : a ≠ i1) (n2 : b ≠ i2) (hS : S ∉ [z, c, d, i1, i2]) (hh : A.in1.in1.handled = none) :
    ∀ (zs ws : List V) (i : Nat) (s : Shared) (H : Hp) (xs ys acc : List V) (its : Array Value) (cp : Nat), xs.drop i = zs → ys.drop i = ws → i ≤ xs.length → i ≤ ys.length → acc.length = i → Inv X pins σ H s → (∀ e ∈ S :: [z, c, d, i1, i2], FpOk X pins H e) →
      ZL t u z c d i1 i2 a b S i s.heap → s.heap.get? S = some { cls := .type "list", dict := none, data := .seq its cp, slots := #[] } → gK t X.K H a xs → gK u X.K H b ys → Vals acc its.toList → zgo Q zs ws acc H →
      (∀ s' H' acc' its' cp', Inv X pins σ H' s' → FpOk X pins H' S → s'.heap.get? S = some { cls := .type "list", dict := none, data := .seq its' cp', slots := #[] } → Vals acc' its'.toList → acc'.length ≤ sizeLine → Q acc' H' → R (.ok (.ret .none)) s') →
      codeAny (model X.prog X.w) A (.builtin "list.extend.loop" ⟨[.ref S, .ref z, .none], []⟩) R s := by
  intro zs
  induction zs with
  | nil =>
    intro ws i s H xs ys acc its cp ezs ews le1 le2 la I hf Z hSo gx gy va q k
    have e1 : i = xs.length := by
      have := congrArg List.length ezs
      rw [List.length_drop, List.length_nil] at this
      omega
    have hb : xs.length ≤ sizeLine := gK_small I gx
    refine codeAny_builtin F.entry_extend_loop ?_
    rw [Around.under_plainId F.plain_extend_loop ⟨[.ref S, .ref z, .none], []⟩]
    refine wpAny_bind (zl_stop Sp n1 n2 hS hh I (fun e m => hf e (List.mem_cons_of_mem _ m)) Z hSo gx gy le1 le2 (.inl e1) fun s' I' g => ?_)
    exact wpAny_pure (k s' H acc its cp I' (hf S List.mem_cons_self) g va (by omega) q)
  | cons x zs ih =>
    intro ws i s H xs ys acc its cp ezs ews le1 le2 la I hf Z hSo gx gy va q k
    have hb : xs.length ≤ sizeLine := gK_small I gx
    cases ws with
    | nil =>
      have e1 : i = ys.length := by
        have := congrArg List.length ews
        rw [List.length_drop, List.length_nil] at this
        omega
      refine codeAny_builtin F.entry_extend_loop ?_
      rw [Around.under_plainId F.plain_extend_loop ⟨[.ref S, .ref z, .none], []⟩]
      refine wpAny_bind (zl_stop Sp n1 n2 hS hh I (fun e m => hf e (List.mem_cons_of_mem _ m)) Z hSo gx gy le1 le2 (.inr e1) fun s' I' g => ?_)
      exact wpAny_pure (k s' H acc its cp I' (hf S List.mem_cons_self) g va (by omega) q)
    | cons y ws =>
      have g1 : xs[i]? = some x := by
        have := congrArg List.head? ezs
        rw [List.head?_drop] at this
        exact this
      have g2 : ys[i]? = some y := by
        have := congrArg List.head? ews
        rw [List.head?_drop] at this
        exact this
      have l1 := (List.getElem?_eq_some_iff.mp g1).1
      have l2 := (List.getElem?_eq_some_iff.mp g2).1
      have ezs' : xs.drop (i + 1) = zs := by rw [← List.tail_drop, ezs]; rfl
      have ews' : ys.drop (i + 1) = ws := by rw [← List.tail_drop, ews]; rfl
      have hn : H s.heap.objs.size = none := I.hok.fresh (Nat.le_refl _)
      have lenits : its.size = acc.length := by
        have := va.length
        simp only [Array.length_toList] at this
        exact this.symm
      refine codeAny_builtin F.entry_extend_loop ?_
      rw [Around.under_plainId F.plain_extend_loop ⟨[.ref S, .ref z, .none], []⟩]
      refine wpAny_bind (zl_next Sp n1 n2 hS hh I (fun e m => hf e (List.mem_cons_of_mem _ m)) Z hSo gx gy g1 g2 fun s' I' Z' g => ?_)
      have same : Same H (upd H s.heap.objs.size (.tup [x, y])) := same_upd hn
      have ltf : ∀ e ∈ S :: [z, c, d, i1, i2], e ≠ s.heap.objs.size := fun e m => Nat.ne_of_lt (zl_lt Z hSo e m)
      show wpAny (model X.prog X.w) A.in1 (updateSeq S (·.push (.ref s.heap.objs.size)) >>= _) _ _ s'
      refine wpAny_bind (wpAny_updateSeq g rfl (wpAny_pure ⟨plainId_quiet F.plain_extend_loop _, ?_⟩) (by rw [lenits]; omega) (by show (its.push (Value.ref s.heap.objs.size)).size ≤ sizeLine + 1; rw [Array.size_push, lenits]; omega))
      have oth : ∀ e o, e ≠ S → s'.heap.get? e = some o → (s'.heap.update S (Obj.mapSeq (·.push (Value.ref s.heap.objs.size)))).get? e = some o := fun e o ne q => (Heap.get?_update_other _ _ (Ne.symm ne)).trans q
      have I2 : Inv X pins σ (upd H s.heap.objs.size (.tup [x, y])) { s' with heap := s'.heap.update S (Obj.mapSeq (·.push (Value.ref s.heap.objs.size))) } :=
        I'.turnedL (t' := s'.toks) (ch := [S]) (fun e o ne q => oth e o (fun z => ne (by simp [z])) q) fun e m => by
          rw [List.mem_singleton.mp m]
          exact fpOk_upd (hf S List.mem_cons_self) (ltf S List.mem_cons_self)
      refine ih ws (i + 1) _ _ xs ys (acc ++ [.ref s.heap.objs.size]) (its.push (.ref s.heap.objs.size)) _ ezs' ews' l1 l2 (by rw [List.length_append, la]; rfl) I2 (fun e m => fpOk_upd (hf e m) (ltf e m)) (Z'.side hS oth) (Heap.get?_update_self _ g rfl) (gK_mono same gx) (gK_mono same gy) ?_ (q _ hn) k
      rw [Array.toList_push]
      exact vals_snoc va rfl
theorem zip_len_no : typeLookup (.type "zip") "__len__" = pure none := am_miss_of_fast (by decide +kernel)
theorem zip_hint_no : typeLookup (.type "zip") "__length_hint__" = pure none := am_miss_of_fast (by decide +kernel)
theorem upd_two {H : Hp} {p : Addr} {o : HO} : Same H H := Same.refl H
theorem lz_call {Q : VK} (Sp : ZipSep2 z c d i1 i2 [i1, a] [i2, b]) (n1 : a ≠ i1) (n2 : b ≠ i2) (hh : X.A.in1.handled = none) (I : Inv X pins σ H s) (hf : ∀ e ∈ [z, c, d, i1, i2], FpOk X pins H e) (hz : IsZip s.heap z c d .none) (hc : IsTupOf2 s.heap c (.ref i1) (.ref i2))
    (hd : ∃ x y, IsTupOf2 s.heap d x y) (h1 : itK t s.heap i1 a 0) (h2 : itK u s.heap i2 b 0) (gx : gK t X.K H a xs) (gy : gK u X.K H b ys) (q : zgo (fun acc H' => ∀ l, H' l = none → Q (.ref l) (upd H' l (.lst acc))) xs ys [] H) :
    wpAny (model X.prog X.w) X.A (call (.type "list") [.ref z]) (EP X pins σ Q) E s := by
  obtain ⟨x0, y0, hd⟩ := hd
  have Z0 : ZL t u z c d i1 i2 a b s.heap.objs.size 0 s.heap → True := fun _ => trivial
  obtain ⟨o1, g1, _⟩ := itK_obj h1
  obtain ⟨o2, g2, _⟩ := itK_obj h2
  have low : ∀ {e o}, s.heap.get? e = some o → s.heap.objs.size ≠ e := fun q => Nat.ne_of_gt (Heap.lt_size q)
  have hS : s.heap.objs.size ∉ [z, c, d, i1, i2] := by
    simp only [List.mem_cons, List.not_mem_nil, or_false, not_or]
    exact ⟨low hz, low hc, low hd, low g1, low g2⟩
  have hn : H s.heap.objs.size = none := I.hok.fresh (Nat.le_refl _)
  have fS : FpOk X pins H s.heap.objs.size := I.fpOk (Nat.le_refl _) hn
  refine callType_codes (Q₁ := fun ob s1 => ob = .ref s.heap.objs.size ∧ s1 = { s with heap := s.heap.push { cls := .type "list", data := .seq #[] } }) F.called_list (F.typeCall_list_1 _) F.entry_list_init (code_list_new _ ⟨rfl, rfl⟩) ?_
  rintro ob s1 ⟨rfl, rfl⟩
  have gS : (s.heap.push { cls := .type "list", data := .seq #[] }).get? s.heap.objs.size = some { cls := .type "list", data := .seq #[] } := Heap.get?_push_size _ rfl
  have k0 : ∀ e o, s.heap.get? e = some o → (s.heap.push { cls := .type "list", data := .seq #[] }).get? e = some o := fun e o x => Heap.get?_push_of_some _ x
  refine ⟨⟨_, gS, rfl⟩, F.args_list_init_2 _ _, ?_⟩
  show wpAny (model X.prog X.w) X.A.in1.in1 (do let old ← Builtin.List.listItems (.ref s.heap.objs.size); Builtin.List.listUpdate (.ref s.heap.objs.size) (fun _ => #[]); letGo old.toList.reverse; Builtin.List.listExtendWith (.ref s.heap.objs.size) (.ref z) .none) _ _ _
  refine wpAny_bind ?_
  unfold Builtin.List.listItems
  refine wpAny_bind (wpAny_seqItems gS rfl (wpAny_pure ?_))
  show wpAny (model X.prog X.w) X.A.in1.in1 (updateSeq s.heap.objs.size (fun _ => #[]) >>= fun _ => letGo (#[] : Array Value).toList.reverse >>= fun _ => Builtin.List.listExtendWith (.ref s.heap.objs.size) (.ref z) .none) _ _ _
  refine wpAny_bind (wpAny_updateSeq gS rfl (wpAny_bind (wpAny_letGo ?_)))
  have gS2 := Heap.get?_update_self (Obj.mapSeq (fun _ => (#[] : Array Value))) gS rfl
  have k1 : ∀ e o, s.heap.get? e = some o → ((s.heap.push { cls := .type "list", data := .seq #[] }).update s.heap.objs.size (Obj.mapSeq (fun _ => (#[] : Array Value)))).get? e = some o := fun e o x => (Heap.get?_update_other _ _ (low x)).trans (k0 e o x)
  generalize hg2 : (s.heap.push { cls := .type "list", data := .seq #[] }).update s.heap.objs.size (Obj.mapSeq (fun _ => (#[] : Array Value))) = g at gS2 k1
  have ty : ∀ (h' : Heap) (tk : Nat), h'.get? z = some { cls := .type "zip", dict := none, data := .fields #[.none, .bool false, .bool false, .ref c, .ref d], slots := #[] } → ({ s with heap := h', toks := tk } : Shared).TypeIs (.ref z) "zip" := fun h' tk x => ⟨_, x, rfl⟩
  unfold Builtin.List.listExtendWith
  refine wpAny_bind (wpAny_typeOf (ty g s.toks (k1 _ _ hz)) ?_)
  have b1 : Builtin.List.listSameRef (.ref s.heap.objs.size) (.ref z) = false := by simp [Builtin.List.listSameRef, low hz]
  have b2 : (Value.type "zip" == Value.type "list") = false := by decide
  have b3 : (Value.type "zip" == Value.type "tuple") = false := by decide
  simp only [b1, b2, b3, Bool.or_false, Bool.false_eq_true, if_false]
  refine wpAny_bind (wpAny_pyIter_zip (k1 _ _ hz) (wpAny_bind (wpAny_holding ?_)))
  unfold Builtin.List.listLengthHint
  refine wpAny_bind (wpAny_specialOf (ty g s.toks (k1 _ _ hz)) zip_len_no ?_)
  show wpAny (model X.prog X.w) X.A.in1.in1 (specialOf (Value.ref z) (Str.ofString "__length_hint__") >>= _) _ _ _
  refine wpAny_bind (wpAny_specialOf (ty g s.toks (k1 _ _ hz)) zip_hint_no (wpAny_pure ?_))
  show wpAny (model X.prog X.w) X.A.in1.in1 (rule "list.extend.makes-room" >>= fun _ => Builtin.List.listTouch (.ref s.heap.objs.size) >>= fun _ => again (.builtin "list.extend.loop" ⟨[.ref s.heap.objs.size, .ref z, .none], []⟩)) _ _ _
  refine wpAny_bind (wpAny_rule (wpAny_bind ?_))
  show wpAny (model X.prog X.w) X.A.in1.in1 (updateSeq s.heap.objs.size (·.push .none) >>= fun _ => updateSeq s.heap.objs.size (·.pop)) _ _ _
  refine wpAny_bind (wpAny_updateSeq gS2 rfl ?_)
  have gS3 := Heap.get?_update_self (Obj.mapSeq (·.push Value.none)) gS2 rfl
  refine wpAny_updateSeq (hz := by seq_fits) gS3 rfl ?_
  have gS4 := Heap.get?_update_self (Obj.mapSeq (·.pop)) gS3 rfl
  have k2 : ∀ e o, s.heap.get? e = some o → ((g.update s.heap.objs.size (Obj.mapSeq (·.push Value.none))).update s.heap.objs.size (Obj.mapSeq (·.pop))).get? e = some o := fun e o x => (Heap.get?_update_other _ _ (low x)).trans ((Heap.get?_update_other _ _ (low x)).trans (k1 e o x))
  have I2 : Inv X pins σ H { s with heap := (g.update s.heap.objs.size (Obj.mapSeq (·.push Value.none))).update s.heap.objs.size (Obj.mapSeq (·.pop)) } := I.kept (t' := s.toks) k2
  refine wpAny_pure ⟨plainId_quiet F.plain_extend_loop _, lz_loop (A := X.A.in1) Sp n1 n2 hS hh xs ys 0 _ H xs ys [] _ _ rfl rfl (Nat.zero_le _) (Nat.zero_le _) rfl I2 (fun e m => ?_) ⟨.inl ⟨k2 _ _ hz, x0, y0, k2 _ _ hd⟩, k2 _ _ hc, itK_at h1 fun o x => k2 _ _ x, itK_at h2 fun o x => k2 _ _ x, _, k2 _ _ hd⟩ gS4 gx gy .nil q ?_⟩
  · rcases List.mem_cons.mp m with rfl | m
    · exact fS
    · exact hf e m
  · intro s' H' acc' its' cp' I' f' gl va hl q'
    refine ⟨rfl, .ref s.heap.objs.size, _, I'.take (h' := s'.heap) (t' := s'.toks) (o := .lst acc') (fun _ _ _ x => x) f' ⟨hl, its'.toList, cp', va, ?_⟩, rfl, q' _ f'.1⟩
    exact gl
def tLz (K : PySem.W.Frag) (ta : TA) : TE := fun σ H Q => ta σ H fun vs H1 => ∃ (t u : Bool) (a b : Addr) (xs ys : List V), vs = [.ref a, .ref b] ∧ gK t K H1 a xs ∧ gK u K H1 b ys ∧ zgo (fun acc H' => ∀ l, H' l = none → Q (.ref l) (upd H' l (.lst acc))) xs ys [] H1
theorem pe_lz {e e2 : Expr} {ta : TA} {p0 p pos0 pos : Pos} (calm : X.calm = true) (hgl : Gl X "list") (hml : X.mg "list" = none) (hg : Gl X "zip") (hm : X.mg "zip" = none) (ha : PA X [e, e2] ta)
    (h0 : starEach [Expr.Call (.Name "zip" p) [e, e2] [] pos] X.env = (false, eval (Expr.Call (.Name "zip" p) [e, e2] [] pos) X.env) :: starEach [] X.env := by rfl)
    (hs : starEach [e, e2] X.env = (false, eval e X.env) :: starEach [e2] X.env := by rfl) (hpl : (backTo pos (starEach [e2] X.env)).any (·.1) = false := by rfl) :
    PE X (.Call (.Name "list" p0) [.Call (.Name "zip" p) [e, e2] [] pos] [] pos0) (tLz X.K ta) := by
  refine ⟨fun pins s σ H Q I h => ?_⟩
  refine wpAny_Call_Name_kw (ld_blt I hgl hml (show bootBuiltins "list" = some (.type "list") by decide +kernel) (PyProof.Rows.callWith_type1 ?_ h0 rfl) (by decide) (by decide))
  rw [h0]
  show wpAny (model X.prog X.w) X.A (spliced ((false, eval (Expr.Call (.Name "zip" p) [e, e2] [] pos) X.env) :: backTo pos0 (starEach [] X.env))) _ _ s
  refine Calls.spliced_cons (Call_ (ld_blt I hg hm PyProof.Rows.boot_zip (PyProof.Rows.callWith_type1 (thn (ha.run pos pins s σ H _ I h) fun us s1 ⟨vs, H1, I1, r1, t, u, a, b, xs, ys, ex, gx, gy, q⟩ => ?_) hs hpl)))
  subst ex
  obtain ⟨u1, u2, rfl, q1, q2⟩ := vals2 r1
  cases (show u1 = Value.ref a from q1)
  cases (show u2 = Value.ref b from q2)
  obtain ⟨its1, v1, p1, la⟩ := gK_vals I1 gx
  obtain ⟨its2, v2, p2, lb⟩ := gK_vals I1 gy
  refine zip_begins2 (begins_k t a its1.toArray) (begins_k u b its2.toArray) p1 p2 fun h' hz hT hO g1 g2 hsz kp => PyProof.Rows.args_nil ?_
  have I2 : Inv X pins σ H1 { s1 with heap := h' } := I1.kept (t' := s1.toks) kp
  have ap := PySem.W.ktu_apart s1.heap.objs.size a b la lb
  have sp := sep_of ap (Nat.ne_of_gt (Nat.lt_of_lt_of_le lb (Nat.le_refl _))) (Nat.ne_of_gt (Nat.lt_succ_of_lt la)) (Nat.ne_of_lt (Nat.lt_of_lt_of_le lb (Nat.le_add_right _ _))) (Nat.ne_of_lt (Nat.lt_of_lt_of_le lb (Nat.le_add_right _ _)))
  refine lz_call (s := { s1 with heap := h' }) sp ap.l1i1 (Nat.ne_of_lt (Nat.lt_succ_of_lt lb)) (I1.ok.hd calm) I2 (fun x hx => ?_) hz hT ⟨_, _, hO⟩ (itK_new g1) (itK_new g2) gx gy q
  have hle : s1.heap.objs.size ≤ x := by
    simp only [List.mem_cons, List.not_mem_nil, or_false] at hx
    rcases hx with rfl | rfl | rfl | rfl | rfl <;> omega
  exact I1.fpOk hle (I1.hok.fresh hle)
end
section
variable {X : Cx} {XR : XRel} {E : XK} {a b : Expr} {fa fb : ME} {p0 p pos0 pos : Pos}
theorem items_gk {K : PySem.W.Frag} {Hi : Hp} {x : PyData} {v : V} {ds : List PyData} (d : Dq K Hi x v) (e : itemsOf x = some ds) : ∃ t l xs, v = .ref l ∧ DqA K Hi ds xs ∧ ∀ H', Same Hi H' → gK t K H' l xs := by
  cases x with
  | tuple ys =>
    obtain ⟨l, xs, h1, h2, h3⟩ := sqOf_rel (H' := Hi) (t := true) d e
    exact ⟨true, l, xs, h1, h2, h3⟩
  | list ys =>
    obtain ⟨l, xs, h1, h2, h3⟩ := sqOf_rel (H' := Hi) (t := false) d e
    exact ⟨false, l, xs, h1, h2, h3⟩
  | _ => cases e
theorem zgo_ok {K : PySem.W.Frag} {A : List Addr} {H0 : Hp} {Q : VK} {s : Sto} : ∀ (xs ys : List PyData) (xv yv : List V) (pre : List PyData) (acc : List V) (Hi H : Hp), DqA K Hi xs xv → DqA K Hi ys yv → DqA K Hi pre acc → (∀ l, H l = none → H0 l = none) → RS K A Hi s H →
    PO K A Hi H XR E (RF K A H0) Q (.ok (pre ++ zipD xs ys) s) → zgo (fun acc H' => ∀ l, H' l = none → Q (.ref l) (upd H' l (.lst acc))) xv yv acc H := by
  have fin : ∀ (pre : List PyData) (acc : List V) (Hi H : Hp), DqA K Hi pre acc → (∀ l, H l = none → H0 l = none) → RS K A Hi s H → PO K A Hi H XR E (RF K A H0) Q (.ok pre s) → ∀ l, H l = none → Q (.ref l) (upd H l (.lst acc)) :=
    fun pre acc Hi H da th r h l hl => PO.out (R := RF K A H0) (x := pre) h (Ext.fresh1 hl) (r.new1 hl) ⟨l, acc, rfl, upd_same, r.fresh hl, th l hl, r.notin hl, da⟩
  intro xs
  induction xs with
  | nil =>
    intro ys xv yv pre acc Hi H dx dy da th r h
    cases (show xv = [] from dx)
    have h' : PO K A Hi H XR E (RF K A H0) Q (.ok (pre ++ []) s) := h
    rw [List.append_nil] at h'
    exact fin pre acc Hi H da th r h'
  | cons x xs ih =>
    intro ys xv yv pre acc Hi H dx dy da th r h
    obtain ⟨v, vr, rfl, dv, dr⟩ := dx
    cases ys with
    | nil =>
      cases (show yv = [] from dy)
      have h' : PO K A Hi H XR E (RF K A H0) Q (.ok (pre ++ []) s) := h
      rw [List.append_nil] at h'
      exact fin pre acc Hi H da th r h'
    | cons y ys =>
      obtain ⟨w, wr, rfl, dw, dz⟩ := dy
      intro p hp
      have hpi := r.fresh hp
      have sm : Same Hi (upd Hi p (.tup [v, w])) := same_upd hpi
      refine ih ys vr wr (pre ++ [.tuple [x, y]]) (acc ++ [.ref p]) (upd Hi p (.tup [v, w])) (upd H p (.tup [v, w])) (DqA.mono sm _ _ dr) (DqA.mono sm _ _ dz) (DqA.append (DqA.mono sm _ _ da) ⟨.ref p, [], rfl, ?_, rfl⟩) (fun l hl => th l ?_) (r.new hp) ?_
      · exact ⟨p, _, rfl, SqT.of upd_same, v, _, rfl, Dq.mono sm _ _ dv, w, [], rfl, Dq.mono sm _ _ dw, rfl⟩
      · by_cases e : l = p
        · rw [e]
          exact hp
        · rw [upd_ne e] at hl
          exact hl
      · have h2 := PO.back (Ext.fresh (o := .tup [v, w]) hp hpi) h
        rw [List.append_assoc]
        exact h2
theorem sc_lz (calm : X.calm = true) (hgl : Gl X "list") (hml : X.mg "list" = none) (hg : Gl X "zip") (hm : X.mg "zip" = none) (ha : SE X XR E a fa) (hb : SE X XR E b fb)
    (h0 : starEach [Expr.Call (.Name "zip" p) [a, b] [] pos] X.env = (false, eval (Expr.Call (.Name "zip" p) [a, b] [] pos) X.env) :: starEach [] X.env := by rfl)
    (h1 : starEach [a, b] X.env = (false, eval a X.env) :: starEach [b] X.env := by rfl) (h2 : starEach [b] X.env = (false, eval b X.env) :: starEach [] X.env := by rfl)
    (h3 : (backTo pos (starEach [b] X.env)).any (·.1) = false := by rfl) : SC X XR E (.Call (.Name "list" p0) [.Call (.Name "zip" p) [a, b] [] pos] [] pos0) (iZp fa fb) := by
  obtain ⟨ta, pa, qa⟩ := ha
  obtain ⟨tb, pb, qb⟩ := hb
  refine ⟨_, pe_lz calm hgl hml hg hm (pa_cons pa (pa_cons pb pa_nil h2) h1) h0 h1 h3, fun A Hi ρ s σ H r re Q h => ?_⟩
  refine qa A Hi ρ s σ H r re _ (PO.bind h fun x s1 v Hi1 H1 _ e1 r1 d h1 => ?_)
  refine qb A Hi1 ρ s1 σ H1 r1 (re.mono e1.same pfx) _ (PO.bind h1 fun y s2 w Hi2 H2 _ e2 r2 d2 h2 => ?_)
  cases hx : itemsOf x with
  | none =>
    rw [hx] at h2
    exact h2.elim
  | some xs =>
    cases hy : itemsOf y with
    | none =>
      rw [hx, hy] at h2
      exact h2.elim
    | some ys =>
      rw [hx, hy] at h2
      obtain ⟨t, l, xv, rfl, dx, gx⟩ := items_gk (Dq.mono e2.same _ _ d) hx
      obtain ⟨u, l2, yv, rfl, dy, gy⟩ := items_gk d2 hy
      exact ⟨t, u, l, l2, xv, yv, rfl, gx H2 r2.sub, gy H2 r2.sub, zgo_ok xs ys xv yv [] [] Hi2 H2 dx dy rfl (fun q hq => (e1.trans e2).there q hq) r2 h2⟩
end
/-! ### a, b, .. = a list -/
def gTpL (is : List Nat) : MG := fun d ρ => match d with
  | .list ds => gNms is ds ρ
  | _ => none
section
variable {X : Cx} {pos : Pos}
theorem sg_lst {es : List Expr} {is : List Nat} {k : Nat} (hc : X.calm = true) (h : SGs X es is) (hn : (assignEach es X.env).length = is.length := by rfl) (hst : (assignEach es X.env).findIdx? (·.1) = none := by rfl) : SG X (.Tuple es k pos) (gTpL is) is := by
  obtain ⟨t, p, q⟩ := h
  refine ⟨_, pg_unl hc p hn hst, ⟨fun A Hi ρ s σ H d v r re dq ρ' e Q k => ?_⟩⟩
  cases d with
  | list ds =>
    obtain ⟨a, xs, rfl, h1, h2⟩ := dq
    exact ⟨a, xs, rfl, SqL.of (r.sub _ _ h1), by rw [h2.length]; exact gNms_len e, q A Hi ρ s σ H ds xs r re h2 ρ' e Q k⟩
  | _ => cases e
end
end Mir
namespace Mir
open PySem PySem.Spec PyProof.Rows L2
/-- what is held for ever at the start: the script alone -/
theorem start_hi {K : PySem.W.Frag} {H : Hp} {a : Addr} {xs : List V} (h : SqL K H a xs) : ∃ Hi : Hp, Same Hi H ∧ (∀ (b : Addr) (ps : Array Value), Hi b ≠ some (.tbl ps)) ∧ SqL K Hi a xs := by
  rcases h with h | h
  · refine ⟨fun b => if b = a then H a else none, fun b u e => ?_, fun b ps e => ?_, .inl ?_⟩
    · replace e : (if b = a then H a else none) = some u := e
      by_cases q : b = a
      · rw [if_pos q] at e
        rw [q]
        exact e
      · rw [if_neg q] at e
        cases e
    · replace e : (if b = a then H a else none) = some (.tbl ps) := e
      by_cases q : b = a
      · rw [if_pos q] at e
        rcases h with h | ⟨o, h⟩
        · rw [h] at e
          cases e
        · rw [h] at e
          cases e
      · rw [if_neg q] at e
        cases e
    · rcases h with h | ⟨o, h⟩
      · exact .inl (by show (if a = a then H a else none) = _; rw [if_pos rfl]; exact h)
      · exact .inr ⟨o, by show (if a = a then H a else none) = _; rw [if_pos rfl]; exact h⟩
  · exact ⟨fun _ => none, (fun _ _ e => nomatch e), (fun _ _ e => nomatch e), .inr h⟩
end Mir

namespace Mir
open PySem PySem.Spec PyProof.Rows L2
set_option linter.all false
/-! ### try with several clauses, some with a name -/
/-- what a suite's end leaves of the clause's name -/
abbrev asEnds (i : Nat) (D : Ends) : Ends := { nx := fun σ' H' => D.nx (List.set σ' i none) H', rt := D.rt, bk := fun σ' H' => D.bk (List.set σ' i none) H', ct := fun σ' H' => D.ct (List.set σ' i none) H' }
abbrev HTab := List (Value × (Addr → Value → Option Addr → TS))
inductive HdsMix (X : Cx) : List ExceptHandler → HTab → Prop
  | nil : HdsMix X [] []
  | no {x : Str} {c : Value} {ts : Addr → Value → Option Addr → TS} {b₀ : Stmt} {suite : List Stmt} {np pos' : Pos} {hds : List ExceptHandler} {l : HTab} (hc : Names X x c)
      (hsu : ∀ (a : Addr) (oe : Obj) (cls : Value) (d : Option Addr) (pn : List (Addr × Obj)), Zc cls d oe → (∃ vs, oe.data = .fields vs) → PSs (X.suite a ((a, oe) :: pn)) (b₀ :: suite) (ts a cls d))
      (r : HdsMix X hds l) : HdsMix X (.ExceptHandler (some (.Name x np)) none (b₀ :: suite) pos' :: hds) ((c, ts) :: l)
  | as {x n : Str} {i : Nat} {c : Value} {ts : Addr → Value → Option Addr → TS} {b₀ : Stmt} {suite : List Stmt} {np pos' : Pos} {hds : List ExceptHandler} {l : HTab} (hi : X.N[i]? = some n) (hln : X.env.kindOf n = some .local) (hc : Names X x c)
      (hsu : ∀ (a : Addr) (oe : Obj) (cls : Value) (d : Option Addr) (pn : List (Addr × Obj)), Zc cls d oe → (∃ vs, oe.data = .fields vs) → PSs (X.suite a ((a, oe) :: pn)) (b₀ :: suite) (ts a cls d))
      (r : HdsMix X hds l) : HdsMix X (.ExceptHandler (some (.Name x np)) (some n) (b₀ :: suite) pos' :: hds) ((c, fun a cls d D σ H => ts a cls d (asEnds i D) (List.set σ i (some (.ref a))) H) :: l)
theorem ps_try_mix {X : Cx} {body : List Stmt} {h₀ : ExceptHandler} {hds : List ExceptHandler} {l : HTab} {pos : Pos} {tb : WX → TS} {Wout : WX} (hs : X.stack = X.env :: X.outer) (hf : X.env.frame = some X.env.locals) (hN : X.N.Nodup) (tk : Takes X Wout)
    (hb : ∀ (W : WX) (pn : List (Addr × Obj)) (xe : Value → Shared → Prop), Takes (X.tr pn xe) W → PassesOwn (model X.prog X.w) X.A X.env xe → PSs (X.tr pn xe) body (tb W)) (hh : HdsMix X (h₀ :: hds) l) :
    PS X (.Try body (h₀ :: hds) [] [] pos) fun D σ H => tb (wMany X.K Wout D l) D σ H := by
  refine ⟨fun pins s σ H D I h => ?_⟩
  have ok := I.ok
  have hfr : X.A.frames = some (X.env :: X.outer) := by rw [ok.frames, hs]
  refine wpAny_Try_except (wpAny_mono ((hb (wMany X.K Wout D l) (X.pn ++ pins) (fun e s₁ => wpAny (model X.prog X.w) X.A (noteFrame e X.env) (fun _ s₂ => wpAny (model X.prog X.w) X.A (setFlight e none) (fun _ s₃ => wpAny (model X.prog X.w) X.A (handleBy e X.env (h₀ :: hds)) (SP X pins D) X.xe s₃) X.xe s₂) X.xe s₁) ?tk PassesOwn.looking).run [] s σ H D (I.toTry _) h) ?nx fun _ _ z => z)
  case nx =>
    intro f s1 hsp
    cases f with
    | next =>
      obtain ⟨σ', H', J', q⟩ := hsp
      exact wpAny_execs_nil ⟨σ', H', J'.ofTry ok, q⟩
    | brk =>
      obtain ⟨σ', H', J', q⟩ := hsp
      exact ⟨σ', H', J'.ofTry ok, q⟩
    | cont =>
      obtain ⟨σ', H', J', q⟩ := hsp
      exact ⟨σ', H', J'.ofTry ok, q⟩
    | ret u =>
      obtain ⟨v, σ', H', J', r, q⟩ := hsp
      exact ⟨v, σ', H', J'.ofTry ok, r, q⟩
  case tk =>
    rintro u s' ⟨a, B, sI, pins', σ', H', cls, d, rfl, J', nb, up, sky, na, os, ag, w⟩
    have J := J'.ofTry ok
    have sky' : Sky B (X.env :: X.outer) a (Zc cls d) X.env.locals s'.heap := by rw [← hs]; exact sky
    refine Sky.land Zc.steady hfr hf sky' fun h3 fl3 up3 => ?_
    have J3 : L2.Inv X pins σ' H' ⟨h3, s'.gens, s'.drawn, s'.toks, s'.os⟩ := Inv.landed J nb fl3.1 (Heap.UpToSlots.trans up up3) os ag
    obtain ⟨oe3, vs3, he3, hz3, hd3⟩ := HandSPX.FlyingZ.there fl3
    have nfr : a ∉ (X.env :: X.outer).filterMap (fun x => x.frame) := fun hm => by
      obtain ⟨_, o', e', hnf⟩ := Heap.FunFrames.mem fl3.2.2.1 hm
      rw [he3] at e'
      cases e'
      exact hnf vs3 hd3
    have nL : a ≠ X.env.locals := fun z => nfr (List.mem_filterMap.mpr ⟨X.env, List.mem_cons_self, by rw [hf, z]⟩)
    have nF : a ∉ X.fs := fun hm => by
      obtain ⟨e, he, q⟩ := List.mem_filterMap.mp hm
      exact nfr (List.mem_filterMap.mpr ⟨e, List.mem_cons_of_mem _ he, q⟩)
    have S3 := Inv.suite J3 he3 hd3 na nL nF
    have LT : W.Looks (model X.prog X.w) h3 (typeOf (.ref a)) cls := fun A Q E s k q => wpAny_typeOf_ref (k a oe3 he3) (by rw [hz3.1]; exact q)
    have go : ∀ (hds' : List ExceptHandler) (l' : HTab), HdsMix X hds' l' → wMany X.K Wout D l' cls d σ' H' → wpAny (model X.prog X.w) X.A (handleBy (.ref a) X.env hds') (SP X pins D) X.xe ⟨h3, s'.gens, s'.drawn, s'.toks, s'.os⟩ := by
      intro hds' l' hk
      induction hk with
      | nil =>
        intro w
        obtain ⟨k1, k2, k3, oe, vs, T, oT, ts', he, hz, hd, h1, hr⟩ := id fl3
        refine wpAny_handleBy_nil (wpAny_bind (wpAny_field he hd h1 ?_))
        rw [if_neg (by simp)]
        refine wpAny_bind ?_
        rw [hf]
        refine HandSPX.setFlight_upZ fl3 fun h4 hh4 up4 => wpAny_throw (tk _ _ ⟨a, B, sI, pins, σ', H', cls, d, rfl, J, nb, Heap.UpToSlots.trans (Heap.UpToSlots.trans up up3) up4, .inr (.inr ?_), na, os, ag, w⟩)
        rw [hs]
        exact hh4
      | @no x c ts b₀ suite np pos' hds2 l2 hc hsu r ih =>
        rintro ⟨b, hb1, hyes, hno⟩
        refine wpAny_handleBy_cons (codeAny_handlers_test ?_) (fun z => by cases z)
        have LM := W.exm_one J3.kIn LT hb1
        have test : ∀ {Q : Value → Shared → Prop} {E : Value → Shared → Prop}, Q c ⟨h3, s'.gens, s'.drawn, s'.toks, s'.os⟩ → wpAny (model X.prog X.w) (X.A.mark (some (.ref a))) (eval (.Name x np) X.env) Q E ⟨h3, s'.gens, s'.drawn, s'.toks, s'.os⟩ := fun q => by
          obtain ⟨hg, hdbg, hm | ⟨hm, hv, hnn⟩⟩ := hc
          · exact ld_glob S3 hg hm q hdbg
          · exact ld_blt S3 hg hm hv q hnn hdbg
        refine test (W.Looks.here LM ?_)
        cases b with
        | false => exact ih (hno rfl)
        | true =>
          refine codeAny_handlers_suite (HandSPX.lands_againZ fl3 fun h4 fl4 up4 => ?_)
          have J4 : L2.Inv X pins σ' H' ⟨h4, s'.gens, s'.drawn, s'.toks, s'.os⟩ := Inv.landed J nb fl4.1 (Heap.UpToSlots.trans (Heap.UpToSlots.trans up up3) up4) os ag
          obtain ⟨oe4, vs4, he4, hz4, hd4⟩ := HandSPX.FlyingZ.there fl4
          have S4 := Inv.suite J4 he4 hd4 na nL nF
          refine wpAny_mono ((hsu a oe4 cls d (X.pn ++ pins) hz4 ⟨vs4, hd4⟩).run [] _ σ' H' D S4 (hyes rfl a na)) (fun f s6 hsp => ?_) fun _ _ z => z.elim
          cases f with
          | next =>
            obtain ⟨σ6, H6, S6, q6⟩ := hsp
            exact ⟨σ6, H6, Inv.unsuite S6 ok, q6⟩
          | brk =>
            obtain ⟨σ6, H6, S6, q6⟩ := hsp
            exact ⟨σ6, H6, Inv.unsuite S6 ok, q6⟩
          | cont =>
            obtain ⟨σ6, H6, S6, q6⟩ := hsp
            exact ⟨σ6, H6, Inv.unsuite S6 ok, q6⟩
          | ret u =>
            obtain ⟨v6, σ6, H6, S6, r6, q6⟩ := hsp
            exact ⟨v6, σ6, H6, Inv.unsuite S6 ok, r6, q6⟩
      | @as x n i c ts b₀ suite np pos' hds2 l2 hi hln hc hsu r ih =>
        rintro ⟨b, hb1, hyes, hno⟩
        refine wpAny_handleBy_cons (codeAny_handlers_test ?_) (fun z => by cases z)
        have LM := W.exm_one J3.kIn LT hb1
        have test : ∀ {Q : Value → Shared → Prop} {E : Value → Shared → Prop}, Q c ⟨h3, s'.gens, s'.drawn, s'.toks, s'.os⟩ → wpAny (model X.prog X.w) (X.A.mark (some (.ref a))) (eval (.Name x np) X.env) Q E ⟨h3, s'.gens, s'.drawn, s'.toks, s'.os⟩ := fun q => by
          obtain ⟨hg, hdbg, hm | ⟨hm, hv, hnn⟩⟩ := hc
          · exact ld_glob S3 hg hm q hdbg
          · exact ld_blt S3 hg hm hv q hnn hdbg
        refine test (W.Looks.here LM ?_)
        cases b with
        | false => exact ih (hno rfl)
        | true =>
          refine codeAny_handlers_suite_as (HandSPX.lands_againZ fl3 fun h4 fl4 up4 => ?_)
          have J4 : L2.Inv X pins σ' H' ⟨h4, s'.gens, s'.drawn, s'.toks, s'.os⟩ := Inv.landed J nb fl4.1 (Heap.UpToSlots.trans (Heap.UpToSlots.trans up up3) up4) os ag
          obtain ⟨oe4, vs4, he4, hz4, hd4⟩ := HandSPX.FlyingZ.there fl4
          have S4 := Inv.suite J4 he4 hd4 na nL nF
          refine store_ok (X := X.suite a ((a, oe4) :: (X.pn ++ pins))) (v := .ref a) S4 hN hi (.inl hln) rfl (fun s5 S5 => ?_) (.inr hln)
          refine wpAny_mono ((hsu a oe4 cls d (X.pn ++ pins) hz4 ⟨vs4, hd4⟩).run [] s5 (List.set σ' i (some (.ref a))) H' (asEnds i D) S5 (hyes rfl a na)) (fun f s6 hsp => ?_) fun _ _ z => z.elim
          cases f with
          | next =>
            obtain ⟨σ6, H6, S6, q6⟩ := hsp
            exact gone_ok (Inv.unsuite S6 ok) hN hi hln fun s7 J7 => ⟨_, H6, J7, q6⟩
          | brk =>
            obtain ⟨σ6, H6, S6, q6⟩ := hsp
            exact gone_ok (Inv.unsuite S6 ok) hN hi hln fun s7 J7 => ⟨_, H6, J7, q6⟩
          | cont =>
            obtain ⟨σ6, H6, S6, q6⟩ := hsp
            exact gone_ok (Inv.unsuite S6 ok) hN hi hln fun s7 J7 => ⟨_, H6, J7, q6⟩
          | ret u =>
            obtain ⟨v6, σ6, H6, S6, r6, q6⟩ := hsp
            exact gone_ok (Inv.unsuite S6 ok) hN hi hln fun s7 J7 => ⟨v6, _, H6, J7, r6, q6⟩
    exact go _ _ hh w
end Mir

namespace Mir
open PySem PySem.Spec PyProof.Rows L2
set_option linter.all false
/-! ### the first field of an exception, whatever built-in class it comes from -/
theorem store_first {prog : Program} {w : World} {A : Around} {R : Result → Shared → Prop} {hp : Heap} {g : Array GenState} {d : Drawn} {t : Nat} {os : OsState} {K : PySem.W.Frag} {name : Str} {tk : Tok} {v : Value} {x C : Addr} {fv : Array Value} {cd : ClassData}
    (X : K.In hp) (hx : hp.get? x = some { cls := .ref C, data := .fields fv }) (hcd : PySem.W.clsIn K C = some cd) (ne : cd.mro.isEmpty = false) (ob : cd.mro.contains (.type "object") = true) (ps : refuseLoop (.ref x) "__setattr__" cd.mro = pure ()) (hh : cd.hasDict = true)
    (ha : PySem.W.findIn K (.ref C) name = some none)
    (hq : ∀ (h' : Heap) (tk' dx : Nat), (∀ b o, b ≠ x → hp.get? b = some o → h'.get? b = some o) → hp.objs.size ≤ dx → dx ≠ x → h'.get? x = some { cls := .ref C, dict := some dx, data := .fields fv } → (h'.Ns1 dx fun y => if y = name then some v else none) → R (.ok (.ret .none)) ⟨h', g, d, tk', os⟩) :
    codeAny (model prog w) A (.call (.builtin "object.__setattr__") ⟨[.ref x, .str name tk, v], []⟩) R ⟨hp, g, d, t, os⟩ := by
  have I : PySem.W.InstAt hp x { cls := .ref C, data := .fields fv } C none := ⟨hx, rfl, rfl, trivial⟩
  have SF := PySem.F.store_object
  have hxs := Nat.ne_of_lt (Heap.lt_size hx)
  have hmi : PySem.W.mroIn K C (.type "object") = some true := by
    unfold PySem.W.mroIn
    rw [hcd, Option.bind_some, if_neg (by rw [ne]; decide), ob]
  have L1 : PySem.W.Looks (model prog w) hp (isSubtype (.ref C) (.type "object")) true := PySem.W.looks_mroIn X hmi
  have sub : PySem.W.Looks (model prog w) hp (PySem.isInstance (.ref x) (.type "object")) true := PySem.W.Looks.andThen I.type L1
  refine codeAny_call_builtin (b := PySem.Builtin.«object.__setattr__») SF.slot.plain SF.entry ?_
  refine PySem.W.check_slot (i := "object.__setattr__") (owner := "object") (n := "__setattr__") (self := .ref x) (rest := [.str name tk, v]) (kw := []) SF.kind SF.split sub (SF.args (.ref x) (.str name tk) v) ?_
  have hcls : PySem.W.Looks (model prog w) hp (classData C) cd := PySem.W.looks_clsIn X hcd
  have hmr : PySem.W.Looks (model prog w) hp (mroOf (.ref C)) cd.mro := PySem.W.Looks.andThen hcls PySem.W.Looks.now
  rw [PySem.W.osa_eq, refuse_eq]
  refine wpAny_bind (wpAny_bind (PySem.W.Looks.at I.type (wpAny_bind (PySem.W.Looks.at hmr ?_))))
  rw [ps]
  refine wpAny_pure (wpAny_bind (PySem.W.Looks.at I.type (wpAny_bind (PySem.W.Looks.at (PySem.W.looks_findIn X ha) (wpAny_bind (PySem.W.Looks.at (r := (none : Option Value)) PySem.W.Looks.now ?_))))))
  obtain ⟨nm, bs, mro, ns, qn, hd, sn, sb, ab, col, del⟩ := cd
  cases hh
  refine wpAny_bind (wpAny_pure (wpAny_ite_false rfl (wpAny_bind (wpAny_bind (wpAny_loadPart_at hx (wpAny_bind (PySem.W.Looks.at hcls (wpAny_ite_false rfl (wpAny_ite_false rfl (wpAny_bind (wpAny_alloc' (wpAny_bind (wpAny_update' (Heap.get?_push_of_some _ hx) (wpAny_pure (PySem.HandSPX.store_in_new ?_ fun h' tk' hn' hs => ?_)))))))))))))))
  · refine ⟨{ cls := .type "dict", data := .dict #[] }, #[], 0, ?_, rfl, ?_, fun _ => rfl⟩
    · rw [Heap.get?_update_ne _ _ _ _ (Ne.symm hxs)]
      exact Heap.get?_push_at rfl rfl
    · intro e he
      simp at he
  · have hx1 := Heap.get?_push_of_some { cls := .type "dict", data := .dict #[] } hx
    refine hq h' tk' hp.objs.size (fun b o hb ho => ?_) (Nat.le_refl _) (Ne.symm hxs) ?_ hn'
    · rw [hs.2 b (Nat.ne_of_lt (Heap.lt_size ho)), Heap.get?_update_ne _ _ _ _ hb]
      exact Heap.get?_push_of_some _ ho
    · rw [hs.2 x hxs]
      exact Heap.get?_update_self _ hx1 rfl
end Mir

namespace PySem
namespace OwnEx
open PySem.W PySem.Calls PyProof.Rows PySem.HandSPX
set_option linter.all false
/-! ### an exception class of the program with an __init__ that keeps its one argument, below any built-in error -/
def inArgs (f : Str) (p1 p2 : Pos) : Arguments :=
  ⟨[], [⟨"self", none, p1⟩, ⟨f, none, p2⟩], none, [], [], none, []⟩
def inBody (f : Str) (q1 q2 q3 q4 : Pos) : List Stmt :=
  [Stmt.Assign [Expr.Attribute (Expr.Name "self" q1) f q2] (Expr.Name f q3) q4]
def inScope (f : Str) : Scope :=
  { kind := ScopeKind.function, names := [("self", NameKind.local), (f, NameKind.local)], isGenerator := false, isCoroutine := false, more := [] }
structure OwnX (K : Frag) (C fI : Addr) (f : Str) (B newId initId : String) (bmB : List Value) : Prop where
  fx : ExcBaseFacts B newId initId bmB
  cls : ∃ nm q N bs sn sub ab col dd k0 k1 k2 k3 k5, K.lookup C = some (excClassObj nm q C N bs bmB true sn sub ab col dd k0 k1 k2 k3 k5 newId)
  ob : bmB.contains (.type "object") = true
  ps : ∀ x : Value, refuseLoop x "__setattr__" bmB = pure ()
  sa : findIn K (.ref C) "__setattr__" = some (some (.builtin "object.__setattr__"))
  no : findIn K (.ref C) f = some none
  iC : findIn K (.ref C) "__init__" = some (some (.ref fI))
  tI : typeIn K (.ref fI) = some (.type "function")
  kC : keepIn K (.ref C) = true
  exC : subIn K (.ref C) (.type "BaseException") = some true
  tyC : typeIn K (.ref C) = some (.type "type")
  fn : ∃ (oc : Value) (od : Option Addr) (doc pm : Value) (an : Option Addr) (cdv ct : Value) (osl : Array (Option Value)) (qn : Str) (p1 p2 q1 q2 q3 q4 : Pos),
    K.lookup fI = some ⟨oc, od, .func (fnOf "__init__" qn (inArgs f p1 p2) (inBody f q1 q2 q3 q4) (inScope f) .none .none doc pm an cdv ct), osl⟩ ∧ codeIn K cdv qn = true
/-- what is computed of a field's written name -/
structure FldOk (f : Str) : Prop where
  b : ∀ (qn : Str) (p1 p2 q1 q2 q3 q4 : Pos) (doc pm : Value) (an : Option Addr) (cdv ct x v : Value), bindArgs (fnOf "__init__" qn (inArgs f p1 p2) (inBody f q1 q2 q3 q4) (inScope f) .none .none doc pm an cdv ct) ⟨[x, v], []⟩ = pure [(("self" : Str), x), (f, v)]
  n : ∀ x v : Value, ([(("self" : Str), x), (f, v)].all fun y => List.lookup y.1 (inScope f).names == some NameKind.local || List.lookup y.1 (inScope f).names == some NameKind.cell) = true
  k1 : ∀ x v : Value, bindL (fun y => List.lookup y (inScope f).names) [(("self" : Str), x), (f, v)] (fun _ => none) f = some v
  k2 : ∀ x v : Value, bindL (fun y => List.lookup y (inScope f).names) [(("self" : Str), x), (f, v)] (fun _ => none) "self" = some x
  l1 : List.lookup ("self" : Str) (inScope f).names = some NameKind.local
  l2 : List.lookup f (inScope f).names = some NameKind.local
  d : (f == ("__debug__" : Str)) = false
theorem fld_given : FldOk "given" := ⟨fun _ _ _ _ _ _ _ _ _ _ _ _ _ _ => rfl, fun _ _ => rfl, fun _ _ => rfl, fun _ _ => rfl, rfl, rfl, rfl⟩
theorem fld_most : FldOk "most" := ⟨fun _ _ _ _ _ _ _ _ _ _ _ _ _ _ => rfl, fun _ _ => rfl, fun _ _ => rfl, fun _ _ => rfl, rfl, rfl, rfl⟩
/-- the made one's only field -/
abbrev oneF (f : Str) (v : Value) : Str → Option Value := fun y => if y = f then some v else none
section
variable {prog : Program} {w : World} {A : Around} {R : Result → Shared → Prop} {s : Shared} {K : Frag} {C fI : Addr} {f : Str} {B newId initId : String} {bmB : List Value}
theorem get_local {M : Model} {name : Str} {scope : Scope} {L a : Addr} {cd : Value} {m : Str → Option Value} {x : Str} {pos : Pos} {v : Value} {Q E : Value → Shared → Prop} (hn : s.heap.Ns L m) (hv : m x = some v) (h : Q v s) (hk : scope.kind = .function) (hl : (envOfC name scope L a cd).kindOf x = some .local)
    (hd : (x == ("__debug__" : Str)) = false) : wpAny M A (eval (.Name x pos) (envOfC name scope L a cd)) Q E s :=
  wpAny_Name (wpAny_loadName_local hk hl hn hv h) hd
theorem init_runs (T : OwnX K C fI f B newId initId bmB) (G : FldOk f) {x t0 : Addr} {v : Value} (X : K.In s.heap) (hlim : s.heap.NoLimit) (hx : s.heap.get? x = some (excO C t0)) (hroom : A.depth < recursionLimit)
    (hq : ∀ (h' : Heap) (tk dx : Nat), (∀ b o, b ≠ x → s.heap.get? b = some o → h'.get? b = some o) → h'.get? x = some { cls := .ref C, dict := some dx, data := .fields #[.ref t0, .none, .none, .none, .bool false, .none] } → s.heap.objs.size ≤ dx → dx ≠ x → h'.Ns1 dx (oneF f v) → R (.ok (.ret .none)) { s with heap := h', toks := tk }) :
    codeAny (model prog w) A (.call (.ref fI) ⟨[.ref x, v], []⟩) R s := by
  obtain ⟨oc, od, doc, pm, an, cdv, ct, osl, qn, p1, p2, q1, q2, q3, q4, ho, hcd⟩ := T.fn
  obtain ⟨nm, q, N, bs, sn, sub, ab, col, dd, k0, k1, k2, k3, k5, hC⟩ := T.cls
  have hcl : clsIn K C = some { name := nm, bases := bs, mro := .ref C :: bmB, ns := N, qualname := q, hasDict := true, slotNames := sn, subclasses := sub, abstract := ab, collection := col, hasDel := false } := by
    unfold clsIn
    rw [hC] <;> rfl
  refine Att.call_fn (binds := [("self", .ref x), (f, v)]) X hlim ho hcd hroom (BindsTo.of_eq (G.b _ _ _ _ _ _ _ _ _ _ _ _ _ _)) (G.n _ _) (fun s₁ IC => ?_) rfl rfl rfl
  obtain ⟨h₁, tk₁, rfl⟩ := IC.toInCall.same
  have k : ∀ b o, s.heap.get? b = some o → h₁.get? b = some o := IC.toInCall.keep
  have hn := IC.toInCall.ns
  have hxL : s.heap.objs.size ≠ x := Nat.ne_of_gt (Heap.lt_size hx)
  have X₁ : K.In h₁ := X.keeps k
  have hx₁ := k _ _ hx
  show wpAny _ _ (execs _ _) _ _ _
  refine wpAny_execs_cons (plainObj_wpAny_Assign_Attribute ?_)
  refine get_local (v := v) hn (G.k1 (.ref x) v) (get_local (v := .ref x) hn (G.k2 (.ref x) v) ?_ rfl G.l1 rfl) rfl G.l2 G.d
  refine set_plain X₁ (ox := excO C t0) (od := none) ⟨hx₁, rfl, rfl, trivial⟩ T.sa ?_
  refine Mir.store_first X₁ hx₁ hcl rfl (by rw [List.contains_cons, T.ob, Bool.or_true]) (by rw [refuseLoop_ref]; exact T.ps _) rfl T.no fun h₃ tk₃ dx k₃ dn dne hx₃ hn₃ => ?_
  show wpAny _ _ (execs _ _) _ _ _
  have z : s.heap.objs.size < h₁.objs.size := hn.lt
  exact wpAny_execs_nil (hq h₃ tk₃ dx (fun b o hb e => k₃ b o hb (k b o e)) hx₃ (Nat.le_of_lt (Nat.lt_of_lt_of_le z dn)) dne hn₃)
theorem exc_made (T : OwnX K C fI f B newId initId bmB) (G : FldOk f) {v : Value} (X : K.In s.heap) (hlim : s.heap.NoLimit) (hroom : A.depth + 1 < recursionLimit)
    (hq : ∀ (h' : Heap) (tk e d : Nat), (∀ b o, s.heap.get? b = some o → h'.get? b = some o) → s.heap.objs.size ≤ e → (∃ oe vs, h'.get? e = some oe ∧ oe.cls = .ref C ∧ oe.dict = some d ∧ oe.data = .fields vs ∧ vs[1]? = some .none) → s.heap.objs.size ≤ d → d ≠ e → h'.Ns1 d (oneF f v) → R (.ok (.ret (.ref e))) { s with heap := h', toks := tk }) :
    codeAny (model prog w) A (.call (.ref C) ⟨[v], []⟩) R s := by
  obtain ⟨nm, q, N, bs, sn, sub, ab, col, dd, k0, k1, k2, k3, k5, hC⟩ := T.cls
  obtain ⟨hp, g, dr, tk, os⟩ := s
  have kp : ∀ b o, hp.get? b = some o → ((hp.push (kdv_tup [v])).push (excO C hp.objs.size)).get? b = some o := by
    intro b o e
    exact Heap.get?_push_of_some _ (Heap.get?_push_of_some _ e)
  have at_ : ((hp.push (kdv_tup [v])).push (excO C hp.objs.size)).get? (hp.objs.size + 1) = some (excO C hp.objs.size) := Heap.get?_push_at (by rw [Heap.size_push]) rfl
  have one : [v].length ≤ sizeLine := by
    rw [sizeLine_eq]
    exact (by decide : 1 ≤ 16777216)
  refine call_own T.fx (fun _ => rfl) (X _ _ hC) (looks_findIn X T.iC) (fun self => bind_fn X self T.tI) one ?_
  refine init_runs (s := ⟨(hp.push (kdv_tup [v])).push (excO C hp.objs.size), g, dr, tk, os⟩) T G (X.keeps kp) (hlim.keeps kp) at_ hroom fun h' tk' dx kk hx db dn hns => ?_
  have db' : hp.objs.size + 1 + 1 ≤ dx := by
    have q := db
    rw [Heap.size_push, Heap.size_push] at q
    exact q
  refine ⟨rfl, hq h' tk' (hp.objs.size + 1) dx (fun b o e => kk b o (Nat.ne_of_lt (Nat.lt_succ_of_lt (Heap.lt_size e))) (kp b o e)) (Nat.le_succ _) ⟨_, _, hx, rfl, rfl, rfl, rfl⟩ ?_ dn hns⟩
  exact Nat.le_of_succ_le (Nat.le_of_succ_le db')
end
end OwnEx
end PySem
namespace Mir
open PySem PySem.Spec PyProof.Rows L2 PySem.OwnEx
theorem relO_one {f : Str} {v : V} {u : Value} (r : RelV v u) (y : Str) : RelO (List.lookup y [(f, v)]) (oneF f u y) := by
  show RelO _ (if y = f then some u else none)
  by_cases e : y = f
  · have q : List.lookup y [(f, v)] = some v := by
      rw [List.lookup_cons, e, beq_self_eq_true]
    rw [if_pos e, q]
    exact r
  · have q : List.lookup y [(f, v)] = none := by
      rw [List.lookup_cons, beq_eq_false_iff_ne.mpr e]
      rfl
    rw [if_neg e, q]
    trivial
section
variable {X : Cx} {C fI : Addr} {f : Str} {B newId initId : String} {bmB : List Value}
def tMkF (C : Addr) (f : Str) (ta : TA) : L2.St → Hp → XK → Prop := fun σ H Q => ta σ H fun vs H1 => ∃ v, vs = [v] ∧ ∀ d, H1 d = none → Q (.ref C) (some d) (upd H1 d (.xd [(f, v)]))
theorem pmk_field {cn : Str} {a : Expr} {ta : TA} {p pos : Pos} {k : Nat} (T : OwnX X.K C fI f B newId initId bmB) (G : FldOk f) (hm : X.mg cn = some (.ref C)) (hr : Room k X.A) (ha : PA X [a] ta) (hg : Gl X cn) (hdb : (cn == ("__debug__" : Str)) = false := by decide)
    (he : starEach (a :: []) X.env = (false, eval a X.env) :: starEach [] X.env := by rfl) (hpl : (backTo pos (starEach [] X.env)).any (·.1) = false := by rfl) : PMk X (.Call (.Name cn p) [a] [] pos) (tMkF C f ta) := by
  intro pins s σ H Q I h
  refine wpAny_Call_Name_kw (ld_glob I hg hm ?_ hdb)
  refine PySem.W.callWith_K (h₀ := X.base) I.ok.mod.kin T.kC (thn (ha.run pos pins s σ H _ I h) fun us s1 x => ?_) he hpl
  obtain ⟨vs, H1, I1, r1, v, rfl, q1⟩ := x
  refine ⟨I1.kIn, ?_⟩
  cases r1 with
  | @cons _ v' _ us' rv rn =>
  cases rn
  show wpAny _ _ (call (.ref C) [v']) _ _ _
  have lim := I1.nolimit
  obtain ⟨hp, g, dr, tk, os⟩ := s1
  refine wpAny_call (exc_made T G I1.kIn lim (by have := hr.dp; omega) fun h' tk' e d kp new obj db dn hns => ?_)
  show MkP X pins σ Q (.ref e) ⟨h', g, dr, tk', os⟩
  obtain ⟨oe, fv, hoe, hc, hd, hdat, h1⟩ := obj
  obtain ⟨G', g1, g2⟩ := restrict h' fun b => decide (b ≠ e)
  have off : ∀ b, b ≠ e → G'.get? b = h'.get? b := fun b hb => g1 b (decide_eq_true hb)
  have gone : G'.get? e = none := g2 e (by simp)
  have same : ∀ b o, hp.get? b = some o → G'.get? b = some o := fun b o q => by
    rw [off b (Nat.ne_of_lt (Nat.lt_of_lt_of_le (Heap.lt_size q) new))]
    exact kp b o q
  have fine : ObjOk X.prog X.w (upd H1 d (.xd [(f, v)])) G' d (.xd [(f, v)]) := ⟨_, hns.at (fun o q => by rw [off d dn]; exact q), relO_one rv⟩
  have J := I1.laid (t' := tk') same db fine
  refine ⟨e, oe, fv, ⟨G', g, dr, tk', os⟩, _, .ref C, some d, rfl, J, fun b o q => ?_, gone, hoe, ⟨hc, hd⟩, hdat, h1, ?_, rfl, I1.bare, raises_own T.exC T.tyC, q1 d (I1.hok.fresh db)⟩
  · have q' : G'.get? b = some o := q
    by_cases hb : b = e
    · rw [hb, gone] at q'
      cases q'
    · rw [← off b hb]
      exact q'
  · rw [upd_ne (Ne.symm dn)]
    exact I1.hok.fresh new
end
end Mir

namespace PySem.OwnEx
open PySem
theorem ps_index (x : Value) : refuseLoop x "__setattr__" [.type "IndexError", .type "LookupError", .type "Exception", .type "BaseException", .type "object"] = pure () := by rfl
theorem ps_over (x : Value) : refuseLoop x "__setattr__" [.type "OverflowError", .type "ArithmeticError", .type "Exception", .type "BaseException", .type "object"] = pure () := by rfl
end PySem.OwnEx
namespace Mir
open PySem PySem.Spec PyProof.Rows L2 PySem.OwnEx
variable [Tb]
/-! ### functions that raise -/
/-- which class stands under which name, and the field that it keeps -/
abbrev CTab := String → Option (Addr × Option Str)
def keeps (K : PySem.W.Frag) (Hi : Hp) (d : Option Addr) : Option Str → Option PyData → Prop
  | none, none => d = none
  | some f, some y => ∃ dd v, d = some dd ∧ Hi dd = some (.xd [(f, v)]) ∧ Dq K Hi y v
  | _, _ => False
def XRT (K : PySem.W.Frag) (ct : CTab) : XRel := fun x Hi cls d => ∃ C fo, ct x.cls = some (C, fo) ∧ cls = .ref C ∧ keeps K Hi d fo x.arg
abbrev eW (E : XK) : WX := fun cls d _ H => E cls d H
def mRaise0 (c : String) (fe : ME) : MS := fun ρ s => toFl (fe ρ s) fun _ s => .exc ⟨c, none⟩ s
def mRaiseF (c : String) (fe : ME) : MS := fun ρ s => toFl (fe ρ s) fun y s => .exc ⟨c, some y⟩ s
section
variable {X : Cx} {E : XK} {ct : CTab} {a : Expr} {fa : ME} {pos p pos2 : Pos} {C fI : Addr} {f : Str} {B newId initId : String} {bmB : List Value} {cn : Str} {ci : String} {k : Nat}
theorem ss_raise0 (hc : X.calm = true) (tk : Takes X (eW E)) (F : ExcBaseFacts B newId initId bmB) (q : PySem.W.excIn X.K C bmB newId = true) (gC : X.mg cn = some (.ref C)) (kC : PySem.W.keepIn X.K (.ref C) = true) (r : Raises X (.ref C)) (hg : Gl X cn)
    (hct : ct ci = some (C, none)) (ha : SE X (XRT X.K ct) E a fa) (hdb : (cn == ("__debug__" : Str)) = false := by decide)
    (he : starEach (a :: []) X.env = (false, eval a X.env) :: starEach [] X.env := by rfl) (hpl : (backTo pos (starEach [] X.env)).any (·.1) = false := by rfl) :
    SS X (XRT X.K ct) E (.Raise (some (.Call (.Name cn p) [a] [] pos)) none pos2) (mRaise0 ci fa) := by
  obtain ⟨t, pa, qa⟩ := ha
  refine ⟨_, ps_raise hc tk (SkE.pmk_own1 F q gC kC r hg pa he hdb), fun A Hi ρ s σ H rr re D h => qa A Hi ρ s σ H rr re _ (PF.bind h fun x s1 v Hi1 H1 _ e1 r1 d h1 => ?_)⟩
  exact h1 _ _ A Hi1 H1 .refl r1 ⟨C, none, hct, rfl, rfl⟩
theorem ss_raiseF (hc : X.calm = true) (tk : Takes X (eW E)) (T : OwnX X.K C fI f B newId initId bmB) (G : FldOk f) (gC : X.mg cn = some (.ref C)) (hr : Room k X.A) (hg : Gl X cn) (hct : ct ci = some (C, some f)) (ha : SE X (XRT X.K ct) E a fa) (hdb : (cn == ("__debug__" : Str)) = false := by decide)
    (he : starEach (a :: []) X.env = (false, eval a X.env) :: starEach [] X.env := by rfl) (hpl : (backTo pos (starEach [] X.env)).any (·.1) = false := by rfl) :
    SS X (XRT X.K ct) E (.Raise (some (.Call (.Name cn p) [a] [] pos)) none pos2) (mRaiseF ci fa) := by
  obtain ⟨t, pa, qa⟩ := ha
  refine ⟨_, ps_raise hc tk (pmk_field T G gC hr (pa_cons pa pa_nil he) hg hdb he hpl), fun A Hi ρ s σ H rr re D h => qa A Hi ρ s σ H rr re _ (PF.bind h fun x s1 v Hi1 H1 _ e1 r1 d h1 => ?_)⟩
  refine ⟨v, rfl, fun dx hn => ?_⟩
  exact h1 _ _ A (upd Hi1 dx (.xd [(f, v)])) (upd H1 dx (.xd [(f, v)])) (Ext.fresh hn (r1.fresh hn)).s (r1.new hn) ⟨C, some f, hct, rfl, dx, v, rfl, upd_same, Dq.mono (same_upd (r1.fresh hn)) _ _ d⟩
end
/-! ### calls -/
theorem PO.noX {α β : Type} {K : PySem.W.Frag} {A : List Addr} {Hi H : Hp} {XR XR' : XRel} {E E' : XK} {R : Hp → Hp → α → β → Prop} {Q : β → Hp → Prop} {o : Out α} (hx : ∀ x H c d, ¬ XR' x H c d) (h : PO K A Hi H XR E R Q o) : PO K A Hi H XR' E' R Q o := by
  cases o with
  | ok x s => exact h
  | exc x s => exact fun c d H1 H2 _ _ q => (hx _ _ _ _ q).elim
  | bad => exact h
section
variable {X : Cx} {XR XR' : XRel} {E : XK} {k n : Nat} {f : Addr} {fd : FuncData} {ps : List Str} {F : MF} {Fc : MFc} {e : Expr} {es : List Expr} {ma : MA} {x : Str} {p pos : Pos}
/-- a def that never raises, called where something may raise -/
theorem se_callQ (hx : ∀ x H c d, ¬ XR' x H c d) (G : FnOk X.prog X.w X.K X.mg X.base CX0 k f fd ps (spM X.K XR' n F)) (hr : Room k X.A) (hg : Gl X x) (hm : X.mg x = some (.ref f)) (hk : PySem.W.keepIn X.K (.ref f) = true) (hb : Binds X.K fd ps [])
    (ha : SA X XR E (e :: es) ma) (hdb : (x == ("__debug__" : Str)) = false := by decide) (he : starEach (e :: es) X.env = (false, eval e X.env) :: starEach es X.env := by rfl) (hpl : (backTo pos (starEach es X.env)).any (·.1) = false := by rfl) :
    SE X XR E (.Call (.Name x p) (e :: es) [] pos) (eCall n F ma) := by
  obtain ⟨t, pa, qa⟩ := ha
  refine ⟨_, pe_call (E := E0) G hr hg hm hk hb .nil pass0 pa hdb he hpl, fun A Hi ρ s σ H r re Q h => qa A Hi ρ s σ H r re _ (PO.bind h fun as s1 vs Hi1 H1 _ e1 r1 d h1 => ?_)⟩
  rw [List.append_nil]
  split at h1
  · rename_i hn
    exact ⟨A, Hi1, as, s1, hn, r1, d, PO.noX hx h1⟩
  · exact h1.elim
theorem sc_callQ (hx : ∀ x H c d, ¬ XR' x H c d) (G : FnOk X.prog X.w X.K X.mg X.base CX0 k f fd ps (spC X.K XR' n Fc)) (hr : Room k X.A) (hg : Gl X x) (hm : X.mg x = some (.ref f)) (hk : PySem.W.keepIn X.K (.ref f) = true) (hb : Binds X.K fd ps [])
    (ha : SA X XR E (e :: es) ma) (hdb : (x == ("__debug__" : Str)) = false := by decide) (he : starEach (e :: es) X.env = (false, eval e X.env) :: starEach es X.env := by rfl) (hpl : (backTo pos (starEach es X.env)).any (·.1) = false := by rfl) :
    SC X XR E (.Call (.Name x p) (e :: es) [] pos) (cCall n Fc ma) := by
  obtain ⟨t, pa, qa⟩ := ha
  refine ⟨_, pe_call (E := E0) G hr hg hm hk hb .nil pass0 pa hdb he hpl, fun A Hi ρ s σ H r re Q h => qa A Hi ρ s σ H r re _ (PO.bind h fun as s1 vs Hi1 H1 _ e1 r1 d h1 => ?_)⟩
  rw [List.append_nil]
  split at h1
  · rename_i hn
    refine ⟨A, Hi1, as, s1, hn, r1, d, PO.noX (E := E) (XR := XR) hx ?_⟩
    revert h1
    cases Fc as s1 with
    | ok y s2 => exact fun h1 v Hi2 H2 e2 r2 ⟨q, xs, a1, a2, a3, a4, a5, a6⟩ => h1 v Hi2 H2 e2 r2 ⟨q, xs, a1, a2, a3, e1.there _ a4, a5, a6⟩
    | exc y s2 => exact fun h1 => h1
    | bad => exact fun h1 => h1
  · exact h1.elim
/-- a def that may raise -/
theorem se_callX (tk : Takes X (eW E)) (G : FnOk X.prog X.w X.K X.mg X.base (L2.CX X.prog X.w) k f fd ps (spM X.K XR n F)) (hr : Room k X.A) (hg : Gl X x) (hm : X.mg x = some (.ref f)) (hk : PySem.W.keepIn X.K (.ref f) = true) (hb : Binds X.K fd ps [])
    (ha : SA X XR E (e :: es) ma) (hdb : (x == ("__debug__" : Str)) = false := by decide) (he : starEach (e :: es) X.env = (false, eval e X.env) :: starEach es X.env := by rfl) (hpl : (backTo pos (starEach es X.env)).any (·.1) = false := by rfl) :
    SE X XR E (.Call (.Name x p) (e :: es) [] pos) (eCall n F ma) := by
  obtain ⟨t, pa, qa⟩ := ha
  refine ⟨_, pe_callS (E := fun _ => E) G hr hg hm hk hb (fun σ => passAt (W := eW E) tk σ) pa hdb he hpl, fun A Hi ρ s σ H r re Q h => qa A Hi ρ s σ H r re _ (PO.bind h fun as s1 vs Hi1 H1 _ e1 r1 d h1 => ?_)⟩
  split at h1
  · rename_i hn
    exact ⟨A, Hi1, as, s1, hn, r1, d, h1⟩
  · exact h1.elim
end
/-- a def that may raise, called where it does not -/
def eCallN (n : Nat) (F : MF) (fa : MA) : ME := fun ρ s => (fa ρ s).bind fun as s => if as.length = n then (match F as s with
  | .ok y s' => .ok y s'
  | _ => .bad) else .bad
theorem se_callN {X : Cx} {XR XR' : XRel} {E : XK} {k n : Nat} {f : Addr} {fd : FuncData} {ps : List Str} {F : MF} {e : Expr} {es : List Expr} {ma : MA} {x : Str} {p pos : Pos}
    (G : FnOk X.prog X.w X.K X.mg X.base (L2.CX X.prog X.w) k f fd ps (spM X.K XR' n F)) (hr : Room k X.A) (hg : Gl X x) (hm : X.mg x = some (.ref f)) (hk : PySem.W.keepIn X.K (.ref f) = true) (hb : Binds X.K fd ps [])
    (ha : SA X XR E (e :: es) ma) (hdb : (x == ("__debug__" : Str)) = false := by decide) (he : starEach (e :: es) X.env = (false, eval e X.env) :: starEach es X.env := by rfl) (hpl : (backTo pos (starEach es X.env)).any (·.1) = false := by rfl) :
    SE X XR E (.Call (.Name x p) (e :: es) [] pos) (eCallN n F ma) := by
  obtain ⟨t, pa, qa⟩ := ha
  refine ⟨_, pe_callS (E := fun _ => E0) G hr hg hm hk hb (fun σ pins H s e' s' _ z => ?_) pa hdb he hpl, fun A Hi ρ s σ H r re Q h => qa A Hi ρ s σ H r re _ (PO.bind h fun as s1 vs Hi1 H1 _ e1 r1 d h1 => ?_)⟩
  · obtain ⟨_, _, _, _, _, _, _, _, _, _, _, _, w⟩ := z
    exact w.elim
  · split at h1
    · rename_i hn
      refine ⟨A, Hi1, as, s1, hn, r1, d, ?_⟩
      cases q : F as s1 with
      | ok y s2 =>
        rw [q] at h1
        exact h1
      | exc y s2 =>
        rw [q] at h1
        exact h1.elim
      | bad =>
        rw [q] at h1
        exact h1.elim
    · exact h1.elim
/-! ### defs that raise -/
section
variable {P : Program} {w : World} {K : PySem.W.Frag} {mg : Str → Option Value} {base : Heap}
theorem fn_mirX {XR : XRel} {x qual : Str} {st : Stmt} {f : Addr} {fd : FuncData} {N ps : List Str} {k : Nat} {g : MS} (F : Fun K x qual st f fd) (S : FnScope N ps (defScope st))
    (hb : ∀ (cdv : Value) (A : Around) (outer : List PySem.Env) (s : Shared) (H : Hp) (E : XK), Room k (A.deeper (envOfC qual (defScope st) s.heap.objs.size f cdv)) → Takes (cxOf (L2.CX P w) P w K mg base N qual (defScope st) f cdv A outer s H E) (eW E) →
      SB (cxOf (L2.CX P w) P w K mg base N qual (defScope st) f cdv A outer s H E) XR E (defBody st) g) :
    FnOk P w K mg base (L2.CX P w) (k + 1) f fd ps (spM K XR ps.length (mkF N.length g)) := by
  refine F.okX S (fun vs H Q E h => ?_) (fun cdv A outer s H vs Q E hr h => ?_)
  · obtain ⟨_, _, as, _, h1, _, h2, _⟩ := h
    rw [h2.length, h1]
  · obtain ⟨A', Hi, as, s', _, r, rl, h⟩ := h
    obtain ⟨t, p, q⟩ := hb cdv A outer s H E hr (takes_of rfl rfl rfl rfl)
    exact ⟨t, p, q A' Hi (env0 N.length as) s' _ H r (re_start rl) _ (fin_ok r h)⟩
end
end Mir

namespace Mir
open PySem PySem.Spec PyProof.Rows L2
set_option linter.all false
/-! ### defs that are called where no repr is under way -/
structure FnG (P : Program) (w : World) (K : PySem.W.Frag) (mg : Str → Option Value) (base : Heap) (CX : CXT) (k : Nat) (f : Addr) (fd : FuncData) (ps : List Str) (sp : Sp) : Prop where
  len : ∀ vs H Q E, sp vs H Q E → vs.length = ps.length
  run : ∀ (A : Around) (outer : List PySem.Env) (s : Shared) (H : Hp) (args : Args) (us : List Value) (vs : List V) (Q : VK) (E : XK), Room k A → A.guards = some [] → Env0 P w K mg base A outer s H → BindsTo s fd args (ps.zip us) → Vals vs us → sp vs H Q E →
    codeAny (model P w) A (.call (.ref f) args) (CR CX outer P w H s Q E) s
section
variable {P : Program} {w : World} {K : PySem.W.Frag} {mg : Str → Option Value} {base : Heap} {CX : CXT} {k : Nat} {f : Addr} {fd : FuncData} {ps N : List Str} {sp : Sp}
theorem FnG.of (G : FnOk P w K mg base CX k f fd ps sp) : FnG P w K mg base CX k f fd ps sp := ⟨G.len, fun A outer s H args us vs Q E hr _ => G.run A outer s H args us vs Q E hr⟩
theorem deeper_guards (A : Around) (e : PySem.Env) : (A.deeper e).guards = A.guards := rfl
theorem fnG_of {name qual : Str} {params : Arguments} {body : List Stmt} {scope : Scope} {dV kV doc pm cdv ct oc : Value} {an od : Option Addr} {osl : Array (Option Value)}
    (lk : K.lookup f = some ⟨oc, od, .func (PySem.W.fnOf name qual params body scope dV kV doc pm an cdv ct), osl⟩) (hcd : PySem.W.codeIn K cdv qual = true) (S : FnScope N ps scope) (len : ∀ vs H Q E, sp vs H Q E → vs.length = ps.length)
    (hbody : ∀ (A : Around) (outer : List PySem.Env) (s : Shared) (H : Hp) (vs : List V) (Q : VK) (E : XK), A.guards = some [] → Room k (A.deeper (envOfC qual scope s.heap.objs.size f cdv)) → sp vs H Q E →
      ∃ t, PSs (cxOf CX P w K mg base N qual scope f cdv A outer s H E) body t ∧ t { nx := fun _ H' => Q .non H', rt := Q } (L2.start N vs) H) :
    FnG P w K mg base CX (k + 1) f (PySem.W.fnOf name qual params body scope dV kV doc pm an cdv ct) ps sp := by
  refine ⟨len, fun A outer s H args us vs Q E hr hgd e0 hb r hsp => ?_⟩
  have hl := len vs H Q E hsp
  have KX : K.In s.heap := PySem.W.Frag.In.keeps e0.mod.kin fun b o e => (e0.bs b o e).1
  have lim := Heap.NoLimit.keeps e0.mod.nolimit fun b o e => (e0.bs b o e).1
  refine codeAny_call_function hr.depth (KX f _ lk) rfl S.co S.gen rfl (PySem.W.codeRec_of KX hcd) (hb _ _ _ _ (wpAny_newFunctionEnv_cells S.kind ?_ ?_))
  · rintro ⟨n, v⟩ hy
    rcases S.par n (List.of_mem_zip hy).1 with q | q
    · exact .inl q
    · exact .inr ⟨q, PySem.W.cellsFrom_some scope.names (s.heap.objs.size + 1) [] (.inl q)⟩
  · intro env he s1 x
    subst he
    refine ⟨Heap.NoLimit.keeps lim x.toInCall.keep, codeAny_func ?_⟩
    obtain ⟨t, ht, hq⟩ := hbody A outer s H vs Q E hgd (hr.deeper (envOfC qual scope s.heap.objs.size f cdv)) hsp
    have I := inv_start (CX := CX) (E := E) S hr.hd e0 hl r x
    refine wpAny_mono (ht.run [] s1 (L2.start N vs) H _ I hq) (fun fl s' hs => ?_) fun e s' hs => hs
    cases fl with
    | next =>
      obtain ⟨σ', H', J, q⟩ := hs
      exact ⟨.non, H', J.os, J.bare, J.base, J.hok, rfl, q⟩
    | brk =>
      obtain ⟨_, _, _, q⟩ := hs
      exact q.elim
    | cont =>
      obtain ⟨_, _, _, q⟩ := hs
      exact q.elim
    | ret u =>
      obtain ⟨v, σ', H', J, rv, q⟩ := hs
      exact ⟨v, H', J.os, J.bare, J.base, J.hok, rv, q⟩
end
section
variable {X : Cx} {CX : CXT} {k : Nat} {f : Addr} {fd : FuncData} {ps : List Str} {sp : Sp} {E : L2.St → XK}
theorem run_fnG {pins : List (Addr × Obj)} {σ : L2.St} {H : Hp} {s : Shared} {Q : VK} {us : List Value} {vs : List V} (F : FnG X.prog X.w X.K X.mg X.base CX k f fd ps sp) (hgd : X.A.guards = some []) (hr : Room k X.A) (hb : Binds X.K fd ps []) (hx : PassesAt CX X σ (E σ))
    (I : L2.Inv X pins σ H s) (r : Vals vs us) (h : sp vs H Q (E σ)) : wpAny (model X.prog X.w) X.A (call (.ref f) us) (EP X pins σ Q) X.xe s := by
  have hl : us.length = ps.length := by rw [← Vals.length r]; exact F.len vs H Q (E σ) h
  have b := hb s us I.kIn (by rw [List.append_nil]; exact hl)
  rw [List.append_nil] at b
  refine wpAny_call (codeAny_mono (F.run X.A X.stack s H ⟨us, []⟩ us vs Q (E σ) hr hgd I.env0 b r h) fun r s' hq => ?_)
  cases r with
  | error e => exact hx pins H s e s' I hq
  | ok fl =>
    cases fl with
    | next => exact hq.elim
    | brk => exact hq.elim
    | cont => exact hq.elim
    | ret u => exact I.after hq
theorem pe_callG {x : Str} {p pos : Pos} {e : Expr} {es : List Expr} {t : TA} (F : FnG X.prog X.w X.K X.mg X.base CX k f fd ps sp) (hgd : X.A.guards = some []) (hr : Room k X.A) (hg : Gl X x) (hm : X.mg x = some (.ref f)) (hk : PySem.W.keepIn X.K (.ref f) = true) (hb : Binds X.K fd ps [])
    (hx : ∀ σ, PassesAt CX X σ (E σ)) (ha : PA X (e :: es) t) (hdb : (x == ("__debug__" : Str)) = false := by decide) (he : starEach (e :: es) X.env = (false, eval e X.env) :: starEach es X.env := by rfl) (hpl : (backTo pos (starEach es X.env)).any (·.1) = false := by rfl) :
    PE X (.Call (.Name x p) (e :: es) [] pos) (tCallS sp E t) := by
  refine ⟨fun pins s σ H Q I h => ?_⟩
  refine wpAny_Call_Name_kw (ld_glob I hg hm (PySem.W.callWith_K I.ok.mod.kin hk (thn (ha.run pos pins s σ H _ I h) fun us s1 x => ?_) he hpl) hdb)
  obtain ⟨vs, H1, I1, r, q⟩ := x
  exact ⟨I1.kIn, run_fnG F hgd hr hb (hx σ) I1 r q⟩
end
end Mir

namespace Mir
open PySem PySem.Spec PyProof.Rows L2 LamX
set_option linter.all false
/-! ### the end of a law whose defs hold lambdas and ask reprs -/
section
variable {P : Program} {w : World} {K : PySem.W.Frag} {mg mb : Str → Option Value} {CX : CXT} {k : Nat} {fa a : Addr} {cs : List (Addr × Addr)} {fd : FuncData} {x : Str} {sp : Sp} {s₁ : Shared} {vs : List Value} {ns : List Int}
/-- what is told of the heap at the law's start -/
structure Start (P : Program) (w : World) (K : PySem.W.Frag) (s₁ : Shared) (cs : List (Addr × Addr)) (a : Addr) (ns : List Int) (H : Hp) : Prop where
  tb : ∀ p ∈ cs, H p.2 = some (.tbl #[])
  on : ∀ b, H b = none ∨ b ∈ cs.map (·.2) ∨ ∃ ob xs, H b = some (.frz ob (.lst xs))
  sq : SqL K H a (ns.map V.int)
  ok : HOk P w H s₁.heap
  at_ : ∀ b, H b ≠ none → b = a ∨ b ∈ cs.map (·.2)
  nk : H a ≠ none → K.lookup a = none
theorem start_runs (KX : K.In s₁.heap) (hns : s₁.heap.Ns mainGlobals mg) (hb : s₁.heap.Ns builtinsNs mb) (hbb : ∀ x : Str, x ≠ "__name__" → mb x = bootBuiltins x) (hlim : s₁.heap.NoLimit) (hg : s₁.gens = #[])
    (hT : ∀ p ∈ cs, s₁.heap.get? p.2 = some { cls := .none, data := .fields #[] }) (nT : ∀ p ∈ cs, K.lookup p.2 = none) (C : ∀ p ∈ cs, PySem.W.CodeHd s₁.heap p.1 p.2)
    (hbm : ∃ bm ob, mg "__builtins__" = some (.ref bm) ∧ bm ≠ builtinsNs ∧ s₁.heap.get? bm = some ob ∧ ob.cls = .type "module" ∧ ob.dict = some builtinsNs ∧ ob.data = .plain)
    (ha : s₁.heap.get? a = some { cls := .type "list", data := .seq vs.toArray }) (hr : Room k callerA)
    (F : ∀ base : Heap, K.In base → base.Ns mainGlobals mg → (∀ p ∈ cs, TabB base mg p.1 p.2) → FnG P w K mg base CX k fa fd [x] sp)
    (hbind : ∀ (s : Shared) (u : Value), BindsTo s fd ⟨[u], []⟩ [(x, u)])
    (hCX : ∀ (H : Hp) (e : Value) (s' : Shared), CX [] H s₁ (fun _ _ _ => False) e s' → False) {H : Hp} (S : Start P w K s₁ cs a ns H) (hsp : sp [.ref a] H (fun v _ => v = .bl true) fun _ _ _ => False) :
    codeAny (model P w) callerA (.call (.ref fa) ⟨[.ref a], []⟩) (fun r s' => r = .ok (.ret (.bool true)) ∧ OldK s₁.heap s'.heap ∧ s'.os = s₁.os ∧ AllBare s'.gens) s₁ := by
  have isT : ∀ b ∈ cs.map (·.2), s₁.heap.get? b = some { cls := .none, data := .fields #[] } := fun b hm => by
    obtain ⟨p, hp, rfl⟩ := List.mem_map.mp hm
    exact hT p hp
  have mem : ∀ p ∈ cs, p.2 ∈ cs.map (·.2) := fun p hp => List.mem_map.mpr ⟨p, hp, rfl⟩
  have noD : ∀ {b : Addr} {o : Obj}, s₁.heap.get? b = some o → (∀ us n, o.data ≠ .seq us n) → o.data ≠ .fields #[] → H b = none := fun {b o} e h1 h2 => by
    cases q : H b with
    | none => rfl
    | some u =>
      rcases S.at_ b (by rw [q]; simp) with e' | e'
      · rw [e', ha] at e
        cases e
        exact (h1 _ _ rfl).elim
      · rw [isT b e'] at e
        cases e
        exact (h2 rfl).elim
  have noA : ∀ {b : Addr} {o : Obj} {es : Array DictEntry} {ep : Nat}, s₁.heap.get? b = some o → o.data = .dict es ep → H b = none := fun e d => noD e (fun _ _ z => by rw [d] at z; cases z) (fun z => by rw [d] at z; cases z)
  have nsK : ∀ {b : Addr} {m : Str → Option Value}, s₁.heap.Ns b m → (hidT s₁.heap H).Ns b m := fun ⟨o, es, ep, e, d, r⟩ => ⟨o, es, ep, hidT_get e (noA e d), d, r⟩
  have hKb : K.In (hidT s₁.heap H) := fun b o e => hidT_get (KX b o e) (by
    cases q : H b with
    | none => rfl
    | some u =>
      rcases S.at_ b (by rw [q]; simp) with e' | e'
      · subst e'
        rw [S.nk (by rw [q]; simp)] at e
        cases e
      · obtain ⟨p, hp, rfl⟩ := List.mem_map.mp e'
        rw [nT p hp] at e
        cases e)
  have hM : L2.Mod K mg (hidT s₁.heap H) := ⟨hKb, nsK hns, ⟨mb, nsK hb, hbb⟩, by
    obtain ⟨mc, h1, h2⟩ := hlim
    exact ⟨mc, nsK h1, h2⟩⟩
  have TB : ∀ p ∈ cs, TabB (hidT s₁.heap H) mg p.1 p.2 := fun p hp => by
    have hTp := hT p hp
    refine ⟨?_, ?_, ?_⟩
    · obtain ⟨o, us, file, tf, flags, tg, inF, text, tt, e1, r1, r2, r3, r4⟩ := C p hp
      refine ⟨o, us, file, tf, flags, tg, inF, text, tt, hidT_get e1 (noD e1 (fun _ _ z => by rw [r2] at z; cases z) (fun z => ?_)), r1, r2, r3, r4⟩
      rw [r2] at z
      cases z
      simp at r3
    · obtain ⟨bm, ob, b1, b2, b3, b4, b5, b6⟩ := hbm
      refine ⟨bm, ob, b1, b2, fun q => ?_, fun q => ?_, hidT_get b3 (noD b3 (fun _ _ z => by rw [b6] at z; cases z) (fun z => by rw [b6] at z; cases z)), b4, b5, b6⟩
      · obtain ⟨o, es, ep, e, d, _⟩ := hns
        rw [q, e] at b3
        cases b3
        rw [d] at b6
        cases b6
      · rw [q, hTp] at b3
        cases b3
        cases b6
    · intro z
      obtain ⟨o, es, ep, e, d, _⟩ := hns
      rw [z, hTp] at e
      cases e
      cases d
  have e0 : Env0 P w K mg (hidT s₁.heap H) callerA [] s₁ H := ⟨rfl, hM, fun b o e => of_hidT e, Nat.le_of_eq (hidT_size _ _), trivial, fun _ m => by simp [frs] at m, S.ok, AllBare.of_eq hg⟩
  refine codeAny_mono ((F _ hKb (nsK hns) TB).run callerA [] s₁ H ⟨[.ref a], []⟩ [.ref a] [.ref a] (fun v _ => v = .bl true) (fun _ _ _ => False) hr rfl e0 (hbind s₁ (.ref a)) (.cons rfl .nil) hsp) fun r s' h => ?_
  cases r with
  | error e => exact (hCX H e s' h).elim
  | ok fl =>
    cases fl with
    | next => exact h.elim
    | brk => exact h.elim
    | cont => exact h.elim
    | ret u =>
      obtain ⟨v, H', os, bare, un, ok', rv, q⟩ := h
      subst q
      have ru : u = .bool true := rv
      subst ru
      have key : ∀ (b : Addr) (o : Obj), b ∉ cs.map (·.2) → s₁.heap.get? b = some o → s'.heap.get? b = some o := fun b o nb e => by
        rcases S.on b with z | z | ⟨ob, xs, z⟩
        · exact un.keep b o e z (by simp [frs]) (by simp)
        · exact absurd z nb
        · obtain ⟨e1, _⟩ := S.ok b _ z
          obtain ⟨e2, _⟩ := ok' b _ (un.frzs b ob (.lst xs) z)
          rw [e] at e1
          cases e1
          exact e2
      have grown : ∀ p ∈ cs, ∃ more : Array Value, s'.heap.get? p.2 = some { cls := .none, data := .fields more } := fun p hp => by
        obtain ⟨more, z⟩ := un.tbls p.2 #[] (S.tb p hp)
        exact ⟨#[] ++ more, ok' p.2 _ z⟩
      refine ⟨rfl, ⟨fun b o e => ?_, fun b o e => ?_⟩, os, bare⟩
      · by_cases hm : b ∈ cs.map (·.2)
        · obtain ⟨p, hp, rfl⟩ := List.mem_map.mp hm
          obtain ⟨more, hq⟩ := grown p hp
          have e' := e
          rw [hT p hp] at e'
          cases e'
          exact .inr (.inl ⟨Heap.TableAt.isCodeTable (PySem.W.CodeHd.tab (C p hp) (hT p hp)), rfl, #[], more, rfl, by rw [Array.empty_append]; exact hq⟩)
        · exact .inl (key b o hm e)
      · by_cases hm : b ∈ cs.map (·.2)
        · obtain ⟨p, hp, rfl⟩ := List.mem_map.mp hm
          obtain ⟨more, hq⟩ := grown p hp
          exact ⟨_, hq⟩
        · exact ⟨o, key b o hm e⟩
theorem law_callG (KX : K.In s₁.heap) (hns : s₁.heap.Ns mainGlobals mg) (hb : s₁.heap.Ns builtinsNs mb) (hbb : ∀ x : Str, x ≠ "__name__" → mb x = bootBuiltins x) (hlim : s₁.heap.NoLimit) (hg : s₁.gens = #[])
    (hT : ∀ p ∈ cs, s₁.heap.get? p.2 = some { cls := .none, data := .fields #[] }) (nT : ∀ p ∈ cs, K.lookup p.2 = none) (C : ∀ p ∈ cs, PySem.W.CodeHd s₁.heap p.1 p.2)
    (hbm : ∃ bm ob, mg "__builtins__" = some (.ref bm) ∧ bm ≠ builtinsNs ∧ s₁.heap.get? bm = some ob ∧ ob.cls = .type "module" ∧ ob.dict = some builtinsNs ∧ ob.data = .plain)
    (ha : s₁.heap.get? a = some { cls := .type "list", data := .seq vs.toArray }) (hi : IntsAre vs ns) (hl : ns.length ≤ sizeLine) (hr : Room k callerA)
    (F : ∀ base : Heap, K.In base → base.Ns mainGlobals mg → (∀ p ∈ cs, TabB base mg p.1 p.2) → FnG P w K mg base CX k fa fd [x] sp)
    (hbind : ∀ (s : Shared) (u : Value), BindsTo s fd ⟨[u], []⟩ [(x, u)])
    (hsp : ∀ H : Hp, (∀ p ∈ cs, H p.2 = some (.tbl #[])) → SqL K H a (ns.map V.int) → sp [.ref a] H (fun v _ => v = .bl true) fun _ _ _ => False)
    (hCX : ∀ (H : Hp) (e : Value) (s' : Shared), CX [] H s₁ (fun _ _ _ => False) e s' → False) :
    codeAny (model P w) callerA (.call (.ref fa) ⟨[.ref a], []⟩) (fun r s' => r = .ok (.ret (.bool true)) ∧ OldK s₁.heap s'.heap ∧ s'.os = s₁.os ∧ AllBare s'.gens) s₁ := by
  have rv := vals_ints hi
  have lenV := IntsAre.length hi
  have notT : a ∉ cs.map (·.2) := fun m => by
    obtain ⟨p, hp, rfl⟩ := List.mem_map.mp m
    have q := hT p hp
    rw [ha] at q
    cases q
  have mem : ∀ p ∈ cs, p.2 ∈ cs.map (·.2) := fun p hp => List.mem_map.mpr ⟨p, hp, rfl⟩
  have run : ∀ H, Start P w K s₁ cs a ns H → _ := fun H S => start_runs (mb := mb) KX hns hb hbb hlim hg hT nT C hbm ha hr F hbind hCX S (hsp H S.tb S.sq)
  cases hk : K.lookup a with
  | none =>
    refine run (fun b => if b = a then some (.frz { cls := .type "list", data := .seq vs.toArray } (.lst (ns.map V.int))) else if b ∈ cs.map (·.2) then some (.tbl #[]) else none) ⟨fun p hp => ?_, fun b => ?_, .inl (.inr ⟨_, if_pos rfl⟩), fun b u z => ?_, fun b z => ?_, fun _ => hk⟩
    · rw [if_neg (fun z => notT (by rw [← z]; exact mem p hp)), if_pos (mem p hp)]
    · by_cases h1 : b = a
      · exact .inr (.inr ⟨_, _, if_pos h1⟩)
      · by_cases h2 : b ∈ cs.map (·.2)
        · exact .inr (.inl h2)
        · exact .inl (by simp only [if_neg h1, if_neg h2])
    · by_cases h1 : b = a
      · subst h1
        rw [if_pos rfl] at z
        cases z
        exact ⟨ha, by rw [List.length_map]; exact hl, vs, 0, rv, ha⟩
      · rw [if_neg h1] at z
        by_cases h2 : b ∈ cs.map (·.2)
        · rw [if_pos h2] at z
          cases z
          obtain ⟨p, hp, rfl⟩ := List.mem_map.mp h2
          exact hT p hp
        · rw [if_neg h2] at z
          cases z
    · by_cases h1 : b = a
      · exact .inl h1
      · by_cases h2 : b ∈ cs.map (·.2)
        · exact .inr h2
        · exact absurd (by simp only [if_neg h1, if_neg h2]) z
  | some o =>
    have e := KX a o hk
    rw [ha] at e
    cases e
    refine run (fun b => if b ∈ cs.map (·.2) then some (.tbl #[]) else none) ⟨fun p hp => if_pos (mem p hp), fun b => ?_, .inr ⟨_, vs.toArray, 0, hk, rfl, rfl, rfl, by rw [List.size_toArray, lenV]; exact hl, rv⟩, fun b u z => ?_, fun b z => ?_, fun z => ?_⟩
    · by_cases h2 : b ∈ cs.map (·.2)
      · exact .inr (.inl h2)
      · exact .inl (if_neg h2)
    · by_cases h2 : b ∈ cs.map (·.2)
      · rw [if_pos h2] at z
        cases z
        obtain ⟨p, hp, rfl⟩ := List.mem_map.mp h2
        exact hT p hp
      · rw [if_neg h2] at z
        cases z
    · by_cases h2 : b ∈ cs.map (·.2)
      · exact .inr h2
      · exact absurd (if_neg h2) z
    · exact absurd (if_neg notT) z
end
/-- as LawAtS, for a def that is called where no repr is under way -/
def LawAtG (l : PySem.W.OpenLaw) (w : World) (K : PySem.W.Frag) (CX : CXT) (k n : Nat) (x : Str) (mg : Str → Option Value) (fa : Addr) (h : Heap) : Prop :=
  ∃ (fd : FuncData) (cs : List (Addr × Addr)) (sp : Sp), (∀ p ∈ cs, h.get? p.2 = some { cls := .none, data := .fields #[] }) ∧ (∀ p ∈ cs, K.lookup p.2 = none) ∧ (∀ p ∈ cs, PySem.W.CodeHd h p.1 p.2) ∧ (∀ (s : Shared) (u : Value), BindsTo s fd ⟨[u], []⟩ [(x, u)]) ∧
    (∀ (H : Hp) (a : Addr) (ns : List Int), ns.length ≤ n → (∀ p ∈ cs, H p.2 = some (.tbl #[])) → SqL K H a (ns.map V.int) → sp [.ref a] H (fun v _ => v = .bl true) fun _ _ _ => False) ∧
    ∀ base : Heap, K.In base → base.Ns mainGlobals mg → (∀ p ∈ cs, TabB base mg p.1 p.2) → FnG l.prog w K mg base CX k fa fd [x] sp
theorem walk_ofG {l : PySem.W.OpenLaw} {n k : Nat} {q : Program} {loose : List Str} {XP : (Str → Option Value) → Heap → Prop} {YP : World → Heap → Prop} {d : DefRec} {K : Params → PySem.W.Frag} {CX : World → CXT} {x : Str} (hn : l.most = some n) (hn2 : n ≤ sizeLine) (hdf : d.params.defaults = []) (hr : Room k callerA)
    (hY : ∀ (w : World) (h : Heap), YP w h → (K w.params).In h)
    (F : ∀ (w : World) (mg : Str → Option Value) (fa : Addr) (h : Heap), YP w h → (K w.params).In h → h.Ns mainGlobals mg → mg d.name = some (.ref fa) → LawAtG l w (K w.params) (CX w) k n x mg fa h)
    (hCX : ∀ (w : World) (H : Hp) (s : Shared) (e : Value) (s' : Shared), CX w [] H s (fun _ _ _ => False) e s' → False) :
    PySem.W.WalkO q loose XP YP l.row.toRowW d [] fun f vs => call f vs :=
  Att.attach_callB hn hdf fun w s₀ s₁ mg mb fa o pm cd doc a vs ns G Y ho hd hcd hmg hobj hints hlen hbits hg => by
    have KX := hY w s₁.heap Y
    obtain ⟨fd, cs, sp, hT, nT, C, hb, hsp, hF⟩ := F w mg fa s₁.heap Y KX G.T.g hmg
    exact law_callG (mb := mb) KX G.T.g G.T.b G.T.builtins G.T.nolimit hg hT nT C G.T.bmain hobj hints (Nat.le_trans hlen hn2) hr hF hb (fun H hH hS => hsp H a ns hlen hH hS) fun H e s' => hCX w H s₁ e s'
end Mir

namespace Mir
open PySem PySem.Spec PyProof.Rows L2
set_option linter.all false
/-! ### repr of data, where no repr is under way -/
section
variable {X : Cx}
theorem call_repr_any (hgd : X.A.guards = some []) (hu : X.A.units + 200 < cLine) : CallR X (.builtin "repr") (fun xs H Q => ∃ v d, xs = [v] ∧ Dp X.K H v d ∧ d.showable = true ∧ d.hasDict = false ∧ d.depth ≤ 100 ∧ d.shown.length ≤ sizeLine ∧ Q (.str d.shown) H) := by
  intro pins s σ H xs us Q I r h
  obtain ⟨v, d, rfl, dp, hs, hd, hdep, hl, q⟩ := h
  obtain ⟨u, rfl, ru⟩ := vals1 r
  obtain ⟨as, rd⟩ := Dp.reads I d v u dp ru
  have fin : ∀ (h' : Heap) (t : Tok) (tk : Nat), (∀ b o, s.heap.get? b = some o → h'.get? b = some o) → EP X pins σ Q (.str d.shown t) ⟨h', s.gens, s.drawn, tk, s.os⟩ := fun h' t tk k => ⟨.str d.shown, H, I.kept k, ⟨t, rfl⟩, q⟩
  cases rd with
  | none => exact PySem.P.repr_of_none (fin _ _ _ fun _ _ e => e)
  | bool b =>
    refine PySem.P.repr_of_bool ?_
    have e := fin s.heap s.toks (s.toks + 1) fun _ _ e => e
    cases b <;> exact e
  | int i t => exact PySem.P.repr_of_int (of_decide_eq_true hs) (fin _ _ _ fun _ _ e => e)
  | str x t => exact PySem.P.repr_of_str (fin _ _ _ fun _ _ e => e) hl
  | list a1 a2 a3 a4 => exact repr_of_reads' (.list a1 a2 a3 a4) hs (fun z => by rw [hd] at z; cases z) hgd (by omega) (fun _ _ e => e) (fun h' t tk k => fin h' t tk k) hl
  | tuple a1 a2 a3 a4 => exact repr_of_reads' (.tuple a1 a2 a3 a4) hs (fun z => by rw [hd] at z; cases z) hgd (by omega) (fun _ _ e => e) (fun h' t tk k => fin h' t tk k) hl
  | dict a1 a2 a3 a4 a5 => simp [PyData.hasDict] at hd
end
variable [Tb]
def okRepr (x : PyData) : Bool := PyData.canLay0 x && x.showable && !x.hasDict && decide (x.depth ≤ 100) && decide (x.shown.length ≤ sizeLine)
def gRepr (x : PyData) : Option PyData := if okRepr x then some (.str x.shown) else none
def eRepr (fa : ME) : ME := fun ρ s => (fa ρ s).bind fun x s => match gRepr x with
  | some y => .ok y s
  | none => .bad
section
variable {X : Cx} {XR : XRel} {E : XK} {a : Expr} {fa : ME} {p pos : Pos}
theorem se_repr (hgd : X.A.guards = some []) (hu : X.A.units + 200 < cLine) (hg : Gl X "repr") (hm : X.mg "repr" = none) (ha : SE X XR E a fa) (h1 : starEach [a] X.env = (false, eval a X.env) :: starEach [] X.env := by rfl) : SE X XR E (.Call (.Name "repr" p) [a] [] pos) (eRepr fa) := by
  obtain ⟨t, pa, qa⟩ := ha
  refine ⟨_, pe_callB (call_repr_any hgd hu) hg hm (by decide +kernel) (pa_cons pa pa_nil h1) (by decide) (by decide) h1, fun A Hi ρ s σ H r re Q h => qa A Hi ρ s σ H r re _ (PO.bind h fun x s1 v Hi1 H1 _ e1 r1 d h1 => ?_)⟩
  unfold gRepr at h1
  by_cases k : okRepr x = true
  · rw [if_pos k] at h1
    simp only [okRepr, Bool.and_eq_true, decide_eq_true_eq, Bool.not_eq_true'] at k
    obtain ⟨⟨⟨⟨k1, k2⟩, k3⟩, k4⟩, k5⟩ := k
    exact ⟨v, x, rfl, Dq.dp x v k1 (Dq.mono r1.sub x v d) , k2, k3, k4, k5, h1.use r1 rfl⟩
  · rw [if_neg k] at h1
    exact h1.elim
end
/-! ### defs with mirrors that are called where no repr is under way -/
section
variable {P : Program} {w : World} {K : PySem.W.Frag} {mg : Str → Option Value} {base : Heap}
theorem fn_mirG {XR : XRel} {x qual : Str} {st : Stmt} {f : Addr} {fd : FuncData} {N ps : List Str} {k : Nat} {g : MS} (F : Fun K x qual st f fd) (S : FnScope N ps (defScope st)) (hx : ∀ x H c d, ¬ XR x H c d)
    (hb : ∀ (cdv : Value) (A : Around) (outer : List PySem.Env) (s : Shared) (H : Hp) (E : XK), A.guards = some [] → Room k (A.deeper (envOfC qual (defScope st) s.heap.objs.size f cdv)) → SB (cxOf CX0 P w K mg base N qual (defScope st) f cdv A outer s H E).nox XR E0 (defBody st) g) :
    FnG P w K mg base CX0 (k + 1) f fd ps (spM K XR ps.length (mkF N.length g)) := by
  obtain ⟨oc, od, kV, doc, pm, an, cdv, ct, osl, rfl, lk, hcd⟩ := F.ex
  refine fnG_of lk hcd S (fun vs H Q E h => ?_) (fun A outer s H vs Q E hgd hr h => ?_)
  · obtain ⟨_, _, as, _, h1, _, h2, _⟩ := h
    rw [h2.length, h1]
  · obtain ⟨A', Hi, as, s', _, r, rl, h⟩ := h
    obtain ⟨t, p, q⟩ := hb cdv A outer s H E hgd hr
    exact ⟨t, PSs.nox p, q A' Hi (env0 N.length as) s' _ H r (re_start rl) _ (fin_ok r (PO.noexc hx h))⟩
end
section
variable {X : Cx} {XR XR' : XRel} {E : XK} {k n : Nat} {f : Addr} {fd : FuncData} {ps : List Str} {F : MF} {e : Expr} {es : List Expr} {ma : MA} {x : Str} {p pos : Pos}
theorem se_callG (hgd : X.A.guards = some []) (hx : ∀ x H c d, ¬ XR' x H c d) (G : FnG X.prog X.w X.K X.mg X.base CX0 k f fd ps (spM X.K XR' n F)) (hr : Room k X.A) (hg : Gl X x) (hm : X.mg x = some (.ref f)) (hk : PySem.W.keepIn X.K (.ref f) = true) (hb : Binds X.K fd ps [])
    (ha : SA X XR E (e :: es) ma) (hdb : (x == ("__debug__" : Str)) = false := by decide) (he : starEach (e :: es) X.env = (false, eval e X.env) :: starEach es X.env := by rfl) (hpl : (backTo pos (starEach es X.env)).any (·.1) = false := by rfl) :
    SE X XR E (.Call (.Name x p) (e :: es) [] pos) (eCall n F ma) := by
  obtain ⟨t, pa, qa⟩ := ha
  refine ⟨_, pe_callG (E := fun _ => E0) G hgd hr hg hm hk hb (fun _ _ _ _ _ _ _ z => z.elim) pa hdb he hpl, fun A Hi ρ s σ H r re Q h => qa A Hi ρ s σ H r re _ (PO.bind h fun as s1 vs Hi1 H1 _ e1 r1 d h1 => ?_)⟩
  split at h1
  · rename_i hn
    exact ⟨A, Hi1, as, s1, hn, r1, d, PO.noX hx h1⟩
  · exact h1.elim
end
end Mir

namespace Mir
open PySem PySem.Spec PyProof.Rows L2 LamX
set_option linter.all false
/-! ### a lambda made, with more told of the heap: nothing is gone -/
section
variable {X : Cx} {pins : List (Addr × Obj)} {σ : L2.St} {H : Hp} {s : Shared} {T : List (Addr × Str)} {c P : Addr} {params : Arguments} {body : Expr} {scope : Scope} {pos : Pos} {E Q : Value → Shared → Prop}
abbrev lamN (X : Cx) : Str := X.env.qual ++ Str.ofString "<lambda>"
theorem lam_made (I : L2.Inv X pins σ H s) (TB : TabB X.base X.mg c P) (hcode : X.env.code = .ref c) (hm : (P, lamN X) ∈ T) (hu : ∀ p ∈ T, p.1 = P → p.2 = lamN X) (hT : Tabs T H) (hdef : defaultsOf params X.env = ([], []))
    (hfree : ∀ y ∈ scope.names, y.2 = .free → ∃ c, List.lookup y.1 X.env.cells = some c)
    (h : ∀ (f c' : Addr) (pm ctv : Value) (H1 : Hp) (s' : Shared), L2.Inv X pins σ H1 s' → ExtN H H1 → (∀ b, H1 b = none → H b = none) → Tabs T H1 →
      s'.heap.get? f = some (PySem.W.kla_obj (Str.ofString "<lambda>") (lamN X) params body scope (cloFrom X.env.cells scope.names []) pm c' ctv) → H1 f = none → f ∉ frs X.stack → H1 c' = some (CodeO c' (lamN X)) → Q (.ref f) s') :
    wpAny (model X.prog X.w) X.A (eval (.Lambda params body scope pos) X.env) Q E s := by
  obtain ⟨ps, hP, ht, hc0⟩ := hT (P, lamN X) hm
  refine PySem.W.kla_eval hdef ?_
  have bP := Heap.BuiltinsAt.keeps TB.bm I.bk
  have hP' := I.hok P (.tbl ps) hP
  have nofr : ∀ f, s.heap.objs.size ≤ f → f ∉ frs X.stack := fun f hf z => by
    rcases List.mem_cons.mp (I.stkSub f z) with e | e
    · have h1 := I.lt
      rw [← e] at h1
      exact Nat.lt_irrefl f (Nat.lt_of_lt_of_le h1 hf)
    · exact I.nofs hf e
  cases hc : codeAmong pos ps.toList with
  | none =>
    refine PySem.W.kla_makeFunction (closure_ok hfree) I.ok.glob (Heap.Ns.keeps I.mod.glob I.bk) hcode (PySem.W.CodeHd.keeps TB.code I.bk) hP' ht hc TB.gP bP fun c' ctv h' tk hx hge hlt hrec htb => ?_
    obtain ⟨c2, oc, vs, t, e2, hoc, hd, hv⟩ := hrec
    cases e2
    have hsz := Nat.le_trans hge (Nat.le_of_lt hlt)
    have nC := HOk.fresh I.hok hge
    have up : ∀ b o, h'.get? b = some o → (h'.push (PySem.W.kla_obj (Str.ofString "<lambda>") (lamN X) params body scope (cloFrom X.env.cells scope.names []) ((X.mg (Str.ofString "__name__")).getD Value.none) c' ctv)).get? b = some o := fun b o e => Heap.get?_push_of_some _ e
    have I1 := inv_table (t' := tk) I hP (fun b o hb e => up b o (hx b o hb e)) (up _ _ htb) hge ⟨oc, vs, t, up _ _ hoc, hd, hv⟩
    have hE : ∀ b o, H b = some o → (∀ ps : Array Value, o ≠ .tbl ps) → upd (upd H P (.tbl (ps ++ #[rawInt pos.line, rawInt pos.col, .ref c']))) c' (CodeO c' (lamN X)) b = some o := fun b o e n => by
      rw [upd_ne (ne_of_none e nC), upd_ne fun z => n ps (by rw [z, hP] at e; exact (Option.some.inj e).symm)]
      exact e
    refine h h'.objs.size c' _ ctv _ _ I1 hE (fun b e => ?_) (fun p hp => ?_) (Heap.get?_push_size h' rfl) ?_ (nofr _ hsz) upd_same
    · by_cases q1 : b = c'
      · rw [q1, upd_same] at e
        cases e
      · rw [upd_ne q1] at e
        by_cases q2 : b = P
        · rw [q2, upd_same] at e
          cases e
        · rw [upd_ne q2] at e
          exact e
    · by_cases hb : p.1 = P
      · rw [hu p hp hb, hb]
        have eL : (ps ++ #[rawInt pos.line, rawInt pos.col, Value.ref c']).toList = ps.toList ++ [rawInt pos.line, rawInt pos.col, .ref c'] := by simp
        refine ⟨ps ++ #[rawInt pos.line, rawInt pos.col, .ref c'], by rw [upd_ne (ne_of_none hP nC), upd_same], ?_, fun p' cv hcv => ?_⟩
        · rw [eL]
          exact TriplesOk_snoc _ _ _ _ ht
        · rw [eL] at hcv
          rcases among_app ps.toList ht hcv with z | z
          · obtain ⟨c0, e1, e2⟩ := hc0 p' cv z
            exact ⟨c0, e1, hE c0 _ e2 codeO_ne⟩
          · exact ⟨c', z, upd_same⟩
      · obtain ⟨ps', a1, a2, a3⟩ := hT p hp
        refine ⟨ps', by rw [upd_ne (ne_of_none a1 nC), upd_ne hb]; exact a1, a2, fun p' cv hcv => ?_⟩
        obtain ⟨c0, e1, e2⟩ := a3 p' cv hcv
        exact ⟨c0, e1, hE c0 _ e2 codeO_ne⟩
    · have n1 := Nat.ne_of_gt hlt
      have n2 := Nat.ne_of_gt (Nat.lt_of_lt_of_le (Heap.lt_size hP') hsz)
      rw [upd_ne n1, upd_ne n2]
      exact HOk.fresh I.hok hsz
  | some cv =>
    obtain ⟨c', rfl, hco⟩ := hc0 pos cv hc
    refine PySem.W.kla_makeFunctionHit (closure_ok hfree) I.ok.glob (Heap.Ns.keeps I.mod.glob I.bk) hcode (PySem.W.CodeHd.keeps TB.code I.bk) hP' ht hc bP fun ctv h' tk hx hsz => ?_
    have I1 := I.kept (t' := tk) fun b o e => Heap.get?_push_of_some (PySem.W.kla_obj (Str.ofString "<lambda>") (lamN X) params body scope (cloFrom X.env.cells scope.names []) ((X.mg (Str.ofString "__name__")).getD Value.none) c' ctv) (hx b o e)
    exact h h'.objs.size c' _ ctv H _ I1 (ExtN.refl H) (fun _ e => e) hT (Heap.get?_push_size h' rfl) (HOk.fresh I.hok hsz) (nofr _ hsz) hco
end
section
variable {X : Cx} {T : List (Addr × Str)} {TT : (XK → Hp → VK → Prop) → Hp → VK → Prop} {x a : Str} {g c P : Addr} {k : Nat} {pg : Arguments} {bg : List Stmt} {sg : Scope} {dV kV doc pm cdv ct oc : Value} {an od : Option Addr} {osl : Array (Option Value)} {Ng : List Str} {params : Arguments} {body : Expr} {scope : Scope} {t : XK → TE} {p lpos pos : Pos}
def tLamM (T : List (Addr × Str)) (TT : (XK → Hp → VK → Prop) → Hp → VK → Prop) (t : XK → TE) : TE := fun σ H Q => Tabs T H ∧ ∀ H1, ExtN H H1 → (∀ b, H1 b = none → H b = none) → Tabs T H1 → TT (fun E H' Q' => t E σ H' Q') H1 Q
theorem pe_lamM (hg : Gl X x) (hm : X.mg x = some (.ref g)) (hk : PySem.W.keepIn X.K (.ref g) = true) (lk : X.K.lookup g = some ⟨oc, od, .func (PySem.W.fnOf x x pg bg sg dV kV doc pm an cdv ct), osl⟩) (hcg : PySem.W.codeIn X.K cdv x = true)
    (hb : L2.Binds X.K (PySem.W.fnOf x x pg bg sg dV kV doc pm an cdv ct) [a] []) (Sg : FnScope Ng [a] sg) (hNg : Ng[0]? = some a) (hva : Vis sg a) (hG : GivesTo X Ng x sg g cdv bg a (lamN X) TT) (TB : TabB X.base X.mg c P) (hcode : X.env.code = .ref c) (hmT : (P, lamN X) ∈ T)
    (hu : ∀ p ∈ T, p.1 = P → p.2 = lamN X) (hr : Room (k + 2) X.A) (L : LamS X.env.scope scope) (hdef : defaultsOf params X.env = ([], []))
    (hbind : ∀ (q : Str) (cl : List (Str × Addr)) (pm cv ctv : Value), bindArgs (PySem.W.kla_fn (Str.ofString "<lambda>") q params body scope cl pm cv ctv) ⟨[], []⟩ = pure [])
    (hbody : ∀ (A : Around) (outer : List PySem.Env) (s : Shared) (H : Hp) (E : XK) (f c' : Addr), Room k (A.deeper (lamEnv X scope s.heap.objs.size f c')) → PE (lamCx X A outer s H E scope f c') body (t E))
    (hdb : (x == ("__debug__" : Str)) = false := by decide) (hd : (a == ("__debug__" : Str)) = false := by decide) (hcd : (a == ("__classdict__" : Str)) = false := by decide) :
    PE X (.Call (.Name x p) [.Lambda params body scope lpos] [] pos) (tLamM T TT t) := by
  refine ⟨fun pins s σ H Q I h => ?_⟩
  obtain ⟨hT, h⟩ := h
  refine wpAny_Call_Name_kw (ld_glob I hg hm (PySem.W.callWith_K I.ok.mod.kin hk ?_ rfl rfl) hdb)
  refine Calls.spliced_cons (lam_made I TB hcode hmT hu hT hdef (LamS.has L I.ok) fun f c' pm' ctv H1 s' I1 eN th T1 hf hfn hfr hco => Calls.spliced_nil ⟨I1.kIn, ?_⟩)
  have rc := run_ofS (CX := C8.CX0) (Q := Q) (E := C8.E0) lk hcg Sg hr I1.env0 (hb s' [Value.ref f] I1.kIn rfl) (.cons (a := V.ref f) rfl .nil) rfl fun hr' => by
    obtain ⟨t', ht', hq'⟩ := hG f c' s' H1 Q (fun E H' Q' => t E σ H' Q') (fun W pn xe E p1 p2 tk hW => pe_act I1 L hf hfn hfr (hbind _ _ _ _ _) tk hW hr' (fun A outer s H hr2 => hbody A outer s H E f c' hr2) hNg hva hd hcd) hco (h H1 eN th T1)
    exact ⟨t', PSs.nox ht', hq'⟩
  refine wpAny_call (codeAny_mono rc fun r s2 hq => ?_)
  cases r with
  | error e => exact (hq : False).elim
  | ok fl =>
    cases fl with
    | next => exact hq.elim
    | brk => exact hq.elim
    | cont => exact hq.elim
    | ret u => exact I1.after hq
end
end Mir

namespace Mir
open PySem PySem.Spec PyProof.Rows L2 LamX
set_option linter.all false
variable [Tb]
/-! ### a lambda handed to a def that calls it in a try -/
/-- the weakest question of a mirrored expression -/
def tMirE (K : PySem.W.Frag) (XR : XRel) (E : XK) (f : ME) : TE := fun σ H Q => ∃ A Hi ρ s, RS K A Hi s H ∧ RE K A Hi ρ σ ∧ PO K A Hi H XR E (RD K) Q (f ρ s)
theorem SE.weak {X : Cx} {XR : XRel} {E : XK} {e : Expr} {f : ME} (h : SE X XR E e f) : PE X e (tMirE X.K XR E f) := by
  obtain ⟨t, p, q⟩ := h
  refine ⟨fun pins s σ H Q I g => ?_⟩
  obtain ⟨A, Hi, ρ, s', r, re, po⟩ := g
  exact p.run pins s σ H Q I (q A Hi ρ s' σ H r re Q po)
/-- a clause: the class that it names, its words, and the field whose repr comes last -/
structure Hd where
  cls : String
  at_ : Addr
  words : List Str
  fld : Option Str
def tCs : List Str → TA
  | [] => tNil
  | w :: r => tCons (tC (.str w)) (tCs r)
def tCsF (t : TE) : List Str → TA
  | [] => tCons t tNil
  | w :: r => tCons (tC (.str w)) (tCsF t r)
def rRep (K : PySem.W.Frag) : List V → Hp → VK → Prop := fun xs H Q => ∃ v d, xs = [v] ∧ Dp K H v d ∧ d.showable = true ∧ d.hasDict = false ∧ d.depth ≤ 100 ∧ d.shown.length ≤ sizeLine ∧ Q (.str d.shown) H
/-- what a clause's suite asks; i: where its name stands -/
def hdT (K : PySem.W.Frag) (i : Nat) (h : Hd) : Addr → Value → Option Addr → TS := fun a cls d => match h.fld with
  | none => tRet (tTup (tCs h.words))
  | some f => fun D σ H => tRet (tTup (tCsF (tCB (rRep K) (tCons (tXf a cls d h.at_ f (tVar i)) tNil)) h.words)) (asEnds i D) (List.set σ i (some (.ref a))) H
def hdL (K : PySem.W.Frag) (i : Nat) (hs : List Hd) : HTab := hs.map fun h => (.ref h.at_, hdT K i h)
/-- what the clauses make of an error -/
def metOut (sub : String → String → Bool) : List Hd → Exn → Option PyData
  | [], _ => none
  | h :: r, x => if sub x.cls h.cls then (match h.fld, x.arg with
      | none, _ => some (.tuple (h.words.map .str))
      | some _, some y => (gRepr y).map fun z => .tuple (h.words.map .str ++ [z])
      | some _, none => none) else metOut sub r x
theorem dqa_strs {K : PySem.W.Frag} {Hi : Hp} : ∀ ws : List Str, DqA K Hi (ws.map PyData.str) (ws.map V.str)
  | [] => rfl
  | w :: r => ⟨.str w, _, rfl, rfl, dqa_strs r⟩
theorem tCs_run {σ : L2.St} {H : Hp} {Q : List V → Hp → Prop} : ∀ {ws : List Str}, Q (ws.map V.str) H → tCs ws σ H Q
  | [], q => q
  | w :: r, q => by
    show tCs r σ H fun vs H2 => Q (.str w :: vs) H2
    exact tCs_run q
theorem tCsF_run {σ : L2.St} {H : Hp} {t : TE} : ∀ {ws : List Str} {Q : List V → Hp → Prop}, t σ H (fun v H1 => Q (ws.map V.str ++ [v]) H1) → tCsF t ws σ H Q
  | [], Q, q => q
  | w :: r, Q, q => by
    show tCsF t r σ H fun vs H2 => Q (.str w :: vs) H2
    exact tCsF_run (Q := fun vs H2 => Q (.str w :: vs) H2) q
theorem met_many {K : PySem.W.Frag} {ct : CTab} {sub : String → String → Bool} {i : Nat} {Q : VK} {D : Ends} (hD : D.rt = Q) {A : List Addr} {Hi H : Hp} {s : Sto} (r : RS K A Hi s H) {x : Exn} {cls : Value} {d : Option Addr} (hx : XRT K ct x Hi cls d) {σ : L2.St} (hσ : i < σ.length) {y : PyData}
    (k : ∀ v Hi' H', Ext A Hi H Hi' H' → RS K A Hi' s H' → Dq K Hi' y v → Q v H') : ∀ {hs : List Hd}, (∀ h ∈ hs, h.words.length ≤ 100) → (∀ h ∈ hs, ∀ c C fo, ct c = some (C, fo) → PySem.W.exmOne K (.ref C) (.ref h.at_) = some (sub c h.cls)) →
      (∀ h ∈ hs, ∀ f, h.fld = some f → ∀ c C fo, ct c = some (C, fo) → sub c h.cls = true → C = h.at_ ∧ fo = some f) → metOut sub hs x = some y → wMany K (fun _ _ _ _ => False) D (hdL K i hs) cls d σ H
  | [], _, _, _, e => by cases e
  | h :: rest, hw, h1, h2, e => by
    obtain ⟨C, fo, hc, rfl, kp⟩ := id hx
    have e1 := h1 h List.mem_cons_self x.cls C fo hc
    have len : ∀ z : List V, z.length ≤ 101 → z.length ≤ sizeLine := fun z hz => by
      rw [sizeLine_eq]
      omega
    refine ⟨sub x.cls h.cls, e1, fun q a ha => ?_, fun q => ?_⟩
    · unfold metOut at e
      rw [if_pos q] at e
      cases hf : h.fld with
      | none =>
        rw [hf] at e
        cases e
        unfold hdT
        rw [hf]
        show tCs h.words σ H fun xs H1 => xs.length ≤ sizeLine ∧ ∀ p, H1 p = none → D.rt (.ref p) (upd H1 p (.tup xs))
        refine tCs_run ⟨len _ (by rw [List.length_map]; have := hw h List.mem_cons_self; omega), fun p hp => ?_⟩
        rw [hD]
        exact k _ (upd Hi p _) _ (Ext.fresh hp (r.fresh hp)) (r.new hp) ⟨p, _, rfl, SqT.of upd_same, dqa_strs _⟩
      | some f =>
        obtain ⟨rfl, rfl⟩ := h2 h List.mem_cons_self f hf x.cls C fo hc q
        rw [hf] at e
        cases hz : x.arg with
        | none => rw [hz] at e; cases e
        | some z =>
          rw [hz] at e kp
          obtain ⟨dd, v, rfl, hv, dv⟩ := kp
          replace e : ((gRepr z).map fun z => PyData.tuple (h.words.map .str ++ [z])) = some y := e
          cases hg : gRepr z with
          | none => rw [hg] at e; cases e
          | some g =>
            rw [hg] at e
            cases e
            unfold gRepr at hg
            by_cases ok : okRepr z = true
            · rw [if_pos ok] at hg
              cases hg
              simp only [okRepr, Bool.and_eq_true, decide_eq_true_eq, Bool.not_eq_true'] at ok
              obtain ⟨⟨⟨⟨k1, k2⟩, k3⟩, k4⟩, k5⟩ := ok
              unfold hdT
              rw [hf]
              show tCsF (tCB (rRep K) (tCons (tXf a (.ref h.at_) (some dd) h.at_ f (tVar i)) tNil)) h.words (List.set σ i (some (.ref a))) H fun xs H1 => xs.length ≤ sizeLine ∧ ∀ p, H1 p = none → D.rt (.ref p) (upd H1 p (.tup xs))
              refine tCsF_run ?_
              refine ⟨.ref a, by rw [List.getElem?_set_self hσ], rfl, rfl, dd, _, v, rfl, r.sub _ _ hv, by simp [List.lookup], ?_⟩
              refine ⟨v, z, rfl, Dq.dp z v k1 (Dq.mono r.sub z v dv), k2, k3, k4, k5, ?_⟩
              refine ⟨len _ (by rw [List.length_append, List.length_map]; have := hw h List.mem_cons_self; simp; omega), fun p hp => ?_⟩
              rw [hD]
              exact k _ (upd Hi p _) _ (Ext.fresh hp (r.fresh hp)) (r.new hp) ⟨p, _, rfl, SqT.of upd_same, DqA.append (dqa_strs _) ⟨_, [], rfl, rfl, rfl⟩⟩
            · rw [if_neg ok] at hg
              cases hg
    · unfold metOut at e
      rw [if_neg (by rw [q]; decide)] at e
      exact met_many hD r hx hσ k (fun h' m => hw h' (List.mem_cons_of_mem _ m)) (fun h' m => h1 h' (List.mem_cons_of_mem _ m)) (fun h' m => h2 h' (List.mem_cons_of_mem _ m)) e
/-! ### the def that calls its lambda in a try -/
def metE (K : PySem.W.Frag) (i n : Nat) (hs : List Hd) (Q : VK) : XK := fun cls d H => ∀ D : Ends, D.rt = Q → ∀ σ : L2.St, σ.length = n → wMany K (fun _ _ _ _ => False) D (hdL K i hs) cls d σ H
def metQ (lets : List Str) (Q : VK) : VK := fun _ H => (lets.map V.str).length ≤ sizeLine ∧ ∀ p, H p = none → Q (.ref p) (upd H p (.tup (lets.map V.str)))
def metT (K : PySem.W.Frag) (i n : Nat) (hs : List Hd) (lets : List Str) : (XK → Hp → VK → Prop) → Hp → VK → Prop := fun tl H Q => ∀ (E' : XK) (Q' : VK), (∀ cls d H', metE K i n hs Q cls d H' → E' cls d H') → (∀ v H', metQ lets Q v H' → Q' v H') → tl E' H Q'
section
variable {X : Cx} {Ng : List Str} {x a : Str} {sg : Scope} {g : Addr} {cdg : Value} {q : Str} {hs : List Hd} {lets : List Str} {h₀ : ExceptHandler} {hds : List ExceptHandler} {es : List Expr} {p1 p2 p3 p4 p5 p6 : Pos} {x1 : Nat}
theorem gives_met (S : FnScope Ng [a] sg) (hNg : Ng[0]? = some a)
    (hh : ∀ (s : Shared) (H : Hp), HdsMix (cxOf C8.CX0 X.prog X.w X.K X.mg X.base Ng x sg g cdg X.A X.stack s H C8.E0).nox (h₀ :: hds) (hdL X.K 1 hs))
    (hes : ∀ (s : Shared) (H : Hp), PA (cxOf C8.CX0 X.prog X.w X.K X.mg X.base Ng x sg g cdg X.A X.stack s H C8.E0).nox es (tCs lets)) :
    GivesTo X Ng x sg g cdg [.Try [.Expr (.Call (.Name a p1) [] [] p2) p3] (h₀ :: hds) [] [] p4, .Return (some (.Tuple es x1 p5)) p6] a q (metT X.K 1 Ng.length hs lets) := by
  intro f c' s H Q tl hcall hc' htt
  refine ⟨_, pss_cons (ps_try_mix (X := (cxOf C8.CX0 X.prog X.w X.K X.mg X.base Ng x sg g cdg X.A X.stack s H C8.E0).nox) (Wout := fun _ _ _ _ => False) rfl rfl S.nd LamX.takes0
    (fun W pn xe tk _ => pss_one (ps_expr (hcall (fun cls d σ' H' => σ'.length = Ng.length → W cls d σ' H') pn xe (fun cls d H' => ∀ σ' : L2.St, σ'.length = Ng.length → W cls d σ' H') p1 p2 ?tk fun cls d σ' H' h => h σ') rfl)) (hh s H)) (pss_one (ps_ret (pe_tup (hes s H)))), ?_⟩
  case tk =>
    rintro u s' ⟨a', B, sI, pins, σ', H', cls, d, e, J, nb, up, sky, na, os, ag, w⟩
    exact tk u s' ⟨a', B, sI, pins, σ', H', cls, d, e, J, nb, up, sky, na, os, ag, w J.len⟩
  · refine ⟨?_, hc', ?_⟩
    · show (L2.start Ng [V.ref f])[0]? = _
      cases Ng with
      | nil => cases hNg
      | cons y r => rfl
    · refine htt _ _ (fun cls d H' h σ' hl => h _ rfl σ' hl) fun v H' h => ?_
      show tCs lets _ H' fun xs H1 => xs.length ≤ sizeLine ∧ ∀ p, H1 p = none → Q (.ref p) (upd H1 p (.tup xs))
      exact tCs_run h
end
/-- the mirror: met(lambda: e) -/
def eMet (sub : String → String → Bool) (hs : List Hd) (lets : List Str) (fb : ME) : ME := fun ρ s => match fb ρ s with
  | .ok _ s' => .ok (.tuple (lets.map .str)) s'
  | .exc x s' => match metOut sub hs x with
    | some y => .ok y s'
    | none => .bad
  | .bad => .bad
theorem RS.lam {K : PySem.W.Frag} {A : List Addr} {Hi H H1 : Hp} {s : Sto} (r : RS K A Hi s H) (ex : ExtN H H1) (t : Tabs Tb.l H1) : RS K A Hi s H1 := by
  refine ⟨fun b u e => ex b u (r.sub b u e) fun ps z => r.nt b ps (by rw [e, z]), r.out, r.nd, r.len, fun i a ds ha hs => ?_, t, r.nt⟩
  obtain ⟨xs, e, d⟩ := r.cel i a ds ha hs
  exact ⟨xs, ex a _ e (by intro _ z; cases z), d⟩
theorem Ext.lam {A : List Addr} {Hi H H1 Hi' H' : Hp} (ex : ExtN H H1) (th : ∀ b, H1 b = none → H b = none) (e : Ext A Hi H1 Hi' H') : Ext A Hi H Hi' H' :=
  ⟨e.same, fun b o m n q => e.keep b o m n (ex b o q n), fun b q => th b (e.there b q), fun b q n => e.new b q fun z => n (th b z)⟩
section
variable {X : Cx} {XR' : XRel} {E : XK} {ct : CTab} {sub : String → String → Bool} {hs : List Hd} {lets : List Str} {fb : ME} {n : Nat} {t : TE}
/-- what the caller has to show -/
theorem met_use (hn : 1 < n) (hw : ∀ h ∈ hs, h.words.length ≤ 100) (hl : lets.length ≤ 100) (h1 : ∀ h ∈ hs, ∀ c C fo, ct c = some (C, fo) → PySem.W.exmOne X.K (.ref C) (.ref h.at_) = some (sub c h.cls))
    (h2 : ∀ h ∈ hs, ∀ f, h.fld = some f → ∀ c C fo, ct c = some (C, fo) → sub c h.cls = true → C = h.at_ ∧ fo = some f)
    {A : List Addr} {Hi H : Hp} {ρ : Env} {s : Sto} {σ : L2.St} {Q : VK} (r : RS X.K A Hi s H) (re : RE X.K A Hi ρ σ) (h : PO X.K A Hi H XR' E (RD X.K) Q (eMet sub hs lets fb ρ s)) :
    tLamM Tb.l (metT X.K 1 n hs lets) (fun E' => tMirE X.K (XRT X.K ct) E' fb) σ H Q := by
  refine ⟨r.tab, fun H1 ex th t1 E' Q' hE hQ => ⟨A, Hi, ρ, s, r.lam ex t1, re, ?_⟩⟩
  unfold eMet at h
  cases q : fb ρ s with
  | ok y s' =>
    rw [q] at h
    intro v Hi' H' e r' d
    refine hQ v H' ⟨by rw [List.length_map, sizeLine_eq]; omega, fun p hp => ?_⟩
    exact h (.ref p) (upd Hi' p _) _ ((Ext.lam ex th e).trans (Ext.fresh hp (r'.fresh hp))) (r'.new hp) ⟨p, _, rfl, SqT.of upd_same, dqa_strs _⟩
  | exc x s' =>
    rw [q] at h
    intro cls d Hi' H' e r' hx
    refine hE cls d H' fun D hD σ' hσ => ?_
    cases hy : metOut sub hs x with
    | none =>
      simp only [hy] at h
      exact h.elim
    | some y =>
      simp only [hy] at h
      exact met_many hD r' hx (by rw [hσ]; exact hn) (fun v Hi2 H2 e2 r2 d2 => h v Hi2 H2 ((Ext.lam ex th e).trans e2) r2 d2) hw h1 h2 hy
  | bad =>
    rw [q] at h
    exact h.elim
end
end Mir

namespace Mir
open PySem PySem.Spec PyProof.Rows L2 LamX
set_option linter.all false
variable [Tb]
/-! ### met(lambda: e), whole -/
section
variable {X : Cx} {XR' : XRel} {E : XK} {ct : CTab} {sub : String → String → Bool} {hs : List Hd} {lets : List Str} {fb : ME} {x a : Str} {st : Stmt} {g c P : Addr} {fd : FuncData} {k : Nat} {Ng : List Str} {params : Arguments} {body : Expr} {scope : Scope} {p lpos pos p1 p2 p3 p4 p5 p6 : Pos} {h₀ : ExceptHandler} {hds : List ExceptHandler} {es : List Expr} {x1 : Nat}
theorem se_met (F : Fun X.K x x st g fd) (S : FnScope Ng [a] (defScope st)) (hst : defBody st = [.Try [.Expr (.Call (.Name a p1) [] [] p2) p3] (h₀ :: hds) [] [] p4, .Return (some (.Tuple es x1 p5)) p6]) (hNg : Ng[0]? = some a) (hva : Vis (defScope st) a) (hn : 1 < Ng.length)
    (hh : ∀ (cdg : Value) (s : Shared) (H : Hp), HdsMix (cxOf C8.CX0 X.prog X.w X.K X.mg X.base Ng x (defScope st) g cdg X.A X.stack s H C8.E0).nox (h₀ :: hds) (hdL X.K 1 hs))
    (hes : ∀ (cdg : Value) (s : Shared) (H : Hp), PA (cxOf C8.CX0 X.prog X.w X.K X.mg X.base Ng x (defScope st) g cdg X.A X.stack s H C8.E0).nox es (tCs lets))
    (hw : ∀ h ∈ hs, h.words.length ≤ 100) (hl : lets.length ≤ 100) (h1 : ∀ h ∈ hs, ∀ c C fo, ct c = some (C, fo) → PySem.W.exmOne X.K (.ref C) (.ref h.at_) = some (sub c h.cls)) (h2 : ∀ h ∈ hs, ∀ f, h.fld = some f → ∀ c C fo, ct c = some (C, fo) → sub c h.cls = true → C = h.at_ ∧ fo = some f)
    (hg : Gl X x) (hm : X.mg x = some (.ref g)) (hk : PySem.W.keepIn X.K (.ref g) = true) (hb : L2.Binds X.K fd [a] []) (TB : TabB X.base X.mg c P) (hcode : X.env.code = .ref c) (hmT : (P, lamN X) ∈ Tb.l) (hu : ∀ p ∈ Tb.l, p.1 = P → p.2 = lamN X)
    (hr : Room (k + 2) X.A) (L : LamS X.env.scope scope) (hdef : defaultsOf params X.env = ([], [])) (hbind : ∀ (q : Str) (cl : List (Str × Addr)) (pm cv ctv : Value), bindArgs (PySem.W.kla_fn (Str.ofString "<lambda>") q params body scope cl pm cv ctv) ⟨[], []⟩ = pure [])
    (hfb : ∀ (A : Around) (outer : List PySem.Env) (s : Shared) (H : Hp) (E' : XK) (f c' : Addr), Room k (A.deeper (lamEnv X scope s.heap.objs.size f c')) → Takes (lamCx X A outer s H E' scope f c') (eW E') → SE (lamCx X A outer s H E' scope f c') (XRT X.K ct) E' body fb)
    (hdb : (x == ("__debug__" : Str)) = false := by decide) (hd : (a == ("__debug__" : Str)) = false := by decide) (hcd : (a == ("__classdict__" : Str)) = false := by decide) :
    SE X XR' E (.Call (.Name x p) [.Lambda params body scope lpos] [] pos) (eMet sub hs lets fb) := by
  obtain ⟨oc, od, kV, doc, pm, an, cdv, ct', osl, rfl, lk, hcg⟩ := F.ex
  have G : GivesTo X Ng x (defScope st) g cdv (defBody st) a (lamN X) (metT X.K 1 Ng.length hs lets) := by
    rw [hst]
    exact gives_met S hNg (hh cdv) (hes cdv)
  refine ⟨_, pe_lamM (T := Tb.l) (t := fun E' => tMirE X.K (XRT X.K ct) E' fb) hg hm hk lk hcg hb S hNg hva G TB hcode hmT hu hr L hdef hbind (fun A outer s H E' f c' hr' => (hfb A outer s H E' f c' hr' (L2.takes_of rfl rfl rfl rfl)).weak) hdb hd hcd, fun A Hi ρ s σ H r re Q h => met_use hn hw hl h1 h2 r re h⟩
end
end Mir

namespace Mir
open PySem PySem.Spec PyProof.Rows L2
set_option linter.all false
variable [Tb]
/-! ### for x in (f, g, ..): defs as values -/
def forF (j : Nat) (body : MS) : List Nat → MS
  | [], ρ, s => .nx ρ s
  | d :: ds, ρ, s => match body (ρ.set j (some (.f d))) s with
      | .nx ρ2 s2 => forF j body ds ρ2 s2
      | .ct ρ2 s2 => forF j body ds ρ2 s2
      | .bk ρ2 s2 => .nx ρ2 s2
      | .rt x s2 => .rt x s2
      | .exc x s2 => .exc x s2
      | .bad => .bad
def mForF (j : Nat) (ds : List Nat) (body : MS) : MS := fun ρ s => forF j body ds ρ s
section
variable {X : Cx} {XR : XRel} {E : XK}
/-- what a tuple of defs gives, turn by turn -/
def FOk (K : PySem.W.Frag) (Hi : Hp) (J : It) (ds : List Nat) : Prop := ∀ A' Hi' s' H', Same Hi Hi' → RS K A' Hi' s' H' → ∀ i, (∀ d, ds[i]? = some d → J.go i H' ∧ ∀ x H'', J.yld i H' x H'' → H'' = H' ∧ ∃ a, Tb.fs[d]? = some a ∧ x = .ref a) ∧ (i = ds.length → J.stop i H')
theorem forF_ok {A : List Addr} {Hi H : Hp} {ρ : Env} {s : Sto} {σ : L2.St} {D : Ends} {J : It} {ds : List Nat} {j : Nat} {tb : TS} {body : MS} (r : RS X.K A Hi s H) (re : RE X.K A Hi ρ σ) (hJ : FOk X.K Hi J ds)
    (hb : ∀ A Hi ρ s σ H, RS X.K A Hi s H → RE X.K A Hi ρ σ → ∀ D, PF X.K A Hi H XR E D (body ρ s) → tb D σ H) (h : PF X.K A Hi H XR E D (forF j body ds ρ s)) :
    ∃ W : Nat → Nat → L2.St → Hp → Prop, (∃ m, W 0 m σ H) ∧ ∀ i m σ H, W i m σ H →
      (J.stop i H ∧ D.nx σ H) ∨ (J.go i H ∧ ∃ N : L2.St → Hp → Prop, (∀ σ' H', N σ' H' → ∃ m', m' < m ∧ W (i + 1) m' σ' H') ∧ ∀ x H', J.yld i H x H' → gName j x σ H' fun σ2 H2 => tb { D with nx := N, ct := N, bk := D.nx } σ2 H2) := by
  refine ⟨fun i m σ' H' => ∃ A' Hi' ρ' s', Same Hi Hi' ∧ RS X.K A' Hi' s' H' ∧ RE X.K A' Hi' ρ' σ' ∧ m = ds.length - i ∧ i ≤ ds.length ∧ PF X.K A' Hi' H' XR E D (forF j body (ds.drop i) ρ' s'),
    ⟨_, A, Hi, ρ, s, Same.refl _, r, re, rfl, Nat.zero_le _, h⟩, ?_⟩
  rintro i m σ' H' ⟨A', Hi', ρ', s', sm, r', re', rfl, hi, h'⟩
  by_cases hl : i < ds.length
  · obtain ⟨go, yl⟩ := (hJ A' Hi' s' H' sm r' i).1 ds[i] (List.getElem?_eq_getElem hl)
    rw [List.drop_eq_getElem_cons hl] at h'
    refine .inr ⟨go, fun σ2 H2 => ∃ A2 Hi2 ρ2 s2, Same Hi Hi2 ∧ RS X.K A2 Hi2 s2 H2 ∧ RE X.K A2 Hi2 ρ2 σ2 ∧ PF X.K A2 Hi2 H2 XR E D (forF j body (ds.drop (i + 1)) ρ2 s2), ?_, ?_⟩
    · rintro σ2 H2 ⟨A2, Hi2, ρ2, s2, a1, a2, a3, a4⟩
      exact ⟨ds.length - (i + 1), by omega, A2, Hi2, ρ2, s2, a1, a2, a3, rfl, hl, a4⟩
    · intro x H'' y
      obtain ⟨rfl, a, ha, rfl⟩ := yl x H'' y
      unfold forF at h'
      have re1 : RE X.K A' Hi' (ρ'.set j (some (.f ds[i]))) (σ'.set j (some (.ref a))) := RE.set re' (x := .f ds[i]) ⟨a, ha, rfl⟩
      show tb _ (σ'.set j (some (.ref a))) _
      refine hb A' Hi' _ s' _ _ r' re1 _ ?_
      cases hB : body (ρ'.set j (some (.f ds[i]))) s' with
      | nx ρ2 s2 =>
        simp only [hB] at h'
        exact fun A3 Hi3 σ3 H3 e3 r3 re3 => ⟨A3, Hi3, ρ2, s2, sm.trans e3.ext.same, r3, re3, PF.back e3 h'⟩
      | ct ρ2 s2 =>
        simp only [hB] at h'
        exact fun A3 Hi3 σ3 H3 e3 r3 re3 => ⟨A3, Hi3, ρ2, s2, sm.trans e3.ext.same, r3, re3, PF.back e3 h'⟩
      | bk ρ2 s2 => simp only [hB] at h'; exact h'
      | rt x s2 => simp only [hB] at h'; exact h'
      | exc x s2 => simp only [hB] at h'; exact h'
      | bad => simp only [hB] at h'; exact h'
  · have ei : i = ds.length := by omega
    subst ei
    rw [List.drop_length] at h'
    exact .inl ⟨(hJ A' Hi' s' H' sm r' ds.length).2 rfl, h' A' Hi' σ' H' .refl r' re'⟩
def tRefs : List Addr → TA
  | [] => tNil
  | a :: r => tCons (tC (.ref a)) (tRefs r)
theorem tRefs_run {σ : L2.St} {H : Hp} {Q : List V → Hp → Prop} : ∀ {as : List Addr}, Q (as.map V.ref) H → tRefs as σ H Q
  | [], q => q
  | a :: r, q => by
    show tRefs r σ H fun vs H2 => Q (.ref a :: vs) H2
    exact tRefs_run q
theorem ss_forF {es : List Expr} {x : Str} {body : List Stmt} {gb : MS} {ds : List Nat} {as : List Addr} {j k0 : Nat} {xp tpos pos : Pos} (hp : PassesOwn (model X.prog X.w) X.A X.env X.xe) (hc : X.calm = true) (ha : PA X es (tRefs as)) (hl : as.length = ds.length) (hs1 : ds.length ≤ 1000)
    (hf : ∀ (i d : Nat), ds[i]? = some d → ∃ a, as[i]? = some a ∧ Tb.fs[d]? = some a) (hN : X.N.Nodup) (hj : X.N[j]? = some x) (hx : L2.Loc X.env.scope x) (hfn : X.fn x = true ∨ X.env.scope.names.lookup x = some .local) (hb : SB X XR E body gb)
    (hs : ∀ y, foldedSetIterable (.Tuple es k0 tpos) X.env y = pure y := by intro _; rfl) : SS X XR E (.For (.Name x xp) (.Tuple es k0 tpos) body [] pos) (mForF j ds gb) := by
  obtain ⟨tb, pb, qb⟩ := hb
  refine ⟨_, ps_for hp hc (pi_tup (pe_tup ha)) (pg_name (i := j) hN hj hx hfn) pb hs, fun A Hi ρ s σ H r re D h => ?_⟩
  show tRefs as σ H _
  refine tRefs_run ⟨by rw [List.length_map, sizeLine_eq, hl]; omega, fun p hp0 => ⟨p, rfl, ⟨_, SqT.of upd_same⟩, ?_⟩⟩
  have e : Ext A Hi H (upd Hi p (.tup (as.map V.ref))) (upd H p (.tup (as.map V.ref))) := Ext.fresh hp0 (r.fresh hp0)
  refine forF_ok (r.new hp0) (re.mono e.same pfx) (fun A' Hi' s' H' sm r' i => ⟨fun d hd => ?_, fun hi => ?_⟩) qb (PF.back e.s h)
  · obtain ⟨a, h1, h2⟩ := hf i d hd
    have hx : SqT X.K H' p (as.map V.ref) := sqt_mono r'.sub (sqt_mono sm (SqT.of upd_same))
    have hv : (as.map V.ref)[i]? = some (.ref a) := by rw [List.getElem?_map, h1]; rfl
    refine ⟨⟨_, .ref a, hx, hv⟩, fun x H'' y => ?_⟩
    obtain ⟨e', y⟩ := y
    have q := y _ hx
    rw [hv] at q
    cases q
    exact ⟨e', a, h2, rfl⟩
  · exact ⟨_, sqt_mono r'.sub (sqt_mono sm (SqT.of upd_same)), by rw [List.length_map, hl]; omega⟩
end
end Mir

namespace Mir
open PySem PySem.Spec PyProof.Rows L2
set_option linter.all false
variable [Tb]
/-! ### a call of a name that holds a def -/
theorem pe_some {X : Cx} {e : Expr} {ι : Type} {p : ι → Prop} {t : ι → TE} (h : ∀ i, p i → PE X e (t i)) : PE X e (fun σ H Q => ∃ i, p i ∧ t i σ H Q) := by
  refine ⟨fun pins s σ H Q I g => ?_⟩
  obtain ⟨i, pi, g⟩ := g
  exact (h i pi).run pins s σ H Q I g
def eCallV (j n : Nat) (tbl : List MF) (fa : MA) : ME := fun ρ s => match ρ[j]? with
  | some (some (.f i)) => (match tbl[i]? with
    | some F => (fa ρ s).bind fun as s => if as.length = n then F as s else .bad
    | none => .bad)
  | _ => .bad
section
variable {X : Cx} {XR : XRel} {E : XK} {k n j : Nat} {ps : List Str} {tbl : List MF} {e : Expr} {es : List Expr} {ma : MA} {x : Str} {p pos : Pos}
/-- what is known of the i-th def -/
def Has (X : Cx) (XR : XRel) (k n : Nat) (i : Nat) (F : MF) : Prop := ∃ (f : Addr) (fd : FuncData) (ps : List Str), Tb.fs[i]? = some f ∧ PySem.W.keepIn X.K (.ref f) = true ∧ Binds X.K fd ps [] ∧ FnOk X.prog X.w X.K X.mg X.base (L2.CX X.prog X.w) k f fd ps (spM X.K XR n F)
theorem se_callV (tk : Takes X (eW E)) (hG : ∀ (i : Nat) (F : MF), tbl[i]? = some F → Has X XR k n i F) (hr : Room k X.A) (hN : X.N[j]? = some x) (hv : Vis X.env.scope x) (ha : SA X XR E (e :: es) ma) (hdb : (x == ("__debug__" : Str)) = false := by decide) (hcd : (x == ("__classdict__" : Str)) = false := by decide)
    (he : starEach (e :: es) X.env = (false, eval e X.env) :: starEach es X.env := by rfl) (hpl : (backTo pos (starEach es X.env)).any (·.1) = false := by rfl) :
    SE X XR E (.Call (.Name x p) (e :: es) [] pos) (eCallV j n tbl ma) := by
  obtain ⟨t, pa, qa⟩ := ha
  refine ⟨_, pe_some (p := fun q : Nat × MF × Addr => tbl[q.1]? = some q.2.1 ∧ Tb.fs[q.1]? = some q.2.2) (t := fun q => tCallL j q.2.2 (spM X.K XR n q.2.1) [] E t) fun q hq => ?_, fun A Hi ρ s σ H r re Q h => ?_⟩
  · obtain ⟨f, fd, ps, h1, h2, h3, h4⟩ := hG q.1 q.2.1 hq.1
    have e1 : q.2.2 = f := by
      have z := hq.2
      rw [h1] at z
      exact (Option.some.inj z).symm
    rw [e1]
    exact pe_callL h4 hr hN hv h2 h3 .nil (fun pins σ => passAt (W := eW E) tk σ pins) pa (by assumption) (by assumption) he hpl
  · unfold eCallV at h
    split at h
    · rename_i i hi
      split at h
      · rename_i F hF
        obtain ⟨f, fd, ps, h1, h2, h3, h4⟩ := hG i F hF
        obtain ⟨v, hv1, a, ha1, rfl⟩ := re.2 j _ hi
        refine ⟨(i, F, a), ⟨hF, ha1⟩, hv1, qa A Hi ρ s σ H r re _ (PO.bind h fun as s1 vs Hi1 H1 _ e1 r1 d h1 => ?_)⟩
        rw [List.append_nil]
        split at h1
        · rename_i hn
          exact ⟨A, Hi1, as, s1, hn, r1, d, h1⟩
        · exact h1.elim
      · exact h.elim
    · exact h.elim
end
end Mir

namespace Mir
open PySem PySem.Spec PyProof.Rows L2
set_option linter.all false
variable [Tb]
/-! ### a list of the store beside data: xs == e -/
def eEqL (neg : Bool) (fl : ML) (fb : ME) : ME := fun ρ s => (fl ρ s).bind fun b s => match b with
  | .c n => (fb ρ s).bind fun y s => (match s[n]? with
    | some ds => if SeqAt.shaped (.list ds) = true ∧ SeqAt.shaped y = true then .ok (.bool (neg != PyData.eqv (.list ds) y)) s else .bad
    | none => .bad)
  | _ => .bad
section
variable {X : Cx} {XR : XRel} {E : XK} {a b : Expr} {fl : ML} {fb : ME} {pos : Pos}
theorem se_eqL (hu : X.A.units + 64 < cLine) (ha : SL X XR E a fl) (hb : SE X XR E b fb) : SE X XR E (.Compare a [.Eq] [b] pos) (eEqL false fl fb) := by
  obtain ⟨tl, pl, ql⟩ := ha
  obtain ⟨tb, pb, qb⟩ := hb
  refine ⟨_, pe_cmpR (op_eqD hu) pl pb (nomark _), fun A Hi ρ s σ H r re Q h => ql A Hi ρ s σ H r re _ (PO.bind h fun u s1 v Hi1 H1 _ e1 r1 d1 h1 => ?_)⟩
  cases u with
  | c n =>
    refine qb A Hi1 ρ s1 σ H1 r1 (re.mono e1.same pfx) _ (PO.bind h1 fun y s2 w Hi2 H2 _ e2 r2 d2 h2 => ?_)
    cases hs : s2[n]? with
    | none => simp only [hs] at h2; exact h2.elim
    | some ds =>
      simp only [hs] at h2
      split at h2
      · rename_i c
        obtain ⟨l, hl, rfl⟩ := d1
        obtain ⟨xs, e, dd⟩ := r2.cel n l ds hl hs
        have c1 : PyData.canLay0 (.list ds) = true := SeqAt.canLay_of_shaped c.1
        refine ⟨.list ds, y, .lst (SqL.of e) (DqA.dp ds xs (by simpa [PyData.canLay0] using c1) (DqA.mono r2.sub ds xs dd)), Dq.dp y w (SeqAt.canLay_of_shaped c.2) (Dq.mono r2.sub _ _ d2), c.1, c.2, ?_⟩
        refine h2.use r2 ?_
        show _ = _
        simp
      · exact h2.elim
  | d _ => exact h1.elim
  | s _ => exact h1.elim
  | f _ => exact h1.elim
end
end Mir
namespace Mir
open PySem PySem.Spec PyProof.Rows L2
variable [Tb]
/-! ### a list display times an int -/
def gMulL : PyData → PyData → Sto → Out PyData := fun x y s => match x, y with
  | .list ds, .int k => if 0 ≤ k ∧ k ≤ 1000 ∧ ds.length ≤ 1000 then .ok (.list (List.replicate k.toNat ds).flatten) s else .bad
  | _, _ => .bad
section
variable {X : Cx} {XR : XRel} {E : XK} {a b : Expr} {fa fb : ME} {pos : Pos}
theorem gb_mulL : GB X XR E L2.rRep gMulL := by
  intro A Hi s H x y v w Q r dx dy h
  unfold gMulL at h
  split at h
  · rename_i ds k
    obtain ⟨l, xs, rfl, h1, h2⟩ := dx
    cases (show w = _ from dy)
    split at h
    · rename_i hc
      have hk : k.toNat ≤ 1000 := by omega
      have hm : ds.length * k.toNat ≤ 1000 * 1000 := Nat.mul_le_mul hc.2.2 hk
      refine ⟨l, k, xs, rfl, rfl, r.sub _ _ h1, by omega, by omega, by rw [h2.length, sizeLine_eq]; omega, fun p hp => ?_⟩
      exact h.out (Ext.fresh hp (r.fresh hp)) (r.new hp) ⟨p, _, rfl, upd_same, DqA.mono (same_upd (r.fresh hp)) _ _ (dqa_rep h2 _)⟩
    · exact h.elim
  · exact h.elim
theorem se_mulL (ha : SE X XR E a fa) (hb : SE X XR E b fb) : SE X XR E (.BinOp a .Mult b pos) (eBin gMulL fa fb) := se_bin (fun _ _ p q => pe_op op_rep p q) gb_mulL ha hb
end
end Mir

namespace Mir
open PySem PySem.Spec PyProof.Rows L2 LamX
set_option linter.all false
variable [Tb]
/-! ### a, b = [..], [..]: the first list in the store, the second one data -/
def mParCD (i j : Nat) (f : MD) (fb : ME) : MS := fun ρ s => toFl (f ρ s) fun ds s1 => toFl (fb ρ s1) fun y s2 => .nx ((ρ.set i (some (.c s2.length))).set j (some (.d y))) (s2 ++ [ds])
section
variable {X : Cx} {XR : XRel} {E : XK} {a b : Expr} {f : MD} {fb : ME} {pos : Pos}
theorem ss_parCD (i j : Nat) {x y : Str} {px py pt : Pos} {kt k2 pt2} (hc : X.calm = true) (hN : X.N.Nodup) (hi : X.N[i]? = some x) (hj : X.N[j]? = some y) (hij : i ≠ j)
    (hx : X.env.scope.names.lookup x = some .local) (hy : X.env.scope.names.lookup y = some .local) (ha : SC X XR E a f) (hb : SE X XR E b fb)
    (hw : swappedStores [.Tuple [.Name x px, .Name y py] kt pt] (.Tuple [a, b] k2 pt2) X.env = pure (some [x, y])) (h1 : starEach [a, b] X.env = (false, eval a X.env) :: starEach [b] X.env := by rfl) (h2 : starEach [b] X.env = (false, eval b X.env) :: starEach [] X.env := by rfl)
    (hs : swapsWithSole [.Tuple [.Name x px, .Name y py] kt pt] (.Tuple [a, b] k2 pt2) pos.line X.env = pure false := by rfl) :
    SS X XR E (.Assign [.Tuple [.Name x px, .Name y py] kt pt] (.Tuple [a, b] k2 pt2) pos) (mParCD i j f fb) := by
  obtain ⟨ta, pa, qa⟩ := ha
  obtain ⟨tb, pb, qb⟩ := hb
  refine ⟨_, ps_par hc hN hi hj hij hx hy (pa_cons pa (pa_cons pb pa_nil h2) h1) hw hs, fun A Hi ρ s σ H r re D h => ?_⟩
  refine qa A Hi ρ s σ H r re _ ?_
  unfold mParCD at h
  cases hf : f ρ s with
  | bad => rw [hf] at h; exact h
  | exc x s1 =>
    rw [hf] at h
    exact fun c d H1 H2 e1 r q => h c d A H1 H2 e1.s r q
  | ok ds s1 =>
    rw [hf] at h
    rintro v Hi1 H1 e1 r1 ⟨p, xs, rfl, q1, q2, q3, q4, q5⟩
    refine qb A Hi1 ρ s1 σ H1 r1 (re.mono e1.same pfx) _ ?_
    replace h : PF X.K A Hi H XR E D (toFl (fb ρ s1) fun y s2 => .nx ((ρ.set i (some (.c s2.length))).set j (some (.d y))) (s2 ++ [ds])) := h
    cases hg : fb ρ s1 with
    | bad => rw [hg] at h; exact h
    | exc x s2 =>
      rw [hg] at h
      exact fun c d H2 H3 e2 r q => h c d A H2 H3 (e1.trans e2).s r q
    | ok y s2 =>
      rw [hg] at h
      intro w Hi2 H2 e2 r2 d2
      have q1' : H2 p = some (.lst xs) := e2.keep p _ q4 (by intro _ z; cases z) q1
      have q2' : Hi2 p = none := e2.new p q2 (by rw [q1]; simp)
      have r3 := r2.take1 q1' q2' q4 (DqA.mono e2.same _ _ q5)
      refine ⟨.ref p, w, rfl, ?_⟩
      refine h (A ++ [p]) Hi2 _ H2 ⟨e1.trans e2, List.prefix_append _ _, fun a m n => ?_⟩ r3 ?_
      · rcases List.mem_append.mp m with m | m
        · exact absurd m n
        · have : a = p := by simpa using m
          rw [this]
          exact q3
      · refine RE.set (RE.set ((re.mono e1.same pfx).mono e2.same (List.prefix_append _ _)) (x := .c s2.length) ⟨p, ?_, rfl⟩) (x := .d y) d2
        rw [← r2.len]
        simp
end
/-! ### what clauses make of an error, without addresses -/
abbrev HdP := String × List Str × Option Str
def metP (sub : String → String → Bool) : List HdP → Exn → Option PyData
  | [], _ => none
  | h :: r, x => if sub x.cls h.1 then (match h.2.2, x.arg with
      | none, _ => some (.tuple (h.2.1.map .str))
      | some _, some y => (gRepr y).map fun z => .tuple (h.2.1.map .str ++ [z])
      | some _, none => none) else metP sub r x
def hdP (h : Hd) : HdP := (h.cls, h.words, h.fld)
theorem metP_eq {sub : String → String → Bool} {x : Exn} : ∀ hs : List Hd, metOut sub hs x = metP sub (hs.map hdP) x
  | [] => rfl
  | h :: r => by
    show metOut sub (h :: r) x = metP sub (hdP h :: r.map hdP) x
    unfold metOut metP
    rw [metP_eq r]
    rfl
def eMetP (sub : String → String → Bool) (hs : List HdP) (lets : List Str) (fb : ME) : ME := fun ρ s => match fb ρ s with
  | .ok _ s' => .ok (.tuple (lets.map .str)) s'
  | .exc x s' => match metP sub hs x with
    | some y => .ok y s'
    | none => .bad
  | .bad => .bad
theorem eMetP_eq {sub : String → String → Bool} {hs : List Hd} {lets : List Str} {fb : ME} : eMet sub hs lets fb = eMetP sub (hs.map hdP) lets fb := by
  funext ρ s
  unfold eMet eMetP
  cases fb ρ s with
  | ok a b => rfl
  | exc x s' =>
    show (match metOut sub hs x with | some y => Out.ok y s' | none => Out.bad) = _
    rw [metP_eq]
  | bad => rfl
/-! ### clauses, one by one -/
section
variable {X : Cx} {i : Nat} {h : Hd} {hs : List Hd} {x : Str} {es : List Expr} {x1 : Nat} {np pos' p5 p6 : Pos} {hds : List ExceptHandler}
theorem hd_no (hc : Names X x (.ref h.at_)) (hf : h.fld = none) (hes : ∀ (a : Addr) (oe : Obj) (pn : List (Addr × Obj)), PA (X.suite a ((a, oe) :: pn)) es (tCs h.words)) (r : HdsMix X hds (hdL X.K i hs)) :
    HdsMix X (.ExceptHandler (some (.Name x np)) none [.Return (some (.Tuple es x1 p5)) p6] pos' :: hds) (hdL X.K i (h :: hs)) := by
  have e : hdT X.K i h = fun a cls d => tRet (tTup (tCs h.words)) := by
    unfold hdT
    rw [hf]
  show HdsMix X _ ((.ref h.at_, hdT X.K i h) :: hdL X.K i hs)
  rw [e]
  exact .no hc (fun a oe cls d pn _ _ => pss_one (ps_ret (pe_tup (hes a oe pn)))) r
theorem hd_as {n f : Str} (hc : Names X x (.ref h.at_)) (hf : h.fld = some f) (hi : X.N[i]? = some n) (hln : X.env.kindOf n = some .local)
    (hes : ∀ (a : Addr) (oe : Obj) (cls : Value) (d : Option Addr) (pn : List (Addr × Obj)), Zc cls d oe → (∃ vs, oe.data = .fields vs) → PA (X.suite a ((a, oe) :: pn)) es (tCsF (tCB (rRep X.K) (tCons (tXf a cls d h.at_ f (tVar i)) tNil)) h.words)) (r : HdsMix X hds (hdL X.K i hs)) :
    HdsMix X (.ExceptHandler (some (.Name x np)) (some n) [.Return (some (.Tuple es x1 p5)) p6] pos' :: hds) (hdL X.K i (h :: hs)) := by
  have e : hdT X.K i h = fun a cls d D σ H => tRet (tTup (tCsF (tCB (rRep X.K) (tCons (tXf a cls d h.at_ f (tVar i)) tNil)) h.words)) (asEnds i D) (List.set σ i (some (.ref a))) H := by
    unfold hdT
    rw [hf]
  show HdsMix X _ ((.ref h.at_, hdT X.K i h) :: hdL X.K i hs)
  rw [e]
  exact .as (ts := fun a cls d => tRet (tTup (tCsF (tCB (rRep X.K) (tCons (tXf a cls d h.at_ f (tVar i)) tNil)) h.words))) hi hln hc (fun a oe cls d pn z hf => pss_one (ps_ret (pe_tup (hes a oe cls d pn z hf)))) r
theorem xf_repr {a : Addr} {oe : Obj} {cls : Value} {d : Option Addr} {pn : List (Addr × Obj)} {n f : Str} {C : Addr} {p1 p2 p3 p4 : Pos} (T : XfC X.K C) (hno : PySem.W.findIn X.K (.ref C) f = some none) (z : Zc cls d oe) (hf : ∃ vs, oe.data = .fields vs)
    (he : PE (X.suite a ((a, oe) :: pn)) (.Name n p1) (tVar i)) (hgd : X.A.guards = some []) (hu : X.A.units + 200 < cLine) (hg : Gl X "repr") (hm : X.mg "repr" = none)
    (hb : attributeBase (.Name n p1) f X.env (eval (.Name n p1) X.env) = eval (.Name n p1) X.env := by rfl) (h1 : starEach [.Attribute (.Name n p1) f p2] X.env = (false, eval (.Attribute (.Name n p1) f p2) X.env) :: starEach [] X.env := by rfl) :
    PE (X.suite a ((a, oe) :: pn)) (.Call (.Name "repr" p3) [.Attribute (.Name n p1) f p2] [] p4) (tCB (rRep X.K) (tCons (tXf a cls d C f (tVar i)) tNil)) :=
  pe_callB (X := X.suite a ((a, oe) :: pn)) (call_repr_any (X := X.suite a ((a, oe) :: pn)) hgd hu) hg hm (by decide +kernel) (pa_cons (pe_xf T hno z hf he hb) pa_nil h1) (by decide) (by decide) h1
end
/-! ### defs with tables of code objects -/
structure FunC (K : PySem.W.Frag) (x qual : Str) (st : Stmt) (f : Addr) (fd : FuncData) (c : Addr) : Prop where
  ex : ∃ (oc : Value) (od : Option Addr) (kV doc pm : Value) (an : Option Addr) (ct : Value) (osl : Array (Option Value)),
    fd = PySem.W.fnOf x qual (defArgs st) (defBody st) (defScope st) .none kV doc pm an (.ref c) ct ∧ K.lookup f = some ⟨oc, od, .func fd, osl⟩ ∧ PySem.W.codeIn K (.ref c) qual = true
section
variable {P : Program} {w : World} {K : PySem.W.Frag} {mg : Str → Option Value} {base : Heap}
theorem funC_mk {x qual : Str} {st : Stmt} {f c : Addr} {oc : Value} {od an : Option Addr} {osl : Array (Option Value)} {kV doc pm ct : Value} (l : K.lookup f = some ⟨oc, od, .func (PySem.W.fnOf x qual (defArgs st) (defBody st) (defScope st) .none kV doc pm an (.ref c) ct), osl⟩)
    (h : PySem.W.codeIn K (.ref c) qual = true) : FunC K x qual st f (PySem.W.fnOf x qual (defArgs st) (defBody st) (defScope st) .none kV doc pm an (.ref c) ct) c := ⟨⟨oc, od, kV, doc, pm, an, ct, osl, rfl, l, h⟩⟩
theorem fn_mirGC {XR : XRel} {x qual : Str} {st : Stmt} {f c : Addr} {fd : FuncData} {N ps : List Str} {k : Nat} {g : MS} (F : FunC K x qual st f fd c) (S : FnScope N ps (defScope st)) (hx : ∀ x H c d, ¬ XR x H c d)
    (hb : ∀ (A : Around) (outer : List PySem.Env) (s : Shared) (H : Hp) (E : XK), A.guards = some [] → Room k (A.deeper (envOfC qual (defScope st) s.heap.objs.size f (.ref c))) → SB (cxOf CX0 P w K mg base N qual (defScope st) f (.ref c) A outer s H E).nox XR E0 (defBody st) g) :
    FnG P w K mg base CX0 (k + 1) f fd ps (spM K XR ps.length (mkF N.length g)) := by
  obtain ⟨oc, od, kV, doc, pm, an, ct, osl, rfl, lk, hcd⟩ := F.ex
  refine fnG_of lk hcd S (fun vs H Q E h => ?_) (fun A outer s H vs Q E hgd hr h => ?_)
  · obtain ⟨_, _, as, _, h1, _, h2, _⟩ := h
    rw [h2.length, h1]
  · obtain ⟨A', Hi, as, s', _, r, rl, h⟩ := h
    obtain ⟨t, p, q⟩ := hb A outer s H E hgd hr
    exact ⟨t, PSs.nox p, q A' Hi (env0 N.length as) s' _ H r (re_start rl) _ (fin_ok r (PO.noexc hx h))⟩
theorem FnG.imp {CX : CXT} {k : Nat} {f : Addr} {fd : FuncData} {ps : List Str} {sp sp' : Sp} (G : FnG P w K mg base CX k f fd ps sp) (h : ∀ vs H Q E, sp' vs H Q E → sp vs H Q E) : FnG P w K mg base CX k f fd ps sp' :=
  ⟨fun vs H Q E q => G.len vs H Q E (h vs H Q E q), fun A outer s H args us vs Q E hr hgd e0 hb r q => G.run A outer s H args us vs Q E hr hgd e0 hb r (h vs H Q E q)⟩
theorem tabs0 {l : List (Addr × Str)} {H : Hp} (h : ∀ p ∈ l, H p.1 = some (.tbl #[])) : LamX.Tabs l H := fun p m => ⟨#[], h p m, by first | trivial | simp [PySem.W.TriplesOk] | decide, fun pos cv e => by cases e⟩
theorem fnok_up {CX : CXT} {j k : Nat} {f : Addr} {fd : FuncData} {ps : List Str} {sp : Sp} (G : FnOk P w K mg base CX j f fd ps sp) (h : j ≤ k) : FnOk P w K mg base CX k f fd ps sp :=
  ⟨G.len, fun A outer s H args us vs Q E hr => G.run A outer s H args us vs Q E (hr.mono h)⟩
end
theorem for_ds {ds : List Nat} {as fs : List Addr} (e : Tb.fs = fs) (h : as.map some = ds.map fun d => fs[d]?) : ∀ (i d : Nat), ds[i]? = some d → ∃ a, as[i]? = some a ∧ Tb.fs[d]? = some a := by
  intro i d hd
  have q := congrArg (fun l : List (Option Addr) => l[i]?) h
  simp only [List.getElem?_map, hd, Option.map_some] at q
  cases ha : as[i]? with
  | none => rw [ha] at q; cases q
  | some a =>
    rw [ha] at q
    refine ⟨a, rfl, ?_⟩
    rw [e]
    exact (Option.some.inj q).symm
theorem mem_at {α : Type} {l : List α} {x : α} {i : Nat} (h : l[i]? = some x) : x ∈ l := List.mem_of_getElem? h
theorem mem_l {l : List (Addr × Str)} {x : Addr × Str} {i : Nat} (e : Tb.l = l) (h : l[i]? = some x) : x ∈ Tb.l := by
  rw [e]
  exact mem_at h
end Mir
theorem L2.Room.u200 {k : Nat} {A : PySem.Around} (r : L2.Room k A) : A.units + 200 < PySem.cLine := by
  have := r.un
  omega
namespace PySem.OwnEx
/-- a class below a built-in error -/
abbrev excCls (nm q : Str) (C N : Addr) (bs bm : List Value) (sn : List Str) (sub : List Value) (ab : Bool) (col : Option Bool) (dd : Option Addr) (k0 k1 k2 k3 k5 : Option Value) (newId : String) : Obj := excClassObj nm q C N bs bm true sn sub ab col dd k0 k1 k2 k3 k5 newId
end PySem.OwnEx

namespace Fn
open PySem Mir
def subT : String → String → Bool := fun c h => decide (c = h)
def hdsP : List HdP := [("InvalidGrid", [Str.ofString "refused", Str.ofString "grid"], none), ("InvalidRow", [Str.ofString "refused", Str.ofString "row"], none), ("InvalidOperation", [Str.ofString "refused", Str.ofString "fit"], none), ("InvalidNumber", [Str.ofString "refused", Str.ofString "number"], some (Str.ofString "given")), ("TooMany", [Str.ofString "refused", Str.ofString "many"], some (Str.ofString "most"))]
def letsT : List Str := [Str.ofString "let"]
def run_plain_dot : MF := mkF 4 (mRet (eSl (gInts fun ns => .int ns.sum) (eL (eFr (cComp (iZp (eVar 0) (eVar 1)) (gTp [2, 3]) mYes (eBin gMulA (eVar 2) (eVar 3)) [2, 3])))))
def run_row_more : MF := mkF 4 (mRet (eSl gTuple (eL (eFr (cComp (iZp (eVar 0) (eVar 1)) (gTp [2, 3]) mYes (eBin gAdd (eVar 2) (eVar 3)) [2, 3])))))
def run_row_less : MF := mkF 4 (mRet (eSl gTuple (eL (eFr (cComp (iZp (eVar 0) (eVar 1)) (gTp [2, 3]) mYes (eBin gSub (eVar 2) (eVar 3)) [2, 3])))))
def run_plain_led : MF := mkF 3 (mRet (eSl gTuple (eL (eFr (cComp (iSq (eIx (lVar 0) (eC (.int 1)))) (gNm 2) mYes (eCall 2 run_plain_dot (aCons (lVar 2) (aCons (lVar 1) aNil))) [2])))))
def run_plain_grid : MF := mkF 3 (mRet (eTup (dCons (eVar 1) (dCons (eSl gTuple (eL (eFr (cComp (iSq (eVar 0)) (gNm 2) mYes (eSl gTuple (lVar 2)) [2])))) dNil))))
def run_turned_rows_of : MF := mkF 4 (mRetC (cComp (iRg1 (eVar 1)) (gNm 2) mYes (eFr (cComp (iSq (eVar 0)) (gNm 3) mYes (eIx (lVar 3) (eVar 2)) [3])) [2]))
def run_plain_turned : MF := mkF 3 (mSeq (mTo (gTp [1, 2]) (eVar 0))
    (mRet (eCall 2 run_plain_grid (aCons (eL (eCall 2 run_turned_rows_of (aCons (lVar 2) (aCons (lVar 1) aNil)))) (aCons (eL (eSl gLen (lVar 2))) aNil)))))
def run_plain_product : MF := mkF 5 (mSeq (mSet 2 (eCall 2 run_turned_rows_of (aCons (eL (eIx (lVar 1) (eC (.int 1)))) (aCons (eL (eIx (lVar 1) (eC (.int 0)))) aNil))))
    (mRet (eTup (dCons (eIx (lVar 1) (eC (.int 0))) (dCons (eSl gTuple (eL (eFr (cComp (iSq (eIx (lVar 0) (eC (.int 1)))) (gNm 3) mYes (eSl gTuple (eL (eFr (cComp (iSq (eVar 2)) (gNm 4) mYes (eCall 2 run_plain_dot (aCons (lVar 3) (aCons (lVar 4) aNil))) [4])))) [3])))) dNil)))))
def run_plain_difference : MF := mkF 8 (mSeq (mSet 2 (eFr (cComp (iZp (eIx (lVar 0) (eC (.int 1))) (eIx (lVar 1) (eC (.int 1)))) (gTp [3, 4]) mYes (eFr (iZp (eVar 3) (eVar 4))) [3, 4])))
    (mRet (eCall 2 run_plain_grid (aCons (eL (eFr (cComp (iSq (eVar 2)) (gNm 5) mYes (eFr (cComp (iSq (eVar 5)) (gTp [6, 7]) mYes (eBin gSub (eVar 6) (eVar 7)) [6, 7])) [5]))) (aCons (eL (eIx (lVar 0) (eC (.int 0)))) aNil)))))
def run_plain_multiple : MF := mkF 4 (mRet (eCall 2 run_plain_grid (aCons (eL (eFr (cComp (iSq (eIx (lVar 0) (eC (.int 1)))) (gNm 2) mYes (eFr (cComp (iSq (eVar 2)) (gNm 3) mYes (eBin gMulA (eVar 1) (eVar 3)) [3])) [2]))) (aCons (eL (eIx (lVar 0) (eC (.int 0)))) aNil))))
def run_plain_sum : MF := mkF 2 (mRet (eCall 2 run_plain_difference (aCons (lVar 0) (aCons (eL (eCall 2 run_plain_multiple (aCons (lVar 1) (aCons (eL (eUn gNeg (eC (.int 1)))) aNil)))) aNil))))
def run_plain_read : MF := mkF 2 (mRet (eCall 2 run_plain_led (aCons (eL (eCall 1 run_plain_turned (aCons (lVar 1) aNil))) (aCons (lVar 0) aNil))))
def run_plain_beside : MF := mkF 4 (mRet (eCall 2 run_plain_grid (aCons (eL (eFr (cComp (iZp (eIx (lVar 0) (eC (.int 1))) (eIx (lVar 1) (eC (.int 1)))) (gTp [2, 3]) mYes (eBin gAdd (eVar 2) (eVar 3)) [2, 3]))) (aCons (eL (eBin gAdd (eIx (lVar 0) (eC (.int 0))) (eIx (lVar 1) (eC (.int 0))))) aNil))))
def run_is_multiple : MF := mkF 2 (mRet (eIf (mE (eBin (gEq false) (eVar 1) (eC (.int 0)))) (eBin (gEq false) (eVar 0) (eC (.int 0))) (eBin (gEq false) (eBin gMod (eVar 0) (eVar 1)) (eC (.int 0)))))
def run_plain_unit : MF := mkF 3 (mRet (eCall 2 run_plain_grid (aCons (eL (eFr (cComp (iRg1 (eVar 0)) (gNm 1) mYes (eFr (cComp (iRg1 (eVar 0)) (gNm 2) mYes (eIf (mE (eBin (gEq false) (eVar 2) (eVar 1))) (eC (.int 1)) (eC (.int 0))) [2])) [1]))) (aCons (lVar 0) aNil))))
def run_plain_nought : MF := mkF 2 (mRet (eTup (dCons (eVar 1) (dCons (eBin gMulA (eTup (dCons (eBin gMulA (eTup (dCons (eC (.int 0)) dNil)) (eVar 1)) dNil)) (eVar 0)) dNil))))
def run_bezout : MF := mkF 8 (mSeq (mPar 2 3 (eVar 0) (eVar 1))
    (mSeq (mTo (gTp [4, 5]) (eTup (dCons (eC (.int 1)) (dCons (eC (.int 0)) dNil))))
    (mSeq (mWhile (fun (ρ : Mir.Env) (_ : Mir.Sto) => match ρ[3]? with | some (some (Mir.Sl.d (PyData.int i))) => i.natAbs + 1 | _ => 1) (mE (eBin (gEq true) (eVar 3) (eC (.int 0))))
    (mSeq (mSet 6 (eBin gFdiv (eVar 2) (eVar 3)))
    (mSeq (mPar 2 3 (eVar 3) (eBin gSub (eVar 2) (eBin gMulA (eVar 6) (eVar 3))))
    (mPar 4 5 (eVar 5) (eBin gSub (eVar 4) (eBin gMulA (eVar 6) (eVar 5)))))))
    (mSeq (mIf (mE (eBin gLt (eVar 2) (eC (.int 0))))
    (mPar 2 4 (eUn gNeg (eVar 2)) (eUn gNeg (eVar 4)))
    mNil)
    (mSeq (mSet 7 (eIf (mE (eBin (gEq true) (eVar 1) (eC (.int 0)))) (eBin gFdiv (eBin gSub (eVar 2) (eBin gMulA (eVar 4) (eVar 0))) (eVar 1)) (eC (.int 0))))
    (mRet (eTup (dCons (eVar 4) (dCons (eVar 7) (dCons (eVar 2) dNil))))))))))
def run_is_long_integer : MF := mkF 1 (mRet (eAnd (eIsi "int" (eVar 0)) (eNot (eIsi "bool" (eVar 0)))))
def run_is_integer : MF := mkF 1 (mRet (eAnd (eCall 1 run_is_long_integer (aCons (lVar 0) aNil)) (eBin gLt (eSl gAbs (lVar 0)) (eC (.int 1000000000000)))))
def run_is_between : MF := mkF 3 (mRet (eAnd (eCall 1 run_is_integer (aCons (lVar 0) aNil)) (eCh (fun i j => decide (i ≤ j)) (fun i j => decide (i ≤ j)) (eVar 1) (eVar 0) (eVar 2))))
def run_is_long_row : MF := mkF 2 (mRet (eAnd (eIsi "tuple" (eVar 0)) (eAnd (eBin gLe (eSl gLen (lVar 0)) (eC (.int 60))) (eSl (gBols fun ns => .bool (ns.all id)) (eL (eFr (cComp (iSq (eVar 0)) (gNm 1) mYes (eCall 1 run_is_long_integer (aCons (lVar 1) aNil)) [1])))))))
def run_is_row : MF := mkF 2 (mRet (eAnd (eCall 1 run_is_long_row (aCons (lVar 0) aNil)) (eSl (gBols fun ns => .bool (ns.all id)) (eL (eFr (cComp (iSq (eVar 0)) (gNm 1) mYes (eCall 1 run_is_integer (aCons (lVar 1) aNil)) [1]))))))
def run_is_long_grid : MF := mkF 4 (mSeq (mIf (mOr (mNot (mE (eIsi "tuple" (eVar 0)))) (mE (eBin (gEq true) (eSl gLen (lVar 0)) (eC (.int 2)))))
    (mRet (eC (.bool false)))
    mNil)
    (mSeq (mTo (gTp [1, 2]) (eVar 0))
    (mSeq (mIf (mOr (mNot (mE (eCall 3 run_is_between (aCons (lVar 1) (aCons (eL (eC (.int 0))) (aCons (eL (eC (.int 60))) aNil)))))) (mOr (mNot (mE (eIsi "tuple" (eVar 2)))) (mE (eBin gGt (eSl gLen (lVar 2)) (eC (.int 60))))))
    (mRet (eC (.bool false)))
    mNil)
    (mRet (eSl (gBols fun ns => .bool (ns.all id)) (eL (eFr (cComp (iSq (eVar 2)) (gNm 3) mYes (eAnd (eCall 1 run_is_long_row (aCons (lVar 3) aNil)) (eBin (gEq false) (eSl gLen (lVar 3)) (eVar 1))) [3]))))))))
def run_is_grid : MF := mkF 2 (mRet (eAnd (eCall 1 run_is_long_grid (aCons (lVar 0) aNil)) (eSl (gBols fun ns => .bool (ns.all id)) (eL (eFr (cComp (iSq (eIx (lVar 0) (eC (.int 1)))) (gNm 1) mYes (eCall 1 run_is_row (aCons (lVar 1) aNil)) [1]))))))
def run_check_row : MF := mkF 1 (mIf (mNot (mE (eCall 1 run_is_row (aCons (lVar 0) aNil))))
    (mRaise0 "InvalidRow" (eC (.str (Str.ofString "a row is a tuple of at most 60 integers of at most twelve digits"))))
    mNil)
def run_check_grid : MF := mkF 1 (mIf (mNot (mE (eCall 1 run_is_grid (aCons (lVar 0) aNil))))
    (mRaise0 "InvalidGrid" (eC (.str (Str.ofString "a grid is a pair of a width up to 60 and of at most 60 rows of this length"))))
    mNil)
def run_check_grids : MF := mkF 2 (mSeq (mDrop (eCall 1 run_check_grid (aCons (lVar 0) aNil)))
    (mDrop (eCall 1 run_check_grid (aCons (lVar 1) aNil))))
def run_check_integer : MF := mkF 1 (mIf (mNot (mE (eCall 1 run_is_integer (aCons (lVar 0) aNil))))
    (mRaiseF "InvalidNumber" (eVar 0))
    mNil)
def run_check_between : MF := mkF 3 (mIf (mNot (mE (eCall 3 run_is_between (aCons (lVar 0) (aCons (lVar 1) (aCons (lVar 2) aNil))))))
    (mRaiseF "InvalidNumber" (eVar 0))
    mNil)
def run_check_least : MF := mkF 2 (mIf (mOr (mNot (mE (eCall 1 run_is_integer (aCons (lVar 0) aNil)))) (mE (eBin gLt (eVar 0) (eVar 1))))
    (mRaiseF "InvalidNumber" (eVar 0))
    mNil)
def run_check_fit : MF := mkF 2 (mIf (mNot (mE (eVar 0)))
    (mRaise0 "InvalidOperation" (eVar 1))
    mNil)
def run_check_rows : MF := mkF 2 (mSeq (mDrop (eCall 1 run_check_row (aCons (lVar 0) aNil)))
    (mSeq (mDrop (eCall 1 run_check_row (aCons (lVar 1) aNil)))
    (mDrop (eCall 2 run_check_fit (aCons (eL (eBin (gEq false) (eSl gLen (lVar 0)) (eSl gLen (lVar 1)))) (aCons (eL (eC (.str (Str.ofString "the rows have unlike lengths")))) aNil))))))
def run_dot : MF := mkF 2 (mSeq (mDrop (eCall 2 run_check_rows (aCons (lVar 0) (aCons (lVar 1) aNil))))
    (mRet (eCall 2 run_plain_dot (aCons (lVar 0) (aCons (lVar 1) aNil)))))
def run_row_sum : MF := mkF 2 (mSeq (mDrop (eCall 2 run_check_rows (aCons (lVar 0) (aCons (lVar 1) aNil))))
    (mRet (eCall 2 run_row_more (aCons (lVar 0) (aCons (lVar 1) aNil)))))
def run_row_difference : MF := mkF 2 (mSeq (mDrop (eCall 2 run_check_rows (aCons (lVar 0) (aCons (lVar 1) aNil))))
    (mRet (eCall 2 run_row_less (aCons (lVar 0) (aCons (lVar 1) aNil)))))
def run_row_multiple : MF := mkF 3 (mSeq (mDrop (eCall 1 run_check_row (aCons (lVar 0) aNil)))
    (mSeq (mDrop (eCall 1 run_check_integer (aCons (lVar 1) aNil)))
    (mRet (eSl gTuple (eL (eFr (cComp (iSq (eVar 0)) (gNm 2) mYes (eBin gMulA (eVar 1) (eVar 2)) [2])))))))
def run_is_nought : MF := mkF 2 (mSeq (mDrop (eCall 2 run_check_least (aCons (lVar 1) (aCons (eL (eC (.int 0))) aNil))))
    (mSeq (mIf (mNot (mE (eCall 1 run_is_integer (aCons (lVar 0) aNil))))
    (mRet (eC (.bool false)))
    mNil)
    (mRet (eCall 2 run_is_multiple (aCons (lVar 0) (aCons (lVar 1) aNil))))))
def run_shared : MF := mkF 2 (mSeq (mDrop (eCall 1 run_check_integer (aCons (lVar 0) aNil)))
    (mSeq (mDrop (eCall 1 run_check_integer (aCons (lVar 1) aNil)))
    (mRet (eCall 2 run_bezout (aCons (lVar 0) (aCons (lVar 1) aNil))))))
def run_unit_grid : MF := mkF 1 (mSeq (mDrop (eCall 3 run_check_between (aCons (lVar 0) (aCons (eL (eC (.int 0))) (aCons (eL (eC (.int 60))) aNil)))))
    (mRet (eCall 1 run_plain_unit (aCons (lVar 0) aNil))))
def run_nought_grid : MF := mkF 2 (mSeq (mDrop (eCall 3 run_check_between (aCons (lVar 0) (aCons (eL (eC (.int 0))) (aCons (eL (eC (.int 60))) aNil)))))
    (mSeq (mDrop (eCall 3 run_check_between (aCons (lVar 1) (aCons (eL (eC (.int 0))) (aCons (eL (eC (.int 60))) aNil)))))
    (mRet (eCall 2 run_plain_nought (aCons (lVar 0) (aCons (lVar 1) aNil))))))
def run_turned : MF := mkF 1 (mSeq (mDrop (eCall 1 run_check_grid (aCons (lVar 0) aNil)))
    (mRet (eCall 1 run_plain_turned (aCons (lVar 0) aNil))))
def run_grid_multiple : MF := mkF 2 (mSeq (mDrop (eCall 1 run_check_grid (aCons (lVar 0) aNil)))
    (mSeq (mDrop (eCall 1 run_check_integer (aCons (lVar 1) aNil)))
    (mRet (eCall 2 run_plain_multiple (aCons (lVar 0) (aCons (lVar 1) aNil))))))
def run_check_like : MF := mkF 2 (mSeq (mDrop (eCall 2 run_check_grids (aCons (lVar 0) (aCons (lVar 1) aNil))))
    (mDrop (eCall 2 run_check_fit (aCons (eL (eAnd (eBin (gEq false) (eIx (lVar 0) (eC (.int 0))) (eIx (lVar 1) (eC (.int 0)))) (eBin (gEq false) (eSl gLen (eL (eIx (lVar 0) (eC (.int 1))))) (eSl gLen (eL (eIx (lVar 1) (eC (.int 1)))))))) (aCons (eL (eC (.str (Str.ofString "the grids have unlike widths or heights")))) aNil)))))
def run_grid_sum : MF := mkF 2 (mSeq (mDrop (eCall 2 run_check_like (aCons (lVar 0) (aCons (lVar 1) aNil))))
    (mRet (eCall 2 run_plain_sum (aCons (lVar 0) (aCons (lVar 1) aNil)))))
def run_grid_difference : MF := mkF 2 (mSeq (mDrop (eCall 2 run_check_like (aCons (lVar 0) (aCons (lVar 1) aNil))))
    (mRet (eCall 2 run_plain_difference (aCons (lVar 0) (aCons (lVar 1) aNil)))))
def run_grid_product : MF := mkF 2 (mSeq (mDrop (eCall 2 run_check_grids (aCons (lVar 0) (aCons (lVar 1) aNil))))
    (mSeq (mDrop (eCall 2 run_check_fit (aCons (eL (eBin (gEq false) (eIx (lVar 0) (eC (.int 0))) (eSl gLen (eL (eIx (lVar 1) (eC (.int 1))))))) (aCons (eL (eC (.str (Str.ofString "the first grid is not as wide as the second one is high")))) aNil))))
    (mRet (eCall 2 run_plain_product (aCons (lVar 0) (aCons (lVar 1) aNil))))))
def run_check_most : MF := mkF 1 (mIf (mE (eBin gGt (eVar 0) (eC (.int 60))))
    (mRaiseF "TooMany" (eC (.int 60)))
    mNil)
def run_beside : MF := mkF 2 (mSeq (mDrop (eCall 2 run_check_grids (aCons (lVar 0) (aCons (lVar 1) aNil))))
    (mSeq (mDrop (eCall 2 run_check_fit (aCons (eL (eBin (gEq false) (eSl gLen (eL (eIx (lVar 0) (eC (.int 1))))) (eSl gLen (eL (eIx (lVar 1) (eC (.int 1))))))) (aCons (eL (eC (.str (Str.ofString "the grids have unlike heights")))) aNil))))
    (mSeq (mDrop (eCall 1 run_check_most (aCons (eL (eBin gAdd (eIx (lVar 0) (eC (.int 0))) (eIx (lVar 1) (eC (.int 0))))) aNil)))
    (mRet (eCall 2 run_plain_beside (aCons (lVar 0) (aCons (lVar 1) aNil)))))))
def run_over : MF := mkF 2 (mSeq (mDrop (eCall 2 run_check_grids (aCons (lVar 0) (aCons (lVar 1) aNil))))
    (mSeq (mDrop (eCall 2 run_check_fit (aCons (eL (eBin (gEq false) (eIx (lVar 0) (eC (.int 0))) (eIx (lVar 1) (eC (.int 0))))) (aCons (eL (eC (.str (Str.ofString "the grids have unlike widths")))) aNil))))
    (mSeq (mDrop (eCall 1 run_check_most (aCons (eL (eBin gAdd (eSl gLen (eL (eIx (lVar 0) (eC (.int 1))))) (eSl gLen (eL (eIx (lVar 1) (eC (.int 1))))))) aNil)))
    (mRet (eTup (dCons (eIx (lVar 0) (eC (.int 0))) (dCons (eBin gAdd (eIx (lVar 0) (eC (.int 1))) (eIx (lVar 1) (eC (.int 1)))) dNil)))))))
def tblF : List MF := [run_grid_sum, run_grid_difference, run_grid_product, run_beside, run_over, run_dot, run_row_sum, run_row_difference]
def run_led : MF := mkF 2 (mSeq (mDrop (eCall 1 run_check_grid (aCons (lVar 0) aNil)))
    (mSeq (mDrop (eCall 1 run_check_row (aCons (lVar 1) aNil)))
    (mSeq (mDrop (eCall 2 run_check_fit (aCons (eL (eBin (gEq false) (eSl gLen (lVar 1)) (eIx (lVar 0) (eC (.int 0))))) (aCons (eL (eC (.str (Str.ofString "the row is not as long as the grid is wide")))) aNil))))
    (mRet (eCall 2 run_plain_led (aCons (lVar 0) (aCons (lVar 1) aNil)))))))
def run_read_by : MF := mkF 2 (mSeq (mDrop (eCall 1 run_check_row (aCons (lVar 0) aNil)))
    (mSeq (mDrop (eCall 1 run_check_grid (aCons (lVar 1) aNil)))
    (mSeq (mDrop (eCall 2 run_check_fit (aCons (eL (eBin (gEq false) (eSl gLen (lVar 0)) (eSl gLen (eL (eIx (lVar 1) (eC (.int 1))))))) (aCons (eL (eC (.str (Str.ofString "the row is not as long as the grid is high")))) aNil))))
    (mRet (eCall 2 run_plain_read (aCons (lVar 0) (aCons (lVar 1) aNil)))))))
def runC_law_hat : MFc := mkC 5 (mSeq (mSet 2 (eIf (mE (eBin gLt (eVar 1) (eSl gLen (lVar 0)))) (eSl gInt (eL (eIx (lVar 0) (eVar 1)))) (eBin gAdd (eBin gMulA (eC (.int 311)) (eVar 1)) (eC (.int 47)))))
    (mSeq (mSet 3 (eBin gMod (eSl gInt (eL (eSl gAbs (lVar 2)))) (eBin gPow (eBin gPow (eC (.int 10)) (eC (.int 51))) (eC (.int 8)))))
    (mSeq (mSet 4 (eSl gInt (eL (eBin gAdd (eBin gAdd (eBin gAdd (eBin gMulA (eBin gMod (eVar 3) (eC (.int 2305843009213693907))) (eC (.int 83))) (eBin gMulA (eC (.int 5261)) (eVar 1))) (eBin gMulA (eC (.int 29)) (eSl gInt (eL (eBin gLt (eVar 2) (eC (.int 0))))))) (eC (.int 61))))))
    (mRetC (cLst (dCons (eTwo (fun i j => if j > i then j else i) (eC (.int 0)) (eBin gSub (eVar 3) (eBin gPow (eC (.int 10)) (eC (.int 16))))) (dCons (eBin gMod (eVar 4) (eC (.int 2305843009213693951))) (dCons (eC (.int 0)) dNil))))))))
def run_law_up_to : MF := mkF 5 (mSeq (mIf (mE (eBin gGt (eIx (lVar 0) (eC (.int 0))) (eC (.int 0))))
    (mSeq (mSet 2 (eBin gMod (eSl gInt (eL (eIx (lVar 0) (eC (.int 0))))) (eVar 1)))
    (mSeq (mPut (lVar 0) (eC (.int 0)) (eBin gFdiv (eIx (lVar 0) (eC (.int 0))) (eVar 1)))
    (mRet (eVar 2))))
    mNil)
    (mSeq (mPut (lVar 0) (eC (.int 2)) (eBin gAdd (eIx (lVar 0) (eC (.int 2))) (eC (.int 1))))
    (mSeq (mSet 3 (eBin gMod (eSl gInt (eL (eBin gAdd (eIx (lVar 0) (eC (.int 1))) (eBin gMulA (eC (.int 86028157)) (eIx (lVar 0) (eC (.int 2))))))) (eC (.int 2305843009213693951))))
    (mSeq (mSet 4 (eBin gAdd (eBin gAdd (eBin gMulA (eBin gMod (eSl gInt (eL (eBin gAdd (eBin gMulA (eVar 3) (eVar 3)) (eC (.int 67867967))))) (eC (.int 2305843009213693921))) (eC (.int 15485863))) (eVar 3)) (eBin gMulA (eC (.int 19)) (eIx (lVar 0) (eC (.int 2))))))
    (mRet (eBin gMod (eSl gInt (eL (eBin gFdiv (eVar 4) (eC (.int 65539))))) (eVar 1)))))))
def run_law_out_of : MF := mkF 2 (mRet (eIx (lVar 1) (eCall 2 run_law_up_to (aCons (lVar 0) (aCons (eL (eSl gLen (lVar 1))) aNil)))))
def run_law_grids_right : MF := mkF 10 (mSeq (mSet 1 (eCall 2 run_law_out_of (aCons (lVar 0) (aCons (eL (eFr (cLst (dCons (eC .none) (dCons (eC (.int 0)) (dCons (eTup dNil) (dCons (eTup (dCons (eC (.int 1)) dNil)) (dCons (eTup (dCons (eC (.int 2)) (dCons (eTup (dCons (eTup (dCons (eC (.int 1)) dNil)) dNil)) dNil))) (dCons (eFr (cLst (dCons (eC (.int 1)) (dCons (eTup (dCons (eTup (dCons (eC (.int 1)) dNil)) dNil)) dNil)))) (dCons (eTup (dCons (eC (.int 1)) (dCons (eFr (cLst (dCons (eTup (dCons (eC (.int 1)) dNil)) dNil))) dNil))) (dCons (eTup (dCons (eC (.int 1)) (dCons (eTup (dCons (eTup (dCons (eC (.bool true)) dNil)) dNil)) dNil))) (dCons (eTup (dCons (eC (.int 61)) (dCons (eTup dNil) dNil))) (dCons (eTup (dCons (eC (.int 1)) (dCons (eTup (dCons (eTup (dCons (eBin gPow (eC (.int 10)) (eC (.int 12))) dNil)) dNil)) dNil))) (dCons (eTup (dCons (eUn gNeg (eC (.int 1))) (dCons (eTup dNil) dNil))) (dCons (eTup (dCons (eC (.int 1)) (dCons (eTup (dCons (eTup (dCons (eC (.int 1)) dNil)) dNil)) (dCons (eTup dNil) dNil)))) dNil))))))))))))))) aNil))))
    (mSeq (mSet 2 (eCall 2 run_law_out_of (aCons (lVar 0) (aCons (eL (eFr (cLst (dCons (eC .none) (dCons (eC (.int 1)) (dCons (eFr (cLst (dCons (eC (.int 1)) dNil))) (dCons (eTup (dCons (eC (.bool true)) dNil)) (dCons (eTup (dCons (eBin gPow (eC (.int 10)) (eC (.int 12))) dNil)) (dCons (eTup (dCons (eC (.str (Str.ofString "1"))) dNil)) (dCons (eBin gMulA (eTup (dCons (eC (.int 0)) dNil)) (eC (.int 61))) (dCons (eTup (dCons (eTup (dCons (eC (.int 1)) dNil)) dNil)) (dCons (eC (.dict [])) dNil)))))))))))) aNil))))
    (mSeq (mSet 3 (eCall 2 run_law_out_of (aCons (lVar 0) (aCons (eL (eFr (cLst (dCons (eC .none) (dCons (eC (.bool true)) (dCons (eC (.str (Str.ofString "1"))) (dCons (eTup (dCons (eC (.int 1)) dNil)) (dCons (eBin gPow (eC (.int 10)) (eC (.int 12))) (dCons (eBin gSub (eC (.int 0)) (eBin gPow (eC (.int 10)) (eC (.int 40)))) dNil))))))))) aNil))))
    (mSeq (mTo (gTp [4, 5, 6]) (eTup (dCons (eTup (dCons (eC (.int 1)) (dCons (eTup (dCons (eTup (dCons (eC (.int 1)) dNil)) dNil)) dNil))) (dCons (eTup (dCons (eC (.int 2)) (dCons (eTup (dCons (eTup (dCons (eC (.int 1)) (dCons (eC (.int 2)) dNil))) dNil)) dNil))) (dCons (eTup (dCons (eC (.int 1)) (dCons (eTup (dCons (eTup (dCons (eC (.int 1)) dNil)) (dCons (eTup (dCons (eC (.int 2)) dNil)) dNil))) dNil))) dNil)))))
    (mSeq (mSetC 7 (cLst dNil))
    (mSeq (mApp (lVar 7) (eMetP subT hdsP letsT (eCall 1 run_turned (aCons (lVar 1) aNil))))
    (mSeq (mApp (lVar 7) (eMetP subT hdsP letsT (eCall 2 run_grid_multiple (aCons (lVar 1) (aCons (lVar 3) aNil)))))
    (mSeq (mApp (lVar 7) (eMetP subT hdsP letsT (eCall 2 run_grid_multiple (aCons (lVar 4) (aCons (lVar 3) aNil)))))
    (mSeq (mSet 8 (eBin gAdd (eBin gMulL (eFr (cLst (dCons (eTup (dCons (eC (.str (Str.ofString "refused"))) (dCons (eC (.str (Str.ofString "grid"))) dNil))) dNil))) (eC (.int 2))) (eFr (cLst (dCons (eTup (dCons (eC (.str (Str.ofString "refused"))) (dCons (eC (.str (Str.ofString "number"))) (dCons (eRepr (eVar 3)) dNil)))) dNil)))))
    (mSeq (mForF 9 [0, 1, 2, 3, 4]
    (mSeq (mApp (lVar 7) (eMetP subT hdsP letsT (eCallV 9 2 tblF (aCons (lVar 1) (aCons (lVar 2) aNil)))))
    (mSeq (mApp (lVar 7) (eMetP subT hdsP letsT (eCallV 9 2 tblF (aCons (lVar 5) (aCons (lVar 1) aNil)))))
    (mSet 8 (eBin gAdd (eVar 8) (eBin gMulL (eFr (cLst (dCons (eTup (dCons (eC (.str (Str.ofString "refused"))) (dCons (eC (.str (Str.ofString "grid"))) dNil))) dNil))) (eC (.int 2))))))))
    (mSeq (mApp (lVar 7) (eMetP subT hdsP letsT (eCall 2 run_grid_sum (aCons (lVar 4) (aCons (lVar 5) aNil)))))
    (mSeq (mApp (lVar 7) (eMetP subT hdsP letsT (eCall 2 run_grid_difference (aCons (lVar 4) (aCons (lVar 6) aNil)))))
    (mSeq (mApp (lVar 7) (eMetP subT hdsP letsT (eCall 2 run_grid_product (aCons (lVar 5) (aCons (lVar 4) aNil)))))
    (mSeq (mApp (lVar 7) (eMetP subT hdsP letsT (eCall 2 run_beside (aCons (lVar 4) (aCons (lVar 6) aNil)))))
    (mSeq (mApp (lVar 7) (eMetP subT hdsP letsT (eCall 2 run_over (aCons (lVar 4) (aCons (lVar 5) aNil)))))
    (mSeq (mApp (lVar 7) (eMetP subT hdsP letsT (eCall 2 run_grid_product (aCons (lVar 6) (aCons (lVar 4) aNil)))))
    (mSeq (mApp (lVar 7) (eMetP subT hdsP letsT (eCall 2 run_grid_product (aCons (lVar 4) (aCons (lVar 5) aNil)))))
    (mSeq (mSet 8 (eBin gAdd (eBin gAdd (eVar 8) (eBin gMulL (eFr (cLst (dCons (eTup (dCons (eC (.str (Str.ofString "refused"))) (dCons (eC (.str (Str.ofString "fit"))) dNil))) dNil))) (eC (.int 5)))) (eBin gMulL (eFr (cLst (dCons (eTup (dCons (eC (.str (Str.ofString "let"))) dNil)) dNil))) (eC (.int 2)))))
    (mSeq (mApp (lVar 7) (eMetP subT hdsP letsT (eCall 2 run_led (aCons (lVar 1) (aCons (lVar 2) aNil)))))
    (mSeq (mApp (lVar 7) (eMetP subT hdsP letsT (eCall 2 run_led (aCons (lVar 5) (aCons (lVar 2) aNil)))))
    (mSeq (mApp (lVar 7) (eMetP subT hdsP letsT (eCall 2 run_led (aCons (lVar 5) (aCons (eL (eTup (dCons (eC (.int 1)) dNil))) aNil)))))
    (mSeq (mApp (lVar 7) (eMetP subT hdsP letsT (eCall 2 run_led (aCons (lVar 5) (aCons (eL (eTup (dCons (eC (.int 1)) (dCons (eC (.int 2)) dNil)))) aNil)))))
    (mSeq (mApp (lVar 7) (eMetP subT hdsP letsT (eCall 2 run_read_by (aCons (lVar 2) (aCons (lVar 1) aNil)))))
    (mSeq (mApp (lVar 7) (eMetP subT hdsP letsT (eCall 2 run_read_by (aCons (eL (eTup (dCons (eC (.int 1)) dNil))) (aCons (lVar 1) aNil)))))
    (mSeq (mApp (lVar 7) (eMetP subT hdsP letsT (eCall 2 run_read_by (aCons (eL (eTup (dCons (eC (.int 1)) dNil))) (aCons (lVar 6) aNil)))))
    (mSeq (mApp (lVar 7) (eMetP subT hdsP letsT (eCall 2 run_read_by (aCons (eL (eTup (dCons (eC (.int 1)) (dCons (eC (.int 2)) dNil)))) (aCons (lVar 6) aNil)))))
    (mSeq (mSet 8 (eBin gAdd (eVar 8) (eFr (cLst (dCons (eTup (dCons (eC (.str (Str.ofString "refused"))) (dCons (eC (.str (Str.ofString "grid"))) dNil))) (dCons (eTup (dCons (eC (.str (Str.ofString "refused"))) (dCons (eC (.str (Str.ofString "row"))) dNil))) (dCons (eTup (dCons (eC (.str (Str.ofString "refused"))) (dCons (eC (.str (Str.ofString "fit"))) dNil))) (dCons (eTup (dCons (eC (.str (Str.ofString "let"))) dNil)) (dCons (eTup (dCons (eC (.str (Str.ofString "refused"))) (dCons (eC (.str (Str.ofString "row"))) dNil))) (dCons (eTup (dCons (eC (.str (Str.ofString "refused"))) (dCons (eC (.str (Str.ofString "grid"))) dNil))) (dCons (eTup (dCons (eC (.str (Str.ofString "refused"))) (dCons (eC (.str (Str.ofString "fit"))) dNil))) (dCons (eTup (dCons (eC (.str (Str.ofString "let"))) dNil)) dNil))))))))))))
    (mRet (eEqL false (lVar 7) (eVar 8))))))))))))))))))))))))))))))
def run_law_rows_right : MF := mkF 8 (mSeq (mSet 1 (eCall 2 run_law_out_of (aCons (lVar 0) (aCons (eL (eFr (cLst (dCons (eC .none) (dCons (eC (.int 1)) (dCons (eFr (cLst (dCons (eC (.int 1)) dNil))) (dCons (eTup (dCons (eC (.bool true)) dNil)) (dCons (eTup (dCons (eBin gPow (eC (.int 10)) (eC (.int 12))) dNil)) (dCons (eTup (dCons (eC (.str (Str.ofString "1"))) dNil)) (dCons (eBin gMulA (eTup (dCons (eC (.int 0)) dNil)) (eC (.int 61))) (dCons (eTup (dCons (eTup (dCons (eC (.int 1)) dNil)) dNil)) (dCons (eC (.dict [])) dNil)))))))))))) aNil))))
    (mSeq (mSet 2 (eCall 2 run_law_out_of (aCons (lVar 0) (aCons (eL (eFr (cLst (dCons (eC .none) (dCons (eC (.bool true)) (dCons (eC (.str (Str.ofString "1"))) (dCons (eTup (dCons (eC (.int 1)) dNil)) (dCons (eBin gPow (eC (.int 10)) (eC (.int 12))) (dCons (eBin gSub (eC (.int 0)) (eBin gPow (eC (.int 10)) (eC (.int 40)))) dNil))))))))) aNil))))
    (mSeq (mSet 3 (eCall 2 run_law_out_of (aCons (lVar 0) (aCons (eL (eFr (cLst (dCons (eUn gNeg (eC (.int 1))) (dCons (eC (.int 61)) (dCons (eC .none) (dCons (eC (.bool true)) (dCons (eC (.str (Str.ofString "2"))) (dCons (eBin gPow (eC (.int 10)) (eC (.int 60))) dNil))))))))) aNil))))
    (mSeq (mParCD 4 5 (cLst dNil) (eFr (cLst dNil)))
    (mSeq (mForF 6 [5, 6, 7]
    (mSeq (mApp (lVar 4) (eMetP subT hdsP letsT (eCallV 6 2 tblF (aCons (lVar 1) (aCons (eL (eC .none)) aNil)))))
    (mSeq (mApp (lVar 4) (eMetP subT hdsP letsT (eCallV 6 2 tblF (aCons (eL (eTup (dCons (eC (.int 1)) dNil))) (aCons (lVar 1) aNil)))))
    (mSeq (mApp (lVar 4) (eMetP subT hdsP letsT (eCallV 6 2 tblF (aCons (eL (eTup (dCons (eC (.int 1)) (dCons (eC (.int 2)) dNil)))) (aCons (eL (eTup (dCons (eC (.int 1)) dNil))) aNil)))))
    (mSeq (mApp (lVar 4) (eMetP subT hdsP letsT (eCallV 6 2 tblF (aCons (eL (eTup dNil)) (aCons (eL (eTup dNil)) aNil)))))
    (mSet 5 (eBin gAdd (eVar 5) (eFr (cLst (dCons (eTup (dCons (eC (.str (Str.ofString "refused"))) (dCons (eC (.str (Str.ofString "row"))) dNil))) (dCons (eTup (dCons (eC (.str (Str.ofString "refused"))) (dCons (eC (.str (Str.ofString "row"))) dNil))) (dCons (eTup (dCons (eC (.str (Str.ofString "refused"))) (dCons (eC (.str (Str.ofString "fit"))) dNil))) (dCons (eTup (dCons (eC (.str (Str.ofString "let"))) dNil)) dNil)))))))))))))
    (mSeq (mApp (lVar 4) (eMetP subT hdsP letsT (eCall 2 run_row_multiple (aCons (lVar 1) (aCons (lVar 2) aNil)))))
    (mSeq (mApp (lVar 4) (eMetP subT hdsP letsT (eCall 2 run_row_multiple (aCons (eL (eTup (dCons (eC (.int 1)) dNil))) (aCons (lVar 2) aNil)))))
    (mSeq (mApp (lVar 4) (eMetP subT hdsP letsT (eCall 2 run_shared (aCons (lVar 2) (aCons (eL (eC .none)) aNil)))))
    (mSeq (mApp (lVar 4) (eMetP subT hdsP letsT (eCall 2 run_shared (aCons (eL (eC (.int 1))) (aCons (lVar 2) aNil)))))
    (mSeq (mSet 5 (eBin gAdd (eBin gAdd (eVar 5) (eFr (cLst (dCons (eTup (dCons (eC (.str (Str.ofString "refused"))) (dCons (eC (.str (Str.ofString "row"))) dNil))) dNil)))) (eBin gMulL (eFr (cLst (dCons (eTup (dCons (eC (.str (Str.ofString "refused"))) (dCons (eC (.str (Str.ofString "number"))) (dCons (eRepr (eVar 2)) dNil)))) dNil))) (eC (.int 3)))))
    (mSeq (mSet 7 (eCall 2 run_law_out_of (aCons (lVar 0) (aCons (eL (eFr (cLst (dCons (eUn gNeg (eC (.int 1))) (dCons (eC .none) (dCons (eC (.bool true)) (dCons (eBin gPow (eC (.int 10)) (eC (.int 12))) dNil))))))) aNil))))
    (mSeq (mApp (lVar 4) (eMetP subT hdsP letsT (eCall 2 run_is_nought (aCons (lVar 1) (aCons (lVar 7) aNil)))))
    (mSeq (mApp (lVar 4) (eMetP subT hdsP letsT (eCall 2 run_is_nought (aCons (lVar 2) (aCons (eL (eC (.int 0))) aNil)))))
    (mSeq (mApp (lVar 4) (eMetP subT hdsP letsT (eCall 1 run_unit_grid (aCons (lVar 3) aNil))))
    (mSeq (mApp (lVar 4) (eMetP subT hdsP letsT (eCall 2 run_nought_grid (aCons (lVar 3) (aCons (eL (eC (.str (Str.ofString "w")))) aNil)))))
    (mSeq (mSet 5 (eBin gAdd (eVar 5) (eFr (cLst (dCons (eTup (dCons (eC (.str (Str.ofString "refused"))) (dCons (eC (.str (Str.ofString "number"))) (dCons (eRepr (eVar 7)) dNil)))) (dCons (eTup (dCons (eC (.str (Str.ofString "let"))) dNil)) (dCons (eTup (dCons (eC (.str (Str.ofString "refused"))) (dCons (eC (.str (Str.ofString "number"))) (dCons (eRepr (eVar 3)) dNil)))) (dCons (eTup (dCons (eC (.str (Str.ofString "refused"))) (dCons (eC (.str (Str.ofString "number"))) (dCons (eRepr (eVar 3)) dNil)))) dNil))))))))
    (mSeq (mApp (lVar 4) (eMetP subT hdsP letsT (eCall 2 run_nought_grid (aCons (eL (eC (.int 0))) (aCons (lVar 3) aNil)))))
    (mSeq (mApp (lVar 4) (eMetP subT hdsP letsT (eCall 1 run_unit_grid (aCons (eL (eC (.int 60))) aNil))))
    (mSeq (mApp (lVar 4) (eMetP subT hdsP letsT (eCall 2 run_nought_grid (aCons (eL (eC (.int 60))) (aCons (eL (eC (.int 60))) aNil)))))
    (mRet (eEqL false (lVar 4) (eBin gAdd (eVar 5) (eFr (cLst (dCons (eTup (dCons (eC (.str (Str.ofString "refused"))) (dCons (eC (.str (Str.ofString "number"))) (dCons (eRepr (eVar 3)) dNil)))) (dCons (eTup (dCons (eC (.str (Str.ofString "let"))) dNil)) (dCons (eTup (dCons (eC (.str (Str.ofString "let"))) dNil)) dNil)))))))))))))))))))))))))))
def run_law : MF := mkF 6 (mSeq (mFor (iRg1 (eTwo (fun i j => if j > i then j else i) (eC (.int 1)) (eTwo (fun i j => if j < i then j else i) (eC (.int 4)) (eSl gLen (lVar 0))))) (gNm 1)
    (mSeq (mSetC 2 (cCall 2 runC_law_hat (aCons (lVar 0) (aCons (lVar 1) aNil))))
    (mIf (mOr (mNot (mE (eCall 1 run_law_grids_right (aCons (lVar 2) aNil)))) (mNot (mE (eCall 1 run_law_rows_right (aCons (lVar 2) aNil)))))
    (mRet (eC (.bool false)))
    mNil)))
    (mSeq (mTo (gTp [3, 4]) (eTup (dCons (eCallN 2 run_nought_grid (aCons (eL (eC (.int 1))) (aCons (eL (eC (.int 31))) aNil))) (dCons (eCallN 2 run_nought_grid (aCons (eL (eC (.int 31))) (aCons (eL (eC (.int 1))) aNil))) dNil))))
    (mSeq (mSetC 5 (cLst dNil))
    (mSeq (mApp (lVar 5) (eMetP subT hdsP letsT (eCall 2 run_beside (aCons (lVar 3) (aCons (lVar 3) aNil)))))
    (mSeq (mApp (lVar 5) (eMetP subT hdsP letsT (eCall 2 run_beside (aCons (lVar 3) (aCons (eL (eCall 2 run_nought_grid (aCons (eL (eC (.int 1))) (aCons (eL (eC (.int 29))) aNil)))) aNil)))))
    (mSeq (mApp (lVar 5) (eMetP subT hdsP letsT (eCall 2 run_over (aCons (lVar 4) (aCons (lVar 4) aNil)))))
    (mSeq (mApp (lVar 5) (eMetP subT hdsP letsT (eCall 2 run_over (aCons (lVar 4) (aCons (eL (eCall 2 run_nought_grid (aCons (eL (eC (.int 29))) (aCons (eL (eC (.int 1))) aNil)))) aNil)))))
    (mRet (eEqL false (lVar 5) (eBin gMulL (eFr (cLst (dCons (eTup (dCons (eC (.str (Str.ofString "refused"))) (dCons (eC (.str (Str.ofString "many"))) (dCons (eC (.str (Str.ofString "60"))) dNil)))) (dCons (eTup (dCons (eC (.str (Str.ofString "let"))) dNil)) dNil)))) (eC (.int 2))))))))))))
end Fn
set_option maxRecDepth 100000
set_option maxHeartbeats 4000000
/-! # plain facts of the mirrors' parts -/
namespace Math
open PySem Mir
/-! the parts, applied -/
theorem ap_eVar (i : Nat) (ρ : Mir.Env) (s : Sto) : Mir.eVar i ρ s = match ρ[i]? with
  | some (some (.d x)) => .ok x s
  | _ => .bad := rfl
theorem ap_lVar (i : Nat) (ρ : Mir.Env) (s : Sto) : Mir.lVar i ρ s = match ρ[i]? with
  | some (some x) => .ok x s
  | _ => .bad := rfl
theorem ap_eC (x : PyData) (ρ : Mir.Env) (s : Sto) : Mir.eC x ρ s = .ok x s := rfl
theorem ap_eL (f : ME) (ρ : Mir.Env) (s : Sto) : Mir.eL f ρ s = (f ρ s).bind fun x s => .ok (.d x) s := rfl
theorem ap_eUn (g : PyData → Sto → Out PyData) (fa : ME) (ρ : Mir.Env) (s : Sto) : Mir.eUn g fa ρ s = (fa ρ s).bind g := rfl
theorem ap_eBin (g : PyData → PyData → Sto → Out PyData) (fa fb : ME) (ρ : Mir.Env) (s : Sto) : Mir.eBin g fa fb ρ s = (fa ρ s).bind fun x s1 => (fb ρ s1).bind fun y s2 => g x y s2 := rfl
theorem ap_eAnd (fa fb : ME) (ρ : Mir.Env) (s : Sto) : Mir.eAnd fa fb ρ s = (fa ρ s).bind fun x s => match x with
  | .bool true => fb ρ s
  | .bool false => .ok (.bool false) s
  | _ => .bad := rfl
theorem ap_eOr (fa fb : ME) (ρ : Mir.Env) (s : Sto) : Mir.eOr fa fb ρ s = (fa ρ s).bind fun x s => match x with
  | .bool false => fb ρ s
  | .bool true => .ok (.bool true) s
  | _ => .bad := rfl
theorem ap_eNot (fa : ME) (ρ : Mir.Env) (s : Sto) : Mir.eNot fa ρ s = (fa ρ s).bind fun x s => match x with
  | .bool b => .ok (.bool (!b)) s
  | _ => .bad := rfl
theorem ap_mE (fa : ME) (ρ : Mir.Env) (s : Sto) : Mir.mE fa ρ s = (fa ρ s).bind fun x s => match x with
  | .bool b => .ok b s
  | _ => .bad := rfl
theorem ap_mNot (fa : MT) (ρ : Mir.Env) (s : Sto) : Mir.mNot fa ρ s = (fa ρ s).bind fun b s => .ok (!b) s := rfl
theorem ap_mAnd (fa fb : MT) (ρ : Mir.Env) (s : Sto) : Mir.mAnd fa fb ρ s = (fa ρ s).bind fun b s => if b = true then fb ρ s else .ok false s := rfl
theorem ap_mOr (fa fb : MT) (ρ : Mir.Env) (s : Sto) : Mir.mOr fa fb ρ s = (fa ρ s).bind fun b s => if b = true then .ok true s else fb ρ s := rfl
theorem ap_eIf (m : MT) (fa fb : ME) (ρ : Mir.Env) (s : Sto) : Mir.eIf m fa fb ρ s = (m ρ s).bind fun b s => if b = true then fa ρ s else fb ρ s := rfl
theorem ap_aNil (ρ : Mir.Env) (s : Sto) : Mir.aNil ρ s = .ok [] s := rfl
theorem ap_aCons (fl : ML) (fr : MA) (ρ : Mir.Env) (s : Sto) : Mir.aCons fl fr ρ s = (fl ρ s).bind fun x s => (fr ρ s).bind fun r s => .ok (x :: r) s := rfl
theorem ap_dNil (ρ : Mir.Env) (s : Sto) : Mir.dNil ρ s = .ok [] s := rfl
theorem ap_dCons (fa : ME) (fr : MD) (ρ : Mir.Env) (s : Sto) : Mir.dCons fa fr ρ s = (fa ρ s).bind fun x s => (fr ρ s).bind fun r s => .ok (x :: r) s := rfl
theorem ap_eTup (fd : MD) (ρ : Mir.Env) (s : Sto) : Mir.eTup fd ρ s = (fd ρ s).bind fun ds s => if ds.length ≤ 100000 then .ok (.tuple ds) s else .bad := rfl
theorem ap_cLst (fd : MD) (ρ : Mir.Env) (s : Sto) : Mir.cLst fd ρ s = (fd ρ s).bind fun ds s => if ds.length ≤ 100000 then .ok ds s else .bad := rfl
theorem ap_eFr (fd : MD) (ρ : Mir.Env) (s : Sto) : Mir.eFr fd ρ s = (fd ρ s).bind fun ds s => .ok (.list ds) s := rfl
theorem ap_eIx (fl : ML) (fi : ME) (ρ : Mir.Env) (s : Sto) : Mir.eIx fl fi ρ s = (fl ρ s).bind fun b s => (fi ρ s).bind fun y s => gIx b y s := rfl
theorem ap_eSl (g : Sl → Sto → Out PyData) (fl : ML) (ρ : Mir.Env) (s : Sto) : Mir.eSl g fl ρ s = (fl ρ s).bind g := rfl
theorem ap_cList (fl : ML) (ρ : Mir.Env) (s : Sto) : Mir.cList fl ρ s = (fl ρ s).bind fun b s => match seqOf b s with
  | some (_, ds) => .ok ds s
  | none => .bad := rfl
theorem ap_eCall (n : Nat) (F : MF) (fa : MA) (ρ : Mir.Env) (s : Sto) : Mir.eCall n F fa ρ s = (fa ρ s).bind fun as s => if as.length = n then F as s else .bad := rfl
theorem ap_cCall (n : Nat) (F : MFc) (fa : MA) (ρ : Mir.Env) (s : Sto) : Mir.cCall n F fa ρ s = (fa ρ s).bind fun as s => if as.length = n then F as s else .bad := rfl
theorem ap_mSeq (g1 g2 : MS) (ρ : Mir.Env) (s : Sto) : Mir.mSeq g1 g2 ρ s = thenDo (g1 ρ s) g2 := rfl
theorem ap_mNil (ρ : Mir.Env) (s : Sto) : Mir.mNil ρ s = .nx ρ s := rfl
theorem ap_mSet (i : Nat) (f : ME) (ρ : Mir.Env) (s : Sto) : Mir.mSet i f ρ s = toFl (f ρ s) fun x s => .nx (ρ.set i (some (.d x))) s := rfl
theorem ap_mSetC (i : Nat) (f : MD) (ρ : Mir.Env) (s : Sto) : Mir.mSetC i f ρ s = toFl (f ρ s) fun ds s' => .nx (ρ.set i (some (.c s'.length))) (s' ++ [ds]) := rfl
theorem ap_mRet (f : ME) (ρ : Mir.Env) (s : Sto) : Mir.mRet f ρ s = toFl (f ρ s) fun x s => .rt (.d x) s := rfl
theorem ap_mRetN (ρ : Mir.Env) (s : Sto) : Mir.mRetN ρ s = .rt (.d .none) s := rfl
theorem ap_mRetL (f : ML) (ρ : Mir.Env) (s : Sto) : Mir.mRetL f ρ s = toFl (f ρ s) fun x s => .rt x s := rfl
theorem ap_mDrop (f : ME) (ρ : Mir.Env) (s : Sto) : Mir.mDrop f ρ s = toFl (f ρ s) fun _ s => .nx ρ s := rfl
theorem ap_mIf (m : MT) (g1 g2 : MS) (ρ : Mir.Env) (s : Sto) : Mir.mIf m g1 g2 ρ s = toFl (m ρ s) fun b s => if b = true then g1 ρ s else g2 ρ s := rfl
theorem ap_mNever (ρ : Mir.Env) (s : Sto) : Mir.mNever ρ s = .bad := rfl
theorem ap_mPar (i j : Nat) (fa fb : ME) (ρ : Mir.Env) (s : Sto) : Mir.mPar i j fa fb ρ s = toFl (fa ρ s) fun x s => toFl (fb ρ s) fun y s => .nx ((ρ.set i (some (.d x))).set j (some (.d y))) s := rfl
theorem ap_mPar3 (i j l : Nat) (fa fb fc : ME) (ρ : Mir.Env) (s : Sto) : Mir.mPar3 i j l fa fb fc ρ s = toFl (fa ρ s) fun x s => toFl (fb ρ s) fun y s => toFl (fc ρ s) fun z s => .nx (((ρ.set i (some (.d x))).set j (some (.d y))).set l (some (.d z))) s := rfl
theorem ap_mPut (fl : ML) (fi fe : ME) (ρ : Mir.Env) (s : Sto) : Mir.mPut fl fi fe ρ s = toFl (fe ρ s) fun x s => toFl (fl ρ s) fun b s => toFl (fi ρ s) fun y s => nxO ρ (putAt b y x s) := rfl
theorem ap_mApp (fl : ML) (fa : ME) (ρ : Mir.Env) (s : Sto) : Mir.mApp fl fa ρ s = toFl (fl ρ s) fun b s => if isC b = true then (toFl (fa ρ s) fun x s => nxO ρ (appAt b x s)) else .bad := rfl
theorem ap_mTo (f : MG) (fa : ME) (ρ : Mir.Env) (s : Sto) : Mir.mTo f fa ρ s = toFl (fa ρ s) fun x s => match f x ρ with
  | some ρ' => .nx ρ' s
  | none => .bad := rfl
theorem ap_iRg1 (fa : ME) (ρ : Mir.Env) (s : Sto) : Mir.iRg1 fa ρ s = (fa ρ s).bind fun x s => match x with
  | .int j => if -(2 ^ 62) ≤ j ∧ j < 2 ^ 62 then .ok (rangeOf 0 j.toNat) s else .bad
  | _ => .bad := rfl
theorem ap_iRg2 (fa fb : ME) (ρ : Mir.Env) (s : Sto) : Mir.iRg2 fa fb ρ s = (fa ρ s).bind fun x s => (fb ρ s).bind fun y s => match x, y with
  | .int i, .int j => if (-(2 ^ 62) ≤ i ∧ i < 2 ^ 62) ∧ -(2 ^ 62) ≤ j ∧ j < 2 ^ 62 then .ok (rangeOf i (j - i).toNat) s else .bad
  | _, _ => .bad := rfl
theorem ap_mYes (ρ : Mir.Env) (s : Sto) : Mir.mYes ρ s = .ok true s := rfl
theorem ap_iSq (fa : ME) (ρ : Mir.Env) (s : Sto) : Mir.iSq fa ρ s = (fa ρ s).bind fun x s => orBad (itemsOf x) fun ds => .ok ds s := rfl
theorem ap_iZp (fa fb : ME) (ρ : Mir.Env) (s : Sto) : Mir.iZp fa fb ρ s = (fa ρ s).bind fun x s => (fb ρ s).bind fun y s => orBad (itemsOf x) fun xs => orBad (itemsOf y) fun ys => .ok (zipD xs ys) s := rfl
theorem ap_iEn (fa : ME) (ρ : Mir.Env) (s : Sto) : Mir.iEn fa ρ s = (fa ρ s).bind fun x s => match x with
  | .list ds => .ok (enumD 0 ds) s
  | _ => .bad := rfl
theorem ap_mRetC (f : MD) (ρ : Mir.Env) (s : Sto) : Mir.mRetC f ρ s = toFl (f ρ s) fun ds s => .rt (.c s.length) (s ++ [ds]) := rfl
theorem ap_eCh (p q : Int → Int → Bool) (fa fb fc : ME) (ρ : Mir.Env) (s : Sto) : Mir.eCh p q fa fb fc ρ s = (fa ρ s).bind fun x s => (fb ρ s).bind fun y s => (gCmp p x y s).bind fun r s => match r with
  | .bool k => gChain q fc k y ρ s
  | _ => .bad := rfl
theorem ap_noPart (ρ : Mir.Env) (s : Sto) : Mir.noPart ρ s = .ok none s := rfl
theorem ap_aPart (fa : ME) (ρ : Mir.Env) (s : Sto) : Mir.aPart fa ρ s = (fa ρ s).bind fun x s => match x with
  | .int i => .ok (some i) s
  | _ => .bad := rfl
theorem ap_cComp (it : MD) (tg : MG) (m : MT) (fe : ME) (own : List Nat) (ρ : Mir.Env) (s : Sto) : Mir.cComp it tg m fe own ρ s = (it ρ s).bind fun ds s => if ds.length ≤ 100000 then compL tg m fe (wipeE ρ own) ds s else .bad := rfl
theorem ap_mFor (it : MD) (tg : MG) (body : MS) (ρ : Mir.Env) (s : Sto) : Mir.mFor it tg body ρ s = toFl (it ρ s) fun ds s => forL tg body ds ρ s := rfl
theorem ap_eSlice (fa : ME) (fl fh : Mir.Env → Sto → Out (Option Int)) (ρ : Mir.Env) (s : Sto) : eSlice fa fl fh ρ s = (fa ρ s).bind fun x s => (fl ρ s).bind fun lo s => (fh ρ s).bind fun hi s => gSl x lo hi s := rfl
theorem ap_mkF (k : Nat) (g : MS) (as : List Sl) (s : Sto) : mkF k g as s = fin s.length (g (env0 k as) s) := rfl
theorem ap_mkC (k : Nat) (g : MS) (as : List Sl) (s : Sto) : mkC k g as s = finC s.length (g (env0 k as) s) := rfl
theorem take_hats {s s' : Sto} (h : s'.length = s.length) : s'.take s.length = s' := by rw [← h, List.take_length]
/-! ap end -/
def isTup : PyData → Bool
  | .tuple _ => true
  | _ => false
def isLst : PyData → Bool
  | .list _ => true
  | _ => false
def isNum : PyData → Bool
  | .int _ => true
  | .bool _ => true
  | _ => false
def isBol : PyData → Bool
  | .bool _ => true
  | _ => false
def isInt : PyData → Bool
  | .int _ => true
  | _ => false
theorem eIsi_tuple (fa : ME) (ρ : Mir.Env) (s : Sto) : eIsi "tuple" fa ρ s = (fa ρ s).bind fun x s => .ok (.bool (isTup x)) s := by
  unfold eIsi
  congr 1
  funext x s
  cases x <;> rfl
theorem eIsi_int (fa : ME) (ρ : Mir.Env) (s : Sto) : eIsi "int" fa ρ s = (fa ρ s).bind fun x s => .ok (.bool (isNum x)) s := by
  unfold eIsi
  congr 1
  funext x s
  cases x <;> rfl
theorem eIsi_bool (fa : ME) (ρ : Mir.Env) (s : Sto) : eIsi "bool" fa ρ s = (fa ρ s).bind fun x s => .ok (.bool (isBol x)) s := by
  unfold eIsi
  congr 1
  funext x s
  cases x <;> rfl
/-- a comprehension whose parts change nothing -/
theorem compL_filter {tg : MG} {m : MT} {fe : ME} {ρ : Mir.Env} {s : Sto} {p : PyData → Bool} {f : PyData → PyData} : ∀ {ds : List PyData},
    (∀ d ∈ ds, ∃ ρ1, tg d ρ = some ρ1 ∧ m ρ1 s = .ok (p d) s ∧ (p d = true → fe ρ1 s = .ok (f d) s)) → compL tg m fe ρ ds s = .ok ((ds.filter p).map f) s
  | [], _ => rfl
  | d :: ds, h => by
    have ih := compL_filter (ds := ds) fun x hx => h x (List.mem_cons_of_mem _ hx)
    obtain ⟨ρ1, e1, e2, e3⟩ := h d (List.mem_cons_self ..)
    unfold compL
    rw [e1]
    simp only [e2, Out.bind_ok]
    by_cases hp : p d = true
    · rw [if_pos hp, e3 hp]
      simp only [Out.bind_ok, ih, List.filter_cons, hp, if_true, List.map_cons]
    · rw [if_neg hp, ih]
      simp only [List.filter_cons, if_neg hp]
theorem compL_map {tg : MG} {fe : ME} {ρ : Mir.Env} {s : Sto} {f : PyData → PyData} {ds : List PyData}
    (h : ∀ d ∈ ds, ∃ ρ1, tg d ρ = some ρ1 ∧ fe ρ1 s = .ok (f d) s) : compL tg mYes fe ρ ds s = .ok (ds.map f) s := by
  have q := compL_filter (m := mYes) (p := fun _ => true) (tg := tg) (fe := fe) (ρ := ρ) (s := s) (f := f) (ds := ds) fun d hd => by
    obtain ⟨ρ1, e1, e2⟩ := h d hd
    exact ⟨ρ1, e1, rfl, fun _ => e2⟩
  rw [q, List.filter_eq_self.mpr fun _ _ => rfl]
theorem comp_filter {it : MD} {k : Nat} {m : MT} {fe : ME} {ρ : Mir.Env} {s : Sto} (p : PyData → Bool) (f : PyData → PyData) {ds : List PyData} (hi : it ρ s = .ok ds s) (hl : ds.length ≤ 100000)
    (h : ∀ d ∈ ds, m ((wipeE ρ [k]).set k (some (.d d))) s = .ok (p d) s ∧ (p d = true → fe ((wipeE ρ [k]).set k (some (.d d))) s = .ok (f d) s)) :
    cComp it (gNm k) m fe [k] ρ s = .ok ((ds.filter p).map f) s := by
  unfold cComp
  rw [hi, Out.bind_ok, if_pos hl]
  exact compL_filter fun d hd => ⟨_, rfl, h d hd⟩
theorem comp_map {it : MD} {k : Nat} {fe : ME} {ρ : Mir.Env} {s : Sto} (f : PyData → PyData) {ds : List PyData} (hi : it ρ s = .ok ds s) (hl : ds.length ≤ 100000)
    (h : ∀ d ∈ ds, fe ((wipeE ρ [k]).set k (some (.d d))) s = .ok (f d) s) :
    cComp it (gNm k) mYes fe [k] ρ s = .ok (ds.map f) s := by
  unfold cComp
  rw [hi, Out.bind_ok, if_pos hl]
  exact compL_map fun d hd => ⟨_, rfl, h d hd⟩
theorem bols_map (f : PyData → Bool) : ∀ ds : List PyData, bolsOf (ds.map fun d => .bool (f d)) = some (ds.map f)
  | [] => rfl
  | d :: ds => by
    have ih := bols_map f ds
    simp only [List.map_cons, bolsOf, ih, Option.map_some]
theorem ints_map {α : Type} (f : α → Int) : ∀ ds : List α, intsOf (ds.map fun d => .int (f d)) = some (ds.map f)
  | [] => rfl
  | d :: ds => by
    have ih := ints_map f ds
    simp only [List.map_cons, intsOf, ih, Option.map_some]
theorem shaped_int (i : Int) : SeqAt.shaped (.int i) = true := by simp [SeqAt.shaped, PyData.canLay0, PyData.depth]
theorem shaped_bool (i : Bool) : SeqAt.shaped (.bool i) = true := by simp [SeqAt.shaped, PyData.canLay0, PyData.depth]
theorem shaped_none : SeqAt.shaped .none = true := by simp [SeqAt.shaped, PyData.canLay0, PyData.depth]
theorem gEq_int (neg : Bool) (i j : Int) (s : Sto) : gEq neg (.int i) (.int j) s = .ok (.bool (neg != decide (i = j))) s := by
  simp [gEq, shaped_int, PyData.eqv]
  rfl
theorem gEq_bool (neg : Bool) (i j : Bool) (s : Sto) : gEq neg (.bool i) (.bool j) s = .ok (.bool (neg != decide (i = j))) s := by
  simp [gEq, shaped_bool, PyData.eqv]
  cases i <;> cases j <;> rfl
theorem eqvAll_nil_left (xs : List PyData) : PyData.eqvAll xs [] = xs.isEmpty := by cases xs <;> rfl
end Math
/-! # data that can be compared -/
namespace Math
open PySem Mir
theorem canAll {xs : List PyData} : PyData.canLayAll0 xs = true ↔ ∀ x ∈ xs, PyData.canLay0 x = true := by
  induction xs with
  | nil => simp [PyData.canLayAll0]
  | cons x xs ih => simp [PyData.canLayAll0, ih]
theorem depthAll_le {xs : List PyData} {n : Nat} : PyData.depthAll xs ≤ n ↔ ∀ x ∈ xs, PyData.depth x ≤ n := by
  induction xs with
  | nil => simp [PyData.depthAll]
  | cons x xs ih => simp [PyData.depthAll, ih, Nat.max_le]
/-- comparable, and n deep at most -/
def Sh (n : Nat) (v : PyData) : Prop := v.canLay0 = true ∧ v.depth ≤ n
theorem Sh.shaped {n : Nat} {v : PyData} (h : Sh n v) (hn : n ≤ 64) : SeqAt.shaped v = true := by
  unfold SeqAt.shaped
  rw [h.1, decide_eq_true (Nat.le_trans h.2 hn)]
  rfl
theorem Sh.mono {m n : Nat} {v : PyData} (h : Sh m v) (hn : m ≤ n) : Sh n v := ⟨h.1, Nat.le_trans h.2 hn⟩
theorem sh_tuple {n : Nat} {xs : List PyData} : Sh (n + 1) (.tuple xs) ↔ ∀ x ∈ xs, Sh n x := by
  simp only [Sh, PyData.canLay0, PyData.depth, canAll, Nat.add_le_add_iff_right, depthAll_le]
  exact ⟨fun h x hx => ⟨h.1 x hx, h.2 x hx⟩, fun h => ⟨fun x hx => (h x hx).1, fun x hx => (h x hx).2⟩⟩
theorem sh_list {n : Nat} {xs : List PyData} : Sh (n + 1) (.list xs) ↔ ∀ x ∈ xs, Sh n x := by
  simp only [Sh, PyData.canLay0, PyData.depth, canAll, Nat.add_le_add_iff_right, depthAll_le]
  exact ⟨fun h x hx => ⟨h.1 x hx, h.2 x hx⟩, fun h => ⟨fun x hx => (h x hx).1, fun x hx => (h x hx).2⟩⟩
theorem sh_int {n : Nat} (i : Int) : Sh n (.int i) := by simp [Sh, PyData.canLay0, PyData.depth]
theorem sh_bool {n : Nat} (b : Bool) : Sh n (.bool b) := by simp [Sh, PyData.canLay0, PyData.depth]
theorem sh_none {n : Nat} : Sh n .none := by simp [Sh, PyData.canLay0, PyData.depth]
theorem gEq_nil {neg : Bool} {xs : List PyData} {s : Sto} (h : Sh 64 (.list xs)) : gEq neg (.list xs) (.list []) s = .ok (.bool (neg != xs.isEmpty)) s := by
  have h2 : SeqAt.shaped (.list []) = true := by simp [SeqAt.shaped, PyData.canLay0, PyData.canLayAll0, PyData.depth, PyData.depthAll]
  unfold gEq
  rw [if_pos ⟨h.shaped (Nat.le_refl _), h2⟩]
  cases xs <;> simp [PyData.eqv, PyData.eqvAll]
theorem gEq_sh {neg : Bool} {x y : PyData} {s : Sto} (hx : Sh 64 x) (hy : Sh 64 y) : gEq neg x y s = .ok (.bool (neg != PyData.eqv x y)) s := by
  unfold gEq
  rw [if_pos ⟨hx.shaped (Nat.le_refl _), hy.shaped (Nat.le_refl _)⟩]
end Math
/-! # the draws of a law -/
namespace Math
open PySem Mir Fn
/-- the cell n holds three integers -/
def Hat (n : Nat) (s : Sto) : Prop := ∃ x y z : Int, s[n]? = some [.int x, .int y, .int z]
/-- s' is s but for the cell n, that holds three integers -/
def Hats (n : Nat) (s s' : Sto) : Prop := ∃ x y z : Int, s' = s.set n [.int x, .int y, .int z]
theorem Hat.lt {n : Nat} {s : Sto} (h : Hat n s) : n < s.length := by
  obtain ⟨x, y, z, h⟩ := h
  exact (List.getElem?_eq_some_iff.mp h).1
theorem Hats.hat {n : Nat} {s s' : Sto} (h : Hat n s) (e : Hats n s s') : Hat n s' := by
  obtain ⟨x, y, z, rfl⟩ := e
  exact ⟨x, y, z, List.getElem?_set_self h.lt⟩
theorem Hats.refl {n : Nat} {s : Sto} (h : Hat n s) : Hats n s s := by
  obtain ⟨x, y, z, h⟩ := h
  refine ⟨x, y, z, ?_⟩
  apply List.ext_getElem?
  intro i
  rw [List.getElem?_set]
  split
  · rename_i e
    subst e
    rw [h]
    split
    · rfl
    · rename_i k
      exact absurd (List.getElem?_eq_some_iff.mp h).1 k
  · rfl
theorem Hats.trans {n : Nat} {s s1 s2 : Sto} (h1 : Hats n s s1) (h2 : Hats n s1 s2) : Hats n s s2 := by
  obtain ⟨x, y, z, rfl⟩ := h1
  obtain ⟨x', y', z', rfl⟩ := h2
  exact ⟨x', y', z', by rw [List.set_set]⟩
theorem Hats.len {n : Nat} {s s' : Sto} (e : Hats n s s') : s'.length = s.length := by
  obtain ⟨x, y, z, rfl⟩ := e
  rw [List.length_set]
theorem Hats.other {n i : Nat} {s s' : Sto} (e : Hats n s s') (h : i ≠ n) : s'[i]? = s[i]? := by
  obtain ⟨x, y, z, rfl⟩ := e
  exact List.getElem?_set_ne (Ne.symm h)
@[simp] theorem take_set {n : Nat} {s : Sto} {v : List PyData} : (s.set n v).take s.length = s.set n v := List.take_of_length_le (by simp)
theorem take_set' {n k : Nat} {s : Sto} {v : List PyData} (h : s.length = k) : (s.set n v).take k = s.set n v := List.take_of_length_le (by simp [h])
theorem up_to {n : Nat} {s : Sto} {m : Int} (h : Hat n s) (hm : 0 < m) (hb : m.natAbs.log2 < 9000) :
    ∃ (r : Int) (s' : Sto), 0 ≤ r ∧ r < m ∧ Hats n s s' ∧ run_law_up_to [.c n, .d (.int m)] s = .ok (.int r) s' := by
  have hn := h.lt
  obtain ⟨x, y, z, e⟩ := h
  have e1 : s[n] = [.int x, .int y, .int z] := (List.getElem?_eq_some_iff.mp e).2
  have m0 : m ≠ 0 := by omega
  by_cases c : 0 < x
  · refine ⟨x % m, s.set n [.int (x.fdiv m), .int y, .int z], Int.emod_nonneg _ m0, Int.emod_lt_of_pos _ hm, ⟨_, _, _, rfl⟩, ?_⟩
    simp [run_law_up_to, mkF, env0, fin, mSeq, mIf, mE, mSet, mRet, mPut, Mir.putAt, eBin, eIx, eC, eVar, lVar, eSl, eL, Out.bind, gIx, seqOf, gCmp, gI, gInt, L2.atI, L2.ixN, e1, c, hm, CDivB, m0, hb, hn]
  · let one : Int := (y + 86028157 * (z + 1)) % 2305843009213693951
    refine ⟨(((one * one + 67867967) % 2305843009213693921 * 15485863 + one + 19 * (z + 1)).fdiv 65539) % m, s.set n [.int x, .int y, .int (z + 1)], Int.emod_nonneg _ m0, Int.emod_lt_of_pos _ hm, ⟨_, _, _, rfl⟩, ?_⟩
    have hone : one.natAbs < 2 ^ 64 := by
      have h0 := Int.emod_nonneg (y + 86028157 * (z + 1)) (b := 2305843009213693951) (by decide)
      have h1 := Int.emod_lt_of_pos (y + 86028157 * (z + 1)) (b := 2305843009213693951) (by decide)
      have : one = (y + 86028157 * (z + 1)) % 2305843009213693951 := rfl
      omega
    have hone' : ((y + 86028157 * (z + 1)) % 2305843009213693951).natAbs < 18446744073709551616 := hone
    have hl : Nat.log2 65539 < 9000 := by decide
    simp [run_law_up_to, mkF, env0, fin, mSeq, mIf, mE, mSet, mRet, mPut, mNil, Mir.putAt, eBin, eIx, eC, eVar, lVar, eSl, eL, Out.bind, gIx, seqOf, gCmp, gI, gInt, gAdd, gMulA, L2.atI, L2.ixN, e1, c, hm, CDivB, CMulB, m0, hb, hn, hone', hl, one]
theorem out_of {n : Nat} {s : Sto} {ds : List PyData} (h : Hat n s) (hl : ds ≠ []) (hb : ds.length < 2 ^ 64) :
    ∃ (d : PyData) (s' : Sto), d ∈ ds ∧ Hats n s s' ∧ run_law_out_of [.c n, .d (.list ds)] s = .ok d s' := by
  have hp : 0 < ds.length := List.length_pos_iff.mpr hl
  have hlog : ((ds.length : Int)).natAbs.log2 < 9000 := by
    have : (ds.length).log2 < 64 := (Nat.log2_lt (by omega)).mpr hb
    simp only [Int.natAbs_natCast]
    omega
  obtain ⟨r, s', h0, h1, hs, e⟩ := up_to (m := (ds.length : Int)) h (by omega) hlog
  obtain ⟨k, rfl⟩ := Int.eq_ofNat_of_zero_le h0
  have hk : k < ds.length := by omega
  refine ⟨ds[k], s', List.getElem_mem hk, hs, ?_⟩
  have hlen := hs.len
  simp [run_law_out_of, mkF, env0, fin, mRet, eIx, eVar, lVar, eSl, eL, eCall, aCons, aNil, gLen, seqOf, gIx, L2.atI, L2.ixN, Out.bind, e, hk]
  rw [← hlen, List.take_length]
end Math
/-! # small numbers -/
namespace Math
open PySem Mir Fn
theorem small_nat {r : Int} {k : Nat} (h0 : 0 ≤ r) (h1 : r < k) : ∃ m : Nat, r = m ∧ m < k := by
  obtain ⟨m, rfl⟩ := Int.eq_ofNat_of_zero_le h0
  exact ⟨m, rfl, by omega⟩
theorem rangeOf_eq (n : Nat) : rangeOf 0 n = (List.range n).map fun i => .int (i : Nat) := by
  unfold rangeOf
  refine List.map_congr_left fun i _ => ?_
  rw [Int.zero_add]
end Math
/-! # integers judged -/
namespace Math
open PySem Mir Fn
def isShort : PyData → Bool
  | .int i => decide (i.natAbs < 1000000000000)
  | _ => false
theorem abs_lt {i : Int} {n : Nat} : (if i < 0 then -i else i) < (n : Int) ↔ i.natAbs < n := by
  split <;> omega
theorem long_integer (v : PyData) (s : Sto) : run_is_long_integer [.d v] s = .ok (.bool (isInt v)) s := by
  cases v <;> simp -implicitDefEqProofs [Math.ap_eVar, Math.ap_lVar, Math.ap_eC, Math.ap_eL, Math.ap_eUn, Math.ap_eBin, Math.ap_eAnd, Math.ap_eOr, Math.ap_eNot, Math.ap_mE, Math.ap_mNot, Math.ap_mAnd, Math.ap_mOr, Math.ap_eIf, Math.ap_aNil, Math.ap_aCons, Math.ap_dNil, Math.ap_dCons, Math.ap_eTup, Math.ap_cLst, Math.ap_eFr, Math.ap_eIx, Math.ap_eSl, Math.ap_cList, Math.ap_eCall, Math.ap_cCall, Math.ap_mSeq, Math.ap_mNil, Math.ap_mSet, Math.ap_mSetC, Math.ap_mRet, Math.ap_mRetN, Math.ap_mRetL, Math.ap_mDrop, Math.ap_mIf, Math.ap_mNever, Math.ap_mPar, Math.ap_mPar3, Math.ap_mPut, Math.ap_mApp, Math.ap_mTo, Math.ap_mYes, Math.ap_iSq, Math.ap_iZp, Math.ap_iEn, Math.ap_mRetC, Math.ap_eCh, Math.ap_noPart, Math.ap_aPart, Math.ap_eSlice, Math.ap_mkF, Math.ap_mkC, Mir.env0, Mir.fin, Mir.finC, Mir.thenDo, Mir.toFl, Mir.wipeE, Mir.itemsOf, Mir.orBad, Mir.gNm, Mir.gTp, Mir.gNms, Mir.Out.bind, Mir.gIx, Mir.seqOf, Mir.gLen, Mir.gTuple, Mir.gAbs, Mir.gInt, Mir.gCmp, Mir.gI, Mir.gAdd, Mir.gSub, Mir.gNeg, Mir.gBols, Mir.gInts, Mir.gChain, Mir.nxO, Mir.putAt, Mir.appAt, Mir.isC, L2.atI, L2.ixN, Math.eIsi_tuple, Math.eIsi_int, Math.eIsi_bool, Math.gEq_int, Math.gEq_bool, run_is_long_integer, isNum, isBol, isInt]
theorem integer (v : PyData) (s : Sto) : run_is_integer [.d v] s = .ok (.bool (isShort v)) s := by
  cases v <;> simp -implicitDefEqProofs [Math.ap_eVar, Math.ap_lVar, Math.ap_eC, Math.ap_eL, Math.ap_eUn, Math.ap_eBin, Math.ap_eAnd, Math.ap_eOr, Math.ap_eNot, Math.ap_mE, Math.ap_mNot, Math.ap_mAnd, Math.ap_mOr, Math.ap_eIf, Math.ap_aNil, Math.ap_aCons, Math.ap_dNil, Math.ap_dCons, Math.ap_eTup, Math.ap_cLst, Math.ap_eFr, Math.ap_eIx, Math.ap_eSl, Math.ap_cList, Math.ap_eCall, Math.ap_cCall, Math.ap_mSeq, Math.ap_mNil, Math.ap_mSet, Math.ap_mSetC, Math.ap_mRet, Math.ap_mRetN, Math.ap_mRetL, Math.ap_mDrop, Math.ap_mIf, Math.ap_mNever, Math.ap_mPar, Math.ap_mPar3, Math.ap_mPut, Math.ap_mApp, Math.ap_mTo, Math.ap_mYes, Math.ap_iSq, Math.ap_iZp, Math.ap_iEn, Math.ap_mRetC, Math.ap_eCh, Math.ap_noPart, Math.ap_aPart, Math.ap_eSlice, Math.ap_mkF, Math.ap_mkC, Mir.env0, Mir.fin, Mir.finC, Mir.thenDo, Mir.toFl, Mir.wipeE, Mir.itemsOf, Mir.orBad, Mir.gNm, Mir.gTp, Mir.gNms, Mir.Out.bind, Mir.gIx, Mir.seqOf, Mir.gLen, Mir.gTuple, Mir.gAbs, Mir.gInt, Mir.gCmp, Mir.gI, Mir.gAdd, Mir.gSub, Mir.gNeg, Mir.gBols, Mir.gInts, Mir.gChain, Mir.nxO, Mir.putAt, Mir.appAt, Mir.isC, L2.atI, L2.ixN, Math.eIsi_tuple, Math.eIsi_int, Math.eIsi_bool, Math.gEq_int, Math.gEq_bool, run_is_integer, long_integer, isInt, isShort]
  rename_i i
  exact abs_lt (n := 1000000000000)
end Math
/-! # which values are integers, rows, grids -/
namespace Math
open PySem Mir Fn
def isBetween (a b : Int) : PyData → Bool
  | .int i => decide (i.natAbs < 1000000000000) && decide (a ≤ i) && decide (i ≤ b)
  | _ => false
def isLongRow : PyData → Bool
  | .tuple ds => decide (ds.length ≤ 60) && ds.all isInt
  | _ => false
def isRow : PyData → Bool
  | .tuple ds => decide (ds.length ≤ 60) && ds.all isShort
  | _ => false
/-- a row's length is n -/
def hasLen (n : Int) : PyData → Bool
  | .tuple ds => decide ((ds.length : Int) = n)
  | _ => false
def lenIs : PyData → PyData → Bool
  | .int n, r => hasLen n r
  | _, _ => false
def isLongGrid : PyData → Bool
  | .tuple [w, .tuple rows] => isBetween 0 60 w && decide (rows.length ≤ 60) && rows.all fun r => isLongRow r && lenIs w r
  | _ => false
def isGrid : PyData → Bool
  | .tuple [w, .tuple rows] => isBetween 0 60 w && decide (rows.length ≤ 60) && rows.all fun r => isRow r && lenIs w r
  | _ => false
theorem between (v : PyData) (a b : Int) (s : Sto) : run_is_between [.d v, .d (.int a), .d (.int b)] s = .ok (.bool (isBetween a b v)) s := by
  cases v <;> simp -implicitDefEqProofs [Math.ap_eVar, Math.ap_lVar, Math.ap_eC, Math.ap_eL, Math.ap_eUn, Math.ap_eBin, Math.ap_eAnd, Math.ap_eOr, Math.ap_eNot, Math.ap_mE, Math.ap_mNot, Math.ap_mAnd, Math.ap_mOr, Math.ap_eIf, Math.ap_aNil, Math.ap_aCons, Math.ap_dNil, Math.ap_dCons, Math.ap_eTup, Math.ap_cLst, Math.ap_eFr, Math.ap_eIx, Math.ap_eSl, Math.ap_cList, Math.ap_eCall, Math.ap_cCall, Math.ap_mSeq, Math.ap_mNil, Math.ap_mSet, Math.ap_mSetC, Math.ap_mRet, Math.ap_mRetN, Math.ap_mRetL, Math.ap_mDrop, Math.ap_mIf, Math.ap_mNever, Math.ap_mPar, Math.ap_mPar3, Math.ap_mPut, Math.ap_mApp, Math.ap_mTo, Math.ap_mYes, Math.ap_iSq, Math.ap_iZp, Math.ap_iEn, Math.ap_mRetC, Math.ap_eCh, Math.ap_noPart, Math.ap_aPart, Math.ap_eSlice, Math.ap_mkF, Math.ap_mkC, Mir.env0, Mir.fin, Mir.finC, Mir.thenDo, Mir.toFl, Mir.wipeE, Mir.itemsOf, Mir.orBad, Mir.gNm, Mir.gTp, Mir.gNms, Mir.Out.bind, Mir.gIx, Mir.seqOf, Mir.gLen, Mir.gTuple, Mir.gAbs, Mir.gInt, Mir.gCmp, Mir.gI, Mir.gAdd, Mir.gSub, Mir.gNeg, Mir.gBols, Mir.gInts, Mir.gChain, Mir.nxO, Mir.putAt, Mir.appAt, Mir.isC, L2.atI, L2.ixN, Math.eIsi_tuple, Math.eIsi_int, Math.eIsi_bool, Math.gEq_int, Math.gEq_bool, run_is_between, integer, isShort, isBetween]
  rename_i i
  by_cases h1 : i.natAbs < 1000000000000 <;> by_cases h2 : a ≤ i <;> simp [h1, h2]
theorem long_row (v : PyData) (s : Sto) : run_is_long_row [.d v] s = .ok (.bool (isLongRow v)) s := by
  cases v with
  | tuple ds =>
    by_cases h : ds.length ≤ 60
    · have c : cComp (iSq (eVar 0)) (gNm 1) mYes (eCall 1 run_is_long_integer (aCons (lVar 1) aNil)) [1] [some (.d (.tuple ds)), none] s = .ok (ds.map fun d => .bool (isInt d)) s :=
        comp_map _ rfl (by omega) fun d _ => by simp -implicitDefEqProofs [Math.ap_eVar, Math.ap_lVar, Math.ap_eC, Math.ap_eL, Math.ap_eUn, Math.ap_eBin, Math.ap_eAnd, Math.ap_eOr, Math.ap_eNot, Math.ap_mE, Math.ap_mNot, Math.ap_mAnd, Math.ap_mOr, Math.ap_eIf, Math.ap_aNil, Math.ap_aCons, Math.ap_dNil, Math.ap_dCons, Math.ap_eTup, Math.ap_cLst, Math.ap_eFr, Math.ap_eIx, Math.ap_eSl, Math.ap_cList, Math.ap_eCall, Math.ap_cCall, Math.ap_mSeq, Math.ap_mNil, Math.ap_mSet, Math.ap_mSetC, Math.ap_mRet, Math.ap_mRetN, Math.ap_mRetL, Math.ap_mDrop, Math.ap_mIf, Math.ap_mNever, Math.ap_mPar, Math.ap_mPar3, Math.ap_mPut, Math.ap_mApp, Math.ap_mTo, Math.ap_mYes, Math.ap_iSq, Math.ap_iZp, Math.ap_iEn, Math.ap_mRetC, Math.ap_eCh, Math.ap_noPart, Math.ap_aPart, Math.ap_eSlice, Math.ap_mkF, Math.ap_mkC, Mir.env0, Mir.fin, Mir.finC, Mir.thenDo, Mir.toFl, Mir.wipeE, Mir.itemsOf, Mir.orBad, Mir.gNm, Mir.gTp, Mir.gNms, Mir.Out.bind, Mir.gIx, Mir.seqOf, Mir.gLen, Mir.gTuple, Mir.gAbs, Mir.gInt, Mir.gCmp, Mir.gI, Mir.gAdd, Mir.gSub, Mir.gNeg, Mir.gBols, Mir.gInts, Mir.gChain, Mir.nxO, Mir.putAt, Mir.appAt, Mir.isC, L2.atI, L2.ixN, Math.eIsi_tuple, Math.eIsi_int, Math.eIsi_bool, Math.gEq_int, Math.gEq_bool, long_integer]
      have h' : (ds.length : Int) ≤ 60 := by omega
      simp -implicitDefEqProofs [Math.ap_eVar, Math.ap_lVar, Math.ap_eC, Math.ap_eL, Math.ap_eUn, Math.ap_eBin, Math.ap_eAnd, Math.ap_eOr, Math.ap_eNot, Math.ap_mE, Math.ap_mNot, Math.ap_mAnd, Math.ap_mOr, Math.ap_eIf, Math.ap_aNil, Math.ap_aCons, Math.ap_dNil, Math.ap_dCons, Math.ap_eTup, Math.ap_cLst, Math.ap_eFr, Math.ap_eIx, Math.ap_eSl, Math.ap_cList, Math.ap_eCall, Math.ap_cCall, Math.ap_mSeq, Math.ap_mNil, Math.ap_mSet, Math.ap_mSetC, Math.ap_mRet, Math.ap_mRetN, Math.ap_mRetL, Math.ap_mDrop, Math.ap_mIf, Math.ap_mNever, Math.ap_mPar, Math.ap_mPar3, Math.ap_mPut, Math.ap_mApp, Math.ap_mTo, Math.ap_mYes, Math.ap_iSq, Math.ap_iZp, Math.ap_iEn, Math.ap_mRetC, Math.ap_eCh, Math.ap_noPart, Math.ap_aPart, Math.ap_eSlice, Math.ap_mkF, Math.ap_mkC, Mir.env0, Mir.fin, Mir.finC, Mir.thenDo, Mir.toFl, Mir.wipeE, Mir.itemsOf, Mir.orBad, Mir.gNm, Mir.gTp, Mir.gNms, Mir.Out.bind, Mir.gIx, Mir.seqOf, Mir.gLen, Mir.gTuple, Mir.gAbs, Mir.gInt, Mir.gCmp, Mir.gI, Mir.gAdd, Mir.gSub, Mir.gNeg, Mir.gBols, Mir.gInts, Mir.gChain, Mir.nxO, Mir.putAt, Mir.appAt, Mir.isC, L2.atI, L2.ixN, Math.eIsi_tuple, Math.eIsi_int, Math.eIsi_bool, Math.gEq_int, Math.gEq_bool, run_is_long_row, isTup, isLongRow, h, h', c, bols_map]
    · have h' : ¬ (ds.length : Int) ≤ 60 := by omega
      simp -implicitDefEqProofs [Math.ap_eVar, Math.ap_lVar, Math.ap_eC, Math.ap_eL, Math.ap_eUn, Math.ap_eBin, Math.ap_eAnd, Math.ap_eOr, Math.ap_eNot, Math.ap_mE, Math.ap_mNot, Math.ap_mAnd, Math.ap_mOr, Math.ap_eIf, Math.ap_aNil, Math.ap_aCons, Math.ap_dNil, Math.ap_dCons, Math.ap_eTup, Math.ap_cLst, Math.ap_eFr, Math.ap_eIx, Math.ap_eSl, Math.ap_cList, Math.ap_eCall, Math.ap_cCall, Math.ap_mSeq, Math.ap_mNil, Math.ap_mSet, Math.ap_mSetC, Math.ap_mRet, Math.ap_mRetN, Math.ap_mRetL, Math.ap_mDrop, Math.ap_mIf, Math.ap_mNever, Math.ap_mPar, Math.ap_mPar3, Math.ap_mPut, Math.ap_mApp, Math.ap_mTo, Math.ap_mYes, Math.ap_iSq, Math.ap_iZp, Math.ap_iEn, Math.ap_mRetC, Math.ap_eCh, Math.ap_noPart, Math.ap_aPart, Math.ap_eSlice, Math.ap_mkF, Math.ap_mkC, Mir.env0, Mir.fin, Mir.finC, Mir.thenDo, Mir.toFl, Mir.wipeE, Mir.itemsOf, Mir.orBad, Mir.gNm, Mir.gTp, Mir.gNms, Mir.Out.bind, Mir.gIx, Mir.seqOf, Mir.gLen, Mir.gTuple, Mir.gAbs, Mir.gInt, Mir.gCmp, Mir.gI, Mir.gAdd, Mir.gSub, Mir.gNeg, Mir.gBols, Mir.gInts, Mir.gChain, Mir.nxO, Mir.putAt, Mir.appAt, Mir.isC, L2.atI, L2.ixN, Math.eIsi_tuple, Math.eIsi_int, Math.eIsi_bool, Math.gEq_int, Math.gEq_bool, run_is_long_row, isTup, isLongRow, h, h']
  | _ => simp -implicitDefEqProofs [Math.ap_eVar, Math.ap_lVar, Math.ap_eC, Math.ap_eL, Math.ap_eUn, Math.ap_eBin, Math.ap_eAnd, Math.ap_eOr, Math.ap_eNot, Math.ap_mE, Math.ap_mNot, Math.ap_mAnd, Math.ap_mOr, Math.ap_eIf, Math.ap_aNil, Math.ap_aCons, Math.ap_dNil, Math.ap_dCons, Math.ap_eTup, Math.ap_cLst, Math.ap_eFr, Math.ap_eIx, Math.ap_eSl, Math.ap_cList, Math.ap_eCall, Math.ap_cCall, Math.ap_mSeq, Math.ap_mNil, Math.ap_mSet, Math.ap_mSetC, Math.ap_mRet, Math.ap_mRetN, Math.ap_mRetL, Math.ap_mDrop, Math.ap_mIf, Math.ap_mNever, Math.ap_mPar, Math.ap_mPar3, Math.ap_mPut, Math.ap_mApp, Math.ap_mTo, Math.ap_mYes, Math.ap_iSq, Math.ap_iZp, Math.ap_iEn, Math.ap_mRetC, Math.ap_eCh, Math.ap_noPart, Math.ap_aPart, Math.ap_eSlice, Math.ap_mkF, Math.ap_mkC, Mir.env0, Mir.fin, Mir.finC, Mir.thenDo, Mir.toFl, Mir.wipeE, Mir.itemsOf, Mir.orBad, Mir.gNm, Mir.gTp, Mir.gNms, Mir.Out.bind, Mir.gIx, Mir.seqOf, Mir.gLen, Mir.gTuple, Mir.gAbs, Mir.gInt, Mir.gCmp, Mir.gI, Mir.gAdd, Mir.gSub, Mir.gNeg, Mir.gBols, Mir.gInts, Mir.gChain, Mir.nxO, Mir.putAt, Mir.appAt, Mir.isC, L2.atI, L2.ixN, Math.eIsi_tuple, Math.eIsi_int, Math.eIsi_bool, Math.gEq_int, Math.gEq_bool, run_is_long_row, isTup, isLongRow]
theorem short_int {d : PyData} (h : isShort d = true) : isInt d = true := by cases d <;> first | rfl | cases h
theorem row (v : PyData) (s : Sto) : run_is_row [.d v] s = .ok (.bool (isRow v)) s := by
  cases v with
  | tuple ds =>
    by_cases h : isLongRow (.tuple ds) = true
    · have h0 : ds.length ≤ 60 := by
        simp only [isLongRow, Bool.and_eq_true, decide_eq_true_eq] at h
        exact h.1
      have c : cComp (iSq (eVar 0)) (gNm 1) mYes (eCall 1 run_is_integer (aCons (lVar 1) aNil)) [1] [some (.d (.tuple ds)), none] s = .ok (ds.map fun d => .bool (isShort d)) s :=
        comp_map _ rfl (by omega) fun d _ => by simp -implicitDefEqProofs [Math.ap_eVar, Math.ap_lVar, Math.ap_eC, Math.ap_eL, Math.ap_eUn, Math.ap_eBin, Math.ap_eAnd, Math.ap_eOr, Math.ap_eNot, Math.ap_mE, Math.ap_mNot, Math.ap_mAnd, Math.ap_mOr, Math.ap_eIf, Math.ap_aNil, Math.ap_aCons, Math.ap_dNil, Math.ap_dCons, Math.ap_eTup, Math.ap_cLst, Math.ap_eFr, Math.ap_eIx, Math.ap_eSl, Math.ap_cList, Math.ap_eCall, Math.ap_cCall, Math.ap_mSeq, Math.ap_mNil, Math.ap_mSet, Math.ap_mSetC, Math.ap_mRet, Math.ap_mRetN, Math.ap_mRetL, Math.ap_mDrop, Math.ap_mIf, Math.ap_mNever, Math.ap_mPar, Math.ap_mPar3, Math.ap_mPut, Math.ap_mApp, Math.ap_mTo, Math.ap_mYes, Math.ap_iSq, Math.ap_iZp, Math.ap_iEn, Math.ap_mRetC, Math.ap_eCh, Math.ap_noPart, Math.ap_aPart, Math.ap_eSlice, Math.ap_mkF, Math.ap_mkC, Mir.env0, Mir.fin, Mir.finC, Mir.thenDo, Mir.toFl, Mir.wipeE, Mir.itemsOf, Mir.orBad, Mir.gNm, Mir.gTp, Mir.gNms, Mir.Out.bind, Mir.gIx, Mir.seqOf, Mir.gLen, Mir.gTuple, Mir.gAbs, Mir.gInt, Mir.gCmp, Mir.gI, Mir.gAdd, Mir.gSub, Mir.gNeg, Mir.gBols, Mir.gInts, Mir.gChain, Mir.nxO, Mir.putAt, Mir.appAt, Mir.isC, L2.atI, L2.ixN, Math.eIsi_tuple, Math.eIsi_int, Math.eIsi_bool, Math.gEq_int, Math.gEq_bool, integer]
      simp -implicitDefEqProofs [Math.ap_eVar, Math.ap_lVar, Math.ap_eC, Math.ap_eL, Math.ap_eUn, Math.ap_eBin, Math.ap_eAnd, Math.ap_eOr, Math.ap_eNot, Math.ap_mE, Math.ap_mNot, Math.ap_mAnd, Math.ap_mOr, Math.ap_eIf, Math.ap_aNil, Math.ap_aCons, Math.ap_dNil, Math.ap_dCons, Math.ap_eTup, Math.ap_cLst, Math.ap_eFr, Math.ap_eIx, Math.ap_eSl, Math.ap_cList, Math.ap_eCall, Math.ap_cCall, Math.ap_mSeq, Math.ap_mNil, Math.ap_mSet, Math.ap_mSetC, Math.ap_mRet, Math.ap_mRetN, Math.ap_mRetL, Math.ap_mDrop, Math.ap_mIf, Math.ap_mNever, Math.ap_mPar, Math.ap_mPar3, Math.ap_mPut, Math.ap_mApp, Math.ap_mTo, Math.ap_mYes, Math.ap_iSq, Math.ap_iZp, Math.ap_iEn, Math.ap_mRetC, Math.ap_eCh, Math.ap_noPart, Math.ap_aPart, Math.ap_eSlice, Math.ap_mkF, Math.ap_mkC, Mir.env0, Mir.fin, Mir.finC, Mir.thenDo, Mir.toFl, Mir.wipeE, Mir.itemsOf, Mir.orBad, Mir.gNm, Mir.gTp, Mir.gNms, Mir.Out.bind, Mir.gIx, Mir.seqOf, Mir.gLen, Mir.gTuple, Mir.gAbs, Mir.gInt, Mir.gCmp, Mir.gI, Mir.gAdd, Mir.gSub, Mir.gNeg, Mir.gBols, Mir.gInts, Mir.gChain, Mir.nxO, Mir.putAt, Mir.appAt, Mir.isC, L2.atI, L2.ixN, Math.eIsi_tuple, Math.eIsi_int, Math.eIsi_bool, Math.gEq_int, Math.gEq_bool, run_is_row, long_row, isRow, h, h0, c, bols_map]
    · have h1 : isLongRow (.tuple ds) = false := by simpa using h
      have h2 : isRow (.tuple ds) = false := by
        by_cases h3 : isRow (.tuple ds) = true
        · exfalso
          apply h
          simp only [isRow, isLongRow, Bool.and_eq_true, decide_eq_true_eq, List.all_eq_true] at h3 ⊢
          exact ⟨h3.1, fun x hx => short_int (h3.2 x hx)⟩
        · simpa using h3
      simp -implicitDefEqProofs [Math.ap_eVar, Math.ap_lVar, Math.ap_eC, Math.ap_eL, Math.ap_eUn, Math.ap_eBin, Math.ap_eAnd, Math.ap_eOr, Math.ap_eNot, Math.ap_mE, Math.ap_mNot, Math.ap_mAnd, Math.ap_mOr, Math.ap_eIf, Math.ap_aNil, Math.ap_aCons, Math.ap_dNil, Math.ap_dCons, Math.ap_eTup, Math.ap_cLst, Math.ap_eFr, Math.ap_eIx, Math.ap_eSl, Math.ap_cList, Math.ap_eCall, Math.ap_cCall, Math.ap_mSeq, Math.ap_mNil, Math.ap_mSet, Math.ap_mSetC, Math.ap_mRet, Math.ap_mRetN, Math.ap_mRetL, Math.ap_mDrop, Math.ap_mIf, Math.ap_mNever, Math.ap_mPar, Math.ap_mPar3, Math.ap_mPut, Math.ap_mApp, Math.ap_mTo, Math.ap_mYes, Math.ap_iSq, Math.ap_iZp, Math.ap_iEn, Math.ap_mRetC, Math.ap_eCh, Math.ap_noPart, Math.ap_aPart, Math.ap_eSlice, Math.ap_mkF, Math.ap_mkC, Mir.env0, Mir.fin, Mir.finC, Mir.thenDo, Mir.toFl, Mir.wipeE, Mir.itemsOf, Mir.orBad, Mir.gNm, Mir.gTp, Mir.gNms, Mir.Out.bind, Mir.gIx, Mir.seqOf, Mir.gLen, Mir.gTuple, Mir.gAbs, Mir.gInt, Mir.gCmp, Mir.gI, Mir.gAdd, Mir.gSub, Mir.gNeg, Mir.gBols, Mir.gInts, Mir.gChain, Mir.nxO, Mir.putAt, Mir.appAt, Mir.isC, L2.atI, L2.ixN, Math.eIsi_tuple, Math.eIsi_int, Math.eIsi_bool, Math.gEq_int, Math.gEq_bool, run_is_row, long_row, h1, h2]
  | _ => simp -implicitDefEqProofs [Math.ap_eVar, Math.ap_lVar, Math.ap_eC, Math.ap_eL, Math.ap_eUn, Math.ap_eBin, Math.ap_eAnd, Math.ap_eOr, Math.ap_eNot, Math.ap_mE, Math.ap_mNot, Math.ap_mAnd, Math.ap_mOr, Math.ap_eIf, Math.ap_aNil, Math.ap_aCons, Math.ap_dNil, Math.ap_dCons, Math.ap_eTup, Math.ap_cLst, Math.ap_eFr, Math.ap_eIx, Math.ap_eSl, Math.ap_cList, Math.ap_eCall, Math.ap_cCall, Math.ap_mSeq, Math.ap_mNil, Math.ap_mSet, Math.ap_mSetC, Math.ap_mRet, Math.ap_mRetN, Math.ap_mRetL, Math.ap_mDrop, Math.ap_mIf, Math.ap_mNever, Math.ap_mPar, Math.ap_mPar3, Math.ap_mPut, Math.ap_mApp, Math.ap_mTo, Math.ap_mYes, Math.ap_iSq, Math.ap_iZp, Math.ap_iEn, Math.ap_mRetC, Math.ap_eCh, Math.ap_noPart, Math.ap_aPart, Math.ap_eSlice, Math.ap_mkF, Math.ap_mkC, Mir.env0, Mir.fin, Mir.finC, Mir.thenDo, Mir.toFl, Mir.wipeE, Mir.itemsOf, Mir.orBad, Mir.gNm, Mir.gTp, Mir.gNms, Mir.Out.bind, Mir.gIx, Mir.seqOf, Mir.gLen, Mir.gTuple, Mir.gAbs, Mir.gInt, Mir.gCmp, Mir.gI, Mir.gAdd, Mir.gSub, Mir.gNeg, Mir.gBols, Mir.gInts, Mir.gChain, Mir.nxO, Mir.putAt, Mir.appAt, Mir.isC, L2.atI, L2.ixN, Math.eIsi_tuple, Math.eIsi_int, Math.eIsi_bool, Math.gEq_int, Math.gEq_bool, run_is_row, long_row, isLongRow, isRow]
theorem between_num {w : PyData} (h : isBetween 0 60 w = true) : ∃ n : Nat, n ≤ 60 ∧ w = .int n := by
  cases w <;> simp only [isBetween, Bool.and_eq_true, decide_eq_true_eq, Bool.false_eq_true] at h
  rename_i i
  obtain ⟨⟨_, h1⟩, h2⟩ := h
  obtain ⟨k, rfl⟩ := Int.eq_ofNat_of_zero_le h1
  exact ⟨k, by omega, rfl⟩
theorem lg1 (s : Sto) : run_is_long_grid [.d (.tuple [])] s = .ok (.bool false) s := by
  simp -implicitDefEqProofs [Math.ap_eVar, Math.ap_lVar, Math.ap_eC, Math.ap_eL, Math.ap_eUn, Math.ap_eBin, Math.ap_eAnd, Math.ap_eOr, Math.ap_eNot, Math.ap_mE, Math.ap_mNot, Math.ap_mAnd, Math.ap_mOr, Math.ap_eIf, Math.ap_aNil, Math.ap_aCons, Math.ap_dNil, Math.ap_dCons, Math.ap_eTup, Math.ap_cLst, Math.ap_eFr, Math.ap_eIx, Math.ap_eSl, Math.ap_cList, Math.ap_eCall, Math.ap_cCall, Math.ap_mSeq, Math.ap_mNil, Math.ap_mSet, Math.ap_mSetC, Math.ap_mRet, Math.ap_mRetN, Math.ap_mRetL, Math.ap_mDrop, Math.ap_mIf, Math.ap_mNever, Math.ap_mPar, Math.ap_mPar3, Math.ap_mPut, Math.ap_mApp, Math.ap_mTo, Math.ap_mYes, Math.ap_iSq, Math.ap_iZp, Math.ap_iEn, Math.ap_mRetC, Math.ap_eCh, Math.ap_noPart, Math.ap_aPart, Math.ap_eSlice, Math.ap_mkF, Math.ap_mkC, Mir.env0, Mir.fin, Mir.finC, Mir.thenDo, Mir.toFl, Mir.wipeE, Mir.itemsOf, Mir.orBad, Mir.gNm, Mir.gTp, Mir.gNms, Mir.Out.bind, Mir.gIx, Mir.seqOf, Mir.gLen, Mir.gTuple, Mir.gAbs, Mir.gInt, Mir.gCmp, Mir.gI, Mir.gAdd, Mir.gSub, Mir.gNeg, Mir.gBols, Mir.gInts, Mir.gChain, Mir.nxO, Mir.putAt, Mir.appAt, Mir.isC, L2.atI, L2.ixN, Math.eIsi_tuple, Math.eIsi_int, Math.eIsi_bool, Math.gEq_int, Math.gEq_bool, run_is_long_grid, isTup, isLongGrid]
theorem lg2 (s : Sto) (a : PyData) : run_is_long_grid [.d (.tuple [a])] s = .ok (.bool false) s := by
  simp -implicitDefEqProofs [Math.ap_eVar, Math.ap_lVar, Math.ap_eC, Math.ap_eL, Math.ap_eUn, Math.ap_eBin, Math.ap_eAnd, Math.ap_eOr, Math.ap_eNot, Math.ap_mE, Math.ap_mNot, Math.ap_mAnd, Math.ap_mOr, Math.ap_eIf, Math.ap_aNil, Math.ap_aCons, Math.ap_dNil, Math.ap_dCons, Math.ap_eTup, Math.ap_cLst, Math.ap_eFr, Math.ap_eIx, Math.ap_eSl, Math.ap_cList, Math.ap_eCall, Math.ap_cCall, Math.ap_mSeq, Math.ap_mNil, Math.ap_mSet, Math.ap_mSetC, Math.ap_mRet, Math.ap_mRetN, Math.ap_mRetL, Math.ap_mDrop, Math.ap_mIf, Math.ap_mNever, Math.ap_mPar, Math.ap_mPar3, Math.ap_mPut, Math.ap_mApp, Math.ap_mTo, Math.ap_mYes, Math.ap_iSq, Math.ap_iZp, Math.ap_iEn, Math.ap_mRetC, Math.ap_eCh, Math.ap_noPart, Math.ap_aPart, Math.ap_eSlice, Math.ap_mkF, Math.ap_mkC, Mir.env0, Mir.fin, Mir.finC, Mir.thenDo, Mir.toFl, Mir.wipeE, Mir.itemsOf, Mir.orBad, Mir.gNm, Mir.gTp, Mir.gNms, Mir.Out.bind, Mir.gIx, Mir.seqOf, Mir.gLen, Mir.gTuple, Mir.gAbs, Mir.gInt, Mir.gCmp, Mir.gI, Mir.gAdd, Mir.gSub, Mir.gNeg, Mir.gBols, Mir.gInts, Mir.gChain, Mir.nxO, Mir.putAt, Mir.appAt, Mir.isC, L2.atI, L2.ixN, Math.eIsi_tuple, Math.eIsi_int, Math.eIsi_bool, Math.gEq_int, Math.gEq_bool, run_is_long_grid, isTup, isLongGrid]
theorem lg3 (s : Sto) (a b c : PyData) (t : List PyData) : run_is_long_grid [.d (.tuple (a :: b :: c :: t))] s = .ok (.bool false) s := by
  have h : ¬ ((t.length : Int) + 1 + 1 + 1 = 2) := by omega
  simp -implicitDefEqProofs [Math.ap_eVar, Math.ap_lVar, Math.ap_eC, Math.ap_eL, Math.ap_eUn, Math.ap_eBin, Math.ap_eAnd, Math.ap_eOr, Math.ap_eNot, Math.ap_mE, Math.ap_mNot, Math.ap_mAnd, Math.ap_mOr, Math.ap_eIf, Math.ap_aNil, Math.ap_aCons, Math.ap_dNil, Math.ap_dCons, Math.ap_eTup, Math.ap_cLst, Math.ap_eFr, Math.ap_eIx, Math.ap_eSl, Math.ap_cList, Math.ap_eCall, Math.ap_cCall, Math.ap_mSeq, Math.ap_mNil, Math.ap_mSet, Math.ap_mSetC, Math.ap_mRet, Math.ap_mRetN, Math.ap_mRetL, Math.ap_mDrop, Math.ap_mIf, Math.ap_mNever, Math.ap_mPar, Math.ap_mPar3, Math.ap_mPut, Math.ap_mApp, Math.ap_mTo, Math.ap_mYes, Math.ap_iSq, Math.ap_iZp, Math.ap_iEn, Math.ap_mRetC, Math.ap_eCh, Math.ap_noPart, Math.ap_aPart, Math.ap_eSlice, Math.ap_mkF, Math.ap_mkC, Mir.env0, Mir.fin, Mir.finC, Mir.thenDo, Mir.toFl, Mir.wipeE, Mir.itemsOf, Mir.orBad, Mir.gNm, Mir.gTp, Mir.gNms, Mir.Out.bind, Mir.gIx, Mir.seqOf, Mir.gLen, Mir.gTuple, Mir.gAbs, Mir.gInt, Mir.gCmp, Mir.gI, Mir.gAdd, Mir.gSub, Mir.gNeg, Mir.gBols, Mir.gInts, Mir.gChain, Mir.nxO, Mir.putAt, Mir.appAt, Mir.isC, L2.atI, L2.ixN, Math.eIsi_tuple, Math.eIsi_int, Math.eIsi_bool, Math.gEq_int, Math.gEq_bool, run_is_long_grid, isTup, isLongGrid, h]
theorem lg4 (s : Sto) (w r : PyData) (h' : isBetween 0 60 w = false) : run_is_long_grid [.d (.tuple [w, r])] s = .ok (.bool false) s := by
  simp -implicitDefEqProofs [Math.ap_eVar, Math.ap_lVar, Math.ap_eC, Math.ap_eL, Math.ap_eUn, Math.ap_eBin, Math.ap_eAnd, Math.ap_eOr, Math.ap_eNot, Math.ap_mE, Math.ap_mNot, Math.ap_mAnd, Math.ap_mOr, Math.ap_eIf, Math.ap_aNil, Math.ap_aCons, Math.ap_dNil, Math.ap_dCons, Math.ap_eTup, Math.ap_cLst, Math.ap_eFr, Math.ap_eIx, Math.ap_eSl, Math.ap_cList, Math.ap_eCall, Math.ap_cCall, Math.ap_mSeq, Math.ap_mNil, Math.ap_mSet, Math.ap_mSetC, Math.ap_mRet, Math.ap_mRetN, Math.ap_mRetL, Math.ap_mDrop, Math.ap_mIf, Math.ap_mNever, Math.ap_mPar, Math.ap_mPar3, Math.ap_mPut, Math.ap_mApp, Math.ap_mTo, Math.ap_mYes, Math.ap_iSq, Math.ap_iZp, Math.ap_iEn, Math.ap_mRetC, Math.ap_eCh, Math.ap_noPart, Math.ap_aPart, Math.ap_eSlice, Math.ap_mkF, Math.ap_mkC, Mir.env0, Mir.fin, Mir.finC, Mir.thenDo, Mir.toFl, Mir.wipeE, Mir.itemsOf, Mir.orBad, Mir.gNm, Mir.gTp, Mir.gNms, Mir.Out.bind, Mir.gIx, Mir.seqOf, Mir.gLen, Mir.gTuple, Mir.gAbs, Mir.gInt, Mir.gCmp, Mir.gI, Mir.gAdd, Mir.gSub, Mir.gNeg, Mir.gBols, Mir.gInts, Mir.gChain, Mir.nxO, Mir.putAt, Mir.appAt, Mir.isC, L2.atI, L2.ixN, Math.eIsi_tuple, Math.eIsi_int, Math.eIsi_bool, Math.gEq_int, Math.gEq_bool, run_is_long_grid, isTup, between, h']
theorem lg5 (s : Sto) (w r : PyData) (h : isBetween 0 60 w = true) (h2 : isTup r = false) : run_is_long_grid [.d (.tuple [w, r])] s = .ok (.bool false) s := by
  have h3 : isTup (.tuple [w, r]) = true := rfl
  simp -implicitDefEqProofs [Math.ap_eVar, Math.ap_lVar, Math.ap_eC, Math.ap_eL, Math.ap_eUn, Math.ap_eBin, Math.ap_eAnd, Math.ap_eOr, Math.ap_eNot, Math.ap_mE, Math.ap_mNot, Math.ap_mAnd, Math.ap_mOr, Math.ap_eIf, Math.ap_aNil, Math.ap_aCons, Math.ap_dNil, Math.ap_dCons, Math.ap_eTup, Math.ap_cLst, Math.ap_eFr, Math.ap_eIx, Math.ap_eSl, Math.ap_cList, Math.ap_eCall, Math.ap_cCall, Math.ap_mSeq, Math.ap_mNil, Math.ap_mSet, Math.ap_mSetC, Math.ap_mRet, Math.ap_mRetN, Math.ap_mRetL, Math.ap_mDrop, Math.ap_mIf, Math.ap_mNever, Math.ap_mPar, Math.ap_mPar3, Math.ap_mPut, Math.ap_mApp, Math.ap_mTo, Math.ap_mYes, Math.ap_iSq, Math.ap_iZp, Math.ap_iEn, Math.ap_mRetC, Math.ap_eCh, Math.ap_noPart, Math.ap_aPart, Math.ap_eSlice, Math.ap_mkF, Math.ap_mkC, Mir.env0, Mir.fin, Mir.finC, Mir.thenDo, Mir.toFl, Mir.wipeE, Mir.itemsOf, Mir.orBad, Mir.gNm, Mir.gTp, Mir.gNms, Mir.Out.bind, Mir.gIx, Mir.seqOf, Mir.gLen, Mir.gTuple, Mir.gAbs, Mir.gInt, Mir.gCmp, Mir.gI, Mir.gAdd, Mir.gSub, Mir.gNeg, Mir.gBols, Mir.gInts, Mir.gChain, Mir.nxO, Mir.putAt, Mir.appAt, Mir.isC, L2.atI, L2.ixN, Math.eIsi_tuple, Math.eIsi_int, Math.eIsi_bool, Math.gEq_int, Math.gEq_bool, run_is_long_grid, between, h, h2, h3]
theorem lg6 (s : Sto) (w : PyData) (rows : List PyData) (h : isBetween 0 60 w = true) (h2 : ¬ rows.length ≤ 60) : run_is_long_grid [.d (.tuple [w, .tuple rows])] s = .ok (.bool false) s := by
  have h3 : (60 : Int) < rows.length := by omega
  simp -implicitDefEqProofs [Math.ap_eVar, Math.ap_lVar, Math.ap_eC, Math.ap_eL, Math.ap_eUn, Math.ap_eBin, Math.ap_eAnd, Math.ap_eOr, Math.ap_eNot, Math.ap_mE, Math.ap_mNot, Math.ap_mAnd, Math.ap_mOr, Math.ap_eIf, Math.ap_aNil, Math.ap_aCons, Math.ap_dNil, Math.ap_dCons, Math.ap_eTup, Math.ap_cLst, Math.ap_eFr, Math.ap_eIx, Math.ap_eSl, Math.ap_cList, Math.ap_eCall, Math.ap_cCall, Math.ap_mSeq, Math.ap_mNil, Math.ap_mSet, Math.ap_mSetC, Math.ap_mRet, Math.ap_mRetN, Math.ap_mRetL, Math.ap_mDrop, Math.ap_mIf, Math.ap_mNever, Math.ap_mPar, Math.ap_mPar3, Math.ap_mPut, Math.ap_mApp, Math.ap_mTo, Math.ap_mYes, Math.ap_iSq, Math.ap_iZp, Math.ap_iEn, Math.ap_mRetC, Math.ap_eCh, Math.ap_noPart, Math.ap_aPart, Math.ap_eSlice, Math.ap_mkF, Math.ap_mkC, Mir.env0, Mir.fin, Mir.finC, Mir.thenDo, Mir.toFl, Mir.wipeE, Mir.itemsOf, Mir.orBad, Mir.gNm, Mir.gTp, Mir.gNms, Mir.Out.bind, Mir.gIx, Mir.seqOf, Mir.gLen, Mir.gTuple, Mir.gAbs, Mir.gInt, Mir.gCmp, Mir.gI, Mir.gAdd, Mir.gSub, Mir.gNeg, Mir.gBols, Mir.gInts, Mir.gChain, Mir.nxO, Mir.putAt, Mir.appAt, Mir.isC, L2.atI, L2.ixN, Math.eIsi_tuple, Math.eIsi_int, Math.eIsi_bool, Math.gEq_int, Math.gEq_bool, run_is_long_grid, isTup, between, h, h3]
theorem lg7 (s : Sto) (w : PyData) (rows : List PyData) (g : PyData → Bool) (h : isBetween 0 60 w = true) (h2 : rows.length ≤ 60)
    (c : cComp (iSq (eVar 2)) (gNm 3) mYes (eAnd (eCall 1 run_is_long_row (aCons (lVar 3) aNil)) (eBin (gEq false) (eSl gLen (lVar 3)) (eVar 1))) [3] [some (.d (.tuple [w, .tuple rows])), some (.d w), some (.d (.tuple rows)), none] s = .ok (rows.map fun d => .bool (g d)) s) :
    run_is_long_grid [.d (.tuple [w, .tuple rows])] s = .ok (.bool (rows.all g)) s := by
  have h3 : ¬ (60 : Int) < rows.length := by omega
  simp -implicitDefEqProofs [Math.ap_eVar, Math.ap_lVar, Math.ap_eC, Math.ap_eL, Math.ap_eUn, Math.ap_eBin, Math.ap_eAnd, Math.ap_eOr, Math.ap_eNot, Math.ap_mE, Math.ap_mNot, Math.ap_mAnd, Math.ap_mOr, Math.ap_eIf, Math.ap_aNil, Math.ap_aCons, Math.ap_dNil, Math.ap_dCons, Math.ap_eTup, Math.ap_cLst, Math.ap_eFr, Math.ap_eIx, Math.ap_eSl, Math.ap_cList, Math.ap_eCall, Math.ap_cCall, Math.ap_mSeq, Math.ap_mNil, Math.ap_mSet, Math.ap_mSetC, Math.ap_mRet, Math.ap_mRetN, Math.ap_mRetL, Math.ap_mDrop, Math.ap_mIf, Math.ap_mNever, Math.ap_mPar, Math.ap_mPar3, Math.ap_mPut, Math.ap_mApp, Math.ap_mTo, Math.ap_mYes, Math.ap_iSq, Math.ap_iZp, Math.ap_iEn, Math.ap_mRetC, Math.ap_eCh, Math.ap_noPart, Math.ap_aPart, Math.ap_eSlice, Math.ap_mkF, Math.ap_mkC, Mir.env0, Mir.fin, Mir.finC, Mir.thenDo, Mir.toFl, Mir.wipeE, Mir.itemsOf, Mir.orBad, Mir.gNm, Mir.gTp, Mir.gNms, Mir.Out.bind, Mir.gIx, Mir.seqOf, Mir.gLen, Mir.gTuple, Mir.gAbs, Mir.gInt, Mir.gCmp, Mir.gI, Mir.gAdd, Mir.gSub, Mir.gNeg, Mir.gBols, Mir.gInts, Mir.gChain, Mir.nxO, Mir.putAt, Mir.appAt, Mir.isC, L2.atI, L2.ixN, Math.eIsi_tuple, Math.eIsi_int, Math.eIsi_bool, Math.gEq_int, Math.gEq_bool, run_is_long_grid, isTup, between, h, h3, c, bols_map]
theorem lg8 (s : Sto) (n : Nat) (rows : List PyData) (x : PyData) (h2 : rows.length ≤ 60) :
    cComp (iSq (eVar 2)) (gNm 3) mYes (eAnd (eCall 1 run_is_long_row (aCons (lVar 3) aNil)) (eBin (gEq false) (eSl gLen (lVar 3)) (eVar 1))) [3] [some (.d x), some (.d (.int n)), some (.d (.tuple rows)), none] s = .ok (rows.map fun d => .bool (isLongRow d && hasLen n d)) s :=
  comp_map _ rfl (by omega) fun d _ => by
    by_cases k : isLongRow d = true
    · cases d with
      | tuple ds => simp -implicitDefEqProofs [Math.ap_eVar, Math.ap_lVar, Math.ap_eC, Math.ap_eL, Math.ap_eUn, Math.ap_eBin, Math.ap_eAnd, Math.ap_eOr, Math.ap_eNot, Math.ap_mE, Math.ap_mNot, Math.ap_mAnd, Math.ap_mOr, Math.ap_eIf, Math.ap_aNil, Math.ap_aCons, Math.ap_dNil, Math.ap_dCons, Math.ap_eTup, Math.ap_cLst, Math.ap_eFr, Math.ap_eIx, Math.ap_eSl, Math.ap_cList, Math.ap_eCall, Math.ap_cCall, Math.ap_mSeq, Math.ap_mNil, Math.ap_mSet, Math.ap_mSetC, Math.ap_mRet, Math.ap_mRetN, Math.ap_mRetL, Math.ap_mDrop, Math.ap_mIf, Math.ap_mNever, Math.ap_mPar, Math.ap_mPar3, Math.ap_mPut, Math.ap_mApp, Math.ap_mTo, Math.ap_mYes, Math.ap_iSq, Math.ap_iZp, Math.ap_iEn, Math.ap_mRetC, Math.ap_eCh, Math.ap_noPart, Math.ap_aPart, Math.ap_eSlice, Math.ap_mkF, Math.ap_mkC, Mir.env0, Mir.fin, Mir.finC, Mir.thenDo, Mir.toFl, Mir.wipeE, Mir.itemsOf, Mir.orBad, Mir.gNm, Mir.gTp, Mir.gNms, Mir.Out.bind, Mir.gIx, Mir.seqOf, Mir.gLen, Mir.gTuple, Mir.gAbs, Mir.gInt, Mir.gCmp, Mir.gI, Mir.gAdd, Mir.gSub, Mir.gNeg, Mir.gBols, Mir.gInts, Mir.gChain, Mir.nxO, Mir.putAt, Mir.appAt, Mir.isC, L2.atI, L2.ixN, Math.eIsi_tuple, Math.eIsi_int, Math.eIsi_bool, Math.gEq_int, Math.gEq_bool, long_row, k, hasLen]
      | _ => cases k
    · have k' : isLongRow d = false := by simpa using k
      simp -implicitDefEqProofs [Math.ap_eVar, Math.ap_lVar, Math.ap_eC, Math.ap_eL, Math.ap_eUn, Math.ap_eBin, Math.ap_eAnd, Math.ap_eOr, Math.ap_eNot, Math.ap_mE, Math.ap_mNot, Math.ap_mAnd, Math.ap_mOr, Math.ap_eIf, Math.ap_aNil, Math.ap_aCons, Math.ap_dNil, Math.ap_dCons, Math.ap_eTup, Math.ap_cLst, Math.ap_eFr, Math.ap_eIx, Math.ap_eSl, Math.ap_cList, Math.ap_eCall, Math.ap_cCall, Math.ap_mSeq, Math.ap_mNil, Math.ap_mSet, Math.ap_mSetC, Math.ap_mRet, Math.ap_mRetN, Math.ap_mRetL, Math.ap_mDrop, Math.ap_mIf, Math.ap_mNever, Math.ap_mPar, Math.ap_mPar3, Math.ap_mPut, Math.ap_mApp, Math.ap_mTo, Math.ap_mYes, Math.ap_iSq, Math.ap_iZp, Math.ap_iEn, Math.ap_mRetC, Math.ap_eCh, Math.ap_noPart, Math.ap_aPart, Math.ap_eSlice, Math.ap_mkF, Math.ap_mkC, Mir.env0, Mir.fin, Mir.finC, Mir.thenDo, Mir.toFl, Mir.wipeE, Mir.itemsOf, Mir.orBad, Mir.gNm, Mir.gTp, Mir.gNms, Mir.Out.bind, Mir.gIx, Mir.seqOf, Mir.gLen, Mir.gTuple, Mir.gAbs, Mir.gInt, Mir.gCmp, Mir.gI, Mir.gAdd, Mir.gSub, Mir.gNeg, Mir.gBols, Mir.gInts, Mir.gChain, Mir.nxO, Mir.putAt, Mir.appAt, Mir.isC, L2.atI, L2.ixN, Math.eIsi_tuple, Math.eIsi_int, Math.eIsi_bool, Math.gEq_int, Math.gEq_bool, long_row, k']
theorem long_grid (v : PyData) (s : Sto) : run_is_long_grid [.d v] s = .ok (.bool (isLongGrid v)) s := by
  cases v with
  | tuple ds =>
    match ds with
    | [] => exact lg1 s
    | [a] => exact lg2 s a
    | a :: b :: c :: t =>
      have e : isLongGrid (.tuple (a :: b :: c :: t)) = false := by cases b <;> rfl
      rw [e]
      exact lg3 s a b c t
    | [w, r] =>
      by_cases h : isBetween 0 60 w = true
      · obtain ⟨n, hn, e⟩ := between_num h
        cases r with
        | tuple rows =>
          by_cases h2 : rows.length ≤ 60
          · subst e
            rw [lg7 s _ rows _ h h2 (lg8 s n rows _ h2)]
            have q : isLongGrid (.tuple [.int n, .tuple rows]) = (isBetween 0 60 (.int n) && decide (rows.length ≤ 60) && rows.all fun d => isLongRow d && hasLen n d) := rfl
            rw [q, h, decide_eq_true h2, Bool.true_and, Bool.true_and]
          · rw [lg6 s w rows h h2]
            have q : isLongGrid (.tuple [w, .tuple rows]) = (isBetween 0 60 w && decide (rows.length ≤ 60) && rows.all fun r => isLongRow r && lenIs w r) := rfl
            rw [q, decide_eq_false h2, Bool.and_false, Bool.false_and]
        | _ => exact lg5 s w _ h rfl
      · have h' : isBetween 0 60 w = false := by simpa using h
        rw [lg4 s w r h']
        cases r <;> simp [isLongGrid, h']
  | _ => simp -implicitDefEqProofs [Math.ap_eVar, Math.ap_lVar, Math.ap_eC, Math.ap_eL, Math.ap_eUn, Math.ap_eBin, Math.ap_eAnd, Math.ap_eOr, Math.ap_eNot, Math.ap_mE, Math.ap_mNot, Math.ap_mAnd, Math.ap_mOr, Math.ap_eIf, Math.ap_aNil, Math.ap_aCons, Math.ap_dNil, Math.ap_dCons, Math.ap_eTup, Math.ap_cLst, Math.ap_eFr, Math.ap_eIx, Math.ap_eSl, Math.ap_cList, Math.ap_eCall, Math.ap_cCall, Math.ap_mSeq, Math.ap_mNil, Math.ap_mSet, Math.ap_mSetC, Math.ap_mRet, Math.ap_mRetN, Math.ap_mRetL, Math.ap_mDrop, Math.ap_mIf, Math.ap_mNever, Math.ap_mPar, Math.ap_mPar3, Math.ap_mPut, Math.ap_mApp, Math.ap_mTo, Math.ap_mYes, Math.ap_iSq, Math.ap_iZp, Math.ap_iEn, Math.ap_mRetC, Math.ap_eCh, Math.ap_noPart, Math.ap_aPart, Math.ap_eSlice, Math.ap_mkF, Math.ap_mkC, Mir.env0, Mir.fin, Mir.finC, Mir.thenDo, Mir.toFl, Mir.wipeE, Mir.itemsOf, Mir.orBad, Mir.gNm, Mir.gTp, Mir.gNms, Mir.Out.bind, Mir.gIx, Mir.seqOf, Mir.gLen, Mir.gTuple, Mir.gAbs, Mir.gInt, Mir.gCmp, Mir.gI, Mir.gAdd, Mir.gSub, Mir.gNeg, Mir.gBols, Mir.gInts, Mir.gChain, Mir.nxO, Mir.putAt, Mir.appAt, Mir.isC, L2.atI, L2.ixN, Math.eIsi_tuple, Math.eIsi_int, Math.eIsi_bool, Math.gEq_int, Math.gEq_bool, run_is_long_grid, isTup, isLongGrid]
theorem row_long {d : PyData} (h : isRow d = true) : isLongRow d = true := by
  cases d <;> simp only [isRow, isLongRow, Bool.and_eq_true, decide_eq_true_eq, List.all_eq_true, Bool.false_eq_true] at h ⊢
  exact ⟨h.1, fun x hx => short_int (h.2 x hx)⟩
theorem gr1 (s : Sto) (v : PyData) (h : isLongGrid v = false) : run_is_grid [.d v] s = .ok (.bool false) s := by
  simp -implicitDefEqProofs [Math.ap_eVar, Math.ap_lVar, Math.ap_eC, Math.ap_eL, Math.ap_eUn, Math.ap_eBin, Math.ap_eAnd, Math.ap_eOr, Math.ap_eNot, Math.ap_mE, Math.ap_mNot, Math.ap_mAnd, Math.ap_mOr, Math.ap_eIf, Math.ap_aNil, Math.ap_aCons, Math.ap_dNil, Math.ap_dCons, Math.ap_eTup, Math.ap_cLst, Math.ap_eFr, Math.ap_eIx, Math.ap_eSl, Math.ap_cList, Math.ap_eCall, Math.ap_cCall, Math.ap_mSeq, Math.ap_mNil, Math.ap_mSet, Math.ap_mSetC, Math.ap_mRet, Math.ap_mRetN, Math.ap_mRetL, Math.ap_mDrop, Math.ap_mIf, Math.ap_mNever, Math.ap_mPar, Math.ap_mPar3, Math.ap_mPut, Math.ap_mApp, Math.ap_mTo, Math.ap_mYes, Math.ap_iSq, Math.ap_iZp, Math.ap_iEn, Math.ap_mRetC, Math.ap_eCh, Math.ap_noPart, Math.ap_aPart, Math.ap_eSlice, Math.ap_mkF, Math.ap_mkC, Mir.env0, Mir.fin, Mir.finC, Mir.thenDo, Mir.toFl, Mir.wipeE, Mir.itemsOf, Mir.orBad, Mir.gNm, Mir.gTp, Mir.gNms, Mir.Out.bind, Mir.gIx, Mir.seqOf, Mir.gLen, Mir.gTuple, Mir.gAbs, Mir.gInt, Mir.gCmp, Mir.gI, Mir.gAdd, Mir.gSub, Mir.gNeg, Mir.gBols, Mir.gInts, Mir.gChain, Mir.nxO, Mir.putAt, Mir.appAt, Mir.isC, L2.atI, L2.ixN, Math.eIsi_tuple, Math.eIsi_int, Math.eIsi_bool, Math.gEq_int, Math.gEq_bool, run_is_grid, long_grid, h]
theorem gr2 (s : Sto) (w : PyData) (rows : List PyData) (h : isLongGrid (.tuple [w, .tuple rows]) = true)
    (c : cComp (iSq (eIx (lVar 0) (eC (.int 1)))) (gNm 1) mYes (eCall 1 run_is_row (aCons (lVar 1) aNil)) [1] [some (.d (.tuple [w, .tuple rows])), none] s = .ok (rows.map fun d => .bool (isRow d)) s) :
    run_is_grid [.d (.tuple [w, .tuple rows])] s = .ok (.bool (rows.all isRow)) s := by
  simp -implicitDefEqProofs [Math.ap_eVar, Math.ap_lVar, Math.ap_eC, Math.ap_eL, Math.ap_eUn, Math.ap_eBin, Math.ap_eAnd, Math.ap_eOr, Math.ap_eNot, Math.ap_mE, Math.ap_mNot, Math.ap_mAnd, Math.ap_mOr, Math.ap_eIf, Math.ap_aNil, Math.ap_aCons, Math.ap_dNil, Math.ap_dCons, Math.ap_eTup, Math.ap_cLst, Math.ap_eFr, Math.ap_eIx, Math.ap_eSl, Math.ap_cList, Math.ap_eCall, Math.ap_cCall, Math.ap_mSeq, Math.ap_mNil, Math.ap_mSet, Math.ap_mSetC, Math.ap_mRet, Math.ap_mRetN, Math.ap_mRetL, Math.ap_mDrop, Math.ap_mIf, Math.ap_mNever, Math.ap_mPar, Math.ap_mPar3, Math.ap_mPut, Math.ap_mApp, Math.ap_mTo, Math.ap_mYes, Math.ap_iSq, Math.ap_iZp, Math.ap_iEn, Math.ap_mRetC, Math.ap_eCh, Math.ap_noPart, Math.ap_aPart, Math.ap_eSlice, Math.ap_mkF, Math.ap_mkC, Mir.env0, Mir.fin, Mir.finC, Mir.thenDo, Mir.toFl, Mir.wipeE, Mir.itemsOf, Mir.orBad, Mir.gNm, Mir.gTp, Mir.gNms, Mir.Out.bind, Mir.gIx, Mir.seqOf, Mir.gLen, Mir.gTuple, Mir.gAbs, Mir.gInt, Mir.gCmp, Mir.gI, Mir.gAdd, Mir.gSub, Mir.gNeg, Mir.gBols, Mir.gInts, Mir.gChain, Mir.nxO, Mir.putAt, Mir.appAt, Mir.isC, L2.atI, L2.ixN, Math.eIsi_tuple, Math.eIsi_int, Math.eIsi_bool, Math.gEq_int, Math.gEq_bool, run_is_grid, long_grid, h, c, bols_map]
theorem gr3 (s : Sto) (w : PyData) (rows : List PyData) (h : rows.length ≤ 60) :
    cComp (iSq (eIx (lVar 0) (eC (.int 1)))) (gNm 1) mYes (eCall 1 run_is_row (aCons (lVar 1) aNil)) [1] [some (.d (.tuple [w, .tuple rows])), none] s = .ok (rows.map fun d => .bool (isRow d)) s :=
  comp_map _ (by simp -implicitDefEqProofs [Math.ap_eVar, Math.ap_lVar, Math.ap_eC, Math.ap_eL, Math.ap_eUn, Math.ap_eBin, Math.ap_eAnd, Math.ap_eOr, Math.ap_eNot, Math.ap_mE, Math.ap_mNot, Math.ap_mAnd, Math.ap_mOr, Math.ap_eIf, Math.ap_aNil, Math.ap_aCons, Math.ap_dNil, Math.ap_dCons, Math.ap_eTup, Math.ap_cLst, Math.ap_eFr, Math.ap_eIx, Math.ap_eSl, Math.ap_cList, Math.ap_eCall, Math.ap_cCall, Math.ap_mSeq, Math.ap_mNil, Math.ap_mSet, Math.ap_mSetC, Math.ap_mRet, Math.ap_mRetN, Math.ap_mRetL, Math.ap_mDrop, Math.ap_mIf, Math.ap_mNever, Math.ap_mPar, Math.ap_mPar3, Math.ap_mPut, Math.ap_mApp, Math.ap_mTo, Math.ap_mYes, Math.ap_iSq, Math.ap_iZp, Math.ap_iEn, Math.ap_mRetC, Math.ap_eCh, Math.ap_noPart, Math.ap_aPart, Math.ap_eSlice, Math.ap_mkF, Math.ap_mkC, Mir.env0, Mir.fin, Mir.finC, Mir.thenDo, Mir.toFl, Mir.wipeE, Mir.itemsOf, Mir.orBad, Mir.gNm, Mir.gTp, Mir.gNms, Mir.Out.bind, Mir.gIx, Mir.seqOf, Mir.gLen, Mir.gTuple, Mir.gAbs, Mir.gInt, Mir.gCmp, Mir.gI, Mir.gAdd, Mir.gSub, Mir.gNeg, Mir.gBols, Mir.gInts, Mir.gChain, Mir.nxO, Mir.putAt, Mir.appAt, Mir.isC, L2.atI, L2.ixN, Math.eIsi_tuple, Math.eIsi_int, Math.eIsi_bool, Math.gEq_int, Math.gEq_bool]) (by omega) fun d _ => by simp -implicitDefEqProofs [Math.ap_eVar, Math.ap_lVar, Math.ap_eC, Math.ap_eL, Math.ap_eUn, Math.ap_eBin, Math.ap_eAnd, Math.ap_eOr, Math.ap_eNot, Math.ap_mE, Math.ap_mNot, Math.ap_mAnd, Math.ap_mOr, Math.ap_eIf, Math.ap_aNil, Math.ap_aCons, Math.ap_dNil, Math.ap_dCons, Math.ap_eTup, Math.ap_cLst, Math.ap_eFr, Math.ap_eIx, Math.ap_eSl, Math.ap_cList, Math.ap_eCall, Math.ap_cCall, Math.ap_mSeq, Math.ap_mNil, Math.ap_mSet, Math.ap_mSetC, Math.ap_mRet, Math.ap_mRetN, Math.ap_mRetL, Math.ap_mDrop, Math.ap_mIf, Math.ap_mNever, Math.ap_mPar, Math.ap_mPar3, Math.ap_mPut, Math.ap_mApp, Math.ap_mTo, Math.ap_mYes, Math.ap_iSq, Math.ap_iZp, Math.ap_iEn, Math.ap_mRetC, Math.ap_eCh, Math.ap_noPart, Math.ap_aPart, Math.ap_eSlice, Math.ap_mkF, Math.ap_mkC, Mir.env0, Mir.fin, Mir.finC, Mir.thenDo, Mir.toFl, Mir.wipeE, Mir.itemsOf, Mir.orBad, Mir.gNm, Mir.gTp, Mir.gNms, Mir.Out.bind, Mir.gIx, Mir.seqOf, Mir.gLen, Mir.gTuple, Mir.gAbs, Mir.gInt, Mir.gCmp, Mir.gI, Mir.gAdd, Mir.gSub, Mir.gNeg, Mir.gBols, Mir.gInts, Mir.gChain, Mir.nxO, Mir.putAt, Mir.appAt, Mir.isC, L2.atI, L2.ixN, Math.eIsi_tuple, Math.eIsi_int, Math.eIsi_bool, Math.gEq_int, Math.gEq_bool, row]
theorem isGrid_eq (w : PyData) (rows : List PyData) : isGrid (.tuple [w, .tuple rows]) = (isLongGrid (.tuple [w, .tuple rows]) && rows.all isRow) := by
  have e1 : isGrid (.tuple [w, .tuple rows]) = (isBetween 0 60 w && decide (rows.length ≤ 60) && rows.all fun r => isRow r && lenIs w r) := rfl
  have e2 : isLongGrid (.tuple [w, .tuple rows]) = (isBetween 0 60 w && decide (rows.length ≤ 60) && rows.all fun r => isLongRow r && lenIs w r) := rfl
  rw [e1, e2, Bool.and_assoc (isBetween 0 60 w && decide (rows.length ≤ 60))]
  congr 1
  rw [Bool.eq_iff_iff]
  simp only [Bool.and_eq_true, List.all_eq_true]
  constructor
  · exact fun h => ⟨fun x hx => ⟨row_long (h x hx).1, (h x hx).2⟩, fun x hx => (h x hx).1⟩
  · exact fun h x hx => ⟨h.2 x hx, (h.1 x hx).2⟩
theorem isGrid_long {v : PyData} (h : isLongGrid v = false) : isGrid v = false := by
  match v with
  | .tuple [w, .tuple rows] => rw [isGrid_eq, h, Bool.false_and]
  | .tuple [] => rfl
  | .tuple [a] => cases a <;> rfl
  | .tuple (a :: b :: c :: t) => cases b <;> rfl
  | .tuple [w, .int _] => rfl
  | .tuple [w, .bool _] => rfl
  | .tuple [w, .str _] => rfl
  | .tuple [w, .list _] => rfl
  | .tuple [w, .dict _] => rfl
  | .tuple [w, .none] => rfl
  | .int _ => rfl
  | .bool _ => rfl
  | .str _ => rfl
  | .list _ => rfl
  | .dict _ => rfl
  | .none => rfl
theorem long_grid_form {v : PyData} (h : isLongGrid v = true) : ∃ w rows, v = .tuple [w, .tuple rows] ∧ rows.length ≤ 60 := by
  unfold isLongGrid at h
  split at h
  · rename_i w rows
    simp only [Bool.and_eq_true, decide_eq_true_eq] at h
    exact ⟨w, rows, rfl, h.1.2⟩
  · cases h
theorem grid (v : PyData) (s : Sto) : run_is_grid [.d v] s = .ok (.bool (isGrid v)) s := by
  by_cases h : isLongGrid v = true
  · obtain ⟨w, rows, rfl, hl⟩ := long_grid_form h
    rw [gr2 s w rows h (gr3 s w rows hl), isGrid_eq, h, Bool.true_and]
  · have h' : isLongGrid v = false := by simpa using h
    rw [gr1 s v h', isGrid_long h']
end Math
/-! # grids judged -/
namespace Math
open PySem Mir Fn
theorem isGrid_int (i : Int) (rows : List PyData) : isGrid (.tuple [.int i, .tuple rows]) = (isBetween 0 60 (.int i) && decide (rows.length ≤ 60) && rows.all fun r => isRow r && hasLen i r) := rfl
theorem between_int (i : Int) : isBetween 0 60 (.int i) = (decide (0 ≤ i) && decide (i ≤ 60)) := by
  have e : isBetween 0 60 (.int i) = (decide (i.natAbs < 1000000000000) && decide (0 ≤ i) && decide (i ≤ 60)) := rfl
  rw [e]
  by_cases h0 : 0 ≤ i <;> by_cases h1 : i ≤ 60 <;> simp [h0, h1]
  omega
end Math
/-! # rows and grids as data (the part of jdraws that draws nothing) -/
namespace Math
open PySem Mir Fn
/-- a comprehension over draws -/
theorem comp_draw {it : MD} {k n : Nat} {fe : ME} {ρ : Mir.Env} {s : Sto} {P : PyData → Prop} {ds : List PyData} (hi : it ρ s = .ok ds s) (hl : ds.length ≤ 100000) (h : Hat n s)
    (hf : ∀ s1, Hat n s1 → ∀ d ∈ ds, ∃ y s', P y ∧ Hats n s1 s' ∧ fe ((wipeE ρ [k]).set k (some (.d d))) s1 = .ok y s') :
    ∃ ys s', ys.length = ds.length ∧ (∀ y ∈ ys, P y) ∧ Hats n s s' ∧ cComp it (gNm k) mYes fe [k] ρ s = .ok ys s' := by
  have go : ∀ (es : List PyData) (s : Sto), Hat n s → (∀ d ∈ es, d ∈ ds) → ∃ ys s', ys.length = es.length ∧ (∀ y ∈ ys, P y) ∧ Hats n s s' ∧ compL (gNm k) mYes fe (wipeE ρ [k]) es s = .ok ys s' := by
    intro es
    induction es with
    | nil => exact fun s h _ => ⟨[], s, rfl, fun _ q => by simp at q, Hats.refl h, rfl⟩
    | cons d es ih =>
      intro s h hd
      obtain ⟨y, s1, p1, q1, e1⟩ := hf s h d (hd d (by simp))
      obtain ⟨ys, s2, p2, p3, q2, e2⟩ := ih s1 (q1.hat h) fun x hx => hd x (by simp [hx])
      refine ⟨y :: ys, s2, by simp [p2], fun z hz => ?_, q1.trans q2, ?_⟩
      · rcases List.mem_cons.mp hz with rfl | hz
        · exact p1
        · exact p3 z hz
      · have eg : gNm k d (wipeE ρ [k]) = some ((wipeE ρ [k]).set k (some (.d d))) := rfl
        unfold compL
        rw [eg]
        simp only [mYes, Out.bind_ok, if_true, e1, e2]
  obtain ⟨ys, s', p1, p2, q, e⟩ := go ds s h fun _ q => q
  refine ⟨ys, s', p1, p2, q, ?_⟩
  unfold cComp
  rw [hi, Out.bind_ok, if_pos hl, e]
theorem rangeOf_length (lo : Int) (n : Nat) : (rangeOf lo n).length = n := by simp [rangeOf]
theorem list_of {α : Type} {g : α → PyData} {Q : α → Prop} : ∀ {ys : List PyData}, (∀ y ∈ ys, ∃ a, Q a ∧ y = g a) → ∃ xs : List α, ys = xs.map g ∧ ∀ x ∈ xs, Q x
  | [], _ => ⟨[], rfl, fun _ h => by simp at h⟩
  | y :: ys, h => by
    obtain ⟨xs, e, q⟩ := list_of (ys := ys) fun z hz => h z (by simp [hz])
    obtain ⟨a, ha, rfl⟩ := h y (by simp)
    refine ⟨a :: xs, by rw [e, List.map_cons], fun x hx => ?_⟩
    rcases List.mem_cons.mp hx with rfl | hx
    · exact ha
    · exact q x hx
/-- the data of a row and of a grid -/
def rowD (r : List Int) : PyData := .tuple (r.map .int)
def grid_D (w : Nat) (rows : List (List Int)) : PyData := .tuple [.int w, .tuple (rows.map rowD)]
def Few (x : Int) : Prop := x.natAbs < 1000000000000
theorem range_ok (i : Nat) (ρ : Mir.Env) (s : Sto) (k : Nat) (hk : k ≤ 1000) (h : ρ[i]? = some (some (.d (.int k)))) : iRg1 (eVar i) ρ s = .ok (rangeOf 0 k) s := by
  have e : eVar i ρ s = .ok (.int k) s := by
    unfold eVar
    rw [h]
  unfold iRg1
  rw [e, Out.bind_ok]
  have c : -(2 ^ 62 : Int) ≤ (k : Int) ∧ (k : Int) < 2 ^ 62 := by omega
  simp only [c, and_self, if_true, Int.toNat_natCast]
end Math
/-! # grids as the program makes them -/
namespace Math
open PySem Mir Fn
theorem pg1 {s : Sto} {a : PyData} {rows ys : List PyData}
    (c : cComp (iSq (eVar 0)) (gNm 2) mYes (eSl gTuple (lVar 2)) [2] [some (.d (.list rows)), some (.d a), none] s = .ok ys s) : run_plain_grid [.d (.list rows), .d a] s = .ok (.tuple [a, .tuple ys]) s := by
  simp -implicitDefEqProofs [Math.ap_eVar, Math.ap_lVar, Math.ap_eC, Math.ap_eL, Math.ap_eUn, Math.ap_eBin, Math.ap_eAnd, Math.ap_eOr, Math.ap_eNot, Math.ap_mE, Math.ap_mNot, Math.ap_mAnd, Math.ap_mOr, Math.ap_eIf, Math.ap_aNil, Math.ap_aCons, Math.ap_dNil, Math.ap_dCons, Math.ap_eTup, Math.ap_cLst, Math.ap_eFr, Math.ap_eIx, Math.ap_eSl, Math.ap_cList, Math.ap_eCall, Math.ap_cCall, Math.ap_mSeq, Math.ap_mNil, Math.ap_mSet, Math.ap_mSetC, Math.ap_mRet, Math.ap_mRetN, Math.ap_mRetL, Math.ap_mDrop, Math.ap_mIf, Math.ap_mNever, Math.ap_mPar, Math.ap_mPar3, Math.ap_mPut, Math.ap_mApp, Math.ap_mTo, Math.ap_mYes, Math.ap_iSq, Math.ap_iZp, Math.ap_iEn, Math.ap_mRetC, Math.ap_eCh, Math.ap_noPart, Math.ap_aPart, Math.ap_eSlice, Math.ap_mkF, Math.ap_mkC, Mir.env0, Mir.fin, Mir.finC, Mir.thenDo, Mir.toFl, Mir.wipeE, Mir.itemsOf, Mir.orBad, Mir.gNm, Mir.gTp, Mir.gNms, Mir.Out.bind, Mir.gIx, Mir.seqOf, Mir.gLen, Mir.gTuple, Mir.gAbs, Mir.gInt, Mir.gCmp, Mir.gI, Mir.gAdd, Mir.gSub, Mir.gNeg, Mir.gBols, Mir.gInts, Mir.gChain, Mir.nxO, Mir.putAt, Mir.appAt, Mir.isC, L2.atI, L2.ixN, Math.eIsi_tuple, Math.eIsi_int, Math.eIsi_bool, Math.gEq_int, Math.gEq_bool, run_plain_grid, c]
theorem plain_grid {s : Sto} {a : PyData} {rows : List PyData} (g : PyData → List PyData) (hl : rows.length ≤ 100000) (hg : ∀ r ∈ rows, r = .list (g r) ∨ r = .tuple (g r)) :
    run_plain_grid [.d (.list rows), .d a] s = .ok (.tuple [a, .tuple (rows.map fun r => .tuple (g r))]) s := by
  apply pg1
  refine comp_map (fun r => .tuple (g r)) rfl hl fun r hr => ?_
  rcases hg r hr with e | e <;> (generalize g r = x at *; subst e; simp -implicitDefEqProofs [Math.ap_eVar, Math.ap_lVar, Math.ap_eC, Math.ap_eL, Math.ap_eUn, Math.ap_eBin, Math.ap_eAnd, Math.ap_eOr, Math.ap_eNot, Math.ap_mE, Math.ap_mNot, Math.ap_mAnd, Math.ap_mOr, Math.ap_eIf, Math.ap_aNil, Math.ap_aCons, Math.ap_dNil, Math.ap_dCons, Math.ap_eTup, Math.ap_cLst, Math.ap_eFr, Math.ap_eIx, Math.ap_eSl, Math.ap_cList, Math.ap_eCall, Math.ap_cCall, Math.ap_mSeq, Math.ap_mNil, Math.ap_mSet, Math.ap_mSetC, Math.ap_mRet, Math.ap_mRetN, Math.ap_mRetL, Math.ap_mDrop, Math.ap_mIf, Math.ap_mNever, Math.ap_mPar, Math.ap_mPar3, Math.ap_mPut, Math.ap_mApp, Math.ap_mTo, Math.ap_mYes, Math.ap_iSq, Math.ap_iZp, Math.ap_iEn, Math.ap_mRetC, Math.ap_eCh, Math.ap_noPart, Math.ap_aPart, Math.ap_eSlice, Math.ap_mkF, Math.ap_mkC, Mir.env0, Mir.fin, Mir.finC, Mir.thenDo, Mir.toFl, Mir.wipeE, Mir.itemsOf, Mir.orBad, Mir.gNm, Mir.gTp, Mir.gNms, Mir.Out.bind, Mir.gIx, Mir.seqOf, Mir.gLen, Mir.gTuple, Mir.gAbs, Mir.gInt, Mir.gCmp, Mir.gI, Mir.gAdd, Mir.gSub, Mir.gNeg, Mir.gBols, Mir.gInts, Mir.gChain, Mir.nxO, Mir.putAt, Mir.appAt, Mir.isC, L2.atI, L2.ixN, Math.eIsi_tuple, Math.eIsi_int, Math.eIsi_bool, Math.gEq_int, Math.gEq_bool])
/-- the row j of a grid turned -/
def col (rows : List (List Int)) (j : Nat) : List Int := rows.map fun r => r.getD j 0
def cols (rows : List (List Int)) (w : Nat) : List (List Int) := (List.range w).map (col rows)
theorem at_row {r : List Int} {j : Nat} {b : Int} (hb : b = (j : Int)) (hj : j < r.length) (s : Sto) : gIx (.d (rowD r)) (.int b) s = .ok (.int (r.getD j 0)) s := by
  subst hb
  have e : (r.map PyData.int)[j]? = some (.int (r.getD j 0)) := by
    rw [List.getElem?_map, List.getElem?_eq_getElem hj, List.getD_eq_getElem?_getD, List.getElem?_eq_getElem hj]
    rfl
  have h2 : L2.atI (r.map PyData.int) (j : Int) = some (.int (r.getD j 0)) := by
    unfold L2.atI L2.ixN
    rw [List.length_map, if_pos (by omega), if_pos (by omega)]
    exact e
  unfold gIx
  have h3 : seqOf (.d (rowD r)) s = some (true, r.map PyData.int) := rfl
  rw [h3]
  simp only [h2]
theorem tr_row {s : Sto} {rows : List (List Int)} {b : Int} {j : Nat} {x : PyData} (hb : b = (j : Int)) (hj : ∀ r ∈ rows, j < r.length) (hl : rows.length ≤ 100000) :
    cComp (iSq (eVar 0)) (gNm 3) mYes (eIx (lVar 3) (eVar 2)) [3] [some (.d (.tuple (rows.map rowD))), some (.d x), some (.d (.int b)), none] s = .ok ((col rows j).map .int) s := by
  have q := comp_map (it := iSq (eVar 0)) (k := 3) (fe := eIx (lVar 3) (eVar 2)) (ρ := [some (.d (.tuple (rows.map rowD))), some (.d x), some (.d (.int b)), none]) (s := s) (fun d => match d with
    | .tuple ds => ds.getD j .none
    | _ => .none) (ds := rows.map rowD) rfl (by rw [List.length_map]; exact hl) fun d hd => by
    obtain ⟨r, hr, rfl⟩ := List.mem_map.mp hd
    have e := at_row hb (hj r hr) s
    have e2 : (r.map PyData.int).getD j .none = .int (r.getD j 0) := by
      rw [List.getD_eq_getElem?_getD, List.getElem?_map, List.getElem?_eq_getElem (hj r hr), List.getD_eq_getElem?_getD, List.getElem?_eq_getElem (hj r hr)]
      rfl
    show _ = Out.ok ((r.map PyData.int).getD j .none) s
    rw [e2, ← e]
    rfl
  rw [q, List.map_map]
  congr 1
  unfold col
  rw [List.map_map]
  refine List.map_congr_left fun r hr => ?_
  show (r.map PyData.int).getD j .none = .int (r.getD j 0)
  rw [List.getD_eq_getElem?_getD, List.getElem?_map, List.getElem?_eq_getElem (hj r hr), List.getD_eq_getElem?_getD, List.getElem?_eq_getElem (hj r hr)]
  rfl
/-- a row as a list of the call's own -/
def rowL (r : List Int) : PyData := .list (r.map .int)
theorem tr1 {s : Sto} {a b : PyData} {ys : List PyData}
    (c : cComp (iRg1 (eVar 1)) (gNm 2) mYes (eFr (cComp (iSq (eVar 0)) (gNm 3) mYes (eIx (lVar 3) (eVar 2)) [3])) [2] [some (.d a), some (.d b), none, none] s = .ok ys s) :
    run_turned_rows_of [.d a, .d b] s = .ok (.list ys) s := by
  have h1 : ¬ (s.length + 1 ≤ s.length) := by omega
  simp -implicitDefEqProofs [Math.ap_eVar, Math.ap_lVar, Math.ap_eC, Math.ap_eL, Math.ap_eUn, Math.ap_eBin, Math.ap_eAnd, Math.ap_eOr, Math.ap_eNot, Math.ap_mE, Math.ap_mNot, Math.ap_mAnd, Math.ap_mOr, Math.ap_eIf, Math.ap_aNil, Math.ap_aCons, Math.ap_dNil, Math.ap_dCons, Math.ap_eTup, Math.ap_cLst, Math.ap_eFr, Math.ap_eIx, Math.ap_eSl, Math.ap_cList, Math.ap_eCall, Math.ap_cCall, Math.ap_mSeq, Math.ap_mNil, Math.ap_mSet, Math.ap_mSetC, Math.ap_mRet, Math.ap_mRetN, Math.ap_mRetL, Math.ap_mDrop, Math.ap_mIf, Math.ap_mNever, Math.ap_mPar, Math.ap_mPar3, Math.ap_mPut, Math.ap_mApp, Math.ap_mTo, Math.ap_mYes, Math.ap_iSq, Math.ap_iZp, Math.ap_iEn, Math.ap_mRetC, Math.ap_eCh, Math.ap_noPart, Math.ap_aPart, Math.ap_eSlice, Math.ap_mkF, Math.ap_mkC, Mir.env0, Mir.fin, Mir.finC, Mir.thenDo, Mir.toFl, Mir.wipeE, Mir.itemsOf, Mir.orBad, Mir.gNm, Mir.gTp, Mir.gNms, Mir.Out.bind, Mir.gIx, Mir.seqOf, Mir.gLen, Mir.gTuple, Mir.gAbs, Mir.gInt, Mir.gCmp, Mir.gI, Mir.gAdd, Mir.gSub, Mir.gNeg, Mir.gBols, Mir.gInts, Mir.gChain, Mir.nxO, Mir.putAt, Mir.appAt, Mir.isC, L2.atI, L2.ixN, Math.eIsi_tuple, Math.eIsi_int, Math.eIsi_bool, Math.gEq_int, Math.gEq_bool, run_turned_rows_of, c, Mir.own1]
theorem tr2 {s : Sto} {a b d : PyData} {xs : List PyData} {t : Option Sl} (c : cComp (iSq (eVar 0)) (gNm 3) mYes (eIx (lVar 3) (eVar 2)) [3] [some (.d a), some (.d b), some (.d d), none] s = .ok xs s) :
    eFr (cComp (iSq (eVar 0)) (gNm 3) mYes (eIx (lVar 3) (eVar 2)) [3]) [some (.d a), some (.d b), some (.d d), none] s = .ok (.list xs) s := by
  simp -implicitDefEqProofs [Math.ap_eVar, Math.ap_lVar, Math.ap_eC, Math.ap_eL, Math.ap_eUn, Math.ap_eBin, Math.ap_eAnd, Math.ap_eOr, Math.ap_eNot, Math.ap_mE, Math.ap_mNot, Math.ap_mAnd, Math.ap_mOr, Math.ap_eIf, Math.ap_aNil, Math.ap_aCons, Math.ap_dNil, Math.ap_dCons, Math.ap_eTup, Math.ap_cLst, Math.ap_eFr, Math.ap_eIx, Math.ap_eSl, Math.ap_cList, Math.ap_eCall, Math.ap_cCall, Math.ap_mSeq, Math.ap_mNil, Math.ap_mSet, Math.ap_mSetC, Math.ap_mRet, Math.ap_mRetN, Math.ap_mRetL, Math.ap_mDrop, Math.ap_mIf, Math.ap_mNever, Math.ap_mPar, Math.ap_mPar3, Math.ap_mPut, Math.ap_mApp, Math.ap_mTo, Math.ap_mYes, Math.ap_iSq, Math.ap_iZp, Math.ap_iEn, Math.ap_mRetC, Math.ap_eCh, Math.ap_noPart, Math.ap_aPart, Math.ap_eSlice, Math.ap_mkF, Math.ap_mkC, Mir.env0, Mir.fin, Mir.finC, Mir.thenDo, Mir.toFl, Mir.wipeE, Mir.itemsOf, Mir.orBad, Mir.gNm, Mir.gTp, Mir.gNms, Mir.Out.bind, Mir.gIx, Mir.seqOf, Mir.gLen, Mir.gTuple, Mir.gAbs, Mir.gInt, Mir.gCmp, Mir.gI, Mir.gAdd, Mir.gSub, Mir.gNeg, Mir.gBols, Mir.gInts, Mir.gChain, Mir.nxO, Mir.putAt, Mir.appAt, Mir.isC, L2.atI, L2.ixN, Math.eIsi_tuple, Math.eIsi_int, Math.eIsi_bool, Math.gEq_int, Math.gEq_bool, c]
theorem turned_rows {s : Sto} {rows : List (List Int)} {w : Nat} (hw : w ≤ 1000) (hr : ∀ r ∈ rows, r.length = w) (hl : rows.length ≤ 100000) :
    run_turned_rows_of [.d (.tuple (rows.map rowD)), .d (.int w)] s = .ok (.list ((cols rows w).map rowL)) s := by
  have q := comp_map (it := iRg1 (eVar 1)) (k := 2) (fe := eFr (cComp (iSq (eVar 0)) (gNm 3) mYes (eIx (lVar 3) (eVar 2)) [3])) (ρ := [some (.d (.tuple (rows.map rowD))), some (.d (.int w)), none, none]) (s := s)
    (fun d => match d with
      | .int b => rowL (col rows b.toNat)
      | _ => .none) (range_ok 1 _ s w hw rfl) (by rw [rangeOf_length]; omega) fun d hd => by
    obtain ⟨j, hj, rfl⟩ := List.mem_map.mp hd
    have hj' : j < w := List.mem_range.mp hj
    refine tr2 (t := none) ?_
    rw [tr_row (j := j) (by omega) (fun r h => by rw [hr r h]; exact hj') hl]
    simp
  have e : ((rangeOf 0 w).map fun d => match d with
      | .int b => rowL (col rows b.toNat)
      | _ => .none) = (cols rows w).map rowL := by
    unfold rangeOf cols
    rw [List.map_map, List.map_map]
    refine List.map_congr_left fun j _ => ?_
    simp
  rw [e] at q
  exact tr1 q
/-- a grid as the document tells -/
structure GridOk (w : Nat) (rows : List (List Int)) : Prop where
  wide : w ≤ 60
  high : rows.length ≤ 60
  len : ∀ r ∈ rows, r.length = w
  few : ∀ r ∈ rows, ∀ x ∈ r, Few x
theorem isRow_rowD {r : List Int} (hl : r.length ≤ 60) (hf : ∀ x ∈ r, Few x) : isRow (rowD r) = true := by
  have e : isRow (rowD r) = (decide ((r.map PyData.int).length ≤ 60) && (r.map PyData.int).all isShort) := rfl
  rw [e, List.length_map, decide_eq_true hl, Bool.true_and, List.all_eq_true]
  intro x hx
  obtain ⟨i, hi, rfl⟩ := List.mem_map.mp hx
  exact decide_eq_true (hf i hi)
theorem GridOk.is {w : Nat} {rows : List (List Int)} (g : GridOk w rows) : isGrid (grid_D w rows) = true := by
  unfold grid_D
  rw [isGrid_int, between_int]
  have h1 : decide ((0 : Int) ≤ w) = true := decide_eq_true (by omega)
  have h2 : decide ((w : Int) ≤ 60) = true := decide_eq_true (by have := g.wide; omega)
  have h3 : decide ((rows.map rowD).length ≤ 60) = true := by
    rw [List.length_map]
    exact decide_eq_true g.high
  rw [h1, h2, h3, Bool.true_and, Bool.true_and, Bool.true_and, List.all_eq_true]
  intro x hx
  obtain ⟨r, hr, rfl⟩ := List.mem_map.mp hx
  rw [isRow_rowD (by rw [g.len r hr]; exact g.wide) (g.few r hr), Bool.true_and]
  have e : hasLen w (rowD r) = decide (((r.map PyData.int).length : Int) = w) := rfl
  rw [e, List.length_map, g.len r hr]
  exact decide_eq_true rfl
theorem check_grid (v : PyData) (s : Sto) (h : isGrid v = true) : run_check_grid [.d v] s = .ok .none s := by
  simp -implicitDefEqProofs [Math.ap_eVar, Math.ap_lVar, Math.ap_eC, Math.ap_eL, Math.ap_eUn, Math.ap_eBin, Math.ap_eAnd, Math.ap_eOr, Math.ap_eNot, Math.ap_mE, Math.ap_mNot, Math.ap_mAnd, Math.ap_mOr, Math.ap_eIf, Math.ap_aNil, Math.ap_aCons, Math.ap_dNil, Math.ap_dCons, Math.ap_eTup, Math.ap_cLst, Math.ap_eFr, Math.ap_eIx, Math.ap_eSl, Math.ap_cList, Math.ap_eCall, Math.ap_cCall, Math.ap_mSeq, Math.ap_mNil, Math.ap_mSet, Math.ap_mSetC, Math.ap_mRet, Math.ap_mRetN, Math.ap_mRetL, Math.ap_mDrop, Math.ap_mIf, Math.ap_mNever, Math.ap_mPar, Math.ap_mPar3, Math.ap_mPut, Math.ap_mApp, Math.ap_mTo, Math.ap_mYes, Math.ap_iSq, Math.ap_iZp, Math.ap_iEn, Math.ap_mRetC, Math.ap_eCh, Math.ap_noPart, Math.ap_aPart, Math.ap_eSlice, Math.ap_mkF, Math.ap_mkC, Mir.env0, Mir.fin, Mir.finC, Mir.thenDo, Mir.toFl, Mir.wipeE, Mir.itemsOf, Mir.orBad, Mir.gNm, Mir.gTp, Mir.gNms, Mir.Out.bind, Mir.gIx, Mir.seqOf, Mir.gLen, Mir.gTuple, Mir.gAbs, Mir.gInt, Mir.gCmp, Mir.gI, Mir.gAdd, Mir.gSub, Mir.gNeg, Mir.gBols, Mir.gInts, Mir.gChain, Mir.nxO, Mir.putAt, Mir.appAt, Mir.isC, L2.atI, L2.ixN, Math.eIsi_tuple, Math.eIsi_int, Math.eIsi_bool, Math.gEq_int, Math.gEq_bool, run_check_grid, grid, h]
theorem check_grids (v w : PyData) (s : Sto) (h : isGrid v = true) (h2 : isGrid w = true) : run_check_grids [.d v, .d w] s = .ok .none s := by
  simp -implicitDefEqProofs [Math.ap_eVar, Math.ap_lVar, Math.ap_eC, Math.ap_eL, Math.ap_eUn, Math.ap_eBin, Math.ap_eAnd, Math.ap_eOr, Math.ap_eNot, Math.ap_mE, Math.ap_mNot, Math.ap_mAnd, Math.ap_mOr, Math.ap_eIf, Math.ap_aNil, Math.ap_aCons, Math.ap_dNil, Math.ap_dCons, Math.ap_eTup, Math.ap_cLst, Math.ap_eFr, Math.ap_eIx, Math.ap_eSl, Math.ap_cList, Math.ap_eCall, Math.ap_cCall, Math.ap_mSeq, Math.ap_mNil, Math.ap_mSet, Math.ap_mSetC, Math.ap_mRet, Math.ap_mRetN, Math.ap_mRetL, Math.ap_mDrop, Math.ap_mIf, Math.ap_mNever, Math.ap_mPar, Math.ap_mPar3, Math.ap_mPut, Math.ap_mApp, Math.ap_mTo, Math.ap_mYes, Math.ap_iSq, Math.ap_iZp, Math.ap_iEn, Math.ap_mRetC, Math.ap_eCh, Math.ap_noPart, Math.ap_aPart, Math.ap_eSlice, Math.ap_mkF, Math.ap_mkC, Mir.env0, Mir.fin, Mir.finC, Mir.thenDo, Mir.toFl, Mir.wipeE, Mir.itemsOf, Mir.orBad, Mir.gNm, Mir.gTp, Mir.gNms, Mir.Out.bind, Mir.gIx, Mir.seqOf, Mir.gLen, Mir.gTuple, Mir.gAbs, Mir.gInt, Mir.gCmp, Mir.gI, Mir.gAdd, Mir.gSub, Mir.gNeg, Mir.gBols, Mir.gInts, Mir.gChain, Mir.nxO, Mir.putAt, Mir.appAt, Mir.isC, L2.atI, L2.ixN, Math.eIsi_tuple, Math.eIsi_int, Math.eIsi_bool, Math.gEq_int, Math.gEq_bool, run_check_grids, check_grid, h, h2]
end Math
/-! # turned, beside, over -/
namespace Math
open PySem Mir Fn
theorem pt1 {s : Sto} {a h v : PyData} {rs : List PyData}
    (e1 : run_turned_rows_of [.d (.tuple rs), .d a] s = .ok v s) (e2 : run_plain_grid [.d v, .d (.int rs.length)] s = .ok h s) :
    run_plain_turned [.d (.tuple [a, .tuple rs])] s = .ok h s := by
  simp -implicitDefEqProofs [Math.ap_eVar, Math.ap_lVar, Math.ap_eC, Math.ap_eL, Math.ap_eUn, Math.ap_eBin, Math.ap_eAnd, Math.ap_eOr, Math.ap_eNot, Math.ap_mE, Math.ap_mNot, Math.ap_mAnd, Math.ap_mOr, Math.ap_eIf, Math.ap_aNil, Math.ap_aCons, Math.ap_dNil, Math.ap_dCons, Math.ap_eTup, Math.ap_cLst, Math.ap_eFr, Math.ap_eIx, Math.ap_eSl, Math.ap_cList, Math.ap_eCall, Math.ap_cCall, Math.ap_mSeq, Math.ap_mNil, Math.ap_mSet, Math.ap_mSetC, Math.ap_mRet, Math.ap_mRetN, Math.ap_mRetL, Math.ap_mDrop, Math.ap_mIf, Math.ap_mNever, Math.ap_mPar, Math.ap_mPar3, Math.ap_mPut, Math.ap_mApp, Math.ap_mTo, Math.ap_mYes, Math.ap_iSq, Math.ap_iZp, Math.ap_iEn, Math.ap_mRetC, Math.ap_eCh, Math.ap_noPart, Math.ap_aPart, Math.ap_eSlice, Math.ap_mkF, Math.ap_mkC, Mir.env0, Mir.fin, Mir.finC, Mir.thenDo, Mir.toFl, Mir.wipeE, Mir.itemsOf, Mir.orBad, Mir.gNm, Mir.gTp, Mir.gNms, Mir.Out.bind, Mir.gIx, Mir.seqOf, Mir.gLen, Mir.gTuple, Mir.gAbs, Mir.gInt, Mir.gCmp, Mir.gI, Mir.gAdd, Mir.gSub, Mir.gNeg, Mir.gBols, Mir.gInts, Mir.gChain, Mir.nxO, Mir.putAt, Mir.appAt, Mir.isC, L2.atI, L2.ixN, Math.eIsi_tuple, Math.eIsi_int, Math.eIsi_bool, Math.gEq_int, Math.gEq_bool, run_plain_turned, e1, e2]
theorem col_length (rows : List (List Int)) (j : Nat) : (col rows j).length = rows.length := by simp [col]
theorem cols_length (rows : List (List Int)) (w : Nat) : (cols rows w).length = w := by simp [cols]
theorem map_rowL (xs : List (List Int)) : (xs.map rowL).map (fun r => PyData.tuple (match r with
    | .list ds => ds
    | .tuple ds => ds
    | _ => [])) = xs.map rowD := by
  rw [List.map_map]
  exact List.map_congr_left fun r _ => rfl
theorem plain_gridL {s : Sto} {a : PyData} {xs : List (List Int)} (hl : xs.length ≤ 100000) : run_plain_grid [.d (.list (xs.map rowL)), .d a] s = .ok (.tuple [a, .tuple (xs.map rowD)]) s := by
  rw [plain_grid (fun r => match r with
    | .list ds => ds
    | .tuple ds => ds
    | _ => []) (by rw [List.length_map]; exact hl) fun r hr => by
      obtain ⟨x, _, rfl⟩ := List.mem_map.mp hr
      exact .inl rfl, map_rowL]
theorem map_rowD (xs : List (List Int)) : (xs.map rowD).map (fun r => PyData.tuple (match r with
    | .list ds => ds
    | .tuple ds => ds
    | _ => [])) = xs.map rowD := by
  rw [List.map_map]
  exact List.map_congr_left fun r _ => rfl
theorem plain_gridD {s : Sto} {a : PyData} {xs : List (List Int)} (hl : xs.length ≤ 100000) : run_plain_grid [.d (.list (xs.map rowD)), .d a] s = .ok (.tuple [a, .tuple (xs.map rowD)]) s := by
  rw [plain_grid (fun r => match r with
    | .list ds => ds
    | .tuple ds => ds
    | _ => []) (by rw [List.length_map]; exact hl) fun r hr => by
      obtain ⟨x, _, rfl⟩ := List.mem_map.mp hr
      exact .inr rfl, map_rowD]
theorem plain_turned {s : Sto} {w : Nat} {rows : List (List Int)} (g : GridOk w rows) : run_plain_turned [.d (grid_D w rows)] s = .ok (grid_D rows.length (cols rows w)) s := by
  have hw := g.wide
  have hh := g.high
  have q := pt1 (rs := rows.map rowD) (turned_rows (s := s) (rows := rows) (w := w) (by omega) g.len (by omega)) (plain_gridL (by rw [cols_length]; omega))
  unfold grid_D
  rw [q, List.length_map]
theorem tu1 {s : Sto} {v h : PyData} (e1 : run_check_grid [.d v] s = .ok .none s) (e2 : run_plain_turned [.d v] s = .ok h s) : run_turned [.d v] s = .ok h s := by
  simp -implicitDefEqProofs [Math.ap_eVar, Math.ap_lVar, Math.ap_eC, Math.ap_eL, Math.ap_eUn, Math.ap_eBin, Math.ap_eAnd, Math.ap_eOr, Math.ap_eNot, Math.ap_mE, Math.ap_mNot, Math.ap_mAnd, Math.ap_mOr, Math.ap_eIf, Math.ap_aNil, Math.ap_aCons, Math.ap_dNil, Math.ap_dCons, Math.ap_eTup, Math.ap_cLst, Math.ap_eFr, Math.ap_eIx, Math.ap_eSl, Math.ap_cList, Math.ap_eCall, Math.ap_cCall, Math.ap_mSeq, Math.ap_mNil, Math.ap_mSet, Math.ap_mSetC, Math.ap_mRet, Math.ap_mRetN, Math.ap_mRetL, Math.ap_mDrop, Math.ap_mIf, Math.ap_mNever, Math.ap_mPar, Math.ap_mPar3, Math.ap_mPut, Math.ap_mApp, Math.ap_mTo, Math.ap_mYes, Math.ap_iSq, Math.ap_iZp, Math.ap_iEn, Math.ap_mRetC, Math.ap_eCh, Math.ap_noPart, Math.ap_aPart, Math.ap_eSlice, Math.ap_mkF, Math.ap_mkC, Mir.env0, Mir.fin, Mir.finC, Mir.thenDo, Mir.toFl, Mir.wipeE, Mir.itemsOf, Mir.orBad, Mir.gNm, Mir.gTp, Mir.gNms, Mir.Out.bind, Mir.gIx, Mir.seqOf, Mir.gLen, Mir.gTuple, Mir.gAbs, Mir.gInt, Mir.gCmp, Mir.gI, Mir.gAdd, Mir.gSub, Mir.gNeg, Mir.gBols, Mir.gInts, Mir.gChain, Mir.nxO, Mir.putAt, Mir.appAt, Mir.isC, L2.atI, L2.ixN, Math.eIsi_tuple, Math.eIsi_int, Math.eIsi_bool, Math.gEq_int, Math.gEq_bool, run_turned, e1, e2]
theorem turned {s : Sto} {w : Nat} {rows : List (List Int)} (g : GridOk w rows) : run_turned [.d (grid_D w rows)] s = .ok (grid_D rows.length (cols rows w)) s :=
  tu1 (check_grid _ s g.is) (plain_turned g)
theorem GridOk.turned {w : Nat} {rows : List (List Int)} (g : GridOk w rows) : GridOk rows.length (cols rows w) where
  wide := g.high
  high := by
    rw [cols_length]
    exact g.wide
  len r hr := by
    obtain ⟨j, _, rfl⟩ := List.mem_map.mp hr
    exact col_length rows j
  few r hr x hx := by
    obtain ⟨j, hj, rfl⟩ := List.mem_map.mp hr
    obtain ⟨r, hr, rfl⟩ := List.mem_map.mp hx
    have hj' : j < r.length := by
      rw [g.len r hr]
      exact List.mem_range.mp hj
    rw [List.getD_eq_getElem?_getD, List.getElem?_eq_getElem hj']
    exact g.few r hr _ (List.getElem_mem hj')
theorem check_fit_ok {s : Sto} {m : PyData} : run_check_fit [.d (.bool true), .d m] s = .ok .none s := by
  simp -implicitDefEqProofs [Math.ap_eVar, Math.ap_lVar, Math.ap_eC, Math.ap_eL, Math.ap_eUn, Math.ap_eBin, Math.ap_eAnd, Math.ap_eOr, Math.ap_eNot, Math.ap_mE, Math.ap_mNot, Math.ap_mAnd, Math.ap_mOr, Math.ap_eIf, Math.ap_aNil, Math.ap_aCons, Math.ap_dNil, Math.ap_dCons, Math.ap_eTup, Math.ap_cLst, Math.ap_eFr, Math.ap_eIx, Math.ap_eSl, Math.ap_cList, Math.ap_eCall, Math.ap_cCall, Math.ap_mSeq, Math.ap_mNil, Math.ap_mSet, Math.ap_mSetC, Math.ap_mRet, Math.ap_mRetN, Math.ap_mRetL, Math.ap_mDrop, Math.ap_mIf, Math.ap_mNever, Math.ap_mPar, Math.ap_mPar3, Math.ap_mPut, Math.ap_mApp, Math.ap_mTo, Math.ap_mYes, Math.ap_iSq, Math.ap_iZp, Math.ap_iEn, Math.ap_mRetC, Math.ap_eCh, Math.ap_noPart, Math.ap_aPart, Math.ap_eSlice, Math.ap_mkF, Math.ap_mkC, Mir.env0, Mir.fin, Mir.finC, Mir.thenDo, Mir.toFl, Mir.wipeE, Mir.itemsOf, Mir.orBad, Mir.gNm, Mir.gTp, Mir.gNms, Mir.Out.bind, Mir.gIx, Mir.seqOf, Mir.gLen, Mir.gTuple, Mir.gAbs, Mir.gInt, Mir.gCmp, Mir.gI, Mir.gAdd, Mir.gSub, Mir.gNeg, Mir.gBols, Mir.gInts, Mir.gChain, Mir.nxO, Mir.putAt, Mir.appAt, Mir.isC, L2.atI, L2.ixN, Math.eIsi_tuple, Math.eIsi_int, Math.eIsi_bool, Math.gEq_int, Math.gEq_bool, run_check_fit]
theorem check_most_ok {s : Sto} {a : Int} (h : ¬ 60 < a) : run_check_most [.d (.int a)] s = .ok .none s := by
  simp -implicitDefEqProofs [Math.ap_eVar, Math.ap_lVar, Math.ap_eC, Math.ap_eL, Math.ap_eUn, Math.ap_eBin, Math.ap_eAnd, Math.ap_eOr, Math.ap_eNot, Math.ap_mE, Math.ap_mNot, Math.ap_mAnd, Math.ap_mOr, Math.ap_eIf, Math.ap_aNil, Math.ap_aCons, Math.ap_dNil, Math.ap_dCons, Math.ap_eTup, Math.ap_cLst, Math.ap_eFr, Math.ap_eIx, Math.ap_eSl, Math.ap_cList, Math.ap_eCall, Math.ap_cCall, Math.ap_mSeq, Math.ap_mNil, Math.ap_mSet, Math.ap_mSetC, Math.ap_mRet, Math.ap_mRetN, Math.ap_mRetL, Math.ap_mDrop, Math.ap_mIf, Math.ap_mNever, Math.ap_mPar, Math.ap_mPar3, Math.ap_mPut, Math.ap_mApp, Math.ap_mTo, Math.ap_mYes, Math.ap_iSq, Math.ap_iZp, Math.ap_iEn, Math.ap_mRetC, Math.ap_eCh, Math.ap_noPart, Math.ap_aPart, Math.ap_eSlice, Math.ap_mkF, Math.ap_mkC, Mir.env0, Mir.fin, Mir.finC, Mir.thenDo, Mir.toFl, Mir.wipeE, Mir.itemsOf, Mir.orBad, Mir.gNm, Mir.gTp, Mir.gNms, Mir.Out.bind, Mir.gIx, Mir.seqOf, Mir.gLen, Mir.gTuple, Mir.gAbs, Mir.gInt, Mir.gCmp, Mir.gI, Mir.gAdd, Mir.gSub, Mir.gNeg, Mir.gBols, Mir.gInts, Mir.gChain, Mir.nxO, Mir.putAt, Mir.appAt, Mir.isC, L2.atI, L2.ixN, Math.eIsi_tuple, Math.eIsi_int, Math.eIsi_bool, Math.gEq_int, Math.gEq_bool, run_check_most, h]
theorem ov1 {s : Sto} {a : Int} {xs ys : List PyData} (h1 : run_check_grids [.d (.tuple [.int a, .tuple xs]), .d (.tuple [.int a, .tuple ys])] s = .ok .none s) (hl : ¬ 60 < (xs.length : Int) + ys.length) (hl2 : xs.length + ys.length ≤ 100000) :
    run_over [.d (.tuple [.int a, .tuple xs]), .d (.tuple [.int a, .tuple ys])] s = .ok (.tuple [.int a, .tuple (xs ++ ys)]) s := by
  simp -implicitDefEqProofs [Math.ap_eVar, Math.ap_lVar, Math.ap_eC, Math.ap_eL, Math.ap_eUn, Math.ap_eBin, Math.ap_eAnd, Math.ap_eOr, Math.ap_eNot, Math.ap_mE, Math.ap_mNot, Math.ap_mAnd, Math.ap_mOr, Math.ap_eIf, Math.ap_aNil, Math.ap_aCons, Math.ap_dNil, Math.ap_dCons, Math.ap_eTup, Math.ap_cLst, Math.ap_eFr, Math.ap_eIx, Math.ap_eSl, Math.ap_cList, Math.ap_eCall, Math.ap_cCall, Math.ap_mSeq, Math.ap_mNil, Math.ap_mSet, Math.ap_mSetC, Math.ap_mRet, Math.ap_mRetN, Math.ap_mRetL, Math.ap_mDrop, Math.ap_mIf, Math.ap_mNever, Math.ap_mPar, Math.ap_mPar3, Math.ap_mPut, Math.ap_mApp, Math.ap_mTo, Math.ap_mYes, Math.ap_iSq, Math.ap_iZp, Math.ap_iEn, Math.ap_mRetC, Math.ap_eCh, Math.ap_noPart, Math.ap_aPart, Math.ap_eSlice, Math.ap_mkF, Math.ap_mkC, Mir.env0, Mir.fin, Mir.finC, Mir.thenDo, Mir.toFl, Mir.wipeE, Mir.itemsOf, Mir.orBad, Mir.gNm, Mir.gTp, Mir.gNms, Mir.Out.bind, Mir.gIx, Mir.seqOf, Mir.gLen, Mir.gTuple, Mir.gAbs, Mir.gInt, Mir.gCmp, Mir.gI, Mir.gAdd, Mir.gSub, Mir.gNeg, Mir.gBols, Mir.gInts, Mir.gChain, Mir.nxO, Mir.putAt, Mir.appAt, Mir.isC, L2.atI, L2.ixN, Math.eIsi_tuple, Math.eIsi_int, Math.eIsi_bool, Math.gEq_int, Math.gEq_bool, run_over, h1, check_fit_ok, check_most_ok hl, hl2]
theorem over {s : Sto} {w : Nat} {A B : List (List Int)} (ga : GridOk w A) (gb : GridOk w B) (hl : A.length + B.length ≤ 60) : run_over [.d (grid_D w A), .d (grid_D w B)] s = .ok (grid_D w (A ++ B)) s := by
  have q := ov1 (s := s) (a := (w : Int)) (xs := A.map rowD) (ys := B.map rowD) (check_grids _ _ s ga.is gb.is) (by rw [List.length_map, List.length_map]; omega) (by rw [List.length_map, List.length_map]; omega)
  unfold grid_D
  rw [q, List.map_append]
end Math
/-! # beside, products, units -/
namespace Math
open PySem Mir Fn
theorem zip_comp {α β : Type} {i j : Nat} {fe : ME} {ρ : Mir.Env} {s : Sto} {g : α → PyData} {g' : β → PyData} {f : α → β → PyData} : ∀ (A : List α) (B : List β),
    (∀ a ∈ A, ∀ b ∈ B, fe ((ρ.set i (some (.d (g a)))).set j (some (.d (g' b)))) s = .ok (f a b) s) →
    compL (gTp [i, j]) mYes fe ρ (zipD (A.map g) (B.map g')) s = .ok (List.zipWith f A B) s
  | [], _, _ => rfl
  | _ :: _, [], _ => rfl
  | a :: A, b :: B, h => by
    have ih := zip_comp (i := i) (j := j) (fe := fe) (ρ := ρ) (s := s) (g := g) (g' := g') (f := f) A B fun x hx y hy => h x (by simp [hx]) y (by simp [hy])
    have e := h a (by simp) b (by simp)
    rw [List.map_cons, List.map_cons, List.zipWith_cons_cons]
    have eg : gTp [i, j] (.tuple [g a, g' b]) ρ = some ((ρ.set i (some (.d (g a)))).set j (some (.d (g' b)))) := rfl
    unfold zipD compL
    rw [eg]
    simp only [mYes, Out.bind_ok, if_true, e, ih]
theorem zipD_length : ∀ (xs ys : List PyData), (zipD xs ys).length ≤ xs.length
  | [], _ => by simp [zipD]
  | _ :: _, [] => by simp [zipD]
  | _ :: xs, _ :: ys => by
    have := zipD_length xs ys
    simp only [zipD, List.length_cons]
    omega
theorem pb1 {s : Sto} {a b : Int} {xs ys zs : List PyData} {h : PyData}
    (c : cComp (iZp (eIx (lVar 0) (eC (.int 1))) (eIx (lVar 1) (eC (.int 1)))) (gTp [2, 3]) mYes (eBin gAdd (eVar 2) (eVar 3)) [2, 3] [some (.d (.tuple [.int a, .tuple xs])), some (.d (.tuple [.int b, .tuple ys])), none, none] s = .ok zs s)
    (e : run_plain_grid [.d (.list zs), .d (.int (a + b))] s = .ok h s) :
    run_plain_beside [.d (.tuple [.int a, .tuple xs]), .d (.tuple [.int b, .tuple ys])] s = .ok h s := by
  simp -implicitDefEqProofs [Math.ap_eVar, Math.ap_lVar, Math.ap_eC, Math.ap_eL, Math.ap_eUn, Math.ap_eBin, Math.ap_eAnd, Math.ap_eOr, Math.ap_eNot, Math.ap_mE, Math.ap_mNot, Math.ap_mAnd, Math.ap_mOr, Math.ap_eIf, Math.ap_aNil, Math.ap_aCons, Math.ap_dNil, Math.ap_dCons, Math.ap_eTup, Math.ap_cLst, Math.ap_eFr, Math.ap_eIx, Math.ap_eSl, Math.ap_cList, Math.ap_eCall, Math.ap_cCall, Math.ap_mSeq, Math.ap_mNil, Math.ap_mSet, Math.ap_mSetC, Math.ap_mRet, Math.ap_mRetN, Math.ap_mRetL, Math.ap_mDrop, Math.ap_mIf, Math.ap_mNever, Math.ap_mPar, Math.ap_mPar3, Math.ap_mPut, Math.ap_mApp, Math.ap_mTo, Math.ap_mYes, Math.ap_iSq, Math.ap_iZp, Math.ap_iEn, Math.ap_mRetC, Math.ap_eCh, Math.ap_noPart, Math.ap_aPart, Math.ap_eSlice, Math.ap_mkF, Math.ap_mkC, Mir.env0, Mir.fin, Mir.finC, Mir.thenDo, Mir.toFl, Mir.wipeE, Mir.itemsOf, Mir.orBad, Mir.gNm, Mir.gTp, Mir.gNms, Mir.Out.bind, Mir.gIx, Mir.seqOf, Mir.gLen, Mir.gTuple, Mir.gAbs, Mir.gInt, Mir.gCmp, Mir.gI, Mir.gAdd, Mir.gSub, Mir.gNeg, Mir.gBols, Mir.gInts, Mir.gChain, Mir.nxO, Mir.putAt, Mir.appAt, Mir.isC, L2.atI, L2.ixN, Math.eIsi_tuple, Math.eIsi_int, Math.eIsi_bool, Math.gEq_int, Math.gEq_bool, run_plain_beside, c, e]
theorem be1 {s : Sto} {a b : Int} {xs ys : List PyData} {h : PyData} (h1 : run_check_grids [.d (.tuple [.int a, .tuple xs]), .d (.tuple [.int b, .tuple ys])] s = .ok .none s) (hl : xs.length = ys.length) (hm : ¬ 60 < a + b)
    (e : run_plain_beside [.d (.tuple [.int a, .tuple xs]), .d (.tuple [.int b, .tuple ys])] s = .ok h s) :
    run_beside [.d (.tuple [.int a, .tuple xs]), .d (.tuple [.int b, .tuple ys])] s = .ok h s := by
  simp -implicitDefEqProofs [Math.ap_eVar, Math.ap_lVar, Math.ap_eC, Math.ap_eL, Math.ap_eUn, Math.ap_eBin, Math.ap_eAnd, Math.ap_eOr, Math.ap_eNot, Math.ap_mE, Math.ap_mNot, Math.ap_mAnd, Math.ap_mOr, Math.ap_eIf, Math.ap_aNil, Math.ap_aCons, Math.ap_dNil, Math.ap_dCons, Math.ap_eTup, Math.ap_cLst, Math.ap_eFr, Math.ap_eIx, Math.ap_eSl, Math.ap_cList, Math.ap_eCall, Math.ap_cCall, Math.ap_mSeq, Math.ap_mNil, Math.ap_mSet, Math.ap_mSetC, Math.ap_mRet, Math.ap_mRetN, Math.ap_mRetL, Math.ap_mDrop, Math.ap_mIf, Math.ap_mNever, Math.ap_mPar, Math.ap_mPar3, Math.ap_mPut, Math.ap_mApp, Math.ap_mTo, Math.ap_mYes, Math.ap_iSq, Math.ap_iZp, Math.ap_iEn, Math.ap_mRetC, Math.ap_eCh, Math.ap_noPart, Math.ap_aPart, Math.ap_eSlice, Math.ap_mkF, Math.ap_mkC, Mir.env0, Mir.fin, Mir.finC, Mir.thenDo, Mir.toFl, Mir.wipeE, Mir.itemsOf, Mir.orBad, Mir.gNm, Mir.gTp, Mir.gNms, Mir.Out.bind, Mir.gIx, Mir.seqOf, Mir.gLen, Mir.gTuple, Mir.gAbs, Mir.gInt, Mir.gCmp, Mir.gI, Mir.gAdd, Mir.gSub, Mir.gNeg, Mir.gBols, Mir.gInts, Mir.gChain, Mir.nxO, Mir.putAt, Mir.appAt, Mir.isC, L2.atI, L2.ixN, Math.eIsi_tuple, Math.eIsi_int, Math.eIsi_bool, Math.gEq_int, Math.gEq_bool, run_beside, h1, check_fit_ok, check_most_ok hm, e, hl]
theorem be2 {s : Sto} {x y : PyData} {xs ys : List PyData} (hx : xs.length + ys.length ≤ 100000) :
    eBin gAdd (eVar 2) (eVar 3) [some (.d x), some (.d y), some (.d (.tuple xs)), some (.d (.tuple ys))] s = .ok (.tuple (xs ++ ys)) s := by
  simp -implicitDefEqProofs [Math.ap_eVar, Math.ap_lVar, Math.ap_eC, Math.ap_eL, Math.ap_eUn, Math.ap_eBin, Math.ap_eAnd, Math.ap_eOr, Math.ap_eNot, Math.ap_mE, Math.ap_mNot, Math.ap_mAnd, Math.ap_mOr, Math.ap_eIf, Math.ap_aNil, Math.ap_aCons, Math.ap_dNil, Math.ap_dCons, Math.ap_eTup, Math.ap_cLst, Math.ap_eFr, Math.ap_eIx, Math.ap_eSl, Math.ap_cList, Math.ap_eCall, Math.ap_cCall, Math.ap_mSeq, Math.ap_mNil, Math.ap_mSet, Math.ap_mSetC, Math.ap_mRet, Math.ap_mRetN, Math.ap_mRetL, Math.ap_mDrop, Math.ap_mIf, Math.ap_mNever, Math.ap_mPar, Math.ap_mPar3, Math.ap_mPut, Math.ap_mApp, Math.ap_mTo, Math.ap_mYes, Math.ap_iSq, Math.ap_iZp, Math.ap_iEn, Math.ap_mRetC, Math.ap_eCh, Math.ap_noPart, Math.ap_aPart, Math.ap_eSlice, Math.ap_mkF, Math.ap_mkC, Mir.env0, Mir.fin, Mir.finC, Mir.thenDo, Mir.toFl, Mir.wipeE, Mir.itemsOf, Mir.orBad, Mir.gNm, Mir.gTp, Mir.gNms, Mir.Out.bind, Mir.gIx, Mir.seqOf, Mir.gLen, Mir.gTuple, Mir.gAbs, Mir.gInt, Mir.gCmp, Mir.gI, Mir.gAdd, Mir.gSub, Mir.gNeg, Mir.gBols, Mir.gInts, Mir.gChain, Mir.nxO, Mir.putAt, Mir.appAt, Mir.isC, L2.atI, L2.ixN, Math.eIsi_tuple, Math.eIsi_int, Math.eIsi_bool, Math.gEq_int, Math.gEq_bool, hx]
theorem be3 {s : Sto} {x y : PyData} {xs ys : List PyData} :
    iZp (eIx (lVar 0) (eC (.int 1))) (eIx (lVar 1) (eC (.int 1))) [some (.d (.tuple [x, .tuple xs])), some (.d (.tuple [y, .tuple ys])), none, none] s = .ok (zipD xs ys) s := by
  simp -implicitDefEqProofs [Math.ap_eVar, Math.ap_lVar, Math.ap_eC, Math.ap_eL, Math.ap_eUn, Math.ap_eBin, Math.ap_eAnd, Math.ap_eOr, Math.ap_eNot, Math.ap_mE, Math.ap_mNot, Math.ap_mAnd, Math.ap_mOr, Math.ap_eIf, Math.ap_aNil, Math.ap_aCons, Math.ap_dNil, Math.ap_dCons, Math.ap_eTup, Math.ap_cLst, Math.ap_eFr, Math.ap_eIx, Math.ap_eSl, Math.ap_cList, Math.ap_eCall, Math.ap_cCall, Math.ap_mSeq, Math.ap_mNil, Math.ap_mSet, Math.ap_mSetC, Math.ap_mRet, Math.ap_mRetN, Math.ap_mRetL, Math.ap_mDrop, Math.ap_mIf, Math.ap_mNever, Math.ap_mPar, Math.ap_mPar3, Math.ap_mPut, Math.ap_mApp, Math.ap_mTo, Math.ap_mYes, Math.ap_iSq, Math.ap_iZp, Math.ap_iEn, Math.ap_mRetC, Math.ap_eCh, Math.ap_noPart, Math.ap_aPart, Math.ap_eSlice, Math.ap_mkF, Math.ap_mkC, Mir.env0, Mir.fin, Mir.finC, Mir.thenDo, Mir.toFl, Mir.wipeE, Mir.itemsOf, Mir.orBad, Mir.gNm, Mir.gTp, Mir.gNms, Mir.Out.bind, Mir.gIx, Mir.seqOf, Mir.gLen, Mir.gTuple, Mir.gAbs, Mir.gInt, Mir.gCmp, Mir.gI, Mir.gAdd, Mir.gSub, Mir.gNeg, Mir.gBols, Mir.gInts, Mir.gChain, Mir.nxO, Mir.putAt, Mir.appAt, Mir.isC, L2.atI, L2.ixN, Math.eIsi_tuple, Math.eIsi_int, Math.eIsi_bool, Math.gEq_int, Math.gEq_bool]
def besideG (A B : List (List Int)) : List (List Int) := List.zipWith (· ++ ·) A B
theorem beside {s : Sto} {w v : Nat} {A B : List (List Int)} (ga : GridOk w A) (gb : GridOk v B) (hl : A.length = B.length) (hw : w + v ≤ 60) : run_beside [.d (grid_D w A), .d (grid_D v B)] s = .ok (grid_D (w + v) (besideG A B)) s := by
  have hA := ga.high
  have c : cComp (iZp (eIx (lVar 0) (eC (.int 1))) (eIx (lVar 1) (eC (.int 1)))) (gTp [2, 3]) mYes (eBin gAdd (eVar 2) (eVar 3)) [2, 3] [some (.d (.tuple [.int (w : Int), .tuple (A.map rowD)])), some (.d (.tuple [.int (v : Int), .tuple (B.map rowD)])), none, none] s = .ok ((besideG A B).map rowD) s := by
    unfold cComp
    have hz := zipD_length (A.map rowD) (B.map rowD)
    rw [List.length_map] at hz
    rw [be3, Out.bind_ok, if_pos (by omega)]
    have q := zip_comp (i := 2) (j := 3) (fe := eBin gAdd (eVar 2) (eVar 3)) (ρ := wipeE [some (.d (.tuple [.int (w : Int), .tuple (A.map rowD)])), some (.d (.tuple [.int (v : Int), .tuple (B.map rowD)])), none, none] [2, 3]) (s := s) (g := rowD) (g' := rowD) (f := fun a b => rowD (a ++ b)) A B fun a ha b hb => by
      have h1 := ga.len a ha
      have h2 := gb.len b hb
      have e := be2 (s := s) (x := .tuple [.int (w : Int), .tuple (A.map rowD)]) (y := .tuple [.int (v : Int), .tuple (B.map rowD)]) (xs := a.map .int) (ys := b.map .int) (by rw [List.length_map, List.length_map]; omega)
      rw [← List.map_append] at e
      exact e
    rw [q]
    congr 1
    unfold besideG
    rw [List.map_zipWith]
  have hbl : (besideG A B).length ≤ 60 := by
    unfold besideG
    rw [List.length_zipWith]
    omega
  have q := be1 (s := s) (check_grids _ _ s ga.is gb.is) (by rw [List.length_map, List.length_map, hl]) (by omega) (pb1 c (plain_gridD (xs := besideG A B) (by omega)))
  unfold grid_D
  rw [q]
  rfl
theorem GridOk.beside {w v : Nat} {A B : List (List Int)} (ga : GridOk w A) (gb : GridOk v B) (hl : A.length = B.length) (hw : w + v ≤ 60) : GridOk (w + v) (besideG A B) where
  wide := hw
  high := by
    have := ga.high
    unfold besideG
    rw [List.length_zipWith]
    omega
  len r hr := by
    unfold besideG at hr
    obtain ⟨i, hi, rfl⟩ := List.getElem_of_mem hr
    rw [List.getElem_zipWith, List.length_append, ga.len _ (List.getElem_mem _), gb.len _ (List.getElem_mem _)]
  few r hr x hx := by
    unfold besideG at hr
    obtain ⟨i, hi, rfl⟩ := List.getElem_of_mem hr
    rw [List.getElem_zipWith] at hx
    rcases List.mem_append.mp hx with hx | hx
    · exact ga.few _ (List.getElem_mem _) x hx
    · exact gb.few _ (List.getElem_mem _) x hx
end Math
/-! # products, units -/
namespace Math
open PySem Mir Fn
def dot (r c : List Int) : Int := (List.zipWith (· * ·) r c).sum
theorem do1 {s : Sto} {x y : PyData} {ns : List Int} (c : cComp (iZp (eVar 0) (eVar 1)) (gTp [2, 3]) mYes (eBin Mir.gMulA (eVar 2) (eVar 3)) [2, 3] [some (.d x), some (.d y), none, none] s = .ok (ns.map .int) s) :
    run_plain_dot [.d x, .d y] s = .ok (.int ns.sum) s := by
  have e := ints_map (fun i : Int => i) ns
  rw [List.map_id'] at e
  simp -implicitDefEqProofs [Math.ap_eVar, Math.ap_lVar, Math.ap_eC, Math.ap_eL, Math.ap_eUn, Math.ap_eBin, Math.ap_eAnd, Math.ap_eOr, Math.ap_eNot, Math.ap_mE, Math.ap_mNot, Math.ap_mAnd, Math.ap_mOr, Math.ap_eIf, Math.ap_aNil, Math.ap_aCons, Math.ap_dNil, Math.ap_dCons, Math.ap_eTup, Math.ap_cLst, Math.ap_eFr, Math.ap_eIx, Math.ap_eSl, Math.ap_cList, Math.ap_eCall, Math.ap_cCall, Math.ap_mSeq, Math.ap_mNil, Math.ap_mSet, Math.ap_mSetC, Math.ap_mRet, Math.ap_mRetN, Math.ap_mRetL, Math.ap_mDrop, Math.ap_mIf, Math.ap_mNever, Math.ap_mPar, Math.ap_mPar3, Math.ap_mPut, Math.ap_mApp, Math.ap_mTo, Math.ap_mYes, Math.ap_iSq, Math.ap_iZp, Math.ap_iEn, Math.ap_mRetC, Math.ap_eCh, Math.ap_noPart, Math.ap_aPart, Math.ap_eSlice, Math.ap_mkF, Math.ap_mkC, Mir.env0, Mir.fin, Mir.finC, Mir.thenDo, Mir.toFl, Mir.wipeE, Mir.itemsOf, Mir.orBad, Mir.gNm, Mir.gTp, Mir.gNms, Mir.Out.bind, Mir.gIx, Mir.seqOf, Mir.gLen, Mir.gTuple, Mir.gAbs, Mir.gInt, Mir.gCmp, Mir.gI, Mir.gAdd, Mir.gSub, Mir.gNeg, Mir.gBols, Mir.gInts, Mir.gChain, Mir.nxO, Mir.putAt, Mir.appAt, Mir.isC, L2.atI, L2.ixN, Math.eIsi_tuple, Math.eIsi_int, Math.eIsi_bool, Math.gEq_int, Math.gEq_bool, run_plain_dot, c, e]
theorem do2 {s : Sto} {x y : PyData} {a b : Int} (h : a.natAbs < 2 ^ 64) :
    eBin Mir.gMulA (eVar 2) (eVar 3) [some (.d x), some (.d y), some (.d (.int a)), some (.d (.int b))] s = .ok (.int (a * b)) s := by
  have hc : CMulB a b := .inl h
  simp -implicitDefEqProofs [Math.ap_eVar, Math.ap_lVar, Math.ap_eC, Math.ap_eL, Math.ap_eUn, Math.ap_eBin, Math.ap_eAnd, Math.ap_eOr, Math.ap_eNot, Math.ap_mE, Math.ap_mNot, Math.ap_mAnd, Math.ap_mOr, Math.ap_eIf, Math.ap_aNil, Math.ap_aCons, Math.ap_dNil, Math.ap_dCons, Math.ap_eTup, Math.ap_cLst, Math.ap_eFr, Math.ap_eIx, Math.ap_eSl, Math.ap_cList, Math.ap_eCall, Math.ap_cCall, Math.ap_mSeq, Math.ap_mNil, Math.ap_mSet, Math.ap_mSetC, Math.ap_mRet, Math.ap_mRetN, Math.ap_mRetL, Math.ap_mDrop, Math.ap_mIf, Math.ap_mNever, Math.ap_mPar, Math.ap_mPar3, Math.ap_mPut, Math.ap_mApp, Math.ap_mTo, Math.ap_mYes, Math.ap_iSq, Math.ap_iZp, Math.ap_iEn, Math.ap_mRetC, Math.ap_eCh, Math.ap_noPart, Math.ap_aPart, Math.ap_eSlice, Math.ap_mkF, Math.ap_mkC, Mir.env0, Mir.fin, Mir.finC, Mir.thenDo, Mir.toFl, Mir.wipeE, Mir.itemsOf, Mir.orBad, Mir.gNm, Mir.gTp, Mir.gNms, Mir.Out.bind, Mir.gIx, Mir.seqOf, Mir.gLen, Mir.gTuple, Mir.gAbs, Mir.gInt, Mir.gCmp, Mir.gI, Mir.gAdd, Mir.gSub, Mir.gNeg, Mir.gBols, Mir.gInts, Mir.gChain, Mir.nxO, Mir.putAt, Mir.appAt, Mir.isC, L2.atI, L2.ixN, Math.eIsi_tuple, Math.eIsi_int, Math.eIsi_bool, Math.gEq_int, Math.gEq_bool, Mir.gMulA, hc]
theorem do3 {s : Sto} {xs ys : List PyData} : iZp (eVar 0) (eVar 1) [some (.d (.tuple xs)), some (.d (.list ys)), none, none] s = .ok (zipD xs ys) s := by
  simp -implicitDefEqProofs [Math.ap_eVar, Math.ap_lVar, Math.ap_eC, Math.ap_eL, Math.ap_eUn, Math.ap_eBin, Math.ap_eAnd, Math.ap_eOr, Math.ap_eNot, Math.ap_mE, Math.ap_mNot, Math.ap_mAnd, Math.ap_mOr, Math.ap_eIf, Math.ap_aNil, Math.ap_aCons, Math.ap_dNil, Math.ap_dCons, Math.ap_eTup, Math.ap_cLst, Math.ap_eFr, Math.ap_eIx, Math.ap_eSl, Math.ap_cList, Math.ap_eCall, Math.ap_cCall, Math.ap_mSeq, Math.ap_mNil, Math.ap_mSet, Math.ap_mSetC, Math.ap_mRet, Math.ap_mRetN, Math.ap_mRetL, Math.ap_mDrop, Math.ap_mIf, Math.ap_mNever, Math.ap_mPar, Math.ap_mPar3, Math.ap_mPut, Math.ap_mApp, Math.ap_mTo, Math.ap_mYes, Math.ap_iSq, Math.ap_iZp, Math.ap_iEn, Math.ap_mRetC, Math.ap_eCh, Math.ap_noPart, Math.ap_aPart, Math.ap_eSlice, Math.ap_mkF, Math.ap_mkC, Mir.env0, Mir.fin, Mir.finC, Mir.thenDo, Mir.toFl, Mir.wipeE, Mir.itemsOf, Mir.orBad, Mir.gNm, Mir.gTp, Mir.gNms, Mir.Out.bind, Mir.gIx, Mir.seqOf, Mir.gLen, Mir.gTuple, Mir.gAbs, Mir.gInt, Mir.gCmp, Mir.gI, Mir.gAdd, Mir.gSub, Mir.gNeg, Mir.gBols, Mir.gInts, Mir.gChain, Mir.nxO, Mir.putAt, Mir.appAt, Mir.isC, L2.atI, L2.ixN, Math.eIsi_tuple, Math.eIsi_int, Math.eIsi_bool, Math.gEq_int, Math.gEq_bool]
theorem dot_ok {s : Sto} {r c : List Int} (hr : ∀ x ∈ r, Few x) (hl : r.length ≤ 1000) : run_plain_dot [.d (rowD r), .d (rowL c)] s = .ok (.int (dot r c)) s := by
  apply do1
  unfold cComp
  have hz := zipD_length (r.map .int) (c.map .int)
  rw [List.length_map] at hz
  have e3 : iZp (eVar 0) (eVar 1) [some (.d (rowD r)), some (.d (rowL c)), none, none] s = .ok (zipD (r.map .int) (c.map .int)) s := do3
  rw [e3, Out.bind_ok, if_pos (by omega)]
  have q := zip_comp (i := 2) (j := 3) (fe := eBin Mir.gMulA (eVar 2) (eVar 3)) (ρ := wipeE [some (.d (rowD r)), some (.d (rowL c)), none, none] [2, 3]) (s := s) (g := PyData.int) (g' := PyData.int) (f := fun a b => PyData.int (a * b)) r c fun a ha b hb => by
    have h := hr a ha
    exact do2 (by unfold Few at h; omega)
  rw [q]
  congr 1
  rw [List.map_zipWith]
def prod (A B : List (List Int)) (v : Nat) : List (List Int) := A.map fun r => (cols B v).map (dot r)
theorem pr1 {s : Sto} {a b : Int} {xs ys cs zs : List PyData} (e1 : run_turned_rows_of [.d (.tuple ys), .d (.int b)] s = .ok (.list cs) s)
    (c : cComp (iSq (eIx (lVar 0) (eC (.int 1)))) (gNm 3) mYes (eSl gTuple (eL (eFr (cComp (iSq (eVar 2)) (gNm 4) mYes (eCall 2 run_plain_dot (aCons (lVar 3) (aCons (lVar 4) aNil))) [4])))) [3] [some (.d (.tuple [.int a, .tuple xs])), some (.d (.tuple [.int b, .tuple ys])), some (.d (.list cs)), none, none] s = .ok zs s) :
    run_plain_product [.d (.tuple [.int a, .tuple xs]), .d (.tuple [.int b, .tuple ys])] s = .ok (.tuple [.int b, .tuple zs]) s := by
  simp -implicitDefEqProofs [Math.ap_eVar, Math.ap_lVar, Math.ap_eC, Math.ap_eL, Math.ap_eUn, Math.ap_eBin, Math.ap_eAnd, Math.ap_eOr, Math.ap_eNot, Math.ap_mE, Math.ap_mNot, Math.ap_mAnd, Math.ap_mOr, Math.ap_eIf, Math.ap_aNil, Math.ap_aCons, Math.ap_dNil, Math.ap_dCons, Math.ap_eTup, Math.ap_cLst, Math.ap_eFr, Math.ap_eIx, Math.ap_eSl, Math.ap_cList, Math.ap_eCall, Math.ap_cCall, Math.ap_mSeq, Math.ap_mNil, Math.ap_mSet, Math.ap_mSetC, Math.ap_mRet, Math.ap_mRetN, Math.ap_mRetL, Math.ap_mDrop, Math.ap_mIf, Math.ap_mNever, Math.ap_mPar, Math.ap_mPar3, Math.ap_mPut, Math.ap_mApp, Math.ap_mTo, Math.ap_mYes, Math.ap_iSq, Math.ap_iZp, Math.ap_iEn, Math.ap_mRetC, Math.ap_eCh, Math.ap_noPart, Math.ap_aPart, Math.ap_eSlice, Math.ap_mkF, Math.ap_mkC, Mir.env0, Mir.fin, Mir.finC, Mir.thenDo, Mir.toFl, Mir.wipeE, Mir.itemsOf, Mir.orBad, Mir.gNm, Mir.gTp, Mir.gNms, Mir.Out.bind, Mir.gIx, Mir.seqOf, Mir.gLen, Mir.gTuple, Mir.gAbs, Mir.gInt, Mir.gCmp, Mir.gI, Mir.gAdd, Mir.gSub, Mir.gNeg, Mir.gBols, Mir.gInts, Mir.gChain, Mir.nxO, Mir.putAt, Mir.appAt, Mir.isC, L2.atI, L2.ixN, Math.eIsi_tuple, Math.eIsi_int, Math.eIsi_bool, Math.gEq_int, Math.gEq_bool, run_plain_product, e1, c]
theorem pr2 {s : Sto} {x y d : PyData} {cs ns : List PyData} (c : cComp (iSq (eVar 2)) (gNm 4) mYes (eCall 2 run_plain_dot (aCons (lVar 3) (aCons (lVar 4) aNil))) [4] [some (.d x), some (.d y), some (.d (.list cs)), some (.d d), none] s = .ok ns s) :
    eSl gTuple (eL (eFr (cComp (iSq (eVar 2)) (gNm 4) mYes (eCall 2 run_plain_dot (aCons (lVar 3) (aCons (lVar 4) aNil))) [4]))) [some (.d x), some (.d y), some (.d (.list cs)), some (.d d), none] s = .ok (.tuple ns) s := by
  simp -implicitDefEqProofs [Math.ap_eVar, Math.ap_lVar, Math.ap_eC, Math.ap_eL, Math.ap_eUn, Math.ap_eBin, Math.ap_eAnd, Math.ap_eOr, Math.ap_eNot, Math.ap_mE, Math.ap_mNot, Math.ap_mAnd, Math.ap_mOr, Math.ap_eIf, Math.ap_aNil, Math.ap_aCons, Math.ap_dNil, Math.ap_dCons, Math.ap_eTup, Math.ap_cLst, Math.ap_eFr, Math.ap_eIx, Math.ap_eSl, Math.ap_cList, Math.ap_eCall, Math.ap_cCall, Math.ap_mSeq, Math.ap_mNil, Math.ap_mSet, Math.ap_mSetC, Math.ap_mRet, Math.ap_mRetN, Math.ap_mRetL, Math.ap_mDrop, Math.ap_mIf, Math.ap_mNever, Math.ap_mPar, Math.ap_mPar3, Math.ap_mPut, Math.ap_mApp, Math.ap_mTo, Math.ap_mYes, Math.ap_iSq, Math.ap_iZp, Math.ap_iEn, Math.ap_mRetC, Math.ap_eCh, Math.ap_noPart, Math.ap_aPart, Math.ap_eSlice, Math.ap_mkF, Math.ap_mkC, Mir.env0, Mir.fin, Mir.finC, Mir.thenDo, Mir.toFl, Mir.wipeE, Mir.itemsOf, Mir.orBad, Mir.gNm, Mir.gTp, Mir.gNms, Mir.Out.bind, Mir.gIx, Mir.seqOf, Mir.gLen, Mir.gTuple, Mir.gAbs, Mir.gInt, Mir.gCmp, Mir.gI, Mir.gAdd, Mir.gSub, Mir.gNeg, Mir.gBols, Mir.gInts, Mir.gChain, Mir.nxO, Mir.putAt, Mir.appAt, Mir.isC, L2.atI, L2.ixN, Math.eIsi_tuple, Math.eIsi_int, Math.eIsi_bool, Math.gEq_int, Math.gEq_bool, c]
theorem pr3 {s : Sto} {x y z d e h : PyData} (q : run_plain_dot [.d d, .d e] s = .ok h s) : eCall 2 run_plain_dot (aCons (lVar 3) (aCons (lVar 4) aNil)) [some (.d x), some (.d y), some (.d z), some (.d d), some (.d e)] s = .ok h s := by
  simp -implicitDefEqProofs [Math.ap_eVar, Math.ap_lVar, Math.ap_eC, Math.ap_eL, Math.ap_eUn, Math.ap_eBin, Math.ap_eAnd, Math.ap_eOr, Math.ap_eNot, Math.ap_mE, Math.ap_mNot, Math.ap_mAnd, Math.ap_mOr, Math.ap_eIf, Math.ap_aNil, Math.ap_aCons, Math.ap_dNil, Math.ap_dCons, Math.ap_eTup, Math.ap_cLst, Math.ap_eFr, Math.ap_eIx, Math.ap_eSl, Math.ap_cList, Math.ap_eCall, Math.ap_cCall, Math.ap_mSeq, Math.ap_mNil, Math.ap_mSet, Math.ap_mSetC, Math.ap_mRet, Math.ap_mRetN, Math.ap_mRetL, Math.ap_mDrop, Math.ap_mIf, Math.ap_mNever, Math.ap_mPar, Math.ap_mPar3, Math.ap_mPut, Math.ap_mApp, Math.ap_mTo, Math.ap_mYes, Math.ap_iSq, Math.ap_iZp, Math.ap_iEn, Math.ap_mRetC, Math.ap_eCh, Math.ap_noPart, Math.ap_aPart, Math.ap_eSlice, Math.ap_mkF, Math.ap_mkC, Mir.env0, Mir.fin, Mir.finC, Mir.thenDo, Mir.toFl, Mir.wipeE, Mir.itemsOf, Mir.orBad, Mir.gNm, Mir.gTp, Mir.gNms, Mir.Out.bind, Mir.gIx, Mir.seqOf, Mir.gLen, Mir.gTuple, Mir.gAbs, Mir.gInt, Mir.gCmp, Mir.gI, Mir.gAdd, Mir.gSub, Mir.gNeg, Mir.gBols, Mir.gInts, Mir.gChain, Mir.nxO, Mir.putAt, Mir.appAt, Mir.isC, L2.atI, L2.ixN, Math.eIsi_tuple, Math.eIsi_int, Math.eIsi_bool, Math.gEq_int, Math.gEq_bool, q]
/-- as `comp_map`, the items told by a list -/
theorem comp_mapL {α : Type} {it : MD} {k : Nat} {fe : ME} {ρ : Mir.Env} {s : Sto} (g f : α → PyData) (as : List α) (hi : it ρ s = .ok (as.map g) s) (hl : as.length ≤ 100000)
    (h : ∀ a ∈ as, fe ((wipeE ρ [k]).set k (some (.d (g a)))) s = .ok (f a) s) : cComp it (gNm k) mYes fe [k] ρ s = .ok (as.map f) s := by
  have go : ∀ (bs : List α), (∀ b ∈ bs, b ∈ as) → compL (gNm k) mYes fe (wipeE ρ [k]) (bs.map g) s = .ok (bs.map f) s := by
    intro bs
    induction bs with
    | nil => exact fun _ => rfl
    | cons b bs ih =>
      intro hb
      have e := h b (hb b (by simp))
      have eg : gNm k (g b) (wipeE ρ [k]) = some ((wipeE ρ [k]).set k (some (.d (g b)))) := rfl
      rw [List.map_cons]
      unfold compL
      rw [eg]
      simp only [mYes, Out.bind_ok, if_true, e, ih fun x hx => hb x (by simp [hx]), List.map_cons]
  unfold cComp
  rw [hi, Out.bind_ok, List.length_map, if_pos hl, go as fun _ q => q]
theorem plain_product {s : Sto} {w v : Nat} {A B : List (List Int)} (ga : GridOk w A) (gb : GridOk v B) : run_plain_product [.d (grid_D w A), .d (grid_D v B)] s = .ok (grid_D v (prod A B v)) s := by
  have hA := ga.high
  have hB := gb.high
  have hv := gb.wide
  have hw := ga.wide
  have e1 := turned_rows (s := s) (rows := B) (w := v) (by omega) gb.len (by omega)
  have c := comp_mapL (it := iSq (eIx (lVar 0) (eC (.int 1)))) (k := 3) (fe := eSl gTuple (eL (eFr (cComp (iSq (eVar 2)) (gNm 4) mYes (eCall 2 run_plain_dot (aCons (lVar 3) (aCons (lVar 4) aNil))) [4]))))
    (ρ := [some (.d (.tuple [.int (w : Int), .tuple (A.map rowD)])), some (.d (.tuple [.int (v : Int), .tuple (B.map rowD)])), some (.d (.list ((cols B v).map rowL))), none, none]) (s := s) rowD (fun r => rowD ((cols B v).map (dot r))) A rfl (by omega) fun r hr => by
    refine pr2 ?_
    have q := comp_mapL (it := iSq (eVar 2)) (k := 4) (fe := eCall 2 run_plain_dot (aCons (lVar 3) (aCons (lVar 4) aNil)))
      (ρ := [some (.d (.tuple [.int (w : Int), .tuple (A.map rowD)])), some (.d (.tuple [.int (v : Int), .tuple (B.map rowD)])), some (.d (.list ((cols B v).map rowL))), some (.d (rowD r)), none]) (s := s) rowL (fun c => .int (dot r c)) (cols B v) rfl (by rw [cols_length]; omega) fun c hc =>
      pr3 (dot_ok (ga.few r hr) (by rw [ga.len r hr]; omega))
    have e : (cols B v).map (fun c => PyData.int (dot r c)) = ((cols B v).map (dot r)).map .int := by
      rw [List.map_map]
      rfl
    rw [e] at q
    exact q
  have q := pr1 e1 c
  have e : A.map (fun r => rowD ((cols B v).map (dot r))) = (prod A B v).map rowD := by
    unfold prod
    rw [List.map_map]
    rfl
  rw [e] at q
  exact q
theorem gp1 {s : Sto} {a b : Int} {xs ys : List PyData} {h : PyData} (h1 : run_check_grids [.d (.tuple [.int a, .tuple xs]), .d (.tuple [.int b, .tuple ys])] s = .ok .none s) (hl : a = ys.length)
    (e : run_plain_product [.d (.tuple [.int a, .tuple xs]), .d (.tuple [.int b, .tuple ys])] s = .ok h s) :
    run_grid_product [.d (.tuple [.int a, .tuple xs]), .d (.tuple [.int b, .tuple ys])] s = .ok h s := by
  simp -implicitDefEqProofs [Math.ap_eVar, Math.ap_lVar, Math.ap_eC, Math.ap_eL, Math.ap_eUn, Math.ap_eBin, Math.ap_eAnd, Math.ap_eOr, Math.ap_eNot, Math.ap_mE, Math.ap_mNot, Math.ap_mAnd, Math.ap_mOr, Math.ap_eIf, Math.ap_aNil, Math.ap_aCons, Math.ap_dNil, Math.ap_dCons, Math.ap_eTup, Math.ap_cLst, Math.ap_eFr, Math.ap_eIx, Math.ap_eSl, Math.ap_cList, Math.ap_eCall, Math.ap_cCall, Math.ap_mSeq, Math.ap_mNil, Math.ap_mSet, Math.ap_mSetC, Math.ap_mRet, Math.ap_mRetN, Math.ap_mRetL, Math.ap_mDrop, Math.ap_mIf, Math.ap_mNever, Math.ap_mPar, Math.ap_mPar3, Math.ap_mPut, Math.ap_mApp, Math.ap_mTo, Math.ap_mYes, Math.ap_iSq, Math.ap_iZp, Math.ap_iEn, Math.ap_mRetC, Math.ap_eCh, Math.ap_noPart, Math.ap_aPart, Math.ap_eSlice, Math.ap_mkF, Math.ap_mkC, Mir.env0, Mir.fin, Mir.finC, Mir.thenDo, Mir.toFl, Mir.wipeE, Mir.itemsOf, Mir.orBad, Mir.gNm, Mir.gTp, Mir.gNms, Mir.Out.bind, Mir.gIx, Mir.seqOf, Mir.gLen, Mir.gTuple, Mir.gAbs, Mir.gInt, Mir.gCmp, Mir.gI, Mir.gAdd, Mir.gSub, Mir.gNeg, Mir.gBols, Mir.gInts, Mir.gChain, Mir.nxO, Mir.putAt, Mir.appAt, Mir.isC, L2.atI, L2.ixN, Math.eIsi_tuple, Math.eIsi_int, Math.eIsi_bool, Math.gEq_int, Math.gEq_bool, run_grid_product, h1, check_fit_ok, e, eq_true hl]
end Math
/-! # units, noughts as lists -/
namespace Math
open PySem Mir Fn
theorem GridOk.mk_product {s : Sto} {w v : Nat} {A B : List (List Int)} (ga : GridOk w A) (gb : GridOk v B) (hl : w = B.length) : run_grid_product [.d (grid_D w A), .d (grid_D v B)] s = .ok (grid_D v (prod A B v)) s :=
  gp1 (check_grids _ _ s ga.is gb.is) (by rw [List.length_map, hl]) (plain_product ga gb)
def unitG (n : Nat) : List (List Int) := (List.range n).map fun i => (List.range n).map fun j => if j = i then 1 else 0
def noughtG (h w : Nat) : List (List Int) := List.replicate h (List.replicate w 0)
theorem unit_ok {n : Nat} (h : n ≤ 60) : GridOk n (unitG n) where
  wide := h
  high := by simp [unitG, h]
  len r hr := by
    obtain ⟨i, _, rfl⟩ := List.mem_map.mp hr
    simp
  few r hr x hx := by
    obtain ⟨i, _, rfl⟩ := List.mem_map.mp hr
    obtain ⟨j, _, rfl⟩ := List.mem_map.mp hx
    unfold Few
    split <;> decide
theorem nought_ok {h w : Nat} (hh : h ≤ 60) (hw : w ≤ 60) : GridOk w (noughtG h w) where
  wide := hw
  high := by simp [noughtG, hh]
  len r hr := by
    rw [(List.mem_replicate.mp hr).2, List.length_replicate]
  few r hr x hx := by
    rw [(List.mem_replicate.mp hr).2] at hx
    rw [(List.mem_replicate.mp hx).2]
    unfold Few
    decide
end Math
/-! # units, noughts -/
namespace Math
open PySem Mir Fn
theorem check_between_ok {s : Sto} {v : PyData} {a b : Int} (h : isBetween a b v = true) : run_check_between [.d v, .d (.int a), .d (.int b)] s = .ok .none s := by
  simp -implicitDefEqProofs [Math.ap_eVar, Math.ap_lVar, Math.ap_eC, Math.ap_eL, Math.ap_eUn, Math.ap_eBin, Math.ap_eAnd, Math.ap_eOr, Math.ap_eNot, Math.ap_mE, Math.ap_mNot, Math.ap_mAnd, Math.ap_mOr, Math.ap_eIf, Math.ap_aNil, Math.ap_aCons, Math.ap_dNil, Math.ap_dCons, Math.ap_eTup, Math.ap_cLst, Math.ap_eFr, Math.ap_eIx, Math.ap_eSl, Math.ap_cList, Math.ap_eCall, Math.ap_cCall, Math.ap_mSeq, Math.ap_mNil, Math.ap_mSet, Math.ap_mSetC, Math.ap_mRet, Math.ap_mRetN, Math.ap_mRetL, Math.ap_mDrop, Math.ap_mIf, Math.ap_mNever, Math.ap_mPar, Math.ap_mPar3, Math.ap_mPut, Math.ap_mApp, Math.ap_mTo, Math.ap_mYes, Math.ap_iSq, Math.ap_iZp, Math.ap_iEn, Math.ap_mRetC, Math.ap_eCh, Math.ap_noPart, Math.ap_aPart, Math.ap_eSlice, Math.ap_mkF, Math.ap_mkC, Mir.env0, Mir.fin, Mir.finC, Mir.thenDo, Mir.toFl, Mir.wipeE, Mir.itemsOf, Mir.orBad, Mir.gNm, Mir.gTp, Mir.gNms, Mir.Out.bind, Mir.gIx, Mir.seqOf, Mir.gLen, Mir.gTuple, Mir.gAbs, Mir.gInt, Mir.gCmp, Mir.gI, Mir.gAdd, Mir.gSub, Mir.gNeg, Mir.gBols, Mir.gInts, Mir.gChain, Mir.nxO, Mir.putAt, Mir.appAt, Mir.isC, L2.atI, L2.ixN, Math.eIsi_tuple, Math.eIsi_int, Math.eIsi_bool, Math.gEq_int, Math.gEq_bool, run_check_between, between, h]
theorem un1 {s : Sto} {v h : PyData} (hb : isBetween 0 60 v = true) (e : run_plain_unit [.d v] s = .ok h s) : run_unit_grid [.d v] s = .ok h s := by
  simp -implicitDefEqProofs [Math.ap_eVar, Math.ap_lVar, Math.ap_eC, Math.ap_eL, Math.ap_eUn, Math.ap_eBin, Math.ap_eAnd, Math.ap_eOr, Math.ap_eNot, Math.ap_mE, Math.ap_mNot, Math.ap_mAnd, Math.ap_mOr, Math.ap_eIf, Math.ap_aNil, Math.ap_aCons, Math.ap_dNil, Math.ap_dCons, Math.ap_eTup, Math.ap_cLst, Math.ap_eFr, Math.ap_eIx, Math.ap_eSl, Math.ap_cList, Math.ap_eCall, Math.ap_cCall, Math.ap_mSeq, Math.ap_mNil, Math.ap_mSet, Math.ap_mSetC, Math.ap_mRet, Math.ap_mRetN, Math.ap_mRetL, Math.ap_mDrop, Math.ap_mIf, Math.ap_mNever, Math.ap_mPar, Math.ap_mPar3, Math.ap_mPut, Math.ap_mApp, Math.ap_mTo, Math.ap_mYes, Math.ap_iSq, Math.ap_iZp, Math.ap_iEn, Math.ap_mRetC, Math.ap_eCh, Math.ap_noPart, Math.ap_aPart, Math.ap_eSlice, Math.ap_mkF, Math.ap_mkC, Mir.env0, Mir.fin, Mir.finC, Mir.thenDo, Mir.toFl, Mir.wipeE, Mir.itemsOf, Mir.orBad, Mir.gNm, Mir.gTp, Mir.gNms, Mir.Out.bind, Mir.gIx, Mir.seqOf, Mir.gLen, Mir.gTuple, Mir.gAbs, Mir.gInt, Mir.gCmp, Mir.gI, Mir.gAdd, Mir.gSub, Mir.gNeg, Mir.gBols, Mir.gInts, Mir.gChain, Mir.nxO, Mir.putAt, Mir.appAt, Mir.isC, L2.atI, L2.ixN, Math.eIsi_tuple, Math.eIsi_int, Math.eIsi_bool, Math.gEq_int, Math.gEq_bool, run_unit_grid, check_between_ok hb, e]
theorem un2 {s : Sto} {v h : PyData} {rs : List PyData}
    (c : cComp (iRg1 (eVar 0)) (gNm 1) mYes (eFr (cComp (iRg1 (eVar 0)) (gNm 2) mYes (eIf (mE (eBin (gEq false) (eVar 2) (eVar 1))) (eC (.int 1)) (eC (.int 0))) [2])) [1] [some (.d v), none, none] s = .ok rs s)
    (e : run_plain_grid [.d (.list rs), .d v] s = .ok h s) : run_plain_unit [.d v] s = .ok h s := by
  simp -implicitDefEqProofs [Math.ap_eVar, Math.ap_lVar, Math.ap_eC, Math.ap_eL, Math.ap_eUn, Math.ap_eBin, Math.ap_eAnd, Math.ap_eOr, Math.ap_eNot, Math.ap_mE, Math.ap_mNot, Math.ap_mAnd, Math.ap_mOr, Math.ap_eIf, Math.ap_aNil, Math.ap_aCons, Math.ap_dNil, Math.ap_dCons, Math.ap_eTup, Math.ap_cLst, Math.ap_eFr, Math.ap_eIx, Math.ap_eSl, Math.ap_cList, Math.ap_eCall, Math.ap_cCall, Math.ap_mSeq, Math.ap_mNil, Math.ap_mSet, Math.ap_mSetC, Math.ap_mRet, Math.ap_mRetN, Math.ap_mRetL, Math.ap_mDrop, Math.ap_mIf, Math.ap_mNever, Math.ap_mPar, Math.ap_mPar3, Math.ap_mPut, Math.ap_mApp, Math.ap_mTo, Math.ap_mYes, Math.ap_iSq, Math.ap_iZp, Math.ap_iEn, Math.ap_mRetC, Math.ap_eCh, Math.ap_noPart, Math.ap_aPart, Math.ap_eSlice, Math.ap_mkF, Math.ap_mkC, Mir.env0, Mir.fin, Mir.finC, Mir.thenDo, Mir.toFl, Mir.wipeE, Mir.itemsOf, Mir.orBad, Mir.gNm, Mir.gTp, Mir.gNms, Mir.Out.bind, Mir.gIx, Mir.seqOf, Mir.gLen, Mir.gTuple, Mir.gAbs, Mir.gInt, Mir.gCmp, Mir.gI, Mir.gAdd, Mir.gSub, Mir.gNeg, Mir.gBols, Mir.gInts, Mir.gChain, Mir.nxO, Mir.putAt, Mir.appAt, Mir.isC, L2.atI, L2.ixN, Math.eIsi_tuple, Math.eIsi_int, Math.eIsi_bool, Math.gEq_int, Math.gEq_bool, run_plain_unit, c, e]
theorem un3 {s : Sto} {v d : PyData} {rs : List PyData} (c : cComp (iRg1 (eVar 0)) (gNm 2) mYes (eIf (mE (eBin (gEq false) (eVar 2) (eVar 1))) (eC (.int 1)) (eC (.int 0))) [2] [some (.d v), some (.d d), none] s = .ok rs s) :
    eFr (cComp (iRg1 (eVar 0)) (gNm 2) mYes (eIf (mE (eBin (gEq false) (eVar 2) (eVar 1))) (eC (.int 1)) (eC (.int 0))) [2]) [some (.d v), some (.d d), none] s = .ok (.list rs) s := by
  simp -implicitDefEqProofs [Math.ap_eVar, Math.ap_lVar, Math.ap_eC, Math.ap_eL, Math.ap_eUn, Math.ap_eBin, Math.ap_eAnd, Math.ap_eOr, Math.ap_eNot, Math.ap_mE, Math.ap_mNot, Math.ap_mAnd, Math.ap_mOr, Math.ap_eIf, Math.ap_aNil, Math.ap_aCons, Math.ap_dNil, Math.ap_dCons, Math.ap_eTup, Math.ap_cLst, Math.ap_eFr, Math.ap_eIx, Math.ap_eSl, Math.ap_cList, Math.ap_eCall, Math.ap_cCall, Math.ap_mSeq, Math.ap_mNil, Math.ap_mSet, Math.ap_mSetC, Math.ap_mRet, Math.ap_mRetN, Math.ap_mRetL, Math.ap_mDrop, Math.ap_mIf, Math.ap_mNever, Math.ap_mPar, Math.ap_mPar3, Math.ap_mPut, Math.ap_mApp, Math.ap_mTo, Math.ap_mYes, Math.ap_iSq, Math.ap_iZp, Math.ap_iEn, Math.ap_mRetC, Math.ap_eCh, Math.ap_noPart, Math.ap_aPart, Math.ap_eSlice, Math.ap_mkF, Math.ap_mkC, Mir.env0, Mir.fin, Mir.finC, Mir.thenDo, Mir.toFl, Mir.wipeE, Mir.itemsOf, Mir.orBad, Mir.gNm, Mir.gTp, Mir.gNms, Mir.Out.bind, Mir.gIx, Mir.seqOf, Mir.gLen, Mir.gTuple, Mir.gAbs, Mir.gInt, Mir.gCmp, Mir.gI, Mir.gAdd, Mir.gSub, Mir.gNeg, Mir.gBols, Mir.gInts, Mir.gChain, Mir.nxO, Mir.putAt, Mir.appAt, Mir.isC, L2.atI, L2.ixN, Math.eIsi_tuple, Math.eIsi_int, Math.eIsi_bool, Math.gEq_int, Math.gEq_bool, c]
theorem un4 {s : Sto} {v : PyData} {a b : Int} : eIf (mE (eBin (gEq false) (eVar 2) (eVar 1))) (eC (.int 1)) (eC (.int 0)) [some (.d v), some (.d (.int a)), some (.d (.int b))] s = .ok (.int (if b = a then 1 else 0)) s := by
  by_cases c : b = a
  · subst c
    simp -implicitDefEqProofs [Math.ap_eVar, Math.ap_lVar, Math.ap_eC, Math.ap_eL, Math.ap_eUn, Math.ap_eBin, Math.ap_eAnd, Math.ap_eOr, Math.ap_eNot, Math.ap_mE, Math.ap_mNot, Math.ap_mAnd, Math.ap_mOr, Math.ap_eIf, Math.ap_aNil, Math.ap_aCons, Math.ap_dNil, Math.ap_dCons, Math.ap_eTup, Math.ap_cLst, Math.ap_eFr, Math.ap_eIx, Math.ap_eSl, Math.ap_cList, Math.ap_eCall, Math.ap_cCall, Math.ap_mSeq, Math.ap_mNil, Math.ap_mSet, Math.ap_mSetC, Math.ap_mRet, Math.ap_mRetN, Math.ap_mRetL, Math.ap_mDrop, Math.ap_mIf, Math.ap_mNever, Math.ap_mPar, Math.ap_mPar3, Math.ap_mPut, Math.ap_mApp, Math.ap_mTo, Math.ap_mYes, Math.ap_iSq, Math.ap_iZp, Math.ap_iEn, Math.ap_mRetC, Math.ap_eCh, Math.ap_noPart, Math.ap_aPart, Math.ap_eSlice, Math.ap_mkF, Math.ap_mkC, Mir.env0, Mir.fin, Mir.finC, Mir.thenDo, Mir.toFl, Mir.wipeE, Mir.itemsOf, Mir.orBad, Mir.gNm, Mir.gTp, Mir.gNms, Mir.Out.bind, Mir.gIx, Mir.seqOf, Mir.gLen, Mir.gTuple, Mir.gAbs, Mir.gInt, Mir.gCmp, Mir.gI, Mir.gAdd, Mir.gSub, Mir.gNeg, Mir.gBols, Mir.gInts, Mir.gChain, Mir.nxO, Mir.putAt, Mir.appAt, Mir.isC, L2.atI, L2.ixN, Math.eIsi_tuple, Math.eIsi_int, Math.eIsi_bool, Math.gEq_int, Math.gEq_bool]
  · simp -implicitDefEqProofs [Math.ap_eVar, Math.ap_lVar, Math.ap_eC, Math.ap_eL, Math.ap_eUn, Math.ap_eBin, Math.ap_eAnd, Math.ap_eOr, Math.ap_eNot, Math.ap_mE, Math.ap_mNot, Math.ap_mAnd, Math.ap_mOr, Math.ap_eIf, Math.ap_aNil, Math.ap_aCons, Math.ap_dNil, Math.ap_dCons, Math.ap_eTup, Math.ap_cLst, Math.ap_eFr, Math.ap_eIx, Math.ap_eSl, Math.ap_cList, Math.ap_eCall, Math.ap_cCall, Math.ap_mSeq, Math.ap_mNil, Math.ap_mSet, Math.ap_mSetC, Math.ap_mRet, Math.ap_mRetN, Math.ap_mRetL, Math.ap_mDrop, Math.ap_mIf, Math.ap_mNever, Math.ap_mPar, Math.ap_mPar3, Math.ap_mPut, Math.ap_mApp, Math.ap_mTo, Math.ap_mYes, Math.ap_iSq, Math.ap_iZp, Math.ap_iEn, Math.ap_mRetC, Math.ap_eCh, Math.ap_noPart, Math.ap_aPart, Math.ap_eSlice, Math.ap_mkF, Math.ap_mkC, Mir.env0, Mir.fin, Mir.finC, Mir.thenDo, Mir.toFl, Mir.wipeE, Mir.itemsOf, Mir.orBad, Mir.gNm, Mir.gTp, Mir.gNms, Mir.Out.bind, Mir.gIx, Mir.seqOf, Mir.gLen, Mir.gTuple, Mir.gAbs, Mir.gInt, Mir.gCmp, Mir.gI, Mir.gAdd, Mir.gSub, Mir.gNeg, Mir.gBols, Mir.gInts, Mir.gChain, Mir.nxO, Mir.putAt, Mir.appAt, Mir.isC, L2.atI, L2.ixN, Math.eIsi_tuple, Math.eIsi_int, Math.eIsi_bool, Math.gEq_int, Math.gEq_bool, c]
theorem plain_unit {s : Sto} {n : Nat} (hn : n ≤ 60) : run_plain_unit [.d (.int n)] s = .ok (grid_D n (unitG n)) s := by
  have c := comp_mapL (it := iRg1 (eVar 0)) (k := 1) (fe := eFr (cComp (iRg1 (eVar 0)) (gNm 2) mYes (eIf (mE (eBin (gEq false) (eVar 2) (eVar 1))) (eC (.int 1)) (eC (.int 0))) [2])) (ρ := [some (.d (.int n)), none, none]) (s := s)
    (fun i : Nat => .int i) (fun i => rowL ((List.range n).map fun j => if j = i then 1 else 0)) (List.range n) (by rw [range_ok 0 _ s n (by omega) rfl, rangeOf_eq]) (by rw [List.length_range]; omega) fun i _ => by
    refine un3 ?_
    have q := comp_mapL (it := iRg1 (eVar 0)) (k := 2) (fe := eIf (mE (eBin (gEq false) (eVar 2) (eVar 1))) (eC (.int 1)) (eC (.int 0))) (ρ := [some (.d (.int n)), some (.d (.int i)), none]) (s := s)
      (fun j : Nat => .int j) (fun j => .int (if j = i then 1 else 0)) (List.range n) (by rw [range_ok 0 _ s n (by omega) rfl, rangeOf_eq]) (by rw [List.length_range]; omega) fun j _ => by
      have e := un4 (s := s) (v := .int n) (a := (i : Int)) (b := (j : Int))
      by_cases c : j = i
      · subst c
        rw [if_pos rfl] at e ⊢
        exact e
      · rw [if_neg (by omega)] at e
        rw [if_neg c]
        exact e
    have e : ((List.range n).map fun j => PyData.int (if j = i then 1 else 0)) = ((List.range n).map fun j => if j = i then (1 : Int) else 0).map .int := by
      rw [List.map_map]
      rfl
    rw [e] at q
    exact q
  have e : ((List.range n).map fun i => rowL ((List.range n).map fun j => if j = i then (1 : Int) else 0)) = (unitG n).map rowL := by
    unfold unitG
    rw [List.map_map]
    rfl
  rw [e] at c
  exact un2 c (plain_gridL (by simp [unitG]; omega))
theorem unit_grid {s : Sto} {n : Nat} (hn : n ≤ 60) : run_unit_grid [.d (.int n)] s = .ok (grid_D n (unitG n)) s :=
  un1 (by rw [between_int, decide_eq_true (by omega), decide_eq_true (by omega)]; rfl) (plain_unit hn)
theorem no1 {s : Sto} {v w h : PyData} (hb : isBetween 0 60 v = true) (hc : isBetween 0 60 w = true) (e : run_plain_nought [.d v, .d w] s = .ok h s) : run_nought_grid [.d v, .d w] s = .ok h s := by
  simp -implicitDefEqProofs [Math.ap_eVar, Math.ap_lVar, Math.ap_eC, Math.ap_eL, Math.ap_eUn, Math.ap_eBin, Math.ap_eAnd, Math.ap_eOr, Math.ap_eNot, Math.ap_mE, Math.ap_mNot, Math.ap_mAnd, Math.ap_mOr, Math.ap_eIf, Math.ap_aNil, Math.ap_aCons, Math.ap_dNil, Math.ap_dCons, Math.ap_eTup, Math.ap_cLst, Math.ap_eFr, Math.ap_eIx, Math.ap_eSl, Math.ap_cList, Math.ap_eCall, Math.ap_cCall, Math.ap_mSeq, Math.ap_mNil, Math.ap_mSet, Math.ap_mSetC, Math.ap_mRet, Math.ap_mRetN, Math.ap_mRetL, Math.ap_mDrop, Math.ap_mIf, Math.ap_mNever, Math.ap_mPar, Math.ap_mPar3, Math.ap_mPut, Math.ap_mApp, Math.ap_mTo, Math.ap_mYes, Math.ap_iSq, Math.ap_iZp, Math.ap_iEn, Math.ap_mRetC, Math.ap_eCh, Math.ap_noPart, Math.ap_aPart, Math.ap_eSlice, Math.ap_mkF, Math.ap_mkC, Mir.env0, Mir.fin, Mir.finC, Mir.thenDo, Mir.toFl, Mir.wipeE, Mir.itemsOf, Mir.orBad, Mir.gNm, Mir.gTp, Mir.gNms, Mir.Out.bind, Mir.gIx, Mir.seqOf, Mir.gLen, Mir.gTuple, Mir.gAbs, Mir.gInt, Mir.gCmp, Mir.gI, Mir.gAdd, Mir.gSub, Mir.gNeg, Mir.gBols, Mir.gInts, Mir.gChain, Mir.nxO, Mir.putAt, Mir.appAt, Mir.isC, L2.atI, L2.ixN, Math.eIsi_tuple, Math.eIsi_int, Math.eIsi_bool, Math.gEq_int, Math.gEq_bool, run_nought_grid, check_between_ok hb, check_between_ok hc, e]
theorem no2 {s : Sto} {a b : Int} (h0 : -1000000 ≤ a) (h1 : a ≤ 1000) (h2 : -1000000 ≤ b) (h3 : b ≤ 1000) : run_plain_nought [.d (.int a), .d (.int b)] s = .ok (.tuple [.int b, .tuple (List.replicate a.toNat [PyData.tuple (List.replicate b.toNat [PyData.int 0]).flatten]).flatten]) s := by
  simp -implicitDefEqProofs [Math.ap_eVar, Math.ap_lVar, Math.ap_eC, Math.ap_eL, Math.ap_eUn, Math.ap_eBin, Math.ap_eAnd, Math.ap_eOr, Math.ap_eNot, Math.ap_mE, Math.ap_mNot, Math.ap_mAnd, Math.ap_mOr, Math.ap_eIf, Math.ap_aNil, Math.ap_aCons, Math.ap_dNil, Math.ap_dCons, Math.ap_eTup, Math.ap_cLst, Math.ap_eFr, Math.ap_eIx, Math.ap_eSl, Math.ap_cList, Math.ap_eCall, Math.ap_cCall, Math.ap_mSeq, Math.ap_mNil, Math.ap_mSet, Math.ap_mSetC, Math.ap_mRet, Math.ap_mRetN, Math.ap_mRetL, Math.ap_mDrop, Math.ap_mIf, Math.ap_mNever, Math.ap_mPar, Math.ap_mPar3, Math.ap_mPut, Math.ap_mApp, Math.ap_mTo, Math.ap_mYes, Math.ap_iSq, Math.ap_iZp, Math.ap_iEn, Math.ap_mRetC, Math.ap_eCh, Math.ap_noPart, Math.ap_aPart, Math.ap_eSlice, Math.ap_mkF, Math.ap_mkC, Mir.env0, Mir.fin, Mir.finC, Mir.thenDo, Mir.toFl, Mir.wipeE, Mir.itemsOf, Mir.orBad, Mir.gNm, Mir.gTp, Mir.gNms, Mir.Out.bind, Mir.gIx, Mir.seqOf, Mir.gLen, Mir.gTuple, Mir.gAbs, Mir.gInt, Mir.gCmp, Mir.gI, Mir.gAdd, Mir.gSub, Mir.gNeg, Mir.gBols, Mir.gInts, Mir.gChain, Mir.nxO, Mir.putAt, Mir.appAt, Mir.isC, L2.atI, L2.ixN, Math.eIsi_tuple, Math.eIsi_int, Math.eIsi_bool, Math.gEq_int, Math.gEq_bool, run_plain_nought, Mir.gMulA, h0, h1, h2, h3]
theorem flat_one {α : Type} (n : Nat) (x : α) : (List.replicate n [x]).flatten = List.replicate n x := by
  induction n with
  | zero => rfl
  | succ n ih => rw [List.replicate_succ, List.replicate_succ, List.flatten_cons, ih]; rfl
theorem nought_grid {s : Sto} {h w : Nat} (hh : h ≤ 60) (hw : w ≤ 60) : run_nought_grid [.d (.int h), .d (.int w)] s = .ok (grid_D w (noughtG h w)) s := by
  refine no1 (by rw [between_int, decide_eq_true (by omega), decide_eq_true (by omega)]; rfl) (by rw [between_int, decide_eq_true (by omega), decide_eq_true (by omega)]; rfl) ?_
  rw [no2 (by omega) (by omega) (by omega) (by omega), flat_one, flat_one, Int.toNat_natCast, Int.toNat_natCast]
  unfold grid_D noughtG
  rw [List.map_replicate]
  have e : rowD (List.replicate w 0) = .tuple (List.replicate w (.int 0)) := by
    unfold rowD
    rw [List.map_replicate]
  rw [e]
end Math
/-! # steps -/
namespace Math
open PySem Mir Fn
theorem call1 {F : MF} {fa : ME} {ρ : Mir.Env} {s : Sto} {v r : PyData} (hf : fa ρ s = .ok v s) (hF : F [.d v] s = .ok r s) : eCall 1 F (aCons (eL fa) aNil) ρ s = .ok r s := by
  simp only [ap_eCall, ap_aCons, ap_aNil, ap_eL, hf, hF, Out.bind_ok, List.length_cons, List.length_nil, if_true]
theorem call2 {F : MF} {fa fb : ME} {ρ : Mir.Env} {s : Sto} {v w r : PyData} (hf : fa ρ s = .ok v s) (hg : fb ρ s = .ok w s) (hF : F [.d v, .d w] s = .ok r s) : eCall 2 F (aCons (eL fa) (aCons (eL fb) aNil)) ρ s = .ok r s := by
  simp only [ap_eCall, ap_aCons, ap_aNil, ap_eL, hf, hg, hF, Out.bind_ok, List.length_cons, List.length_nil, if_true]
theorem unlike {fa fb : ME} {ρ : Mir.Env} {s : Sto} {v : PyData} (hf : fa ρ s = .ok v s) (hg : fb ρ s = .ok v s) (q : gEq true v v s = .ok (.bool false) s) : mE (eBin (gEq true) fa fb) ρ s = .ok false s := by
  simp only [ap_mE, ap_eBin, hf, hg, q, Out.bind_ok]
theorem toFl_ok' {α : Type} {x : α} {s : Sto} {k : α → Sto → Fl} : toFl (.ok x s) k = k x s := rfl
theorem thenDo_nx {ρ : Mir.Env} {s : Sto} {g : MS} : thenDo (.nx ρ s) g = g ρ s := rfl
theorem if_no {m : MT} {g : MS} {ρ : Mir.Env} {s : Sto} (h : m ρ s = .ok false s) : mIf m g mNil ρ s = .nx ρ s := by
  rw [ap_mIf, h, toFl_ok']
  rfl
theorem or_no {m n : MT} {ρ : Mir.Env} {s : Sto} (h : m ρ s = .ok false s) (k : n ρ s = .ok false s) : mOr m n ρ s = .ok false s := by
  rw [ap_mOr, h, Out.bind_ok, if_neg (by decide), k]
theorem eq_two {neg : Bool} {fa fb : ME} {ρ : Mir.Env} {s : Sto} {x y : PyData} {b : PyData} (h : fa ρ s = .ok x s) (k : fb ρ s = .ok y s) (q : gEq neg x y s = .ok b s) : eBin (gEq neg) fa fb ρ s = .ok b s := by
  rw [ap_eBin, h, Out.bind_ok, k, Out.bind_ok, q]
theorem test_no {fa : ME} {ρ : Mir.Env} {s : Sto} (h : fa ρ s = .ok (.bool false) s) : mE fa ρ s = .ok false s := by
  rw [ap_mE, h, Out.bind_ok]
theorem seq_nx {g1 g2 : MS} {ρ ρ1 : Mir.Env} {s s1 : Sto} {r : Fl} (h : g1 ρ s = .nx ρ1 s1) (k : g2 ρ1 s1 = r) : mSeq g1 g2 ρ s = r := by
  rw [ap_mSeq, h, thenDo_nx, k]
end Math
/-! # the draws' beginning -/
namespace Math
open PySem Mir Fn
theorem mul_l {a b : Int} (h : a.natAbs < 2 ^ 64) : CMulB a b := .inl h
theorem mul_r {a b : Int} (h : b.natAbs < 2 ^ 64) : CMulB a b := .inr (.inl h)
def hatRest : MS := mSeq (mSet 3 (eBin gMod (eSl gInt (eL (eSl gAbs (lVar 2)))) (eBin gPow (eBin gPow (eC (.int 10)) (eC (.int 51))) (eC (.int 8)))))
    (mSeq (mSet 4 (eSl gInt (eL (eBin gAdd (eBin gAdd (eBin gAdd (eBin Mir.gMulA (eBin gMod (eVar 3) (eC (.int 2305843009213693907))) (eC (.int 83))) (eBin Mir.gMulA (eC (.int 5261)) (eVar 1))) (eBin Mir.gMulA (eC (.int 29)) (eSl gInt (eL (eBin gLt (eVar 2) (eC (.int 0))))))) (eC (.int 61))))))
    (mRetC (cLst (dCons (eTwo (fun i j => if j > i then j else i) (eC (.int 0)) (eBin gSub (eVar 3) (eBin gPow (eC (.int 10)) (eC (.int 16))))) (dCons (eBin gMod (eVar 4) (eC (.int 2305843009213693951))) (dCons (eC (.int 0)) dNil))))))
theorem hat_rest {s : Sto} {a : Sl} {i c : Int} : ∃ x y : Int, hatRest [some a, some (.d (.int i)), some (.d (.int c)), none, none] s = .rt (.c s.length) (s ++ [[.int x, .int y, .int 0]]) := by
  have h1 : CPowB 10 51 := by decide +kernel
  have h2 : CPowB 1000000000000000000000000000000000000000000000000000 8 := by decide +kernel
  have h3 : CPowB 10 16 := by decide +kernel
  have m1 : ∀ x, CMulB x 83 := fun x => mul_r (by decide)
  have m2 : ∀ x, CMulB 5261 x := fun x => mul_l (by decide)
  have m3 : ∀ x, CMulB 29 x := fun x => mul_l (by decide)
  have q : ∃ d e : Int, hatRest [some a, some (.d (.int i)), some (.d (.int c)), none, none] s = .rt (.c s.length) (s ++ [[.int d, .int e, .int 0]]) := by
    simp -implicitDefEqProofs [Math.ap_eVar, Math.ap_lVar, Math.ap_eC, Math.ap_eL, Math.ap_eUn, Math.ap_eBin, Math.ap_eAnd, Math.ap_eOr, Math.ap_eNot, Math.ap_mE, Math.ap_mNot, Math.ap_mAnd, Math.ap_mOr, Math.ap_eIf, Math.ap_aNil, Math.ap_aCons, Math.ap_dNil, Math.ap_dCons, Math.ap_eTup, Math.ap_cLst, Math.ap_eFr, Math.ap_eIx, Math.ap_eSl, Math.ap_cList, Math.ap_eCall, Math.ap_cCall, Math.ap_mSeq, Math.ap_mNil, Math.ap_mSet, Math.ap_mSetC, Math.ap_mRet, Math.ap_mRetN, Math.ap_mRetL, Math.ap_mDrop, Math.ap_mIf, Math.ap_mNever, Math.ap_mPar, Math.ap_mPar3, Math.ap_mPut, Math.ap_mApp, Math.ap_mTo, Math.ap_mYes, Math.ap_iSq, Math.ap_iZp, Math.ap_iEn, Math.ap_mRetC, Math.ap_eCh, Math.ap_noPart, Math.ap_aPart, Math.ap_eSlice, Math.ap_mkF, Math.ap_mkC, Mir.env0, Mir.fin, Mir.finC, Mir.thenDo, Mir.toFl, Mir.wipeE, Mir.itemsOf, Mir.orBad, Mir.gNm, Mir.gTp, Mir.gNms, Mir.Out.bind, Mir.gIx, Mir.seqOf, Mir.gLen, Mir.gTuple, Mir.gAbs, Mir.gInt, Mir.gCmp, Mir.gI, Mir.gAdd, Mir.gSub, Mir.gNeg, Mir.gBols, Mir.gInts, Mir.gChain, Mir.nxO, Mir.putAt, Mir.appAt, Mir.isC, L2.atI, L2.ixN, Math.eIsi_tuple, Math.eIsi_int, Math.eIsi_bool, Math.gEq_int, Math.gEq_bool, hatRest, Mir.eTwo, Mir.gTwo, Mir.gMulA, h1, h2, h3, m1, m2, m3]
  exact q
theorem ix_s {s : Sto} {ns : List Int} {i : Nat} (h : i < ns.length) : gIx (.s ns) (.int i) s = .ok (.int ns[i]) s := by
  have h2 : L2.atI (ns.map PyData.int) (i : Int) = some (.int ns[i]) := by
    unfold L2.atI L2.ixN
    rw [List.length_map, if_pos (by omega), if_pos (by omega)]
    show (ns.map PyData.int)[((i : Int)).toNat]? = _
    rw [Int.toNat_natCast, List.getElem?_map, List.getElem?_eq_getElem h]
    rfl
  unfold gIx
  have h3 : seqOf (.s ns) s = some (false, ns.map PyData.int) := rfl
  rw [h3]
  simp only [h2]
theorem hat_first {s : Sto} {ns : List Int} {i l : Int} {c : PyData} (hl : gLen (.s ns) s = .ok (.int l) s) (h : i < l) (hc : gIx (.s ns) (.int i) s = .ok c s) (hi : gInt (.d c) s = .ok c s) :
    mSet 2 (eIf (mE (eBin gLt (eVar 1) (eSl gLen (lVar 0)))) (eSl gInt (eL (eIx (lVar 0) (eVar 1)))) (eBin gAdd (eBin Mir.gMulA (eC (.int 311)) (eVar 1)) (eC (.int 47)))) [some (.s ns), some (.d (.int i)), none, none, none] s = .nx [some (.s ns), some (.d (.int i)), some (.d c), none, none] s := by
  simp only [ap_mSet, ap_eIf, ap_mE, ap_eBin, ap_eVar, ap_eSl, ap_lVar, ap_eL, ap_eIx, List.getElem?_cons_succ, List.getElem?_cons_zero, Out.bind_ok, hl, hc, hi]
  simp [gCmp, h, toFl, hc, hi]
theorem hat_c {s : Sto} {a : Sl} {i : Int} {c : Int} (e : mSet 2 (eIf (mE (eBin gLt (eVar 1) (eSl gLen (lVar 0)))) (eSl gInt (eL (eIx (lVar 0) (eVar 1)))) (eBin gAdd (eBin Mir.gMulA (eC (.int 311)) (eVar 1)) (eC (.int 47)))) [some a, some (.d (.int i)), none, none, none] s = .nx [some a, some (.d (.int i)), some (.d (.int c)), none, none] s) :
    ∃ x y : Int, runC_law_hat [a, .d (.int i)] s = .ok [.int x, .int y, .int 0] s := by
  obtain ⟨x, y, q⟩ := hat_rest (s := s) (a := a) (i := i) (c := c)
  refine ⟨x, y, ?_⟩
  have e1 : runC_law_hat = mkC 5 (mSeq (mSet 2 (eIf (mE (eBin gLt (eVar 1) (eSl gLen (lVar 0)))) (eSl gInt (eL (eIx (lVar 0) (eVar 1)))) (eBin gAdd (eBin Mir.gMulA (eC (.int 311)) (eVar 1)) (eC (.int 47))))) hatRest) := rfl
  rw [e1, ap_mkC, ap_mSeq]
  have e2 : env0 5 [a, .d (.int i)] = [some a, some (.d (.int i)), none, none, none] := rfl
  rw [e2, e]
  show finC s.length (hatRest _ s) = _
  rw [q]
  show own1 s.length s.length (s ++ [[PyData.int x, .int y, .int 0]]) _ = _
  unfold own1
  rw [if_pos (Nat.le_refl _)]
  simp
theorem hat_far {s : Sto} {ns : List Int} {i l : Int} (hl : gLen (.s ns) s = .ok (.int l) s) (h : ¬ i < l) :
    mSet 2 (eIf (mE (eBin gLt (eVar 1) (eSl gLen (lVar 0)))) (eSl gInt (eL (eIx (lVar 0) (eVar 1)))) (eBin gAdd (eBin Mir.gMulA (eC (.int 311)) (eVar 1)) (eC (.int 47)))) [some (.s ns), some (.d (.int i)), none, none, none] s = .nx [some (.s ns), some (.d (.int i)), some (.d (.int (311 * i + 47))), none, none] s := by
  have m4 : ∀ x, CMulB 311 x := fun x => mul_l (by decide)
  simp only [ap_mSet, ap_eIf, ap_mE, ap_eBin, ap_eVar, ap_eSl, ap_lVar, ap_eL, ap_eIx, ap_eC, List.getElem?_cons_succ, List.getElem?_cons_zero, Out.bind_ok, hl]
  simp [gCmp, h, toFl, gI, gAdd, Mir.gMulA, m4]
theorem hat_ok {s : Sto} {ns : List Int} (i : Nat) : ∃ x y : Int, runC_law_hat [.s ns, .d (.int i)] s = .ok [.int x, .int y, .int 0] s := by
  have hl : gLen (.s ns) s = .ok (.int ns.length) s := by
    have h3 : seqOf (.s ns) s = some (false, ns.map PyData.int) := rfl
    unfold gLen
    rw [h3]
    simp
  by_cases h : i < ns.length
  · exact hat_c (hat_first hl (by omega) (ix_s h) rfl)
  · exact hat_c (hat_far hl (by omega))
end Math
/-! # checks that fail -/
namespace Math
open PySem Mir Fn
theorem ap_mRaise0 (c : String) (fe : ME) (ρ : Mir.Env) (s : Sto) : Mir.mRaise0 c fe ρ s = toFl (fe ρ s) fun _ s => .exc ⟨c, none⟩ s := rfl
theorem ap_mRaiseF (c : String) (fe : ME) (ρ : Mir.Env) (s : Sto) : Mir.mRaiseF c fe ρ s = toFl (fe ρ s) fun y s => .exc ⟨c, some y⟩ s := rfl
theorem ap_eCallN (n : Nat) (F : MF) (fa : MA) (ρ : Mir.Env) (s : Sto) : Mir.eCallN n F fa ρ s = (fa ρ s).bind fun as s => if as.length = n then (match F as s with
  | .ok y s' => .ok y s'
  | _ => .bad) else .bad := rfl
theorem ap_eCallV (j n : Nat) (tbl : List MF) (fa : MA) (ρ : Mir.Env) (s : Sto) : Mir.eCallV j n tbl fa ρ s = match ρ[j]? with
  | some (some (.f i)) => (match tbl[i]? with
    | some F => (fa ρ s).bind fun as s => if as.length = n then F as s else .bad
    | none => .bad)
  | _ => .bad := rfl
theorem ap_mForF (j : Nat) (ds : List Nat) (body : MS) (ρ : Mir.Env) (s : Sto) : Mir.mForF j ds body ρ s = forF j body ds ρ s := rfl
theorem ap_mParCD (i j : Nat) (f : MD) (fb : ME) (ρ : Mir.Env) (s : Sto) : Mir.mParCD i j f fb ρ s = toFl (f ρ s) fun ds s1 => toFl (fb ρ s1) fun y s2 => .nx ((ρ.set i (some (.c s2.length))).set j (some (.d y))) (s2 ++ [ds]) := rfl
theorem ap_eEqL (neg : Bool) (fl : ML) (fb : ME) (ρ : Mir.Env) (s : Sto) : Mir.eEqL neg fl fb ρ s = (fl ρ s).bind fun b s => match b with
  | .c n => (fb ρ s).bind fun y s => (match s[n]? with
    | some ds => if SeqAt.shaped (.list ds) = true ∧ SeqAt.shaped y = true then .ok (.bool (neg != PyData.eqv (.list ds) y)) s else .bad
    | none => .bad)
  | _ => .bad := rfl
theorem ap_eRepr (fa : ME) (ρ : Mir.Env) (s : Sto) : Mir.eRepr fa ρ s = (fa ρ s).bind fun x s => match gRepr x with
  | some y => .ok y s
  | none => .bad := rfl
theorem ap_eMetP (sub : String → String → Bool) (hs : List HdP) (lets : List Str) (fb : ME) (ρ : Mir.Env) (s : Sto) : eMetP sub hs lets fb ρ s = match fb ρ s with
  | .ok _ s' => .ok (.tuple (lets.map .str)) s'
  | .exc x s' => match metP sub hs x with
    | some y => .ok y s'
    | none => .bad
  | .bad => .bad := rfl
abbrev xG : Exn := ⟨"InvalidGrid", none⟩
abbrev xR : Exn := ⟨"InvalidRow", none⟩
abbrev xO : Exn := ⟨"InvalidOperation", none⟩
abbrev xN (v : PyData) : Exn := ⟨"InvalidNumber", some v⟩
abbrev xM (v : PyData) : Exn := ⟨"TooMany", some v⟩
theorem check_grid_no (v : PyData) (s : Sto) (h : isGrid v = false) : run_check_grid [.d v] s = .exc xG s := by
  simp -implicitDefEqProofs [Math.ap_eVar, Math.ap_lVar, Math.ap_eC, Math.ap_eL, Math.ap_eUn, Math.ap_eBin, Math.ap_eAnd, Math.ap_eOr, Math.ap_eNot, Math.ap_mE, Math.ap_mNot, Math.ap_mAnd, Math.ap_mOr, Math.ap_eIf, Math.ap_aNil, Math.ap_aCons, Math.ap_dNil, Math.ap_dCons, Math.ap_eTup, Math.ap_cLst, Math.ap_eFr, Math.ap_eIx, Math.ap_eSl, Math.ap_cList, Math.ap_eCall, Math.ap_cCall, Math.ap_mSeq, Math.ap_mNil, Math.ap_mSet, Math.ap_mSetC, Math.ap_mRet, Math.ap_mRetN, Math.ap_mRetL, Math.ap_mDrop, Math.ap_mIf, Math.ap_mNever, Math.ap_mPar, Math.ap_mPar3, Math.ap_mPut, Math.ap_mApp, Math.ap_mTo, Math.ap_mYes, Math.ap_iSq, Math.ap_iZp, Math.ap_iEn, Math.ap_mRetC, Math.ap_eCh, Math.ap_noPart, Math.ap_aPart, Math.ap_eSlice, Math.ap_mkF, Math.ap_mkC, Mir.env0, Mir.fin, Mir.finC, Mir.thenDo, Mir.toFl, Mir.wipeE, Mir.itemsOf, Mir.orBad, Mir.gNm, Mir.gTp, Mir.gNms, Mir.Out.bind, Mir.gIx, Mir.seqOf, Mir.gLen, Mir.gTuple, Mir.gAbs, Mir.gInt, Mir.gCmp, Mir.gI, Mir.gAdd, Mir.gSub, Mir.gNeg, Mir.gBols, Mir.gInts, Mir.gChain, Mir.nxO, Mir.putAt, Mir.appAt, Mir.isC, L2.atI, L2.ixN, Math.eIsi_tuple, Math.eIsi_int, Math.eIsi_bool, Math.gEq_int, Math.gEq_bool, run_check_grid, grid, h, ap_mRaise0]
theorem check_row_ok (v : PyData) (s : Sto) (h : isRow v = true) : run_check_row [.d v] s = .ok .none s := by
  simp -implicitDefEqProofs [Math.ap_eVar, Math.ap_lVar, Math.ap_eC, Math.ap_eL, Math.ap_eUn, Math.ap_eBin, Math.ap_eAnd, Math.ap_eOr, Math.ap_eNot, Math.ap_mE, Math.ap_mNot, Math.ap_mAnd, Math.ap_mOr, Math.ap_eIf, Math.ap_aNil, Math.ap_aCons, Math.ap_dNil, Math.ap_dCons, Math.ap_eTup, Math.ap_cLst, Math.ap_eFr, Math.ap_eIx, Math.ap_eSl, Math.ap_cList, Math.ap_eCall, Math.ap_cCall, Math.ap_mSeq, Math.ap_mNil, Math.ap_mSet, Math.ap_mSetC, Math.ap_mRet, Math.ap_mRetN, Math.ap_mRetL, Math.ap_mDrop, Math.ap_mIf, Math.ap_mNever, Math.ap_mPar, Math.ap_mPar3, Math.ap_mPut, Math.ap_mApp, Math.ap_mTo, Math.ap_mYes, Math.ap_iSq, Math.ap_iZp, Math.ap_iEn, Math.ap_mRetC, Math.ap_eCh, Math.ap_noPart, Math.ap_aPart, Math.ap_eSlice, Math.ap_mkF, Math.ap_mkC, Mir.env0, Mir.fin, Mir.finC, Mir.thenDo, Mir.toFl, Mir.wipeE, Mir.itemsOf, Mir.orBad, Mir.gNm, Mir.gTp, Mir.gNms, Mir.Out.bind, Mir.gIx, Mir.seqOf, Mir.gLen, Mir.gTuple, Mir.gAbs, Mir.gInt, Mir.gCmp, Mir.gI, Mir.gAdd, Mir.gSub, Mir.gNeg, Mir.gBols, Mir.gInts, Mir.gChain, Mir.nxO, Mir.putAt, Mir.appAt, Mir.isC, L2.atI, L2.ixN, Math.eIsi_tuple, Math.eIsi_int, Math.eIsi_bool, Math.gEq_int, Math.gEq_bool, run_check_row, row, h]
theorem check_row_no (v : PyData) (s : Sto) (h : isRow v = false) : run_check_row [.d v] s = .exc xR s := by
  simp -implicitDefEqProofs [Math.ap_eVar, Math.ap_lVar, Math.ap_eC, Math.ap_eL, Math.ap_eUn, Math.ap_eBin, Math.ap_eAnd, Math.ap_eOr, Math.ap_eNot, Math.ap_mE, Math.ap_mNot, Math.ap_mAnd, Math.ap_mOr, Math.ap_eIf, Math.ap_aNil, Math.ap_aCons, Math.ap_dNil, Math.ap_dCons, Math.ap_eTup, Math.ap_cLst, Math.ap_eFr, Math.ap_eIx, Math.ap_eSl, Math.ap_cList, Math.ap_eCall, Math.ap_cCall, Math.ap_mSeq, Math.ap_mNil, Math.ap_mSet, Math.ap_mSetC, Math.ap_mRet, Math.ap_mRetN, Math.ap_mRetL, Math.ap_mDrop, Math.ap_mIf, Math.ap_mNever, Math.ap_mPar, Math.ap_mPar3, Math.ap_mPut, Math.ap_mApp, Math.ap_mTo, Math.ap_mYes, Math.ap_iSq, Math.ap_iZp, Math.ap_iEn, Math.ap_mRetC, Math.ap_eCh, Math.ap_noPart, Math.ap_aPart, Math.ap_eSlice, Math.ap_mkF, Math.ap_mkC, Mir.env0, Mir.fin, Mir.finC, Mir.thenDo, Mir.toFl, Mir.wipeE, Mir.itemsOf, Mir.orBad, Mir.gNm, Mir.gTp, Mir.gNms, Mir.Out.bind, Mir.gIx, Mir.seqOf, Mir.gLen, Mir.gTuple, Mir.gAbs, Mir.gInt, Mir.gCmp, Mir.gI, Mir.gAdd, Mir.gSub, Mir.gNeg, Mir.gBols, Mir.gInts, Mir.gChain, Mir.nxO, Mir.putAt, Mir.appAt, Mir.isC, L2.atI, L2.ixN, Math.eIsi_tuple, Math.eIsi_int, Math.eIsi_bool, Math.gEq_int, Math.gEq_bool, run_check_row, row, h, ap_mRaise0]
theorem check_integer_ok (v : PyData) (s : Sto) (h : isShort v = true) : run_check_integer [.d v] s = .ok .none s := by
  simp -implicitDefEqProofs [Math.ap_eVar, Math.ap_lVar, Math.ap_eC, Math.ap_eL, Math.ap_eUn, Math.ap_eBin, Math.ap_eAnd, Math.ap_eOr, Math.ap_eNot, Math.ap_mE, Math.ap_mNot, Math.ap_mAnd, Math.ap_mOr, Math.ap_eIf, Math.ap_aNil, Math.ap_aCons, Math.ap_dNil, Math.ap_dCons, Math.ap_eTup, Math.ap_cLst, Math.ap_eFr, Math.ap_eIx, Math.ap_eSl, Math.ap_cList, Math.ap_eCall, Math.ap_cCall, Math.ap_mSeq, Math.ap_mNil, Math.ap_mSet, Math.ap_mSetC, Math.ap_mRet, Math.ap_mRetN, Math.ap_mRetL, Math.ap_mDrop, Math.ap_mIf, Math.ap_mNever, Math.ap_mPar, Math.ap_mPar3, Math.ap_mPut, Math.ap_mApp, Math.ap_mTo, Math.ap_mYes, Math.ap_iSq, Math.ap_iZp, Math.ap_iEn, Math.ap_mRetC, Math.ap_eCh, Math.ap_noPart, Math.ap_aPart, Math.ap_eSlice, Math.ap_mkF, Math.ap_mkC, Mir.env0, Mir.fin, Mir.finC, Mir.thenDo, Mir.toFl, Mir.wipeE, Mir.itemsOf, Mir.orBad, Mir.gNm, Mir.gTp, Mir.gNms, Mir.Out.bind, Mir.gIx, Mir.seqOf, Mir.gLen, Mir.gTuple, Mir.gAbs, Mir.gInt, Mir.gCmp, Mir.gI, Mir.gAdd, Mir.gSub, Mir.gNeg, Mir.gBols, Mir.gInts, Mir.gChain, Mir.nxO, Mir.putAt, Mir.appAt, Mir.isC, L2.atI, L2.ixN, Math.eIsi_tuple, Math.eIsi_int, Math.eIsi_bool, Math.gEq_int, Math.gEq_bool, run_check_integer, integer, h]
theorem check_integer_no (v : PyData) (s : Sto) (h : isShort v = false) : run_check_integer [.d v] s = .exc (xN v) s := by
  simp -implicitDefEqProofs [Math.ap_eVar, Math.ap_lVar, Math.ap_eC, Math.ap_eL, Math.ap_eUn, Math.ap_eBin, Math.ap_eAnd, Math.ap_eOr, Math.ap_eNot, Math.ap_mE, Math.ap_mNot, Math.ap_mAnd, Math.ap_mOr, Math.ap_eIf, Math.ap_aNil, Math.ap_aCons, Math.ap_dNil, Math.ap_dCons, Math.ap_eTup, Math.ap_cLst, Math.ap_eFr, Math.ap_eIx, Math.ap_eSl, Math.ap_cList, Math.ap_eCall, Math.ap_cCall, Math.ap_mSeq, Math.ap_mNil, Math.ap_mSet, Math.ap_mSetC, Math.ap_mRet, Math.ap_mRetN, Math.ap_mRetL, Math.ap_mDrop, Math.ap_mIf, Math.ap_mNever, Math.ap_mPar, Math.ap_mPar3, Math.ap_mPut, Math.ap_mApp, Math.ap_mTo, Math.ap_mYes, Math.ap_iSq, Math.ap_iZp, Math.ap_iEn, Math.ap_mRetC, Math.ap_eCh, Math.ap_noPart, Math.ap_aPart, Math.ap_eSlice, Math.ap_mkF, Math.ap_mkC, Mir.env0, Mir.fin, Mir.finC, Mir.thenDo, Mir.toFl, Mir.wipeE, Mir.itemsOf, Mir.orBad, Mir.gNm, Mir.gTp, Mir.gNms, Mir.Out.bind, Mir.gIx, Mir.seqOf, Mir.gLen, Mir.gTuple, Mir.gAbs, Mir.gInt, Mir.gCmp, Mir.gI, Mir.gAdd, Mir.gSub, Mir.gNeg, Mir.gBols, Mir.gInts, Mir.gChain, Mir.nxO, Mir.putAt, Mir.appAt, Mir.isC, L2.atI, L2.ixN, Math.eIsi_tuple, Math.eIsi_int, Math.eIsi_bool, Math.gEq_int, Math.gEq_bool, run_check_integer, integer, h, ap_mRaiseF]
theorem check_between_no {s : Sto} {v : PyData} {a b : Int} (h : isBetween a b v = false) : run_check_between [.d v, .d (.int a), .d (.int b)] s = .exc (xN v) s := by
  simp -implicitDefEqProofs [Math.ap_eVar, Math.ap_lVar, Math.ap_eC, Math.ap_eL, Math.ap_eUn, Math.ap_eBin, Math.ap_eAnd, Math.ap_eOr, Math.ap_eNot, Math.ap_mE, Math.ap_mNot, Math.ap_mAnd, Math.ap_mOr, Math.ap_eIf, Math.ap_aNil, Math.ap_aCons, Math.ap_dNil, Math.ap_dCons, Math.ap_eTup, Math.ap_cLst, Math.ap_eFr, Math.ap_eIx, Math.ap_eSl, Math.ap_cList, Math.ap_eCall, Math.ap_cCall, Math.ap_mSeq, Math.ap_mNil, Math.ap_mSet, Math.ap_mSetC, Math.ap_mRet, Math.ap_mRetN, Math.ap_mRetL, Math.ap_mDrop, Math.ap_mIf, Math.ap_mNever, Math.ap_mPar, Math.ap_mPar3, Math.ap_mPut, Math.ap_mApp, Math.ap_mTo, Math.ap_mYes, Math.ap_iSq, Math.ap_iZp, Math.ap_iEn, Math.ap_mRetC, Math.ap_eCh, Math.ap_noPart, Math.ap_aPart, Math.ap_eSlice, Math.ap_mkF, Math.ap_mkC, Mir.env0, Mir.fin, Mir.finC, Mir.thenDo, Mir.toFl, Mir.wipeE, Mir.itemsOf, Mir.orBad, Mir.gNm, Mir.gTp, Mir.gNms, Mir.Out.bind, Mir.gIx, Mir.seqOf, Mir.gLen, Mir.gTuple, Mir.gAbs, Mir.gInt, Mir.gCmp, Mir.gI, Mir.gAdd, Mir.gSub, Mir.gNeg, Mir.gBols, Mir.gInts, Mir.gChain, Mir.nxO, Mir.putAt, Mir.appAt, Mir.isC, L2.atI, L2.ixN, Math.eIsi_tuple, Math.eIsi_int, Math.eIsi_bool, Math.gEq_int, Math.gEq_bool, run_check_between, between, h, ap_mRaiseF]
theorem check_fit_no {s : Sto} {m : PyData} : run_check_fit [.d (.bool false), .d m] s = .exc xO s := by
  simp -implicitDefEqProofs [Math.ap_eVar, Math.ap_lVar, Math.ap_eC, Math.ap_eL, Math.ap_eUn, Math.ap_eBin, Math.ap_eAnd, Math.ap_eOr, Math.ap_eNot, Math.ap_mE, Math.ap_mNot, Math.ap_mAnd, Math.ap_mOr, Math.ap_eIf, Math.ap_aNil, Math.ap_aCons, Math.ap_dNil, Math.ap_dCons, Math.ap_eTup, Math.ap_cLst, Math.ap_eFr, Math.ap_eIx, Math.ap_eSl, Math.ap_cList, Math.ap_eCall, Math.ap_cCall, Math.ap_mSeq, Math.ap_mNil, Math.ap_mSet, Math.ap_mSetC, Math.ap_mRet, Math.ap_mRetN, Math.ap_mRetL, Math.ap_mDrop, Math.ap_mIf, Math.ap_mNever, Math.ap_mPar, Math.ap_mPar3, Math.ap_mPut, Math.ap_mApp, Math.ap_mTo, Math.ap_mYes, Math.ap_iSq, Math.ap_iZp, Math.ap_iEn, Math.ap_mRetC, Math.ap_eCh, Math.ap_noPart, Math.ap_aPart, Math.ap_eSlice, Math.ap_mkF, Math.ap_mkC, Mir.env0, Mir.fin, Mir.finC, Mir.thenDo, Mir.toFl, Mir.wipeE, Mir.itemsOf, Mir.orBad, Mir.gNm, Mir.gTp, Mir.gNms, Mir.Out.bind, Mir.gIx, Mir.seqOf, Mir.gLen, Mir.gTuple, Mir.gAbs, Mir.gInt, Mir.gCmp, Mir.gI, Mir.gAdd, Mir.gSub, Mir.gNeg, Mir.gBols, Mir.gInts, Mir.gChain, Mir.nxO, Mir.putAt, Mir.appAt, Mir.isC, L2.atI, L2.ixN, Math.eIsi_tuple, Math.eIsi_int, Math.eIsi_bool, Math.gEq_int, Math.gEq_bool, run_check_fit, ap_mRaise0]
theorem check_most_no {s : Sto} {a : Int} (h : 60 < a) : run_check_most [.d (.int a)] s = .exc (xM (.int 60)) s := by
  simp -implicitDefEqProofs [Math.ap_eVar, Math.ap_lVar, Math.ap_eC, Math.ap_eL, Math.ap_eUn, Math.ap_eBin, Math.ap_eAnd, Math.ap_eOr, Math.ap_eNot, Math.ap_mE, Math.ap_mNot, Math.ap_mAnd, Math.ap_mOr, Math.ap_eIf, Math.ap_aNil, Math.ap_aCons, Math.ap_dNil, Math.ap_dCons, Math.ap_eTup, Math.ap_cLst, Math.ap_eFr, Math.ap_eIx, Math.ap_eSl, Math.ap_cList, Math.ap_eCall, Math.ap_cCall, Math.ap_mSeq, Math.ap_mNil, Math.ap_mSet, Math.ap_mSetC, Math.ap_mRet, Math.ap_mRetN, Math.ap_mRetL, Math.ap_mDrop, Math.ap_mIf, Math.ap_mNever, Math.ap_mPar, Math.ap_mPar3, Math.ap_mPut, Math.ap_mApp, Math.ap_mTo, Math.ap_mYes, Math.ap_iSq, Math.ap_iZp, Math.ap_iEn, Math.ap_mRetC, Math.ap_eCh, Math.ap_noPart, Math.ap_aPart, Math.ap_eSlice, Math.ap_mkF, Math.ap_mkC, Mir.env0, Mir.fin, Mir.finC, Mir.thenDo, Mir.toFl, Mir.wipeE, Mir.itemsOf, Mir.orBad, Mir.gNm, Mir.gTp, Mir.gNms, Mir.Out.bind, Mir.gIx, Mir.seqOf, Mir.gLen, Mir.gTuple, Mir.gAbs, Mir.gInt, Mir.gCmp, Mir.gI, Mir.gAdd, Mir.gSub, Mir.gNeg, Mir.gBols, Mir.gInts, Mir.gChain, Mir.nxO, Mir.putAt, Mir.appAt, Mir.isC, L2.atI, L2.ixN, Math.eIsi_tuple, Math.eIsi_int, Math.eIsi_bool, Math.gEq_int, Math.gEq_bool, run_check_most, ap_mRaiseF, h]
theorem check_grids_no1 (v w : PyData) (s : Sto) (h : isGrid v = false) : run_check_grids [.d v, .d w] s = .exc xG s := by
  simp -implicitDefEqProofs [Math.ap_eVar, Math.ap_lVar, Math.ap_eC, Math.ap_eL, Math.ap_eUn, Math.ap_eBin, Math.ap_eAnd, Math.ap_eOr, Math.ap_eNot, Math.ap_mE, Math.ap_mNot, Math.ap_mAnd, Math.ap_mOr, Math.ap_eIf, Math.ap_aNil, Math.ap_aCons, Math.ap_dNil, Math.ap_dCons, Math.ap_eTup, Math.ap_cLst, Math.ap_eFr, Math.ap_eIx, Math.ap_eSl, Math.ap_cList, Math.ap_eCall, Math.ap_cCall, Math.ap_mSeq, Math.ap_mNil, Math.ap_mSet, Math.ap_mSetC, Math.ap_mRet, Math.ap_mRetN, Math.ap_mRetL, Math.ap_mDrop, Math.ap_mIf, Math.ap_mNever, Math.ap_mPar, Math.ap_mPar3, Math.ap_mPut, Math.ap_mApp, Math.ap_mTo, Math.ap_mYes, Math.ap_iSq, Math.ap_iZp, Math.ap_iEn, Math.ap_mRetC, Math.ap_eCh, Math.ap_noPart, Math.ap_aPart, Math.ap_eSlice, Math.ap_mkF, Math.ap_mkC, Mir.env0, Mir.fin, Mir.finC, Mir.thenDo, Mir.toFl, Mir.wipeE, Mir.itemsOf, Mir.orBad, Mir.gNm, Mir.gTp, Mir.gNms, Mir.Out.bind, Mir.gIx, Mir.seqOf, Mir.gLen, Mir.gTuple, Mir.gAbs, Mir.gInt, Mir.gCmp, Mir.gI, Mir.gAdd, Mir.gSub, Mir.gNeg, Mir.gBols, Mir.gInts, Mir.gChain, Mir.nxO, Mir.putAt, Mir.appAt, Mir.isC, L2.atI, L2.ixN, Math.eIsi_tuple, Math.eIsi_int, Math.eIsi_bool, Math.gEq_int, Math.gEq_bool, run_check_grids, check_grid_no, h]
theorem check_grids_no2 (v w : PyData) (s : Sto) (h : isGrid v = true) (h2 : isGrid w = false) : run_check_grids [.d v, .d w] s = .exc xG s := by
  simp -implicitDefEqProofs [Math.ap_eVar, Math.ap_lVar, Math.ap_eC, Math.ap_eL, Math.ap_eUn, Math.ap_eBin, Math.ap_eAnd, Math.ap_eOr, Math.ap_eNot, Math.ap_mE, Math.ap_mNot, Math.ap_mAnd, Math.ap_mOr, Math.ap_eIf, Math.ap_aNil, Math.ap_aCons, Math.ap_dNil, Math.ap_dCons, Math.ap_eTup, Math.ap_cLst, Math.ap_eFr, Math.ap_eIx, Math.ap_eSl, Math.ap_cList, Math.ap_eCall, Math.ap_cCall, Math.ap_mSeq, Math.ap_mNil, Math.ap_mSet, Math.ap_mSetC, Math.ap_mRet, Math.ap_mRetN, Math.ap_mRetL, Math.ap_mDrop, Math.ap_mIf, Math.ap_mNever, Math.ap_mPar, Math.ap_mPar3, Math.ap_mPut, Math.ap_mApp, Math.ap_mTo, Math.ap_mYes, Math.ap_iSq, Math.ap_iZp, Math.ap_iEn, Math.ap_mRetC, Math.ap_eCh, Math.ap_noPart, Math.ap_aPart, Math.ap_eSlice, Math.ap_mkF, Math.ap_mkC, Mir.env0, Mir.fin, Mir.finC, Mir.thenDo, Mir.toFl, Mir.wipeE, Mir.itemsOf, Mir.orBad, Mir.gNm, Mir.gTp, Mir.gNms, Mir.Out.bind, Mir.gIx, Mir.seqOf, Mir.gLen, Mir.gTuple, Mir.gAbs, Mir.gInt, Mir.gCmp, Mir.gI, Mir.gAdd, Mir.gSub, Mir.gNeg, Mir.gBols, Mir.gInts, Mir.gChain, Mir.nxO, Mir.putAt, Mir.appAt, Mir.isC, L2.atI, L2.ixN, Math.eIsi_tuple, Math.eIsi_int, Math.eIsi_bool, Math.gEq_int, Math.gEq_bool, run_check_grids, check_grid, check_grid_no, h, h2]
theorem check_rows_no1 (v w : PyData) (s : Sto) (h : isRow v = false) : run_check_rows [.d v, .d w] s = .exc xR s := by
  simp -implicitDefEqProofs [Math.ap_eVar, Math.ap_lVar, Math.ap_eC, Math.ap_eL, Math.ap_eUn, Math.ap_eBin, Math.ap_eAnd, Math.ap_eOr, Math.ap_eNot, Math.ap_mE, Math.ap_mNot, Math.ap_mAnd, Math.ap_mOr, Math.ap_eIf, Math.ap_aNil, Math.ap_aCons, Math.ap_dNil, Math.ap_dCons, Math.ap_eTup, Math.ap_cLst, Math.ap_eFr, Math.ap_eIx, Math.ap_eSl, Math.ap_cList, Math.ap_eCall, Math.ap_cCall, Math.ap_mSeq, Math.ap_mNil, Math.ap_mSet, Math.ap_mSetC, Math.ap_mRet, Math.ap_mRetN, Math.ap_mRetL, Math.ap_mDrop, Math.ap_mIf, Math.ap_mNever, Math.ap_mPar, Math.ap_mPar3, Math.ap_mPut, Math.ap_mApp, Math.ap_mTo, Math.ap_mYes, Math.ap_iSq, Math.ap_iZp, Math.ap_iEn, Math.ap_mRetC, Math.ap_eCh, Math.ap_noPart, Math.ap_aPart, Math.ap_eSlice, Math.ap_mkF, Math.ap_mkC, Mir.env0, Mir.fin, Mir.finC, Mir.thenDo, Mir.toFl, Mir.wipeE, Mir.itemsOf, Mir.orBad, Mir.gNm, Mir.gTp, Mir.gNms, Mir.Out.bind, Mir.gIx, Mir.seqOf, Mir.gLen, Mir.gTuple, Mir.gAbs, Mir.gInt, Mir.gCmp, Mir.gI, Mir.gAdd, Mir.gSub, Mir.gNeg, Mir.gBols, Mir.gInts, Mir.gChain, Mir.nxO, Mir.putAt, Mir.appAt, Mir.isC, L2.atI, L2.ixN, Math.eIsi_tuple, Math.eIsi_int, Math.eIsi_bool, Math.gEq_int, Math.gEq_bool, run_check_rows, check_row_no, h]
theorem check_rows_no2 (v w : PyData) (s : Sto) (h : isRow v = true) (h2 : isRow w = false) : run_check_rows [.d v, .d w] s = .exc xR s := by
  simp -implicitDefEqProofs [Math.ap_eVar, Math.ap_lVar, Math.ap_eC, Math.ap_eL, Math.ap_eUn, Math.ap_eBin, Math.ap_eAnd, Math.ap_eOr, Math.ap_eNot, Math.ap_mE, Math.ap_mNot, Math.ap_mAnd, Math.ap_mOr, Math.ap_eIf, Math.ap_aNil, Math.ap_aCons, Math.ap_dNil, Math.ap_dCons, Math.ap_eTup, Math.ap_cLst, Math.ap_eFr, Math.ap_eIx, Math.ap_eSl, Math.ap_cList, Math.ap_eCall, Math.ap_cCall, Math.ap_mSeq, Math.ap_mNil, Math.ap_mSet, Math.ap_mSetC, Math.ap_mRet, Math.ap_mRetN, Math.ap_mRetL, Math.ap_mDrop, Math.ap_mIf, Math.ap_mNever, Math.ap_mPar, Math.ap_mPar3, Math.ap_mPut, Math.ap_mApp, Math.ap_mTo, Math.ap_mYes, Math.ap_iSq, Math.ap_iZp, Math.ap_iEn, Math.ap_mRetC, Math.ap_eCh, Math.ap_noPart, Math.ap_aPart, Math.ap_eSlice, Math.ap_mkF, Math.ap_mkC, Mir.env0, Mir.fin, Mir.finC, Mir.thenDo, Mir.toFl, Mir.wipeE, Mir.itemsOf, Mir.orBad, Mir.gNm, Mir.gTp, Mir.gNms, Mir.Out.bind, Mir.gIx, Mir.seqOf, Mir.gLen, Mir.gTuple, Mir.gAbs, Mir.gInt, Mir.gCmp, Mir.gI, Mir.gAdd, Mir.gSub, Mir.gNeg, Mir.gBols, Mir.gInts, Mir.gChain, Mir.nxO, Mir.putAt, Mir.appAt, Mir.isC, L2.atI, L2.ixN, Math.eIsi_tuple, Math.eIsi_int, Math.eIsi_bool, Math.gEq_int, Math.gEq_bool, run_check_rows, check_row_ok, check_row_no, h, h2]
end Math
/-! # k04: what is refused -/
namespace Math
open PySem Mir Fn
theorem turned_no (v : PyData) (s : Sto) (h : isGrid v = false) : run_turned [.d v] s = .exc xG s := by
  simp -implicitDefEqProofs [Math.ap_eVar, Math.ap_lVar, Math.ap_eC, Math.ap_eL, Math.ap_eUn, Math.ap_eBin, Math.ap_eAnd, Math.ap_eOr, Math.ap_eNot, Math.ap_mE, Math.ap_mNot, Math.ap_mAnd, Math.ap_mOr, Math.ap_eIf, Math.ap_aNil, Math.ap_aCons, Math.ap_dNil, Math.ap_dCons, Math.ap_eTup, Math.ap_cLst, Math.ap_eFr, Math.ap_eIx, Math.ap_eSl, Math.ap_cList, Math.ap_eCall, Math.ap_cCall, Math.ap_mSeq, Math.ap_mNil, Math.ap_mSet, Math.ap_mSetC, Math.ap_mRet, Math.ap_mRetN, Math.ap_mRetL, Math.ap_mDrop, Math.ap_mIf, Math.ap_mNever, Math.ap_mPar, Math.ap_mPar3, Math.ap_mPut, Math.ap_mApp, Math.ap_mTo, Math.ap_mYes, Math.ap_iSq, Math.ap_iZp, Math.ap_iEn, Math.ap_mRetC, Math.ap_eCh, Math.ap_noPart, Math.ap_aPart, Math.ap_eSlice, Math.ap_mkF, Math.ap_mkC, Mir.env0, Mir.fin, Mir.finC, Mir.thenDo, Mir.toFl, Mir.wipeE, Mir.itemsOf, Mir.orBad, Mir.gNm, Mir.gTp, Mir.gNms, Mir.Out.bind, Mir.gIx, Mir.seqOf, Mir.gLen, Mir.gTuple, Mir.gAbs, Mir.gInt, Mir.gCmp, Mir.gI, Mir.gAdd, Mir.gSub, Mir.gNeg, Mir.gBols, Mir.gInts, Mir.gChain, Mir.nxO, Mir.putAt, Mir.appAt, Mir.isC, L2.atI, L2.ixN, Math.eIsi_tuple, Math.eIsi_int, Math.eIsi_bool, Math.gEq_int, Math.gEq_bool, run_turned, check_grid_no, h]
theorem multiple_no1 (v w : PyData) (s : Sto) (h : isGrid v = false) : run_grid_multiple [.d v, .d w] s = .exc xG s := by
  simp -implicitDefEqProofs [Math.ap_eVar, Math.ap_lVar, Math.ap_eC, Math.ap_eL, Math.ap_eUn, Math.ap_eBin, Math.ap_eAnd, Math.ap_eOr, Math.ap_eNot, Math.ap_mE, Math.ap_mNot, Math.ap_mAnd, Math.ap_mOr, Math.ap_eIf, Math.ap_aNil, Math.ap_aCons, Math.ap_dNil, Math.ap_dCons, Math.ap_eTup, Math.ap_cLst, Math.ap_eFr, Math.ap_eIx, Math.ap_eSl, Math.ap_cList, Math.ap_eCall, Math.ap_cCall, Math.ap_mSeq, Math.ap_mNil, Math.ap_mSet, Math.ap_mSetC, Math.ap_mRet, Math.ap_mRetN, Math.ap_mRetL, Math.ap_mDrop, Math.ap_mIf, Math.ap_mNever, Math.ap_mPar, Math.ap_mPar3, Math.ap_mPut, Math.ap_mApp, Math.ap_mTo, Math.ap_mYes, Math.ap_iSq, Math.ap_iZp, Math.ap_iEn, Math.ap_mRetC, Math.ap_eCh, Math.ap_noPart, Math.ap_aPart, Math.ap_eSlice, Math.ap_mkF, Math.ap_mkC, Mir.env0, Mir.fin, Mir.finC, Mir.thenDo, Mir.toFl, Mir.wipeE, Mir.itemsOf, Mir.orBad, Mir.gNm, Mir.gTp, Mir.gNms, Mir.Out.bind, Mir.gIx, Mir.seqOf, Mir.gLen, Mir.gTuple, Mir.gAbs, Mir.gInt, Mir.gCmp, Mir.gI, Mir.gAdd, Mir.gSub, Mir.gNeg, Mir.gBols, Mir.gInts, Mir.gChain, Mir.nxO, Mir.putAt, Mir.appAt, Mir.isC, L2.atI, L2.ixN, Math.eIsi_tuple, Math.eIsi_int, Math.eIsi_bool, Math.gEq_int, Math.gEq_bool, run_grid_multiple, check_grid_no, h]
theorem multiple_no2 (v w : PyData) (s : Sto) (h : isGrid v = true) (h2 : isShort w = false) : run_grid_multiple [.d v, .d w] s = .exc (xN w) s := by
  simp -implicitDefEqProofs [Math.ap_eVar, Math.ap_lVar, Math.ap_eC, Math.ap_eL, Math.ap_eUn, Math.ap_eBin, Math.ap_eAnd, Math.ap_eOr, Math.ap_eNot, Math.ap_mE, Math.ap_mNot, Math.ap_mAnd, Math.ap_mOr, Math.ap_eIf, Math.ap_aNil, Math.ap_aCons, Math.ap_dNil, Math.ap_dCons, Math.ap_eTup, Math.ap_cLst, Math.ap_eFr, Math.ap_eIx, Math.ap_eSl, Math.ap_cList, Math.ap_eCall, Math.ap_cCall, Math.ap_mSeq, Math.ap_mNil, Math.ap_mSet, Math.ap_mSetC, Math.ap_mRet, Math.ap_mRetN, Math.ap_mRetL, Math.ap_mDrop, Math.ap_mIf, Math.ap_mNever, Math.ap_mPar, Math.ap_mPar3, Math.ap_mPut, Math.ap_mApp, Math.ap_mTo, Math.ap_mYes, Math.ap_iSq, Math.ap_iZp, Math.ap_iEn, Math.ap_mRetC, Math.ap_eCh, Math.ap_noPart, Math.ap_aPart, Math.ap_eSlice, Math.ap_mkF, Math.ap_mkC, Mir.env0, Mir.fin, Mir.finC, Mir.thenDo, Mir.toFl, Mir.wipeE, Mir.itemsOf, Mir.orBad, Mir.gNm, Mir.gTp, Mir.gNms, Mir.Out.bind, Mir.gIx, Mir.seqOf, Mir.gLen, Mir.gTuple, Mir.gAbs, Mir.gInt, Mir.gCmp, Mir.gI, Mir.gAdd, Mir.gSub, Mir.gNeg, Mir.gBols, Mir.gInts, Mir.gChain, Mir.nxO, Mir.putAt, Mir.appAt, Mir.isC, L2.atI, L2.ixN, Math.eIsi_tuple, Math.eIsi_int, Math.eIsi_bool, Math.gEq_int, Math.gEq_bool, run_grid_multiple, check_grid, check_integer_no, h, h2]
theorem check_like_no1 (v w : PyData) (s : Sto) (h : isGrid v = false) : run_check_like [.d v, .d w] s = .exc xG s := by
  simp -implicitDefEqProofs [Math.ap_eVar, Math.ap_lVar, Math.ap_eC, Math.ap_eL, Math.ap_eUn, Math.ap_eBin, Math.ap_eAnd, Math.ap_eOr, Math.ap_eNot, Math.ap_mE, Math.ap_mNot, Math.ap_mAnd, Math.ap_mOr, Math.ap_eIf, Math.ap_aNil, Math.ap_aCons, Math.ap_dNil, Math.ap_dCons, Math.ap_eTup, Math.ap_cLst, Math.ap_eFr, Math.ap_eIx, Math.ap_eSl, Math.ap_cList, Math.ap_eCall, Math.ap_cCall, Math.ap_mSeq, Math.ap_mNil, Math.ap_mSet, Math.ap_mSetC, Math.ap_mRet, Math.ap_mRetN, Math.ap_mRetL, Math.ap_mDrop, Math.ap_mIf, Math.ap_mNever, Math.ap_mPar, Math.ap_mPar3, Math.ap_mPut, Math.ap_mApp, Math.ap_mTo, Math.ap_mYes, Math.ap_iSq, Math.ap_iZp, Math.ap_iEn, Math.ap_mRetC, Math.ap_eCh, Math.ap_noPart, Math.ap_aPart, Math.ap_eSlice, Math.ap_mkF, Math.ap_mkC, Mir.env0, Mir.fin, Mir.finC, Mir.thenDo, Mir.toFl, Mir.wipeE, Mir.itemsOf, Mir.orBad, Mir.gNm, Mir.gTp, Mir.gNms, Mir.Out.bind, Mir.gIx, Mir.seqOf, Mir.gLen, Mir.gTuple, Mir.gAbs, Mir.gInt, Mir.gCmp, Mir.gI, Mir.gAdd, Mir.gSub, Mir.gNeg, Mir.gBols, Mir.gInts, Mir.gChain, Mir.nxO, Mir.putAt, Mir.appAt, Mir.isC, L2.atI, L2.ixN, Math.eIsi_tuple, Math.eIsi_int, Math.eIsi_bool, Math.gEq_int, Math.gEq_bool, run_check_like, check_grids_no1, h]
theorem check_like_no2 (v w : PyData) (s : Sto) (h : isGrid v = true) (h2 : isGrid w = false) : run_check_like [.d v, .d w] s = .exc xG s := by
  simp -implicitDefEqProofs [Math.ap_eVar, Math.ap_lVar, Math.ap_eC, Math.ap_eL, Math.ap_eUn, Math.ap_eBin, Math.ap_eAnd, Math.ap_eOr, Math.ap_eNot, Math.ap_mE, Math.ap_mNot, Math.ap_mAnd, Math.ap_mOr, Math.ap_eIf, Math.ap_aNil, Math.ap_aCons, Math.ap_dNil, Math.ap_dCons, Math.ap_eTup, Math.ap_cLst, Math.ap_eFr, Math.ap_eIx, Math.ap_eSl, Math.ap_cList, Math.ap_eCall, Math.ap_cCall, Math.ap_mSeq, Math.ap_mNil, Math.ap_mSet, Math.ap_mSetC, Math.ap_mRet, Math.ap_mRetN, Math.ap_mRetL, Math.ap_mDrop, Math.ap_mIf, Math.ap_mNever, Math.ap_mPar, Math.ap_mPar3, Math.ap_mPut, Math.ap_mApp, Math.ap_mTo, Math.ap_mYes, Math.ap_iSq, Math.ap_iZp, Math.ap_iEn, Math.ap_mRetC, Math.ap_eCh, Math.ap_noPart, Math.ap_aPart, Math.ap_eSlice, Math.ap_mkF, Math.ap_mkC, Mir.env0, Mir.fin, Mir.finC, Mir.thenDo, Mir.toFl, Mir.wipeE, Mir.itemsOf, Mir.orBad, Mir.gNm, Mir.gTp, Mir.gNms, Mir.Out.bind, Mir.gIx, Mir.seqOf, Mir.gLen, Mir.gTuple, Mir.gAbs, Mir.gInt, Mir.gCmp, Mir.gI, Mir.gAdd, Mir.gSub, Mir.gNeg, Mir.gBols, Mir.gInts, Mir.gChain, Mir.nxO, Mir.putAt, Mir.appAt, Mir.isC, L2.atI, L2.ixN, Math.eIsi_tuple, Math.eIsi_int, Math.eIsi_bool, Math.gEq_int, Math.gEq_bool, run_check_like, check_grids_no2, h, h2]
theorem sum_no1 (v w : PyData) (s : Sto) (h : isGrid v = false) : run_grid_sum [.d v, .d w] s = .exc xG s := by
  simp -implicitDefEqProofs [Math.ap_eVar, Math.ap_lVar, Math.ap_eC, Math.ap_eL, Math.ap_eUn, Math.ap_eBin, Math.ap_eAnd, Math.ap_eOr, Math.ap_eNot, Math.ap_mE, Math.ap_mNot, Math.ap_mAnd, Math.ap_mOr, Math.ap_eIf, Math.ap_aNil, Math.ap_aCons, Math.ap_dNil, Math.ap_dCons, Math.ap_eTup, Math.ap_cLst, Math.ap_eFr, Math.ap_eIx, Math.ap_eSl, Math.ap_cList, Math.ap_eCall, Math.ap_cCall, Math.ap_mSeq, Math.ap_mNil, Math.ap_mSet, Math.ap_mSetC, Math.ap_mRet, Math.ap_mRetN, Math.ap_mRetL, Math.ap_mDrop, Math.ap_mIf, Math.ap_mNever, Math.ap_mPar, Math.ap_mPar3, Math.ap_mPut, Math.ap_mApp, Math.ap_mTo, Math.ap_mYes, Math.ap_iSq, Math.ap_iZp, Math.ap_iEn, Math.ap_mRetC, Math.ap_eCh, Math.ap_noPart, Math.ap_aPart, Math.ap_eSlice, Math.ap_mkF, Math.ap_mkC, Mir.env0, Mir.fin, Mir.finC, Mir.thenDo, Mir.toFl, Mir.wipeE, Mir.itemsOf, Mir.orBad, Mir.gNm, Mir.gTp, Mir.gNms, Mir.Out.bind, Mir.gIx, Mir.seqOf, Mir.gLen, Mir.gTuple, Mir.gAbs, Mir.gInt, Mir.gCmp, Mir.gI, Mir.gAdd, Mir.gSub, Mir.gNeg, Mir.gBols, Mir.gInts, Mir.gChain, Mir.nxO, Mir.putAt, Mir.appAt, Mir.isC, L2.atI, L2.ixN, Math.eIsi_tuple, Math.eIsi_int, Math.eIsi_bool, Math.gEq_int, Math.gEq_bool, run_grid_sum, check_like_no1, h]
theorem sum_no2 (v w : PyData) (s : Sto) (h : isGrid v = true) (h2 : isGrid w = false) : run_grid_sum [.d v, .d w] s = .exc xG s := by
  simp -implicitDefEqProofs [Math.ap_eVar, Math.ap_lVar, Math.ap_eC, Math.ap_eL, Math.ap_eUn, Math.ap_eBin, Math.ap_eAnd, Math.ap_eOr, Math.ap_eNot, Math.ap_mE, Math.ap_mNot, Math.ap_mAnd, Math.ap_mOr, Math.ap_eIf, Math.ap_aNil, Math.ap_aCons, Math.ap_dNil, Math.ap_dCons, Math.ap_eTup, Math.ap_cLst, Math.ap_eFr, Math.ap_eIx, Math.ap_eSl, Math.ap_cList, Math.ap_eCall, Math.ap_cCall, Math.ap_mSeq, Math.ap_mNil, Math.ap_mSet, Math.ap_mSetC, Math.ap_mRet, Math.ap_mRetN, Math.ap_mRetL, Math.ap_mDrop, Math.ap_mIf, Math.ap_mNever, Math.ap_mPar, Math.ap_mPar3, Math.ap_mPut, Math.ap_mApp, Math.ap_mTo, Math.ap_mYes, Math.ap_iSq, Math.ap_iZp, Math.ap_iEn, Math.ap_mRetC, Math.ap_eCh, Math.ap_noPart, Math.ap_aPart, Math.ap_eSlice, Math.ap_mkF, Math.ap_mkC, Mir.env0, Mir.fin, Mir.finC, Mir.thenDo, Mir.toFl, Mir.wipeE, Mir.itemsOf, Mir.orBad, Mir.gNm, Mir.gTp, Mir.gNms, Mir.Out.bind, Mir.gIx, Mir.seqOf, Mir.gLen, Mir.gTuple, Mir.gAbs, Mir.gInt, Mir.gCmp, Mir.gI, Mir.gAdd, Mir.gSub, Mir.gNeg, Mir.gBols, Mir.gInts, Mir.gChain, Mir.nxO, Mir.putAt, Mir.appAt, Mir.isC, L2.atI, L2.ixN, Math.eIsi_tuple, Math.eIsi_int, Math.eIsi_bool, Math.gEq_int, Math.gEq_bool, run_grid_sum, check_like_no2, h, h2]
theorem difference_no1 (v w : PyData) (s : Sto) (h : isGrid v = false) : run_grid_difference [.d v, .d w] s = .exc xG s := by
  simp -implicitDefEqProofs [Math.ap_eVar, Math.ap_lVar, Math.ap_eC, Math.ap_eL, Math.ap_eUn, Math.ap_eBin, Math.ap_eAnd, Math.ap_eOr, Math.ap_eNot, Math.ap_mE, Math.ap_mNot, Math.ap_mAnd, Math.ap_mOr, Math.ap_eIf, Math.ap_aNil, Math.ap_aCons, Math.ap_dNil, Math.ap_dCons, Math.ap_eTup, Math.ap_cLst, Math.ap_eFr, Math.ap_eIx, Math.ap_eSl, Math.ap_cList, Math.ap_eCall, Math.ap_cCall, Math.ap_mSeq, Math.ap_mNil, Math.ap_mSet, Math.ap_mSetC, Math.ap_mRet, Math.ap_mRetN, Math.ap_mRetL, Math.ap_mDrop, Math.ap_mIf, Math.ap_mNever, Math.ap_mPar, Math.ap_mPar3, Math.ap_mPut, Math.ap_mApp, Math.ap_mTo, Math.ap_mYes, Math.ap_iSq, Math.ap_iZp, Math.ap_iEn, Math.ap_mRetC, Math.ap_eCh, Math.ap_noPart, Math.ap_aPart, Math.ap_eSlice, Math.ap_mkF, Math.ap_mkC, Mir.env0, Mir.fin, Mir.finC, Mir.thenDo, Mir.toFl, Mir.wipeE, Mir.itemsOf, Mir.orBad, Mir.gNm, Mir.gTp, Mir.gNms, Mir.Out.bind, Mir.gIx, Mir.seqOf, Mir.gLen, Mir.gTuple, Mir.gAbs, Mir.gInt, Mir.gCmp, Mir.gI, Mir.gAdd, Mir.gSub, Mir.gNeg, Mir.gBols, Mir.gInts, Mir.gChain, Mir.nxO, Mir.putAt, Mir.appAt, Mir.isC, L2.atI, L2.ixN, Math.eIsi_tuple, Math.eIsi_int, Math.eIsi_bool, Math.gEq_int, Math.gEq_bool, run_grid_difference, check_like_no1, h]
theorem difference_no2 (v w : PyData) (s : Sto) (h : isGrid v = true) (h2 : isGrid w = false) : run_grid_difference [.d v, .d w] s = .exc xG s := by
  simp -implicitDefEqProofs [Math.ap_eVar, Math.ap_lVar, Math.ap_eC, Math.ap_eL, Math.ap_eUn, Math.ap_eBin, Math.ap_eAnd, Math.ap_eOr, Math.ap_eNot, Math.ap_mE, Math.ap_mNot, Math.ap_mAnd, Math.ap_mOr, Math.ap_eIf, Math.ap_aNil, Math.ap_aCons, Math.ap_dNil, Math.ap_dCons, Math.ap_eTup, Math.ap_cLst, Math.ap_eFr, Math.ap_eIx, Math.ap_eSl, Math.ap_cList, Math.ap_eCall, Math.ap_cCall, Math.ap_mSeq, Math.ap_mNil, Math.ap_mSet, Math.ap_mSetC, Math.ap_mRet, Math.ap_mRetN, Math.ap_mRetL, Math.ap_mDrop, Math.ap_mIf, Math.ap_mNever, Math.ap_mPar, Math.ap_mPar3, Math.ap_mPut, Math.ap_mApp, Math.ap_mTo, Math.ap_mYes, Math.ap_iSq, Math.ap_iZp, Math.ap_iEn, Math.ap_mRetC, Math.ap_eCh, Math.ap_noPart, Math.ap_aPart, Math.ap_eSlice, Math.ap_mkF, Math.ap_mkC, Mir.env0, Mir.fin, Mir.finC, Mir.thenDo, Mir.toFl, Mir.wipeE, Mir.itemsOf, Mir.orBad, Mir.gNm, Mir.gTp, Mir.gNms, Mir.Out.bind, Mir.gIx, Mir.seqOf, Mir.gLen, Mir.gTuple, Mir.gAbs, Mir.gInt, Mir.gCmp, Mir.gI, Mir.gAdd, Mir.gSub, Mir.gNeg, Mir.gBols, Mir.gInts, Mir.gChain, Mir.nxO, Mir.putAt, Mir.appAt, Mir.isC, L2.atI, L2.ixN, Math.eIsi_tuple, Math.eIsi_int, Math.eIsi_bool, Math.gEq_int, Math.gEq_bool, run_grid_difference, check_like_no2, h, h2]
theorem product_no1 (v w : PyData) (s : Sto) (h : isGrid v = false) : run_grid_product [.d v, .d w] s = .exc xG s := by
  simp -implicitDefEqProofs [Math.ap_eVar, Math.ap_lVar, Math.ap_eC, Math.ap_eL, Math.ap_eUn, Math.ap_eBin, Math.ap_eAnd, Math.ap_eOr, Math.ap_eNot, Math.ap_mE, Math.ap_mNot, Math.ap_mAnd, Math.ap_mOr, Math.ap_eIf, Math.ap_aNil, Math.ap_aCons, Math.ap_dNil, Math.ap_dCons, Math.ap_eTup, Math.ap_cLst, Math.ap_eFr, Math.ap_eIx, Math.ap_eSl, Math.ap_cList, Math.ap_eCall, Math.ap_cCall, Math.ap_mSeq, Math.ap_mNil, Math.ap_mSet, Math.ap_mSetC, Math.ap_mRet, Math.ap_mRetN, Math.ap_mRetL, Math.ap_mDrop, Math.ap_mIf, Math.ap_mNever, Math.ap_mPar, Math.ap_mPar3, Math.ap_mPut, Math.ap_mApp, Math.ap_mTo, Math.ap_mYes, Math.ap_iSq, Math.ap_iZp, Math.ap_iEn, Math.ap_mRetC, Math.ap_eCh, Math.ap_noPart, Math.ap_aPart, Math.ap_eSlice, Math.ap_mkF, Math.ap_mkC, Mir.env0, Mir.fin, Mir.finC, Mir.thenDo, Mir.toFl, Mir.wipeE, Mir.itemsOf, Mir.orBad, Mir.gNm, Mir.gTp, Mir.gNms, Mir.Out.bind, Mir.gIx, Mir.seqOf, Mir.gLen, Mir.gTuple, Mir.gAbs, Mir.gInt, Mir.gCmp, Mir.gI, Mir.gAdd, Mir.gSub, Mir.gNeg, Mir.gBols, Mir.gInts, Mir.gChain, Mir.nxO, Mir.putAt, Mir.appAt, Mir.isC, L2.atI, L2.ixN, Math.eIsi_tuple, Math.eIsi_int, Math.eIsi_bool, Math.gEq_int, Math.gEq_bool, run_grid_product, check_grids_no1, h]
theorem product_no2 (v w : PyData) (s : Sto) (h : isGrid v = true) (h2 : isGrid w = false) : run_grid_product [.d v, .d w] s = .exc xG s := by
  simp -implicitDefEqProofs [Math.ap_eVar, Math.ap_lVar, Math.ap_eC, Math.ap_eL, Math.ap_eUn, Math.ap_eBin, Math.ap_eAnd, Math.ap_eOr, Math.ap_eNot, Math.ap_mE, Math.ap_mNot, Math.ap_mAnd, Math.ap_mOr, Math.ap_eIf, Math.ap_aNil, Math.ap_aCons, Math.ap_dNil, Math.ap_dCons, Math.ap_eTup, Math.ap_cLst, Math.ap_eFr, Math.ap_eIx, Math.ap_eSl, Math.ap_cList, Math.ap_eCall, Math.ap_cCall, Math.ap_mSeq, Math.ap_mNil, Math.ap_mSet, Math.ap_mSetC, Math.ap_mRet, Math.ap_mRetN, Math.ap_mRetL, Math.ap_mDrop, Math.ap_mIf, Math.ap_mNever, Math.ap_mPar, Math.ap_mPar3, Math.ap_mPut, Math.ap_mApp, Math.ap_mTo, Math.ap_mYes, Math.ap_iSq, Math.ap_iZp, Math.ap_iEn, Math.ap_mRetC, Math.ap_eCh, Math.ap_noPart, Math.ap_aPart, Math.ap_eSlice, Math.ap_mkF, Math.ap_mkC, Mir.env0, Mir.fin, Mir.finC, Mir.thenDo, Mir.toFl, Mir.wipeE, Mir.itemsOf, Mir.orBad, Mir.gNm, Mir.gTp, Mir.gNms, Mir.Out.bind, Mir.gIx, Mir.seqOf, Mir.gLen, Mir.gTuple, Mir.gAbs, Mir.gInt, Mir.gCmp, Mir.gI, Mir.gAdd, Mir.gSub, Mir.gNeg, Mir.gBols, Mir.gInts, Mir.gChain, Mir.nxO, Mir.putAt, Mir.appAt, Mir.isC, L2.atI, L2.ixN, Math.eIsi_tuple, Math.eIsi_int, Math.eIsi_bool, Math.gEq_int, Math.gEq_bool, run_grid_product, check_grids_no2, h, h2]
theorem beside_no1 (v w : PyData) (s : Sto) (h : isGrid v = false) : run_beside [.d v, .d w] s = .exc xG s := by
  simp -implicitDefEqProofs [Math.ap_eVar, Math.ap_lVar, Math.ap_eC, Math.ap_eL, Math.ap_eUn, Math.ap_eBin, Math.ap_eAnd, Math.ap_eOr, Math.ap_eNot, Math.ap_mE, Math.ap_mNot, Math.ap_mAnd, Math.ap_mOr, Math.ap_eIf, Math.ap_aNil, Math.ap_aCons, Math.ap_dNil, Math.ap_dCons, Math.ap_eTup, Math.ap_cLst, Math.ap_eFr, Math.ap_eIx, Math.ap_eSl, Math.ap_cList, Math.ap_eCall, Math.ap_cCall, Math.ap_mSeq, Math.ap_mNil, Math.ap_mSet, Math.ap_mSetC, Math.ap_mRet, Math.ap_mRetN, Math.ap_mRetL, Math.ap_mDrop, Math.ap_mIf, Math.ap_mNever, Math.ap_mPar, Math.ap_mPar3, Math.ap_mPut, Math.ap_mApp, Math.ap_mTo, Math.ap_mYes, Math.ap_iSq, Math.ap_iZp, Math.ap_iEn, Math.ap_mRetC, Math.ap_eCh, Math.ap_noPart, Math.ap_aPart, Math.ap_eSlice, Math.ap_mkF, Math.ap_mkC, Mir.env0, Mir.fin, Mir.finC, Mir.thenDo, Mir.toFl, Mir.wipeE, Mir.itemsOf, Mir.orBad, Mir.gNm, Mir.gTp, Mir.gNms, Mir.Out.bind, Mir.gIx, Mir.seqOf, Mir.gLen, Mir.gTuple, Mir.gAbs, Mir.gInt, Mir.gCmp, Mir.gI, Mir.gAdd, Mir.gSub, Mir.gNeg, Mir.gBols, Mir.gInts, Mir.gChain, Mir.nxO, Mir.putAt, Mir.appAt, Mir.isC, L2.atI, L2.ixN, Math.eIsi_tuple, Math.eIsi_int, Math.eIsi_bool, Math.gEq_int, Math.gEq_bool, run_beside, check_grids_no1, h]
theorem beside_no2 (v w : PyData) (s : Sto) (h : isGrid v = true) (h2 : isGrid w = false) : run_beside [.d v, .d w] s = .exc xG s := by
  simp -implicitDefEqProofs [Math.ap_eVar, Math.ap_lVar, Math.ap_eC, Math.ap_eL, Math.ap_eUn, Math.ap_eBin, Math.ap_eAnd, Math.ap_eOr, Math.ap_eNot, Math.ap_mE, Math.ap_mNot, Math.ap_mAnd, Math.ap_mOr, Math.ap_eIf, Math.ap_aNil, Math.ap_aCons, Math.ap_dNil, Math.ap_dCons, Math.ap_eTup, Math.ap_cLst, Math.ap_eFr, Math.ap_eIx, Math.ap_eSl, Math.ap_cList, Math.ap_eCall, Math.ap_cCall, Math.ap_mSeq, Math.ap_mNil, Math.ap_mSet, Math.ap_mSetC, Math.ap_mRet, Math.ap_mRetN, Math.ap_mRetL, Math.ap_mDrop, Math.ap_mIf, Math.ap_mNever, Math.ap_mPar, Math.ap_mPar3, Math.ap_mPut, Math.ap_mApp, Math.ap_mTo, Math.ap_mYes, Math.ap_iSq, Math.ap_iZp, Math.ap_iEn, Math.ap_mRetC, Math.ap_eCh, Math.ap_noPart, Math.ap_aPart, Math.ap_eSlice, Math.ap_mkF, Math.ap_mkC, Mir.env0, Mir.fin, Mir.finC, Mir.thenDo, Mir.toFl, Mir.wipeE, Mir.itemsOf, Mir.orBad, Mir.gNm, Mir.gTp, Mir.gNms, Mir.Out.bind, Mir.gIx, Mir.seqOf, Mir.gLen, Mir.gTuple, Mir.gAbs, Mir.gInt, Mir.gCmp, Mir.gI, Mir.gAdd, Mir.gSub, Mir.gNeg, Mir.gBols, Mir.gInts, Mir.gChain, Mir.nxO, Mir.putAt, Mir.appAt, Mir.isC, L2.atI, L2.ixN, Math.eIsi_tuple, Math.eIsi_int, Math.eIsi_bool, Math.gEq_int, Math.gEq_bool, run_beside, check_grids_no2, h, h2]
theorem over_no1 (v w : PyData) (s : Sto) (h : isGrid v = false) : run_over [.d v, .d w] s = .exc xG s := by
  simp -implicitDefEqProofs [Math.ap_eVar, Math.ap_lVar, Math.ap_eC, Math.ap_eL, Math.ap_eUn, Math.ap_eBin, Math.ap_eAnd, Math.ap_eOr, Math.ap_eNot, Math.ap_mE, Math.ap_mNot, Math.ap_mAnd, Math.ap_mOr, Math.ap_eIf, Math.ap_aNil, Math.ap_aCons, Math.ap_dNil, Math.ap_dCons, Math.ap_eTup, Math.ap_cLst, Math.ap_eFr, Math.ap_eIx, Math.ap_eSl, Math.ap_cList, Math.ap_eCall, Math.ap_cCall, Math.ap_mSeq, Math.ap_mNil, Math.ap_mSet, Math.ap_mSetC, Math.ap_mRet, Math.ap_mRetN, Math.ap_mRetL, Math.ap_mDrop, Math.ap_mIf, Math.ap_mNever, Math.ap_mPar, Math.ap_mPar3, Math.ap_mPut, Math.ap_mApp, Math.ap_mTo, Math.ap_mYes, Math.ap_iSq, Math.ap_iZp, Math.ap_iEn, Math.ap_mRetC, Math.ap_eCh, Math.ap_noPart, Math.ap_aPart, Math.ap_eSlice, Math.ap_mkF, Math.ap_mkC, Mir.env0, Mir.fin, Mir.finC, Mir.thenDo, Mir.toFl, Mir.wipeE, Mir.itemsOf, Mir.orBad, Mir.gNm, Mir.gTp, Mir.gNms, Mir.Out.bind, Mir.gIx, Mir.seqOf, Mir.gLen, Mir.gTuple, Mir.gAbs, Mir.gInt, Mir.gCmp, Mir.gI, Mir.gAdd, Mir.gSub, Mir.gNeg, Mir.gBols, Mir.gInts, Mir.gChain, Mir.nxO, Mir.putAt, Mir.appAt, Mir.isC, L2.atI, L2.ixN, Math.eIsi_tuple, Math.eIsi_int, Math.eIsi_bool, Math.gEq_int, Math.gEq_bool, run_over, check_grids_no1, h]
theorem over_no2 (v w : PyData) (s : Sto) (h : isGrid v = true) (h2 : isGrid w = false) : run_over [.d v, .d w] s = .exc xG s := by
  simp -implicitDefEqProofs [Math.ap_eVar, Math.ap_lVar, Math.ap_eC, Math.ap_eL, Math.ap_eUn, Math.ap_eBin, Math.ap_eAnd, Math.ap_eOr, Math.ap_eNot, Math.ap_mE, Math.ap_mNot, Math.ap_mAnd, Math.ap_mOr, Math.ap_eIf, Math.ap_aNil, Math.ap_aCons, Math.ap_dNil, Math.ap_dCons, Math.ap_eTup, Math.ap_cLst, Math.ap_eFr, Math.ap_eIx, Math.ap_eSl, Math.ap_cList, Math.ap_eCall, Math.ap_cCall, Math.ap_mSeq, Math.ap_mNil, Math.ap_mSet, Math.ap_mSetC, Math.ap_mRet, Math.ap_mRetN, Math.ap_mRetL, Math.ap_mDrop, Math.ap_mIf, Math.ap_mNever, Math.ap_mPar, Math.ap_mPar3, Math.ap_mPut, Math.ap_mApp, Math.ap_mTo, Math.ap_mYes, Math.ap_iSq, Math.ap_iZp, Math.ap_iEn, Math.ap_mRetC, Math.ap_eCh, Math.ap_noPart, Math.ap_aPart, Math.ap_eSlice, Math.ap_mkF, Math.ap_mkC, Mir.env0, Mir.fin, Mir.finC, Mir.thenDo, Mir.toFl, Mir.wipeE, Mir.itemsOf, Mir.orBad, Mir.gNm, Mir.gTp, Mir.gNms, Mir.Out.bind, Mir.gIx, Mir.seqOf, Mir.gLen, Mir.gTuple, Mir.gAbs, Mir.gInt, Mir.gCmp, Mir.gI, Mir.gAdd, Mir.gSub, Mir.gNeg, Mir.gBols, Mir.gInts, Mir.gChain, Mir.nxO, Mir.putAt, Mir.appAt, Mir.isC, L2.atI, L2.ixN, Math.eIsi_tuple, Math.eIsi_int, Math.eIsi_bool, Math.gEq_int, Math.gEq_bool, run_over, check_grids_no2, h, h2]
theorem led_no1 (v w : PyData) (s : Sto) (h : isGrid v = false) : run_led [.d v, .d w] s = .exc xG s := by
  simp -implicitDefEqProofs [Math.ap_eVar, Math.ap_lVar, Math.ap_eC, Math.ap_eL, Math.ap_eUn, Math.ap_eBin, Math.ap_eAnd, Math.ap_eOr, Math.ap_eNot, Math.ap_mE, Math.ap_mNot, Math.ap_mAnd, Math.ap_mOr, Math.ap_eIf, Math.ap_aNil, Math.ap_aCons, Math.ap_dNil, Math.ap_dCons, Math.ap_eTup, Math.ap_cLst, Math.ap_eFr, Math.ap_eIx, Math.ap_eSl, Math.ap_cList, Math.ap_eCall, Math.ap_cCall, Math.ap_mSeq, Math.ap_mNil, Math.ap_mSet, Math.ap_mSetC, Math.ap_mRet, Math.ap_mRetN, Math.ap_mRetL, Math.ap_mDrop, Math.ap_mIf, Math.ap_mNever, Math.ap_mPar, Math.ap_mPar3, Math.ap_mPut, Math.ap_mApp, Math.ap_mTo, Math.ap_mYes, Math.ap_iSq, Math.ap_iZp, Math.ap_iEn, Math.ap_mRetC, Math.ap_eCh, Math.ap_noPart, Math.ap_aPart, Math.ap_eSlice, Math.ap_mkF, Math.ap_mkC, Mir.env0, Mir.fin, Mir.finC, Mir.thenDo, Mir.toFl, Mir.wipeE, Mir.itemsOf, Mir.orBad, Mir.gNm, Mir.gTp, Mir.gNms, Mir.Out.bind, Mir.gIx, Mir.seqOf, Mir.gLen, Mir.gTuple, Mir.gAbs, Mir.gInt, Mir.gCmp, Mir.gI, Mir.gAdd, Mir.gSub, Mir.gNeg, Mir.gBols, Mir.gInts, Mir.gChain, Mir.nxO, Mir.putAt, Mir.appAt, Mir.isC, L2.atI, L2.ixN, Math.eIsi_tuple, Math.eIsi_int, Math.eIsi_bool, Math.gEq_int, Math.gEq_bool, run_led, check_grid_no, h]
theorem led_no2 (v w : PyData) (s : Sto) (h : isGrid v = true) (h2 : isRow w = false) : run_led [.d v, .d w] s = .exc xR s := by
  simp -implicitDefEqProofs [Math.ap_eVar, Math.ap_lVar, Math.ap_eC, Math.ap_eL, Math.ap_eUn, Math.ap_eBin, Math.ap_eAnd, Math.ap_eOr, Math.ap_eNot, Math.ap_mE, Math.ap_mNot, Math.ap_mAnd, Math.ap_mOr, Math.ap_eIf, Math.ap_aNil, Math.ap_aCons, Math.ap_dNil, Math.ap_dCons, Math.ap_eTup, Math.ap_cLst, Math.ap_eFr, Math.ap_eIx, Math.ap_eSl, Math.ap_cList, Math.ap_eCall, Math.ap_cCall, Math.ap_mSeq, Math.ap_mNil, Math.ap_mSet, Math.ap_mSetC, Math.ap_mRet, Math.ap_mRetN, Math.ap_mRetL, Math.ap_mDrop, Math.ap_mIf, Math.ap_mNever, Math.ap_mPar, Math.ap_mPar3, Math.ap_mPut, Math.ap_mApp, Math.ap_mTo, Math.ap_mYes, Math.ap_iSq, Math.ap_iZp, Math.ap_iEn, Math.ap_mRetC, Math.ap_eCh, Math.ap_noPart, Math.ap_aPart, Math.ap_eSlice, Math.ap_mkF, Math.ap_mkC, Mir.env0, Mir.fin, Mir.finC, Mir.thenDo, Mir.toFl, Mir.wipeE, Mir.itemsOf, Mir.orBad, Mir.gNm, Mir.gTp, Mir.gNms, Mir.Out.bind, Mir.gIx, Mir.seqOf, Mir.gLen, Mir.gTuple, Mir.gAbs, Mir.gInt, Mir.gCmp, Mir.gI, Mir.gAdd, Mir.gSub, Mir.gNeg, Mir.gBols, Mir.gInts, Mir.gChain, Mir.nxO, Mir.putAt, Mir.appAt, Mir.isC, L2.atI, L2.ixN, Math.eIsi_tuple, Math.eIsi_int, Math.eIsi_bool, Math.gEq_int, Math.gEq_bool, run_led, check_grid, check_row_no, h, h2]
theorem read_no1 (v w : PyData) (s : Sto) (h : isRow v = false) : run_read_by [.d v, .d w] s = .exc xR s := by
  simp -implicitDefEqProofs [Math.ap_eVar, Math.ap_lVar, Math.ap_eC, Math.ap_eL, Math.ap_eUn, Math.ap_eBin, Math.ap_eAnd, Math.ap_eOr, Math.ap_eNot, Math.ap_mE, Math.ap_mNot, Math.ap_mAnd, Math.ap_mOr, Math.ap_eIf, Math.ap_aNil, Math.ap_aCons, Math.ap_dNil, Math.ap_dCons, Math.ap_eTup, Math.ap_cLst, Math.ap_eFr, Math.ap_eIx, Math.ap_eSl, Math.ap_cList, Math.ap_eCall, Math.ap_cCall, Math.ap_mSeq, Math.ap_mNil, Math.ap_mSet, Math.ap_mSetC, Math.ap_mRet, Math.ap_mRetN, Math.ap_mRetL, Math.ap_mDrop, Math.ap_mIf, Math.ap_mNever, Math.ap_mPar, Math.ap_mPar3, Math.ap_mPut, Math.ap_mApp, Math.ap_mTo, Math.ap_mYes, Math.ap_iSq, Math.ap_iZp, Math.ap_iEn, Math.ap_mRetC, Math.ap_eCh, Math.ap_noPart, Math.ap_aPart, Math.ap_eSlice, Math.ap_mkF, Math.ap_mkC, Mir.env0, Mir.fin, Mir.finC, Mir.thenDo, Mir.toFl, Mir.wipeE, Mir.itemsOf, Mir.orBad, Mir.gNm, Mir.gTp, Mir.gNms, Mir.Out.bind, Mir.gIx, Mir.seqOf, Mir.gLen, Mir.gTuple, Mir.gAbs, Mir.gInt, Mir.gCmp, Mir.gI, Mir.gAdd, Mir.gSub, Mir.gNeg, Mir.gBols, Mir.gInts, Mir.gChain, Mir.nxO, Mir.putAt, Mir.appAt, Mir.isC, L2.atI, L2.ixN, Math.eIsi_tuple, Math.eIsi_int, Math.eIsi_bool, Math.gEq_int, Math.gEq_bool, run_read_by, check_row_no, h]
theorem read_no2 (v w : PyData) (s : Sto) (h : isRow v = true) (h2 : isGrid w = false) : run_read_by [.d v, .d w] s = .exc xG s := by
  simp -implicitDefEqProofs [Math.ap_eVar, Math.ap_lVar, Math.ap_eC, Math.ap_eL, Math.ap_eUn, Math.ap_eBin, Math.ap_eAnd, Math.ap_eOr, Math.ap_eNot, Math.ap_mE, Math.ap_mNot, Math.ap_mAnd, Math.ap_mOr, Math.ap_eIf, Math.ap_aNil, Math.ap_aCons, Math.ap_dNil, Math.ap_dCons, Math.ap_eTup, Math.ap_cLst, Math.ap_eFr, Math.ap_eIx, Math.ap_eSl, Math.ap_cList, Math.ap_eCall, Math.ap_cCall, Math.ap_mSeq, Math.ap_mNil, Math.ap_mSet, Math.ap_mSetC, Math.ap_mRet, Math.ap_mRetN, Math.ap_mRetL, Math.ap_mDrop, Math.ap_mIf, Math.ap_mNever, Math.ap_mPar, Math.ap_mPar3, Math.ap_mPut, Math.ap_mApp, Math.ap_mTo, Math.ap_mYes, Math.ap_iSq, Math.ap_iZp, Math.ap_iEn, Math.ap_mRetC, Math.ap_eCh, Math.ap_noPart, Math.ap_aPart, Math.ap_eSlice, Math.ap_mkF, Math.ap_mkC, Mir.env0, Mir.fin, Mir.finC, Mir.thenDo, Mir.toFl, Mir.wipeE, Mir.itemsOf, Mir.orBad, Mir.gNm, Mir.gTp, Mir.gNms, Mir.Out.bind, Mir.gIx, Mir.seqOf, Mir.gLen, Mir.gTuple, Mir.gAbs, Mir.gInt, Mir.gCmp, Mir.gI, Mir.gAdd, Mir.gSub, Mir.gNeg, Mir.gBols, Mir.gInts, Mir.gChain, Mir.nxO, Mir.putAt, Mir.appAt, Mir.isC, L2.atI, L2.ixN, Math.eIsi_tuple, Math.eIsi_int, Math.eIsi_bool, Math.gEq_int, Math.gEq_bool, run_read_by, check_row_ok, check_grid_no, h, h2]
theorem dot_no1 (v w : PyData) (s : Sto) (h : isRow v = false) : run_dot [.d v, .d w] s = .exc xR s := by
  simp -implicitDefEqProofs [Math.ap_eVar, Math.ap_lVar, Math.ap_eC, Math.ap_eL, Math.ap_eUn, Math.ap_eBin, Math.ap_eAnd, Math.ap_eOr, Math.ap_eNot, Math.ap_mE, Math.ap_mNot, Math.ap_mAnd, Math.ap_mOr, Math.ap_eIf, Math.ap_aNil, Math.ap_aCons, Math.ap_dNil, Math.ap_dCons, Math.ap_eTup, Math.ap_cLst, Math.ap_eFr, Math.ap_eIx, Math.ap_eSl, Math.ap_cList, Math.ap_eCall, Math.ap_cCall, Math.ap_mSeq, Math.ap_mNil, Math.ap_mSet, Math.ap_mSetC, Math.ap_mRet, Math.ap_mRetN, Math.ap_mRetL, Math.ap_mDrop, Math.ap_mIf, Math.ap_mNever, Math.ap_mPar, Math.ap_mPar3, Math.ap_mPut, Math.ap_mApp, Math.ap_mTo, Math.ap_mYes, Math.ap_iSq, Math.ap_iZp, Math.ap_iEn, Math.ap_mRetC, Math.ap_eCh, Math.ap_noPart, Math.ap_aPart, Math.ap_eSlice, Math.ap_mkF, Math.ap_mkC, Mir.env0, Mir.fin, Mir.finC, Mir.thenDo, Mir.toFl, Mir.wipeE, Mir.itemsOf, Mir.orBad, Mir.gNm, Mir.gTp, Mir.gNms, Mir.Out.bind, Mir.gIx, Mir.seqOf, Mir.gLen, Mir.gTuple, Mir.gAbs, Mir.gInt, Mir.gCmp, Mir.gI, Mir.gAdd, Mir.gSub, Mir.gNeg, Mir.gBols, Mir.gInts, Mir.gChain, Mir.nxO, Mir.putAt, Mir.appAt, Mir.isC, L2.atI, L2.ixN, Math.eIsi_tuple, Math.eIsi_int, Math.eIsi_bool, Math.gEq_int, Math.gEq_bool, run_dot, check_rows_no1, h]
theorem dot_no2 (v w : PyData) (s : Sto) (h : isRow v = true) (h2 : isRow w = false) : run_dot [.d v, .d w] s = .exc xR s := by
  simp -implicitDefEqProofs [Math.ap_eVar, Math.ap_lVar, Math.ap_eC, Math.ap_eL, Math.ap_eUn, Math.ap_eBin, Math.ap_eAnd, Math.ap_eOr, Math.ap_eNot, Math.ap_mE, Math.ap_mNot, Math.ap_mAnd, Math.ap_mOr, Math.ap_eIf, Math.ap_aNil, Math.ap_aCons, Math.ap_dNil, Math.ap_dCons, Math.ap_eTup, Math.ap_cLst, Math.ap_eFr, Math.ap_eIx, Math.ap_eSl, Math.ap_cList, Math.ap_eCall, Math.ap_cCall, Math.ap_mSeq, Math.ap_mNil, Math.ap_mSet, Math.ap_mSetC, Math.ap_mRet, Math.ap_mRetN, Math.ap_mRetL, Math.ap_mDrop, Math.ap_mIf, Math.ap_mNever, Math.ap_mPar, Math.ap_mPar3, Math.ap_mPut, Math.ap_mApp, Math.ap_mTo, Math.ap_mYes, Math.ap_iSq, Math.ap_iZp, Math.ap_iEn, Math.ap_mRetC, Math.ap_eCh, Math.ap_noPart, Math.ap_aPart, Math.ap_eSlice, Math.ap_mkF, Math.ap_mkC, Mir.env0, Mir.fin, Mir.finC, Mir.thenDo, Mir.toFl, Mir.wipeE, Mir.itemsOf, Mir.orBad, Mir.gNm, Mir.gTp, Mir.gNms, Mir.Out.bind, Mir.gIx, Mir.seqOf, Mir.gLen, Mir.gTuple, Mir.gAbs, Mir.gInt, Mir.gCmp, Mir.gI, Mir.gAdd, Mir.gSub, Mir.gNeg, Mir.gBols, Mir.gInts, Mir.gChain, Mir.nxO, Mir.putAt, Mir.appAt, Mir.isC, L2.atI, L2.ixN, Math.eIsi_tuple, Math.eIsi_int, Math.eIsi_bool, Math.gEq_int, Math.gEq_bool, run_dot, check_rows_no2, h, h2]
theorem rsum_no1 (v w : PyData) (s : Sto) (h : isRow v = false) : run_row_sum [.d v, .d w] s = .exc xR s := by
  simp -implicitDefEqProofs [Math.ap_eVar, Math.ap_lVar, Math.ap_eC, Math.ap_eL, Math.ap_eUn, Math.ap_eBin, Math.ap_eAnd, Math.ap_eOr, Math.ap_eNot, Math.ap_mE, Math.ap_mNot, Math.ap_mAnd, Math.ap_mOr, Math.ap_eIf, Math.ap_aNil, Math.ap_aCons, Math.ap_dNil, Math.ap_dCons, Math.ap_eTup, Math.ap_cLst, Math.ap_eFr, Math.ap_eIx, Math.ap_eSl, Math.ap_cList, Math.ap_eCall, Math.ap_cCall, Math.ap_mSeq, Math.ap_mNil, Math.ap_mSet, Math.ap_mSetC, Math.ap_mRet, Math.ap_mRetN, Math.ap_mRetL, Math.ap_mDrop, Math.ap_mIf, Math.ap_mNever, Math.ap_mPar, Math.ap_mPar3, Math.ap_mPut, Math.ap_mApp, Math.ap_mTo, Math.ap_mYes, Math.ap_iSq, Math.ap_iZp, Math.ap_iEn, Math.ap_mRetC, Math.ap_eCh, Math.ap_noPart, Math.ap_aPart, Math.ap_eSlice, Math.ap_mkF, Math.ap_mkC, Mir.env0, Mir.fin, Mir.finC, Mir.thenDo, Mir.toFl, Mir.wipeE, Mir.itemsOf, Mir.orBad, Mir.gNm, Mir.gTp, Mir.gNms, Mir.Out.bind, Mir.gIx, Mir.seqOf, Mir.gLen, Mir.gTuple, Mir.gAbs, Mir.gInt, Mir.gCmp, Mir.gI, Mir.gAdd, Mir.gSub, Mir.gNeg, Mir.gBols, Mir.gInts, Mir.gChain, Mir.nxO, Mir.putAt, Mir.appAt, Mir.isC, L2.atI, L2.ixN, Math.eIsi_tuple, Math.eIsi_int, Math.eIsi_bool, Math.gEq_int, Math.gEq_bool, run_row_sum, check_rows_no1, h]
theorem rsum_no2 (v w : PyData) (s : Sto) (h : isRow v = true) (h2 : isRow w = false) : run_row_sum [.d v, .d w] s = .exc xR s := by
  simp -implicitDefEqProofs [Math.ap_eVar, Math.ap_lVar, Math.ap_eC, Math.ap_eL, Math.ap_eUn, Math.ap_eBin, Math.ap_eAnd, Math.ap_eOr, Math.ap_eNot, Math.ap_mE, Math.ap_mNot, Math.ap_mAnd, Math.ap_mOr, Math.ap_eIf, Math.ap_aNil, Math.ap_aCons, Math.ap_dNil, Math.ap_dCons, Math.ap_eTup, Math.ap_cLst, Math.ap_eFr, Math.ap_eIx, Math.ap_eSl, Math.ap_cList, Math.ap_eCall, Math.ap_cCall, Math.ap_mSeq, Math.ap_mNil, Math.ap_mSet, Math.ap_mSetC, Math.ap_mRet, Math.ap_mRetN, Math.ap_mRetL, Math.ap_mDrop, Math.ap_mIf, Math.ap_mNever, Math.ap_mPar, Math.ap_mPar3, Math.ap_mPut, Math.ap_mApp, Math.ap_mTo, Math.ap_mYes, Math.ap_iSq, Math.ap_iZp, Math.ap_iEn, Math.ap_mRetC, Math.ap_eCh, Math.ap_noPart, Math.ap_aPart, Math.ap_eSlice, Math.ap_mkF, Math.ap_mkC, Mir.env0, Mir.fin, Mir.finC, Mir.thenDo, Mir.toFl, Mir.wipeE, Mir.itemsOf, Mir.orBad, Mir.gNm, Mir.gTp, Mir.gNms, Mir.Out.bind, Mir.gIx, Mir.seqOf, Mir.gLen, Mir.gTuple, Mir.gAbs, Mir.gInt, Mir.gCmp, Mir.gI, Mir.gAdd, Mir.gSub, Mir.gNeg, Mir.gBols, Mir.gInts, Mir.gChain, Mir.nxO, Mir.putAt, Mir.appAt, Mir.isC, L2.atI, L2.ixN, Math.eIsi_tuple, Math.eIsi_int, Math.eIsi_bool, Math.gEq_int, Math.gEq_bool, run_row_sum, check_rows_no2, h, h2]
theorem rdiff_no1 (v w : PyData) (s : Sto) (h : isRow v = false) : run_row_difference [.d v, .d w] s = .exc xR s := by
  simp -implicitDefEqProofs [Math.ap_eVar, Math.ap_lVar, Math.ap_eC, Math.ap_eL, Math.ap_eUn, Math.ap_eBin, Math.ap_eAnd, Math.ap_eOr, Math.ap_eNot, Math.ap_mE, Math.ap_mNot, Math.ap_mAnd, Math.ap_mOr, Math.ap_eIf, Math.ap_aNil, Math.ap_aCons, Math.ap_dNil, Math.ap_dCons, Math.ap_eTup, Math.ap_cLst, Math.ap_eFr, Math.ap_eIx, Math.ap_eSl, Math.ap_cList, Math.ap_eCall, Math.ap_cCall, Math.ap_mSeq, Math.ap_mNil, Math.ap_mSet, Math.ap_mSetC, Math.ap_mRet, Math.ap_mRetN, Math.ap_mRetL, Math.ap_mDrop, Math.ap_mIf, Math.ap_mNever, Math.ap_mPar, Math.ap_mPar3, Math.ap_mPut, Math.ap_mApp, Math.ap_mTo, Math.ap_mYes, Math.ap_iSq, Math.ap_iZp, Math.ap_iEn, Math.ap_mRetC, Math.ap_eCh, Math.ap_noPart, Math.ap_aPart, Math.ap_eSlice, Math.ap_mkF, Math.ap_mkC, Mir.env0, Mir.fin, Mir.finC, Mir.thenDo, Mir.toFl, Mir.wipeE, Mir.itemsOf, Mir.orBad, Mir.gNm, Mir.gTp, Mir.gNms, Mir.Out.bind, Mir.gIx, Mir.seqOf, Mir.gLen, Mir.gTuple, Mir.gAbs, Mir.gInt, Mir.gCmp, Mir.gI, Mir.gAdd, Mir.gSub, Mir.gNeg, Mir.gBols, Mir.gInts, Mir.gChain, Mir.nxO, Mir.putAt, Mir.appAt, Mir.isC, L2.atI, L2.ixN, Math.eIsi_tuple, Math.eIsi_int, Math.eIsi_bool, Math.gEq_int, Math.gEq_bool, run_row_difference, check_rows_no1, h]
theorem rdiff_no2 (v w : PyData) (s : Sto) (h : isRow v = true) (h2 : isRow w = false) : run_row_difference [.d v, .d w] s = .exc xR s := by
  simp -implicitDefEqProofs [Math.ap_eVar, Math.ap_lVar, Math.ap_eC, Math.ap_eL, Math.ap_eUn, Math.ap_eBin, Math.ap_eAnd, Math.ap_eOr, Math.ap_eNot, Math.ap_mE, Math.ap_mNot, Math.ap_mAnd, Math.ap_mOr, Math.ap_eIf, Math.ap_aNil, Math.ap_aCons, Math.ap_dNil, Math.ap_dCons, Math.ap_eTup, Math.ap_cLst, Math.ap_eFr, Math.ap_eIx, Math.ap_eSl, Math.ap_cList, Math.ap_eCall, Math.ap_cCall, Math.ap_mSeq, Math.ap_mNil, Math.ap_mSet, Math.ap_mSetC, Math.ap_mRet, Math.ap_mRetN, Math.ap_mRetL, Math.ap_mDrop, Math.ap_mIf, Math.ap_mNever, Math.ap_mPar, Math.ap_mPar3, Math.ap_mPut, Math.ap_mApp, Math.ap_mTo, Math.ap_mYes, Math.ap_iSq, Math.ap_iZp, Math.ap_iEn, Math.ap_mRetC, Math.ap_eCh, Math.ap_noPart, Math.ap_aPart, Math.ap_eSlice, Math.ap_mkF, Math.ap_mkC, Mir.env0, Mir.fin, Mir.finC, Mir.thenDo, Mir.toFl, Mir.wipeE, Mir.itemsOf, Mir.orBad, Mir.gNm, Mir.gTp, Mir.gNms, Mir.Out.bind, Mir.gIx, Mir.seqOf, Mir.gLen, Mir.gTuple, Mir.gAbs, Mir.gInt, Mir.gCmp, Mir.gI, Mir.gAdd, Mir.gSub, Mir.gNeg, Mir.gBols, Mir.gInts, Mir.gChain, Mir.nxO, Mir.putAt, Mir.appAt, Mir.isC, L2.atI, L2.ixN, Math.eIsi_tuple, Math.eIsi_int, Math.eIsi_bool, Math.gEq_int, Math.gEq_bool, run_row_difference, check_rows_no2, h, h2]
theorem rmul_no1 (v w : PyData) (s : Sto) (h : isRow v = false) : run_row_multiple [.d v, .d w] s = .exc xR s := by
  simp -implicitDefEqProofs [Math.ap_eVar, Math.ap_lVar, Math.ap_eC, Math.ap_eL, Math.ap_eUn, Math.ap_eBin, Math.ap_eAnd, Math.ap_eOr, Math.ap_eNot, Math.ap_mE, Math.ap_mNot, Math.ap_mAnd, Math.ap_mOr, Math.ap_eIf, Math.ap_aNil, Math.ap_aCons, Math.ap_dNil, Math.ap_dCons, Math.ap_eTup, Math.ap_cLst, Math.ap_eFr, Math.ap_eIx, Math.ap_eSl, Math.ap_cList, Math.ap_eCall, Math.ap_cCall, Math.ap_mSeq, Math.ap_mNil, Math.ap_mSet, Math.ap_mSetC, Math.ap_mRet, Math.ap_mRetN, Math.ap_mRetL, Math.ap_mDrop, Math.ap_mIf, Math.ap_mNever, Math.ap_mPar, Math.ap_mPar3, Math.ap_mPut, Math.ap_mApp, Math.ap_mTo, Math.ap_mYes, Math.ap_iSq, Math.ap_iZp, Math.ap_iEn, Math.ap_mRetC, Math.ap_eCh, Math.ap_noPart, Math.ap_aPart, Math.ap_eSlice, Math.ap_mkF, Math.ap_mkC, Mir.env0, Mir.fin, Mir.finC, Mir.thenDo, Mir.toFl, Mir.wipeE, Mir.itemsOf, Mir.orBad, Mir.gNm, Mir.gTp, Mir.gNms, Mir.Out.bind, Mir.gIx, Mir.seqOf, Mir.gLen, Mir.gTuple, Mir.gAbs, Mir.gInt, Mir.gCmp, Mir.gI, Mir.gAdd, Mir.gSub, Mir.gNeg, Mir.gBols, Mir.gInts, Mir.gChain, Mir.nxO, Mir.putAt, Mir.appAt, Mir.isC, L2.atI, L2.ixN, Math.eIsi_tuple, Math.eIsi_int, Math.eIsi_bool, Math.gEq_int, Math.gEq_bool, run_row_multiple, check_row_no, h]
theorem rmul_no2 (v w : PyData) (s : Sto) (h : isRow v = true) (h2 : isShort w = false) : run_row_multiple [.d v, .d w] s = .exc (xN w) s := by
  simp -implicitDefEqProofs [Math.ap_eVar, Math.ap_lVar, Math.ap_eC, Math.ap_eL, Math.ap_eUn, Math.ap_eBin, Math.ap_eAnd, Math.ap_eOr, Math.ap_eNot, Math.ap_mE, Math.ap_mNot, Math.ap_mAnd, Math.ap_mOr, Math.ap_eIf, Math.ap_aNil, Math.ap_aCons, Math.ap_dNil, Math.ap_dCons, Math.ap_eTup, Math.ap_cLst, Math.ap_eFr, Math.ap_eIx, Math.ap_eSl, Math.ap_cList, Math.ap_eCall, Math.ap_cCall, Math.ap_mSeq, Math.ap_mNil, Math.ap_mSet, Math.ap_mSetC, Math.ap_mRet, Math.ap_mRetN, Math.ap_mRetL, Math.ap_mDrop, Math.ap_mIf, Math.ap_mNever, Math.ap_mPar, Math.ap_mPar3, Math.ap_mPut, Math.ap_mApp, Math.ap_mTo, Math.ap_mYes, Math.ap_iSq, Math.ap_iZp, Math.ap_iEn, Math.ap_mRetC, Math.ap_eCh, Math.ap_noPart, Math.ap_aPart, Math.ap_eSlice, Math.ap_mkF, Math.ap_mkC, Mir.env0, Mir.fin, Mir.finC, Mir.thenDo, Mir.toFl, Mir.wipeE, Mir.itemsOf, Mir.orBad, Mir.gNm, Mir.gTp, Mir.gNms, Mir.Out.bind, Mir.gIx, Mir.seqOf, Mir.gLen, Mir.gTuple, Mir.gAbs, Mir.gInt, Mir.gCmp, Mir.gI, Mir.gAdd, Mir.gSub, Mir.gNeg, Mir.gBols, Mir.gInts, Mir.gChain, Mir.nxO, Mir.putAt, Mir.appAt, Mir.isC, L2.atI, L2.ixN, Math.eIsi_tuple, Math.eIsi_int, Math.eIsi_bool, Math.gEq_int, Math.gEq_bool, run_row_multiple, check_row_ok, check_integer_no, h, h2]
theorem shared_no1 (v w : PyData) (s : Sto) (h : isShort v = false) : run_shared [.d v, .d w] s = .exc (xN v) s := by
  simp -implicitDefEqProofs [Math.ap_eVar, Math.ap_lVar, Math.ap_eC, Math.ap_eL, Math.ap_eUn, Math.ap_eBin, Math.ap_eAnd, Math.ap_eOr, Math.ap_eNot, Math.ap_mE, Math.ap_mNot, Math.ap_mAnd, Math.ap_mOr, Math.ap_eIf, Math.ap_aNil, Math.ap_aCons, Math.ap_dNil, Math.ap_dCons, Math.ap_eTup, Math.ap_cLst, Math.ap_eFr, Math.ap_eIx, Math.ap_eSl, Math.ap_cList, Math.ap_eCall, Math.ap_cCall, Math.ap_mSeq, Math.ap_mNil, Math.ap_mSet, Math.ap_mSetC, Math.ap_mRet, Math.ap_mRetN, Math.ap_mRetL, Math.ap_mDrop, Math.ap_mIf, Math.ap_mNever, Math.ap_mPar, Math.ap_mPar3, Math.ap_mPut, Math.ap_mApp, Math.ap_mTo, Math.ap_mYes, Math.ap_iSq, Math.ap_iZp, Math.ap_iEn, Math.ap_mRetC, Math.ap_eCh, Math.ap_noPart, Math.ap_aPart, Math.ap_eSlice, Math.ap_mkF, Math.ap_mkC, Mir.env0, Mir.fin, Mir.finC, Mir.thenDo, Mir.toFl, Mir.wipeE, Mir.itemsOf, Mir.orBad, Mir.gNm, Mir.gTp, Mir.gNms, Mir.Out.bind, Mir.gIx, Mir.seqOf, Mir.gLen, Mir.gTuple, Mir.gAbs, Mir.gInt, Mir.gCmp, Mir.gI, Mir.gAdd, Mir.gSub, Mir.gNeg, Mir.gBols, Mir.gInts, Mir.gChain, Mir.nxO, Mir.putAt, Mir.appAt, Mir.isC, L2.atI, L2.ixN, Math.eIsi_tuple, Math.eIsi_int, Math.eIsi_bool, Math.gEq_int, Math.gEq_bool, run_shared, check_integer_no, h]
theorem shared_no2 (v w : PyData) (s : Sto) (h : isShort v = true) (h2 : isShort w = false) : run_shared [.d v, .d w] s = .exc (xN w) s := by
  simp -implicitDefEqProofs [Math.ap_eVar, Math.ap_lVar, Math.ap_eC, Math.ap_eL, Math.ap_eUn, Math.ap_eBin, Math.ap_eAnd, Math.ap_eOr, Math.ap_eNot, Math.ap_mE, Math.ap_mNot, Math.ap_mAnd, Math.ap_mOr, Math.ap_eIf, Math.ap_aNil, Math.ap_aCons, Math.ap_dNil, Math.ap_dCons, Math.ap_eTup, Math.ap_cLst, Math.ap_eFr, Math.ap_eIx, Math.ap_eSl, Math.ap_cList, Math.ap_eCall, Math.ap_cCall, Math.ap_mSeq, Math.ap_mNil, Math.ap_mSet, Math.ap_mSetC, Math.ap_mRet, Math.ap_mRetN, Math.ap_mRetL, Math.ap_mDrop, Math.ap_mIf, Math.ap_mNever, Math.ap_mPar, Math.ap_mPar3, Math.ap_mPut, Math.ap_mApp, Math.ap_mTo, Math.ap_mYes, Math.ap_iSq, Math.ap_iZp, Math.ap_iEn, Math.ap_mRetC, Math.ap_eCh, Math.ap_noPart, Math.ap_aPart, Math.ap_eSlice, Math.ap_mkF, Math.ap_mkC, Mir.env0, Mir.fin, Mir.finC, Mir.thenDo, Mir.toFl, Mir.wipeE, Mir.itemsOf, Mir.orBad, Mir.gNm, Mir.gTp, Mir.gNms, Mir.Out.bind, Mir.gIx, Mir.seqOf, Mir.gLen, Mir.gTuple, Mir.gAbs, Mir.gInt, Mir.gCmp, Mir.gI, Mir.gAdd, Mir.gSub, Mir.gNeg, Mir.gBols, Mir.gInts, Mir.gChain, Mir.nxO, Mir.putAt, Mir.appAt, Mir.isC, L2.atI, L2.ixN, Math.eIsi_tuple, Math.eIsi_int, Math.eIsi_bool, Math.gEq_int, Math.gEq_bool, run_shared, check_integer_ok, check_integer_no, h, h2]
theorem unit_no (v : PyData) (s : Sto) (h : isBetween 0 60 v = false) : run_unit_grid [.d v] s = .exc (xN v) s := by
  have e := check_between_no (s := s) h
  simp -implicitDefEqProofs [Math.ap_eVar, Math.ap_lVar, Math.ap_eC, Math.ap_eL, Math.ap_eUn, Math.ap_eBin, Math.ap_eAnd, Math.ap_eOr, Math.ap_eNot, Math.ap_mE, Math.ap_mNot, Math.ap_mAnd, Math.ap_mOr, Math.ap_eIf, Math.ap_aNil, Math.ap_aCons, Math.ap_dNil, Math.ap_dCons, Math.ap_eTup, Math.ap_cLst, Math.ap_eFr, Math.ap_eIx, Math.ap_eSl, Math.ap_cList, Math.ap_eCall, Math.ap_cCall, Math.ap_mSeq, Math.ap_mNil, Math.ap_mSet, Math.ap_mSetC, Math.ap_mRet, Math.ap_mRetN, Math.ap_mRetL, Math.ap_mDrop, Math.ap_mIf, Math.ap_mNever, Math.ap_mPar, Math.ap_mPar3, Math.ap_mPut, Math.ap_mApp, Math.ap_mTo, Math.ap_mYes, Math.ap_iSq, Math.ap_iZp, Math.ap_iEn, Math.ap_mRetC, Math.ap_eCh, Math.ap_noPart, Math.ap_aPart, Math.ap_eSlice, Math.ap_mkF, Math.ap_mkC, Mir.env0, Mir.fin, Mir.finC, Mir.thenDo, Mir.toFl, Mir.wipeE, Mir.itemsOf, Mir.orBad, Mir.gNm, Mir.gTp, Mir.gNms, Mir.Out.bind, Mir.gIx, Mir.seqOf, Mir.gLen, Mir.gTuple, Mir.gAbs, Mir.gInt, Mir.gCmp, Mir.gI, Mir.gAdd, Mir.gSub, Mir.gNeg, Mir.gBols, Mir.gInts, Mir.gChain, Mir.nxO, Mir.putAt, Mir.appAt, Mir.isC, L2.atI, L2.ixN, Math.eIsi_tuple, Math.eIsi_int, Math.eIsi_bool, Math.gEq_int, Math.gEq_bool, run_unit_grid, e]
theorem nought_no1 (v w : PyData) (s : Sto) (h : isBetween 0 60 v = false) : run_nought_grid [.d v, .d w] s = .exc (xN v) s := by
  have e := check_between_no (s := s) h
  simp -implicitDefEqProofs [Math.ap_eVar, Math.ap_lVar, Math.ap_eC, Math.ap_eL, Math.ap_eUn, Math.ap_eBin, Math.ap_eAnd, Math.ap_eOr, Math.ap_eNot, Math.ap_mE, Math.ap_mNot, Math.ap_mAnd, Math.ap_mOr, Math.ap_eIf, Math.ap_aNil, Math.ap_aCons, Math.ap_dNil, Math.ap_dCons, Math.ap_eTup, Math.ap_cLst, Math.ap_eFr, Math.ap_eIx, Math.ap_eSl, Math.ap_cList, Math.ap_eCall, Math.ap_cCall, Math.ap_mSeq, Math.ap_mNil, Math.ap_mSet, Math.ap_mSetC, Math.ap_mRet, Math.ap_mRetN, Math.ap_mRetL, Math.ap_mDrop, Math.ap_mIf, Math.ap_mNever, Math.ap_mPar, Math.ap_mPar3, Math.ap_mPut, Math.ap_mApp, Math.ap_mTo, Math.ap_mYes, Math.ap_iSq, Math.ap_iZp, Math.ap_iEn, Math.ap_mRetC, Math.ap_eCh, Math.ap_noPart, Math.ap_aPart, Math.ap_eSlice, Math.ap_mkF, Math.ap_mkC, Mir.env0, Mir.fin, Mir.finC, Mir.thenDo, Mir.toFl, Mir.wipeE, Mir.itemsOf, Mir.orBad, Mir.gNm, Mir.gTp, Mir.gNms, Mir.Out.bind, Mir.gIx, Mir.seqOf, Mir.gLen, Mir.gTuple, Mir.gAbs, Mir.gInt, Mir.gCmp, Mir.gI, Mir.gAdd, Mir.gSub, Mir.gNeg, Mir.gBols, Mir.gInts, Mir.gChain, Mir.nxO, Mir.putAt, Mir.appAt, Mir.isC, L2.atI, L2.ixN, Math.eIsi_tuple, Math.eIsi_int, Math.eIsi_bool, Math.gEq_int, Math.gEq_bool, run_nought_grid, e]
theorem nought_no2 (v w : PyData) (s : Sto) (h : isBetween 0 60 v = true) (h2 : isBetween 0 60 w = false) : run_nought_grid [.d v, .d w] s = .exc (xN w) s := by
  have e := check_between_no (s := s) h2
  have e1 := check_between_ok (s := s) h
  simp -implicitDefEqProofs [Math.ap_eVar, Math.ap_lVar, Math.ap_eC, Math.ap_eL, Math.ap_eUn, Math.ap_eBin, Math.ap_eAnd, Math.ap_eOr, Math.ap_eNot, Math.ap_mE, Math.ap_mNot, Math.ap_mAnd, Math.ap_mOr, Math.ap_eIf, Math.ap_aNil, Math.ap_aCons, Math.ap_dNil, Math.ap_dCons, Math.ap_eTup, Math.ap_cLst, Math.ap_eFr, Math.ap_eIx, Math.ap_eSl, Math.ap_cList, Math.ap_eCall, Math.ap_cCall, Math.ap_mSeq, Math.ap_mNil, Math.ap_mSet, Math.ap_mSetC, Math.ap_mRet, Math.ap_mRetN, Math.ap_mRetL, Math.ap_mDrop, Math.ap_mIf, Math.ap_mNever, Math.ap_mPar, Math.ap_mPar3, Math.ap_mPut, Math.ap_mApp, Math.ap_mTo, Math.ap_mYes, Math.ap_iSq, Math.ap_iZp, Math.ap_iEn, Math.ap_mRetC, Math.ap_eCh, Math.ap_noPart, Math.ap_aPart, Math.ap_eSlice, Math.ap_mkF, Math.ap_mkC, Mir.env0, Mir.fin, Mir.finC, Mir.thenDo, Mir.toFl, Mir.wipeE, Mir.itemsOf, Mir.orBad, Mir.gNm, Mir.gTp, Mir.gNms, Mir.Out.bind, Mir.gIx, Mir.seqOf, Mir.gLen, Mir.gTuple, Mir.gAbs, Mir.gInt, Mir.gCmp, Mir.gI, Mir.gAdd, Mir.gSub, Mir.gNeg, Mir.gBols, Mir.gInts, Mir.gChain, Mir.nxO, Mir.putAt, Mir.appAt, Mir.isC, L2.atI, L2.ixN, Math.eIsi_tuple, Math.eIsi_int, Math.eIsi_bool, Math.gEq_int, Math.gEq_bool, run_nought_grid, e, e1]
theorem check_least_no (v : PyData) (s : Sto) (h : isShort v = false) (a : Int) : run_check_least [.d v, .d (.int a)] s = .exc (xN v) s := by
  simp -implicitDefEqProofs [Math.ap_eVar, Math.ap_lVar, Math.ap_eC, Math.ap_eL, Math.ap_eUn, Math.ap_eBin, Math.ap_eAnd, Math.ap_eOr, Math.ap_eNot, Math.ap_mE, Math.ap_mNot, Math.ap_mAnd, Math.ap_mOr, Math.ap_eIf, Math.ap_aNil, Math.ap_aCons, Math.ap_dNil, Math.ap_dCons, Math.ap_eTup, Math.ap_cLst, Math.ap_eFr, Math.ap_eIx, Math.ap_eSl, Math.ap_cList, Math.ap_eCall, Math.ap_cCall, Math.ap_mSeq, Math.ap_mNil, Math.ap_mSet, Math.ap_mSetC, Math.ap_mRet, Math.ap_mRetN, Math.ap_mRetL, Math.ap_mDrop, Math.ap_mIf, Math.ap_mNever, Math.ap_mPar, Math.ap_mPar3, Math.ap_mPut, Math.ap_mApp, Math.ap_mTo, Math.ap_mYes, Math.ap_iSq, Math.ap_iZp, Math.ap_iEn, Math.ap_mRetC, Math.ap_eCh, Math.ap_noPart, Math.ap_aPart, Math.ap_eSlice, Math.ap_mkF, Math.ap_mkC, Mir.env0, Mir.fin, Mir.finC, Mir.thenDo, Mir.toFl, Mir.wipeE, Mir.itemsOf, Mir.orBad, Mir.gNm, Mir.gTp, Mir.gNms, Mir.Out.bind, Mir.gIx, Mir.seqOf, Mir.gLen, Mir.gTuple, Mir.gAbs, Mir.gInt, Mir.gCmp, Mir.gI, Mir.gAdd, Mir.gSub, Mir.gNeg, Mir.gBols, Mir.gInts, Mir.gChain, Mir.nxO, Mir.putAt, Mir.appAt, Mir.isC, L2.atI, L2.ixN, Math.eIsi_tuple, Math.eIsi_int, Math.eIsi_bool, Math.gEq_int, Math.gEq_bool, run_check_least, integer, h, ap_mRaiseF]
theorem check_least_low (i : Int) (s : Sto) (h : isShort (.int i) = true) (a : Int) (h2 : i < a) : run_check_least [.d (.int i), .d (.int a)] s = .exc (xN (.int i)) s := by
  simp -implicitDefEqProofs [Math.ap_eVar, Math.ap_lVar, Math.ap_eC, Math.ap_eL, Math.ap_eUn, Math.ap_eBin, Math.ap_eAnd, Math.ap_eOr, Math.ap_eNot, Math.ap_mE, Math.ap_mNot, Math.ap_mAnd, Math.ap_mOr, Math.ap_eIf, Math.ap_aNil, Math.ap_aCons, Math.ap_dNil, Math.ap_dCons, Math.ap_eTup, Math.ap_cLst, Math.ap_eFr, Math.ap_eIx, Math.ap_eSl, Math.ap_cList, Math.ap_eCall, Math.ap_cCall, Math.ap_mSeq, Math.ap_mNil, Math.ap_mSet, Math.ap_mSetC, Math.ap_mRet, Math.ap_mRetN, Math.ap_mRetL, Math.ap_mDrop, Math.ap_mIf, Math.ap_mNever, Math.ap_mPar, Math.ap_mPar3, Math.ap_mPut, Math.ap_mApp, Math.ap_mTo, Math.ap_mYes, Math.ap_iSq, Math.ap_iZp, Math.ap_iEn, Math.ap_mRetC, Math.ap_eCh, Math.ap_noPart, Math.ap_aPart, Math.ap_eSlice, Math.ap_mkF, Math.ap_mkC, Mir.env0, Mir.fin, Mir.finC, Mir.thenDo, Mir.toFl, Mir.wipeE, Mir.itemsOf, Mir.orBad, Mir.gNm, Mir.gTp, Mir.gNms, Mir.Out.bind, Mir.gIx, Mir.seqOf, Mir.gLen, Mir.gTuple, Mir.gAbs, Mir.gInt, Mir.gCmp, Mir.gI, Mir.gAdd, Mir.gSub, Mir.gNeg, Mir.gBols, Mir.gInts, Mir.gChain, Mir.nxO, Mir.putAt, Mir.appAt, Mir.isC, L2.atI, L2.ixN, Math.eIsi_tuple, Math.eIsi_int, Math.eIsi_bool, Math.gEq_int, Math.gEq_bool, run_check_least, integer, h, ap_mRaiseF, h2]
theorem check_least_ok (i : Int) (s : Sto) (h : isShort (.int i) = true) (a : Int) (h2 : ¬ i < a) : run_check_least [.d (.int i), .d (.int a)] s = .ok .none s := by
  simp -implicitDefEqProofs [Math.ap_eVar, Math.ap_lVar, Math.ap_eC, Math.ap_eL, Math.ap_eUn, Math.ap_eBin, Math.ap_eAnd, Math.ap_eOr, Math.ap_eNot, Math.ap_mE, Math.ap_mNot, Math.ap_mAnd, Math.ap_mOr, Math.ap_eIf, Math.ap_aNil, Math.ap_aCons, Math.ap_dNil, Math.ap_dCons, Math.ap_eTup, Math.ap_cLst, Math.ap_eFr, Math.ap_eIx, Math.ap_eSl, Math.ap_cList, Math.ap_eCall, Math.ap_cCall, Math.ap_mSeq, Math.ap_mNil, Math.ap_mSet, Math.ap_mSetC, Math.ap_mRet, Math.ap_mRetN, Math.ap_mRetL, Math.ap_mDrop, Math.ap_mIf, Math.ap_mNever, Math.ap_mPar, Math.ap_mPar3, Math.ap_mPut, Math.ap_mApp, Math.ap_mTo, Math.ap_mYes, Math.ap_iSq, Math.ap_iZp, Math.ap_iEn, Math.ap_mRetC, Math.ap_eCh, Math.ap_noPart, Math.ap_aPart, Math.ap_eSlice, Math.ap_mkF, Math.ap_mkC, Mir.env0, Mir.fin, Mir.finC, Mir.thenDo, Mir.toFl, Mir.wipeE, Mir.itemsOf, Mir.orBad, Mir.gNm, Mir.gTp, Mir.gNms, Mir.Out.bind, Mir.gIx, Mir.seqOf, Mir.gLen, Mir.gTuple, Mir.gAbs, Mir.gInt, Mir.gCmp, Mir.gI, Mir.gAdd, Mir.gSub, Mir.gNeg, Mir.gBols, Mir.gInts, Mir.gChain, Mir.nxO, Mir.putAt, Mir.appAt, Mir.isC, L2.atI, L2.ixN, Math.eIsi_tuple, Math.eIsi_int, Math.eIsi_bool, Math.gEq_int, Math.gEq_bool, run_check_least, integer, h, ap_mRaiseF, h2]
theorem nought_let (v : PyData) (s : Sto) (h : isShort v = false) : run_is_nought [.d v, .d (.int 0)] s = .ok (.bool false) s := by
  have e := check_least_ok 0 s rfl 0 (by decide)
  simp -implicitDefEqProofs [Math.ap_eVar, Math.ap_lVar, Math.ap_eC, Math.ap_eL, Math.ap_eUn, Math.ap_eBin, Math.ap_eAnd, Math.ap_eOr, Math.ap_eNot, Math.ap_mE, Math.ap_mNot, Math.ap_mAnd, Math.ap_mOr, Math.ap_eIf, Math.ap_aNil, Math.ap_aCons, Math.ap_dNil, Math.ap_dCons, Math.ap_eTup, Math.ap_cLst, Math.ap_eFr, Math.ap_eIx, Math.ap_eSl, Math.ap_cList, Math.ap_eCall, Math.ap_cCall, Math.ap_mSeq, Math.ap_mNil, Math.ap_mSet, Math.ap_mSetC, Math.ap_mRet, Math.ap_mRetN, Math.ap_mRetL, Math.ap_mDrop, Math.ap_mIf, Math.ap_mNever, Math.ap_mPar, Math.ap_mPar3, Math.ap_mPut, Math.ap_mApp, Math.ap_mTo, Math.ap_mYes, Math.ap_iSq, Math.ap_iZp, Math.ap_iEn, Math.ap_mRetC, Math.ap_eCh, Math.ap_noPart, Math.ap_aPart, Math.ap_eSlice, Math.ap_mkF, Math.ap_mkC, Mir.env0, Mir.fin, Mir.finC, Mir.thenDo, Mir.toFl, Mir.wipeE, Mir.itemsOf, Mir.orBad, Mir.gNm, Mir.gTp, Mir.gNms, Mir.Out.bind, Mir.gIx, Mir.seqOf, Mir.gLen, Mir.gTuple, Mir.gAbs, Mir.gInt, Mir.gCmp, Mir.gI, Mir.gAdd, Mir.gSub, Mir.gNeg, Mir.gBols, Mir.gInts, Mir.gChain, Mir.nxO, Mir.putAt, Mir.appAt, Mir.isC, L2.atI, L2.ixN, Math.eIsi_tuple, Math.eIsi_int, Math.eIsi_bool, Math.gEq_int, Math.gEq_bool, run_is_nought, e, integer, h]
theorem nought_low (v w : PyData) (s : Sto) (e : run_check_least [.d w, .d (.int 0)] s = .exc (xN w) s) : run_is_nought [.d v, .d w] s = .exc (xN w) s := by
  simp -implicitDefEqProofs [Math.ap_eVar, Math.ap_lVar, Math.ap_eC, Math.ap_eL, Math.ap_eUn, Math.ap_eBin, Math.ap_eAnd, Math.ap_eOr, Math.ap_eNot, Math.ap_mE, Math.ap_mNot, Math.ap_mAnd, Math.ap_mOr, Math.ap_eIf, Math.ap_aNil, Math.ap_aCons, Math.ap_dNil, Math.ap_dCons, Math.ap_eTup, Math.ap_cLst, Math.ap_eFr, Math.ap_eIx, Math.ap_eSl, Math.ap_cList, Math.ap_eCall, Math.ap_cCall, Math.ap_mSeq, Math.ap_mNil, Math.ap_mSet, Math.ap_mSetC, Math.ap_mRet, Math.ap_mRetN, Math.ap_mRetL, Math.ap_mDrop, Math.ap_mIf, Math.ap_mNever, Math.ap_mPar, Math.ap_mPar3, Math.ap_mPut, Math.ap_mApp, Math.ap_mTo, Math.ap_mYes, Math.ap_iSq, Math.ap_iZp, Math.ap_iEn, Math.ap_mRetC, Math.ap_eCh, Math.ap_noPart, Math.ap_aPart, Math.ap_eSlice, Math.ap_mkF, Math.ap_mkC, Mir.env0, Mir.fin, Mir.finC, Mir.thenDo, Mir.toFl, Mir.wipeE, Mir.itemsOf, Mir.orBad, Mir.gNm, Mir.gTp, Mir.gNms, Mir.Out.bind, Mir.gIx, Mir.seqOf, Mir.gLen, Mir.gTuple, Mir.gAbs, Mir.gInt, Mir.gCmp, Mir.gI, Mir.gAdd, Mir.gSub, Mir.gNeg, Mir.gBols, Mir.gInts, Mir.gChain, Mir.nxO, Mir.putAt, Mir.appAt, Mir.isC, L2.atI, L2.ixN, Math.eIsi_tuple, Math.eIsi_int, Math.eIsi_bool, Math.gEq_int, Math.gEq_bool, run_is_nought, e]
end Math
/-! # k04: what does not fit, and what is let -/
namespace Math
open PySem Mir Fn
abbrev one : PyData := .tuple [.int 1, .tuple [.tuple [.int 1]]]
abbrev wide : PyData := .tuple [.int 2, .tuple [.tuple [.int 1, .int 2]]]
abbrev high : PyData := .tuple [.int 1, .tuple [.tuple [.int 1], .tuple [.int 2]]]
theorem ok_one : GridOk 1 [[1]] where
  wide := by decide
  high := by decide
  len := by decide
  few := by simp [Few]
theorem ok_wide : GridOk 2 [[1, 2]] where
  wide := by decide
  high := by decide
  len := by decide
  few := by simp [Few]
theorem ok_high : GridOk 1 [[1], [2]] where
  wide := by decide
  high := by decide
  len := by decide
  few := by simp [Few]
theorem is_one : isGrid one = true := ok_one.is
theorem is_wide : isGrid wide = true := ok_wide.is
theorem is_high : isGrid high = true := ok_high.is
theorem sum_fit (s : Sto) : run_grid_sum [.d one, .d wide] s = .exc xO s := by
  have e := check_grids one wide s is_one is_wide
  simp -implicitDefEqProofs [Math.ap_eVar, Math.ap_lVar, Math.ap_eC, Math.ap_eL, Math.ap_eUn, Math.ap_eBin, Math.ap_eAnd, Math.ap_eOr, Math.ap_eNot, Math.ap_mE, Math.ap_mNot, Math.ap_mAnd, Math.ap_mOr, Math.ap_eIf, Math.ap_aNil, Math.ap_aCons, Math.ap_dNil, Math.ap_dCons, Math.ap_eTup, Math.ap_cLst, Math.ap_eFr, Math.ap_eIx, Math.ap_eSl, Math.ap_cList, Math.ap_eCall, Math.ap_cCall, Math.ap_mSeq, Math.ap_mNil, Math.ap_mSet, Math.ap_mSetC, Math.ap_mRet, Math.ap_mRetN, Math.ap_mRetL, Math.ap_mDrop, Math.ap_mIf, Math.ap_mNever, Math.ap_mPar, Math.ap_mPar3, Math.ap_mPut, Math.ap_mApp, Math.ap_mTo, Math.ap_mYes, Math.ap_iSq, Math.ap_iZp, Math.ap_iEn, Math.ap_mRetC, Math.ap_eCh, Math.ap_noPart, Math.ap_aPart, Math.ap_eSlice, Math.ap_mkF, Math.ap_mkC, Mir.env0, Mir.fin, Mir.finC, Mir.thenDo, Mir.toFl, Mir.wipeE, Mir.itemsOf, Mir.orBad, Mir.gNm, Mir.gTp, Mir.gNms, Mir.Out.bind, Mir.gIx, Mir.seqOf, Mir.gLen, Mir.gTuple, Mir.gAbs, Mir.gInt, Mir.gCmp, Mir.gI, Mir.gAdd, Mir.gSub, Mir.gNeg, Mir.gBols, Mir.gInts, Mir.gChain, Mir.nxO, Mir.putAt, Mir.appAt, Mir.isC, L2.atI, L2.ixN, Math.eIsi_tuple, Math.eIsi_int, Math.eIsi_bool, Math.gEq_int, Math.gEq_bool, run_grid_sum, run_check_like, e, check_fit_no]
theorem difference_fit (s : Sto) : run_grid_difference [.d one, .d high] s = .exc xO s := by
  have e := check_grids one high s is_one is_high
  simp -implicitDefEqProofs [Math.ap_eVar, Math.ap_lVar, Math.ap_eC, Math.ap_eL, Math.ap_eUn, Math.ap_eBin, Math.ap_eAnd, Math.ap_eOr, Math.ap_eNot, Math.ap_mE, Math.ap_mNot, Math.ap_mAnd, Math.ap_mOr, Math.ap_eIf, Math.ap_aNil, Math.ap_aCons, Math.ap_dNil, Math.ap_dCons, Math.ap_eTup, Math.ap_cLst, Math.ap_eFr, Math.ap_eIx, Math.ap_eSl, Math.ap_cList, Math.ap_eCall, Math.ap_cCall, Math.ap_mSeq, Math.ap_mNil, Math.ap_mSet, Math.ap_mSetC, Math.ap_mRet, Math.ap_mRetN, Math.ap_mRetL, Math.ap_mDrop, Math.ap_mIf, Math.ap_mNever, Math.ap_mPar, Math.ap_mPar3, Math.ap_mPut, Math.ap_mApp, Math.ap_mTo, Math.ap_mYes, Math.ap_iSq, Math.ap_iZp, Math.ap_iEn, Math.ap_mRetC, Math.ap_eCh, Math.ap_noPart, Math.ap_aPart, Math.ap_eSlice, Math.ap_mkF, Math.ap_mkC, Mir.env0, Mir.fin, Mir.finC, Mir.thenDo, Mir.toFl, Mir.wipeE, Mir.itemsOf, Mir.orBad, Mir.gNm, Mir.gTp, Mir.gNms, Mir.Out.bind, Mir.gIx, Mir.seqOf, Mir.gLen, Mir.gTuple, Mir.gAbs, Mir.gInt, Mir.gCmp, Mir.gI, Mir.gAdd, Mir.gSub, Mir.gNeg, Mir.gBols, Mir.gInts, Mir.gChain, Mir.nxO, Mir.putAt, Mir.appAt, Mir.isC, L2.atI, L2.ixN, Math.eIsi_tuple, Math.eIsi_int, Math.eIsi_bool, Math.gEq_int, Math.gEq_bool, run_grid_difference, run_check_like, e, check_fit_no]
theorem product_fit (s : Sto) : run_grid_product [.d wide, .d one] s = .exc xO s := by
  have e := check_grids wide one s is_wide is_one
  simp -implicitDefEqProofs [Math.ap_eVar, Math.ap_lVar, Math.ap_eC, Math.ap_eL, Math.ap_eUn, Math.ap_eBin, Math.ap_eAnd, Math.ap_eOr, Math.ap_eNot, Math.ap_mE, Math.ap_mNot, Math.ap_mAnd, Math.ap_mOr, Math.ap_eIf, Math.ap_aNil, Math.ap_aCons, Math.ap_dNil, Math.ap_dCons, Math.ap_eTup, Math.ap_cLst, Math.ap_eFr, Math.ap_eIx, Math.ap_eSl, Math.ap_cList, Math.ap_eCall, Math.ap_cCall, Math.ap_mSeq, Math.ap_mNil, Math.ap_mSet, Math.ap_mSetC, Math.ap_mRet, Math.ap_mRetN, Math.ap_mRetL, Math.ap_mDrop, Math.ap_mIf, Math.ap_mNever, Math.ap_mPar, Math.ap_mPar3, Math.ap_mPut, Math.ap_mApp, Math.ap_mTo, Math.ap_mYes, Math.ap_iSq, Math.ap_iZp, Math.ap_iEn, Math.ap_mRetC, Math.ap_eCh, Math.ap_noPart, Math.ap_aPart, Math.ap_eSlice, Math.ap_mkF, Math.ap_mkC, Mir.env0, Mir.fin, Mir.finC, Mir.thenDo, Mir.toFl, Mir.wipeE, Mir.itemsOf, Mir.orBad, Mir.gNm, Mir.gTp, Mir.gNms, Mir.Out.bind, Mir.gIx, Mir.seqOf, Mir.gLen, Mir.gTuple, Mir.gAbs, Mir.gInt, Mir.gCmp, Mir.gI, Mir.gAdd, Mir.gSub, Mir.gNeg, Mir.gBols, Mir.gInts, Mir.gChain, Mir.nxO, Mir.putAt, Mir.appAt, Mir.isC, L2.atI, L2.ixN, Math.eIsi_tuple, Math.eIsi_int, Math.eIsi_bool, Math.gEq_int, Math.gEq_bool, run_grid_product, e, check_fit_no]
theorem beside_fit (s : Sto) : run_beside [.d one, .d high] s = .exc xO s := by
  have e := check_grids one high s is_one is_high
  simp -implicitDefEqProofs [Math.ap_eVar, Math.ap_lVar, Math.ap_eC, Math.ap_eL, Math.ap_eUn, Math.ap_eBin, Math.ap_eAnd, Math.ap_eOr, Math.ap_eNot, Math.ap_mE, Math.ap_mNot, Math.ap_mAnd, Math.ap_mOr, Math.ap_eIf, Math.ap_aNil, Math.ap_aCons, Math.ap_dNil, Math.ap_dCons, Math.ap_eTup, Math.ap_cLst, Math.ap_eFr, Math.ap_eIx, Math.ap_eSl, Math.ap_cList, Math.ap_eCall, Math.ap_cCall, Math.ap_mSeq, Math.ap_mNil, Math.ap_mSet, Math.ap_mSetC, Math.ap_mRet, Math.ap_mRetN, Math.ap_mRetL, Math.ap_mDrop, Math.ap_mIf, Math.ap_mNever, Math.ap_mPar, Math.ap_mPar3, Math.ap_mPut, Math.ap_mApp, Math.ap_mTo, Math.ap_mYes, Math.ap_iSq, Math.ap_iZp, Math.ap_iEn, Math.ap_mRetC, Math.ap_eCh, Math.ap_noPart, Math.ap_aPart, Math.ap_eSlice, Math.ap_mkF, Math.ap_mkC, Mir.env0, Mir.fin, Mir.finC, Mir.thenDo, Mir.toFl, Mir.wipeE, Mir.itemsOf, Mir.orBad, Mir.gNm, Mir.gTp, Mir.gNms, Mir.Out.bind, Mir.gIx, Mir.seqOf, Mir.gLen, Mir.gTuple, Mir.gAbs, Mir.gInt, Mir.gCmp, Mir.gI, Mir.gAdd, Mir.gSub, Mir.gNeg, Mir.gBols, Mir.gInts, Mir.gChain, Mir.nxO, Mir.putAt, Mir.appAt, Mir.isC, L2.atI, L2.ixN, Math.eIsi_tuple, Math.eIsi_int, Math.eIsi_bool, Math.gEq_int, Math.gEq_bool, run_beside, e, check_fit_no]
theorem over_fit (s : Sto) : run_over [.d one, .d wide] s = .exc xO s := by
  have e := check_grids one wide s is_one is_wide
  simp -implicitDefEqProofs [Math.ap_eVar, Math.ap_lVar, Math.ap_eC, Math.ap_eL, Math.ap_eUn, Math.ap_eBin, Math.ap_eAnd, Math.ap_eOr, Math.ap_eNot, Math.ap_mE, Math.ap_mNot, Math.ap_mAnd, Math.ap_mOr, Math.ap_eIf, Math.ap_aNil, Math.ap_aCons, Math.ap_dNil, Math.ap_dCons, Math.ap_eTup, Math.ap_cLst, Math.ap_eFr, Math.ap_eIx, Math.ap_eSl, Math.ap_cList, Math.ap_eCall, Math.ap_cCall, Math.ap_mSeq, Math.ap_mNil, Math.ap_mSet, Math.ap_mSetC, Math.ap_mRet, Math.ap_mRetN, Math.ap_mRetL, Math.ap_mDrop, Math.ap_mIf, Math.ap_mNever, Math.ap_mPar, Math.ap_mPar3, Math.ap_mPut, Math.ap_mApp, Math.ap_mTo, Math.ap_mYes, Math.ap_iSq, Math.ap_iZp, Math.ap_iEn, Math.ap_mRetC, Math.ap_eCh, Math.ap_noPart, Math.ap_aPart, Math.ap_eSlice, Math.ap_mkF, Math.ap_mkC, Mir.env0, Mir.fin, Mir.finC, Mir.thenDo, Mir.toFl, Mir.wipeE, Mir.itemsOf, Mir.orBad, Mir.gNm, Mir.gTp, Mir.gNms, Mir.Out.bind, Mir.gIx, Mir.seqOf, Mir.gLen, Mir.gTuple, Mir.gAbs, Mir.gInt, Mir.gCmp, Mir.gI, Mir.gAdd, Mir.gSub, Mir.gNeg, Mir.gBols, Mir.gInts, Mir.gChain, Mir.nxO, Mir.putAt, Mir.appAt, Mir.isC, L2.atI, L2.ixN, Math.eIsi_tuple, Math.eIsi_int, Math.eIsi_bool, Math.gEq_int, Math.gEq_bool, run_over, e, check_fit_no]
theorem product_let1 (s : Sto) : ∃ v, run_grid_product [.d high, .d one] s = .ok v s := ⟨_, GridOk.mk_product ok_high ok_one rfl⟩
theorem product_let2 (s : Sto) : ∃ v, run_grid_product [.d one, .d wide] s = .ok v s := ⟨_, GridOk.mk_product ok_one ok_wide rfl⟩
theorem is_row1 : isRow (.tuple [.int 1]) = true := by decide
theorem is_row2 : isRow (.tuple [.int 1, .int 2]) = true := by decide
theorem is_row0 : isRow (.tuple []) = true := by decide
theorem led_fit (s : Sto) : run_led [.d wide, .d (.tuple [.int 1])] s = .exc xO s := by
  have e := check_grid wide s is_wide
  have e2 := check_row_ok (.tuple [.int 1]) s is_row1
  simp -implicitDefEqProofs [Math.ap_eVar, Math.ap_lVar, Math.ap_eC, Math.ap_eL, Math.ap_eUn, Math.ap_eBin, Math.ap_eAnd, Math.ap_eOr, Math.ap_eNot, Math.ap_mE, Math.ap_mNot, Math.ap_mAnd, Math.ap_mOr, Math.ap_eIf, Math.ap_aNil, Math.ap_aCons, Math.ap_dNil, Math.ap_dCons, Math.ap_eTup, Math.ap_cLst, Math.ap_eFr, Math.ap_eIx, Math.ap_eSl, Math.ap_cList, Math.ap_eCall, Math.ap_cCall, Math.ap_mSeq, Math.ap_mNil, Math.ap_mSet, Math.ap_mSetC, Math.ap_mRet, Math.ap_mRetN, Math.ap_mRetL, Math.ap_mDrop, Math.ap_mIf, Math.ap_mNever, Math.ap_mPar, Math.ap_mPar3, Math.ap_mPut, Math.ap_mApp, Math.ap_mTo, Math.ap_mYes, Math.ap_iSq, Math.ap_iZp, Math.ap_iEn, Math.ap_mRetC, Math.ap_eCh, Math.ap_noPart, Math.ap_aPart, Math.ap_eSlice, Math.ap_mkF, Math.ap_mkC, Mir.env0, Mir.fin, Mir.finC, Mir.thenDo, Mir.toFl, Mir.wipeE, Mir.itemsOf, Mir.orBad, Mir.gNm, Mir.gTp, Mir.gNms, Mir.Out.bind, Mir.gIx, Mir.seqOf, Mir.gLen, Mir.gTuple, Mir.gAbs, Mir.gInt, Mir.gCmp, Mir.gI, Mir.gAdd, Mir.gSub, Mir.gNeg, Mir.gBols, Mir.gInts, Mir.gChain, Mir.nxO, Mir.putAt, Mir.appAt, Mir.isC, L2.atI, L2.ixN, Math.eIsi_tuple, Math.eIsi_int, Math.eIsi_bool, Math.gEq_int, Math.gEq_bool, run_led, e, e2, check_fit_no]
theorem read_fit (s : Sto) : run_read_by [.d (.tuple [.int 1]), .d high] s = .exc xO s := by
  have e := check_grid high s is_high
  have e2 := check_row_ok (.tuple [.int 1]) s is_row1
  simp -implicitDefEqProofs [Math.ap_eVar, Math.ap_lVar, Math.ap_eC, Math.ap_eL, Math.ap_eUn, Math.ap_eBin, Math.ap_eAnd, Math.ap_eOr, Math.ap_eNot, Math.ap_mE, Math.ap_mNot, Math.ap_mAnd, Math.ap_mOr, Math.ap_eIf, Math.ap_aNil, Math.ap_aCons, Math.ap_dNil, Math.ap_dCons, Math.ap_eTup, Math.ap_cLst, Math.ap_eFr, Math.ap_eIx, Math.ap_eSl, Math.ap_cList, Math.ap_eCall, Math.ap_cCall, Math.ap_mSeq, Math.ap_mNil, Math.ap_mSet, Math.ap_mSetC, Math.ap_mRet, Math.ap_mRetN, Math.ap_mRetL, Math.ap_mDrop, Math.ap_mIf, Math.ap_mNever, Math.ap_mPar, Math.ap_mPar3, Math.ap_mPut, Math.ap_mApp, Math.ap_mTo, Math.ap_mYes, Math.ap_iSq, Math.ap_iZp, Math.ap_iEn, Math.ap_mRetC, Math.ap_eCh, Math.ap_noPart, Math.ap_aPart, Math.ap_eSlice, Math.ap_mkF, Math.ap_mkC, Mir.env0, Mir.fin, Mir.finC, Mir.thenDo, Mir.toFl, Mir.wipeE, Mir.itemsOf, Mir.orBad, Mir.gNm, Mir.gTp, Mir.gNms, Mir.Out.bind, Mir.gIx, Mir.seqOf, Mir.gLen, Mir.gTuple, Mir.gAbs, Mir.gInt, Mir.gCmp, Mir.gI, Mir.gAdd, Mir.gSub, Mir.gNeg, Mir.gBols, Mir.gInts, Mir.gChain, Mir.nxO, Mir.putAt, Mir.appAt, Mir.isC, L2.atI, L2.ixN, Math.eIsi_tuple, Math.eIsi_int, Math.eIsi_bool, Math.gEq_int, Math.gEq_bool, run_read_by, e, e2, check_fit_no]
theorem plain_led_let (s : Sto) : run_plain_led [.d wide, .d (.tuple [.int 1, .int 2])] s = .ok (.tuple [.int 5]) s := by
  have e : run_plain_dot [.d (.tuple [.int 1, .int 2]), .d (.tuple [.int 1, .int 2])] s = .ok (.int 5) s := by
    simp -implicitDefEqProofs [Math.ap_eVar, Math.ap_lVar, Math.ap_eC, Math.ap_eL, Math.ap_eUn, Math.ap_eBin, Math.ap_eAnd, Math.ap_eOr, Math.ap_eNot, Math.ap_mE, Math.ap_mNot, Math.ap_mAnd, Math.ap_mOr, Math.ap_eIf, Math.ap_aNil, Math.ap_aCons, Math.ap_dNil, Math.ap_dCons, Math.ap_eTup, Math.ap_cLst, Math.ap_eFr, Math.ap_eIx, Math.ap_eSl, Math.ap_cList, Math.ap_eCall, Math.ap_cCall, Math.ap_mSeq, Math.ap_mNil, Math.ap_mSet, Math.ap_mSetC, Math.ap_mRet, Math.ap_mRetN, Math.ap_mRetL, Math.ap_mDrop, Math.ap_mIf, Math.ap_mNever, Math.ap_mPar, Math.ap_mPar3, Math.ap_mPut, Math.ap_mApp, Math.ap_mTo, Math.ap_mYes, Math.ap_iSq, Math.ap_iZp, Math.ap_iEn, Math.ap_mRetC, Math.ap_eCh, Math.ap_noPart, Math.ap_aPart, Math.ap_eSlice, Math.ap_mkF, Math.ap_mkC, Mir.env0, Mir.fin, Mir.finC, Mir.thenDo, Mir.toFl, Mir.wipeE, Mir.itemsOf, Mir.orBad, Mir.gNm, Mir.gTp, Mir.gNms, Mir.Out.bind, Mir.gIx, Mir.seqOf, Mir.gLen, Mir.gTuple, Mir.gAbs, Mir.gInt, Mir.gCmp, Mir.gI, Mir.gAdd, Mir.gSub, Mir.gNeg, Mir.gBols, Mir.gInts, Mir.gChain, Mir.nxO, Mir.putAt, Mir.appAt, Mir.isC, L2.atI, L2.ixN, Math.eIsi_tuple, Math.eIsi_int, Math.eIsi_bool, Math.gEq_int, Math.gEq_bool, run_plain_dot, ap_cComp, compL, zipD, ap_iZp, Mir.gMulA, CMulB, Mir.intsOf]
  simp -implicitDefEqProofs [Math.ap_eVar, Math.ap_lVar, Math.ap_eC, Math.ap_eL, Math.ap_eUn, Math.ap_eBin, Math.ap_eAnd, Math.ap_eOr, Math.ap_eNot, Math.ap_mE, Math.ap_mNot, Math.ap_mAnd, Math.ap_mOr, Math.ap_eIf, Math.ap_aNil, Math.ap_aCons, Math.ap_dNil, Math.ap_dCons, Math.ap_eTup, Math.ap_cLst, Math.ap_eFr, Math.ap_eIx, Math.ap_eSl, Math.ap_cList, Math.ap_eCall, Math.ap_cCall, Math.ap_mSeq, Math.ap_mNil, Math.ap_mSet, Math.ap_mSetC, Math.ap_mRet, Math.ap_mRetN, Math.ap_mRetL, Math.ap_mDrop, Math.ap_mIf, Math.ap_mNever, Math.ap_mPar, Math.ap_mPar3, Math.ap_mPut, Math.ap_mApp, Math.ap_mTo, Math.ap_mYes, Math.ap_iSq, Math.ap_iZp, Math.ap_iEn, Math.ap_mRetC, Math.ap_eCh, Math.ap_noPart, Math.ap_aPart, Math.ap_eSlice, Math.ap_mkF, Math.ap_mkC, Mir.env0, Mir.fin, Mir.finC, Mir.thenDo, Mir.toFl, Mir.wipeE, Mir.itemsOf, Mir.orBad, Mir.gNm, Mir.gTp, Mir.gNms, Mir.Out.bind, Mir.gIx, Mir.seqOf, Mir.gLen, Mir.gTuple, Mir.gAbs, Mir.gInt, Mir.gCmp, Mir.gI, Mir.gAdd, Mir.gSub, Mir.gNeg, Mir.gBols, Mir.gInts, Mir.gChain, Mir.nxO, Mir.putAt, Mir.appAt, Mir.isC, L2.atI, L2.ixN, Math.eIsi_tuple, Math.eIsi_int, Math.eIsi_bool, Math.gEq_int, Math.gEq_bool, run_plain_led, ap_cComp, compL, e]
theorem led_let (s : Sto) : run_led [.d wide, .d (.tuple [.int 1, .int 2])] s = .ok (.tuple [.int 5]) s := by
  have e := check_grid wide s is_wide
  have e2 := check_row_ok (.tuple [.int 1, .int 2]) s is_row2
  have e3 := plain_led_let s
  simp -implicitDefEqProofs [Math.ap_eVar, Math.ap_lVar, Math.ap_eC, Math.ap_eL, Math.ap_eUn, Math.ap_eBin, Math.ap_eAnd, Math.ap_eOr, Math.ap_eNot, Math.ap_mE, Math.ap_mNot, Math.ap_mAnd, Math.ap_mOr, Math.ap_eIf, Math.ap_aNil, Math.ap_aCons, Math.ap_dNil, Math.ap_dCons, Math.ap_eTup, Math.ap_cLst, Math.ap_eFr, Math.ap_eIx, Math.ap_eSl, Math.ap_cList, Math.ap_eCall, Math.ap_cCall, Math.ap_mSeq, Math.ap_mNil, Math.ap_mSet, Math.ap_mSetC, Math.ap_mRet, Math.ap_mRetN, Math.ap_mRetL, Math.ap_mDrop, Math.ap_mIf, Math.ap_mNever, Math.ap_mPar, Math.ap_mPar3, Math.ap_mPut, Math.ap_mApp, Math.ap_mTo, Math.ap_mYes, Math.ap_iSq, Math.ap_iZp, Math.ap_iEn, Math.ap_mRetC, Math.ap_eCh, Math.ap_noPart, Math.ap_aPart, Math.ap_eSlice, Math.ap_mkF, Math.ap_mkC, Mir.env0, Mir.fin, Mir.finC, Mir.thenDo, Mir.toFl, Mir.wipeE, Mir.itemsOf, Mir.orBad, Mir.gNm, Mir.gTp, Mir.gNms, Mir.Out.bind, Mir.gIx, Mir.seqOf, Mir.gLen, Mir.gTuple, Mir.gAbs, Mir.gInt, Mir.gCmp, Mir.gI, Mir.gAdd, Mir.gSub, Mir.gNeg, Mir.gBols, Mir.gInts, Mir.gChain, Mir.nxO, Mir.putAt, Mir.appAt, Mir.isC, L2.atI, L2.ixN, Math.eIsi_tuple, Math.eIsi_int, Math.eIsi_bool, Math.gEq_int, Math.gEq_bool, run_led, e, e2, e3, check_fit_ok]
theorem plain_read_let (s : Sto) : run_plain_read [.d (.tuple [.int 1, .int 2]), .d high] s = .ok (.tuple [.int 5]) s := by
  have e1 := plain_turned (s := s) ok_high
  have h1 : grid_D 1 [[1], [2]] = high := by simp [grid_D, rowD]
  have h2 : grid_D ([[1], [2]] : List (List Int)).length (cols [[1], [2]] 1) = wide := by simp [grid_D, rowD, cols, col]
  rw [h1, h2] at e1
  have e2 := plain_led_let s
  simp -implicitDefEqProofs [Math.ap_eVar, Math.ap_lVar, Math.ap_eC, Math.ap_eL, Math.ap_eUn, Math.ap_eBin, Math.ap_eAnd, Math.ap_eOr, Math.ap_eNot, Math.ap_mE, Math.ap_mNot, Math.ap_mAnd, Math.ap_mOr, Math.ap_eIf, Math.ap_aNil, Math.ap_aCons, Math.ap_dNil, Math.ap_dCons, Math.ap_eTup, Math.ap_cLst, Math.ap_eFr, Math.ap_eIx, Math.ap_eSl, Math.ap_cList, Math.ap_eCall, Math.ap_cCall, Math.ap_mSeq, Math.ap_mNil, Math.ap_mSet, Math.ap_mSetC, Math.ap_mRet, Math.ap_mRetN, Math.ap_mRetL, Math.ap_mDrop, Math.ap_mIf, Math.ap_mNever, Math.ap_mPar, Math.ap_mPar3, Math.ap_mPut, Math.ap_mApp, Math.ap_mTo, Math.ap_mYes, Math.ap_iSq, Math.ap_iZp, Math.ap_iEn, Math.ap_mRetC, Math.ap_eCh, Math.ap_noPart, Math.ap_aPart, Math.ap_eSlice, Math.ap_mkF, Math.ap_mkC, Mir.env0, Mir.fin, Mir.finC, Mir.thenDo, Mir.toFl, Mir.wipeE, Mir.itemsOf, Mir.orBad, Mir.gNm, Mir.gTp, Mir.gNms, Mir.Out.bind, Mir.gIx, Mir.seqOf, Mir.gLen, Mir.gTuple, Mir.gAbs, Mir.gInt, Mir.gCmp, Mir.gI, Mir.gAdd, Mir.gSub, Mir.gNeg, Mir.gBols, Mir.gInts, Mir.gChain, Mir.nxO, Mir.putAt, Mir.appAt, Mir.isC, L2.atI, L2.ixN, Math.eIsi_tuple, Math.eIsi_int, Math.eIsi_bool, Math.gEq_int, Math.gEq_bool, run_plain_read, e1, e2]
theorem read_let (s : Sto) : run_read_by [.d (.tuple [.int 1, .int 2]), .d high] s = .ok (.tuple [.int 5]) s := by
  have e := check_grid high s is_high
  have e2 := check_row_ok (.tuple [.int 1, .int 2]) s is_row2
  have e3 := plain_read_let s
  simp -implicitDefEqProofs [Math.ap_eVar, Math.ap_lVar, Math.ap_eC, Math.ap_eL, Math.ap_eUn, Math.ap_eBin, Math.ap_eAnd, Math.ap_eOr, Math.ap_eNot, Math.ap_mE, Math.ap_mNot, Math.ap_mAnd, Math.ap_mOr, Math.ap_eIf, Math.ap_aNil, Math.ap_aCons, Math.ap_dNil, Math.ap_dCons, Math.ap_eTup, Math.ap_cLst, Math.ap_eFr, Math.ap_eIx, Math.ap_eSl, Math.ap_cList, Math.ap_eCall, Math.ap_cCall, Math.ap_mSeq, Math.ap_mNil, Math.ap_mSet, Math.ap_mSetC, Math.ap_mRet, Math.ap_mRetN, Math.ap_mRetL, Math.ap_mDrop, Math.ap_mIf, Math.ap_mNever, Math.ap_mPar, Math.ap_mPar3, Math.ap_mPut, Math.ap_mApp, Math.ap_mTo, Math.ap_mYes, Math.ap_iSq, Math.ap_iZp, Math.ap_iEn, Math.ap_mRetC, Math.ap_eCh, Math.ap_noPart, Math.ap_aPart, Math.ap_eSlice, Math.ap_mkF, Math.ap_mkC, Mir.env0, Mir.fin, Mir.finC, Mir.thenDo, Mir.toFl, Mir.wipeE, Mir.itemsOf, Mir.orBad, Mir.gNm, Mir.gTp, Mir.gNms, Mir.Out.bind, Mir.gIx, Mir.seqOf, Mir.gLen, Mir.gTuple, Mir.gAbs, Mir.gInt, Mir.gCmp, Mir.gI, Mir.gAdd, Mir.gSub, Mir.gNeg, Mir.gBols, Mir.gInts, Mir.gChain, Mir.nxO, Mir.putAt, Mir.appAt, Mir.isC, L2.atI, L2.ixN, Math.eIsi_tuple, Math.eIsi_int, Math.eIsi_bool, Math.gEq_int, Math.gEq_bool, run_read_by, e, e2, e3, check_fit_ok]
theorem check_rows_fit (s : Sto) : run_check_rows [.d (.tuple [.int 1, .int 2]), .d (.tuple [.int 1])] s = .exc xO s := by
  have e := check_row_ok (.tuple [.int 1, .int 2]) s is_row2
  have e2 := check_row_ok (.tuple [.int 1]) s is_row1
  simp -implicitDefEqProofs [Math.ap_eVar, Math.ap_lVar, Math.ap_eC, Math.ap_eL, Math.ap_eUn, Math.ap_eBin, Math.ap_eAnd, Math.ap_eOr, Math.ap_eNot, Math.ap_mE, Math.ap_mNot, Math.ap_mAnd, Math.ap_mOr, Math.ap_eIf, Math.ap_aNil, Math.ap_aCons, Math.ap_dNil, Math.ap_dCons, Math.ap_eTup, Math.ap_cLst, Math.ap_eFr, Math.ap_eIx, Math.ap_eSl, Math.ap_cList, Math.ap_eCall, Math.ap_cCall, Math.ap_mSeq, Math.ap_mNil, Math.ap_mSet, Math.ap_mSetC, Math.ap_mRet, Math.ap_mRetN, Math.ap_mRetL, Math.ap_mDrop, Math.ap_mIf, Math.ap_mNever, Math.ap_mPar, Math.ap_mPar3, Math.ap_mPut, Math.ap_mApp, Math.ap_mTo, Math.ap_mYes, Math.ap_iSq, Math.ap_iZp, Math.ap_iEn, Math.ap_mRetC, Math.ap_eCh, Math.ap_noPart, Math.ap_aPart, Math.ap_eSlice, Math.ap_mkF, Math.ap_mkC, Mir.env0, Mir.fin, Mir.finC, Mir.thenDo, Mir.toFl, Mir.wipeE, Mir.itemsOf, Mir.orBad, Mir.gNm, Mir.gTp, Mir.gNms, Mir.Out.bind, Mir.gIx, Mir.seqOf, Mir.gLen, Mir.gTuple, Mir.gAbs, Mir.gInt, Mir.gCmp, Mir.gI, Mir.gAdd, Mir.gSub, Mir.gNeg, Mir.gBols, Mir.gInts, Mir.gChain, Mir.nxO, Mir.putAt, Mir.appAt, Mir.isC, L2.atI, L2.ixN, Math.eIsi_tuple, Math.eIsi_int, Math.eIsi_bool, Math.gEq_int, Math.gEq_bool, run_check_rows, e, e2, check_fit_no]
theorem check_rows_let (s : Sto) : run_check_rows [.d (.tuple []), .d (.tuple [])] s = .ok .none s := by
  have e := check_row_ok (.tuple []) s is_row0
  simp -implicitDefEqProofs [Math.ap_eVar, Math.ap_lVar, Math.ap_eC, Math.ap_eL, Math.ap_eUn, Math.ap_eBin, Math.ap_eAnd, Math.ap_eOr, Math.ap_eNot, Math.ap_mE, Math.ap_mNot, Math.ap_mAnd, Math.ap_mOr, Math.ap_eIf, Math.ap_aNil, Math.ap_aCons, Math.ap_dNil, Math.ap_dCons, Math.ap_eTup, Math.ap_cLst, Math.ap_eFr, Math.ap_eIx, Math.ap_eSl, Math.ap_cList, Math.ap_eCall, Math.ap_cCall, Math.ap_mSeq, Math.ap_mNil, Math.ap_mSet, Math.ap_mSetC, Math.ap_mRet, Math.ap_mRetN, Math.ap_mRetL, Math.ap_mDrop, Math.ap_mIf, Math.ap_mNever, Math.ap_mPar, Math.ap_mPar3, Math.ap_mPut, Math.ap_mApp, Math.ap_mTo, Math.ap_mYes, Math.ap_iSq, Math.ap_iZp, Math.ap_iEn, Math.ap_mRetC, Math.ap_eCh, Math.ap_noPart, Math.ap_aPart, Math.ap_eSlice, Math.ap_mkF, Math.ap_mkC, Mir.env0, Mir.fin, Mir.finC, Mir.thenDo, Mir.toFl, Mir.wipeE, Mir.itemsOf, Mir.orBad, Mir.gNm, Mir.gTp, Mir.gNms, Mir.Out.bind, Mir.gIx, Mir.seqOf, Mir.gLen, Mir.gTuple, Mir.gAbs, Mir.gInt, Mir.gCmp, Mir.gI, Mir.gAdd, Mir.gSub, Mir.gNeg, Mir.gBols, Mir.gInts, Mir.gChain, Mir.nxO, Mir.putAt, Mir.appAt, Mir.isC, L2.atI, L2.ixN, Math.eIsi_tuple, Math.eIsi_int, Math.eIsi_bool, Math.gEq_int, Math.gEq_bool, run_check_rows, e, check_fit_ok]
theorem dot_fit (s : Sto) : run_dot [.d (.tuple [.int 1, .int 2]), .d (.tuple [.int 1])] s = .exc xO s := by
  have e := check_rows_fit s
  simp -implicitDefEqProofs [Math.ap_eVar, Math.ap_lVar, Math.ap_eC, Math.ap_eL, Math.ap_eUn, Math.ap_eBin, Math.ap_eAnd, Math.ap_eOr, Math.ap_eNot, Math.ap_mE, Math.ap_mNot, Math.ap_mAnd, Math.ap_mOr, Math.ap_eIf, Math.ap_aNil, Math.ap_aCons, Math.ap_dNil, Math.ap_dCons, Math.ap_eTup, Math.ap_cLst, Math.ap_eFr, Math.ap_eIx, Math.ap_eSl, Math.ap_cList, Math.ap_eCall, Math.ap_cCall, Math.ap_mSeq, Math.ap_mNil, Math.ap_mSet, Math.ap_mSetC, Math.ap_mRet, Math.ap_mRetN, Math.ap_mRetL, Math.ap_mDrop, Math.ap_mIf, Math.ap_mNever, Math.ap_mPar, Math.ap_mPar3, Math.ap_mPut, Math.ap_mApp, Math.ap_mTo, Math.ap_mYes, Math.ap_iSq, Math.ap_iZp, Math.ap_iEn, Math.ap_mRetC, Math.ap_eCh, Math.ap_noPart, Math.ap_aPart, Math.ap_eSlice, Math.ap_mkF, Math.ap_mkC, Mir.env0, Mir.fin, Mir.finC, Mir.thenDo, Mir.toFl, Mir.wipeE, Mir.itemsOf, Mir.orBad, Mir.gNm, Mir.gTp, Mir.gNms, Mir.Out.bind, Mir.gIx, Mir.seqOf, Mir.gLen, Mir.gTuple, Mir.gAbs, Mir.gInt, Mir.gCmp, Mir.gI, Mir.gAdd, Mir.gSub, Mir.gNeg, Mir.gBols, Mir.gInts, Mir.gChain, Mir.nxO, Mir.putAt, Mir.appAt, Mir.isC, L2.atI, L2.ixN, Math.eIsi_tuple, Math.eIsi_int, Math.eIsi_bool, Math.gEq_int, Math.gEq_bool, run_dot, e]
theorem rsum_fit (s : Sto) : run_row_sum [.d (.tuple [.int 1, .int 2]), .d (.tuple [.int 1])] s = .exc xO s := by
  have e := check_rows_fit s
  simp -implicitDefEqProofs [Math.ap_eVar, Math.ap_lVar, Math.ap_eC, Math.ap_eL, Math.ap_eUn, Math.ap_eBin, Math.ap_eAnd, Math.ap_eOr, Math.ap_eNot, Math.ap_mE, Math.ap_mNot, Math.ap_mAnd, Math.ap_mOr, Math.ap_eIf, Math.ap_aNil, Math.ap_aCons, Math.ap_dNil, Math.ap_dCons, Math.ap_eTup, Math.ap_cLst, Math.ap_eFr, Math.ap_eIx, Math.ap_eSl, Math.ap_cList, Math.ap_eCall, Math.ap_cCall, Math.ap_mSeq, Math.ap_mNil, Math.ap_mSet, Math.ap_mSetC, Math.ap_mRet, Math.ap_mRetN, Math.ap_mRetL, Math.ap_mDrop, Math.ap_mIf, Math.ap_mNever, Math.ap_mPar, Math.ap_mPar3, Math.ap_mPut, Math.ap_mApp, Math.ap_mTo, Math.ap_mYes, Math.ap_iSq, Math.ap_iZp, Math.ap_iEn, Math.ap_mRetC, Math.ap_eCh, Math.ap_noPart, Math.ap_aPart, Math.ap_eSlice, Math.ap_mkF, Math.ap_mkC, Mir.env0, Mir.fin, Mir.finC, Mir.thenDo, Mir.toFl, Mir.wipeE, Mir.itemsOf, Mir.orBad, Mir.gNm, Mir.gTp, Mir.gNms, Mir.Out.bind, Mir.gIx, Mir.seqOf, Mir.gLen, Mir.gTuple, Mir.gAbs, Mir.gInt, Mir.gCmp, Mir.gI, Mir.gAdd, Mir.gSub, Mir.gNeg, Mir.gBols, Mir.gInts, Mir.gChain, Mir.nxO, Mir.putAt, Mir.appAt, Mir.isC, L2.atI, L2.ixN, Math.eIsi_tuple, Math.eIsi_int, Math.eIsi_bool, Math.gEq_int, Math.gEq_bool, run_row_sum, e]
theorem rdiff_fit (s : Sto) : run_row_difference [.d (.tuple [.int 1, .int 2]), .d (.tuple [.int 1])] s = .exc xO s := by
  have e := check_rows_fit s
  simp -implicitDefEqProofs [Math.ap_eVar, Math.ap_lVar, Math.ap_eC, Math.ap_eL, Math.ap_eUn, Math.ap_eBin, Math.ap_eAnd, Math.ap_eOr, Math.ap_eNot, Math.ap_mE, Math.ap_mNot, Math.ap_mAnd, Math.ap_mOr, Math.ap_eIf, Math.ap_aNil, Math.ap_aCons, Math.ap_dNil, Math.ap_dCons, Math.ap_eTup, Math.ap_cLst, Math.ap_eFr, Math.ap_eIx, Math.ap_eSl, Math.ap_cList, Math.ap_eCall, Math.ap_cCall, Math.ap_mSeq, Math.ap_mNil, Math.ap_mSet, Math.ap_mSetC, Math.ap_mRet, Math.ap_mRetN, Math.ap_mRetL, Math.ap_mDrop, Math.ap_mIf, Math.ap_mNever, Math.ap_mPar, Math.ap_mPar3, Math.ap_mPut, Math.ap_mApp, Math.ap_mTo, Math.ap_mYes, Math.ap_iSq, Math.ap_iZp, Math.ap_iEn, Math.ap_mRetC, Math.ap_eCh, Math.ap_noPart, Math.ap_aPart, Math.ap_eSlice, Math.ap_mkF, Math.ap_mkC, Mir.env0, Mir.fin, Mir.finC, Mir.thenDo, Mir.toFl, Mir.wipeE, Mir.itemsOf, Mir.orBad, Mir.gNm, Mir.gTp, Mir.gNms, Mir.Out.bind, Mir.gIx, Mir.seqOf, Mir.gLen, Mir.gTuple, Mir.gAbs, Mir.gInt, Mir.gCmp, Mir.gI, Mir.gAdd, Mir.gSub, Mir.gNeg, Mir.gBols, Mir.gInts, Mir.gChain, Mir.nxO, Mir.putAt, Mir.appAt, Mir.isC, L2.atI, L2.ixN, Math.eIsi_tuple, Math.eIsi_int, Math.eIsi_bool, Math.gEq_int, Math.gEq_bool, run_row_difference, e]
theorem dot_let (s : Sto) : run_dot [.d (.tuple []), .d (.tuple [])] s = .ok (.int 0) s := by
  have e := check_rows_let s
  simp -implicitDefEqProofs [Math.ap_eVar, Math.ap_lVar, Math.ap_eC, Math.ap_eL, Math.ap_eUn, Math.ap_eBin, Math.ap_eAnd, Math.ap_eOr, Math.ap_eNot, Math.ap_mE, Math.ap_mNot, Math.ap_mAnd, Math.ap_mOr, Math.ap_eIf, Math.ap_aNil, Math.ap_aCons, Math.ap_dNil, Math.ap_dCons, Math.ap_eTup, Math.ap_cLst, Math.ap_eFr, Math.ap_eIx, Math.ap_eSl, Math.ap_cList, Math.ap_eCall, Math.ap_cCall, Math.ap_mSeq, Math.ap_mNil, Math.ap_mSet, Math.ap_mSetC, Math.ap_mRet, Math.ap_mRetN, Math.ap_mRetL, Math.ap_mDrop, Math.ap_mIf, Math.ap_mNever, Math.ap_mPar, Math.ap_mPar3, Math.ap_mPut, Math.ap_mApp, Math.ap_mTo, Math.ap_mYes, Math.ap_iSq, Math.ap_iZp, Math.ap_iEn, Math.ap_mRetC, Math.ap_eCh, Math.ap_noPart, Math.ap_aPart, Math.ap_eSlice, Math.ap_mkF, Math.ap_mkC, Mir.env0, Mir.fin, Mir.finC, Mir.thenDo, Mir.toFl, Mir.wipeE, Mir.itemsOf, Mir.orBad, Mir.gNm, Mir.gTp, Mir.gNms, Mir.Out.bind, Mir.gIx, Mir.seqOf, Mir.gLen, Mir.gTuple, Mir.gAbs, Mir.gInt, Mir.gCmp, Mir.gI, Mir.gAdd, Mir.gSub, Mir.gNeg, Mir.gBols, Mir.gInts, Mir.gChain, Mir.nxO, Mir.putAt, Mir.appAt, Mir.isC, L2.atI, L2.ixN, Math.eIsi_tuple, Math.eIsi_int, Math.eIsi_bool, Math.gEq_int, Math.gEq_bool, run_dot, e, run_plain_dot, ap_cComp, compL, zipD, ap_iZp, intsOf]
theorem rsum_let (s : Sto) : run_row_sum [.d (.tuple []), .d (.tuple [])] s = .ok (.tuple []) s := by
  have e := check_rows_let s
  simp -implicitDefEqProofs [Math.ap_eVar, Math.ap_lVar, Math.ap_eC, Math.ap_eL, Math.ap_eUn, Math.ap_eBin, Math.ap_eAnd, Math.ap_eOr, Math.ap_eNot, Math.ap_mE, Math.ap_mNot, Math.ap_mAnd, Math.ap_mOr, Math.ap_eIf, Math.ap_aNil, Math.ap_aCons, Math.ap_dNil, Math.ap_dCons, Math.ap_eTup, Math.ap_cLst, Math.ap_eFr, Math.ap_eIx, Math.ap_eSl, Math.ap_cList, Math.ap_eCall, Math.ap_cCall, Math.ap_mSeq, Math.ap_mNil, Math.ap_mSet, Math.ap_mSetC, Math.ap_mRet, Math.ap_mRetN, Math.ap_mRetL, Math.ap_mDrop, Math.ap_mIf, Math.ap_mNever, Math.ap_mPar, Math.ap_mPar3, Math.ap_mPut, Math.ap_mApp, Math.ap_mTo, Math.ap_mYes, Math.ap_iSq, Math.ap_iZp, Math.ap_iEn, Math.ap_mRetC, Math.ap_eCh, Math.ap_noPart, Math.ap_aPart, Math.ap_eSlice, Math.ap_mkF, Math.ap_mkC, Mir.env0, Mir.fin, Mir.finC, Mir.thenDo, Mir.toFl, Mir.wipeE, Mir.itemsOf, Mir.orBad, Mir.gNm, Mir.gTp, Mir.gNms, Mir.Out.bind, Mir.gIx, Mir.seqOf, Mir.gLen, Mir.gTuple, Mir.gAbs, Mir.gInt, Mir.gCmp, Mir.gI, Mir.gAdd, Mir.gSub, Mir.gNeg, Mir.gBols, Mir.gInts, Mir.gChain, Mir.nxO, Mir.putAt, Mir.appAt, Mir.isC, L2.atI, L2.ixN, Math.eIsi_tuple, Math.eIsi_int, Math.eIsi_bool, Math.gEq_int, Math.gEq_bool, run_row_sum, e, run_row_more, ap_cComp, compL, zipD, ap_iZp]
theorem rdiff_let (s : Sto) : run_row_difference [.d (.tuple []), .d (.tuple [])] s = .ok (.tuple []) s := by
  have e := check_rows_let s
  simp -implicitDefEqProofs [Math.ap_eVar, Math.ap_lVar, Math.ap_eC, Math.ap_eL, Math.ap_eUn, Math.ap_eBin, Math.ap_eAnd, Math.ap_eOr, Math.ap_eNot, Math.ap_mE, Math.ap_mNot, Math.ap_mAnd, Math.ap_mOr, Math.ap_eIf, Math.ap_aNil, Math.ap_aCons, Math.ap_dNil, Math.ap_dCons, Math.ap_eTup, Math.ap_cLst, Math.ap_eFr, Math.ap_eIx, Math.ap_eSl, Math.ap_cList, Math.ap_eCall, Math.ap_cCall, Math.ap_mSeq, Math.ap_mNil, Math.ap_mSet, Math.ap_mSetC, Math.ap_mRet, Math.ap_mRetN, Math.ap_mRetL, Math.ap_mDrop, Math.ap_mIf, Math.ap_mNever, Math.ap_mPar, Math.ap_mPar3, Math.ap_mPut, Math.ap_mApp, Math.ap_mTo, Math.ap_mYes, Math.ap_iSq, Math.ap_iZp, Math.ap_iEn, Math.ap_mRetC, Math.ap_eCh, Math.ap_noPart, Math.ap_aPart, Math.ap_eSlice, Math.ap_mkF, Math.ap_mkC, Mir.env0, Mir.fin, Mir.finC, Mir.thenDo, Mir.toFl, Mir.wipeE, Mir.itemsOf, Mir.orBad, Mir.gNm, Mir.gTp, Mir.gNms, Mir.Out.bind, Mir.gIx, Mir.seqOf, Mir.gLen, Mir.gTuple, Mir.gAbs, Mir.gInt, Mir.gCmp, Mir.gI, Mir.gAdd, Mir.gSub, Mir.gNeg, Mir.gBols, Mir.gInts, Mir.gChain, Mir.nxO, Mir.putAt, Mir.appAt, Mir.isC, L2.atI, L2.ixN, Math.eIsi_tuple, Math.eIsi_int, Math.eIsi_bool, Math.gEq_int, Math.gEq_bool, run_row_difference, e, run_row_less, ap_cComp, compL, zipD, ap_iZp]
theorem far_ok : GridOk 31 (noughtG 1 31) := nought_ok (by decide) (by decide)
theorem thin_ok : GridOk 1 (noughtG 31 1) := nought_ok (by decide) (by decide)
theorem be_most {s : Sto} {a b : Int} {xs ys : List PyData} (h1 : run_check_grids [.d (.tuple [.int a, .tuple xs]), .d (.tuple [.int b, .tuple ys])] s = .ok .none s) (hl : xs.length = ys.length) (hm : 60 < a + b) :
    run_beside [.d (.tuple [.int a, .tuple xs]), .d (.tuple [.int b, .tuple ys])] s = .exc (xM (.int 60)) s := by
  have e2 := check_most_no (s := s) hm
  simp -implicitDefEqProofs [Math.ap_eVar, Math.ap_lVar, Math.ap_eC, Math.ap_eL, Math.ap_eUn, Math.ap_eBin, Math.ap_eAnd, Math.ap_eOr, Math.ap_eNot, Math.ap_mE, Math.ap_mNot, Math.ap_mAnd, Math.ap_mOr, Math.ap_eIf, Math.ap_aNil, Math.ap_aCons, Math.ap_dNil, Math.ap_dCons, Math.ap_eTup, Math.ap_cLst, Math.ap_eFr, Math.ap_eIx, Math.ap_eSl, Math.ap_cList, Math.ap_eCall, Math.ap_cCall, Math.ap_mSeq, Math.ap_mNil, Math.ap_mSet, Math.ap_mSetC, Math.ap_mRet, Math.ap_mRetN, Math.ap_mRetL, Math.ap_mDrop, Math.ap_mIf, Math.ap_mNever, Math.ap_mPar, Math.ap_mPar3, Math.ap_mPut, Math.ap_mApp, Math.ap_mTo, Math.ap_mYes, Math.ap_iSq, Math.ap_iZp, Math.ap_iEn, Math.ap_mRetC, Math.ap_eCh, Math.ap_noPart, Math.ap_aPart, Math.ap_eSlice, Math.ap_mkF, Math.ap_mkC, Mir.env0, Mir.fin, Mir.finC, Mir.thenDo, Mir.toFl, Mir.wipeE, Mir.itemsOf, Mir.orBad, Mir.gNm, Mir.gTp, Mir.gNms, Mir.Out.bind, Mir.gIx, Mir.seqOf, Mir.gLen, Mir.gTuple, Mir.gAbs, Mir.gInt, Mir.gCmp, Mir.gI, Mir.gAdd, Mir.gSub, Mir.gNeg, Mir.gBols, Mir.gInts, Mir.gChain, Mir.nxO, Mir.putAt, Mir.appAt, Mir.isC, L2.atI, L2.ixN, Math.eIsi_tuple, Math.eIsi_int, Math.eIsi_bool, Math.gEq_int, Math.gEq_bool, run_beside, h1, hl, e2, check_fit_ok]
theorem ov_most {s : Sto} {a : Int} {xs ys : List PyData} (h1 : run_check_grids [.d (.tuple [.int a, .tuple xs]), .d (.tuple [.int a, .tuple ys])] s = .ok .none s) (hm : 60 < (xs.length : Int) + ys.length) :
    run_over [.d (.tuple [.int a, .tuple xs]), .d (.tuple [.int a, .tuple ys])] s = .exc (xM (.int 60)) s := by
  have e2 := check_most_no (s := s) hm
  simp -implicitDefEqProofs [Math.ap_eVar, Math.ap_lVar, Math.ap_eC, Math.ap_eL, Math.ap_eUn, Math.ap_eBin, Math.ap_eAnd, Math.ap_eOr, Math.ap_eNot, Math.ap_mE, Math.ap_mNot, Math.ap_mAnd, Math.ap_mOr, Math.ap_eIf, Math.ap_aNil, Math.ap_aCons, Math.ap_dNil, Math.ap_dCons, Math.ap_eTup, Math.ap_cLst, Math.ap_eFr, Math.ap_eIx, Math.ap_eSl, Math.ap_cList, Math.ap_eCall, Math.ap_cCall, Math.ap_mSeq, Math.ap_mNil, Math.ap_mSet, Math.ap_mSetC, Math.ap_mRet, Math.ap_mRetN, Math.ap_mRetL, Math.ap_mDrop, Math.ap_mIf, Math.ap_mNever, Math.ap_mPar, Math.ap_mPar3, Math.ap_mPut, Math.ap_mApp, Math.ap_mTo, Math.ap_mYes, Math.ap_iSq, Math.ap_iZp, Math.ap_iEn, Math.ap_mRetC, Math.ap_eCh, Math.ap_noPart, Math.ap_aPart, Math.ap_eSlice, Math.ap_mkF, Math.ap_mkC, Mir.env0, Mir.fin, Mir.finC, Mir.thenDo, Mir.toFl, Mir.wipeE, Mir.itemsOf, Mir.orBad, Mir.gNm, Mir.gTp, Mir.gNms, Mir.Out.bind, Mir.gIx, Mir.seqOf, Mir.gLen, Mir.gTuple, Mir.gAbs, Mir.gInt, Mir.gCmp, Mir.gI, Mir.gAdd, Mir.gSub, Mir.gNeg, Mir.gBols, Mir.gInts, Mir.gChain, Mir.nxO, Mir.putAt, Mir.appAt, Mir.isC, L2.atI, L2.ixN, Math.eIsi_tuple, Math.eIsi_int, Math.eIsi_bool, Math.gEq_int, Math.gEq_bool, run_over, h1, e2, check_fit_ok]
theorem beside_most {s : Sto} : run_beside [.d (grid_D 31 (noughtG 1 31)), .d (grid_D 31 (noughtG 1 31))] s = .exc (xM (.int 60)) s :=
  be_most (check_grids _ _ s far_ok.is far_ok.is) rfl (by decide)
theorem over_most {s : Sto} : run_over [.d (grid_D 1 (noughtG 31 1)), .d (grid_D 1 (noughtG 31 1))] s = .exc (xM (.int 60)) s :=
  ov_most (check_grids _ _ s thin_ok.is thin_ok.is) (by decide)
end Math
/-! # k04: what is drawn -/
namespace Math
open PySem Mir Fn
def oddE : MD := (cLst (dCons (eC .none) (dCons (eC (.int 0)) (dCons (eTup dNil) (dCons (eTup (dCons (eC (.int 1)) dNil)) (dCons (eTup (dCons (eC (.int 2)) (dCons (eTup (dCons (eTup (dCons (eC (.int 1)) dNil)) dNil)) dNil))) (dCons (eFr (cLst (dCons (eC (.int 1)) (dCons (eTup (dCons (eTup (dCons (eC (.int 1)) dNil)) dNil)) dNil)))) (dCons (eTup (dCons (eC (.int 1)) (dCons (eFr (cLst (dCons (eTup (dCons (eC (.int 1)) dNil)) dNil))) dNil))) (dCons (eTup (dCons (eC (.int 1)) (dCons (eTup (dCons (eTup (dCons (eC (.bool true)) dNil)) dNil)) dNil))) (dCons (eTup (dCons (eC (.int 61)) (dCons (eTup dNil) dNil))) (dCons (eTup (dCons (eC (.int 1)) (dCons (eTup (dCons (eTup (dCons (eBin gPow (eC (.int 10)) (eC (.int 12))) dNil)) dNil)) dNil))) (dCons (eTup (dCons (eUn gNeg (eC (.int 1))) (dCons (eTup dNil) dNil))) (dCons (eTup (dCons (eC (.int 1)) (dCons (eTup (dCons (eTup (dCons (eC (.int 1)) dNil)) dNil)) (dCons (eTup dNil) dNil)))) dNil)))))))))))))
def noneE : MD := (cLst (dCons (eC .none) (dCons (eC (.int 1)) (dCons (eFr (cLst (dCons (eC (.int 1)) dNil))) (dCons (eTup (dCons (eC (.bool true)) dNil)) (dCons (eTup (dCons (eBin gPow (eC (.int 10)) (eC (.int 12))) dNil)) (dCons (eTup (dCons (eC (.str (Str.ofString "1"))) dNil)) (dCons (eBin gMulA (eTup (dCons (eC (.int 0)) dNil)) (eC (.int 61))) (dCons (eTup (dCons (eTup (dCons (eC (.int 1)) dNil)) dNil)) (dCons (eC (.dict [])) dNil))))))))))
def badE : MD := (cLst (dCons (eC .none) (dCons (eC (.bool true)) (dCons (eC (.str (Str.ofString "1"))) (dCons (eTup (dCons (eC (.int 1)) dNil)) (dCons (eBin gPow (eC (.int 10)) (eC (.int 12))) (dCons (eBin gSub (eC (.int 0)) (eBin gPow (eC (.int 10)) (eC (.int 40)))) dNil)))))))
def sizeE : MD := (cLst (dCons (eUn gNeg (eC (.int 1))) (dCons (eC (.int 61)) (dCons (eC .none) (dCons (eC (.bool true)) (dCons (eC (.str (Str.ofString "2"))) (dCons (eBin gPow (eC (.int 10)) (eC (.int 60))) dNil)))))))
def lessE : MD := (cLst (dCons (eUn gNeg (eC (.int 1))) (dCons (eC .none) (dCons (eC (.bool true)) (dCons (eBin gPow (eC (.int 10)) (eC (.int 12))) dNil)))))
def oddL : List PyData := [.none, .int 0, .tuple [], .tuple [.int 1], .tuple [.int 2, .tuple [.tuple [.int 1]]], .list [.int 1, .tuple [.tuple [.int 1]]], .tuple [.int 1, .list [.tuple [.int 1]]], .tuple [.int 1, .tuple [.tuple [.bool true]]], .tuple [.int 61, .tuple []], .tuple [.int 1, .tuple [.tuple [.int 1000000000000]]], .tuple [.int (-1), .tuple []], .tuple [.int 1, .tuple [.tuple [.int 1]], .tuple []]]
def noneL : List PyData := [.none, .int 1, .list [.int 1], .tuple [.bool true], .tuple [.int 1000000000000], .tuple [.str (Str.ofString "1")], .tuple (List.replicate 61 (.int 0)), .tuple [.tuple [.int 1]], .dict []]
def badL : List PyData := [.none, .bool true, .str (Str.ofString "1"), .tuple [.int 1], .int 1000000000000, .int (-10000000000000000000000000000000000000000)]
def sizeL : List PyData := [.int (-1), .int 61, .none, .bool true, .str (Str.ofString "2"), .int 1000000000000000000000000000000000000000000000000000000000000]
def lessL : List PyData := [.int (-1), .none, .bool true, .int 1000000000000]
theorem oddE_eq (ρ : Mir.Env) (s : Sto) : oddE ρ s = .ok oddL s := by rfl
theorem noneE_eq (ρ : Mir.Env) (s : Sto) : noneE ρ s = .ok noneL s := by rfl
theorem badE_eq (ρ : Mir.Env) (s : Sto) : badE ρ s = .ok badL s := by rfl
theorem sizeE_eq (ρ : Mir.Env) (s : Sto) : sizeE ρ s = .ok sizeL s := by rfl
theorem lessE_eq (ρ : Mir.Env) (s : Sto) : lessE ρ s = .ok lessL s := by rfl
theorem odd_no : ∀ v ∈ oddL, isGrid v = false := by
  simp only [oddL, List.forall_mem_cons, List.not_mem_nil, false_implies, implies_true, and_true]
  decide
theorem none_no : ∀ v ∈ noneL, isRow v = false := by
  simp only [noneL, List.forall_mem_cons, List.not_mem_nil, false_implies, implies_true, and_true]
  decide
theorem gRepr_ok {v : PyData} (h : okRepr v = true) : gRepr v = some (.str v.shown) := by
  unfold gRepr
  rw [if_pos h]
theorem bad_no : ∀ v ∈ badL, isShort v = false ∧ gRepr v = some (.str v.shown) ∧ PyData.strOk v.shown = true := by
  simp only [badL, List.forall_mem_cons, List.not_mem_nil, false_implies, implies_true, and_true]
  exact ⟨⟨by decide, gRepr_ok (by decide +kernel), by decide +kernel⟩, ⟨by decide, gRepr_ok (by decide +kernel), by decide +kernel⟩, ⟨by decide, gRepr_ok (by decide +kernel), by decide +kernel⟩, ⟨by decide, gRepr_ok (by decide +kernel), by decide +kernel⟩, ⟨by decide, gRepr_ok (by decide +kernel), by decide +kernel⟩, by decide, gRepr_ok (by decide +kernel), by decide +kernel⟩
theorem size_no : ∀ v ∈ sizeL, isBetween 0 60 v = false ∧ gRepr v = some (.str v.shown) ∧ PyData.strOk v.shown = true := by
  simp only [sizeL, List.forall_mem_cons, List.not_mem_nil, false_implies, implies_true, and_true]
  exact ⟨⟨by decide, gRepr_ok (by decide +kernel), by decide +kernel⟩, ⟨by decide, gRepr_ok (by decide +kernel), by decide +kernel⟩, ⟨by decide, gRepr_ok (by decide +kernel), by decide +kernel⟩, ⟨by decide, gRepr_ok (by decide +kernel), by decide +kernel⟩, ⟨by decide, gRepr_ok (by decide +kernel), by decide +kernel⟩, by decide, gRepr_ok (by decide +kernel), by decide +kernel⟩
theorem less_no : ∀ v ∈ lessL, (∀ s, run_check_least [.d v, .d (.int 0)] s = .exc (xN v) s) ∧ gRepr v = some (.str v.shown) ∧ PyData.strOk v.shown = true := by
  simp only [lessL, List.forall_mem_cons, List.not_mem_nil, false_implies, implies_true, and_true]
  exact ⟨⟨fun s => check_least_low (-1) s (by decide) 0 (by decide), gRepr_ok (by decide +kernel), by decide +kernel⟩, ⟨fun s => check_least_no _ s (by decide) 0, gRepr_ok (by decide +kernel), by decide +kernel⟩, ⟨fun s => check_least_no _ s (by decide) 0, gRepr_ok (by decide +kernel), by decide +kernel⟩, fun s => check_least_no _ s (by decide) 0, gRepr_ok (by decide +kernel), by decide +kernel⟩
/-- a draw out of a list that is written there -/
theorem draw_of {n i : Nat} {s : Sto} {ρ : Mir.Env} {f : MD} {ds : List PyData} (h : Hat n s) (hf : f ρ s = .ok ds s) (hr : ρ[0]? = some (some (.c n))) (hl : ds ≠ []) (hb : ds.length < 2 ^ 64) :
    ∃ v s', v ∈ ds ∧ Hats n s s' ∧ mSet i (eCall 2 run_law_out_of (aCons (lVar 0) (aCons (eL (eFr f)) aNil))) ρ s = .nx (ρ.set i (some (.d v))) s' := by
  obtain ⟨v, s', hv, hs, e⟩ := out_of h hl hb
  refine ⟨v, s', hv, hs, ?_⟩
  have el : lVar 0 ρ s = .ok (.c n) s := by
    unfold lVar
    rw [hr]
  simp [ap_mSet, ap_eCall, ap_aCons, ap_aNil, ap_eL, ap_eFr, el, hf, e, toFl, Out.bind]
end Math
/-! # steps of a law that meets errors -/
namespace Math
open PySem Mir Fn
theorem app_end {s : Sto} {ds : List PyData} {x : PyData} : appAt (.c s.length) x (s ++ [ds]) = if ds.length < 100000 then some (s ++ [ds ++ [x]]) else none := by
  simp [appAt]
theorem app_data {ρ : Mir.Env} {s : Sto} {L : List PyData} {j : Nat} {f : ME} {y : PyData} (hj : ρ[j]? = some (some (.c s.length))) (hf : f ρ (s ++ [L]) = .ok y (s ++ [L])) (hl : L.length < 100000) : mApp (lVar j) f ρ (s ++ [L]) = .nx ρ (s ++ [L ++ [y]]) := by
  have el : lVar j ρ (s ++ [L]) = .ok (.c s.length) (s ++ [L]) := by
    unfold lVar
    rw [hj]
  rw [ap_mApp, el]
  simp only [toFl, isC, if_true, hf, app_end, hl]
  rfl
theorem app_exc {ρ : Mir.Env} {s : Sto} {L : List PyData} {j : Nat} {f : ME} {x : Exn} {y : PyData} (hj : ρ[j]? = some (some (.c s.length))) (hf : f ρ (s ++ [L]) = .exc x (s ++ [L])) (hm : metP subT hdsP x = some y) (hl : L.length < 100000) :
    mApp (lVar j) (eMetP subT hdsP letsT f) ρ (s ++ [L]) = .nx ρ (s ++ [L ++ [y]]) :=
  app_data hj (by rw [ap_eMetP, hf]; simp only [hm]) hl
theorem app_let {ρ : Mir.Env} {s : Sto} {L : List PyData} {j : Nat} {f : ME} {v : PyData} (hj : ρ[j]? = some (some (.c s.length))) (hf : f ρ (s ++ [L]) = .ok v (s ++ [L])) (hl : L.length < 100000) :
    mApp (lVar j) (eMetP subT hdsP letsT f) ρ (s ++ [L]) = .nx ρ (s ++ [L ++ [.tuple (letsT.map .str)]]) :=
  app_data hj (by rw [ap_eMetP, hf]) hl
theorem callA {n : Nat} {F : MF} {fa : MA} {ρ : Mir.Env} {s : Sto} {as : List Sl} {r : Out PyData} (ha : fa ρ s = .ok as s) (hl : as.length = n) (hF : F as s = r) : eCall n F fa ρ s = r := by
  rw [ap_eCall, ha, Out.bind_ok, if_pos hl, hF]
theorem callV {j n i : Nat} {tbl : List MF} {F : MF} {fa : MA} {ρ : Mir.Env} {s : Sto} {as : List Sl} {r : Out PyData} (hj : ρ[j]? = some (some (.f i))) (ht : tbl[i]? = some F) (ha : fa ρ s = .ok as s) (hl : as.length = n) (hF : F as s = r) : eCallV j n tbl fa ρ s = r := by
  rw [ap_eCallV, hj]
  simp only [ht]
  rw [ha, Out.bind_ok, if_pos hl, hF]
theorem forF_one {j d : Nat} {ds : List Nat} {body : MS} {ρ ρ2 : Mir.Env} {s s2 : Sto} {r : Fl} (h : body (ρ.set j (some (.f d))) s = .nx ρ2 s2) (k : forF j body ds ρ2 s2 = r) : forF j body (d :: ds) ρ s = r := by
  unfold forF
  rw [h]
  exact k
theorem ret_eqL {ρ : Mir.Env} {s : Sto} {j : Nat} {L : List PyData} {fb : ME} (hj : ρ[j]? = some (some (.c s.length))) (hb : fb ρ (s ++ [L]) = .ok (.list L) (s ++ [L])) (hs : Sh 64 (.list L)) (he : PyData.eqvAll L L = true) :
    mRet (eEqL false (lVar j) fb) ρ (s ++ [L]) = .rt (.d (.bool true)) (s ++ [L]) := by
  have el : lVar j ρ (s ++ [L]) = .ok (.c s.length) (s ++ [L]) := by
    unfold lVar
    rw [hj]
  have hq := hs.shaped (Nat.le_refl _)
  have hv : PyData.eqv (.list L) (.list L) = true := by rw [PyData.eqv]; exact he
  rw [ap_mRet, ap_eEqL, el, Out.bind_ok]
  simp only [hb, Out.bind_ok, List.getElem?_concat_length, hq, and_self, if_true, hv]
  rfl
/-- the same, with the list behind it told -/
theorem to_exc {ρ : Mir.Env} {s : Sto} {L L' : List PyData} {j : Nat} {f : ME} {x : Exn} {y : PyData} (hj : ρ[j]? = some (some (.c s.length))) (hf : f ρ (s ++ [L]) = .exc x (s ++ [L])) (hm : metP subT hdsP x = some y) (hl : L.length < 100000) (e : L ++ [y] = L') :
    mApp (lVar j) (eMetP subT hdsP letsT f) ρ (s ++ [L]) = .nx ρ (s ++ [L']) := by
  rw [← e]
  exact app_exc hj hf hm hl
theorem to_let {ρ : Mir.Env} {s : Sto} {L L' : List PyData} {j : Nat} {f : ME} {v : PyData} (hj : ρ[j]? = some (some (.c s.length))) (hf : f ρ (s ++ [L]) = .ok v (s ++ [L])) (hl : L.length < 100000) (e : L ++ [.tuple (letsT.map .str)] = L') :
    mApp (lVar j) (eMetP subT hdsP letsT f) ρ (s ++ [L]) = .nx ρ (s ++ [L']) := by
  rw [← e]
  exact app_let hj hf hl
theorem set_to {ρ ρ' : Mir.Env} {s : Sto} {i : Nat} {f : ME} {x : PyData} (h : f ρ s = .ok x s) (e : ρ.set i (some (.d x)) = ρ') : mSet i f ρ s = .nx ρ' s := by
  rw [ap_mSet, h, toFl_ok', e]
theorem args_ve {i : Nat} {fe : ME} {ρ : Mir.Env} {s : Sto} {x : Sl} {v : PyData} (hi : ρ[i]? = some (some x)) (hv : fe ρ s = .ok v s) : aCons (lVar i) (aCons (eL fe) aNil) ρ s = .ok [x, .d v] s := by
  have el : lVar i ρ s = .ok x s := by
    unfold lVar
    rw [hi]
  simp only [ap_aCons, ap_aNil, ap_eL, el, hv, Out.bind_ok]
end Math
/-! # k04: one case -/
namespace Math
open PySem Mir Fn
theorem met_G : metP subT hdsP xG = some (.tuple [.str (Str.ofString "refused"), .str (Str.ofString "grid")]) := by rfl
theorem met_R : metP subT hdsP xR = some (.tuple [.str (Str.ofString "refused"), .str (Str.ofString "row")]) := by rfl
theorem met_O : metP subT hdsP xO = some (.tuple [.str (Str.ofString "refused"), .str (Str.ofString "fit")]) := by rfl
theorem met_N {v : PyData} (h : gRepr v = some (.str v.shown)) : metP subT hdsP (xN v) = some (.tuple [.str (Str.ofString "refused"), .str (Str.ofString "number"), .str v.shown]) := by
  have e : metP subT hdsP (xN v) = (gRepr v).map fun z => .tuple [.str (Str.ofString "refused"), .str (Str.ofString "number"), z] := by rfl
  rw [e, h]
  rfl
theorem met_M : metP subT hdsP (xM (.int 60)) = some (.tuple [.str (Str.ofString "refused"), .str (Str.ofString "many"), .str (Str.ofString "60")]) := by
  have e : metP subT hdsP (xM (.int 60)) = (gRepr (.int 60)).map fun z => .tuple [.str (Str.ofString "refused"), .str (Str.ofString "many"), z] := by rfl
  rw [e, gRepr_ok (by decide +kernel)]
  rfl
abbrev tG : PyData := .tuple [.str (Str.ofString "refused"), .str (Str.ofString "grid")]
abbrev tR : PyData := .tuple [.str (Str.ofString "refused"), .str (Str.ofString "row")]
abbrev tO : PyData := .tuple [.str (Str.ofString "refused"), .str (Str.ofString "fit")]
abbrev tL : PyData := .tuple [.str (Str.ofString "let")]
abbrev tN (v : PyData) : PyData := .tuple [.str (Str.ofString "refused"), .str (Str.ofString "number"), .str v.shown]
def gRest : MS := (mSeq (mTo (gTp [4, 5, 6]) (eTup (dCons (eTup (dCons (eC (.int 1)) (dCons (eTup (dCons (eTup (dCons (eC (.int 1)) dNil)) dNil)) dNil))) (dCons (eTup (dCons (eC (.int 2)) (dCons (eTup (dCons (eTup (dCons (eC (.int 1)) (dCons (eC (.int 2)) dNil))) dNil)) dNil))) (dCons (eTup (dCons (eC (.int 1)) (dCons (eTup (dCons (eTup (dCons (eC (.int 1)) dNil)) (dCons (eTup (dCons (eC (.int 2)) dNil)) dNil))) dNil))) dNil)))))
    (mSeq (mSetC 7 (cLst dNil))
    (mSeq (mApp (lVar 7) (eMetP subT hdsP letsT (eCall 1 run_turned (aCons (lVar 1) aNil))))
    (mSeq (mApp (lVar 7) (eMetP subT hdsP letsT (eCall 2 run_grid_multiple (aCons (lVar 1) (aCons (lVar 3) aNil)))))
    (mSeq (mApp (lVar 7) (eMetP subT hdsP letsT (eCall 2 run_grid_multiple (aCons (lVar 4) (aCons (lVar 3) aNil)))))
    (mSeq (mSet 8 (eBin gAdd (eBin gMulL (eFr (cLst (dCons (eTup (dCons (eC (.str (Str.ofString "refused"))) (dCons (eC (.str (Str.ofString "grid"))) dNil))) dNil))) (eC (.int 2))) (eFr (cLst (dCons (eTup (dCons (eC (.str (Str.ofString "refused"))) (dCons (eC (.str (Str.ofString "number"))) (dCons (eRepr (eVar 3)) dNil)))) dNil)))))
    (mSeq (mForF 9 [0, 1, 2, 3, 4]
    (mSeq (mApp (lVar 7) (eMetP subT hdsP letsT (eCallV 9 2 tblF (aCons (lVar 1) (aCons (lVar 2) aNil)))))
    (mSeq (mApp (lVar 7) (eMetP subT hdsP letsT (eCallV 9 2 tblF (aCons (lVar 5) (aCons (lVar 1) aNil)))))
    (mSet 8 (eBin gAdd (eVar 8) (eBin gMulL (eFr (cLst (dCons (eTup (dCons (eC (.str (Str.ofString "refused"))) (dCons (eC (.str (Str.ofString "grid"))) dNil))) dNil))) (eC (.int 2))))))))
    (mSeq (mApp (lVar 7) (eMetP subT hdsP letsT (eCall 2 run_grid_sum (aCons (lVar 4) (aCons (lVar 5) aNil)))))
    (mSeq (mApp (lVar 7) (eMetP subT hdsP letsT (eCall 2 run_grid_difference (aCons (lVar 4) (aCons (lVar 6) aNil)))))
    (mSeq (mApp (lVar 7) (eMetP subT hdsP letsT (eCall 2 run_grid_product (aCons (lVar 5) (aCons (lVar 4) aNil)))))
    (mSeq (mApp (lVar 7) (eMetP subT hdsP letsT (eCall 2 run_beside (aCons (lVar 4) (aCons (lVar 6) aNil)))))
    (mSeq (mApp (lVar 7) (eMetP subT hdsP letsT (eCall 2 run_over (aCons (lVar 4) (aCons (lVar 5) aNil)))))
    (mSeq (mApp (lVar 7) (eMetP subT hdsP letsT (eCall 2 run_grid_product (aCons (lVar 6) (aCons (lVar 4) aNil)))))
    (mSeq (mApp (lVar 7) (eMetP subT hdsP letsT (eCall 2 run_grid_product (aCons (lVar 4) (aCons (lVar 5) aNil)))))
    (mSeq (mSet 8 (eBin gAdd (eBin gAdd (eVar 8) (eBin gMulL (eFr (cLst (dCons (eTup (dCons (eC (.str (Str.ofString "refused"))) (dCons (eC (.str (Str.ofString "fit"))) dNil))) dNil))) (eC (.int 5)))) (eBin gMulL (eFr (cLst (dCons (eTup (dCons (eC (.str (Str.ofString "let"))) dNil)) dNil))) (eC (.int 2)))))
    (mSeq (mApp (lVar 7) (eMetP subT hdsP letsT (eCall 2 run_led (aCons (lVar 1) (aCons (lVar 2) aNil)))))
    (mSeq (mApp (lVar 7) (eMetP subT hdsP letsT (eCall 2 run_led (aCons (lVar 5) (aCons (lVar 2) aNil)))))
    (mSeq (mApp (lVar 7) (eMetP subT hdsP letsT (eCall 2 run_led (aCons (lVar 5) (aCons (eL (eTup (dCons (eC (.int 1)) dNil))) aNil)))))
    (mSeq (mApp (lVar 7) (eMetP subT hdsP letsT (eCall 2 run_led (aCons (lVar 5) (aCons (eL (eTup (dCons (eC (.int 1)) (dCons (eC (.int 2)) dNil)))) aNil)))))
    (mSeq (mApp (lVar 7) (eMetP subT hdsP letsT (eCall 2 run_read_by (aCons (lVar 2) (aCons (lVar 1) aNil)))))
    (mSeq (mApp (lVar 7) (eMetP subT hdsP letsT (eCall 2 run_read_by (aCons (eL (eTup (dCons (eC (.int 1)) dNil))) (aCons (lVar 1) aNil)))))
    (mSeq (mApp (lVar 7) (eMetP subT hdsP letsT (eCall 2 run_read_by (aCons (eL (eTup (dCons (eC (.int 1)) dNil))) (aCons (lVar 6) aNil)))))
    (mSeq (mApp (lVar 7) (eMetP subT hdsP letsT (eCall 2 run_read_by (aCons (eL (eTup (dCons (eC (.int 1)) (dCons (eC (.int 2)) dNil)))) (aCons (lVar 6) aNil)))))
    (mSeq (mSet 8 (eBin gAdd (eVar 8) (eFr (cLst (dCons (eTup (dCons (eC (.str (Str.ofString "refused"))) (dCons (eC (.str (Str.ofString "grid"))) dNil))) (dCons (eTup (dCons (eC (.str (Str.ofString "refused"))) (dCons (eC (.str (Str.ofString "row"))) dNil))) (dCons (eTup (dCons (eC (.str (Str.ofString "refused"))) (dCons (eC (.str (Str.ofString "fit"))) dNil))) (dCons (eTup (dCons (eC (.str (Str.ofString "let"))) dNil)) (dCons (eTup (dCons (eC (.str (Str.ofString "refused"))) (dCons (eC (.str (Str.ofString "row"))) dNil))) (dCons (eTup (dCons (eC (.str (Str.ofString "refused"))) (dCons (eC (.str (Str.ofString "grid"))) dNil))) (dCons (eTup (dCons (eC (.str (Str.ofString "refused"))) (dCons (eC (.str (Str.ofString "fit"))) dNil))) (dCons (eTup (dCons (eC (.str (Str.ofString "let"))) dNil)) dNil))))))))))))
    (mRet (eEqL false (lVar 7) (eVar 8)))))))))))))))))))))))))))
def gTold (bad : PyData) : List PyData := [tG, tG, (tN bad), tG, tG, tG, tG, tG, tG, tG, tG, tG, tG, tO, tO, tO, tO, tO, tL, tL, tG, tR, tO, tL, tR, tG, tO, tL]
theorem gTold_sh (bad : PyData) (h : PyData.strOk bad.shown = true) : Sh 64 (.list (gTold bad)) := by
  simp [gTold, Sh, PyData.canLay0, PyData.canLayAll0, PyData.depth, PyData.depthAll, h]
  decide +kernel
theorem gTold_eqv (bad : PyData) : PyData.eqvAll (gTold bad) (gTold bad) = true := by simp [gTold, PyData.eqvAll, PyData.eqv]

theorem g_rest {n : Nat} {s : Sto} {odd non bad : PyData} (ho : isGrid odd = false) (hn : isRow non = false) (hb : isShort bad = false) (hr : gRepr bad = some (.str bad.shown)) (hk : PyData.strOk bad.shown = true) :
    gRest [some (.c n), some (.d odd), some (.d non), some (.d bad), none, none, none, none, none, none] s = .rt (.d (.bool true)) (s ++ [gTold bad]) := by
  have m1 := met_N hr
  refine seq_nx (ρ1 := [some (.c n), some (.d odd), some (.d non), some (.d bad), some (.d Math.one), some (.d wide), some (.d high), none, none, none]) (s1 := s) rfl ?_
  refine seq_nx (ρ1 := [some (.c n), some (.d odd), some (.d non), some (.d bad), some (.d Math.one), some (.d wide), some (.d high), some (.c s.length), none, none]) (s1 := s ++ [[]]) rfl ?_
  refine seq_nx (to_exc (L' := [tG]) rfl (callA rfl rfl (turned_no odd _ ho)) met_G (by simp) rfl) ?_
  refine seq_nx (to_exc (L' := [tG, tG]) rfl (callA rfl rfl (multiple_no1 odd bad _ ho)) met_G (by simp) rfl) ?_
  refine seq_nx (to_exc (L' := [tG, tG, (tN bad)]) rfl (callA rfl rfl (multiple_no2 Math.one bad _ is_one hb)) m1 (by simp) rfl) ?_
  refine seq_nx (set_to (x := .list [tG, tG, (tN bad)]) (ρ' := [some (.c n), some (.d odd), some (.d non), some (.d bad), some (.d Math.one), some (.d wide), some (.d high), some (.c s.length), some (.d (.list [tG, tG, (tN bad)])), none]) (by simp -implicitDefEqProofs [Math.ap_eVar, Math.ap_lVar, Math.ap_eC, Math.ap_eL, Math.ap_eUn, Math.ap_eBin, Math.ap_eAnd, Math.ap_eOr, Math.ap_eNot, Math.ap_mE, Math.ap_mNot, Math.ap_mAnd, Math.ap_mOr, Math.ap_eIf, Math.ap_aNil, Math.ap_aCons, Math.ap_dNil, Math.ap_dCons, Math.ap_eTup, Math.ap_cLst, Math.ap_eFr, Math.ap_eIx, Math.ap_eSl, Math.ap_cList, Math.ap_eCall, Math.ap_cCall, Math.ap_mSeq, Math.ap_mNil, Math.ap_mSet, Math.ap_mSetC, Math.ap_mRet, Math.ap_mRetN, Math.ap_mRetL, Math.ap_mDrop, Math.ap_mIf, Math.ap_mNever, Math.ap_mPar, Math.ap_mPar3, Math.ap_mPut, Math.ap_mApp, Math.ap_mTo, Math.ap_mYes, Math.ap_iSq, Math.ap_iZp, Math.ap_iEn, Math.ap_mRetC, Math.ap_eCh, Math.ap_noPart, Math.ap_aPart, Math.ap_eSlice, Math.ap_mkF, Math.ap_mkC, Mir.env0, Mir.fin, Mir.finC, Mir.thenDo, Mir.toFl, Mir.wipeE, Mir.itemsOf, Mir.orBad, Mir.gNm, Mir.gTp, Mir.gNms, Mir.Out.bind, Mir.gIx, Mir.seqOf, Mir.gLen, Mir.gTuple, Mir.gAbs, Mir.gInt, Mir.gCmp, Mir.gI, Mir.gAdd, Mir.gSub, Mir.gNeg, Mir.gBols, Mir.gInts, Mir.gChain, Mir.nxO, Mir.putAt, Mir.appAt, Mir.isC, L2.atI, L2.ixN, Math.eIsi_tuple, Math.eIsi_int, Math.eIsi_bool, Math.gEq_int, Math.gEq_bool, Mir.gMulL, ap_eRepr, hr]) rfl) ?_
  refine seq_nx (ρ1 := ?r) (s1 := ?t) ?loop ?rest
  case loop =>
    rw [ap_mForF]
    refine forF_one (seq_nx (to_exc (L' := [tG, tG, (tN bad), tG]) rfl (callV rfl rfl rfl rfl (sum_no1 odd non _ ho)) met_G (by simp) rfl) (seq_nx (to_exc (L' := [tG, tG, (tN bad), tG, tG]) rfl (callV rfl rfl rfl rfl (sum_no2 wide odd _ is_wide ho)) met_G (by simp) rfl) (set_to (x := .list [tG, tG, (tN bad), tG, tG]) (ρ' := [some (.c n), some (.d odd), some (.d non), some (.d bad), some (.d Math.one), some (.d wide), some (.d high), some (.c s.length), some (.d (.list [tG, tG, (tN bad), tG, tG])), some (.f 0)]) (by simp -implicitDefEqProofs [Math.ap_eVar, Math.ap_lVar, Math.ap_eC, Math.ap_eL, Math.ap_eUn, Math.ap_eBin, Math.ap_eAnd, Math.ap_eOr, Math.ap_eNot, Math.ap_mE, Math.ap_mNot, Math.ap_mAnd, Math.ap_mOr, Math.ap_eIf, Math.ap_aNil, Math.ap_aCons, Math.ap_dNil, Math.ap_dCons, Math.ap_eTup, Math.ap_cLst, Math.ap_eFr, Math.ap_eIx, Math.ap_eSl, Math.ap_cList, Math.ap_eCall, Math.ap_cCall, Math.ap_mSeq, Math.ap_mNil, Math.ap_mSet, Math.ap_mSetC, Math.ap_mRet, Math.ap_mRetN, Math.ap_mRetL, Math.ap_mDrop, Math.ap_mIf, Math.ap_mNever, Math.ap_mPar, Math.ap_mPar3, Math.ap_mPut, Math.ap_mApp, Math.ap_mTo, Math.ap_mYes, Math.ap_iSq, Math.ap_iZp, Math.ap_iEn, Math.ap_mRetC, Math.ap_eCh, Math.ap_noPart, Math.ap_aPart, Math.ap_eSlice, Math.ap_mkF, Math.ap_mkC, Mir.env0, Mir.fin, Mir.finC, Mir.thenDo, Mir.toFl, Mir.wipeE, Mir.itemsOf, Mir.orBad, Mir.gNm, Mir.gTp, Mir.gNms, Mir.Out.bind, Mir.gIx, Mir.seqOf, Mir.gLen, Mir.gTuple, Mir.gAbs, Mir.gInt, Mir.gCmp, Mir.gI, Mir.gAdd, Mir.gSub, Mir.gNeg, Mir.gBols, Mir.gInts, Mir.gChain, Mir.nxO, Mir.putAt, Mir.appAt, Mir.isC, L2.atI, L2.ixN, Math.eIsi_tuple, Math.eIsi_int, Math.eIsi_bool, Math.gEq_int, Math.gEq_bool, Mir.gMulL, toFl_ok']) rfl))) ?_
    refine forF_one (seq_nx (to_exc (L' := [tG, tG, (tN bad), tG, tG, tG]) rfl (callV rfl rfl rfl rfl (difference_no1 odd non _ ho)) met_G (by simp) rfl) (seq_nx (to_exc (L' := [tG, tG, (tN bad), tG, tG, tG, tG]) rfl (callV rfl rfl rfl rfl (difference_no2 wide odd _ is_wide ho)) met_G (by simp) rfl) (set_to (x := .list [tG, tG, (tN bad), tG, tG, tG, tG]) (ρ' := [some (.c n), some (.d odd), some (.d non), some (.d bad), some (.d Math.one), some (.d wide), some (.d high), some (.c s.length), some (.d (.list [tG, tG, (tN bad), tG, tG, tG, tG])), some (.f 1)]) (by simp -implicitDefEqProofs [Math.ap_eVar, Math.ap_lVar, Math.ap_eC, Math.ap_eL, Math.ap_eUn, Math.ap_eBin, Math.ap_eAnd, Math.ap_eOr, Math.ap_eNot, Math.ap_mE, Math.ap_mNot, Math.ap_mAnd, Math.ap_mOr, Math.ap_eIf, Math.ap_aNil, Math.ap_aCons, Math.ap_dNil, Math.ap_dCons, Math.ap_eTup, Math.ap_cLst, Math.ap_eFr, Math.ap_eIx, Math.ap_eSl, Math.ap_cList, Math.ap_eCall, Math.ap_cCall, Math.ap_mSeq, Math.ap_mNil, Math.ap_mSet, Math.ap_mSetC, Math.ap_mRet, Math.ap_mRetN, Math.ap_mRetL, Math.ap_mDrop, Math.ap_mIf, Math.ap_mNever, Math.ap_mPar, Math.ap_mPar3, Math.ap_mPut, Math.ap_mApp, Math.ap_mTo, Math.ap_mYes, Math.ap_iSq, Math.ap_iZp, Math.ap_iEn, Math.ap_mRetC, Math.ap_eCh, Math.ap_noPart, Math.ap_aPart, Math.ap_eSlice, Math.ap_mkF, Math.ap_mkC, Mir.env0, Mir.fin, Mir.finC, Mir.thenDo, Mir.toFl, Mir.wipeE, Mir.itemsOf, Mir.orBad, Mir.gNm, Mir.gTp, Mir.gNms, Mir.Out.bind, Mir.gIx, Mir.seqOf, Mir.gLen, Mir.gTuple, Mir.gAbs, Mir.gInt, Mir.gCmp, Mir.gI, Mir.gAdd, Mir.gSub, Mir.gNeg, Mir.gBols, Mir.gInts, Mir.gChain, Mir.nxO, Mir.putAt, Mir.appAt, Mir.isC, L2.atI, L2.ixN, Math.eIsi_tuple, Math.eIsi_int, Math.eIsi_bool, Math.gEq_int, Math.gEq_bool, Mir.gMulL, toFl_ok']) rfl))) ?_
    refine forF_one (seq_nx (to_exc (L' := [tG, tG, (tN bad), tG, tG, tG, tG, tG]) rfl (callV rfl rfl rfl rfl (product_no1 odd non _ ho)) met_G (by simp) rfl) (seq_nx (to_exc (L' := [tG, tG, (tN bad), tG, tG, tG, tG, tG, tG]) rfl (callV rfl rfl rfl rfl (product_no2 wide odd _ is_wide ho)) met_G (by simp) rfl) (set_to (x := .list [tG, tG, (tN bad), tG, tG, tG, tG, tG, tG]) (ρ' := [some (.c n), some (.d odd), some (.d non), some (.d bad), some (.d Math.one), some (.d wide), some (.d high), some (.c s.length), some (.d (.list [tG, tG, (tN bad), tG, tG, tG, tG, tG, tG])), some (.f 2)]) (by simp -implicitDefEqProofs [Math.ap_eVar, Math.ap_lVar, Math.ap_eC, Math.ap_eL, Math.ap_eUn, Math.ap_eBin, Math.ap_eAnd, Math.ap_eOr, Math.ap_eNot, Math.ap_mE, Math.ap_mNot, Math.ap_mAnd, Math.ap_mOr, Math.ap_eIf, Math.ap_aNil, Math.ap_aCons, Math.ap_dNil, Math.ap_dCons, Math.ap_eTup, Math.ap_cLst, Math.ap_eFr, Math.ap_eIx, Math.ap_eSl, Math.ap_cList, Math.ap_eCall, Math.ap_cCall, Math.ap_mSeq, Math.ap_mNil, Math.ap_mSet, Math.ap_mSetC, Math.ap_mRet, Math.ap_mRetN, Math.ap_mRetL, Math.ap_mDrop, Math.ap_mIf, Math.ap_mNever, Math.ap_mPar, Math.ap_mPar3, Math.ap_mPut, Math.ap_mApp, Math.ap_mTo, Math.ap_mYes, Math.ap_iSq, Math.ap_iZp, Math.ap_iEn, Math.ap_mRetC, Math.ap_eCh, Math.ap_noPart, Math.ap_aPart, Math.ap_eSlice, Math.ap_mkF, Math.ap_mkC, Mir.env0, Mir.fin, Mir.finC, Mir.thenDo, Mir.toFl, Mir.wipeE, Mir.itemsOf, Mir.orBad, Mir.gNm, Mir.gTp, Mir.gNms, Mir.Out.bind, Mir.gIx, Mir.seqOf, Mir.gLen, Mir.gTuple, Mir.gAbs, Mir.gInt, Mir.gCmp, Mir.gI, Mir.gAdd, Mir.gSub, Mir.gNeg, Mir.gBols, Mir.gInts, Mir.gChain, Mir.nxO, Mir.putAt, Mir.appAt, Mir.isC, L2.atI, L2.ixN, Math.eIsi_tuple, Math.eIsi_int, Math.eIsi_bool, Math.gEq_int, Math.gEq_bool, Mir.gMulL, toFl_ok']) rfl))) ?_
    refine forF_one (seq_nx (to_exc (L' := [tG, tG, (tN bad), tG, tG, tG, tG, tG, tG, tG]) rfl (callV rfl rfl rfl rfl (beside_no1 odd non _ ho)) met_G (by simp) rfl) (seq_nx (to_exc (L' := [tG, tG, (tN bad), tG, tG, tG, tG, tG, tG, tG, tG]) rfl (callV rfl rfl rfl rfl (beside_no2 wide odd _ is_wide ho)) met_G (by simp) rfl) (set_to (x := .list [tG, tG, (tN bad), tG, tG, tG, tG, tG, tG, tG, tG]) (ρ' := [some (.c n), some (.d odd), some (.d non), some (.d bad), some (.d Math.one), some (.d wide), some (.d high), some (.c s.length), some (.d (.list [tG, tG, (tN bad), tG, tG, tG, tG, tG, tG, tG, tG])), some (.f 3)]) (by simp -implicitDefEqProofs [Math.ap_eVar, Math.ap_lVar, Math.ap_eC, Math.ap_eL, Math.ap_eUn, Math.ap_eBin, Math.ap_eAnd, Math.ap_eOr, Math.ap_eNot, Math.ap_mE, Math.ap_mNot, Math.ap_mAnd, Math.ap_mOr, Math.ap_eIf, Math.ap_aNil, Math.ap_aCons, Math.ap_dNil, Math.ap_dCons, Math.ap_eTup, Math.ap_cLst, Math.ap_eFr, Math.ap_eIx, Math.ap_eSl, Math.ap_cList, Math.ap_eCall, Math.ap_cCall, Math.ap_mSeq, Math.ap_mNil, Math.ap_mSet, Math.ap_mSetC, Math.ap_mRet, Math.ap_mRetN, Math.ap_mRetL, Math.ap_mDrop, Math.ap_mIf, Math.ap_mNever, Math.ap_mPar, Math.ap_mPar3, Math.ap_mPut, Math.ap_mApp, Math.ap_mTo, Math.ap_mYes, Math.ap_iSq, Math.ap_iZp, Math.ap_iEn, Math.ap_mRetC, Math.ap_eCh, Math.ap_noPart, Math.ap_aPart, Math.ap_eSlice, Math.ap_mkF, Math.ap_mkC, Mir.env0, Mir.fin, Mir.finC, Mir.thenDo, Mir.toFl, Mir.wipeE, Mir.itemsOf, Mir.orBad, Mir.gNm, Mir.gTp, Mir.gNms, Mir.Out.bind, Mir.gIx, Mir.seqOf, Mir.gLen, Mir.gTuple, Mir.gAbs, Mir.gInt, Mir.gCmp, Mir.gI, Mir.gAdd, Mir.gSub, Mir.gNeg, Mir.gBols, Mir.gInts, Mir.gChain, Mir.nxO, Mir.putAt, Mir.appAt, Mir.isC, L2.atI, L2.ixN, Math.eIsi_tuple, Math.eIsi_int, Math.eIsi_bool, Math.gEq_int, Math.gEq_bool, Mir.gMulL, toFl_ok']) rfl))) ?_
    refine forF_one (seq_nx (to_exc (L' := [tG, tG, (tN bad), tG, tG, tG, tG, tG, tG, tG, tG, tG]) rfl (callV rfl rfl rfl rfl (over_no1 odd non _ ho)) met_G (by simp) rfl) (seq_nx (to_exc (L' := [tG, tG, (tN bad), tG, tG, tG, tG, tG, tG, tG, tG, tG, tG]) rfl (callV rfl rfl rfl rfl (over_no2 wide odd _ is_wide ho)) met_G (by simp) rfl) (set_to (x := .list [tG, tG, (tN bad), tG, tG, tG, tG, tG, tG, tG, tG, tG, tG]) (ρ' := [some (.c n), some (.d odd), some (.d non), some (.d bad), some (.d Math.one), some (.d wide), some (.d high), some (.c s.length), some (.d (.list [tG, tG, (tN bad), tG, tG, tG, tG, tG, tG, tG, tG, tG, tG])), some (.f 4)]) (by simp -implicitDefEqProofs [Math.ap_eVar, Math.ap_lVar, Math.ap_eC, Math.ap_eL, Math.ap_eUn, Math.ap_eBin, Math.ap_eAnd, Math.ap_eOr, Math.ap_eNot, Math.ap_mE, Math.ap_mNot, Math.ap_mAnd, Math.ap_mOr, Math.ap_eIf, Math.ap_aNil, Math.ap_aCons, Math.ap_dNil, Math.ap_dCons, Math.ap_eTup, Math.ap_cLst, Math.ap_eFr, Math.ap_eIx, Math.ap_eSl, Math.ap_cList, Math.ap_eCall, Math.ap_cCall, Math.ap_mSeq, Math.ap_mNil, Math.ap_mSet, Math.ap_mSetC, Math.ap_mRet, Math.ap_mRetN, Math.ap_mRetL, Math.ap_mDrop, Math.ap_mIf, Math.ap_mNever, Math.ap_mPar, Math.ap_mPar3, Math.ap_mPut, Math.ap_mApp, Math.ap_mTo, Math.ap_mYes, Math.ap_iSq, Math.ap_iZp, Math.ap_iEn, Math.ap_mRetC, Math.ap_eCh, Math.ap_noPart, Math.ap_aPart, Math.ap_eSlice, Math.ap_mkF, Math.ap_mkC, Mir.env0, Mir.fin, Mir.finC, Mir.thenDo, Mir.toFl, Mir.wipeE, Mir.itemsOf, Mir.orBad, Mir.gNm, Mir.gTp, Mir.gNms, Mir.Out.bind, Mir.gIx, Mir.seqOf, Mir.gLen, Mir.gTuple, Mir.gAbs, Mir.gInt, Mir.gCmp, Mir.gI, Mir.gAdd, Mir.gSub, Mir.gNeg, Mir.gBols, Mir.gInts, Mir.gChain, Mir.nxO, Mir.putAt, Mir.appAt, Mir.isC, L2.atI, L2.ixN, Math.eIsi_tuple, Math.eIsi_int, Math.eIsi_bool, Math.gEq_int, Math.gEq_bool, Mir.gMulL, toFl_ok']) rfl))) ?_
    exact rfl
  refine seq_nx (to_exc (L' := [tG, tG, (tN bad), tG, tG, tG, tG, tG, tG, tG, tG, tG, tG, tO]) rfl (callA rfl rfl (sum_fit _)) met_O (by simp) rfl) ?_
  refine seq_nx (to_exc (L' := [tG, tG, (tN bad), tG, tG, tG, tG, tG, tG, tG, tG, tG, tG, tO, tO]) rfl (callA rfl rfl (difference_fit _)) met_O (by simp) rfl) ?_
  refine seq_nx (to_exc (L' := [tG, tG, (tN bad), tG, tG, tG, tG, tG, tG, tG, tG, tG, tG, tO, tO, tO]) rfl (callA rfl rfl (product_fit _)) met_O (by simp) rfl) ?_
  refine seq_nx (to_exc (L' := [tG, tG, (tN bad), tG, tG, tG, tG, tG, tG, tG, tG, tG, tG, tO, tO, tO, tO]) rfl (callA rfl rfl (beside_fit _)) met_O (by simp) rfl) ?_
  refine seq_nx (to_exc (L' := [tG, tG, (tN bad), tG, tG, tG, tG, tG, tG, tG, tG, tG, tG, tO, tO, tO, tO, tO]) rfl (callA rfl rfl (over_fit _)) met_O (by simp) rfl) ?_
  refine seq_nx (to_let (L' := [tG, tG, (tN bad), tG, tG, tG, tG, tG, tG, tG, tG, tG, tG, tO, tO, tO, tO, tO, tL]) rfl (callA rfl rfl ((product_let1 _).choose_spec)) (by simp) rfl) ?_
  refine seq_nx (to_let (L' := [tG, tG, (tN bad), tG, tG, tG, tG, tG, tG, tG, tG, tG, tG, tO, tO, tO, tO, tO, tL, tL]) rfl (callA rfl rfl ((product_let2 _).choose_spec)) (by simp) rfl) ?_
  refine seq_nx (set_to (x := .list [tG, tG, (tN bad), tG, tG, tG, tG, tG, tG, tG, tG, tG, tG, tO, tO, tO, tO, tO, tL, tL]) (ρ' := [some (.c n), some (.d odd), some (.d non), some (.d bad), some (.d Math.one), some (.d wide), some (.d high), some (.c s.length), some (.d (.list [tG, tG, (tN bad), tG, tG, tG, tG, tG, tG, tG, tG, tG, tG, tO, tO, tO, tO, tO, tL, tL])), some (.f 4)]) (by simp -implicitDefEqProofs [Math.ap_eVar, Math.ap_lVar, Math.ap_eC, Math.ap_eL, Math.ap_eUn, Math.ap_eBin, Math.ap_eAnd, Math.ap_eOr, Math.ap_eNot, Math.ap_mE, Math.ap_mNot, Math.ap_mAnd, Math.ap_mOr, Math.ap_eIf, Math.ap_aNil, Math.ap_aCons, Math.ap_dNil, Math.ap_dCons, Math.ap_eTup, Math.ap_cLst, Math.ap_eFr, Math.ap_eIx, Math.ap_eSl, Math.ap_cList, Math.ap_eCall, Math.ap_cCall, Math.ap_mSeq, Math.ap_mNil, Math.ap_mSet, Math.ap_mSetC, Math.ap_mRet, Math.ap_mRetN, Math.ap_mRetL, Math.ap_mDrop, Math.ap_mIf, Math.ap_mNever, Math.ap_mPar, Math.ap_mPar3, Math.ap_mPut, Math.ap_mApp, Math.ap_mTo, Math.ap_mYes, Math.ap_iSq, Math.ap_iZp, Math.ap_iEn, Math.ap_mRetC, Math.ap_eCh, Math.ap_noPart, Math.ap_aPart, Math.ap_eSlice, Math.ap_mkF, Math.ap_mkC, Mir.env0, Mir.fin, Mir.finC, Mir.thenDo, Mir.toFl, Mir.wipeE, Mir.itemsOf, Mir.orBad, Mir.gNm, Mir.gTp, Mir.gNms, Mir.Out.bind, Mir.gIx, Mir.seqOf, Mir.gLen, Mir.gTuple, Mir.gAbs, Mir.gInt, Mir.gCmp, Mir.gI, Mir.gAdd, Mir.gSub, Mir.gNeg, Mir.gBols, Mir.gInts, Mir.gChain, Mir.nxO, Mir.putAt, Mir.appAt, Mir.isC, L2.atI, L2.ixN, Math.eIsi_tuple, Math.eIsi_int, Math.eIsi_bool, Math.gEq_int, Math.gEq_bool, Mir.gMulL, toFl_ok']) rfl) ?_
  refine seq_nx (to_exc (L' := [tG, tG, (tN bad), tG, tG, tG, tG, tG, tG, tG, tG, tG, tG, tO, tO, tO, tO, tO, tL, tL, tG]) rfl (callA rfl rfl (led_no1 odd non _ ho)) met_G (by simp) rfl) ?_
  refine seq_nx (to_exc (L' := [tG, tG, (tN bad), tG, tG, tG, tG, tG, tG, tG, tG, tG, tG, tO, tO, tO, tO, tO, tL, tL, tG, tR]) rfl (callA rfl rfl (led_no2 wide non _ is_wide hn)) met_R (by simp) rfl) ?_
  refine seq_nx (to_exc (L' := [tG, tG, (tN bad), tG, tG, tG, tG, tG, tG, tG, tG, tG, tG, tO, tO, tO, tO, tO, tL, tL, tG, tR, tO]) rfl (callA rfl rfl (led_fit _)) met_O (by simp) rfl) ?_
  refine seq_nx (to_let (L' := [tG, tG, (tN bad), tG, tG, tG, tG, tG, tG, tG, tG, tG, tG, tO, tO, tO, tO, tO, tL, tL, tG, tR, tO, tL]) rfl (callA rfl rfl (led_let _)) (by simp) rfl) ?_
  refine seq_nx (to_exc (L' := [tG, tG, (tN bad), tG, tG, tG, tG, tG, tG, tG, tG, tG, tG, tO, tO, tO, tO, tO, tL, tL, tG, tR, tO, tL, tR]) rfl (callA rfl rfl (read_no1 non odd _ hn)) met_R (by simp) rfl) ?_
  refine seq_nx (to_exc (L' := [tG, tG, (tN bad), tG, tG, tG, tG, tG, tG, tG, tG, tG, tG, tO, tO, tO, tO, tO, tL, tL, tG, tR, tO, tL, tR, tG]) rfl (callA rfl rfl (read_no2 (.tuple [.int 1]) odd _ is_row1 ho)) met_G (by simp) rfl) ?_
  refine seq_nx (to_exc (L' := [tG, tG, (tN bad), tG, tG, tG, tG, tG, tG, tG, tG, tG, tG, tO, tO, tO, tO, tO, tL, tL, tG, tR, tO, tL, tR, tG, tO]) rfl (callA rfl rfl (read_fit _)) met_O (by simp) rfl) ?_
  refine seq_nx (to_let (L' := [tG, tG, (tN bad), tG, tG, tG, tG, tG, tG, tG, tG, tG, tG, tO, tO, tO, tO, tO, tL, tL, tG, tR, tO, tL, tR, tG, tO, tL]) rfl (callA rfl rfl (read_let _)) (by simp) rfl) ?_
  refine seq_nx (set_to (x := .list [tG, tG, (tN bad), tG, tG, tG, tG, tG, tG, tG, tG, tG, tG, tO, tO, tO, tO, tO, tL, tL, tG, tR, tO, tL, tR, tG, tO, tL]) (ρ' := [some (.c n), some (.d odd), some (.d non), some (.d bad), some (.d Math.one), some (.d wide), some (.d high), some (.c s.length), some (.d (.list [tG, tG, (tN bad), tG, tG, tG, tG, tG, tG, tG, tG, tG, tG, tO, tO, tO, tO, tO, tL, tL, tG, tR, tO, tL, tR, tG, tO, tL])), some (.f 4)]) (by simp -implicitDefEqProofs [Math.ap_eVar, Math.ap_lVar, Math.ap_eC, Math.ap_eL, Math.ap_eUn, Math.ap_eBin, Math.ap_eAnd, Math.ap_eOr, Math.ap_eNot, Math.ap_mE, Math.ap_mNot, Math.ap_mAnd, Math.ap_mOr, Math.ap_eIf, Math.ap_aNil, Math.ap_aCons, Math.ap_dNil, Math.ap_dCons, Math.ap_eTup, Math.ap_cLst, Math.ap_eFr, Math.ap_eIx, Math.ap_eSl, Math.ap_cList, Math.ap_eCall, Math.ap_cCall, Math.ap_mSeq, Math.ap_mNil, Math.ap_mSet, Math.ap_mSetC, Math.ap_mRet, Math.ap_mRetN, Math.ap_mRetL, Math.ap_mDrop, Math.ap_mIf, Math.ap_mNever, Math.ap_mPar, Math.ap_mPar3, Math.ap_mPut, Math.ap_mApp, Math.ap_mTo, Math.ap_mYes, Math.ap_iSq, Math.ap_iZp, Math.ap_iEn, Math.ap_mRetC, Math.ap_eCh, Math.ap_noPart, Math.ap_aPart, Math.ap_eSlice, Math.ap_mkF, Math.ap_mkC, Mir.env0, Mir.fin, Mir.finC, Mir.thenDo, Mir.toFl, Mir.wipeE, Mir.itemsOf, Mir.orBad, Mir.gNm, Mir.gTp, Mir.gNms, Mir.Out.bind, Mir.gIx, Mir.seqOf, Mir.gLen, Mir.gTuple, Mir.gAbs, Mir.gInt, Mir.gCmp, Mir.gI, Mir.gAdd, Mir.gSub, Mir.gNeg, Mir.gBols, Mir.gInts, Mir.gChain, Mir.nxO, Mir.putAt, Mir.appAt, Mir.isC, L2.atI, L2.ixN, Math.eIsi_tuple, Math.eIsi_int, Math.eIsi_bool, Math.gEq_int, Math.gEq_bool, Mir.gMulL, toFl_ok']) rfl) ?_
  exact ret_eqL (L := gTold bad) rfl rfl (gTold_sh bad hk) (gTold_eqv bad)
end Math
/-! # k04: rows, and the whole -/
namespace Math
open PySem Mir Fn
def rRest : MS := (mSeq (mParCD 4 5 (cLst dNil) (eFr (cLst dNil)))
    (mSeq (mForF 6 [5, 6, 7]
    (mSeq (mApp (lVar 4) (eMetP subT hdsP letsT (eCallV 6 2 tblF (aCons (lVar 1) (aCons (eL (eC .none)) aNil)))))
    (mSeq (mApp (lVar 4) (eMetP subT hdsP letsT (eCallV 6 2 tblF (aCons (eL (eTup (dCons (eC (.int 1)) dNil))) (aCons (lVar 1) aNil)))))
    (mSeq (mApp (lVar 4) (eMetP subT hdsP letsT (eCallV 6 2 tblF (aCons (eL (eTup (dCons (eC (.int 1)) (dCons (eC (.int 2)) dNil)))) (aCons (eL (eTup (dCons (eC (.int 1)) dNil))) aNil)))))
    (mSeq (mApp (lVar 4) (eMetP subT hdsP letsT (eCallV 6 2 tblF (aCons (eL (eTup dNil)) (aCons (eL (eTup dNil)) aNil)))))
    (mSet 5 (eBin gAdd (eVar 5) (eFr (cLst (dCons (eTup (dCons (eC (.str (Str.ofString "refused"))) (dCons (eC (.str (Str.ofString "row"))) dNil))) (dCons (eTup (dCons (eC (.str (Str.ofString "refused"))) (dCons (eC (.str (Str.ofString "row"))) dNil))) (dCons (eTup (dCons (eC (.str (Str.ofString "refused"))) (dCons (eC (.str (Str.ofString "fit"))) dNil))) (dCons (eTup (dCons (eC (.str (Str.ofString "let"))) dNil)) dNil)))))))))))))
    (mSeq (mApp (lVar 4) (eMetP subT hdsP letsT (eCall 2 run_row_multiple (aCons (lVar 1) (aCons (lVar 2) aNil)))))
    (mSeq (mApp (lVar 4) (eMetP subT hdsP letsT (eCall 2 run_row_multiple (aCons (eL (eTup (dCons (eC (.int 1)) dNil))) (aCons (lVar 2) aNil)))))
    (mSeq (mApp (lVar 4) (eMetP subT hdsP letsT (eCall 2 run_shared (aCons (lVar 2) (aCons (eL (eC .none)) aNil)))))
    (mSeq (mApp (lVar 4) (eMetP subT hdsP letsT (eCall 2 run_shared (aCons (eL (eC (.int 1))) (aCons (lVar 2) aNil)))))
    (mSeq (mSet 5 (eBin gAdd (eBin gAdd (eVar 5) (eFr (cLst (dCons (eTup (dCons (eC (.str (Str.ofString "refused"))) (dCons (eC (.str (Str.ofString "row"))) dNil))) dNil)))) (eBin gMulL (eFr (cLst (dCons (eTup (dCons (eC (.str (Str.ofString "refused"))) (dCons (eC (.str (Str.ofString "number"))) (dCons (eRepr (eVar 2)) dNil)))) dNil))) (eC (.int 3)))))
    (mSeq (mSet 7 (eCall 2 run_law_out_of (aCons (lVar 0) (aCons (eL (eFr (cLst (dCons (eUn gNeg (eC (.int 1))) (dCons (eC .none) (dCons (eC (.bool true)) (dCons (eBin gPow (eC (.int 10)) (eC (.int 12))) dNil))))))) aNil))))
    (mSeq (mApp (lVar 4) (eMetP subT hdsP letsT (eCall 2 run_is_nought (aCons (lVar 1) (aCons (lVar 7) aNil)))))
    (mSeq (mApp (lVar 4) (eMetP subT hdsP letsT (eCall 2 run_is_nought (aCons (lVar 2) (aCons (eL (eC (.int 0))) aNil)))))
    (mSeq (mApp (lVar 4) (eMetP subT hdsP letsT (eCall 1 run_unit_grid (aCons (lVar 3) aNil))))
    (mSeq (mApp (lVar 4) (eMetP subT hdsP letsT (eCall 2 run_nought_grid (aCons (lVar 3) (aCons (eL (eC (.str (Str.ofString "w")))) aNil)))))
    (mSeq (mSet 5 (eBin gAdd (eVar 5) (eFr (cLst (dCons (eTup (dCons (eC (.str (Str.ofString "refused"))) (dCons (eC (.str (Str.ofString "number"))) (dCons (eRepr (eVar 7)) dNil)))) (dCons (eTup (dCons (eC (.str (Str.ofString "let"))) dNil)) (dCons (eTup (dCons (eC (.str (Str.ofString "refused"))) (dCons (eC (.str (Str.ofString "number"))) (dCons (eRepr (eVar 3)) dNil)))) (dCons (eTup (dCons (eC (.str (Str.ofString "refused"))) (dCons (eC (.str (Str.ofString "number"))) (dCons (eRepr (eVar 3)) dNil)))) dNil))))))))
    (mSeq (mApp (lVar 4) (eMetP subT hdsP letsT (eCall 2 run_nought_grid (aCons (eL (eC (.int 0))) (aCons (lVar 3) aNil)))))
    (mSeq (mApp (lVar 4) (eMetP subT hdsP letsT (eCall 1 run_unit_grid (aCons (eL (eC (.int 60))) aNil))))
    (mSeq (mApp (lVar 4) (eMetP subT hdsP letsT (eCall 2 run_nought_grid (aCons (eL (eC (.int 60))) (aCons (eL (eC (.int 60))) aNil)))))
    (mRet (eEqL false (lVar 4) (eBin gAdd (eVar 5) (eFr (cLst (dCons (eTup (dCons (eC (.str (Str.ofString "refused"))) (dCons (eC (.str (Str.ofString "number"))) (dCons (eRepr (eVar 3)) dNil)))) (dCons (eTup (dCons (eC (.str (Str.ofString "let"))) dNil)) (dCons (eTup (dCons (eC (.str (Str.ofString "let"))) dNil)) dNil))))))))))))))))))))))))
def rTwo : MS := (mSeq (mApp (lVar 4) (eMetP subT hdsP letsT (eCall 2 run_is_nought (aCons (lVar 1) (aCons (lVar 7) aNil)))))
    (mSeq (mApp (lVar 4) (eMetP subT hdsP letsT (eCall 2 run_is_nought (aCons (lVar 2) (aCons (eL (eC (.int 0))) aNil)))))
    (mSeq (mApp (lVar 4) (eMetP subT hdsP letsT (eCall 1 run_unit_grid (aCons (lVar 3) aNil))))
    (mSeq (mApp (lVar 4) (eMetP subT hdsP letsT (eCall 2 run_nought_grid (aCons (lVar 3) (aCons (eL (eC (.str (Str.ofString "w")))) aNil)))))
    (mSeq (mSet 5 (eBin gAdd (eVar 5) (eFr (cLst (dCons (eTup (dCons (eC (.str (Str.ofString "refused"))) (dCons (eC (.str (Str.ofString "number"))) (dCons (eRepr (eVar 7)) dNil)))) (dCons (eTup (dCons (eC (.str (Str.ofString "let"))) dNil)) (dCons (eTup (dCons (eC (.str (Str.ofString "refused"))) (dCons (eC (.str (Str.ofString "number"))) (dCons (eRepr (eVar 3)) dNil)))) (dCons (eTup (dCons (eC (.str (Str.ofString "refused"))) (dCons (eC (.str (Str.ofString "number"))) (dCons (eRepr (eVar 3)) dNil)))) dNil))))))))
    (mSeq (mApp (lVar 4) (eMetP subT hdsP letsT (eCall 2 run_nought_grid (aCons (eL (eC (.int 0))) (aCons (lVar 3) aNil)))))
    (mSeq (mApp (lVar 4) (eMetP subT hdsP letsT (eCall 1 run_unit_grid (aCons (eL (eC (.int 60))) aNil))))
    (mSeq (mApp (lVar 4) (eMetP subT hdsP letsT (eCall 2 run_nought_grid (aCons (eL (eC (.int 60))) (aCons (eL (eC (.int 60))) aNil)))))
    (mRet (eEqL false (lVar 4) (eBin gAdd (eVar 5) (eFr (cLst (dCons (eTup (dCons (eC (.str (Str.ofString "refused"))) (dCons (eC (.str (Str.ofString "number"))) (dCons (eRepr (eVar 3)) dNil)))) (dCons (eTup (dCons (eC (.str (Str.ofString "let"))) dNil)) (dCons (eTup (dCons (eC (.str (Str.ofString "let"))) dNil)) dNil))))))))))))))))
def lessS : MS := (mSet 7 (eCall 2 run_law_out_of (aCons (lVar 0) (aCons (eL (eFr (cLst (dCons (eUn gNeg (eC (.int 1))) (dCons (eC .none) (dCons (eC (.bool true)) (dCons (eBin gPow (eC (.int 10)) (eC (.int 12))) dNil))))))) aNil))))
def rTold (bad size less : PyData) : List PyData := [tR, tR, tO, tL, tR, tR, tO, tL, tR, tR, tO, tL, tR, (tN bad), (tN bad), (tN bad), (tN less), tL, (tN size), (tN size), (tN size), tL, tL]
theorem rTold_sh {bad size less : PyData} (h1 : PyData.strOk bad.shown = true) (h2 : PyData.strOk size.shown = true) (h3 : PyData.strOk less.shown = true) : Sh 64 (.list (rTold bad size less)) := by
  simp [rTold, Sh, PyData.canLay0, PyData.canLayAll0, PyData.depth, PyData.depthAll, h1, h2, h3]
  decide +kernel
theorem rTold_eqv (bad size less : PyData) : PyData.eqvAll (rTold bad size less) (rTold bad size less) = true := by simp [rTold, PyData.eqvAll, PyData.eqv]
theorem forF_nil {j : Nat} {body : MS} {ρ : Mir.Env} {s : Sto} : forF j body [] ρ s = .nx ρ s := rfl
def rLoop : MS := mSeq (mParCD 4 5 (cLst dNil) (eFr (cLst dNil)))
    (mForF 6 [5, 6, 7]
    (mSeq (mApp (lVar 4) (eMetP subT hdsP letsT (eCallV 6 2 tblF (aCons (lVar 1) (aCons (eL (eC .none)) aNil)))))
    (mSeq (mApp (lVar 4) (eMetP subT hdsP letsT (eCallV 6 2 tblF (aCons (eL (eTup (dCons (eC (.int 1)) dNil))) (aCons (lVar 1) aNil)))))
    (mSeq (mApp (lVar 4) (eMetP subT hdsP letsT (eCallV 6 2 tblF (aCons (eL (eTup (dCons (eC (.int 1)) (dCons (eC (.int 2)) dNil)))) (aCons (eL (eTup (dCons (eC (.int 1)) dNil))) aNil)))))
    (mSeq (mApp (lVar 4) (eMetP subT hdsP letsT (eCallV 6 2 tblF (aCons (eL (eTup dNil)) (aCons (eL (eTup dNil)) aNil)))))
    (mSet 5 (eBin gAdd (eVar 5) (eFr (cLst (dCons (eTup (dCons (eC (.str (Str.ofString "refused"))) (dCons (eC (.str (Str.ofString "row"))) dNil))) (dCons (eTup (dCons (eC (.str (Str.ofString "refused"))) (dCons (eC (.str (Str.ofString "row"))) dNil))) (dCons (eTup (dCons (eC (.str (Str.ofString "refused"))) (dCons (eC (.str (Str.ofString "fit"))) dNil))) (dCons (eTup (dCons (eC (.str (Str.ofString "let"))) dNil)) dNil)))))))))))))
theorem r_loop {n : Nat} {s : Sto} {non bad size : PyData} (hn : isRow non = false) :
    rLoop [some (.c n), some (.d non), some (.d bad), some (.d size), none, none, none, none] s = .nx [some (.c n), some (.d non), some (.d bad), some (.d size), some (.c s.length), some (.d (.list [tR, tR, tO, tL, tR, tR, tO, tL, tR, tR, tO, tL])), some (.f 7), none] (s ++ [[tR, tR, tO, tL, tR, tR, tO, tL, tR, tR, tO, tL]]) := by
  refine seq_nx (ρ1 := [some (.c n), some (.d non), some (.d bad), some (.d size), some (.c s.length), some (.d (.list [])), none, none]) (s1 := s ++ [[]]) rfl ?_
  rw [ap_mForF]
  refine forF_one (seq_nx (to_exc (L' := [tR]) rfl (callV rfl rfl rfl rfl (dot_no1 non .none _ hn)) met_R (by simp) rfl) (seq_nx (to_exc (L' := [tR, tR]) rfl (callV rfl rfl rfl rfl (dot_no2 (.tuple [.int 1]) non _ is_row1 hn)) met_R (by simp) rfl) (seq_nx (to_exc (L' := [tR, tR, tO]) rfl (callV rfl rfl rfl rfl (dot_fit _)) met_O (by simp) rfl) (seq_nx (to_let (L' := [tR, tR, tO, tL]) rfl (callV rfl rfl rfl rfl (dot_let _)) (by simp) rfl) (set_to (x := .list [tR, tR, tO, tL]) (ρ' := [some (.c n), some (.d non), some (.d bad), some (.d size), some (.c s.length), some (.d (.list [tR, tR, tO, tL])), some (.f 5), none]) (by simp -implicitDefEqProofs [Math.ap_eVar, Math.ap_lVar, Math.ap_eC, Math.ap_eL, Math.ap_eUn, Math.ap_eBin, Math.ap_eAnd, Math.ap_eOr, Math.ap_eNot, Math.ap_mE, Math.ap_mNot, Math.ap_mAnd, Math.ap_mOr, Math.ap_eIf, Math.ap_aNil, Math.ap_aCons, Math.ap_dNil, Math.ap_dCons, Math.ap_eTup, Math.ap_cLst, Math.ap_eFr, Math.ap_eIx, Math.ap_eSl, Math.ap_cList, Math.ap_eCall, Math.ap_cCall, Math.ap_mSeq, Math.ap_mNil, Math.ap_mSet, Math.ap_mSetC, Math.ap_mRet, Math.ap_mRetN, Math.ap_mRetL, Math.ap_mDrop, Math.ap_mIf, Math.ap_mNever, Math.ap_mPar, Math.ap_mPar3, Math.ap_mPut, Math.ap_mApp, Math.ap_mTo, Math.ap_mYes, Math.ap_iSq, Math.ap_iZp, Math.ap_iEn, Math.ap_mRetC, Math.ap_eCh, Math.ap_noPart, Math.ap_aPart, Math.ap_eSlice, Math.ap_mkF, Math.ap_mkC, Mir.env0, Mir.fin, Mir.finC, Mir.thenDo, Mir.toFl, Mir.wipeE, Mir.itemsOf, Mir.orBad, Mir.gNm, Mir.gTp, Mir.gNms, Mir.Out.bind, Mir.gIx, Mir.seqOf, Mir.gLen, Mir.gTuple, Mir.gAbs, Mir.gInt, Mir.gCmp, Mir.gI, Mir.gAdd, Mir.gSub, Mir.gNeg, Mir.gBols, Mir.gInts, Mir.gChain, Mir.nxO, Mir.putAt, Mir.appAt, Mir.isC, L2.atI, L2.ixN, Math.eIsi_tuple, Math.eIsi_int, Math.eIsi_bool, Math.gEq_int, Math.gEq_bool, toFl_ok']) rfl))))) ?_
  refine forF_one (seq_nx (to_exc (L' := [tR, tR, tO, tL, tR]) rfl (callV rfl rfl rfl rfl (rsum_no1 non .none _ hn)) met_R (by simp) rfl) (seq_nx (to_exc (L' := [tR, tR, tO, tL, tR, tR]) rfl (callV rfl rfl rfl rfl (rsum_no2 (.tuple [.int 1]) non _ is_row1 hn)) met_R (by simp) rfl) (seq_nx (to_exc (L' := [tR, tR, tO, tL, tR, tR, tO]) rfl (callV rfl rfl rfl rfl (rsum_fit _)) met_O (by simp) rfl) (seq_nx (to_let (L' := [tR, tR, tO, tL, tR, tR, tO, tL]) rfl (callV rfl rfl rfl rfl (rsum_let _)) (by simp) rfl) (set_to (x := .list [tR, tR, tO, tL, tR, tR, tO, tL]) (ρ' := [some (.c n), some (.d non), some (.d bad), some (.d size), some (.c s.length), some (.d (.list [tR, tR, tO, tL, tR, tR, tO, tL])), some (.f 6), none]) (by simp -implicitDefEqProofs [Math.ap_eVar, Math.ap_lVar, Math.ap_eC, Math.ap_eL, Math.ap_eUn, Math.ap_eBin, Math.ap_eAnd, Math.ap_eOr, Math.ap_eNot, Math.ap_mE, Math.ap_mNot, Math.ap_mAnd, Math.ap_mOr, Math.ap_eIf, Math.ap_aNil, Math.ap_aCons, Math.ap_dNil, Math.ap_dCons, Math.ap_eTup, Math.ap_cLst, Math.ap_eFr, Math.ap_eIx, Math.ap_eSl, Math.ap_cList, Math.ap_eCall, Math.ap_cCall, Math.ap_mSeq, Math.ap_mNil, Math.ap_mSet, Math.ap_mSetC, Math.ap_mRet, Math.ap_mRetN, Math.ap_mRetL, Math.ap_mDrop, Math.ap_mIf, Math.ap_mNever, Math.ap_mPar, Math.ap_mPar3, Math.ap_mPut, Math.ap_mApp, Math.ap_mTo, Math.ap_mYes, Math.ap_iSq, Math.ap_iZp, Math.ap_iEn, Math.ap_mRetC, Math.ap_eCh, Math.ap_noPart, Math.ap_aPart, Math.ap_eSlice, Math.ap_mkF, Math.ap_mkC, Mir.env0, Mir.fin, Mir.finC, Mir.thenDo, Mir.toFl, Mir.wipeE, Mir.itemsOf, Mir.orBad, Mir.gNm, Mir.gTp, Mir.gNms, Mir.Out.bind, Mir.gIx, Mir.seqOf, Mir.gLen, Mir.gTuple, Mir.gAbs, Mir.gInt, Mir.gCmp, Mir.gI, Mir.gAdd, Mir.gSub, Mir.gNeg, Mir.gBols, Mir.gInts, Mir.gChain, Mir.nxO, Mir.putAt, Mir.appAt, Mir.isC, L2.atI, L2.ixN, Math.eIsi_tuple, Math.eIsi_int, Math.eIsi_bool, Math.gEq_int, Math.gEq_bool, toFl_ok']) rfl))))) ?_
  refine forF_one (seq_nx (to_exc (L' := [tR, tR, tO, tL, tR, tR, tO, tL, tR]) rfl (callV rfl rfl rfl rfl (rdiff_no1 non .none _ hn)) met_R (by simp) rfl) (seq_nx (to_exc (L' := [tR, tR, tO, tL, tR, tR, tO, tL, tR, tR]) rfl (callV rfl rfl rfl rfl (rdiff_no2 (.tuple [.int 1]) non _ is_row1 hn)) met_R (by simp) rfl) (seq_nx (to_exc (L' := [tR, tR, tO, tL, tR, tR, tO, tL, tR, tR, tO]) rfl (callV rfl rfl rfl rfl (rdiff_fit _)) met_O (by simp) rfl) (seq_nx (to_let (L' := [tR, tR, tO, tL, tR, tR, tO, tL, tR, tR, tO, tL]) rfl (callV rfl rfl rfl rfl (rdiff_let _)) (by simp) rfl) (set_to (x := .list [tR, tR, tO, tL, tR, tR, tO, tL, tR, tR, tO, tL]) (ρ' := [some (.c n), some (.d non), some (.d bad), some (.d size), some (.c s.length), some (.d (.list [tR, tR, tO, tL, tR, tR, tO, tL, tR, tR, tO, tL])), some (.f 7), none]) (by simp -implicitDefEqProofs [Math.ap_eVar, Math.ap_lVar, Math.ap_eC, Math.ap_eL, Math.ap_eUn, Math.ap_eBin, Math.ap_eAnd, Math.ap_eOr, Math.ap_eNot, Math.ap_mE, Math.ap_mNot, Math.ap_mAnd, Math.ap_mOr, Math.ap_eIf, Math.ap_aNil, Math.ap_aCons, Math.ap_dNil, Math.ap_dCons, Math.ap_eTup, Math.ap_cLst, Math.ap_eFr, Math.ap_eIx, Math.ap_eSl, Math.ap_cList, Math.ap_eCall, Math.ap_cCall, Math.ap_mSeq, Math.ap_mNil, Math.ap_mSet, Math.ap_mSetC, Math.ap_mRet, Math.ap_mRetN, Math.ap_mRetL, Math.ap_mDrop, Math.ap_mIf, Math.ap_mNever, Math.ap_mPar, Math.ap_mPar3, Math.ap_mPut, Math.ap_mApp, Math.ap_mTo, Math.ap_mYes, Math.ap_iSq, Math.ap_iZp, Math.ap_iEn, Math.ap_mRetC, Math.ap_eCh, Math.ap_noPart, Math.ap_aPart, Math.ap_eSlice, Math.ap_mkF, Math.ap_mkC, Mir.env0, Mir.fin, Mir.finC, Mir.thenDo, Mir.toFl, Mir.wipeE, Mir.itemsOf, Mir.orBad, Mir.gNm, Mir.gTp, Mir.gNms, Mir.Out.bind, Mir.gIx, Mir.seqOf, Mir.gLen, Mir.gTuple, Mir.gAbs, Mir.gInt, Mir.gCmp, Mir.gI, Mir.gAdd, Mir.gSub, Mir.gNeg, Mir.gBols, Mir.gInts, Mir.gChain, Mir.nxO, Mir.putAt, Mir.appAt, Mir.isC, L2.atI, L2.ixN, Math.eIsi_tuple, Math.eIsi_int, Math.eIsi_bool, Math.gEq_int, Math.gEq_bool, toFl_ok']) rfl))))) ?_
  exact forF_nil
theorem r_two {n : Nat} {s : Sto} {non bad size less : PyData} (hb : isShort bad = false) (hs : isBetween 0 60 size = false) (hl : ∀ s, run_check_least [.d less, .d (.int 0)] s = .exc (xN less) s)
    (r1 : gRepr bad = some (.str bad.shown)) (r2 : gRepr size = some (.str size.shown)) (r3 : gRepr less = some (.str less.shown)) (k1 : PyData.strOk bad.shown = true) (k2 : PyData.strOk size.shown = true) (k3 : PyData.strOk less.shown = true) :
    rTwo [some (.c n), some (.d non), some (.d bad), some (.d size), some (.c s.length), some (.d (.list [tR, tR, tO, tL, tR, tR, tO, tL, tR, tR, tO, tL, tR, (tN bad), (tN bad), (tN bad)])), some (.f 7), some (.d less)] (s ++ [[tR, tR, tO, tL, tR, tR, tO, tL, tR, tR, tO, tL, tR, (tN bad), (tN bad), (tN bad)]]) = .rt (.d (.bool true)) (s ++ [rTold bad size less]) := by
  have m1 := met_N r1
  have m2 := met_N r2
  have m3 := met_N r3
  refine seq_nx (to_exc (L' := [tR, tR, tO, tL, tR, tR, tO, tL, tR, tR, tO, tL, tR, (tN bad), (tN bad), (tN bad), (tN less)]) rfl (callA rfl rfl (nought_low non less _ (hl _))) m3 (by simp) rfl) ?_
  refine seq_nx (to_let (L' := [tR, tR, tO, tL, tR, tR, tO, tL, tR, tR, tO, tL, tR, (tN bad), (tN bad), (tN bad), (tN less), tL]) rfl (callA rfl rfl (nought_let bad _ hb)) (by simp) rfl) ?_
  refine seq_nx (to_exc (L' := [tR, tR, tO, tL, tR, tR, tO, tL, tR, tR, tO, tL, tR, (tN bad), (tN bad), (tN bad), (tN less), tL, (tN size)]) rfl (callA rfl rfl (unit_no size _ hs)) m2 (by simp) rfl) ?_
  refine seq_nx (to_exc (L' := [tR, tR, tO, tL, tR, tR, tO, tL, tR, tR, tO, tL, tR, (tN bad), (tN bad), (tN bad), (tN less), tL, (tN size), (tN size)]) rfl (callA rfl rfl (nought_no1 size _ _ hs)) m2 (by simp) rfl) ?_
  refine seq_nx (set_to (x := .list [tR, tR, tO, tL, tR, tR, tO, tL, tR, tR, tO, tL, tR, (tN bad), (tN bad), (tN bad), (tN less), tL, (tN size), (tN size)]) (ρ' := [some (.c n), some (.d non), some (.d bad), some (.d size), some (.c s.length), some (.d (.list [tR, tR, tO, tL, tR, tR, tO, tL, tR, tR, tO, tL, tR, (tN bad), (tN bad), (tN bad), (tN less), tL, (tN size), (tN size)])), some (.f 7), some (.d less)]) (by simp -implicitDefEqProofs [Math.ap_eVar, Math.ap_lVar, Math.ap_eC, Math.ap_eL, Math.ap_eUn, Math.ap_eBin, Math.ap_eAnd, Math.ap_eOr, Math.ap_eNot, Math.ap_mE, Math.ap_mNot, Math.ap_mAnd, Math.ap_mOr, Math.ap_eIf, Math.ap_aNil, Math.ap_aCons, Math.ap_dNil, Math.ap_dCons, Math.ap_eTup, Math.ap_cLst, Math.ap_eFr, Math.ap_eIx, Math.ap_eSl, Math.ap_cList, Math.ap_eCall, Math.ap_cCall, Math.ap_mSeq, Math.ap_mNil, Math.ap_mSet, Math.ap_mSetC, Math.ap_mRet, Math.ap_mRetN, Math.ap_mRetL, Math.ap_mDrop, Math.ap_mIf, Math.ap_mNever, Math.ap_mPar, Math.ap_mPar3, Math.ap_mPut, Math.ap_mApp, Math.ap_mTo, Math.ap_mYes, Math.ap_iSq, Math.ap_iZp, Math.ap_iEn, Math.ap_mRetC, Math.ap_eCh, Math.ap_noPart, Math.ap_aPart, Math.ap_eSlice, Math.ap_mkF, Math.ap_mkC, Mir.env0, Mir.fin, Mir.finC, Mir.thenDo, Mir.toFl, Mir.wipeE, Mir.itemsOf, Mir.orBad, Mir.gNm, Mir.gTp, Mir.gNms, Mir.Out.bind, Mir.gIx, Mir.seqOf, Mir.gLen, Mir.gTuple, Mir.gAbs, Mir.gInt, Mir.gCmp, Mir.gI, Mir.gAdd, Mir.gSub, Mir.gNeg, Mir.gBols, Mir.gInts, Mir.gChain, Mir.nxO, Mir.putAt, Mir.appAt, Mir.isC, L2.atI, L2.ixN, Math.eIsi_tuple, Math.eIsi_int, Math.eIsi_bool, Math.gEq_int, Math.gEq_bool, Mir.gMulL, ap_eRepr, r2, r3, toFl_ok']) rfl) ?_
  refine seq_nx (to_exc (L' := [tR, tR, tO, tL, tR, tR, tO, tL, tR, tR, tO, tL, tR, (tN bad), (tN bad), (tN bad), (tN less), tL, (tN size), (tN size), (tN size)]) rfl (callA rfl rfl (nought_no2 (.int 0) size _ (by decide) hs)) m2 (by simp) rfl) ?_
  refine seq_nx (to_let (L' := [tR, tR, tO, tL, tR, tR, tO, tL, tR, tR, tO, tL, tR, (tN bad), (tN bad), (tN bad), (tN less), tL, (tN size), (tN size), (tN size), tL]) rfl (callA rfl rfl (unit_grid (n := 60) (by decide))) (by simp) rfl) ?_
  refine seq_nx (to_let (L' := [tR, tR, tO, tL, tR, tR, tO, tL, tR, tR, tO, tL, tR, (tN bad), (tN bad), (tN bad), (tN less), tL, (tN size), (tN size), (tN size), tL, tL]) rfl (callA rfl rfl (nought_grid (h := 60) (w := 60) (by decide) (by decide))) (by simp) rfl) ?_
  refine ret_eqL (L := rTold bad size less) rfl ?_ (rTold_sh k1 k2 k3) (rTold_eqv bad size less)
  simp -implicitDefEqProofs [Math.ap_eVar, Math.ap_lVar, Math.ap_eC, Math.ap_eL, Math.ap_eUn, Math.ap_eBin, Math.ap_eAnd, Math.ap_eOr, Math.ap_eNot, Math.ap_mE, Math.ap_mNot, Math.ap_mAnd, Math.ap_mOr, Math.ap_eIf, Math.ap_aNil, Math.ap_aCons, Math.ap_dNil, Math.ap_dCons, Math.ap_eTup, Math.ap_cLst, Math.ap_eFr, Math.ap_eIx, Math.ap_eSl, Math.ap_cList, Math.ap_eCall, Math.ap_cCall, Math.ap_mSeq, Math.ap_mNil, Math.ap_mSet, Math.ap_mSetC, Math.ap_mRet, Math.ap_mRetN, Math.ap_mRetL, Math.ap_mDrop, Math.ap_mIf, Math.ap_mNever, Math.ap_mPar, Math.ap_mPar3, Math.ap_mPut, Math.ap_mApp, Math.ap_mTo, Math.ap_mYes, Math.ap_iSq, Math.ap_iZp, Math.ap_iEn, Math.ap_mRetC, Math.ap_eCh, Math.ap_noPart, Math.ap_aPart, Math.ap_eSlice, Math.ap_mkF, Math.ap_mkC, Mir.env0, Mir.fin, Mir.finC, Mir.thenDo, Mir.toFl, Mir.wipeE, Mir.itemsOf, Mir.orBad, Mir.gNm, Mir.gTp, Mir.gNms, Mir.Out.bind, Mir.gIx, Mir.seqOf, Mir.gLen, Mir.gTuple, Mir.gAbs, Mir.gInt, Mir.gCmp, Mir.gI, Mir.gAdd, Mir.gSub, Mir.gNeg, Mir.gBols, Mir.gInts, Mir.gChain, Mir.nxO, Mir.putAt, Mir.appAt, Mir.isC, L2.atI, L2.ixN, Math.eIsi_tuple, Math.eIsi_int, Math.eIsi_bool, Math.gEq_int, Math.gEq_bool, Mir.gMulL, ap_eRepr, r2, rTold]
def rMid : MS := (mSeq (mApp (lVar 4) (eMetP subT hdsP letsT (eCall 2 run_row_multiple (aCons (lVar 1) (aCons (lVar 2) aNil)))))
    (mSeq (mApp (lVar 4) (eMetP subT hdsP letsT (eCall 2 run_row_multiple (aCons (eL (eTup (dCons (eC (.int 1)) dNil))) (aCons (lVar 2) aNil)))))
    (mSeq (mApp (lVar 4) (eMetP subT hdsP letsT (eCall 2 run_shared (aCons (lVar 2) (aCons (eL (eC .none)) aNil)))))
    (mSeq (mApp (lVar 4) (eMetP subT hdsP letsT (eCall 2 run_shared (aCons (eL (eC (.int 1))) (aCons (lVar 2) aNil)))))
    (mSet 5 (eBin gAdd (eBin gAdd (eVar 5) (eFr (cLst (dCons (eTup (dCons (eC (.str (Str.ofString "refused"))) (dCons (eC (.str (Str.ofString "row"))) dNil))) dNil)))) (eBin gMulL (eFr (cLst (dCons (eTup (dCons (eC (.str (Str.ofString "refused"))) (dCons (eC (.str (Str.ofString "number"))) (dCons (eRepr (eVar 2)) dNil)))) dNil))) (eC (.int 3)))))))))
theorem r_mid {n : Nat} {s : Sto} {non bad size : PyData} (hn : isRow non = false) (hb : isShort bad = false) (r1 : gRepr bad = some (.str bad.shown)) :
    rMid [some (.c n), some (.d non), some (.d bad), some (.d size), some (.c s.length), some (.d (.list [tR, tR, tO, tL, tR, tR, tO, tL, tR, tR, tO, tL])), some (.f 7), none] (s ++ [[tR, tR, tO, tL, tR, tR, tO, tL, tR, tR, tO, tL]]) = .nx [some (.c n), some (.d non), some (.d bad), some (.d size), some (.c s.length), some (.d (.list [tR, tR, tO, tL, tR, tR, tO, tL, tR, tR, tO, tL, tR, (tN bad), (tN bad), (tN bad)])), some (.f 7), none] (s ++ [[tR, tR, tO, tL, tR, tR, tO, tL, tR, tR, tO, tL, tR, (tN bad), (tN bad), (tN bad)]]) := by
  have m1 := met_N r1
  refine seq_nx (to_exc (L' := [tR, tR, tO, tL, tR, tR, tO, tL, tR, tR, tO, tL, tR]) rfl (callA rfl rfl (rmul_no1 non bad _ hn)) met_R (by simp) rfl) ?_
  refine seq_nx (to_exc (L' := [tR, tR, tO, tL, tR, tR, tO, tL, tR, tR, tO, tL, tR, (tN bad)]) rfl (callA rfl rfl (rmul_no2 (.tuple [.int 1]) bad _ is_row1 hb)) m1 (by simp) rfl) ?_
  refine seq_nx (to_exc (L' := [tR, tR, tO, tL, tR, tR, tO, tL, tR, tR, tO, tL, tR, (tN bad), (tN bad)]) rfl (callA rfl rfl (shared_no1 bad .none _ hb)) m1 (by simp) rfl) ?_
  refine seq_nx (to_exc (L' := [tR, tR, tO, tL, tR, tR, tO, tL, tR, tR, tO, tL, tR, (tN bad), (tN bad), (tN bad)]) rfl (callA rfl rfl (shared_no2 (.int 1) bad _ (by decide) hb)) m1 (by simp) rfl) ?_
  exact set_to (x := .list [tR, tR, tO, tL, tR, tR, tO, tL, tR, tR, tO, tL, tR, (tN bad), (tN bad), (tN bad)]) (ρ' := [some (.c n), some (.d non), some (.d bad), some (.d size), some (.c s.length), some (.d (.list [tR, tR, tO, tL, tR, tR, tO, tL, tR, tR, tO, tL, tR, (tN bad), (tN bad), (tN bad)])), some (.f 7), none]) (by simp -implicitDefEqProofs [Math.ap_eVar, Math.ap_lVar, Math.ap_eC, Math.ap_eL, Math.ap_eUn, Math.ap_eBin, Math.ap_eAnd, Math.ap_eOr, Math.ap_eNot, Math.ap_mE, Math.ap_mNot, Math.ap_mAnd, Math.ap_mOr, Math.ap_eIf, Math.ap_aNil, Math.ap_aCons, Math.ap_dNil, Math.ap_dCons, Math.ap_eTup, Math.ap_cLst, Math.ap_eFr, Math.ap_eIx, Math.ap_eSl, Math.ap_cList, Math.ap_eCall, Math.ap_cCall, Math.ap_mSeq, Math.ap_mNil, Math.ap_mSet, Math.ap_mSetC, Math.ap_mRet, Math.ap_mRetN, Math.ap_mRetL, Math.ap_mDrop, Math.ap_mIf, Math.ap_mNever, Math.ap_mPar, Math.ap_mPar3, Math.ap_mPut, Math.ap_mApp, Math.ap_mTo, Math.ap_mYes, Math.ap_iSq, Math.ap_iZp, Math.ap_iEn, Math.ap_mRetC, Math.ap_eCh, Math.ap_noPart, Math.ap_aPart, Math.ap_eSlice, Math.ap_mkF, Math.ap_mkC, Mir.env0, Mir.fin, Mir.finC, Mir.thenDo, Mir.toFl, Mir.wipeE, Mir.itemsOf, Mir.orBad, Mir.gNm, Mir.gTp, Mir.gNms, Mir.Out.bind, Mir.gIx, Mir.seqOf, Mir.gLen, Mir.gTuple, Mir.gAbs, Mir.gInt, Mir.gCmp, Mir.gI, Mir.gAdd, Mir.gSub, Mir.gNeg, Mir.gBols, Mir.gInts, Mir.gChain, Mir.nxO, Mir.putAt, Mir.appAt, Mir.isC, L2.atI, L2.ixN, Math.eIsi_tuple, Math.eIsi_int, Math.eIsi_bool, Math.gEq_int, Math.gEq_bool, Mir.gMulL, ap_eRepr, r1, toFl_ok']) rfl
end Math
/-! # suites one behind the other -/
namespace Math
open PySem Mir Fn
theorem mSeq_assoc (a b c : MS) : mSeq (mSeq a b) c = mSeq a (mSeq b c) := by
  funext ρ s
  simp only [ap_mSeq]
  cases a ρ s <;> rfl
theorem set_end {n : Nat} {s s4 : Sto} {L : List PyData} (hn : n < s.length) (h : Hats n (s ++ [L]) s4) : ∃ s', Hats n s s' ∧ s4 = s' ++ [L] := by
  obtain ⟨x, y, z, rfl⟩ := h
  exact ⟨s.set n [.int x, .int y, .int z], ⟨x, y, z, rfl⟩, by rw [List.set_append_left _ _ hn]⟩
theorem hat_end {n : Nat} {s : Sto} {L : List PyData} (h : Hat n s) : Hat n (s ++ [L]) := by
  have hn := h.lt
  obtain ⟨x, y, z, e⟩ := h
  exact ⟨x, y, z, by rw [List.getElem?_append_left hn]; exact e⟩
theorem fin_rt {n : Nat} {s s' : Sto} {x : PyData} {L : List PyData} (h : s'.length = s.length) : fin s.length (.rt (.d x) (s' ++ [L])) = .ok x s' := by
  show Out.ok x ((s' ++ [L]).take s.length) = _
  rw [← h, List.take_left']
  rfl
end Math
/-! # k04: both halves, and the law -/
namespace Math
open PySem Mir Fn
theorem grids_right {n : Nat} {s : Sto} (h : Hat n s) : ∃ s', Hats n s s' ∧ run_law_grids_right [.c n] s = .ok (.bool true) s' := by
  obtain ⟨odd, s1, o1, h1, e1⟩ := draw_of (i := 1) (ρ := [some (.c n), none, none, none, none, none, none, none, none, none]) h (oddE_eq _ _) rfl (by simp [oddL]) (by simp [oddL])
  obtain ⟨non, s2, o2, h2, e2⟩ := draw_of (i := 2) (ρ := [some (.c n), some (.d odd), none, none, none, none, none, none, none, none]) (h1.hat h) (noneE_eq _ _) rfl (by simp [noneL]) (by simp [noneL])
  obtain ⟨bad, s3, o3, h3, e3⟩ := draw_of (i := 3) (ρ := [some (.c n), some (.d odd), some (.d non), none, none, none, none, none, none, none]) (h2.hat (h1.hat h)) (badE_eq _ _) rfl (by simp [badL]) (by simp [badL])
  have hs := h1.trans (h2.trans h3)
  obtain ⟨b1, b2, b3⟩ := bad_no bad o3
  refine ⟨s3, hs, ?_⟩
  have e := g_rest (n := n) (s := s3) (odd_no odd o1) (none_no non o2) b1 b2 b3
  have e0 : run_law_grids_right = mkF 10 (mSeq (mSet 1 (eCall 2 run_law_out_of (aCons (lVar 0) (aCons (eL (eFr oddE)) aNil)))) (mSeq (mSet 2 (eCall 2 run_law_out_of (aCons (lVar 0) (aCons (eL (eFr noneE)) aNil)))) (mSeq (mSet 3 (eCall 2 run_law_out_of (aCons (lVar 0) (aCons (eL (eFr badE)) aNil)))) gRest))) := rfl
  have ee : env0 10 [.c n] = [some (.c n), none, none, none, none, none, none, none, none, none] := rfl
  rw [e0, ap_mkF, ee, seq_nx e1 (seq_nx e2 (seq_nx e3 e)), fin_rt (n := n) hs.len]
theorem rows_right {n : Nat} {s : Sto} (h : Hat n s) : ∃ s', Hats n s s' ∧ run_law_rows_right [.c n] s = .ok (.bool true) s' := by
  obtain ⟨non, s1, o1, h1, e1⟩ := draw_of (i := 1) (ρ := [some (.c n), none, none, none, none, none, none, none]) h (noneE_eq _ _) rfl (by simp [noneL]) (by simp [noneL])
  obtain ⟨bad, s2, o2, h2, e2⟩ := draw_of (i := 2) (ρ := [some (.c n), some (.d non), none, none, none, none, none, none]) (h1.hat h) (badE_eq _ _) rfl (by simp [badL]) (by simp [badL])
  obtain ⟨size, s3, o3, h3, e3⟩ := draw_of (i := 3) (ρ := [some (.c n), some (.d non), some (.d bad), none, none, none, none, none]) (h2.hat (h1.hat h)) (sizeE_eq _ _) rfl (by simp [sizeL]) (by simp [sizeL])
  have hs := h1.trans (h2.trans h3)
  have hh := hs.hat h
  obtain ⟨b1, b2, b3⟩ := bad_no bad o2
  obtain ⟨z1, z2, z3⟩ := size_no size o3
  have e4 := r_loop (n := n) (s := s3) (non := non) (bad := bad) (size := size) (none_no non o1)
  have e5 := r_mid (n := n) (s := s3) (size := size) (none_no non o1) b1 b2
  obtain ⟨less, s4, o4, h4, e6⟩ := draw_of (i := 7) (ρ := [some (.c n), some (.d non), some (.d bad), some (.d size), some (.c s3.length), some (.d (.list [tR, tR, tO, tL, tR, tR, tO, tL, tR, tR, tO, tL, tR, (tN bad), (tN bad), (tN bad)])), some (.f 7), none]) (hat_end (L := [tR, tR, tO, tL, tR, tR, tO, tL, tR, tR, tO, tL, tR, (tN bad), (tN bad), (tN bad)]) hh) (lessE_eq _ _) rfl (by simp [lessL]) (by simp [lessL])
  obtain ⟨l1, l2, l3⟩ := less_no less o4
  obtain ⟨s5, h5, rfl⟩ := set_end hh.lt h4
  have e7 := r_two (n := n) (s := s5) (non := non) b1 z1 l1 b2 z2 l2 b3 z3 l3
  have ht := hs.trans h5
  rw [h5.len] at e7
  refine ⟨s5, ht, ?_⟩
  have e0 : run_law_rows_right = mkF 8 (mSeq (mSet 1 (eCall 2 run_law_out_of (aCons (lVar 0) (aCons (eL (eFr noneE)) aNil)))) (mSeq (mSet 2 (eCall 2 run_law_out_of (aCons (lVar 0) (aCons (eL (eFr badE)) aNil)))) (mSeq (mSet 3 (eCall 2 run_law_out_of (aCons (lVar 0) (aCons (eL (eFr sizeE)) aNil)))) (mSeq rLoop (mSeq rMid (mSeq (mSet 7 (eCall 2 run_law_out_of (aCons (lVar 0) (aCons (eL (eFr lessE)) aNil)))) rTwo)))))) := by
    simp only [rLoop, rMid, mSeq_assoc]
    rfl
  have ee : env0 8 [.c n] = [some (.c n), none, none, none, none, none, none, none] := rfl
  rw [e0, ap_mkF, ee, seq_nx e1 (seq_nx e2 (seq_nx e3 (seq_nx e4 (seq_nx e5 (seq_nx e6 e7))))), fin_rt (n := n) ht.len]
def lwSpot : MS := mSeq (mSetC 2 (cCall 2 runC_law_hat (aCons (lVar 0) (aCons (lVar 1) aNil))))
    (mIf (mOr (mNot (mE (eCall 1 run_law_grids_right (aCons (lVar 2) aNil)))) (mNot (mE (eCall 1 run_law_rows_right (aCons (lVar 2) aNil)))))
    (mRet (eC (.bool false)))
    mNil)
theorem lw_spot {s : Sto} {ns : List Int} {i : Nat} {t c d f : Option Sl} : ∃ (t' : Option Sl) (s' : Sto), lwSpot [some (.s ns), some (.d (.int i)), t, c, d, f] s = .nx [some (.s ns), some (.d (.int i)), t', c, d, f] s' := by
  obtain ⟨x, y, e⟩ := hat_ok (s := s) (ns := ns) i
  have h : Hat s.length (s ++ [[.int x, .int y, .int 0]]) := ⟨x, y, 0, by simp⟩
  obtain ⟨s1, h1, e1⟩ := grids_right h
  obtain ⟨s2, h2, e2⟩ := rows_right (h1.hat h)
  refine ⟨some (.c s.length), s2, ?_⟩
  have e3 : mSetC 2 (cCall 2 runC_law_hat (aCons (lVar 0) (aCons (lVar 1) aNil))) [some (.s ns), some (.d (.int i)), t, c, d, f] s = .nx [some (.s ns), some (.d (.int i)), some (.c s.length), c, d, f] (s ++ [[.int x, .int y, .int 0]]) := by
    simp [ap_mSetC, ap_cCall, ap_aCons, ap_aNil, ap_lVar, e, toFl, Out.bind]
  unfold lwSpot
  refine seq_nx e3 ?_
  simp -implicitDefEqProofs [Math.ap_eVar, Math.ap_lVar, Math.ap_eC, Math.ap_eL, Math.ap_eUn, Math.ap_eBin, Math.ap_eAnd, Math.ap_eOr, Math.ap_eNot, Math.ap_mE, Math.ap_mNot, Math.ap_mAnd, Math.ap_mOr, Math.ap_eIf, Math.ap_aNil, Math.ap_aCons, Math.ap_dNil, Math.ap_dCons, Math.ap_eTup, Math.ap_cLst, Math.ap_eFr, Math.ap_eIx, Math.ap_eSl, Math.ap_cList, Math.ap_eCall, Math.ap_cCall, Math.ap_mSeq, Math.ap_mNil, Math.ap_mSet, Math.ap_mSetC, Math.ap_mRet, Math.ap_mRetN, Math.ap_mRetL, Math.ap_mDrop, Math.ap_mIf, Math.ap_mNever, Math.ap_mPar, Math.ap_mPar3, Math.ap_mPut, Math.ap_mApp, Math.ap_mTo, Math.ap_mYes, Math.ap_iSq, Math.ap_iZp, Math.ap_iEn, Math.ap_mRetC, Math.ap_eCh, Math.ap_noPart, Math.ap_aPart, Math.ap_eSlice, Math.ap_mkF, Math.ap_mkC, Mir.env0, Mir.fin, Mir.finC, Mir.thenDo, Mir.toFl, Mir.wipeE, Mir.itemsOf, Mir.orBad, Mir.gNm, Mir.gTp, Mir.gNms, Mir.Out.bind, Mir.gIx, Mir.seqOf, Mir.gLen, Mir.gTuple, Mir.gAbs, Mir.gInt, Mir.gCmp, Mir.gI, Mir.gAdd, Mir.gSub, Mir.gNeg, Mir.gBols, Mir.gInts, Mir.gChain, Mir.nxO, Mir.putAt, Mir.appAt, Mir.isC, L2.atI, L2.ixN, Math.eIsi_tuple, Math.eIsi_int, Math.eIsi_bool, Math.gEq_int, Math.gEq_bool, e1, e2]
theorem lw_spots {ns : List Int} {c d f : Option Sl} : ∀ (xs : List Nat) {s : Sto} {b t : Option Sl}, ∃ (b' t' : Option Sl) (s' : Sto), forL (gNm 1) lwSpot (xs.map fun i => .int (i : Nat)) [some (.s ns), b, t, c, d, f] s = .nx [some (.s ns), b', t', c, d, f] s'
  | [], s, b, t => ⟨b, t, s, rfl⟩
  | x :: xs, s, b, t => by
    obtain ⟨t1, s1, e1⟩ := lw_spot (s := s) (ns := ns) (i := x) (c := c) (d := d) (f := f) (t := t)
    obtain ⟨b2, t2, s2, e2⟩ := lw_spots xs (ns := ns) (c := c) (d := d) (f := f) (s := s1) (b := some (.d (.int x))) (t := t1)
    refine ⟨b2, t2, s2, ?_⟩
    have eg : gNm 1 (.int (x : Nat)) [some (.s ns), b, t, c, d, f] = some [some (.s ns), some (.d (.int (x : Nat))), t, c, d, f] := rfl
    rw [List.map_cons]
    unfold forL
    rw [eg]
    simp only [e1]
    exact e2
abbrev tM : PyData := .tuple [.str (Str.ofString "refused"), .str (Str.ofString "many"), .str (Str.ofString "60")]
def lwTail : MS := mSeq (mTo (gTp [3, 4]) (eTup (dCons (eCallN 2 run_nought_grid (aCons (eL (eC (.int 1))) (aCons (eL (eC (.int 31))) aNil))) (dCons (eCallN 2 run_nought_grid (aCons (eL (eC (.int 31))) (aCons (eL (eC (.int 1))) aNil))) dNil))))
    (mSeq (mSetC 5 (cLst dNil))
    (mSeq (mApp (lVar 5) (eMetP subT hdsP letsT (eCall 2 run_beside (aCons (lVar 3) (aCons (lVar 3) aNil)))))
    (mSeq (mApp (lVar 5) (eMetP subT hdsP letsT (eCall 2 run_beside (aCons (lVar 3) (aCons (eL (eCall 2 run_nought_grid (aCons (eL (eC (.int 1))) (aCons (eL (eC (.int 29))) aNil)))) aNil)))))
    (mSeq (mApp (lVar 5) (eMetP subT hdsP letsT (eCall 2 run_over (aCons (lVar 4) (aCons (lVar 4) aNil)))))
    (mSeq (mApp (lVar 5) (eMetP subT hdsP letsT (eCall 2 run_over (aCons (lVar 4) (aCons (eL (eCall 2 run_nought_grid (aCons (eL (eC (.int 29))) (aCons (eL (eC (.int 1))) aNil)))) aNil)))))
    (mRet (eEqL false (lVar 5) (eBin gMulL (eFr (cLst (dCons (eTup (dCons (eC (.str (Str.ofString "refused"))) (dCons (eC (.str (Str.ofString "many"))) (dCons (eC (.str (Str.ofString "60"))) dNil)))) (dCons (eTup (dCons (eC (.str (Str.ofString "let"))) dNil)) dNil)))) (eC (.int 2))))))))))
def farG : PyData := grid_D 31 (noughtG 1 31)
def thinG : PyData := grid_D 1 (noughtG 31 1)
theorem far1 (s : Sto) : run_nought_grid [.d (.int 1), .d (.int 31)] s = .ok farG s := nought_grid (h := 1) (w := 31) (by decide) (by decide)
theorem thin1 (s : Sto) : run_nought_grid [.d (.int 31), .d (.int 1)] s = .ok thinG s := nought_grid (h := 31) (w := 1) (by decide) (by decide)
theorem two_draw {a b t : Option Sl} {s : Sto} : mTo (gTp [3, 4]) (eTup (dCons (eCallN 2 run_nought_grid (aCons (eL (eC (.int 1))) (aCons (eL (eC (.int 31))) aNil))) (dCons (eCallN 2 run_nought_grid (aCons (eL (eC (.int 31))) (aCons (eL (eC (.int 1))) aNil))) dNil))) [a, b, t, none, none, none] s
    = .nx [a, b, t, some (.d farG), some (.d thinG), none] s := by
  simp -implicitDefEqProofs [Math.ap_eVar, Math.ap_lVar, Math.ap_eC, Math.ap_eL, Math.ap_eUn, Math.ap_eBin, Math.ap_eAnd, Math.ap_eOr, Math.ap_eNot, Math.ap_mE, Math.ap_mNot, Math.ap_mAnd, Math.ap_mOr, Math.ap_eIf, Math.ap_aNil, Math.ap_aCons, Math.ap_dNil, Math.ap_dCons, Math.ap_eTup, Math.ap_cLst, Math.ap_eFr, Math.ap_eIx, Math.ap_eSl, Math.ap_cList, Math.ap_eCall, Math.ap_cCall, Math.ap_mSeq, Math.ap_mNil, Math.ap_mSet, Math.ap_mSetC, Math.ap_mRet, Math.ap_mRetN, Math.ap_mRetL, Math.ap_mDrop, Math.ap_mIf, Math.ap_mNever, Math.ap_mPar, Math.ap_mPar3, Math.ap_mPut, Math.ap_mApp, Math.ap_mTo, Math.ap_mYes, Math.ap_iSq, Math.ap_iZp, Math.ap_iEn, Math.ap_mRetC, Math.ap_eCh, Math.ap_noPart, Math.ap_aPart, Math.ap_eSlice, Math.ap_mkF, Math.ap_mkC, Mir.env0, Mir.fin, Mir.finC, Mir.thenDo, Mir.toFl, Mir.wipeE, Mir.itemsOf, Mir.orBad, Mir.gNm, Mir.gTp, Mir.gNms, Mir.Out.bind, Mir.gIx, Mir.seqOf, Mir.gLen, Mir.gTuple, Mir.gAbs, Mir.gInt, Mir.gCmp, Mir.gI, Mir.gAdd, Mir.gSub, Mir.gNeg, Mir.gBols, Mir.gInts, Mir.gChain, Mir.nxO, Mir.putAt, Mir.appAt, Mir.isC, L2.atI, L2.ixN, Math.eIsi_tuple, Math.eIsi_int, Math.eIsi_bool, Math.gEq_int, Math.gEq_bool, ap_eCallN, far1, thin1]
theorem lw_tail {a b t : Option Sl} {s : Sto} : ∃ s', lwTail [a, b, t, none, none, none] s = .rt (.d (.bool true)) s' := by
  have hs : Sh 64 (.list [tM, tL, tM, tL]) := by
    simp [Sh, PyData.canLay0, PyData.canLayAll0, PyData.depth, PyData.depthAll]
    decide +kernel
  have he : PyData.eqvAll [tM, tL, tM, tL] [tM, tL, tM, tL] = true := by simp [PyData.eqvAll, PyData.eqv]
  refine ⟨s ++ [[tM, tL, tM, tL]], ?_⟩
  unfold lwTail
  refine seq_nx two_draw ?_
  refine seq_nx (ρ1 := [a, b, t, some (.d farG), some (.d thinG), some (.c s.length)]) (s1 := s ++ [[]]) rfl ?_
  refine seq_nx (to_exc (L' := [tM]) rfl (callA rfl rfl beside_most) met_M (by simp) rfl) ?_
  refine seq_nx (to_let (L' := [tM, tL]) rfl (callA (as := [.d farG, .d (grid_D 29 (noughtG 1 29))]) ?q1 rfl (beside far_ok (nought_ok (h := 1) (w := 29) (by decide) (by decide)) rfl (by decide))) (by simp) rfl) ?_
  case q1 =>
    have e := nought_grid (s := s ++ [[tM]]) (h := 1) (w := 29) (by decide) (by decide)
    have e' : eCall 2 run_nought_grid (aCons (eL (eC (.int 1))) (aCons (eL (eC (.int 29))) aNil)) [a, b, t, some (.d farG), some (.d thinG), some (.c s.length)] (s ++ [[tM]]) = .ok (grid_D 29 (noughtG 1 29)) (s ++ [[tM]]) := callA rfl rfl e
    exact args_ve rfl e'
  refine seq_nx (to_exc (L' := [tM, tL, tM]) rfl (callA rfl rfl over_most) met_M (by simp) rfl) ?_
  refine seq_nx (to_let (L' := [tM, tL, tM, tL]) rfl (callA (as := [.d thinG, .d (grid_D 1 (noughtG 29 1))]) ?q2 rfl (over thin_ok (nought_ok (h := 29) (w := 1) (by decide) (by decide)) (by decide))) (by simp) rfl) ?_
  case q2 =>
    have e := nought_grid (s := s ++ [[tM, tL, tM]]) (h := 29) (w := 1) (by decide) (by decide)
    have e' : eCall 2 run_nought_grid (aCons (eL (eC (.int 29))) (aCons (eL (eC (.int 1))) aNil)) [a, b, t, some (.d farG), some (.d thinG), some (.c s.length)] (s ++ [[tM, tL, tM]]) = .ok (grid_D 1 (noughtG 29 1)) (s ++ [[tM, tL, tM]]) := callA rfl rfl e
    exact args_ve rfl e'
  refine ret_eqL (L := [tM, tL, tM, tL]) rfl ?_ hs he
  simp -implicitDefEqProofs [Math.ap_eVar, Math.ap_lVar, Math.ap_eC, Math.ap_eL, Math.ap_eUn, Math.ap_eBin, Math.ap_eAnd, Math.ap_eOr, Math.ap_eNot, Math.ap_mE, Math.ap_mNot, Math.ap_mAnd, Math.ap_mOr, Math.ap_eIf, Math.ap_aNil, Math.ap_aCons, Math.ap_dNil, Math.ap_dCons, Math.ap_eTup, Math.ap_cLst, Math.ap_eFr, Math.ap_eIx, Math.ap_eSl, Math.ap_cList, Math.ap_eCall, Math.ap_cCall, Math.ap_mSeq, Math.ap_mNil, Math.ap_mSet, Math.ap_mSetC, Math.ap_mRet, Math.ap_mRetN, Math.ap_mRetL, Math.ap_mDrop, Math.ap_mIf, Math.ap_mNever, Math.ap_mPar, Math.ap_mPar3, Math.ap_mPut, Math.ap_mApp, Math.ap_mTo, Math.ap_mYes, Math.ap_iSq, Math.ap_iZp, Math.ap_iEn, Math.ap_mRetC, Math.ap_eCh, Math.ap_noPart, Math.ap_aPart, Math.ap_eSlice, Math.ap_mkF, Math.ap_mkC, Mir.env0, Mir.fin, Mir.finC, Mir.thenDo, Mir.toFl, Mir.wipeE, Mir.itemsOf, Mir.orBad, Mir.gNm, Mir.gTp, Mir.gNms, Mir.Out.bind, Mir.gIx, Mir.seqOf, Mir.gLen, Mir.gTuple, Mir.gAbs, Mir.gInt, Mir.gCmp, Mir.gI, Mir.gAdd, Mir.gSub, Mir.gNeg, Mir.gBols, Mir.gInts, Mir.gChain, Mir.nxO, Mir.putAt, Mir.appAt, Mir.isC, L2.atI, L2.ixN, Math.eIsi_tuple, Math.eIsi_int, Math.eIsi_bool, Math.gEq_int, Math.gEq_bool, Mir.gMulL]
theorem law_true (ns : List Int) (h : ns.length ≤ 63) : ∃ s, run_law [.s ns] [] = .ok (.bool true) s := by
  have hr : ∃ k : Nat, iRg1 (eTwo (fun i j => if j > i then j else i) (eC (.int 1)) (eTwo (fun i j => if j < i then j else i) (eC (.int 4)) (eSl gLen (lVar 0)))) [some (.s ns), none, none, none, none, none] [] = .ok (rangeOf 0 k) [] := by
    have h3 : seqOf (.s ns) [] = some (false, ns.map PyData.int) := rfl
    have el : eSl gLen (lVar 0) [some (.s ns), none, none, none, none, none] [] = .ok (.int ns.length) [] := by
      show gLen (.s ns) [] = _
      unfold gLen
      rw [h3]
      simp
    have e2 : ∀ z : Int, eTwo (fun i j => if j > i then j else i) (eC (.int 1)) (eTwo (fun i j => if j < i then j else i) (eC (.int 4)) (eSl gLen (lVar 0))) [some (.s ns), none, none, none, none, none] [] = .ok (.int z) [] → -(2 ^ 62) ≤ z ∧ z < 2 ^ 62 → ∃ k : Nat, iRg1 (eTwo (fun i j => if j > i then j else i) (eC (.int 1)) (eTwo (fun i j => if j < i then j else i) (eC (.int 4)) (eSl gLen (lVar 0)))) [some (.s ns), none, none, none, none, none] [] = .ok (rangeOf 0 k) [] := by
      intro z hz hb
      refine ⟨z.toNat, ?_⟩
      rw [ap_iRg1, hz, Out.bind_ok]
      simp only [hb, and_self, if_true]
    refine e2 _ (by
      unfold Mir.eTwo
      simp only [ap_eBin, ap_eC, el, Out.bind_ok, Mir.gTwo]
      rfl) ?_
    constructor <;> (repeat' split) <;> omega
  obtain ⟨k, hr⟩ := hr
  obtain ⟨b', t', s', e⟩ := lw_spots (ns := ns) (c := none) (d := none) (f := none) (List.range k) (s := []) (b := none) (t := none)
  obtain ⟨s2, e2⟩ := lw_tail (a := some (.s ns)) (b := b') (t := t') (s := s')
  refine ⟨[], ?_⟩
  have e0 : run_law = mkF 6 (mSeq (mFor (iRg1 (eTwo (fun i j => if j > i then j else i) (eC (.int 1)) (eTwo (fun i j => if j < i then j else i) (eC (.int 4)) (eSl gLen (lVar 0))))) (gNm 1) lwSpot) lwTail) := rfl
  rw [e0, ap_mkF, ap_mSeq]
  have e1 : env0 6 [.s ns] = [some (.s ns), none, none, none, none, none] := rfl
  rw [e1, ap_mFor, hr, toFl_ok', rangeOf_eq, e, thenDo_nx, e2]
  rfl
end Math

namespace My
open PySem PySem.Spec PyProof.Rows L2 Mir Fn
def top (i : Nat) : Stmt := PySem.Challenge.pw_gluewhole_k04_errors_of_numbers.main.body.getD i (.Pass ⟨0, 0, 0, 0⟩)
abbrev s_plain_dot : Stmt := My.top 1
theorem sc_plain_dot : FnScope ["one", "other", "left", "right"] ["one", "other"] (defScope s_plain_dot) := ⟨rfl, rfl, rfl, by decide +kernel, rfl, by decide +kernel, by decide +kernel⟩
abbrev s_row_more : Stmt := My.top 2
theorem sc_row_more : FnScope ["one", "other", "left", "right"] ["one", "other"] (defScope s_row_more) := ⟨rfl, rfl, rfl, by decide +kernel, rfl, by decide +kernel, by decide +kernel⟩
abbrev s_row_less : Stmt := My.top 3
theorem sc_row_less : FnScope ["one", "other", "left", "right"] ["one", "other"] (defScope s_row_less) := ⟨rfl, rfl, rfl, by decide +kernel, rfl, by decide +kernel, by decide +kernel⟩
abbrev s_plain_led : Stmt := My.top 4
theorem sc_plain_led : FnScope ["grid", "row", "line"] ["grid", "row"] (defScope s_plain_led) := ⟨rfl, rfl, rfl, by decide +kernel, rfl, by decide +kernel, by decide +kernel⟩
abbrev s_plain_grid : Stmt := My.top 5
theorem sc_plain_grid : FnScope ["rows", "width", "row"] ["rows", "width"] (defScope s_plain_grid) := ⟨rfl, rfl, rfl, by decide +kernel, rfl, by decide +kernel, by decide +kernel⟩
abbrev s_turned_rows_of : Stmt := My.top 6
theorem sc_turned_rows_of : FnScope ["rows", "width", "at", "row"] ["rows", "width"] (defScope s_turned_rows_of) := ⟨rfl, rfl, rfl, by decide +kernel, rfl, by decide +kernel, by decide +kernel⟩
abbrev s_plain_turned : Stmt := My.top 7
theorem sc_plain_turned : FnScope ["grid", "width", "rows"] ["grid"] (defScope s_plain_turned) := ⟨rfl, rfl, rfl, by decide +kernel, rfl, by decide +kernel, by decide +kernel⟩
abbrev s_plain_product : Stmt := My.top 8
theorem sc_plain_product : FnScope ["one", "other", "columns", "row", "column"] ["one", "other"] (defScope s_plain_product) := ⟨rfl, rfl, rfl, by decide +kernel, rfl, by decide +kernel, by decide +kernel⟩
abbrev s_plain_difference : Stmt := My.top 9
theorem sc_plain_difference : FnScope ["one", "other", "pairs", "row", "line", "pair", "left", "right"] ["one", "other"] (defScope s_plain_difference) := ⟨rfl, rfl, rfl, by decide +kernel, rfl, by decide +kernel, by decide +kernel⟩
abbrev s_plain_multiple : Stmt := My.top 10
theorem sc_plain_multiple : FnScope ["grid", "number", "row", "item"] ["grid", "number"] (defScope s_plain_multiple) := ⟨rfl, rfl, rfl, by decide +kernel, rfl, by decide +kernel, by decide +kernel⟩
abbrev s_plain_sum : Stmt := My.top 11
theorem sc_plain_sum : FnScope ["one", "other"] ["one", "other"] (defScope s_plain_sum) := ⟨rfl, rfl, rfl, by decide +kernel, rfl, by decide +kernel, by decide +kernel⟩
abbrev s_plain_read : Stmt := My.top 12
theorem sc_plain_read : FnScope ["row", "grid"] ["row", "grid"] (defScope s_plain_read) := ⟨rfl, rfl, rfl, by decide +kernel, rfl, by decide +kernel, by decide +kernel⟩
abbrev s_plain_beside : Stmt := My.top 13
theorem sc_plain_beside : FnScope ["one", "other", "left", "right"] ["one", "other"] (defScope s_plain_beside) := ⟨rfl, rfl, rfl, by decide +kernel, rfl, by decide +kernel, by decide +kernel⟩
abbrev s_is_multiple : Stmt := My.top 14
theorem sc_is_multiple : FnScope ["number", "modulus"] ["number", "modulus"] (defScope s_is_multiple) := ⟨rfl, rfl, rfl, by decide +kernel, rfl, by decide +kernel, by decide +kernel⟩
abbrev s_plain_unit : Stmt := My.top 15
theorem sc_plain_unit : FnScope ["size", "place", "at"] ["size"] (defScope s_plain_unit) := ⟨rfl, rfl, rfl, by decide +kernel, rfl, by decide +kernel, by decide +kernel⟩
abbrev s_plain_nought : Stmt := My.top 16
theorem sc_plain_nought : FnScope ["height", "width"] ["height", "width"] (defScope s_plain_nought) := ⟨rfl, rfl, rfl, by decide +kernel, rfl, by decide +kernel, by decide +kernel⟩
abbrev s_bezout : Stmt := My.top 17
theorem sc_bezout : FnScope ["one", "other", "ahead", "behind", "u", "then", "many", "v"] ["one", "other"] (defScope s_bezout) := ⟨rfl, rfl, rfl, by decide +kernel, rfl, by decide +kernel, by decide +kernel⟩
abbrev s_is_long_integer : Stmt := My.top 28
theorem sc_is_long_integer : FnScope ["value"] ["value"] (defScope s_is_long_integer) := ⟨rfl, rfl, rfl, by decide +kernel, rfl, by decide +kernel, by decide +kernel⟩
abbrev s_is_integer : Stmt := My.top 29
theorem sc_is_integer : FnScope ["value"] ["value"] (defScope s_is_integer) := ⟨rfl, rfl, rfl, by decide +kernel, rfl, by decide +kernel, by decide +kernel⟩
abbrev s_is_between : Stmt := My.top 30
theorem sc_is_between : FnScope ["value", "least", "greatest"] ["value", "least", "greatest"] (defScope s_is_between) := ⟨rfl, rfl, rfl, by decide +kernel, rfl, by decide +kernel, by decide +kernel⟩
abbrev s_is_long_row : Stmt := My.top 31
theorem sc_is_long_row : FnScope ["value", "item"] ["value"] (defScope s_is_long_row) := ⟨rfl, rfl, rfl, by decide +kernel, rfl, by decide +kernel, by decide +kernel⟩
abbrev s_is_row : Stmt := My.top 32
theorem sc_is_row : FnScope ["value", "item"] ["value"] (defScope s_is_row) := ⟨rfl, rfl, rfl, by decide +kernel, rfl, by decide +kernel, by decide +kernel⟩
abbrev s_is_long_grid : Stmt := My.top 33
theorem sc_is_long_grid : FnScope ["value", "width", "rows", "row"] ["value"] (defScope s_is_long_grid) := ⟨rfl, rfl, rfl, by decide +kernel, rfl, by decide +kernel, by decide +kernel⟩
abbrev s_is_grid : Stmt := My.top 34
theorem sc_is_grid : FnScope ["value", "row"] ["value"] (defScope s_is_grid) := ⟨rfl, rfl, rfl, by decide +kernel, rfl, by decide +kernel, by decide +kernel⟩
abbrev s_check_row : Stmt := My.top 35
theorem sc_check_row : FnScope ["value"] ["value"] (defScope s_check_row) := ⟨rfl, rfl, rfl, by decide +kernel, rfl, by decide +kernel, by decide +kernel⟩
abbrev s_check_grid : Stmt := My.top 36
theorem sc_check_grid : FnScope ["value"] ["value"] (defScope s_check_grid) := ⟨rfl, rfl, rfl, by decide +kernel, rfl, by decide +kernel, by decide +kernel⟩
abbrev s_check_grids : Stmt := My.top 37
theorem sc_check_grids : FnScope ["one", "other"] ["one", "other"] (defScope s_check_grids) := ⟨rfl, rfl, rfl, by decide +kernel, rfl, by decide +kernel, by decide +kernel⟩
abbrev s_check_integer : Stmt := My.top 38
theorem sc_check_integer : FnScope ["value"] ["value"] (defScope s_check_integer) := ⟨rfl, rfl, rfl, by decide +kernel, rfl, by decide +kernel, by decide +kernel⟩
abbrev s_check_between : Stmt := My.top 39
theorem sc_check_between : FnScope ["value", "least", "greatest"] ["value", "least", "greatest"] (defScope s_check_between) := ⟨rfl, rfl, rfl, by decide +kernel, rfl, by decide +kernel, by decide +kernel⟩
abbrev s_check_least : Stmt := My.top 40
theorem sc_check_least : FnScope ["value", "least"] ["value", "least"] (defScope s_check_least) := ⟨rfl, rfl, rfl, by decide +kernel, rfl, by decide +kernel, by decide +kernel⟩
abbrev s_check_fit : Stmt := My.top 41
theorem sc_check_fit : FnScope ["fits", "reason"] ["fits", "reason"] (defScope s_check_fit) := ⟨rfl, rfl, rfl, by decide +kernel, rfl, by decide +kernel, by decide +kernel⟩
abbrev s_check_rows : Stmt := My.top 42
theorem sc_check_rows : FnScope ["one", "other"] ["one", "other"] (defScope s_check_rows) := ⟨rfl, rfl, rfl, by decide +kernel, rfl, by decide +kernel, by decide +kernel⟩
abbrev s_dot : Stmt := My.top 43
theorem sc_dot : FnScope ["one", "other"] ["one", "other"] (defScope s_dot) := ⟨rfl, rfl, rfl, by decide +kernel, rfl, by decide +kernel, by decide +kernel⟩
abbrev s_row_sum : Stmt := My.top 44
theorem sc_row_sum : FnScope ["one", "other"] ["one", "other"] (defScope s_row_sum) := ⟨rfl, rfl, rfl, by decide +kernel, rfl, by decide +kernel, by decide +kernel⟩
abbrev s_row_difference : Stmt := My.top 45
theorem sc_row_difference : FnScope ["one", "other"] ["one", "other"] (defScope s_row_difference) := ⟨rfl, rfl, rfl, by decide +kernel, rfl, by decide +kernel, by decide +kernel⟩
abbrev s_row_multiple : Stmt := My.top 46
theorem sc_row_multiple : FnScope ["row", "number", "item"] ["row", "number"] (defScope s_row_multiple) := ⟨rfl, rfl, rfl, by decide +kernel, rfl, by decide +kernel, by decide +kernel⟩
abbrev s_is_nought : Stmt := My.top 47
theorem sc_is_nought : FnScope ["value", "modulus"] ["value", "modulus"] (defScope s_is_nought) := ⟨rfl, rfl, rfl, by decide +kernel, rfl, by decide +kernel, by decide +kernel⟩
abbrev s_shared : Stmt := My.top 48
theorem sc_shared : FnScope ["one", "other"] ["one", "other"] (defScope s_shared) := ⟨rfl, rfl, rfl, by decide +kernel, rfl, by decide +kernel, by decide +kernel⟩
abbrev s_unit_grid : Stmt := My.top 49
theorem sc_unit_grid : FnScope ["size"] ["size"] (defScope s_unit_grid) := ⟨rfl, rfl, rfl, by decide +kernel, rfl, by decide +kernel, by decide +kernel⟩
abbrev s_nought_grid : Stmt := My.top 50
theorem sc_nought_grid : FnScope ["height", "width"] ["height", "width"] (defScope s_nought_grid) := ⟨rfl, rfl, rfl, by decide +kernel, rfl, by decide +kernel, by decide +kernel⟩
abbrev s_turned : Stmt := My.top 51
theorem sc_turned : FnScope ["grid"] ["grid"] (defScope s_turned) := ⟨rfl, rfl, rfl, by decide +kernel, rfl, by decide +kernel, by decide +kernel⟩
abbrev s_grid_multiple : Stmt := My.top 52
theorem sc_grid_multiple : FnScope ["grid", "number"] ["grid", "number"] (defScope s_grid_multiple) := ⟨rfl, rfl, rfl, by decide +kernel, rfl, by decide +kernel, by decide +kernel⟩
abbrev s_check_like : Stmt := My.top 53
theorem sc_check_like : FnScope ["one", "other"] ["one", "other"] (defScope s_check_like) := ⟨rfl, rfl, rfl, by decide +kernel, rfl, by decide +kernel, by decide +kernel⟩
abbrev s_grid_sum : Stmt := My.top 54
theorem sc_grid_sum : FnScope ["one", "other"] ["one", "other"] (defScope s_grid_sum) := ⟨rfl, rfl, rfl, by decide +kernel, rfl, by decide +kernel, by decide +kernel⟩
abbrev s_grid_difference : Stmt := My.top 55
theorem sc_grid_difference : FnScope ["one", "other"] ["one", "other"] (defScope s_grid_difference) := ⟨rfl, rfl, rfl, by decide +kernel, rfl, by decide +kernel, by decide +kernel⟩
abbrev s_grid_product : Stmt := My.top 56
theorem sc_grid_product : FnScope ["one", "other"] ["one", "other"] (defScope s_grid_product) := ⟨rfl, rfl, rfl, by decide +kernel, rfl, by decide +kernel, by decide +kernel⟩
abbrev s_check_most : Stmt := My.top 57
theorem sc_check_most : FnScope ["size"] ["size"] (defScope s_check_most) := ⟨rfl, rfl, rfl, by decide +kernel, rfl, by decide +kernel, by decide +kernel⟩
abbrev s_beside : Stmt := My.top 58
theorem sc_beside : FnScope ["one", "other"] ["one", "other"] (defScope s_beside) := ⟨rfl, rfl, rfl, by decide +kernel, rfl, by decide +kernel, by decide +kernel⟩
abbrev s_over : Stmt := My.top 59
theorem sc_over : FnScope ["one", "other"] ["one", "other"] (defScope s_over) := ⟨rfl, rfl, rfl, by decide +kernel, rfl, by decide +kernel, by decide +kernel⟩
abbrev s_led : Stmt := My.top 60
theorem sc_led : FnScope ["grid", "row"] ["grid", "row"] (defScope s_led) := ⟨rfl, rfl, rfl, by decide +kernel, rfl, by decide +kernel, by decide +kernel⟩
abbrev s_read_by : Stmt := My.top 61
theorem sc_read_by : FnScope ["row", "grid"] ["row", "grid"] (defScope s_read_by) := ⟨rfl, rfl, rfl, by decide +kernel, rfl, by decide +kernel, by decide +kernel⟩
abbrev s_law_hat : Stmt := My.top 63
theorem sc_law_hat : FnScope ["script", "spot", "cell", "great", "seed"] ["script", "spot"] (defScope s_law_hat) := ⟨rfl, rfl, rfl, by decide +kernel, rfl, by decide +kernel, by decide +kernel⟩
abbrev s_law_up_to : Stmt := My.top 64
theorem sc_law_up_to : FnScope ["hat", "total", "found", "one", "two"] ["hat", "total"] (defScope s_law_up_to) := ⟨rfl, rfl, rfl, by decide +kernel, rfl, by decide +kernel, by decide +kernel⟩
abbrev s_law_out_of : Stmt := My.top 65
theorem sc_law_out_of : FnScope ["hat", "items"] ["hat", "items"] (defScope s_law_out_of) := ⟨rfl, rfl, rfl, by decide +kernel, rfl, by decide +kernel, by decide +kernel⟩
abbrev s_law_met : Stmt := My.top 66
theorem sc_law_met : FnScope ["call", "error"] ["call"] (defScope s_law_met) := ⟨rfl, rfl, rfl, by decide +kernel, rfl, by decide +kernel, by decide +kernel⟩
abbrev s_law_grids_right : Stmt := My.top 67
theorem sc_law_grids_right : FnScope ["hat", "odd", "none", "bad", "one", "wide", "high", "told", "due", "call"] ["hat"] (defScope s_law_grids_right) := ⟨rfl, rfl, rfl, by decide +kernel, rfl, by decide +kernel, by decide +kernel⟩
abbrev s_law_rows_right : Stmt := My.top 68
theorem sc_law_rows_right : FnScope ["hat", "none", "bad", "size", "told", "due", "call", "less"] ["hat"] (defScope s_law_rows_right) := ⟨rfl, rfl, rfl, by decide +kernel, rfl, by decide +kernel, by decide +kernel⟩
abbrev s_law : Stmt := My.top 69
theorem sc_law : FnScope ["script", "spot", "hat", "far", "thin", "told"] ["script"] (defScope s_law) := ⟨rfl, rfl, rfl, by decide +kernel, rfl, by decide +kernel, by decide +kernel⟩
structure Txt (K : PySem.W.Frag) (mg : Str → Option Value) where
  a_plain_dot : Addr
  fd_plain_dot : FuncData
  F_plain_dot : Fun K "plain_dot" "plain_dot" s_plain_dot a_plain_dot fd_plain_dot
  m_plain_dot : mg "plain_dot" = some (.ref a_plain_dot)
  b_plain_dot : Binds K fd_plain_dot ["one", "other"] []
  a_row_more : Addr
  fd_row_more : FuncData
  F_row_more : Fun K "row_more" "row_more" s_row_more a_row_more fd_row_more
  m_row_more : mg "row_more" = some (.ref a_row_more)
  b_row_more : Binds K fd_row_more ["one", "other"] []
  a_row_less : Addr
  fd_row_less : FuncData
  F_row_less : Fun K "row_less" "row_less" s_row_less a_row_less fd_row_less
  m_row_less : mg "row_less" = some (.ref a_row_less)
  b_row_less : Binds K fd_row_less ["one", "other"] []
  a_plain_led : Addr
  fd_plain_led : FuncData
  F_plain_led : Fun K "plain_led" "plain_led" s_plain_led a_plain_led fd_plain_led
  m_plain_led : mg "plain_led" = some (.ref a_plain_led)
  b_plain_led : Binds K fd_plain_led ["grid", "row"] []
  a_plain_grid : Addr
  fd_plain_grid : FuncData
  F_plain_grid : Fun K "plain_grid" "plain_grid" s_plain_grid a_plain_grid fd_plain_grid
  m_plain_grid : mg "plain_grid" = some (.ref a_plain_grid)
  b_plain_grid : Binds K fd_plain_grid ["rows", "width"] []
  a_turned_rows_of : Addr
  fd_turned_rows_of : FuncData
  F_turned_rows_of : Fun K "turned_rows_of" "turned_rows_of" s_turned_rows_of a_turned_rows_of fd_turned_rows_of
  m_turned_rows_of : mg "turned_rows_of" = some (.ref a_turned_rows_of)
  b_turned_rows_of : Binds K fd_turned_rows_of ["rows", "width"] []
  a_plain_turned : Addr
  fd_plain_turned : FuncData
  F_plain_turned : Fun K "plain_turned" "plain_turned" s_plain_turned a_plain_turned fd_plain_turned
  m_plain_turned : mg "plain_turned" = some (.ref a_plain_turned)
  b_plain_turned : Binds K fd_plain_turned ["grid"] []
  a_plain_product : Addr
  fd_plain_product : FuncData
  F_plain_product : Fun K "plain_product" "plain_product" s_plain_product a_plain_product fd_plain_product
  m_plain_product : mg "plain_product" = some (.ref a_plain_product)
  b_plain_product : Binds K fd_plain_product ["one", "other"] []
  a_plain_difference : Addr
  fd_plain_difference : FuncData
  F_plain_difference : Fun K "plain_difference" "plain_difference" s_plain_difference a_plain_difference fd_plain_difference
  m_plain_difference : mg "plain_difference" = some (.ref a_plain_difference)
  b_plain_difference : Binds K fd_plain_difference ["one", "other"] []
  a_plain_multiple : Addr
  fd_plain_multiple : FuncData
  F_plain_multiple : Fun K "plain_multiple" "plain_multiple" s_plain_multiple a_plain_multiple fd_plain_multiple
  m_plain_multiple : mg "plain_multiple" = some (.ref a_plain_multiple)
  b_plain_multiple : Binds K fd_plain_multiple ["grid", "number"] []
  a_plain_sum : Addr
  fd_plain_sum : FuncData
  F_plain_sum : Fun K "plain_sum" "plain_sum" s_plain_sum a_plain_sum fd_plain_sum
  m_plain_sum : mg "plain_sum" = some (.ref a_plain_sum)
  b_plain_sum : Binds K fd_plain_sum ["one", "other"] []
  a_plain_read : Addr
  fd_plain_read : FuncData
  F_plain_read : Fun K "plain_read" "plain_read" s_plain_read a_plain_read fd_plain_read
  m_plain_read : mg "plain_read" = some (.ref a_plain_read)
  b_plain_read : Binds K fd_plain_read ["row", "grid"] []
  a_plain_beside : Addr
  fd_plain_beside : FuncData
  F_plain_beside : Fun K "plain_beside" "plain_beside" s_plain_beside a_plain_beside fd_plain_beside
  m_plain_beside : mg "plain_beside" = some (.ref a_plain_beside)
  b_plain_beside : Binds K fd_plain_beside ["one", "other"] []
  a_is_multiple : Addr
  fd_is_multiple : FuncData
  F_is_multiple : Fun K "is_multiple" "is_multiple" s_is_multiple a_is_multiple fd_is_multiple
  m_is_multiple : mg "is_multiple" = some (.ref a_is_multiple)
  b_is_multiple : Binds K fd_is_multiple ["number", "modulus"] []
  a_plain_unit : Addr
  fd_plain_unit : FuncData
  F_plain_unit : Fun K "plain_unit" "plain_unit" s_plain_unit a_plain_unit fd_plain_unit
  m_plain_unit : mg "plain_unit" = some (.ref a_plain_unit)
  b_plain_unit : Binds K fd_plain_unit ["size"] []
  a_plain_nought : Addr
  fd_plain_nought : FuncData
  F_plain_nought : Fun K "plain_nought" "plain_nought" s_plain_nought a_plain_nought fd_plain_nought
  m_plain_nought : mg "plain_nought" = some (.ref a_plain_nought)
  b_plain_nought : Binds K fd_plain_nought ["height", "width"] []
  a_bezout : Addr
  fd_bezout : FuncData
  F_bezout : Fun K "bezout" "bezout" s_bezout a_bezout fd_bezout
  m_bezout : mg "bezout" = some (.ref a_bezout)
  b_bezout : Binds K fd_bezout ["one", "other"] []
  a_is_long_integer : Addr
  fd_is_long_integer : FuncData
  F_is_long_integer : Fun K "is_long_integer" "is_long_integer" s_is_long_integer a_is_long_integer fd_is_long_integer
  m_is_long_integer : mg "is_long_integer" = some (.ref a_is_long_integer)
  b_is_long_integer : Binds K fd_is_long_integer ["value"] []
  a_is_integer : Addr
  fd_is_integer : FuncData
  F_is_integer : Fun K "is_integer" "is_integer" s_is_integer a_is_integer fd_is_integer
  m_is_integer : mg "is_integer" = some (.ref a_is_integer)
  b_is_integer : Binds K fd_is_integer ["value"] []
  a_is_between : Addr
  fd_is_between : FuncData
  F_is_between : Fun K "is_between" "is_between" s_is_between a_is_between fd_is_between
  m_is_between : mg "is_between" = some (.ref a_is_between)
  b_is_between : Binds K fd_is_between ["value", "least", "greatest"] []
  a_is_long_row : Addr
  fd_is_long_row : FuncData
  F_is_long_row : Fun K "is_long_row" "is_long_row" s_is_long_row a_is_long_row fd_is_long_row
  m_is_long_row : mg "is_long_row" = some (.ref a_is_long_row)
  b_is_long_row : Binds K fd_is_long_row ["value"] []
  a_is_row : Addr
  fd_is_row : FuncData
  F_is_row : Fun K "is_row" "is_row" s_is_row a_is_row fd_is_row
  m_is_row : mg "is_row" = some (.ref a_is_row)
  b_is_row : Binds K fd_is_row ["value"] []
  a_is_long_grid : Addr
  fd_is_long_grid : FuncData
  F_is_long_grid : Fun K "is_long_grid" "is_long_grid" s_is_long_grid a_is_long_grid fd_is_long_grid
  m_is_long_grid : mg "is_long_grid" = some (.ref a_is_long_grid)
  b_is_long_grid : Binds K fd_is_long_grid ["value"] []
  a_is_grid : Addr
  fd_is_grid : FuncData
  F_is_grid : Fun K "is_grid" "is_grid" s_is_grid a_is_grid fd_is_grid
  m_is_grid : mg "is_grid" = some (.ref a_is_grid)
  b_is_grid : Binds K fd_is_grid ["value"] []
  a_check_row : Addr
  fd_check_row : FuncData
  F_check_row : Fun K "check_row" "check_row" s_check_row a_check_row fd_check_row
  m_check_row : mg "check_row" = some (.ref a_check_row)
  b_check_row : Binds K fd_check_row ["value"] []
  a_check_grid : Addr
  fd_check_grid : FuncData
  F_check_grid : Fun K "check_grid" "check_grid" s_check_grid a_check_grid fd_check_grid
  m_check_grid : mg "check_grid" = some (.ref a_check_grid)
  b_check_grid : Binds K fd_check_grid ["value"] []
  a_check_grids : Addr
  fd_check_grids : FuncData
  F_check_grids : Fun K "check_grids" "check_grids" s_check_grids a_check_grids fd_check_grids
  m_check_grids : mg "check_grids" = some (.ref a_check_grids)
  b_check_grids : Binds K fd_check_grids ["one", "other"] []
  a_check_integer : Addr
  fd_check_integer : FuncData
  F_check_integer : Fun K "check_integer" "check_integer" s_check_integer a_check_integer fd_check_integer
  m_check_integer : mg "check_integer" = some (.ref a_check_integer)
  b_check_integer : Binds K fd_check_integer ["value"] []
  a_check_between : Addr
  fd_check_between : FuncData
  F_check_between : Fun K "check_between" "check_between" s_check_between a_check_between fd_check_between
  m_check_between : mg "check_between" = some (.ref a_check_between)
  b_check_between : Binds K fd_check_between ["value", "least", "greatest"] []
  a_check_least : Addr
  fd_check_least : FuncData
  F_check_least : Fun K "check_least" "check_least" s_check_least a_check_least fd_check_least
  m_check_least : mg "check_least" = some (.ref a_check_least)
  b_check_least : Binds K fd_check_least ["value", "least"] []
  a_check_fit : Addr
  fd_check_fit : FuncData
  F_check_fit : Fun K "check_fit" "check_fit" s_check_fit a_check_fit fd_check_fit
  m_check_fit : mg "check_fit" = some (.ref a_check_fit)
  b_check_fit : Binds K fd_check_fit ["fits", "reason"] []
  a_check_rows : Addr
  fd_check_rows : FuncData
  F_check_rows : Fun K "check_rows" "check_rows" s_check_rows a_check_rows fd_check_rows
  m_check_rows : mg "check_rows" = some (.ref a_check_rows)
  b_check_rows : Binds K fd_check_rows ["one", "other"] []
  a_dot : Addr
  fd_dot : FuncData
  F_dot : Fun K "dot" "dot" s_dot a_dot fd_dot
  m_dot : mg "dot" = some (.ref a_dot)
  b_dot : Binds K fd_dot ["one", "other"] []
  a_row_sum : Addr
  fd_row_sum : FuncData
  F_row_sum : Fun K "row_sum" "row_sum" s_row_sum a_row_sum fd_row_sum
  m_row_sum : mg "row_sum" = some (.ref a_row_sum)
  b_row_sum : Binds K fd_row_sum ["one", "other"] []
  a_row_difference : Addr
  fd_row_difference : FuncData
  F_row_difference : Fun K "row_difference" "row_difference" s_row_difference a_row_difference fd_row_difference
  m_row_difference : mg "row_difference" = some (.ref a_row_difference)
  b_row_difference : Binds K fd_row_difference ["one", "other"] []
  a_row_multiple : Addr
  fd_row_multiple : FuncData
  F_row_multiple : Fun K "row_multiple" "row_multiple" s_row_multiple a_row_multiple fd_row_multiple
  m_row_multiple : mg "row_multiple" = some (.ref a_row_multiple)
  b_row_multiple : Binds K fd_row_multiple ["row", "number"] []
  a_is_nought : Addr
  fd_is_nought : FuncData
  F_is_nought : Fun K "is_nought" "is_nought" s_is_nought a_is_nought fd_is_nought
  m_is_nought : mg "is_nought" = some (.ref a_is_nought)
  b_is_nought : Binds K fd_is_nought ["value", "modulus"] []
  a_shared : Addr
  fd_shared : FuncData
  F_shared : Fun K "shared" "shared" s_shared a_shared fd_shared
  m_shared : mg "shared" = some (.ref a_shared)
  b_shared : Binds K fd_shared ["one", "other"] []
  a_unit_grid : Addr
  fd_unit_grid : FuncData
  F_unit_grid : Fun K "unit_grid" "unit_grid" s_unit_grid a_unit_grid fd_unit_grid
  m_unit_grid : mg "unit_grid" = some (.ref a_unit_grid)
  b_unit_grid : Binds K fd_unit_grid ["size"] []
  a_nought_grid : Addr
  fd_nought_grid : FuncData
  F_nought_grid : Fun K "nought_grid" "nought_grid" s_nought_grid a_nought_grid fd_nought_grid
  m_nought_grid : mg "nought_grid" = some (.ref a_nought_grid)
  b_nought_grid : Binds K fd_nought_grid ["height", "width"] []
  a_turned : Addr
  fd_turned : FuncData
  F_turned : Fun K "turned" "turned" s_turned a_turned fd_turned
  m_turned : mg "turned" = some (.ref a_turned)
  b_turned : Binds K fd_turned ["grid"] []
  a_grid_multiple : Addr
  fd_grid_multiple : FuncData
  F_grid_multiple : Fun K "grid_multiple" "grid_multiple" s_grid_multiple a_grid_multiple fd_grid_multiple
  m_grid_multiple : mg "grid_multiple" = some (.ref a_grid_multiple)
  b_grid_multiple : Binds K fd_grid_multiple ["grid", "number"] []
  a_check_like : Addr
  fd_check_like : FuncData
  F_check_like : Fun K "check_like" "check_like" s_check_like a_check_like fd_check_like
  m_check_like : mg "check_like" = some (.ref a_check_like)
  b_check_like : Binds K fd_check_like ["one", "other"] []
  a_grid_sum : Addr
  fd_grid_sum : FuncData
  F_grid_sum : Fun K "grid_sum" "grid_sum" s_grid_sum a_grid_sum fd_grid_sum
  m_grid_sum : mg "grid_sum" = some (.ref a_grid_sum)
  b_grid_sum : Binds K fd_grid_sum ["one", "other"] []
  a_grid_difference : Addr
  fd_grid_difference : FuncData
  F_grid_difference : Fun K "grid_difference" "grid_difference" s_grid_difference a_grid_difference fd_grid_difference
  m_grid_difference : mg "grid_difference" = some (.ref a_grid_difference)
  b_grid_difference : Binds K fd_grid_difference ["one", "other"] []
  a_grid_product : Addr
  fd_grid_product : FuncData
  F_grid_product : Fun K "grid_product" "grid_product" s_grid_product a_grid_product fd_grid_product
  m_grid_product : mg "grid_product" = some (.ref a_grid_product)
  b_grid_product : Binds K fd_grid_product ["one", "other"] []
  a_check_most : Addr
  fd_check_most : FuncData
  F_check_most : Fun K "check_most" "check_most" s_check_most a_check_most fd_check_most
  m_check_most : mg "check_most" = some (.ref a_check_most)
  b_check_most : Binds K fd_check_most ["size"] []
  a_beside : Addr
  fd_beside : FuncData
  F_beside : Fun K "beside" "beside" s_beside a_beside fd_beside
  m_beside : mg "beside" = some (.ref a_beside)
  b_beside : Binds K fd_beside ["one", "other"] []
  a_over : Addr
  fd_over : FuncData
  F_over : Fun K "over" "over" s_over a_over fd_over
  m_over : mg "over" = some (.ref a_over)
  b_over : Binds K fd_over ["one", "other"] []
  a_led : Addr
  fd_led : FuncData
  F_led : Fun K "led" "led" s_led a_led fd_led
  m_led : mg "led" = some (.ref a_led)
  b_led : Binds K fd_led ["grid", "row"] []
  a_read_by : Addr
  fd_read_by : FuncData
  F_read_by : Fun K "read_by" "read_by" s_read_by a_read_by fd_read_by
  m_read_by : mg "read_by" = some (.ref a_read_by)
  b_read_by : Binds K fd_read_by ["row", "grid"] []
  a_law_hat : Addr
  fd_law_hat : FuncData
  F_law_hat : Fun K "_law_hat" "_law_hat" s_law_hat a_law_hat fd_law_hat
  m_law_hat : mg "_law_hat" = some (.ref a_law_hat)
  b_law_hat : Binds K fd_law_hat ["script", "spot"] []
  a_law_up_to : Addr
  fd_law_up_to : FuncData
  F_law_up_to : Fun K "_law_up_to" "_law_up_to" s_law_up_to a_law_up_to fd_law_up_to
  m_law_up_to : mg "_law_up_to" = some (.ref a_law_up_to)
  b_law_up_to : Binds K fd_law_up_to ["hat", "total"] []
  a_law_out_of : Addr
  fd_law_out_of : FuncData
  F_law_out_of : Fun K "_law_out_of" "_law_out_of" s_law_out_of a_law_out_of fd_law_out_of
  m_law_out_of : mg "_law_out_of" = some (.ref a_law_out_of)
  b_law_out_of : Binds K fd_law_out_of ["hat", "items"] []
  a_law_met : Addr
  fd_law_met : FuncData
  F_law_met : Fun K "_law_met" "_law_met" s_law_met a_law_met fd_law_met
  m_law_met : mg "_law_met" = some (.ref a_law_met)
  b_law_met : Binds K fd_law_met ["call"] []
  a_law_grids_right : Addr
  fd_law_grids_right : FuncData
  F_law_grids_right : Fun K "_law_grids_right" "_law_grids_right" s_law_grids_right a_law_grids_right fd_law_grids_right
  m_law_grids_right : mg "_law_grids_right" = some (.ref a_law_grids_right)
  b_law_grids_right : Binds K fd_law_grids_right ["hat"] []
  a_law_rows_right : Addr
  fd_law_rows_right : FuncData
  F_law_rows_right : Fun K "_law_rows_right" "_law_rows_right" s_law_rows_right a_law_rows_right fd_law_rows_right
  m_law_rows_right : mg "_law_rows_right" = some (.ref a_law_rows_right)
  b_law_rows_right : Binds K fd_law_rows_right ["hat"] []
  a_law : Addr
  fd_law : FuncData
  F_law : Fun K "law" "law" s_law a_law fd_law
  m_law : mg "law" = some (.ref a_law)
  b_law : Binds K fd_law ["script"] []
  cc_law_grids_right : Addr
  P_law_grids_right : Addr
  C_law_grids_right : FunC K "_law_grids_right" "_law_grids_right" s_law_grids_right a_law_grids_right fd_law_grids_right cc_law_grids_right
  cc_law_rows_right : Addr
  P_law_rows_right : Addr
  C_law_rows_right : FunC K "_law_rows_right" "_law_rows_right" s_law_rows_right a_law_rows_right fd_law_rows_right cc_law_rows_right
  cc_law : Addr
  P_law : Addr
  C_law : FunC K "law" "law" s_law a_law fd_law cc_law
  d_law_grids_right_law_rows_right : P_law_grids_right ≠ P_law_rows_right
  d_law_grids_right_law : P_law_grids_right ≠ P_law
  d_law_rows_right_law : P_law_rows_right ≠ P_law
  t_MAX_SIZE : Tok
  c_MAX_SIZE : mg "MAX_SIZE" = some (.int 60 t_MAX_SIZE)
  t_TOO_LONG : Tok
  c_TOO_LONG : mg "TOO_LONG" = some (.int 1000000000000 t_TOO_LONG)
  z_abs : mg "abs" = none
  z_all : mg "all" = none
  z_bool : mg "bool" = none
  z_int : mg "int" = none
  z_isinstance : mg "isinstance" = none
  z_len : mg "len" = none
  z_list : mg "list" = none
  z_max : mg "max" = none
  z_min : mg "min" = none
  z_range : mg "range" = none
  z_repr : mg "repr" = none
  z_sum : mg "sum" = none
  z_tuple : mg "tuple" = none
  z_zip : mg "zip" = none
  A_InvalidGrid : Addr
  g_InvalidGrid : mg "InvalidGrid" = some (.ref A_InvalidGrid)
  q_InvalidGrid : PySem.W.excIn K A_InvalidGrid [.type "ValueError", .type "Exception", .type "BaseException", .type "object"] "ValueError.__new__" = true
  k_InvalidGrid : PySem.W.keepIn K (.ref A_InvalidGrid) = true
  e_InvalidGrid : PySem.W.subIn K (.ref A_InvalidGrid) (.type "BaseException") = some true
  y_InvalidGrid : PySem.W.typeIn K (.ref A_InvalidGrid) = some (.type "type")
  A_InvalidNumber : Addr
  g_InvalidNumber : mg "InvalidNumber" = some (.ref A_InvalidNumber)
  I_InvalidNumber : Addr
  x_InvalidNumber : PySem.OwnEx.OwnX K A_InvalidNumber I_InvalidNumber "given" "IndexError" "IndexError.__new__" "IndexError.__init__" [.type "IndexError", .type "LookupError", .type "Exception", .type "BaseException", .type "object"]
  A_InvalidOperation : Addr
  g_InvalidOperation : mg "InvalidOperation" = some (.ref A_InvalidOperation)
  q_InvalidOperation : PySem.W.excIn K A_InvalidOperation [.type "ValueError", .type "Exception", .type "BaseException", .type "object"] "ValueError.__new__" = true
  k_InvalidOperation : PySem.W.keepIn K (.ref A_InvalidOperation) = true
  e_InvalidOperation : PySem.W.subIn K (.ref A_InvalidOperation) (.type "BaseException") = some true
  y_InvalidOperation : PySem.W.typeIn K (.ref A_InvalidOperation) = some (.type "type")
  A_InvalidRow : Addr
  g_InvalidRow : mg "InvalidRow" = some (.ref A_InvalidRow)
  q_InvalidRow : PySem.W.excIn K A_InvalidRow [.type "ValueError", .type "Exception", .type "BaseException", .type "object"] "ValueError.__new__" = true
  k_InvalidRow : PySem.W.keepIn K (.ref A_InvalidRow) = true
  e_InvalidRow : PySem.W.subIn K (.ref A_InvalidRow) (.type "BaseException") = some true
  y_InvalidRow : PySem.W.typeIn K (.ref A_InvalidRow) = some (.type "type")
  A_TooMany : Addr
  g_TooMany : mg "TooMany" = some (.ref A_TooMany)
  I_TooMany : Addr
  x_TooMany : PySem.OwnEx.OwnX K A_TooMany I_TooMany "most" "OverflowError" "OverflowError.__new__" "OverflowError.__init__" [.type "OverflowError", .type "ArithmeticError", .type "Exception", .type "BaseException", .type "object"]
  e_InvalidGrid_InvalidGrid : PySem.W.exmOne K (.ref A_InvalidGrid) (.ref A_InvalidGrid) = some true
  e_InvalidNumber_InvalidGrid : PySem.W.exmOne K (.ref A_InvalidNumber) (.ref A_InvalidGrid) = some false
  e_InvalidOperation_InvalidGrid : PySem.W.exmOne K (.ref A_InvalidOperation) (.ref A_InvalidGrid) = some false
  e_InvalidRow_InvalidGrid : PySem.W.exmOne K (.ref A_InvalidRow) (.ref A_InvalidGrid) = some false
  e_TooMany_InvalidGrid : PySem.W.exmOne K (.ref A_TooMany) (.ref A_InvalidGrid) = some false
  e_InvalidGrid_InvalidRow : PySem.W.exmOne K (.ref A_InvalidGrid) (.ref A_InvalidRow) = some false
  e_InvalidNumber_InvalidRow : PySem.W.exmOne K (.ref A_InvalidNumber) (.ref A_InvalidRow) = some false
  e_InvalidOperation_InvalidRow : PySem.W.exmOne K (.ref A_InvalidOperation) (.ref A_InvalidRow) = some false
  e_InvalidRow_InvalidRow : PySem.W.exmOne K (.ref A_InvalidRow) (.ref A_InvalidRow) = some true
  e_TooMany_InvalidRow : PySem.W.exmOne K (.ref A_TooMany) (.ref A_InvalidRow) = some false
  e_InvalidGrid_InvalidOperation : PySem.W.exmOne K (.ref A_InvalidGrid) (.ref A_InvalidOperation) = some false
  e_InvalidNumber_InvalidOperation : PySem.W.exmOne K (.ref A_InvalidNumber) (.ref A_InvalidOperation) = some false
  e_InvalidOperation_InvalidOperation : PySem.W.exmOne K (.ref A_InvalidOperation) (.ref A_InvalidOperation) = some true
  e_InvalidRow_InvalidOperation : PySem.W.exmOne K (.ref A_InvalidRow) (.ref A_InvalidOperation) = some false
  e_TooMany_InvalidOperation : PySem.W.exmOne K (.ref A_TooMany) (.ref A_InvalidOperation) = some false
  e_InvalidGrid_InvalidNumber : PySem.W.exmOne K (.ref A_InvalidGrid) (.ref A_InvalidNumber) = some false
  e_InvalidNumber_InvalidNumber : PySem.W.exmOne K (.ref A_InvalidNumber) (.ref A_InvalidNumber) = some true
  e_InvalidOperation_InvalidNumber : PySem.W.exmOne K (.ref A_InvalidOperation) (.ref A_InvalidNumber) = some false
  e_InvalidRow_InvalidNumber : PySem.W.exmOne K (.ref A_InvalidRow) (.ref A_InvalidNumber) = some false
  e_TooMany_InvalidNumber : PySem.W.exmOne K (.ref A_TooMany) (.ref A_InvalidNumber) = some false
  xf_InvalidNumber : XfC K A_InvalidNumber
  e_InvalidGrid_TooMany : PySem.W.exmOne K (.ref A_InvalidGrid) (.ref A_TooMany) = some false
  e_InvalidNumber_TooMany : PySem.W.exmOne K (.ref A_InvalidNumber) (.ref A_TooMany) = some false
  e_InvalidOperation_TooMany : PySem.W.exmOne K (.ref A_InvalidOperation) (.ref A_TooMany) = some false
  e_InvalidRow_TooMany : PySem.W.exmOne K (.ref A_InvalidRow) (.ref A_TooMany) = some false
  e_TooMany_TooMany : PySem.W.exmOne K (.ref A_TooMany) (.ref A_TooMany) = some true
  xf_TooMany : XfC K A_TooMany
def XR0 : XRel := fun _ _ _ _ => False
def ctab {K : PySem.W.Frag} {mg : Str → Option Value} (T : Txt K mg) : CTab := fun c => if c = "InvalidGrid" then some (T.A_InvalidGrid, none) else if c = "InvalidNumber" then some (T.A_InvalidNumber, some "given") else if c = "InvalidOperation" then some (T.A_InvalidOperation, none) else if c = "InvalidRow" then some (T.A_InvalidRow, none) else if c = "TooMany" then some (T.A_TooMany, some "most") else none
section
variable [Mir.Tb]
variable {P : Program} {w : World} {K : PySem.W.Frag} {mg : Str → Option Value} {base : Heap}
theorem ok_plain_dot (T : Txt K mg) : FnOk P w K mg base CX0 1 T.a_plain_dot T.fd_plain_dot ["one", "other"] (spM K XR0 2 run_plain_dot) := fn_mir T.F_plain_dot sc_plain_dot (fun _ _ _ _ q => q) fun cdv A outer s H E hr =>
    (sb_one (ss_ret (se_sum rfl (by rfl) T.z_sum (sl_e (se_sc (sc_comp2 ["one", "other", "left", "right"] (defScope s_plain_dot) [("left", 2), ("right", 3)] rfl sc_plain_dot.nd (si_zp (by rfl) T.z_zip (se_var 0) (se_var 1)) rfl rfl (by decide +kernel) rfl (fun _ _ _ _ _ => (sg_tup rfl (sgs_cons 2 sc_plain_dot.nd rfl (by first | exact Or.inl rfl | exact Or.inr rfl) (sgs_cons 3 sc_plain_dot.nd rfl (by first | exact Or.inl rfl | exact Or.inr rfl) sgs_nil)))) (fun _ _ _ _ _ => sts_nil) (fun _ _ _ _ _ => (se_mulA (se_var 2) (se_var 3)))))))))
theorem ok_row_more (T : Txt K mg) : FnOk P w K mg base CX0 1 T.a_row_more T.fd_row_more ["one", "other"] (spM K XR0 2 run_row_more) := fn_mir T.F_row_more sc_row_more (fun _ _ _ _ q => q) fun cdv A outer s H E hr =>
    (sb_one (ss_ret (se_tuple (by rfl) T.z_tuple (sl_e (se_sc (sc_comp2 ["one", "other", "left", "right"] (defScope s_row_more) [("left", 2), ("right", 3)] rfl sc_row_more.nd (si_zp (by rfl) T.z_zip (se_var 0) (se_var 1)) rfl rfl (by decide +kernel) rfl (fun _ _ _ _ _ => (sg_tup rfl (sgs_cons 2 sc_row_more.nd rfl (by first | exact Or.inl rfl | exact Or.inr rfl) (sgs_cons 3 sc_row_more.nd rfl (by first | exact Or.inl rfl | exact Or.inr rfl) sgs_nil)))) (fun _ _ _ _ _ => sts_nil) (fun _ _ _ _ _ => (se_add (se_var 2) (se_var 3)))))))))
theorem ok_row_less (T : Txt K mg) : FnOk P w K mg base CX0 1 T.a_row_less T.fd_row_less ["one", "other"] (spM K XR0 2 run_row_less) := fn_mir T.F_row_less sc_row_less (fun _ _ _ _ q => q) fun cdv A outer s H E hr =>
    (sb_one (ss_ret (se_tuple (by rfl) T.z_tuple (sl_e (se_sc (sc_comp2 ["one", "other", "left", "right"] (defScope s_row_less) [("left", 2), ("right", 3)] rfl sc_row_less.nd (si_zp (by rfl) T.z_zip (se_var 0) (se_var 1)) rfl rfl (by decide +kernel) rfl (fun _ _ _ _ _ => (sg_tup rfl (sgs_cons 2 sc_row_less.nd rfl (by first | exact Or.inl rfl | exact Or.inr rfl) (sgs_cons 3 sc_row_less.nd rfl (by first | exact Or.inl rfl | exact Or.inr rfl) sgs_nil)))) (fun _ _ _ _ _ => sts_nil) (fun _ _ _ _ _ => (se_sub (se_var 2) (se_var 3)))))))))
theorem ok_plain_led (T : Txt K mg) : FnOk P w K mg base CX0 2 T.a_plain_led T.fd_plain_led ["grid", "row"] (spM K XR0 2 run_plain_led) := fn_mir T.F_plain_led sc_plain_led (fun _ _ _ _ q => q) fun cdv A outer s H E hr =>
    (sb_one (ss_ret (se_tuple (by rfl) T.z_tuple (sl_e (se_sc (sc_comp2 ["grid", "row", "line"] (defScope s_plain_led) [("line", 2)] rfl sc_plain_led.nd (si_seq (se_ix (sl_var 0) se_int (fun _ _ => rfl))) rfl rfl (by decide +kernel) rfl (fun _ _ _ _ _ => (sg_name 2 sc_plain_led.nd rfl (by first | exact Or.inl rfl | exact Or.inr rfl))) (fun _ _ _ _ _ => sts_nil) (fun _ _ _ _ _ => (se_call (ok_plain_dot T) (hr.mono (by decide)) (by rfl) T.m_plain_dot T.F_plain_dot.kp T.b_plain_dot (sa_cons (sl_var 2) (sa_cons (sl_var 1) sa_nil))))))))))
theorem ok_plain_grid (T : Txt K mg) : FnOk P w K mg base CX0 1 T.a_plain_grid T.fd_plain_grid ["rows", "width"] (spM K XR0 2 run_plain_grid) := fn_mir T.F_plain_grid sc_plain_grid (fun _ _ _ _ q => q) fun cdv A outer s H E hr =>
    (sb_one (ss_ret (se_tup (sd_cons (se_var 1) (sd_cons (se_tuple (by rfl) T.z_tuple (sl_e (se_sc (sc_comp2 ["rows", "width", "row"] (defScope s_plain_grid) [("row", 2)] rfl sc_plain_grid.nd (si_seq (se_var 0)) rfl rfl (by decide +kernel) rfl (fun _ _ _ _ _ => (sg_name 2 sc_plain_grid.nd rfl (by first | exact Or.inl rfl | exact Or.inr rfl))) (fun _ _ _ _ _ => sts_nil) (fun _ _ _ _ _ => (se_tuple (by rfl) T.z_tuple (sl_var 2))))))) sd_nil)))))
theorem ok_turned_rows_of (T : Txt K mg) : FnOk P w K mg base CX0 1 T.a_turned_rows_of T.fd_turned_rows_of ["rows", "width"] (spM K XR0 2 run_turned_rows_of) := fn_mir T.F_turned_rows_of sc_turned_rows_of (fun _ _ _ _ q => q) fun cdv A outer s H E hr =>
    (sb_one (ss_retC (sc_comp2 ["rows", "width", "at", "row"] (defScope s_turned_rows_of) [("at", 2)] rfl sc_turned_rows_of.nd (si_range1 (by rfl) T.z_range (se_var 1)) rfl rfl (by decide +kernel) rfl (fun _ _ _ _ _ => (sg_name 2 sc_turned_rows_of.nd rfl (by first | exact Or.inl rfl | exact Or.inr rfl))) (fun _ _ _ _ _ => sts_nil) (fun _ _ _ _ _ => (se_sc (sc_compN ["rows", "width", "at", "row"] [("row", 3)] rfl sc_turned_rows_of.nd (si_seq (se_var 0)) rfl (by decide +kernel) rfl (fun _ _ _ _ _ => (sg_name 3 sc_turned_rows_of.nd rfl (by first | exact Or.inl rfl | exact Or.inr rfl))) (fun _ _ _ _ _ => sts_nil) (fun _ _ _ _ _ => (se_ix (sl_var 3) (se_var 2) (fun _ _ => rfl)))))))))
theorem ok_plain_turned (T : Txt K mg) : FnOk P w K mg base CX0 2 T.a_plain_turned T.fd_plain_turned ["grid"] (spM K XR0 1 run_plain_turned) := fn_mir T.F_plain_turned sc_plain_turned (fun _ _ _ _ q => q) fun cdv A outer s H E hr =>
    (sb_cons (ss_to (se_var 0) (sg_tup rfl (sgs_cons 1 sc_plain_turned.nd rfl (by first | exact Or.inl rfl | exact Or.inr rfl) (sgs_cons 2 sc_plain_turned.nd rfl (by first | exact Or.inl rfl | exact Or.inr rfl) sgs_nil))))
    (sb_one (ss_ret (se_call (ok_plain_grid T) (hr.mono (by decide)) (by rfl) T.m_plain_grid T.F_plain_grid.kp T.b_plain_grid (sa_cons (sl_e (se_call (ok_turned_rows_of T) (hr.mono (by decide)) (by rfl) T.m_turned_rows_of T.F_turned_rows_of.kp T.b_turned_rows_of (sa_cons (sl_var 2) (sa_cons (sl_var 1) sa_nil)))) (sa_cons (sl_e (se_len (by rfl) T.z_len (sl_var 2))) sa_nil))))))
theorem ok_plain_product (T : Txt K mg) : FnOk P w K mg base CX0 2 T.a_plain_product T.fd_plain_product ["one", "other"] (spM K XR0 2 run_plain_product) := fn_mir T.F_plain_product sc_plain_product (fun _ _ _ _ q => q) fun cdv A outer s H E hr =>
    (sb_cons (ss_set 2 sc_plain_product.nd rfl (by first | exact Or.inl rfl | exact Or.inr rfl) (se_call (ok_turned_rows_of T) (hr.mono (by decide)) (by rfl) T.m_turned_rows_of T.F_turned_rows_of.kp T.b_turned_rows_of (sa_cons (sl_e (se_ix (sl_var 1) se_int (fun _ _ => rfl))) (sa_cons (sl_e (se_ix (sl_var 1) se_int (fun _ _ => rfl))) sa_nil))))
    (sb_one (ss_ret (se_tup (sd_cons (se_ix (sl_var 1) se_int (fun _ _ => rfl)) (sd_cons (se_tuple (by rfl) T.z_tuple (sl_e (se_sc (sc_comp2 ["one", "other", "columns", "row", "column"] (defScope s_plain_product) [("row", 3)] rfl sc_plain_product.nd (si_seq (se_ix (sl_var 0) se_int (fun _ _ => rfl))) rfl rfl (by decide +kernel) rfl (fun _ _ _ _ _ => (sg_name 3 sc_plain_product.nd rfl (by first | exact Or.inl rfl | exact Or.inr rfl))) (fun _ _ _ _ _ => sts_nil) (fun _ _ _ _ _ => (se_tuple (by rfl) T.z_tuple (sl_e (se_sc (sc_compN ["one", "other", "columns", "row", "column"] [("column", 4)] rfl sc_plain_product.nd (si_seq (se_var 2)) rfl (by decide +kernel) rfl (fun _ _ _ _ _ => (sg_name 4 sc_plain_product.nd rfl (by first | exact Or.inl rfl | exact Or.inr rfl))) (fun _ _ _ _ _ => sts_nil) (fun _ _ _ _ _ => (se_call (ok_plain_dot T) (hr.mono (by decide)) (by rfl) T.m_plain_dot T.F_plain_dot.kp T.b_plain_dot (sa_cons (sl_var 3) (sa_cons (sl_var 4) sa_nil))))))))))))) sd_nil))))))
theorem ok_plain_difference (T : Txt K mg) : FnOk P w K mg base CX0 2 T.a_plain_difference T.fd_plain_difference ["one", "other"] (spM K XR0 2 run_plain_difference) := fn_mir T.F_plain_difference sc_plain_difference (fun _ _ _ _ q => q) fun cdv A outer s H E hr =>
    (sb_cons (ss_setLc2 2 ["one", "other", "pairs", "row", "line", "pair", "left", "right"] (defScope s_plain_difference) [("row", 3), ("line", 4)] rfl sc_plain_difference.nd rfl rfl (sw_true rfl rfl rfl (by decide +kernel)) (si_zp (by rfl) T.z_zip (se_ix (sl_var 0) se_int (fun _ _ => rfl)) (se_ix (sl_var 1) se_int (fun _ _ => rfl))) rfl rfl (by decide +kernel) rfl (fun _ _ _ _ _ => (sg_tup rfl (sgs_cons 3 sc_plain_difference.nd rfl (by first | exact Or.inl rfl | exact Or.inr rfl) (sgs_cons 4 sc_plain_difference.nd rfl (by first | exact Or.inl rfl | exact Or.inr rfl) sgs_nil)))) (fun _ _ _ _ _ => sts_nil) (fun _ _ _ _ _ => (se_sc (sc_lz rfl (by rfl) T.z_list (by rfl) T.z_zip (se_var 3) (se_var 4)))))
    (sb_one (ss_ret (se_call (ok_plain_grid T) (hr.mono (by decide)) (by rfl) T.m_plain_grid T.F_plain_grid.kp T.b_plain_grid (sa_cons (sl_e (se_sc (sc_comp2 ["one", "other", "pairs", "row", "line", "pair", "left", "right"] (defScope s_plain_difference) [("pair", 5)] rfl sc_plain_difference.nd (si_seq (se_var 2)) rfl rfl (by decide +kernel) rfl (fun _ _ _ _ _ => (sg_name 5 sc_plain_difference.nd rfl (by first | exact Or.inl rfl | exact Or.inr rfl))) (fun _ _ _ _ _ => sts_nil) (fun _ _ _ _ _ => (se_sc (sc_compN ["one", "other", "pairs", "row", "line", "pair", "left", "right"] [("left", 6), ("right", 7)] rfl sc_plain_difference.nd (si_seq (se_var 5)) rfl (by decide +kernel) rfl (fun _ _ _ _ _ => (sg_tup rfl (sgs_cons 6 sc_plain_difference.nd rfl (by first | exact Or.inl rfl | exact Or.inr rfl) (sgs_cons 7 sc_plain_difference.nd rfl (by first | exact Or.inl rfl | exact Or.inr rfl) sgs_nil)))) (fun _ _ _ _ _ => sts_nil) (fun _ _ _ _ _ => (se_sub (se_var 6) (se_var 7))))))))) (sa_cons (sl_e (se_ix (sl_var 0) se_int (fun _ _ => rfl))) sa_nil))))))
theorem ok_plain_multiple (T : Txt K mg) : FnOk P w K mg base CX0 2 T.a_plain_multiple T.fd_plain_multiple ["grid", "number"] (spM K XR0 2 run_plain_multiple) := fn_mir T.F_plain_multiple sc_plain_multiple (fun _ _ _ _ q => q) fun cdv A outer s H E hr =>
    (sb_one (ss_ret (se_call (ok_plain_grid T) (hr.mono (by decide)) (by rfl) T.m_plain_grid T.F_plain_grid.kp T.b_plain_grid (sa_cons (sl_e (se_sc (sc_comp2 ["grid", "number", "row", "item"] (defScope s_plain_multiple) [("row", 2)] rfl sc_plain_multiple.nd (si_seq (se_ix (sl_var 0) se_int (fun _ _ => rfl))) rfl rfl (by decide +kernel) rfl (fun _ _ _ _ _ => (sg_name 2 sc_plain_multiple.nd rfl (by first | exact Or.inl rfl | exact Or.inr rfl))) (fun _ _ _ _ _ => sts_nil) (fun _ _ _ _ _ => (se_sc (sc_compN ["grid", "number", "row", "item"] [("item", 3)] rfl sc_plain_multiple.nd (si_seq (se_var 2)) rfl (by decide +kernel) rfl (fun _ _ _ _ _ => (sg_name 3 sc_plain_multiple.nd rfl (by first | exact Or.inl rfl | exact Or.inr rfl))) (fun _ _ _ _ _ => sts_nil) (fun _ _ _ _ _ => (se_mulA (se_var 1) (se_var 3))))))))) (sa_cons (sl_e (se_ix (sl_var 0) se_int (fun _ _ => rfl))) sa_nil)))))
theorem ok_plain_sum (T : Txt K mg) : FnOk P w K mg base CX0 3 T.a_plain_sum T.fd_plain_sum ["one", "other"] (spM K XR0 2 run_plain_sum) := fn_mir T.F_plain_sum sc_plain_sum (fun _ _ _ _ q => q) fun cdv A outer s H E hr =>
    (sb_one (ss_ret (se_call (ok_plain_difference T) (hr.mono (by decide)) (by rfl) T.m_plain_difference T.F_plain_difference.kp T.b_plain_difference (sa_cons (sl_var 0) (sa_cons (sl_e (se_call (ok_plain_multiple T) (hr.mono (by decide)) (by rfl) T.m_plain_multiple T.F_plain_multiple.kp T.b_plain_multiple (sa_cons (sl_var 1) (sa_cons (sl_e (se_neg se_int)) sa_nil)))) sa_nil)))))
theorem ok_plain_read (T : Txt K mg) : FnOk P w K mg base CX0 3 T.a_plain_read T.fd_plain_read ["row", "grid"] (spM K XR0 2 run_plain_read) := fn_mir T.F_plain_read sc_plain_read (fun _ _ _ _ q => q) fun cdv A outer s H E hr =>
    (sb_one (ss_ret (se_call (ok_plain_led T) (hr.mono (by decide)) (by rfl) T.m_plain_led T.F_plain_led.kp T.b_plain_led (sa_cons (sl_e (se_call (ok_plain_turned T) (hr.mono (by decide)) (by rfl) T.m_plain_turned T.F_plain_turned.kp T.b_plain_turned (sa_cons (sl_var 1) sa_nil))) (sa_cons (sl_var 0) sa_nil)))))
theorem ok_plain_beside (T : Txt K mg) : FnOk P w K mg base CX0 2 T.a_plain_beside T.fd_plain_beside ["one", "other"] (spM K XR0 2 run_plain_beside) := fn_mir T.F_plain_beside sc_plain_beside (fun _ _ _ _ q => q) fun cdv A outer s H E hr =>
    (sb_one (ss_ret (se_call (ok_plain_grid T) (hr.mono (by decide)) (by rfl) T.m_plain_grid T.F_plain_grid.kp T.b_plain_grid (sa_cons (sl_e (se_sc (sc_comp2 ["one", "other", "left", "right"] (defScope s_plain_beside) [("left", 2), ("right", 3)] rfl sc_plain_beside.nd (si_zp (by rfl) T.z_zip (se_ix (sl_var 0) se_int (fun _ _ => rfl)) (se_ix (sl_var 1) se_int (fun _ _ => rfl))) rfl rfl (by decide +kernel) rfl (fun _ _ _ _ _ => (sg_tup rfl (sgs_cons 2 sc_plain_beside.nd rfl (by first | exact Or.inl rfl | exact Or.inr rfl) (sgs_cons 3 sc_plain_beside.nd rfl (by first | exact Or.inl rfl | exact Or.inr rfl) sgs_nil)))) (fun _ _ _ _ _ => sts_nil) (fun _ _ _ _ _ => (se_add (se_var 2) (se_var 3)))))) (sa_cons (sl_e (se_add (se_ix (sl_var 0) se_int (fun _ _ => rfl)) (se_ix (sl_var 1) se_int (fun _ _ => rfl)))) sa_nil)))))
theorem ok_is_multiple (T : Txt K mg) : FnOk P w K mg base CX0 1 T.a_is_multiple T.fd_is_multiple ["number", "modulus"] (spM K XR0 2 run_is_multiple) := fn_mir T.F_is_multiple sc_is_multiple (fun _ _ _ _ q => q) fun cdv A outer s H E hr =>
    (sb_one (ss_ret (se_if (st_eq hr.units (se_var 1) se_int) (se_eq hr.units (se_var 0) se_int) (se_eq hr.units (se_mod (se_var 0) (se_var 1)) se_int))))
theorem ok_plain_unit (T : Txt K mg) : FnOk P w K mg base CX0 2 T.a_plain_unit T.fd_plain_unit ["size"] (spM K XR0 1 run_plain_unit) := fn_mir T.F_plain_unit sc_plain_unit (fun _ _ _ _ q => q) fun cdv A outer s H E hr =>
    (sb_one (ss_ret (se_call (ok_plain_grid T) (hr.mono (by decide)) (by rfl) T.m_plain_grid T.F_plain_grid.kp T.b_plain_grid (sa_cons (sl_e (se_sc (sc_comp2 ["size", "place", "at"] (defScope s_plain_unit) [("place", 1)] rfl sc_plain_unit.nd (si_range1 (by rfl) T.z_range (se_var 0)) rfl rfl (by decide +kernel) rfl (fun _ _ _ _ _ => (sg_name 1 sc_plain_unit.nd rfl (by first | exact Or.inl rfl | exact Or.inr rfl))) (fun _ _ _ _ _ => sts_nil) (fun _ _ _ _ _ => (se_sc (sc_compN ["size", "place", "at"] [("at", 2)] rfl sc_plain_unit.nd (si_range1 (by rfl) T.z_range (se_var 0)) rfl (by decide +kernel) rfl (fun _ _ _ _ _ => (sg_name 2 sc_plain_unit.nd rfl (by first | exact Or.inl rfl | exact Or.inr rfl))) (fun _ _ _ _ _ => sts_nil) (fun _ _ _ _ _ => (se_if (st_eq hr.units (se_var 2) (se_var 1)) se_int se_int)))))))) (sa_cons (sl_var 0) sa_nil)))))
theorem ok_plain_nought (T : Txt K mg) : FnOk P w K mg base CX0 1 T.a_plain_nought T.fd_plain_nought ["height", "width"] (spM K XR0 2 run_plain_nought) := fn_mir T.F_plain_nought sc_plain_nought (fun _ _ _ _ q => q) fun cdv A outer s H E hr =>
    (sb_one (ss_ret (se_tup (sd_cons (se_var 1) (sd_cons (se_mulA (se_tup (sd_cons (se_mulA (se_tup (sd_cons se_int sd_nil)) (se_var 1)) sd_nil)) (se_var 0)) sd_nil)))))
theorem ok_bezout (T : Txt K mg) : FnOk P w K mg base CX0 1 T.a_bezout T.fd_bezout ["one", "other"] (spM K XR0 2 run_bezout) := fn_mir T.F_bezout sc_bezout (fun _ _ _ _ q => q) fun cdv A outer s H E hr =>
    (sb_cons (ss_par 2 3 rfl sc_bezout.nd rfl rfl (by decide) rfl rfl (se_var 0) (se_var 1) (by rfl))
    (sb_cons (ss_to (se_tup (sd_cons se_int (sd_cons se_int sd_nil))) (sg_tup rfl (sgs_cons 4 sc_bezout.nd rfl (by first | exact Or.inl rfl | exact Or.inr rfl) (sgs_cons 5 sc_bezout.nd rfl (by first | exact Or.inl rfl | exact Or.inr rfl) sgs_nil))))
    (sb_cons (ss_while (fun (ρ : Mir.Env) (_ : Mir.Sto) => match ρ[3]? with | some (some (Mir.Sl.d (PyData.int i))) => i.natAbs + 1 | _ => 1) PassesOwn.never (st_ne hr.units (se_var 3) se_int)
    (sb_cons (ss_set 6 sc_bezout.nd rfl (by first | exact Or.inl rfl | exact Or.inr rfl) (se_fdiv (se_var 2) (se_var 3)))
    (sb_cons (ss_par 2 3 rfl sc_bezout.nd rfl rfl (by decide) rfl rfl (se_var 3) (se_sub (se_var 2) (se_mulA (se_var 6) (se_var 3))) (by rfl))
    (sb_one (ss_par 4 5 rfl sc_bezout.nd rfl rfl (by decide) rfl rfl (se_var 5) (se_sub (se_var 4) (se_mulA (se_var 6) (se_var 5))) (by rfl))))))
    (sb_cons (ss_if (st_lt (se_var 2) se_int)
    (sb_one (ss_par 2 4 rfl sc_bezout.nd rfl rfl (by decide) rfl rfl (se_neg (se_var 2)) (se_neg (se_var 4)) (by rfl)))
    sb_nil)
    (sb_cons (ss_set 7 sc_bezout.nd rfl (by first | exact Or.inl rfl | exact Or.inr rfl) (se_if (st_ne hr.units (se_var 1) se_int) (se_fdiv (se_sub (se_var 2) (se_mulA (se_var 4) (se_var 0))) (se_var 1)) se_int))
    (sb_one (ss_ret (se_tup (sd_cons (se_var 4) (sd_cons (se_var 7) (sd_cons (se_var 2) sd_nil)))))))))))
theorem ok_is_long_integer (T : Txt K mg) : FnOk P w K mg base CX0 1 T.a_is_long_integer T.fd_is_long_integer ["value"] (spM K XR0 1 run_is_long_integer) := fn_mir T.F_is_long_integer sc_is_long_integer (fun _ _ _ _ q => q) fun cdv A outer s H E hr =>
    (sb_one (ss_ret (se_and (se_isi "int" (pe_bltn (by rfl) T.z_int (by decide +kernel) rfl) (by rfl) T.z_isinstance (se_var 0)) (se_one (se_not (se_isi "bool" (pe_bltn (by rfl) T.z_bool (by decide +kernel) rfl) (by rfl) T.z_isinstance (se_var 0)))))))
theorem ok_is_integer (T : Txt K mg) : FnOk P w K mg base CX0 2 T.a_is_integer T.fd_is_integer ["value"] (spM K XR0 1 run_is_integer) := fn_mir T.F_is_integer sc_is_integer (fun _ _ _ _ q => q) fun cdv A outer s H E hr =>
    (sb_one (ss_ret (se_and (se_call (ok_is_long_integer T) (hr.mono (by decide)) (by rfl) T.m_is_long_integer T.F_is_long_integer.kp T.b_is_long_integer (sa_cons (sl_var 0) sa_nil)) (se_one (se_lt (se_abs (by rfl) T.z_abs (sl_var 0)) (se_gint (by rfl) T.c_TOO_LONG))))))
theorem ok_is_between (T : Txt K mg) : FnOk P w K mg base CX0 3 T.a_is_between T.fd_is_between ["value", "least", "greatest"] (spM K XR0 3 run_is_between) := fn_mir T.F_is_between sc_is_between (fun _ _ _ _ q => q) fun cdv A outer s H E hr =>
    (sb_one (ss_ret (se_and (se_call (ok_is_integer T) (hr.mono (by decide)) (by rfl) T.m_is_integer T.F_is_integer.kp T.b_is_integer (sa_cons (sl_var 0) sa_nil)) (se_one (se_ch op_le op_le (se_var 1) (se_var 0) (se_var 2))))))
theorem ok_is_long_row (T : Txt K mg) : FnOk P w K mg base CX0 2 T.a_is_long_row T.fd_is_long_row ["value"] (spM K XR0 1 run_is_long_row) := fn_mir T.F_is_long_row sc_is_long_row (fun _ _ _ _ q => q) fun cdv A outer s H E hr =>
    (sb_one (ss_ret (se_and (se_isi "tuple" (pe_bltn (by rfl) T.z_tuple (by decide +kernel) rfl) (by rfl) T.z_isinstance (se_var 0)) (se_and (se_le (se_len (by rfl) T.z_len (sl_var 0)) (se_gint (by rfl) T.c_MAX_SIZE)) (se_one (se_all rfl (by rfl) T.z_all (sl_e (se_sc (sc_comp2 ["value", "item"] (defScope s_is_long_row) [("item", 1)] rfl sc_is_long_row.nd (si_seq (se_var 0)) rfl rfl (by decide +kernel) rfl (fun _ _ _ _ _ => (sg_name 1 sc_is_long_row.nd rfl (by first | exact Or.inl rfl | exact Or.inr rfl))) (fun _ _ _ _ _ => sts_nil) (fun _ _ _ _ _ => (se_call (ok_is_long_integer T) (hr.mono (by decide)) (by rfl) T.m_is_long_integer T.F_is_long_integer.kp T.b_is_long_integer (sa_cons (sl_var 1) sa_nil))))))))))))
theorem ok_is_row (T : Txt K mg) : FnOk P w K mg base CX0 3 T.a_is_row T.fd_is_row ["value"] (spM K XR0 1 run_is_row) := fn_mir T.F_is_row sc_is_row (fun _ _ _ _ q => q) fun cdv A outer s H E hr =>
    (sb_one (ss_ret (se_and (se_call (ok_is_long_row T) (hr.mono (by decide)) (by rfl) T.m_is_long_row T.F_is_long_row.kp T.b_is_long_row (sa_cons (sl_var 0) sa_nil)) (se_one (se_all rfl (by rfl) T.z_all (sl_e (se_sc (sc_comp2 ["value", "item"] (defScope s_is_row) [("item", 1)] rfl sc_is_row.nd (si_seq (se_var 0)) rfl rfl (by decide +kernel) rfl (fun _ _ _ _ _ => (sg_name 1 sc_is_row.nd rfl (by first | exact Or.inl rfl | exact Or.inr rfl))) (fun _ _ _ _ _ => sts_nil) (fun _ _ _ _ _ => (se_call (ok_is_integer T) (hr.mono (by decide)) (by rfl) T.m_is_integer T.F_is_integer.kp T.b_is_integer (sa_cons (sl_var 1) sa_nil)))))))))))
theorem ok_is_long_grid (T : Txt K mg) : FnOk P w K mg base CX0 4 T.a_is_long_grid T.fd_is_long_grid ["value"] (spM K XR0 1 run_is_long_grid) := fn_mir T.F_is_long_grid sc_is_long_grid (fun _ _ _ _ q => q) fun cdv A outer s H E hr =>
    (sb_cons (ss_if (st_w (sw_or (st_not (st_val (se_isi "tuple" (pe_bltn (by rfl) T.z_tuple (by decide +kernel) rfl) (by rfl) T.z_isinstance (se_var 0)))) (sw_or1 (st_ne hr.units (se_len (by rfl) T.z_len (sl_var 0)) se_int))))
    (sb_one (ss_ret se_bl))
    sb_nil)
    (sb_cons (ss_to (se_var 0) (sg_tup rfl (sgs_cons 1 sc_is_long_grid.nd rfl (by first | exact Or.inl rfl | exact Or.inr rfl) (sgs_cons 2 sc_is_long_grid.nd rfl (by first | exact Or.inl rfl | exact Or.inr rfl) sgs_nil))))
    (sb_cons (ss_if (st_w (sw_or (st_not (st_val (se_call (ok_is_between T) (hr.mono (by decide)) (by rfl) T.m_is_between T.F_is_between.kp T.b_is_between (sa_cons (sl_var 1) (sa_cons (sl_e se_int) (sa_cons (sl_e (se_gint (by rfl) T.c_MAX_SIZE)) sa_nil)))))) (sw_or (st_not (st_val (se_isi "tuple" (pe_bltn (by rfl) T.z_tuple (by decide +kernel) rfl) (by rfl) T.z_isinstance (se_var 2)))) (sw_or1 (st_gt (se_len (by rfl) T.z_len (sl_var 2)) (se_gint (by rfl) T.c_MAX_SIZE))))))
    (sb_one (ss_ret se_bl))
    sb_nil)
    (sb_one (ss_ret (se_all rfl (by rfl) T.z_all (sl_e (se_sc (sc_comp2 ["value", "width", "rows", "row"] (defScope s_is_long_grid) [("row", 3)] rfl sc_is_long_grid.nd (si_seq (se_var 2)) rfl rfl (by decide +kernel) rfl (fun _ _ _ _ _ => (sg_name 3 sc_is_long_grid.nd rfl (by first | exact Or.inl rfl | exact Or.inr rfl))) (fun _ _ _ _ _ => sts_nil) (fun _ _ _ _ _ => (se_and (se_call (ok_is_long_row T) (hr.mono (by decide)) (by rfl) T.m_is_long_row T.F_is_long_row.kp T.b_is_long_row (sa_cons (sl_var 3) sa_nil)) (se_one (se_eq hr.units (se_len (by rfl) T.z_len (sl_var 3)) (se_var 1))))))))))))))
theorem ok_is_grid (T : Txt K mg) : FnOk P w K mg base CX0 5 T.a_is_grid T.fd_is_grid ["value"] (spM K XR0 1 run_is_grid) := fn_mir T.F_is_grid sc_is_grid (fun _ _ _ _ q => q) fun cdv A outer s H E hr =>
    (sb_one (ss_ret (se_and (se_call (ok_is_long_grid T) (hr.mono (by decide)) (by rfl) T.m_is_long_grid T.F_is_long_grid.kp T.b_is_long_grid (sa_cons (sl_var 0) sa_nil)) (se_one (se_all rfl (by rfl) T.z_all (sl_e (se_sc (sc_comp2 ["value", "row"] (defScope s_is_grid) [("row", 1)] rfl sc_is_grid.nd (si_seq (se_ix (sl_var 0) se_int (fun _ _ => rfl))) rfl rfl (by decide +kernel) rfl (fun _ _ _ _ _ => (sg_name 1 sc_is_grid.nd rfl (by first | exact Or.inl rfl | exact Or.inr rfl))) (fun _ _ _ _ _ => sts_nil) (fun _ _ _ _ _ => (se_call (ok_is_row T) (hr.mono (by decide)) (by rfl) T.m_is_row T.F_is_row.kp T.b_is_row (sa_cons (sl_var 1) sa_nil)))))))))))
theorem okX_check_row (T : Txt K mg) : FnOk P w K mg base (L2.CX P w) 4 T.a_check_row T.fd_check_row ["value"] (spM K (XRT K (ctab T)) 1 run_check_row) := fn_mirX T.F_check_row sc_check_row fun cdv A outer s H E hr tk =>
    (sb_one (ss_if (st_not (st_val (se_callQ (fun _ _ _ _ h => h) (ok_is_row T) (hr.mono (by decide)) (by rfl) T.m_is_row T.F_is_row.kp T.b_is_row (sa_cons (sl_var 0) sa_nil))))
    (sb_one (ss_raise0 rfl tk PySem.F.excBase_ValueError T.q_InvalidRow T.g_InvalidRow T.k_InvalidRow (raises_own T.e_InvalidRow T.y_InvalidRow) (by rfl) rfl se_str))
    sb_nil))
theorem okX_check_grid (T : Txt K mg) : FnOk P w K mg base (L2.CX P w) 6 T.a_check_grid T.fd_check_grid ["value"] (spM K (XRT K (ctab T)) 1 run_check_grid) := fn_mirX T.F_check_grid sc_check_grid fun cdv A outer s H E hr tk =>
    (sb_one (ss_if (st_not (st_val (se_callQ (fun _ _ _ _ h => h) (ok_is_grid T) (hr.mono (by decide)) (by rfl) T.m_is_grid T.F_is_grid.kp T.b_is_grid (sa_cons (sl_var 0) sa_nil))))
    (sb_one (ss_raise0 rfl tk PySem.F.excBase_ValueError T.q_InvalidGrid T.g_InvalidGrid T.k_InvalidGrid (raises_own T.e_InvalidGrid T.y_InvalidGrid) (by rfl) rfl se_str))
    sb_nil))
theorem okX_check_grids (T : Txt K mg) : FnOk P w K mg base (L2.CX P w) 7 T.a_check_grids T.fd_check_grids ["one", "other"] (spM K (XRT K (ctab T)) 2 run_check_grids) := fn_mirX T.F_check_grids sc_check_grids fun cdv A outer s H E hr tk =>
    (sb_cons (ss_drop (se_callX tk (okX_check_grid T) (hr.mono (by decide)) (by rfl) T.m_check_grid T.F_check_grid.kp T.b_check_grid (sa_cons (sl_var 0) sa_nil)))
    (sb_one (ss_drop (se_callX tk (okX_check_grid T) (hr.mono (by decide)) (by rfl) T.m_check_grid T.F_check_grid.kp T.b_check_grid (sa_cons (sl_var 1) sa_nil)))))
theorem okX_check_integer (T : Txt K mg) : FnOk P w K mg base (L2.CX P w) 3 T.a_check_integer T.fd_check_integer ["value"] (spM K (XRT K (ctab T)) 1 run_check_integer) := fn_mirX T.F_check_integer sc_check_integer fun cdv A outer s H E hr tk =>
    (sb_one (ss_if (st_not (st_val (se_callQ (fun _ _ _ _ h => h) (ok_is_integer T) (hr.mono (by decide)) (by rfl) T.m_is_integer T.F_is_integer.kp T.b_is_integer (sa_cons (sl_var 0) sa_nil))))
    (sb_one (ss_raiseF rfl tk T.x_InvalidNumber PySem.OwnEx.fld_given T.g_InvalidNumber hr (by rfl) rfl (se_var 0)))
    sb_nil))
theorem okX_check_between (T : Txt K mg) : FnOk P w K mg base (L2.CX P w) 4 T.a_check_between T.fd_check_between ["value", "least", "greatest"] (spM K (XRT K (ctab T)) 3 run_check_between) := fn_mirX T.F_check_between sc_check_between fun cdv A outer s H E hr tk =>
    (sb_one (ss_if (st_not (st_val (se_callQ (fun _ _ _ _ h => h) (ok_is_between T) (hr.mono (by decide)) (by rfl) T.m_is_between T.F_is_between.kp T.b_is_between (sa_cons (sl_var 0) (sa_cons (sl_var 1) (sa_cons (sl_var 2) sa_nil))))))
    (sb_one (ss_raiseF rfl tk T.x_InvalidNumber PySem.OwnEx.fld_given T.g_InvalidNumber hr (by rfl) rfl (se_var 0)))
    sb_nil))
theorem okX_check_least (T : Txt K mg) : FnOk P w K mg base (L2.CX P w) 3 T.a_check_least T.fd_check_least ["value", "least"] (spM K (XRT K (ctab T)) 2 run_check_least) := fn_mirX T.F_check_least sc_check_least fun cdv A outer s H E hr tk =>
    (sb_one (ss_if (st_w (sw_or (st_not (st_val (se_callQ (fun _ _ _ _ h => h) (ok_is_integer T) (hr.mono (by decide)) (by rfl) T.m_is_integer T.F_is_integer.kp T.b_is_integer (sa_cons (sl_var 0) sa_nil)))) (sw_or1 (st_lt (se_var 0) (se_var 1)))))
    (sb_one (ss_raiseF rfl tk T.x_InvalidNumber PySem.OwnEx.fld_given T.g_InvalidNumber hr (by rfl) rfl (se_var 0)))
    sb_nil))
theorem okX_check_fit (T : Txt K mg) : FnOk P w K mg base (L2.CX P w) 1 T.a_check_fit T.fd_check_fit ["fits", "reason"] (spM K (XRT K (ctab T)) 2 run_check_fit) := fn_mirX T.F_check_fit sc_check_fit fun cdv A outer s H E hr tk =>
    (sb_one (ss_if (st_not (st_val (se_var 0)))
    (sb_one (ss_raise0 rfl tk PySem.F.excBase_ValueError T.q_InvalidOperation T.g_InvalidOperation T.k_InvalidOperation (raises_own T.e_InvalidOperation T.y_InvalidOperation) (by rfl) rfl (se_var 1)))
    sb_nil))
theorem okX_check_rows (T : Txt K mg) : FnOk P w K mg base (L2.CX P w) 5 T.a_check_rows T.fd_check_rows ["one", "other"] (spM K (XRT K (ctab T)) 2 run_check_rows) := fn_mirX T.F_check_rows sc_check_rows fun cdv A outer s H E hr tk =>
    (sb_cons (ss_drop (se_callX tk (okX_check_row T) (hr.mono (by decide)) (by rfl) T.m_check_row T.F_check_row.kp T.b_check_row (sa_cons (sl_var 0) sa_nil)))
    (sb_cons (ss_drop (se_callX tk (okX_check_row T) (hr.mono (by decide)) (by rfl) T.m_check_row T.F_check_row.kp T.b_check_row (sa_cons (sl_var 1) sa_nil)))
    (sb_one (ss_drop (se_callX tk (okX_check_fit T) (hr.mono (by decide)) (by rfl) T.m_check_fit T.F_check_fit.kp T.b_check_fit (sa_cons (sl_e (se_eq hr.units (se_len (by rfl) T.z_len (sl_var 0)) (se_len (by rfl) T.z_len (sl_var 1)))) (sa_cons (sl_e se_str) sa_nil)))))))
theorem okX_dot (T : Txt K mg) : FnOk P w K mg base (L2.CX P w) 6 T.a_dot T.fd_dot ["one", "other"] (spM K (XRT K (ctab T)) 2 run_dot) := fn_mirX T.F_dot sc_dot fun cdv A outer s H E hr tk =>
    (sb_cons (ss_drop (se_callX tk (okX_check_rows T) (hr.mono (by decide)) (by rfl) T.m_check_rows T.F_check_rows.kp T.b_check_rows (sa_cons (sl_var 0) (sa_cons (sl_var 1) sa_nil))))
    (sb_one (ss_ret (se_callQ (fun _ _ _ _ h => h) (ok_plain_dot T) (hr.mono (by decide)) (by rfl) T.m_plain_dot T.F_plain_dot.kp T.b_plain_dot (sa_cons (sl_var 0) (sa_cons (sl_var 1) sa_nil))))))
theorem okX_row_sum (T : Txt K mg) : FnOk P w K mg base (L2.CX P w) 6 T.a_row_sum T.fd_row_sum ["one", "other"] (spM K (XRT K (ctab T)) 2 run_row_sum) := fn_mirX T.F_row_sum sc_row_sum fun cdv A outer s H E hr tk =>
    (sb_cons (ss_drop (se_callX tk (okX_check_rows T) (hr.mono (by decide)) (by rfl) T.m_check_rows T.F_check_rows.kp T.b_check_rows (sa_cons (sl_var 0) (sa_cons (sl_var 1) sa_nil))))
    (sb_one (ss_ret (se_callQ (fun _ _ _ _ h => h) (ok_row_more T) (hr.mono (by decide)) (by rfl) T.m_row_more T.F_row_more.kp T.b_row_more (sa_cons (sl_var 0) (sa_cons (sl_var 1) sa_nil))))))
theorem okX_row_difference (T : Txt K mg) : FnOk P w K mg base (L2.CX P w) 6 T.a_row_difference T.fd_row_difference ["one", "other"] (spM K (XRT K (ctab T)) 2 run_row_difference) := fn_mirX T.F_row_difference sc_row_difference fun cdv A outer s H E hr tk =>
    (sb_cons (ss_drop (se_callX tk (okX_check_rows T) (hr.mono (by decide)) (by rfl) T.m_check_rows T.F_check_rows.kp T.b_check_rows (sa_cons (sl_var 0) (sa_cons (sl_var 1) sa_nil))))
    (sb_one (ss_ret (se_callQ (fun _ _ _ _ h => h) (ok_row_less T) (hr.mono (by decide)) (by rfl) T.m_row_less T.F_row_less.kp T.b_row_less (sa_cons (sl_var 0) (sa_cons (sl_var 1) sa_nil))))))
theorem okX_row_multiple (T : Txt K mg) : FnOk P w K mg base (L2.CX P w) 5 T.a_row_multiple T.fd_row_multiple ["row", "number"] (spM K (XRT K (ctab T)) 2 run_row_multiple) := fn_mirX T.F_row_multiple sc_row_multiple fun cdv A outer s H E hr tk =>
    (sb_cons (ss_drop (se_callX tk (okX_check_row T) (hr.mono (by decide)) (by rfl) T.m_check_row T.F_check_row.kp T.b_check_row (sa_cons (sl_var 0) sa_nil)))
    (sb_cons (ss_drop (se_callX tk (okX_check_integer T) (hr.mono (by decide)) (by rfl) T.m_check_integer T.F_check_integer.kp T.b_check_integer (sa_cons (sl_var 1) sa_nil)))
    (sb_one (ss_ret (se_tuple (by rfl) T.z_tuple (sl_e (se_sc (sc_comp2 ["row", "number", "item"] (defScope s_row_multiple) [("item", 2)] rfl sc_row_multiple.nd (si_seq (se_var 0)) rfl rfl (by decide +kernel) rfl (fun _ _ _ _ _ => (sg_name 2 sc_row_multiple.nd rfl (by first | exact Or.inl rfl | exact Or.inr rfl))) (fun _ _ _ _ _ => sts_nil) (fun _ _ _ _ _ => (se_mulA (se_var 1) (se_var 2)))))))))))
theorem okX_is_nought (T : Txt K mg) : FnOk P w K mg base (L2.CX P w) 4 T.a_is_nought T.fd_is_nought ["value", "modulus"] (spM K (XRT K (ctab T)) 2 run_is_nought) := fn_mirX T.F_is_nought sc_is_nought fun cdv A outer s H E hr tk =>
    (sb_cons (ss_drop (se_callX tk (okX_check_least T) (hr.mono (by decide)) (by rfl) T.m_check_least T.F_check_least.kp T.b_check_least (sa_cons (sl_var 1) (sa_cons (sl_e se_int) sa_nil))))
    (sb_cons (ss_if (st_not (st_val (se_callQ (fun _ _ _ _ h => h) (ok_is_integer T) (hr.mono (by decide)) (by rfl) T.m_is_integer T.F_is_integer.kp T.b_is_integer (sa_cons (sl_var 0) sa_nil))))
    (sb_one (ss_ret se_bl))
    sb_nil)
    (sb_one (ss_ret (se_callQ (fun _ _ _ _ h => h) (ok_is_multiple T) (hr.mono (by decide)) (by rfl) T.m_is_multiple T.F_is_multiple.kp T.b_is_multiple (sa_cons (sl_var 0) (sa_cons (sl_var 1) sa_nil)))))))
theorem okX_shared (T : Txt K mg) : FnOk P w K mg base (L2.CX P w) 4 T.a_shared T.fd_shared ["one", "other"] (spM K (XRT K (ctab T)) 2 run_shared) := fn_mirX T.F_shared sc_shared fun cdv A outer s H E hr tk =>
    (sb_cons (ss_drop (se_callX tk (okX_check_integer T) (hr.mono (by decide)) (by rfl) T.m_check_integer T.F_check_integer.kp T.b_check_integer (sa_cons (sl_var 0) sa_nil)))
    (sb_cons (ss_drop (se_callX tk (okX_check_integer T) (hr.mono (by decide)) (by rfl) T.m_check_integer T.F_check_integer.kp T.b_check_integer (sa_cons (sl_var 1) sa_nil)))
    (sb_one (ss_ret (se_callQ (fun _ _ _ _ h => h) (ok_bezout T) (hr.mono (by decide)) (by rfl) T.m_bezout T.F_bezout.kp T.b_bezout (sa_cons (sl_var 0) (sa_cons (sl_var 1) sa_nil)))))))
theorem okX_unit_grid (T : Txt K mg) : FnOk P w K mg base (L2.CX P w) 5 T.a_unit_grid T.fd_unit_grid ["size"] (spM K (XRT K (ctab T)) 1 run_unit_grid) := fn_mirX T.F_unit_grid sc_unit_grid fun cdv A outer s H E hr tk =>
    (sb_cons (ss_drop (se_callX tk (okX_check_between T) (hr.mono (by decide)) (by rfl) T.m_check_between T.F_check_between.kp T.b_check_between (sa_cons (sl_var 0) (sa_cons (sl_e se_int) (sa_cons (sl_e (se_gint (by rfl) T.c_MAX_SIZE)) sa_nil)))))
    (sb_one (ss_ret (se_callQ (fun _ _ _ _ h => h) (ok_plain_unit T) (hr.mono (by decide)) (by rfl) T.m_plain_unit T.F_plain_unit.kp T.b_plain_unit (sa_cons (sl_var 0) sa_nil)))))
theorem okX_nought_grid (T : Txt K mg) : FnOk P w K mg base (L2.CX P w) 5 T.a_nought_grid T.fd_nought_grid ["height", "width"] (spM K (XRT K (ctab T)) 2 run_nought_grid) := fn_mirX T.F_nought_grid sc_nought_grid fun cdv A outer s H E hr tk =>
    (sb_cons (ss_drop (se_callX tk (okX_check_between T) (hr.mono (by decide)) (by rfl) T.m_check_between T.F_check_between.kp T.b_check_between (sa_cons (sl_var 0) (sa_cons (sl_e se_int) (sa_cons (sl_e (se_gint (by rfl) T.c_MAX_SIZE)) sa_nil)))))
    (sb_cons (ss_drop (se_callX tk (okX_check_between T) (hr.mono (by decide)) (by rfl) T.m_check_between T.F_check_between.kp T.b_check_between (sa_cons (sl_var 1) (sa_cons (sl_e se_int) (sa_cons (sl_e (se_gint (by rfl) T.c_MAX_SIZE)) sa_nil)))))
    (sb_one (ss_ret (se_callQ (fun _ _ _ _ h => h) (ok_plain_nought T) (hr.mono (by decide)) (by rfl) T.m_plain_nought T.F_plain_nought.kp T.b_plain_nought (sa_cons (sl_var 0) (sa_cons (sl_var 1) sa_nil)))))))
theorem okX_turned (T : Txt K mg) : FnOk P w K mg base (L2.CX P w) 7 T.a_turned T.fd_turned ["grid"] (spM K (XRT K (ctab T)) 1 run_turned) := fn_mirX T.F_turned sc_turned fun cdv A outer s H E hr tk =>
    (sb_cons (ss_drop (se_callX tk (okX_check_grid T) (hr.mono (by decide)) (by rfl) T.m_check_grid T.F_check_grid.kp T.b_check_grid (sa_cons (sl_var 0) sa_nil)))
    (sb_one (ss_ret (se_callQ (fun _ _ _ _ h => h) (ok_plain_turned T) (hr.mono (by decide)) (by rfl) T.m_plain_turned T.F_plain_turned.kp T.b_plain_turned (sa_cons (sl_var 0) sa_nil)))))
theorem okX_grid_multiple (T : Txt K mg) : FnOk P w K mg base (L2.CX P w) 7 T.a_grid_multiple T.fd_grid_multiple ["grid", "number"] (spM K (XRT K (ctab T)) 2 run_grid_multiple) := fn_mirX T.F_grid_multiple sc_grid_multiple fun cdv A outer s H E hr tk =>
    (sb_cons (ss_drop (se_callX tk (okX_check_grid T) (hr.mono (by decide)) (by rfl) T.m_check_grid T.F_check_grid.kp T.b_check_grid (sa_cons (sl_var 0) sa_nil)))
    (sb_cons (ss_drop (se_callX tk (okX_check_integer T) (hr.mono (by decide)) (by rfl) T.m_check_integer T.F_check_integer.kp T.b_check_integer (sa_cons (sl_var 1) sa_nil)))
    (sb_one (ss_ret (se_callQ (fun _ _ _ _ h => h) (ok_plain_multiple T) (hr.mono (by decide)) (by rfl) T.m_plain_multiple T.F_plain_multiple.kp T.b_plain_multiple (sa_cons (sl_var 0) (sa_cons (sl_var 1) sa_nil)))))))
theorem okX_check_like (T : Txt K mg) : FnOk P w K mg base (L2.CX P w) 8 T.a_check_like T.fd_check_like ["one", "other"] (spM K (XRT K (ctab T)) 2 run_check_like) := fn_mirX T.F_check_like sc_check_like fun cdv A outer s H E hr tk =>
    (sb_cons (ss_drop (se_callX tk (okX_check_grids T) (hr.mono (by decide)) (by rfl) T.m_check_grids T.F_check_grids.kp T.b_check_grids (sa_cons (sl_var 0) (sa_cons (sl_var 1) sa_nil))))
    (sb_one (ss_drop (se_callX tk (okX_check_fit T) (hr.mono (by decide)) (by rfl) T.m_check_fit T.F_check_fit.kp T.b_check_fit (sa_cons (sl_e (se_and (se_eq hr.units (se_ix (sl_var 0) se_int (fun _ _ => rfl)) (se_ix (sl_var 1) se_int (fun _ _ => rfl))) (se_one (se_eq hr.units (se_len (by rfl) T.z_len (sl_e (se_ix (sl_var 0) se_int (fun _ _ => rfl)))) (se_len (by rfl) T.z_len (sl_e (se_ix (sl_var 1) se_int (fun _ _ => rfl)))))))) (sa_cons (sl_e se_str) sa_nil))))))
theorem okX_grid_sum (T : Txt K mg) : FnOk P w K mg base (L2.CX P w) 9 T.a_grid_sum T.fd_grid_sum ["one", "other"] (spM K (XRT K (ctab T)) 2 run_grid_sum) := fn_mirX T.F_grid_sum sc_grid_sum fun cdv A outer s H E hr tk =>
    (sb_cons (ss_drop (se_callX tk (okX_check_like T) (hr.mono (by decide)) (by rfl) T.m_check_like T.F_check_like.kp T.b_check_like (sa_cons (sl_var 0) (sa_cons (sl_var 1) sa_nil))))
    (sb_one (ss_ret (se_callQ (fun _ _ _ _ h => h) (ok_plain_sum T) (hr.mono (by decide)) (by rfl) T.m_plain_sum T.F_plain_sum.kp T.b_plain_sum (sa_cons (sl_var 0) (sa_cons (sl_var 1) sa_nil))))))
theorem okX_grid_difference (T : Txt K mg) : FnOk P w K mg base (L2.CX P w) 9 T.a_grid_difference T.fd_grid_difference ["one", "other"] (spM K (XRT K (ctab T)) 2 run_grid_difference) := fn_mirX T.F_grid_difference sc_grid_difference fun cdv A outer s H E hr tk =>
    (sb_cons (ss_drop (se_callX tk (okX_check_like T) (hr.mono (by decide)) (by rfl) T.m_check_like T.F_check_like.kp T.b_check_like (sa_cons (sl_var 0) (sa_cons (sl_var 1) sa_nil))))
    (sb_one (ss_ret (se_callQ (fun _ _ _ _ h => h) (ok_plain_difference T) (hr.mono (by decide)) (by rfl) T.m_plain_difference T.F_plain_difference.kp T.b_plain_difference (sa_cons (sl_var 0) (sa_cons (sl_var 1) sa_nil))))))
theorem okX_grid_product (T : Txt K mg) : FnOk P w K mg base (L2.CX P w) 8 T.a_grid_product T.fd_grid_product ["one", "other"] (spM K (XRT K (ctab T)) 2 run_grid_product) := fn_mirX T.F_grid_product sc_grid_product fun cdv A outer s H E hr tk =>
    (sb_cons (ss_drop (se_callX tk (okX_check_grids T) (hr.mono (by decide)) (by rfl) T.m_check_grids T.F_check_grids.kp T.b_check_grids (sa_cons (sl_var 0) (sa_cons (sl_var 1) sa_nil))))
    (sb_cons (ss_drop (se_callX tk (okX_check_fit T) (hr.mono (by decide)) (by rfl) T.m_check_fit T.F_check_fit.kp T.b_check_fit (sa_cons (sl_e (se_eq hr.units (se_ix (sl_var 0) se_int (fun _ _ => rfl)) (se_len (by rfl) T.z_len (sl_e (se_ix (sl_var 1) se_int (fun _ _ => rfl)))))) (sa_cons (sl_e se_str) sa_nil))))
    (sb_one (ss_ret (se_callQ (fun _ _ _ _ h => h) (ok_plain_product T) (hr.mono (by decide)) (by rfl) T.m_plain_product T.F_plain_product.kp T.b_plain_product (sa_cons (sl_var 0) (sa_cons (sl_var 1) sa_nil)))))))
theorem okX_check_most (T : Txt K mg) : FnOk P w K mg base (L2.CX P w) 1 T.a_check_most T.fd_check_most ["size"] (spM K (XRT K (ctab T)) 1 run_check_most) := fn_mirX T.F_check_most sc_check_most fun cdv A outer s H E hr tk =>
    (sb_one (ss_if (st_gt (se_var 0) (se_gint (by rfl) T.c_MAX_SIZE))
    (sb_one (ss_raiseF rfl tk T.x_TooMany PySem.OwnEx.fld_most T.g_TooMany hr (by rfl) rfl (se_gint (by rfl) T.c_MAX_SIZE)))
    sb_nil))
theorem okX_beside (T : Txt K mg) : FnOk P w K mg base (L2.CX P w) 8 T.a_beside T.fd_beside ["one", "other"] (spM K (XRT K (ctab T)) 2 run_beside) := fn_mirX T.F_beside sc_beside fun cdv A outer s H E hr tk =>
    (sb_cons (ss_drop (se_callX tk (okX_check_grids T) (hr.mono (by decide)) (by rfl) T.m_check_grids T.F_check_grids.kp T.b_check_grids (sa_cons (sl_var 0) (sa_cons (sl_var 1) sa_nil))))
    (sb_cons (ss_drop (se_callX tk (okX_check_fit T) (hr.mono (by decide)) (by rfl) T.m_check_fit T.F_check_fit.kp T.b_check_fit (sa_cons (sl_e (se_eq hr.units (se_len (by rfl) T.z_len (sl_e (se_ix (sl_var 0) se_int (fun _ _ => rfl)))) (se_len (by rfl) T.z_len (sl_e (se_ix (sl_var 1) se_int (fun _ _ => rfl)))))) (sa_cons (sl_e se_str) sa_nil))))
    (sb_cons (ss_drop (se_callX tk (okX_check_most T) (hr.mono (by decide)) (by rfl) T.m_check_most T.F_check_most.kp T.b_check_most (sa_cons (sl_e (se_add (se_ix (sl_var 0) se_int (fun _ _ => rfl)) (se_ix (sl_var 1) se_int (fun _ _ => rfl)))) sa_nil)))
    (sb_one (ss_ret (se_callQ (fun _ _ _ _ h => h) (ok_plain_beside T) (hr.mono (by decide)) (by rfl) T.m_plain_beside T.F_plain_beside.kp T.b_plain_beside (sa_cons (sl_var 0) (sa_cons (sl_var 1) sa_nil))))))))
theorem okX_over (T : Txt K mg) : FnOk P w K mg base (L2.CX P w) 8 T.a_over T.fd_over ["one", "other"] (spM K (XRT K (ctab T)) 2 run_over) := fn_mirX T.F_over sc_over fun cdv A outer s H E hr tk =>
    (sb_cons (ss_drop (se_callX tk (okX_check_grids T) (hr.mono (by decide)) (by rfl) T.m_check_grids T.F_check_grids.kp T.b_check_grids (sa_cons (sl_var 0) (sa_cons (sl_var 1) sa_nil))))
    (sb_cons (ss_drop (se_callX tk (okX_check_fit T) (hr.mono (by decide)) (by rfl) T.m_check_fit T.F_check_fit.kp T.b_check_fit (sa_cons (sl_e (se_eq hr.units (se_ix (sl_var 0) se_int (fun _ _ => rfl)) (se_ix (sl_var 1) se_int (fun _ _ => rfl)))) (sa_cons (sl_e se_str) sa_nil))))
    (sb_cons (ss_drop (se_callX tk (okX_check_most T) (hr.mono (by decide)) (by rfl) T.m_check_most T.F_check_most.kp T.b_check_most (sa_cons (sl_e (se_add (se_len (by rfl) T.z_len (sl_e (se_ix (sl_var 0) se_int (fun _ _ => rfl)))) (se_len (by rfl) T.z_len (sl_e (se_ix (sl_var 1) se_int (fun _ _ => rfl)))))) sa_nil)))
    (sb_one (ss_ret (se_tup (sd_cons (se_ix (sl_var 0) se_int (fun _ _ => rfl)) (sd_cons (se_add (se_ix (sl_var 0) se_int (fun _ _ => rfl)) (se_ix (sl_var 1) se_int (fun _ _ => rfl))) sd_nil))))))))
theorem okX_led (T : Txt K mg) : FnOk P w K mg base (L2.CX P w) 7 T.a_led T.fd_led ["grid", "row"] (spM K (XRT K (ctab T)) 2 run_led) := fn_mirX T.F_led sc_led fun cdv A outer s H E hr tk =>
    (sb_cons (ss_drop (se_callX tk (okX_check_grid T) (hr.mono (by decide)) (by rfl) T.m_check_grid T.F_check_grid.kp T.b_check_grid (sa_cons (sl_var 0) sa_nil)))
    (sb_cons (ss_drop (se_callX tk (okX_check_row T) (hr.mono (by decide)) (by rfl) T.m_check_row T.F_check_row.kp T.b_check_row (sa_cons (sl_var 1) sa_nil)))
    (sb_cons (ss_drop (se_callX tk (okX_check_fit T) (hr.mono (by decide)) (by rfl) T.m_check_fit T.F_check_fit.kp T.b_check_fit (sa_cons (sl_e (se_eq hr.units (se_len (by rfl) T.z_len (sl_var 1)) (se_ix (sl_var 0) se_int (fun _ _ => rfl)))) (sa_cons (sl_e se_str) sa_nil))))
    (sb_one (ss_ret (se_callQ (fun _ _ _ _ h => h) (ok_plain_led T) (hr.mono (by decide)) (by rfl) T.m_plain_led T.F_plain_led.kp T.b_plain_led (sa_cons (sl_var 0) (sa_cons (sl_var 1) sa_nil))))))))
theorem okX_read_by (T : Txt K mg) : FnOk P w K mg base (L2.CX P w) 7 T.a_read_by T.fd_read_by ["row", "grid"] (spM K (XRT K (ctab T)) 2 run_read_by) := fn_mirX T.F_read_by sc_read_by fun cdv A outer s H E hr tk =>
    (sb_cons (ss_drop (se_callX tk (okX_check_row T) (hr.mono (by decide)) (by rfl) T.m_check_row T.F_check_row.kp T.b_check_row (sa_cons (sl_var 0) sa_nil)))
    (sb_cons (ss_drop (se_callX tk (okX_check_grid T) (hr.mono (by decide)) (by rfl) T.m_check_grid T.F_check_grid.kp T.b_check_grid (sa_cons (sl_var 1) sa_nil)))
    (sb_cons (ss_drop (se_callX tk (okX_check_fit T) (hr.mono (by decide)) (by rfl) T.m_check_fit T.F_check_fit.kp T.b_check_fit (sa_cons (sl_e (se_eq hr.units (se_len (by rfl) T.z_len (sl_var 0)) (se_len (by rfl) T.z_len (sl_e (se_ix (sl_var 1) se_int (fun _ _ => rfl)))))) (sa_cons (sl_e se_str) sa_nil))))
    (sb_one (ss_ret (se_callQ (fun _ _ _ _ h => h) (ok_plain_read T) (hr.mono (by decide)) (by rfl) T.m_plain_read T.F_plain_read.kp T.b_plain_read (sa_cons (sl_var 0) (sa_cons (sl_var 1) sa_nil))))))))
theorem okC_law_hat (T : Txt K mg) : FnOk P w K mg base CX0 1 T.a_law_hat T.fd_law_hat ["script", "spot"] (spC K XR0 2 runC_law_hat) := fn_mirC T.F_law_hat sc_law_hat (fun _ _ _ _ q => q) fun cdv A outer s H E hr =>
    (sb_cons (ss_set 2 sc_law_hat.nd rfl (by first | exact Or.inl rfl | exact Or.inr rfl) (se_if (st_lt (se_var 1) (se_len (by rfl) T.z_len (sl_var 0))) (se_int1 (by rfl) T.z_int (sl_e (se_ix (sl_var 0) (se_var 1) (fun _ _ => rfl)))) (se_add (se_mulA se_int (se_var 1)) se_int)))
    (sb_cons (ss_set 3 sc_law_hat.nd rfl (by first | exact Or.inl rfl | exact Or.inr rfl) (se_mod (se_int1 (by rfl) T.z_int (sl_e (se_abs (by rfl) T.z_abs (sl_var 2)))) (se_pow (se_pow se_int se_int) se_int)))
    (sb_cons (ss_set 4 sc_law_hat.nd rfl (by first | exact Or.inl rfl | exact Or.inr rfl) (se_int1 (by rfl) T.z_int (sl_e (se_add (se_add (se_add (se_mulA (se_mod (se_var 3) se_int) se_int) (se_mulA se_int (se_var 1))) (se_mulA se_int (se_int1 (by rfl) T.z_int (sl_e (se_lt (se_var 2) se_int))))) se_int))))
    (sb_one (ss_retC (sc_lst (sd_cons (se_max2 rfl (by rfl) T.z_max se_int (se_sub (se_var 3) (se_pow se_int se_int))) (sd_cons (se_mod (se_var 4) se_int) (sd_cons se_int sd_nil)))))))))
theorem ok_law_up_to (T : Txt K mg) : FnOk P w K mg base CX0 1 T.a_law_up_to T.fd_law_up_to ["hat", "total"] (spM K XR0 2 run_law_up_to) := fn_mir T.F_law_up_to sc_law_up_to (fun _ _ _ _ q => q) fun cdv A outer s H E hr =>
    (sb_cons (ss_if (st_gt (se_ix (sl_var 0) se_int (fun _ _ => rfl)) se_int)
    (sb_cons (ss_set 2 sc_law_up_to.nd rfl (by first | exact Or.inl rfl | exact Or.inr rfl) (se_mod (se_int1 (by rfl) T.z_int (sl_e (se_ix (sl_var 0) se_int (fun _ _ => rfl)))) (se_var 1)))
    (sb_cons (ss_put (se_fdiv (se_ix (sl_var 0) se_int (fun _ _ => rfl)) (se_var 1)) (sl_var 0) se_int (fun _ _ p q => ⟨_, pg_sub p q set_list, fun _ _ _ _ h => h⟩))
    (sb_one (ss_ret (se_var 2)))))
    sb_nil)
    (sb_cons (ss_put (se_add (se_ix (sl_var 0) se_int (fun _ _ => rfl)) se_int) (sl_var 0) se_int (fun _ _ p q => ⟨_, pg_sub p q set_list, fun _ _ _ _ h => h⟩))
    (sb_cons (ss_set 3 sc_law_up_to.nd rfl (by first | exact Or.inl rfl | exact Or.inr rfl) (se_mod (se_int1 (by rfl) T.z_int (sl_e (se_add (se_ix (sl_var 0) se_int (fun _ _ => rfl)) (se_mulA se_int (se_ix (sl_var 0) se_int (fun _ _ => rfl)))))) se_int))
    (sb_cons (ss_set 4 sc_law_up_to.nd rfl (by first | exact Or.inl rfl | exact Or.inr rfl) (se_add (se_add (se_mulA (se_mod (se_int1 (by rfl) T.z_int (sl_e (se_add (se_mulA (se_var 3) (se_var 3)) se_int))) se_int) se_int) (se_var 3)) (se_mulA se_int (se_ix (sl_var 0) se_int (fun _ _ => rfl)))))
    (sb_one (ss_ret (se_mod (se_int1 (by rfl) T.z_int (sl_e (se_fdiv (se_var 4) se_int))) (se_var 1))))))))
theorem ok_law_out_of (T : Txt K mg) : FnOk P w K mg base CX0 2 T.a_law_out_of T.fd_law_out_of ["hat", "items"] (spM K XR0 2 run_law_out_of) := fn_mir T.F_law_out_of sc_law_out_of (fun _ _ _ _ q => q) fun cdv A outer s H E hr =>
    (sb_one (ss_ret (se_ix (sl_var 1) (se_call (ok_law_up_to T) (hr.mono (by decide)) (by rfl) T.m_law_up_to T.F_law_up_to.kp T.b_law_up_to (sa_cons (sl_var 0) (sa_cons (sl_e (se_len (by rfl) T.z_len (sl_var 1))) sa_nil))) (fun _ _ => rfl))))
structure TbOk {K : PySem.W.Frag} {mg : Str → Option Value} (T : Txt K mg) (base : Heap) : Prop where
  fs : Mir.Tb.fs = [T.a_grid_sum, T.a_grid_difference, T.a_grid_product, T.a_beside, T.a_over, T.a_dot, T.a_row_sum, T.a_row_difference]
  l : Mir.Tb.l = [(T.P_law_grids_right, (envOfC "_law_grids_right" (defScope s_law_grids_right) 0 0 .none).qual ++ Str.ofString "<lambda>"), (T.P_law_rows_right, (envOfC "_law_rows_right" (defScope s_law_rows_right) 0 0 .none).qual ++ Str.ofString "<lambda>"), (T.P_law, (envOfC "law" (defScope s_law) 0 0 .none).qual ++ Str.ofString "<lambda>")]
  b_law_grids_right : LamX.TabB base mg T.cc_law_grids_right T.P_law_grids_right
  b_law_rows_right : LamX.TabB base mg T.cc_law_rows_right T.P_law_rows_right
  b_law : LamX.TabB base mg T.cc_law T.P_law
theorem hu_law_grids_right {K : PySem.W.Frag} {mg : Str → Option Value} {base : Heap} (T : Txt K mg) (tb : TbOk T base) : ∀ p ∈ Mir.Tb.l, p.1 = T.P_law_grids_right → p.2 = (envOfC "_law_grids_right" (defScope s_law_grids_right) 0 0 .none).qual ++ Str.ofString "<lambda>" := by
  rw [tb.l]
  intro p hm e
  simp only [List.mem_cons, List.not_mem_nil, or_false] at hm
  rcases hm with rfl | rfl | rfl
  · rfl
  · exact absurd e.symm T.d_law_grids_right_law_rows_right
  · exact absurd e.symm T.d_law_grids_right_law
theorem hu_law_rows_right {K : PySem.W.Frag} {mg : Str → Option Value} {base : Heap} (T : Txt K mg) (tb : TbOk T base) : ∀ p ∈ Mir.Tb.l, p.1 = T.P_law_rows_right → p.2 = (envOfC "_law_rows_right" (defScope s_law_rows_right) 0 0 .none).qual ++ Str.ofString "<lambda>" := by
  rw [tb.l]
  intro p hm e
  simp only [List.mem_cons, List.not_mem_nil, or_false] at hm
  rcases hm with rfl | rfl | rfl
  · exact absurd e T.d_law_grids_right_law_rows_right
  · rfl
  · exact absurd e.symm T.d_law_rows_right_law
theorem hu_law {K : PySem.W.Frag} {mg : Str → Option Value} {base : Heap} (T : Txt K mg) (tb : TbOk T base) : ∀ p ∈ Mir.Tb.l, p.1 = T.P_law → p.2 = (envOfC "law" (defScope s_law) 0 0 .none).qual ++ Str.ofString "<lambda>" := by
  rw [tb.l]
  intro p hm e
  simp only [List.mem_cons, List.not_mem_nil, or_false] at hm
  rcases hm with rfl | rfl | rfl
  · exact absurd e T.d_law_grids_right_law
  · exact absurd e T.d_law_rows_right_law
  · rfl
theorem has_fs (T : Txt K mg) (tb : TbOk T base) : ∀ (i : Nat) (F : MF), tblF[i]? = some F → ∃ (f : Addr) (fd : FuncData) (ps : List Str), Mir.Tb.fs[i]? = some f ∧ PySem.W.keepIn K (.ref f) = true ∧ Binds K fd ps [] ∧ FnOk P w K mg base (L2.CX P w) 9 f fd ps (spM K (XRT K (ctab T)) 2 F)
  | 0, _, h => by
    cases (show some run_grid_sum = some _ from h)
    exact ⟨T.a_grid_sum, T.fd_grid_sum, _, by rw [tb.fs]; rfl, T.F_grid_sum.kp, T.b_grid_sum, fnok_up (okX_grid_sum T) (by decide)⟩
  | 1, _, h => by
    cases (show some run_grid_difference = some _ from h)
    exact ⟨T.a_grid_difference, T.fd_grid_difference, _, by rw [tb.fs]; rfl, T.F_grid_difference.kp, T.b_grid_difference, fnok_up (okX_grid_difference T) (by decide)⟩
  | 2, _, h => by
    cases (show some run_grid_product = some _ from h)
    exact ⟨T.a_grid_product, T.fd_grid_product, _, by rw [tb.fs]; rfl, T.F_grid_product.kp, T.b_grid_product, fnok_up (okX_grid_product T) (by decide)⟩
  | 3, _, h => by
    cases (show some run_beside = some _ from h)
    exact ⟨T.a_beside, T.fd_beside, _, by rw [tb.fs]; rfl, T.F_beside.kp, T.b_beside, fnok_up (okX_beside T) (by decide)⟩
  | 4, _, h => by
    cases (show some run_over = some _ from h)
    exact ⟨T.a_over, T.fd_over, _, by rw [tb.fs]; rfl, T.F_over.kp, T.b_over, fnok_up (okX_over T) (by decide)⟩
  | 5, _, h => by
    cases (show some run_dot = some _ from h)
    exact ⟨T.a_dot, T.fd_dot, _, by rw [tb.fs]; rfl, T.F_dot.kp, T.b_dot, fnok_up (okX_dot T) (by decide)⟩
  | 6, _, h => by
    cases (show some run_row_sum = some _ from h)
    exact ⟨T.a_row_sum, T.fd_row_sum, _, by rw [tb.fs]; rfl, T.F_row_sum.kp, T.b_row_sum, fnok_up (okX_row_sum T) (by decide)⟩
  | 7, _, h => by
    cases (show some run_row_difference = some _ from h)
    exact ⟨T.a_row_difference, T.fd_row_difference, _, by rw [tb.fs]; rfl, T.F_row_difference.kp, T.b_row_difference, fnok_up (okX_row_difference T) (by decide)⟩
  | n + 8, _, h => by cases (show none = some _ from h)
def hds {K : PySem.W.Frag} {mg : Str → Option Value} (T : Txt K mg) : List Hd := [⟨"InvalidGrid", T.A_InvalidGrid, [Str.ofString "refused", Str.ofString "grid"], none⟩, ⟨"InvalidRow", T.A_InvalidRow, [Str.ofString "refused", Str.ofString "row"], none⟩, ⟨"InvalidOperation", T.A_InvalidOperation, [Str.ofString "refused", Str.ofString "fit"], none⟩, ⟨"InvalidNumber", T.A_InvalidNumber, [Str.ofString "refused", Str.ofString "number"], some (Str.ofString "given")⟩, ⟨"TooMany", T.A_TooMany, [Str.ofString "refused", Str.ofString "many"], some (Str.ofString "most")⟩]
theorem ctab_in {K : PySem.W.Frag} {mg : Str → Option Value} (T : Txt K mg) {c : String} {C : Addr} {fo : Option Str} (h : ctab T c = some (C, fo)) : (c = "InvalidGrid" ∧ C = T.A_InvalidGrid ∧ fo = none) ∨ (c = "InvalidNumber" ∧ C = T.A_InvalidNumber ∧ fo = some (Str.ofString "given")) ∨ (c = "InvalidOperation" ∧ C = T.A_InvalidOperation ∧ fo = none) ∨ (c = "InvalidRow" ∧ C = T.A_InvalidRow ∧ fo = none) ∨ (c = "TooMany" ∧ C = T.A_TooMany ∧ fo = some (Str.ofString "most")) := by
  unfold ctab at h
  repeat' split at h
  · cases h
    exact Or.inl ⟨by assumption, rfl, rfl⟩
  · cases h
    exact Or.inr (Or.inl ⟨by assumption, rfl, rfl⟩)
  · cases h
    exact Or.inr (Or.inr (Or.inl ⟨by assumption, rfl, rfl⟩))
  · cases h
    exact Or.inr (Or.inr (Or.inr (Or.inl ⟨by assumption, rfl, rfl⟩)))
  · cases h
    exact Or.inr (Or.inr (Or.inr (Or.inr (⟨by assumption, rfl, rfl⟩))))
  · cases h
theorem met_h1 {K : PySem.W.Frag} {mg : Str → Option Value} (T : Txt K mg) : ∀ h ∈ hds T, ∀ c C fo, ctab T c = some (C, fo) → PySem.W.exmOne K (.ref C) (.ref h.at_) = some (subT c h.cls) := by
  intro h hm c C fo e
  simp only [hds, List.mem_cons, List.not_mem_nil, or_false] at hm
  rcases hm with rfl | rfl | rfl | rfl | rfl <;> rcases ctab_in T e with ⟨rfl, rfl, rfl⟩ | ⟨rfl, rfl, rfl⟩ | ⟨rfl, rfl, rfl⟩ | ⟨rfl, rfl, rfl⟩ | ⟨rfl, rfl, rfl⟩
  · exact T.e_InvalidGrid_InvalidGrid.trans (show _ = some (subT "InvalidGrid" "InvalidGrid") from by decide)
  · exact T.e_InvalidNumber_InvalidGrid.trans (show _ = some (subT "InvalidNumber" "InvalidGrid") from by decide)
  · exact T.e_InvalidOperation_InvalidGrid.trans (show _ = some (subT "InvalidOperation" "InvalidGrid") from by decide)
  · exact T.e_InvalidRow_InvalidGrid.trans (show _ = some (subT "InvalidRow" "InvalidGrid") from by decide)
  · exact T.e_TooMany_InvalidGrid.trans (show _ = some (subT "TooMany" "InvalidGrid") from by decide)
  · exact T.e_InvalidGrid_InvalidRow.trans (show _ = some (subT "InvalidGrid" "InvalidRow") from by decide)
  · exact T.e_InvalidNumber_InvalidRow.trans (show _ = some (subT "InvalidNumber" "InvalidRow") from by decide)
  · exact T.e_InvalidOperation_InvalidRow.trans (show _ = some (subT "InvalidOperation" "InvalidRow") from by decide)
  · exact T.e_InvalidRow_InvalidRow.trans (show _ = some (subT "InvalidRow" "InvalidRow") from by decide)
  · exact T.e_TooMany_InvalidRow.trans (show _ = some (subT "TooMany" "InvalidRow") from by decide)
  · exact T.e_InvalidGrid_InvalidOperation.trans (show _ = some (subT "InvalidGrid" "InvalidOperation") from by decide)
  · exact T.e_InvalidNumber_InvalidOperation.trans (show _ = some (subT "InvalidNumber" "InvalidOperation") from by decide)
  · exact T.e_InvalidOperation_InvalidOperation.trans (show _ = some (subT "InvalidOperation" "InvalidOperation") from by decide)
  · exact T.e_InvalidRow_InvalidOperation.trans (show _ = some (subT "InvalidRow" "InvalidOperation") from by decide)
  · exact T.e_TooMany_InvalidOperation.trans (show _ = some (subT "TooMany" "InvalidOperation") from by decide)
  · exact T.e_InvalidGrid_InvalidNumber.trans (show _ = some (subT "InvalidGrid" "InvalidNumber") from by decide)
  · exact T.e_InvalidNumber_InvalidNumber.trans (show _ = some (subT "InvalidNumber" "InvalidNumber") from by decide)
  · exact T.e_InvalidOperation_InvalidNumber.trans (show _ = some (subT "InvalidOperation" "InvalidNumber") from by decide)
  · exact T.e_InvalidRow_InvalidNumber.trans (show _ = some (subT "InvalidRow" "InvalidNumber") from by decide)
  · exact T.e_TooMany_InvalidNumber.trans (show _ = some (subT "TooMany" "InvalidNumber") from by decide)
  · exact T.e_InvalidGrid_TooMany.trans (show _ = some (subT "InvalidGrid" "TooMany") from by decide)
  · exact T.e_InvalidNumber_TooMany.trans (show _ = some (subT "InvalidNumber" "TooMany") from by decide)
  · exact T.e_InvalidOperation_TooMany.trans (show _ = some (subT "InvalidOperation" "TooMany") from by decide)
  · exact T.e_InvalidRow_TooMany.trans (show _ = some (subT "InvalidRow" "TooMany") from by decide)
  · exact T.e_TooMany_TooMany.trans (show _ = some (subT "TooMany" "TooMany") from by decide)
theorem met_h2 {K : PySem.W.Frag} {mg : Str → Option Value} (T : Txt K mg) : ∀ h ∈ hds T, ∀ f, h.fld = some f → ∀ c C fo, ctab T c = some (C, fo) → subT c h.cls = true → C = h.at_ ∧ fo = some f := by
  intro h hm f hf c C fo e hs
  simp only [hds, List.mem_cons, List.not_mem_nil, or_false] at hm
  rcases hm with rfl | rfl | rfl | rfl | rfl
  · cases hf
  · cases hf
  · cases hf
  · cases hf
    rcases ctab_in T e with ⟨rfl, rfl, rfl⟩ | ⟨rfl, rfl, rfl⟩ | ⟨rfl, rfl, rfl⟩ | ⟨rfl, rfl, rfl⟩ | ⟨rfl, rfl, rfl⟩
    · exact absurd hs (show ¬ subT "InvalidGrid" "InvalidNumber" = true from by decide)
    · exact ⟨rfl, rfl⟩
    · exact absurd hs (show ¬ subT "InvalidOperation" "InvalidNumber" = true from by decide)
    · exact absurd hs (show ¬ subT "InvalidRow" "InvalidNumber" = true from by decide)
    · exact absurd hs (show ¬ subT "TooMany" "InvalidNumber" = true from by decide)
  · cases hf
    rcases ctab_in T e with ⟨rfl, rfl, rfl⟩ | ⟨rfl, rfl, rfl⟩ | ⟨rfl, rfl, rfl⟩ | ⟨rfl, rfl, rfl⟩ | ⟨rfl, rfl, rfl⟩
    · exact absurd hs (show ¬ subT "InvalidGrid" "TooMany" = true from by decide)
    · exact absurd hs (show ¬ subT "InvalidNumber" "TooMany" = true from by decide)
    · exact absurd hs (show ¬ subT "InvalidOperation" "TooMany" = true from by decide)
    · exact absurd hs (show ¬ subT "InvalidRow" "TooMany" = true from by decide)
    · exact ⟨rfl, rfl⟩
theorem se_met1 {X : Cx} {XR' : XRel} {E : XK} {fb : ME} {k : Nat} {c P : Addr} {params : Arguments} {body : Expr} {scope : Scope} {p lpos pos : Pos} (T : Txt X.K X.mg) (hgd : X.A.guards = some []) (hg : Gl X "_law_met") (TB : LamX.TabB X.base X.mg c P) (hcode : X.env.code = .ref c) (hmT : (P, lamN X) ∈ Mir.Tb.l) (hu : ∀ p ∈ Mir.Tb.l, p.1 = P → p.2 = lamN X)
    (hr : Room (k + 2) X.A) (L : LamX.LamS X.env.scope scope) (hdef : defaultsOf params X.env = ([], [])) (hbind : ∀ (q : Str) (cl : List (Str × Addr)) (pm cv ctv : Value), bindArgs (PySem.W.kla_fn (Str.ofString "<lambda>") q params body scope cl pm cv ctv) ⟨[], []⟩ = pure [])
    (hfb : ∀ (A : Around) (outer : List PySem.Env) (s : Shared) (H : Hp) (E' : XK) (f c' : Addr), Room k (A.deeper (LamX.lamEnv X scope s.heap.objs.size f c')) → Takes (LamX.lamCx X A outer s H E' scope f c') (eW E') → SE (LamX.lamCx X A outer s H E' scope f c') (XRT X.K (ctab T)) E' body fb) :
    SE X XR' E (.Call (.Name "_law_met" p) [.Lambda params body scope lpos] [] pos) (eMetP subT hdsP letsT fb) := by
  have hu2 : ∀ (cdg : Value) (s : Shared) (H : Hp), (cxOf C8.CX0 X.prog X.w X.K X.mg X.base ["call", "error"] "_law_met" (defScope s_law_met) T.a_law_met cdg X.A X.stack s H C8.E0).nox.A.units + 200 < cLine := fun cdg s H => (hr.deeper (k := k + 1) _).u200
  have h := se_met (XR' := XR') (E := E) (ct := ctab T) (sub := subT) (hs := hds T) (lets := letsT) (st := s_law_met) (p := p) (pos := pos) (lpos := lpos) T.F_law_met sc_law_met rfl rfl (by first | exact Or.inl rfl | exact Or.inr (Or.inl rfl) | exact Or.inr (Or.inr rfl)) (by decide)
    (fun cdg s H => by
      have hu := hu2 cdg s H
      exact (hd_no (h := ⟨"InvalidGrid", T.A_InvalidGrid, [Str.ofString "refused", Str.ofString "grid"], none⟩) ⟨by rfl, by decide, Or.inl T.g_InvalidGrid⟩ rfl (fun _ _ _ => (pa_cons pe_str (pa_cons pe_str pa_nil)))
    (hd_no (h := ⟨"InvalidRow", T.A_InvalidRow, [Str.ofString "refused", Str.ofString "row"], none⟩) ⟨by rfl, by decide, Or.inl T.g_InvalidRow⟩ rfl (fun _ _ _ => (pa_cons pe_str (pa_cons pe_str pa_nil)))
    (hd_no (h := ⟨"InvalidOperation", T.A_InvalidOperation, [Str.ofString "refused", Str.ofString "fit"], none⟩) ⟨by rfl, by decide, Or.inl T.g_InvalidOperation⟩ rfl (fun _ _ _ => (pa_cons pe_str (pa_cons pe_str pa_nil)))
    (hd_as (h := ⟨"InvalidNumber", T.A_InvalidNumber, [Str.ofString "refused", Str.ofString "number"], some (Str.ofString "given")⟩) ⟨by rfl, by decide, Or.inl T.g_InvalidNumber⟩ rfl rfl rfl (fun a oe cls d pn z hf => (pa_cons pe_str (pa_cons pe_str (pa_cons (xf_repr T.xf_InvalidNumber T.x_InvalidNumber.no z hf (pv 1) hgd hu (by rfl) T.z_repr) pa_nil))))
    (hd_as (h := ⟨"TooMany", T.A_TooMany, [Str.ofString "refused", Str.ofString "many"], some (Str.ofString "most")⟩) ⟨by rfl, by decide, Or.inl T.g_TooMany⟩ rfl rfl rfl (fun a oe cls d pn z hf => (pa_cons pe_str (pa_cons pe_str (pa_cons (xf_repr T.xf_TooMany T.x_TooMany.no z hf (pv 1) hgd hu (by rfl) T.z_repr) pa_nil))))
    HdsMix.nil)))))) (fun cdg s H => (pa_cons pe_str pa_nil))
    (by intro h hm; simp only [hds, List.mem_cons, List.not_mem_nil, or_false] at hm; rcases hm with rfl | rfl | rfl | rfl | rfl <;> first | exact (show (2 : Nat) ≤ 100 from by decide) | exact (show (1 : Nat) ≤ 100 from by decide) | exact (show (0 : Nat) ≤ 100 from by decide) | exact (show (3 : Nat) ≤ 100 from by decide)) (by decide) (met_h1 T) (met_h2 T) hg T.m_law_met T.F_law_met.kp T.b_law_met TB hcode hmT hu hr L hdef hbind hfb
  rw [eMetP_eq] at h
  exact h
theorem okG_law_grids_right (T : Txt K mg) (tb : TbOk T base) : FnG P w K mg base CX0 12 T.a_law_grids_right T.fd_law_grids_right ["hat"] (spM K XR0 1 run_law_grids_right) := fn_mirGC T.C_law_grids_right sc_law_grids_right (fun _ _ _ _ q => q) fun A outer s H E hgd hr =>
    (sb_cons (ss_set 1 sc_law_grids_right.nd rfl (by first | exact Or.inl rfl | exact Or.inr rfl) (se_call (ok_law_out_of T) (hr.mono (by decide)) (by rfl) T.m_law_out_of T.F_law_out_of.kp T.b_law_out_of (sa_cons (sl_var 0) (sa_cons (sl_e (se_sc (sc_lst (sd_cons se_non (sd_cons se_int (sd_cons (se_tup sd_nil) (sd_cons (se_tup (sd_cons se_int sd_nil)) (sd_cons (se_tup (sd_cons se_int (sd_cons (se_tup (sd_cons (se_tup (sd_cons se_int sd_nil)) sd_nil)) sd_nil))) (sd_cons (se_sc (sc_lst (sd_cons se_int (sd_cons (se_tup (sd_cons (se_tup (sd_cons se_int sd_nil)) sd_nil)) sd_nil)))) (sd_cons (se_tup (sd_cons se_int (sd_cons (se_sc (sc_lst (sd_cons (se_tup (sd_cons se_int sd_nil)) sd_nil))) sd_nil))) (sd_cons (se_tup (sd_cons se_int (sd_cons (se_tup (sd_cons (se_tup (sd_cons se_bl sd_nil)) sd_nil)) sd_nil))) (sd_cons (se_tup (sd_cons se_int (sd_cons (se_tup sd_nil) sd_nil))) (sd_cons (se_tup (sd_cons se_int (sd_cons (se_tup (sd_cons (se_tup (sd_cons (se_pow se_int se_int) sd_nil)) sd_nil)) sd_nil))) (sd_cons (se_tup (sd_cons (se_neg se_int) (sd_cons (se_tup sd_nil) sd_nil))) (sd_cons (se_tup (sd_cons se_int (sd_cons (se_tup (sd_cons (se_tup (sd_cons se_int sd_nil)) sd_nil)) (sd_cons (se_tup sd_nil) sd_nil)))) sd_nil))))))))))))))) sa_nil))))
    (sb_cons (ss_set 2 sc_law_grids_right.nd rfl (by first | exact Or.inl rfl | exact Or.inr rfl) (se_call (ok_law_out_of T) (hr.mono (by decide)) (by rfl) T.m_law_out_of T.F_law_out_of.kp T.b_law_out_of (sa_cons (sl_var 0) (sa_cons (sl_e (se_sc (sc_lst (sd_cons se_non (sd_cons se_int (sd_cons (se_sc (sc_lst (sd_cons se_int sd_nil))) (sd_cons (se_tup (sd_cons se_bl sd_nil)) (sd_cons (se_tup (sd_cons (se_pow se_int se_int) sd_nil)) (sd_cons (se_tup (sd_cons se_str sd_nil)) (sd_cons (se_mulA (se_tup (sd_cons se_int sd_nil)) se_int) (sd_cons (se_tup (sd_cons (se_tup (sd_cons se_int sd_nil)) sd_nil)) (sd_cons se_dict0 sd_nil)))))))))))) sa_nil))))
    (sb_cons (ss_set 3 sc_law_grids_right.nd rfl (by first | exact Or.inl rfl | exact Or.inr rfl) (se_call (ok_law_out_of T) (hr.mono (by decide)) (by rfl) T.m_law_out_of T.F_law_out_of.kp T.b_law_out_of (sa_cons (sl_var 0) (sa_cons (sl_e (se_sc (sc_lst (sd_cons se_non (sd_cons se_bl (sd_cons se_str (sd_cons (se_tup (sd_cons se_int sd_nil)) (sd_cons (se_pow se_int se_int) (sd_cons (se_sub se_int (se_pow se_int se_int)) sd_nil))))))))) sa_nil))))
    (sb_cons (ss_to (se_tup (sd_cons (se_tup (sd_cons se_int (sd_cons (se_tup (sd_cons (se_tup (sd_cons se_int sd_nil)) sd_nil)) sd_nil))) (sd_cons (se_tup (sd_cons se_int (sd_cons (se_tup (sd_cons (se_tup (sd_cons se_int (sd_cons se_int sd_nil))) sd_nil)) sd_nil))) (sd_cons (se_tup (sd_cons se_int (sd_cons (se_tup (sd_cons (se_tup (sd_cons se_int sd_nil)) (sd_cons (se_tup (sd_cons se_int sd_nil)) sd_nil))) sd_nil))) sd_nil)))) (sg_tup rfl (sgs_cons 4 sc_law_grids_right.nd rfl (by first | exact Or.inl rfl | exact Or.inr rfl) (sgs_cons 5 sc_law_grids_right.nd rfl (by first | exact Or.inl rfl | exact Or.inr rfl) (sgs_cons 6 sc_law_grids_right.nd rfl (by first | exact Or.inl rfl | exact Or.inr rfl) sgs_nil)))))
    (sb_cons (ss_setC 7 sc_law_grids_right.nd rfl (by first | exact Or.inl rfl | exact Or.inr rfl) (sc_lst sd_nil))
    (sb_cons (ss_app (sl_var 7) (se_met1 (k := 9) T hgd (by rfl) tb.b_law_grids_right rfl (mem_l tb.l (i := 0) rfl) (hu_law_grids_right T tb) (hr.mono (by decide)) (LamX.lamS_by (sc := defScope s_law_grids_right) (by decide +kernel)) rfl (fun _ _ _ _ _ => rfl) fun A outer s H E' f c' hr tk =>
      (se_callX tk (okX_turned T) (hr.mono (by decide)) (by rfl) T.m_turned T.F_turned.kp T.b_turned (sa_cons (sl_var 1) sa_nil))) (fun _ _ p q => pe_bm PySem.F.plainAttrs_list PySem.F.slot_list_append PySem.F.type_list_append mt_append p (pa_cons q pa_nil)))
    (sb_cons (ss_app (sl_var 7) (se_met1 (k := 9) T hgd (by rfl) tb.b_law_grids_right rfl (mem_l tb.l (i := 0) rfl) (hu_law_grids_right T tb) (hr.mono (by decide)) (LamX.lamS_by (sc := defScope s_law_grids_right) (by decide +kernel)) rfl (fun _ _ _ _ _ => rfl) fun A outer s H E' f c' hr tk =>
      (se_callX tk (okX_grid_multiple T) (hr.mono (by decide)) (by rfl) T.m_grid_multiple T.F_grid_multiple.kp T.b_grid_multiple (sa_cons (sl_var 1) (sa_cons (sl_var 3) sa_nil)))) (fun _ _ p q => pe_bm PySem.F.plainAttrs_list PySem.F.slot_list_append PySem.F.type_list_append mt_append p (pa_cons q pa_nil)))
    (sb_cons (ss_app (sl_var 7) (se_met1 (k := 9) T hgd (by rfl) tb.b_law_grids_right rfl (mem_l tb.l (i := 0) rfl) (hu_law_grids_right T tb) (hr.mono (by decide)) (LamX.lamS_by (sc := defScope s_law_grids_right) (by decide +kernel)) rfl (fun _ _ _ _ _ => rfl) fun A outer s H E' f c' hr tk =>
      (se_callX tk (okX_grid_multiple T) (hr.mono (by decide)) (by rfl) T.m_grid_multiple T.F_grid_multiple.kp T.b_grid_multiple (sa_cons (sl_var 4) (sa_cons (sl_var 3) sa_nil)))) (fun _ _ p q => pe_bm PySem.F.plainAttrs_list PySem.F.slot_list_append PySem.F.type_list_append mt_append p (pa_cons q pa_nil)))
    (sb_cons (ss_set 8 sc_law_grids_right.nd rfl (by first | exact Or.inl rfl | exact Or.inr rfl) (se_add (se_mulL (se_sc (sc_lst (sd_cons (se_tup (sd_cons se_str (sd_cons se_str sd_nil))) sd_nil))) se_int) (se_sc (sc_lst (sd_cons (se_tup (sd_cons se_str (sd_cons se_str (sd_cons (se_repr hgd hr.u200 (by rfl) T.z_repr (se_var 3)) sd_nil)))) sd_nil)))))
    (sb_cons (ss_forF (ds := [0, 1, 2, 3, 4]) (as := [T.a_grid_sum, T.a_grid_difference, T.a_grid_product, T.a_beside, T.a_over]) PassesOwn.never rfl (pa_cons (pe_glob (by rfl) T.m_grid_sum rfl) (pa_cons (pe_glob (by rfl) T.m_grid_difference rfl) (pa_cons (pe_glob (by rfl) T.m_grid_product rfl) (pa_cons (pe_glob (by rfl) T.m_beside rfl) (pa_cons (pe_glob (by rfl) T.m_over rfl) pa_nil))))) rfl (by decide) (for_ds tb.fs rfl) sc_law_grids_right.nd rfl (by first | exact Or.inl rfl | exact Or.inr rfl) (by first | exact .inl rfl | exact .inr rfl)
    (sb_cons (ss_app (sl_var 7) (se_met1 (k := 9) T hgd (by rfl) tb.b_law_grids_right rfl (mem_l tb.l (i := 0) rfl) (hu_law_grids_right T tb) (hr.mono (by decide)) (LamX.lamS_by (sc := defScope s_law_grids_right) (by decide +kernel)) rfl (fun _ _ _ _ _ => rfl) fun A outer s H E' f c' hr tk =>
      (se_callV (k := 9) tk (has_fs T tb) (hr.mono (by decide)) (by rfl) (by first | exact Or.inl rfl | exact Or.inr (Or.inl rfl) | exact Or.inr (Or.inr rfl)) (sa_cons (sl_var 1) (sa_cons (sl_var 2) sa_nil)))) (fun _ _ p q => pe_bm PySem.F.plainAttrs_list PySem.F.slot_list_append PySem.F.type_list_append mt_append p (pa_cons q pa_nil)))
    (sb_cons (ss_app (sl_var 7) (se_met1 (k := 9) T hgd (by rfl) tb.b_law_grids_right rfl (mem_l tb.l (i := 0) rfl) (hu_law_grids_right T tb) (hr.mono (by decide)) (LamX.lamS_by (sc := defScope s_law_grids_right) (by decide +kernel)) rfl (fun _ _ _ _ _ => rfl) fun A outer s H E' f c' hr tk =>
      (se_callV (k := 9) tk (has_fs T tb) (hr.mono (by decide)) (by rfl) (by first | exact Or.inl rfl | exact Or.inr (Or.inl rfl) | exact Or.inr (Or.inr rfl)) (sa_cons (sl_var 5) (sa_cons (sl_var 1) sa_nil)))) (fun _ _ p q => pe_bm PySem.F.plainAttrs_list PySem.F.slot_list_append PySem.F.type_list_append mt_append p (pa_cons q pa_nil)))
    (sb_one (ss_set 8 sc_law_grids_right.nd rfl (by first | exact Or.inl rfl | exact Or.inr rfl) (se_add (se_var 8) (se_mulL (se_sc (sc_lst (sd_cons (se_tup (sd_cons se_str (sd_cons se_str sd_nil))) sd_nil))) se_int)))))))
    (sb_cons (ss_app (sl_var 7) (se_met1 (k := 9) T hgd (by rfl) tb.b_law_grids_right rfl (mem_l tb.l (i := 0) rfl) (hu_law_grids_right T tb) (hr.mono (by decide)) (LamX.lamS_by (sc := defScope s_law_grids_right) (by decide +kernel)) rfl (fun _ _ _ _ _ => rfl) fun A outer s H E' f c' hr tk =>
      (se_callX tk (okX_grid_sum T) (hr.mono (by decide)) (by rfl) T.m_grid_sum T.F_grid_sum.kp T.b_grid_sum (sa_cons (sl_var 4) (sa_cons (sl_var 5) sa_nil)))) (fun _ _ p q => pe_bm PySem.F.plainAttrs_list PySem.F.slot_list_append PySem.F.type_list_append mt_append p (pa_cons q pa_nil)))
    (sb_cons (ss_app (sl_var 7) (se_met1 (k := 9) T hgd (by rfl) tb.b_law_grids_right rfl (mem_l tb.l (i := 0) rfl) (hu_law_grids_right T tb) (hr.mono (by decide)) (LamX.lamS_by (sc := defScope s_law_grids_right) (by decide +kernel)) rfl (fun _ _ _ _ _ => rfl) fun A outer s H E' f c' hr tk =>
      (se_callX tk (okX_grid_difference T) (hr.mono (by decide)) (by rfl) T.m_grid_difference T.F_grid_difference.kp T.b_grid_difference (sa_cons (sl_var 4) (sa_cons (sl_var 6) sa_nil)))) (fun _ _ p q => pe_bm PySem.F.plainAttrs_list PySem.F.slot_list_append PySem.F.type_list_append mt_append p (pa_cons q pa_nil)))
    (sb_cons (ss_app (sl_var 7) (se_met1 (k := 9) T hgd (by rfl) tb.b_law_grids_right rfl (mem_l tb.l (i := 0) rfl) (hu_law_grids_right T tb) (hr.mono (by decide)) (LamX.lamS_by (sc := defScope s_law_grids_right) (by decide +kernel)) rfl (fun _ _ _ _ _ => rfl) fun A outer s H E' f c' hr tk =>
      (se_callX tk (okX_grid_product T) (hr.mono (by decide)) (by rfl) T.m_grid_product T.F_grid_product.kp T.b_grid_product (sa_cons (sl_var 5) (sa_cons (sl_var 4) sa_nil)))) (fun _ _ p q => pe_bm PySem.F.plainAttrs_list PySem.F.slot_list_append PySem.F.type_list_append mt_append p (pa_cons q pa_nil)))
    (sb_cons (ss_app (sl_var 7) (se_met1 (k := 9) T hgd (by rfl) tb.b_law_grids_right rfl (mem_l tb.l (i := 0) rfl) (hu_law_grids_right T tb) (hr.mono (by decide)) (LamX.lamS_by (sc := defScope s_law_grids_right) (by decide +kernel)) rfl (fun _ _ _ _ _ => rfl) fun A outer s H E' f c' hr tk =>
      (se_callX tk (okX_beside T) (hr.mono (by decide)) (by rfl) T.m_beside T.F_beside.kp T.b_beside (sa_cons (sl_var 4) (sa_cons (sl_var 6) sa_nil)))) (fun _ _ p q => pe_bm PySem.F.plainAttrs_list PySem.F.slot_list_append PySem.F.type_list_append mt_append p (pa_cons q pa_nil)))
    (sb_cons (ss_app (sl_var 7) (se_met1 (k := 9) T hgd (by rfl) tb.b_law_grids_right rfl (mem_l tb.l (i := 0) rfl) (hu_law_grids_right T tb) (hr.mono (by decide)) (LamX.lamS_by (sc := defScope s_law_grids_right) (by decide +kernel)) rfl (fun _ _ _ _ _ => rfl) fun A outer s H E' f c' hr tk =>
      (se_callX tk (okX_over T) (hr.mono (by decide)) (by rfl) T.m_over T.F_over.kp T.b_over (sa_cons (sl_var 4) (sa_cons (sl_var 5) sa_nil)))) (fun _ _ p q => pe_bm PySem.F.plainAttrs_list PySem.F.slot_list_append PySem.F.type_list_append mt_append p (pa_cons q pa_nil)))
    (sb_cons (ss_app (sl_var 7) (se_met1 (k := 9) T hgd (by rfl) tb.b_law_grids_right rfl (mem_l tb.l (i := 0) rfl) (hu_law_grids_right T tb) (hr.mono (by decide)) (LamX.lamS_by (sc := defScope s_law_grids_right) (by decide +kernel)) rfl (fun _ _ _ _ _ => rfl) fun A outer s H E' f c' hr tk =>
      (se_callX tk (okX_grid_product T) (hr.mono (by decide)) (by rfl) T.m_grid_product T.F_grid_product.kp T.b_grid_product (sa_cons (sl_var 6) (sa_cons (sl_var 4) sa_nil)))) (fun _ _ p q => pe_bm PySem.F.plainAttrs_list PySem.F.slot_list_append PySem.F.type_list_append mt_append p (pa_cons q pa_nil)))
    (sb_cons (ss_app (sl_var 7) (se_met1 (k := 9) T hgd (by rfl) tb.b_law_grids_right rfl (mem_l tb.l (i := 0) rfl) (hu_law_grids_right T tb) (hr.mono (by decide)) (LamX.lamS_by (sc := defScope s_law_grids_right) (by decide +kernel)) rfl (fun _ _ _ _ _ => rfl) fun A outer s H E' f c' hr tk =>
      (se_callX tk (okX_grid_product T) (hr.mono (by decide)) (by rfl) T.m_grid_product T.F_grid_product.kp T.b_grid_product (sa_cons (sl_var 4) (sa_cons (sl_var 5) sa_nil)))) (fun _ _ p q => pe_bm PySem.F.plainAttrs_list PySem.F.slot_list_append PySem.F.type_list_append mt_append p (pa_cons q pa_nil)))
    (sb_cons (ss_set 8 sc_law_grids_right.nd rfl (by first | exact Or.inl rfl | exact Or.inr rfl) (se_add (se_add (se_var 8) (se_mulL (se_sc (sc_lst (sd_cons (se_tup (sd_cons se_str (sd_cons se_str sd_nil))) sd_nil))) se_int)) (se_mulL (se_sc (sc_lst (sd_cons (se_tup (sd_cons se_str sd_nil)) sd_nil))) se_int)))
    (sb_cons (ss_app (sl_var 7) (se_met1 (k := 9) T hgd (by rfl) tb.b_law_grids_right rfl (mem_l tb.l (i := 0) rfl) (hu_law_grids_right T tb) (hr.mono (by decide)) (LamX.lamS_by (sc := defScope s_law_grids_right) (by decide +kernel)) rfl (fun _ _ _ _ _ => rfl) fun A outer s H E' f c' hr tk =>
      (se_callX tk (okX_led T) (hr.mono (by decide)) (by rfl) T.m_led T.F_led.kp T.b_led (sa_cons (sl_var 1) (sa_cons (sl_var 2) sa_nil)))) (fun _ _ p q => pe_bm PySem.F.plainAttrs_list PySem.F.slot_list_append PySem.F.type_list_append mt_append p (pa_cons q pa_nil)))
    (sb_cons (ss_app (sl_var 7) (se_met1 (k := 9) T hgd (by rfl) tb.b_law_grids_right rfl (mem_l tb.l (i := 0) rfl) (hu_law_grids_right T tb) (hr.mono (by decide)) (LamX.lamS_by (sc := defScope s_law_grids_right) (by decide +kernel)) rfl (fun _ _ _ _ _ => rfl) fun A outer s H E' f c' hr tk =>
      (se_callX tk (okX_led T) (hr.mono (by decide)) (by rfl) T.m_led T.F_led.kp T.b_led (sa_cons (sl_var 5) (sa_cons (sl_var 2) sa_nil)))) (fun _ _ p q => pe_bm PySem.F.plainAttrs_list PySem.F.slot_list_append PySem.F.type_list_append mt_append p (pa_cons q pa_nil)))
    (sb_cons (ss_app (sl_var 7) (se_met1 (k := 9) T hgd (by rfl) tb.b_law_grids_right rfl (mem_l tb.l (i := 0) rfl) (hu_law_grids_right T tb) (hr.mono (by decide)) (LamX.lamS_by (sc := defScope s_law_grids_right) (by decide +kernel)) rfl (fun _ _ _ _ _ => rfl) fun A outer s H E' f c' hr tk =>
      (se_callX tk (okX_led T) (hr.mono (by decide)) (by rfl) T.m_led T.F_led.kp T.b_led (sa_cons (sl_var 5) (sa_cons (sl_e (se_tup (sd_cons se_int sd_nil))) sa_nil)))) (fun _ _ p q => pe_bm PySem.F.plainAttrs_list PySem.F.slot_list_append PySem.F.type_list_append mt_append p (pa_cons q pa_nil)))
    (sb_cons (ss_app (sl_var 7) (se_met1 (k := 9) T hgd (by rfl) tb.b_law_grids_right rfl (mem_l tb.l (i := 0) rfl) (hu_law_grids_right T tb) (hr.mono (by decide)) (LamX.lamS_by (sc := defScope s_law_grids_right) (by decide +kernel)) rfl (fun _ _ _ _ _ => rfl) fun A outer s H E' f c' hr tk =>
      (se_callX tk (okX_led T) (hr.mono (by decide)) (by rfl) T.m_led T.F_led.kp T.b_led (sa_cons (sl_var 5) (sa_cons (sl_e (se_tup (sd_cons se_int (sd_cons se_int sd_nil)))) sa_nil)))) (fun _ _ p q => pe_bm PySem.F.plainAttrs_list PySem.F.slot_list_append PySem.F.type_list_append mt_append p (pa_cons q pa_nil)))
    (sb_cons (ss_app (sl_var 7) (se_met1 (k := 9) T hgd (by rfl) tb.b_law_grids_right rfl (mem_l tb.l (i := 0) rfl) (hu_law_grids_right T tb) (hr.mono (by decide)) (LamX.lamS_by (sc := defScope s_law_grids_right) (by decide +kernel)) rfl (fun _ _ _ _ _ => rfl) fun A outer s H E' f c' hr tk =>
      (se_callX tk (okX_read_by T) (hr.mono (by decide)) (by rfl) T.m_read_by T.F_read_by.kp T.b_read_by (sa_cons (sl_var 2) (sa_cons (sl_var 1) sa_nil)))) (fun _ _ p q => pe_bm PySem.F.plainAttrs_list PySem.F.slot_list_append PySem.F.type_list_append mt_append p (pa_cons q pa_nil)))
    (sb_cons (ss_app (sl_var 7) (se_met1 (k := 9) T hgd (by rfl) tb.b_law_grids_right rfl (mem_l tb.l (i := 0) rfl) (hu_law_grids_right T tb) (hr.mono (by decide)) (LamX.lamS_by (sc := defScope s_law_grids_right) (by decide +kernel)) rfl (fun _ _ _ _ _ => rfl) fun A outer s H E' f c' hr tk =>
      (se_callX tk (okX_read_by T) (hr.mono (by decide)) (by rfl) T.m_read_by T.F_read_by.kp T.b_read_by (sa_cons (sl_e (se_tup (sd_cons se_int sd_nil))) (sa_cons (sl_var 1) sa_nil)))) (fun _ _ p q => pe_bm PySem.F.plainAttrs_list PySem.F.slot_list_append PySem.F.type_list_append mt_append p (pa_cons q pa_nil)))
    (sb_cons (ss_app (sl_var 7) (se_met1 (k := 9) T hgd (by rfl) tb.b_law_grids_right rfl (mem_l tb.l (i := 0) rfl) (hu_law_grids_right T tb) (hr.mono (by decide)) (LamX.lamS_by (sc := defScope s_law_grids_right) (by decide +kernel)) rfl (fun _ _ _ _ _ => rfl) fun A outer s H E' f c' hr tk =>
      (se_callX tk (okX_read_by T) (hr.mono (by decide)) (by rfl) T.m_read_by T.F_read_by.kp T.b_read_by (sa_cons (sl_e (se_tup (sd_cons se_int sd_nil))) (sa_cons (sl_var 6) sa_nil)))) (fun _ _ p q => pe_bm PySem.F.plainAttrs_list PySem.F.slot_list_append PySem.F.type_list_append mt_append p (pa_cons q pa_nil)))
    (sb_cons (ss_app (sl_var 7) (se_met1 (k := 9) T hgd (by rfl) tb.b_law_grids_right rfl (mem_l tb.l (i := 0) rfl) (hu_law_grids_right T tb) (hr.mono (by decide)) (LamX.lamS_by (sc := defScope s_law_grids_right) (by decide +kernel)) rfl (fun _ _ _ _ _ => rfl) fun A outer s H E' f c' hr tk =>
      (se_callX tk (okX_read_by T) (hr.mono (by decide)) (by rfl) T.m_read_by T.F_read_by.kp T.b_read_by (sa_cons (sl_e (se_tup (sd_cons se_int (sd_cons se_int sd_nil)))) (sa_cons (sl_var 6) sa_nil)))) (fun _ _ p q => pe_bm PySem.F.plainAttrs_list PySem.F.slot_list_append PySem.F.type_list_append mt_append p (pa_cons q pa_nil)))
    (sb_cons (ss_set 8 sc_law_grids_right.nd rfl (by first | exact Or.inl rfl | exact Or.inr rfl) (se_add (se_var 8) (se_sc (sc_lst (sd_cons (se_tup (sd_cons se_str (sd_cons se_str sd_nil))) (sd_cons (se_tup (sd_cons se_str (sd_cons se_str sd_nil))) (sd_cons (se_tup (sd_cons se_str (sd_cons se_str sd_nil))) (sd_cons (se_tup (sd_cons se_str sd_nil)) (sd_cons (se_tup (sd_cons se_str (sd_cons se_str sd_nil))) (sd_cons (se_tup (sd_cons se_str (sd_cons se_str sd_nil))) (sd_cons (se_tup (sd_cons se_str (sd_cons se_str sd_nil))) (sd_cons (se_tup (sd_cons se_str sd_nil)) sd_nil))))))))))))
    (sb_one (ss_ret (se_eqL hr.units (sl_var 7) (se_var 8)))))))))))))))))))))))))))))))
theorem okG_law_rows_right (T : Txt K mg) (tb : TbOk T base) : FnG P w K mg base CX0 12 T.a_law_rows_right T.fd_law_rows_right ["hat"] (spM K XR0 1 run_law_rows_right) := fn_mirGC T.C_law_rows_right sc_law_rows_right (fun _ _ _ _ q => q) fun A outer s H E hgd hr =>
    (sb_cons (ss_set 1 sc_law_rows_right.nd rfl (by first | exact Or.inl rfl | exact Or.inr rfl) (se_call (ok_law_out_of T) (hr.mono (by decide)) (by rfl) T.m_law_out_of T.F_law_out_of.kp T.b_law_out_of (sa_cons (sl_var 0) (sa_cons (sl_e (se_sc (sc_lst (sd_cons se_non (sd_cons se_int (sd_cons (se_sc (sc_lst (sd_cons se_int sd_nil))) (sd_cons (se_tup (sd_cons se_bl sd_nil)) (sd_cons (se_tup (sd_cons (se_pow se_int se_int) sd_nil)) (sd_cons (se_tup (sd_cons se_str sd_nil)) (sd_cons (se_mulA (se_tup (sd_cons se_int sd_nil)) se_int) (sd_cons (se_tup (sd_cons (se_tup (sd_cons se_int sd_nil)) sd_nil)) (sd_cons se_dict0 sd_nil)))))))))))) sa_nil))))
    (sb_cons (ss_set 2 sc_law_rows_right.nd rfl (by first | exact Or.inl rfl | exact Or.inr rfl) (se_call (ok_law_out_of T) (hr.mono (by decide)) (by rfl) T.m_law_out_of T.F_law_out_of.kp T.b_law_out_of (sa_cons (sl_var 0) (sa_cons (sl_e (se_sc (sc_lst (sd_cons se_non (sd_cons se_bl (sd_cons se_str (sd_cons (se_tup (sd_cons se_int sd_nil)) (sd_cons (se_pow se_int se_int) (sd_cons (se_sub se_int (se_pow se_int se_int)) sd_nil))))))))) sa_nil))))
    (sb_cons (ss_set 3 sc_law_rows_right.nd rfl (by first | exact Or.inl rfl | exact Or.inr rfl) (se_call (ok_law_out_of T) (hr.mono (by decide)) (by rfl) T.m_law_out_of T.F_law_out_of.kp T.b_law_out_of (sa_cons (sl_var 0) (sa_cons (sl_e (se_sc (sc_lst (sd_cons (se_neg se_int) (sd_cons se_int (sd_cons se_non (sd_cons se_bl (sd_cons se_str (sd_cons (se_pow se_int se_int) sd_nil))))))))) sa_nil))))
    (sb_cons (ss_parCD 4 5 rfl sc_law_rows_right.nd rfl rfl (by decide) rfl rfl (sc_lst sd_nil) (se_sc (sc_lst sd_nil)) (by rfl))
    (sb_cons (ss_forF (ds := [5, 6, 7]) (as := [T.a_dot, T.a_row_sum, T.a_row_difference]) PassesOwn.never rfl (pa_cons (pe_glob (by rfl) T.m_dot rfl) (pa_cons (pe_glob (by rfl) T.m_row_sum rfl) (pa_cons (pe_glob (by rfl) T.m_row_difference rfl) pa_nil))) rfl (by decide) (for_ds tb.fs rfl) sc_law_rows_right.nd rfl (by first | exact Or.inl rfl | exact Or.inr rfl) (by first | exact .inl rfl | exact .inr rfl)
    (sb_cons (ss_app (sl_var 4) (se_met1 (k := 9) T hgd (by rfl) tb.b_law_rows_right rfl (mem_l tb.l (i := 1) rfl) (hu_law_rows_right T tb) (hr.mono (by decide)) (LamX.lamS_by (sc := defScope s_law_rows_right) (by decide +kernel)) rfl (fun _ _ _ _ _ => rfl) fun A outer s H E' f c' hr tk =>
      (se_callV (k := 9) tk (has_fs T tb) (hr.mono (by decide)) (by rfl) (by first | exact Or.inl rfl | exact Or.inr (Or.inl rfl) | exact Or.inr (Or.inr rfl)) (sa_cons (sl_var 1) (sa_cons (sl_e se_non) sa_nil)))) (fun _ _ p q => pe_bm PySem.F.plainAttrs_list PySem.F.slot_list_append PySem.F.type_list_append mt_append p (pa_cons q pa_nil)))
    (sb_cons (ss_app (sl_var 4) (se_met1 (k := 9) T hgd (by rfl) tb.b_law_rows_right rfl (mem_l tb.l (i := 1) rfl) (hu_law_rows_right T tb) (hr.mono (by decide)) (LamX.lamS_by (sc := defScope s_law_rows_right) (by decide +kernel)) rfl (fun _ _ _ _ _ => rfl) fun A outer s H E' f c' hr tk =>
      (se_callV (k := 9) tk (has_fs T tb) (hr.mono (by decide)) (by rfl) (by first | exact Or.inl rfl | exact Or.inr (Or.inl rfl) | exact Or.inr (Or.inr rfl)) (sa_cons (sl_e (se_tup (sd_cons se_int sd_nil))) (sa_cons (sl_var 1) sa_nil)))) (fun _ _ p q => pe_bm PySem.F.plainAttrs_list PySem.F.slot_list_append PySem.F.type_list_append mt_append p (pa_cons q pa_nil)))
    (sb_cons (ss_app (sl_var 4) (se_met1 (k := 9) T hgd (by rfl) tb.b_law_rows_right rfl (mem_l tb.l (i := 1) rfl) (hu_law_rows_right T tb) (hr.mono (by decide)) (LamX.lamS_by (sc := defScope s_law_rows_right) (by decide +kernel)) rfl (fun _ _ _ _ _ => rfl) fun A outer s H E' f c' hr tk =>
      (se_callV (k := 9) tk (has_fs T tb) (hr.mono (by decide)) (by rfl) (by first | exact Or.inl rfl | exact Or.inr (Or.inl rfl) | exact Or.inr (Or.inr rfl)) (sa_cons (sl_e (se_tup (sd_cons se_int (sd_cons se_int sd_nil)))) (sa_cons (sl_e (se_tup (sd_cons se_int sd_nil))) sa_nil)))) (fun _ _ p q => pe_bm PySem.F.plainAttrs_list PySem.F.slot_list_append PySem.F.type_list_append mt_append p (pa_cons q pa_nil)))
    (sb_cons (ss_app (sl_var 4) (se_met1 (k := 9) T hgd (by rfl) tb.b_law_rows_right rfl (mem_l tb.l (i := 1) rfl) (hu_law_rows_right T tb) (hr.mono (by decide)) (LamX.lamS_by (sc := defScope s_law_rows_right) (by decide +kernel)) rfl (fun _ _ _ _ _ => rfl) fun A outer s H E' f c' hr tk =>
      (se_callV (k := 9) tk (has_fs T tb) (hr.mono (by decide)) (by rfl) (by first | exact Or.inl rfl | exact Or.inr (Or.inl rfl) | exact Or.inr (Or.inr rfl)) (sa_cons (sl_e (se_tup sd_nil)) (sa_cons (sl_e (se_tup sd_nil)) sa_nil)))) (fun _ _ p q => pe_bm PySem.F.plainAttrs_list PySem.F.slot_list_append PySem.F.type_list_append mt_append p (pa_cons q pa_nil)))
    (sb_one (ss_set 5 sc_law_rows_right.nd rfl (by first | exact Or.inl rfl | exact Or.inr rfl) (se_add (se_var 5) (se_sc (sc_lst (sd_cons (se_tup (sd_cons se_str (sd_cons se_str sd_nil))) (sd_cons (se_tup (sd_cons se_str (sd_cons se_str sd_nil))) (sd_cons (se_tup (sd_cons se_str (sd_cons se_str sd_nil))) (sd_cons (se_tup (sd_cons se_str sd_nil)) sd_nil))))))))))))))
    (sb_cons (ss_app (sl_var 4) (se_met1 (k := 9) T hgd (by rfl) tb.b_law_rows_right rfl (mem_l tb.l (i := 1) rfl) (hu_law_rows_right T tb) (hr.mono (by decide)) (LamX.lamS_by (sc := defScope s_law_rows_right) (by decide +kernel)) rfl (fun _ _ _ _ _ => rfl) fun A outer s H E' f c' hr tk =>
      (se_callX tk (okX_row_multiple T) (hr.mono (by decide)) (by rfl) T.m_row_multiple T.F_row_multiple.kp T.b_row_multiple (sa_cons (sl_var 1) (sa_cons (sl_var 2) sa_nil)))) (fun _ _ p q => pe_bm PySem.F.plainAttrs_list PySem.F.slot_list_append PySem.F.type_list_append mt_append p (pa_cons q pa_nil)))
    (sb_cons (ss_app (sl_var 4) (se_met1 (k := 9) T hgd (by rfl) tb.b_law_rows_right rfl (mem_l tb.l (i := 1) rfl) (hu_law_rows_right T tb) (hr.mono (by decide)) (LamX.lamS_by (sc := defScope s_law_rows_right) (by decide +kernel)) rfl (fun _ _ _ _ _ => rfl) fun A outer s H E' f c' hr tk =>
      (se_callX tk (okX_row_multiple T) (hr.mono (by decide)) (by rfl) T.m_row_multiple T.F_row_multiple.kp T.b_row_multiple (sa_cons (sl_e (se_tup (sd_cons se_int sd_nil))) (sa_cons (sl_var 2) sa_nil)))) (fun _ _ p q => pe_bm PySem.F.plainAttrs_list PySem.F.slot_list_append PySem.F.type_list_append mt_append p (pa_cons q pa_nil)))
    (sb_cons (ss_app (sl_var 4) (se_met1 (k := 9) T hgd (by rfl) tb.b_law_rows_right rfl (mem_l tb.l (i := 1) rfl) (hu_law_rows_right T tb) (hr.mono (by decide)) (LamX.lamS_by (sc := defScope s_law_rows_right) (by decide +kernel)) rfl (fun _ _ _ _ _ => rfl) fun A outer s H E' f c' hr tk =>
      (se_callX tk (okX_shared T) (hr.mono (by decide)) (by rfl) T.m_shared T.F_shared.kp T.b_shared (sa_cons (sl_var 2) (sa_cons (sl_e se_non) sa_nil)))) (fun _ _ p q => pe_bm PySem.F.plainAttrs_list PySem.F.slot_list_append PySem.F.type_list_append mt_append p (pa_cons q pa_nil)))
    (sb_cons (ss_app (sl_var 4) (se_met1 (k := 9) T hgd (by rfl) tb.b_law_rows_right rfl (mem_l tb.l (i := 1) rfl) (hu_law_rows_right T tb) (hr.mono (by decide)) (LamX.lamS_by (sc := defScope s_law_rows_right) (by decide +kernel)) rfl (fun _ _ _ _ _ => rfl) fun A outer s H E' f c' hr tk =>
      (se_callX tk (okX_shared T) (hr.mono (by decide)) (by rfl) T.m_shared T.F_shared.kp T.b_shared (sa_cons (sl_e se_int) (sa_cons (sl_var 2) sa_nil)))) (fun _ _ p q => pe_bm PySem.F.plainAttrs_list PySem.F.slot_list_append PySem.F.type_list_append mt_append p (pa_cons q pa_nil)))
    (sb_cons (ss_set 5 sc_law_rows_right.nd rfl (by first | exact Or.inl rfl | exact Or.inr rfl) (se_add (se_add (se_var 5) (se_sc (sc_lst (sd_cons (se_tup (sd_cons se_str (sd_cons se_str sd_nil))) sd_nil)))) (se_mulL (se_sc (sc_lst (sd_cons (se_tup (sd_cons se_str (sd_cons se_str (sd_cons (se_repr hgd hr.u200 (by rfl) T.z_repr (se_var 2)) sd_nil)))) sd_nil))) se_int)))
    (sb_cons (ss_set 7 sc_law_rows_right.nd rfl (by first | exact Or.inl rfl | exact Or.inr rfl) (se_call (ok_law_out_of T) (hr.mono (by decide)) (by rfl) T.m_law_out_of T.F_law_out_of.kp T.b_law_out_of (sa_cons (sl_var 0) (sa_cons (sl_e (se_sc (sc_lst (sd_cons (se_neg se_int) (sd_cons se_non (sd_cons se_bl (sd_cons (se_pow se_int se_int) sd_nil))))))) sa_nil))))
    (sb_cons (ss_app (sl_var 4) (se_met1 (k := 9) T hgd (by rfl) tb.b_law_rows_right rfl (mem_l tb.l (i := 1) rfl) (hu_law_rows_right T tb) (hr.mono (by decide)) (LamX.lamS_by (sc := defScope s_law_rows_right) (by decide +kernel)) rfl (fun _ _ _ _ _ => rfl) fun A outer s H E' f c' hr tk =>
      (se_callX tk (okX_is_nought T) (hr.mono (by decide)) (by rfl) T.m_is_nought T.F_is_nought.kp T.b_is_nought (sa_cons (sl_var 1) (sa_cons (sl_var 7) sa_nil)))) (fun _ _ p q => pe_bm PySem.F.plainAttrs_list PySem.F.slot_list_append PySem.F.type_list_append mt_append p (pa_cons q pa_nil)))
    (sb_cons (ss_app (sl_var 4) (se_met1 (k := 9) T hgd (by rfl) tb.b_law_rows_right rfl (mem_l tb.l (i := 1) rfl) (hu_law_rows_right T tb) (hr.mono (by decide)) (LamX.lamS_by (sc := defScope s_law_rows_right) (by decide +kernel)) rfl (fun _ _ _ _ _ => rfl) fun A outer s H E' f c' hr tk =>
      (se_callX tk (okX_is_nought T) (hr.mono (by decide)) (by rfl) T.m_is_nought T.F_is_nought.kp T.b_is_nought (sa_cons (sl_var 2) (sa_cons (sl_e se_int) sa_nil)))) (fun _ _ p q => pe_bm PySem.F.plainAttrs_list PySem.F.slot_list_append PySem.F.type_list_append mt_append p (pa_cons q pa_nil)))
    (sb_cons (ss_app (sl_var 4) (se_met1 (k := 9) T hgd (by rfl) tb.b_law_rows_right rfl (mem_l tb.l (i := 1) rfl) (hu_law_rows_right T tb) (hr.mono (by decide)) (LamX.lamS_by (sc := defScope s_law_rows_right) (by decide +kernel)) rfl (fun _ _ _ _ _ => rfl) fun A outer s H E' f c' hr tk =>
      (se_callX tk (okX_unit_grid T) (hr.mono (by decide)) (by rfl) T.m_unit_grid T.F_unit_grid.kp T.b_unit_grid (sa_cons (sl_var 3) sa_nil))) (fun _ _ p q => pe_bm PySem.F.plainAttrs_list PySem.F.slot_list_append PySem.F.type_list_append mt_append p (pa_cons q pa_nil)))
    (sb_cons (ss_app (sl_var 4) (se_met1 (k := 9) T hgd (by rfl) tb.b_law_rows_right rfl (mem_l tb.l (i := 1) rfl) (hu_law_rows_right T tb) (hr.mono (by decide)) (LamX.lamS_by (sc := defScope s_law_rows_right) (by decide +kernel)) rfl (fun _ _ _ _ _ => rfl) fun A outer s H E' f c' hr tk =>
      (se_callX tk (okX_nought_grid T) (hr.mono (by decide)) (by rfl) T.m_nought_grid T.F_nought_grid.kp T.b_nought_grid (sa_cons (sl_var 3) (sa_cons (sl_e se_str) sa_nil)))) (fun _ _ p q => pe_bm PySem.F.plainAttrs_list PySem.F.slot_list_append PySem.F.type_list_append mt_append p (pa_cons q pa_nil)))
    (sb_cons (ss_set 5 sc_law_rows_right.nd rfl (by first | exact Or.inl rfl | exact Or.inr rfl) (se_add (se_var 5) (se_sc (sc_lst (sd_cons (se_tup (sd_cons se_str (sd_cons se_str (sd_cons (se_repr hgd hr.u200 (by rfl) T.z_repr (se_var 7)) sd_nil)))) (sd_cons (se_tup (sd_cons se_str sd_nil)) (sd_cons (se_tup (sd_cons se_str (sd_cons se_str (sd_cons (se_repr hgd hr.u200 (by rfl) T.z_repr (se_var 3)) sd_nil)))) (sd_cons (se_tup (sd_cons se_str (sd_cons se_str (sd_cons (se_repr hgd hr.u200 (by rfl) T.z_repr (se_var 3)) sd_nil)))) sd_nil))))))))
    (sb_cons (ss_app (sl_var 4) (se_met1 (k := 9) T hgd (by rfl) tb.b_law_rows_right rfl (mem_l tb.l (i := 1) rfl) (hu_law_rows_right T tb) (hr.mono (by decide)) (LamX.lamS_by (sc := defScope s_law_rows_right) (by decide +kernel)) rfl (fun _ _ _ _ _ => rfl) fun A outer s H E' f c' hr tk =>
      (se_callX tk (okX_nought_grid T) (hr.mono (by decide)) (by rfl) T.m_nought_grid T.F_nought_grid.kp T.b_nought_grid (sa_cons (sl_e se_int) (sa_cons (sl_var 3) sa_nil)))) (fun _ _ p q => pe_bm PySem.F.plainAttrs_list PySem.F.slot_list_append PySem.F.type_list_append mt_append p (pa_cons q pa_nil)))
    (sb_cons (ss_app (sl_var 4) (se_met1 (k := 9) T hgd (by rfl) tb.b_law_rows_right rfl (mem_l tb.l (i := 1) rfl) (hu_law_rows_right T tb) (hr.mono (by decide)) (LamX.lamS_by (sc := defScope s_law_rows_right) (by decide +kernel)) rfl (fun _ _ _ _ _ => rfl) fun A outer s H E' f c' hr tk =>
      (se_callX tk (okX_unit_grid T) (hr.mono (by decide)) (by rfl) T.m_unit_grid T.F_unit_grid.kp T.b_unit_grid (sa_cons (sl_e se_int) sa_nil))) (fun _ _ p q => pe_bm PySem.F.plainAttrs_list PySem.F.slot_list_append PySem.F.type_list_append mt_append p (pa_cons q pa_nil)))
    (sb_cons (ss_app (sl_var 4) (se_met1 (k := 9) T hgd (by rfl) tb.b_law_rows_right rfl (mem_l tb.l (i := 1) rfl) (hu_law_rows_right T tb) (hr.mono (by decide)) (LamX.lamS_by (sc := defScope s_law_rows_right) (by decide +kernel)) rfl (fun _ _ _ _ _ => rfl) fun A outer s H E' f c' hr tk =>
      (se_callX tk (okX_nought_grid T) (hr.mono (by decide)) (by rfl) T.m_nought_grid T.F_nought_grid.kp T.b_nought_grid (sa_cons (sl_e se_int) (sa_cons (sl_e se_int) sa_nil)))) (fun _ _ p q => pe_bm PySem.F.plainAttrs_list PySem.F.slot_list_append PySem.F.type_list_append mt_append p (pa_cons q pa_nil)))
    (sb_one (ss_ret (se_eqL hr.units (sl_var 4) (se_add (se_var 5) (se_sc (sc_lst (sd_cons (se_tup (sd_cons se_str (sd_cons se_str (sd_cons (se_repr hgd hr.u200 (by rfl) T.z_repr (se_var 3)) sd_nil)))) (sd_cons (se_tup (sd_cons se_str sd_nil)) (sd_cons (se_tup (sd_cons se_str sd_nil)) sd_nil))))))))))))))))))))))))))))
theorem okG_law (T : Txt K mg) (tb : TbOk T base) : FnG P w K mg base CX0 15 T.a_law T.fd_law ["script"] (spM K XR0 1 run_law) := fn_mirGC T.C_law sc_law (fun _ _ _ _ q => q) fun A outer s H E hgd hr =>
    (sb_cons (ss_for PassesOwn.never rfl (si_range1 (by rfl) T.z_range (se_max2 rfl (by rfl) T.z_max se_int (se_min2 rfl (by rfl) T.z_min se_int (se_len (by rfl) T.z_len (sl_var 0))))) (sg_name 1 sc_law.nd rfl (by first | exact Or.inl rfl | exact Or.inr rfl))
    (sb_cons (ss_setC 2 sc_law.nd rfl (by first | exact Or.inl rfl | exact Or.inr rfl) (sc_call (okC_law_hat T) (hr.mono (by decide)) (by rfl) T.m_law_hat T.F_law_hat.kp T.b_law_hat (sa_cons (sl_var 0) (sa_cons (sl_var 1) sa_nil))))
    (sb_one (ss_if (st_w (sw_or (st_not (st_val (se_callG hgd (fun _ _ _ _ q => q) (okG_law_grids_right T tb) (hr.mono (by decide)) (by rfl) T.m_law_grids_right T.F_law_grids_right.kp T.b_law_grids_right (sa_cons (sl_var 2) sa_nil)))) (sw_or1 (st_not (st_val (se_callG hgd (fun _ _ _ _ q => q) (okG_law_rows_right T tb) (hr.mono (by decide)) (by rfl) T.m_law_rows_right T.F_law_rows_right.kp T.b_law_rows_right (sa_cons (sl_var 2) sa_nil)))))))
    (sb_one (ss_ret se_bl))
    sb_nil))))
    (sb_cons (ss_to (se_tup (sd_cons (se_callN (okX_nought_grid T) (hr.mono (by decide)) (by rfl) T.m_nought_grid T.F_nought_grid.kp T.b_nought_grid (sa_cons (sl_e se_int) (sa_cons (sl_e se_int) sa_nil))) (sd_cons (se_callN (okX_nought_grid T) (hr.mono (by decide)) (by rfl) T.m_nought_grid T.F_nought_grid.kp T.b_nought_grid (sa_cons (sl_e se_int) (sa_cons (sl_e se_int) sa_nil))) sd_nil))) (sg_tup rfl (sgs_cons 3 sc_law.nd rfl (by first | exact Or.inl rfl | exact Or.inr rfl) (sgs_cons 4 sc_law.nd rfl (by first | exact Or.inl rfl | exact Or.inr rfl) sgs_nil))))
    (sb_cons (ss_setC 5 sc_law.nd rfl (by first | exact Or.inl rfl | exact Or.inr rfl) (sc_lst sd_nil))
    (sb_cons (ss_app (sl_var 5) (se_met1 (k := 12) T hgd (by rfl) tb.b_law rfl (mem_l tb.l (i := 2) rfl) (hu_law T tb) (hr.mono (by decide)) (LamX.lamS_by (sc := defScope s_law) (by decide +kernel)) rfl (fun _ _ _ _ _ => rfl) fun A outer s H E' f c' hr tk =>
      (se_callX tk (okX_beside T) (hr.mono (by decide)) (by rfl) T.m_beside T.F_beside.kp T.b_beside (sa_cons (sl_var 3) (sa_cons (sl_var 3) sa_nil)))) (fun _ _ p q => pe_bm PySem.F.plainAttrs_list PySem.F.slot_list_append PySem.F.type_list_append mt_append p (pa_cons q pa_nil)))
    (sb_cons (ss_app (sl_var 5) (se_met1 (k := 12) T hgd (by rfl) tb.b_law rfl (mem_l tb.l (i := 2) rfl) (hu_law T tb) (hr.mono (by decide)) (LamX.lamS_by (sc := defScope s_law) (by decide +kernel)) rfl (fun _ _ _ _ _ => rfl) fun A outer s H E' f c' hr tk =>
      (se_callX tk (okX_beside T) (hr.mono (by decide)) (by rfl) T.m_beside T.F_beside.kp T.b_beside (sa_cons (sl_var 3) (sa_cons (sl_e (se_callX tk (okX_nought_grid T) (hr.mono (by decide)) (by rfl) T.m_nought_grid T.F_nought_grid.kp T.b_nought_grid (sa_cons (sl_e se_int) (sa_cons (sl_e se_int) sa_nil)))) sa_nil)))) (fun _ _ p q => pe_bm PySem.F.plainAttrs_list PySem.F.slot_list_append PySem.F.type_list_append mt_append p (pa_cons q pa_nil)))
    (sb_cons (ss_app (sl_var 5) (se_met1 (k := 12) T hgd (by rfl) tb.b_law rfl (mem_l tb.l (i := 2) rfl) (hu_law T tb) (hr.mono (by decide)) (LamX.lamS_by (sc := defScope s_law) (by decide +kernel)) rfl (fun _ _ _ _ _ => rfl) fun A outer s H E' f c' hr tk =>
      (se_callX tk (okX_over T) (hr.mono (by decide)) (by rfl) T.m_over T.F_over.kp T.b_over (sa_cons (sl_var 4) (sa_cons (sl_var 4) sa_nil)))) (fun _ _ p q => pe_bm PySem.F.plainAttrs_list PySem.F.slot_list_append PySem.F.type_list_append mt_append p (pa_cons q pa_nil)))
    (sb_cons (ss_app (sl_var 5) (se_met1 (k := 12) T hgd (by rfl) tb.b_law rfl (mem_l tb.l (i := 2) rfl) (hu_law T tb) (hr.mono (by decide)) (LamX.lamS_by (sc := defScope s_law) (by decide +kernel)) rfl (fun _ _ _ _ _ => rfl) fun A outer s H E' f c' hr tk =>
      (se_callX tk (okX_over T) (hr.mono (by decide)) (by rfl) T.m_over T.F_over.kp T.b_over (sa_cons (sl_var 4) (sa_cons (sl_e (se_callX tk (okX_nought_grid T) (hr.mono (by decide)) (by rfl) T.m_nought_grid T.F_nought_grid.kp T.b_nought_grid (sa_cons (sl_e se_int) (sa_cons (sl_e se_int) sa_nil)))) sa_nil)))) (fun _ _ p q => pe_bm PySem.F.plainAttrs_list PySem.F.slot_list_append PySem.F.type_list_append mt_append p (pa_cons q pa_nil)))
    (sb_one (ss_ret (se_eqL hr.units (sl_var 5) (se_mulL (se_sc (sc_lst (sd_cons (se_tup (sd_cons se_str (sd_cons se_str (sd_cons se_str sd_nil)))) (sd_cons (se_tup (sd_cons se_str sd_nil)) sd_nil)))) se_int)))))))))))
end
def sp_law [Mir.Tb] (K : PySem.W.Frag) : Sp := fun vs H Q _ => ∃ (a : Addr) (ns : List Int), vs = [.ref a] ∧ SqL K H a (ns.map V.int) ∧ ns.length ≤ 63 ∧ (∀ p ∈ Mir.Tb.l, H p.1 = some (.tbl #[])) ∧ ∀ H', Q (.bl true) H'
theorem law_sp [Mir.Tb] (math : ∀ ns : List Int, ns.length ≤ 63 → ∃ s, run_law [.s ns] [] = .ok (.bool true) s) {P : Program} {w : World} {K : PySem.W.Frag} {mg : Str → Option Value} {base : Heap} (T : Txt K mg) (tb : TbOk T base) : FnG P w K mg base CX0 15 T.a_law T.fd_law ["script"] (sp_law K) := by
  refine (okG_law T tb).imp fun vs H Q E h => ?_
  obtain ⟨a, ns, rfl, hS, hl, hT, k⟩ := h
  obtain ⟨s, e⟩ := math ns hl
  obtain ⟨Hi, e1, e2, hS⟩ := start_hi hS
  refine ⟨[], Hi, [.s ns], [], rfl, ⟨e1, (fun _ m => nomatch m), List.nodup_nil, rfl, (fun _ _ _ q => nomatch q), tabs0 hT, e2⟩, ⟨.ref a, [], rfl, ⟨a, rfl, hS⟩, rfl⟩, ?_⟩
  rw [e]
  intro v Hi' H' _ _ d
  cases (show v = .bl true from d)
  exact k H'
theorem all_mk (math : ∀ ns : List Int, ns.length ≤ 63 → ∃ s, run_law [.s ns] [] = .ok (.bool true) s) {l : PySem.W.OpenLaw} {w : World} {K : PySem.W.Frag} {h : Heap} {mg : Str → Option Value} {fa : Addr} {ts : List Addr} (X : K.In h) (G : h.Ns mainGlobals mg) (hfa : mg "law" = some (.ref fa)) (hts : ∀ P ∈ ts, h.get? P = some (PySem.W.tabObj #[]))
  {f0 f1 f2 f3 f4 f5 f6 f7 f8 f9 f10 f11 f12 f13 f14 f15 f16 f17 f18 f19 f20 f21 f22 f23 f24 f25 f26 f27 f28 f29 f30 f31 f32 f33 f34 f35 f36 f37 f38 f39 f40 f41 f42 f43 f44 f45 f46 f47 f48 f49 f50 f51 f52 f53 f54 f55 f56 f57 : Addr}
  {od0 an0 od1 an1 od2 an2 od3 an3 od4 an4 od5 an5 od6 an6 od7 an7 od8 an8 od9 an9 od10 an10 od11 an11 od12 an12 od13 an13 od14 an14 od15 an15 od16 an16 od17 an17 od18 an18 od19 an19 od20 an20 od21 an21 od22 an22 od23 an23 od24 an24 od25 an25 od26 an26 od27 an27 od28 an28 od29 an29 od30 an30 od31 an31 od32 an32 od33 an33 od34 an34 od35 an35 od36 an36 od37 an37 od38 an38 od39 an39 od40 an40 od41 an41 od42 an42 od43 an43 od44 an44 od45 an45 od46 an46 od47 an47 od48 an48 od49 an49 od50 an50 od51 an51 od52 an52 od53 an53 od54 an54 od55 an55 od56 an56 od57 an57 : Option Addr} {sl0 sl1 sl2 sl3 sl4 sl5 sl6 sl7 sl8 sl9 sl10 sl11 sl12 sl13 sl14 sl15 sl16 sl17 sl18 sl19 sl20 sl21 sl22 sl23 sl24 sl25 sl26 sl27 sl28 sl29 sl30 sl31 sl32 sl33 sl34 sl35 sl36 sl37 sl38 sl39 sl40 sl41 sl42 sl43 sl44 sl45 sl46 sl47 sl48 sl49 sl50 sl51 sl52 sl53 sl54 sl55 sl56 sl57 : Array (Option Value)}
  {oc0 kV0 dc0 pm0 ct0 cd0 oc1 kV1 dc1 pm1 ct1 cd1 oc2 kV2 dc2 pm2 ct2 cd2 oc3 kV3 dc3 pm3 ct3 cd3 oc4 kV4 dc4 pm4 ct4 cd4 oc5 kV5 dc5 pm5 ct5 cd5 oc6 kV6 dc6 pm6 ct6 cd6 oc7 kV7 dc7 pm7 ct7 cd7 oc8 kV8 dc8 pm8 ct8 cd8 oc9 kV9 dc9 pm9 ct9 cd9 oc10 kV10 dc10 pm10 ct10 cd10 oc11 kV11 dc11 pm11 ct11 cd11 oc12 kV12 dc12 pm12 ct12 cd12 oc13 kV13 dc13 pm13 ct13 cd13 oc14 kV14 dc14 pm14 ct14 cd14 oc15 kV15 dc15 pm15 ct15 cd15 oc16 kV16 dc16 pm16 ct16 cd16 oc17 kV17 dc17 pm17 ct17 cd17 oc18 kV18 dc18 pm18 ct18 cd18 oc19 kV19 dc19 pm19 ct19 cd19 oc20 kV20 dc20 pm20 ct20 cd20 oc21 kV21 dc21 pm21 ct21 cd21 oc22 kV22 dc22 pm22 ct22 cd22 oc23 kV23 dc23 pm23 ct23 cd23 oc24 kV24 dc24 pm24 ct24 cd24 oc25 kV25 dc25 pm25 ct25 cd25 oc26 kV26 dc26 pm26 ct26 cd26 oc27 kV27 dc27 pm27 ct27 cd27 oc28 kV28 dc28 pm28 ct28 cd28 oc29 kV29 dc29 pm29 ct29 cd29 oc30 kV30 dc30 pm30 ct30 cd30 oc31 kV31 dc31 pm31 ct31 cd31 oc32 kV32 dc32 pm32 ct32 cd32 oc33 kV33 dc33 pm33 ct33 cd33 oc34 kV34 dc34 pm34 ct34 cd34 oc35 kV35 dc35 pm35 ct35 cd35 oc36 kV36 dc36 pm36 ct36 cd36 oc37 kV37 dc37 pm37 ct37 cd37 oc38 kV38 dc38 pm38 ct38 cd38 oc39 kV39 dc39 pm39 ct39 cd39 oc40 kV40 dc40 pm40 ct40 cd40 oc41 kV41 dc41 pm41 ct41 cd41 oc42 kV42 dc42 pm42 ct42 cd42 oc43 kV43 dc43 pm43 ct43 cd43 oc44 kV44 dc44 pm44 ct44 cd44 oc45 kV45 dc45 pm45 ct45 cd45 oc46 kV46 dc46 pm46 ct46 cd46 oc47 kV47 dc47 pm47 ct47 cd47 oc48 kV48 dc48 pm48 ct48 cd48 oc49 kV49 dc49 pm49 ct49 cd49 oc50 kV50 dc50 pm50 ct50 cd50 oc51 kV51 dc51 pm51 ct51 cd51 oc52 kV52 dc52 pm52 ct52 cd52 oc53 kV53 dc53 pm53 ct53 cd53 oc54 kV54 dc54 pm54 ct54 cd54 oc55 kV55 dc55 pm55 ct55 oc56 kV56 dc56 pm56 ct56 oc57 kV57 dc57 pm57 ct57 : Value}
  {cc55 PP55 cc56 PP56 cc57 PP57 : Addr}
  (a0 : PySem.W.nsIn K mainGlobals "plain_dot" = some (some (.ref f0))) (l0 : K.lookup f0 = some ⟨oc0, od0, .func (PySem.W.fnOf "plain_dot" "plain_dot" (defArgs s_plain_dot) (defBody s_plain_dot) (defScope s_plain_dot) .none kV0 dc0 pm0 an0 cd0 ct0), sl0⟩) (c0 : PySem.W.codeIn K cd0 "plain_dot" = true) (k0 : PySem.W.keepIn K (.ref f0) = true)
  (a1 : PySem.W.nsIn K mainGlobals "row_more" = some (some (.ref f1))) (l1 : K.lookup f1 = some ⟨oc1, od1, .func (PySem.W.fnOf "row_more" "row_more" (defArgs s_row_more) (defBody s_row_more) (defScope s_row_more) .none kV1 dc1 pm1 an1 cd1 ct1), sl1⟩) (c1 : PySem.W.codeIn K cd1 "row_more" = true) (k1 : PySem.W.keepIn K (.ref f1) = true)
  (a2 : PySem.W.nsIn K mainGlobals "row_less" = some (some (.ref f2))) (l2 : K.lookup f2 = some ⟨oc2, od2, .func (PySem.W.fnOf "row_less" "row_less" (defArgs s_row_less) (defBody s_row_less) (defScope s_row_less) .none kV2 dc2 pm2 an2 cd2 ct2), sl2⟩) (c2 : PySem.W.codeIn K cd2 "row_less" = true) (k2 : PySem.W.keepIn K (.ref f2) = true)
  (a3 : PySem.W.nsIn K mainGlobals "plain_led" = some (some (.ref f3))) (l3 : K.lookup f3 = some ⟨oc3, od3, .func (PySem.W.fnOf "plain_led" "plain_led" (defArgs s_plain_led) (defBody s_plain_led) (defScope s_plain_led) .none kV3 dc3 pm3 an3 cd3 ct3), sl3⟩) (c3 : PySem.W.codeIn K cd3 "plain_led" = true) (k3 : PySem.W.keepIn K (.ref f3) = true)
  (a4 : PySem.W.nsIn K mainGlobals "plain_grid" = some (some (.ref f4))) (l4 : K.lookup f4 = some ⟨oc4, od4, .func (PySem.W.fnOf "plain_grid" "plain_grid" (defArgs s_plain_grid) (defBody s_plain_grid) (defScope s_plain_grid) .none kV4 dc4 pm4 an4 cd4 ct4), sl4⟩) (c4 : PySem.W.codeIn K cd4 "plain_grid" = true) (k4 : PySem.W.keepIn K (.ref f4) = true)
  (a5 : PySem.W.nsIn K mainGlobals "turned_rows_of" = some (some (.ref f5))) (l5 : K.lookup f5 = some ⟨oc5, od5, .func (PySem.W.fnOf "turned_rows_of" "turned_rows_of" (defArgs s_turned_rows_of) (defBody s_turned_rows_of) (defScope s_turned_rows_of) .none kV5 dc5 pm5 an5 cd5 ct5), sl5⟩) (c5 : PySem.W.codeIn K cd5 "turned_rows_of" = true) (k5 : PySem.W.keepIn K (.ref f5) = true)
  (a6 : PySem.W.nsIn K mainGlobals "plain_turned" = some (some (.ref f6))) (l6 : K.lookup f6 = some ⟨oc6, od6, .func (PySem.W.fnOf "plain_turned" "plain_turned" (defArgs s_plain_turned) (defBody s_plain_turned) (defScope s_plain_turned) .none kV6 dc6 pm6 an6 cd6 ct6), sl6⟩) (c6 : PySem.W.codeIn K cd6 "plain_turned" = true) (k6 : PySem.W.keepIn K (.ref f6) = true)
  (a7 : PySem.W.nsIn K mainGlobals "plain_product" = some (some (.ref f7))) (l7 : K.lookup f7 = some ⟨oc7, od7, .func (PySem.W.fnOf "plain_product" "plain_product" (defArgs s_plain_product) (defBody s_plain_product) (defScope s_plain_product) .none kV7 dc7 pm7 an7 cd7 ct7), sl7⟩) (c7 : PySem.W.codeIn K cd7 "plain_product" = true) (k7 : PySem.W.keepIn K (.ref f7) = true)
  (a8 : PySem.W.nsIn K mainGlobals "plain_difference" = some (some (.ref f8))) (l8 : K.lookup f8 = some ⟨oc8, od8, .func (PySem.W.fnOf "plain_difference" "plain_difference" (defArgs s_plain_difference) (defBody s_plain_difference) (defScope s_plain_difference) .none kV8 dc8 pm8 an8 cd8 ct8), sl8⟩) (c8 : PySem.W.codeIn K cd8 "plain_difference" = true) (k8 : PySem.W.keepIn K (.ref f8) = true)
  (a9 : PySem.W.nsIn K mainGlobals "plain_multiple" = some (some (.ref f9))) (l9 : K.lookup f9 = some ⟨oc9, od9, .func (PySem.W.fnOf "plain_multiple" "plain_multiple" (defArgs s_plain_multiple) (defBody s_plain_multiple) (defScope s_plain_multiple) .none kV9 dc9 pm9 an9 cd9 ct9), sl9⟩) (c9 : PySem.W.codeIn K cd9 "plain_multiple" = true) (k9 : PySem.W.keepIn K (.ref f9) = true)
  (a10 : PySem.W.nsIn K mainGlobals "plain_sum" = some (some (.ref f10))) (l10 : K.lookup f10 = some ⟨oc10, od10, .func (PySem.W.fnOf "plain_sum" "plain_sum" (defArgs s_plain_sum) (defBody s_plain_sum) (defScope s_plain_sum) .none kV10 dc10 pm10 an10 cd10 ct10), sl10⟩) (c10 : PySem.W.codeIn K cd10 "plain_sum" = true) (k10 : PySem.W.keepIn K (.ref f10) = true)
  (a11 : PySem.W.nsIn K mainGlobals "plain_read" = some (some (.ref f11))) (l11 : K.lookup f11 = some ⟨oc11, od11, .func (PySem.W.fnOf "plain_read" "plain_read" (defArgs s_plain_read) (defBody s_plain_read) (defScope s_plain_read) .none kV11 dc11 pm11 an11 cd11 ct11), sl11⟩) (c11 : PySem.W.codeIn K cd11 "plain_read" = true) (k11 : PySem.W.keepIn K (.ref f11) = true)
  (a12 : PySem.W.nsIn K mainGlobals "plain_beside" = some (some (.ref f12))) (l12 : K.lookup f12 = some ⟨oc12, od12, .func (PySem.W.fnOf "plain_beside" "plain_beside" (defArgs s_plain_beside) (defBody s_plain_beside) (defScope s_plain_beside) .none kV12 dc12 pm12 an12 cd12 ct12), sl12⟩) (c12 : PySem.W.codeIn K cd12 "plain_beside" = true) (k12 : PySem.W.keepIn K (.ref f12) = true)
  (a13 : PySem.W.nsIn K mainGlobals "is_multiple" = some (some (.ref f13))) (l13 : K.lookup f13 = some ⟨oc13, od13, .func (PySem.W.fnOf "is_multiple" "is_multiple" (defArgs s_is_multiple) (defBody s_is_multiple) (defScope s_is_multiple) .none kV13 dc13 pm13 an13 cd13 ct13), sl13⟩) (c13 : PySem.W.codeIn K cd13 "is_multiple" = true) (k13 : PySem.W.keepIn K (.ref f13) = true)
  (a14 : PySem.W.nsIn K mainGlobals "plain_unit" = some (some (.ref f14))) (l14 : K.lookup f14 = some ⟨oc14, od14, .func (PySem.W.fnOf "plain_unit" "plain_unit" (defArgs s_plain_unit) (defBody s_plain_unit) (defScope s_plain_unit) .none kV14 dc14 pm14 an14 cd14 ct14), sl14⟩) (c14 : PySem.W.codeIn K cd14 "plain_unit" = true) (k14 : PySem.W.keepIn K (.ref f14) = true)
  (a15 : PySem.W.nsIn K mainGlobals "plain_nought" = some (some (.ref f15))) (l15 : K.lookup f15 = some ⟨oc15, od15, .func (PySem.W.fnOf "plain_nought" "plain_nought" (defArgs s_plain_nought) (defBody s_plain_nought) (defScope s_plain_nought) .none kV15 dc15 pm15 an15 cd15 ct15), sl15⟩) (c15 : PySem.W.codeIn K cd15 "plain_nought" = true) (k15 : PySem.W.keepIn K (.ref f15) = true)
  (a16 : PySem.W.nsIn K mainGlobals "bezout" = some (some (.ref f16))) (l16 : K.lookup f16 = some ⟨oc16, od16, .func (PySem.W.fnOf "bezout" "bezout" (defArgs s_bezout) (defBody s_bezout) (defScope s_bezout) .none kV16 dc16 pm16 an16 cd16 ct16), sl16⟩) (c16 : PySem.W.codeIn K cd16 "bezout" = true) (k16 : PySem.W.keepIn K (.ref f16) = true)
  (a17 : PySem.W.nsIn K mainGlobals "is_long_integer" = some (some (.ref f17))) (l17 : K.lookup f17 = some ⟨oc17, od17, .func (PySem.W.fnOf "is_long_integer" "is_long_integer" (defArgs s_is_long_integer) (defBody s_is_long_integer) (defScope s_is_long_integer) .none kV17 dc17 pm17 an17 cd17 ct17), sl17⟩) (c17 : PySem.W.codeIn K cd17 "is_long_integer" = true) (k17 : PySem.W.keepIn K (.ref f17) = true)
  (a18 : PySem.W.nsIn K mainGlobals "is_integer" = some (some (.ref f18))) (l18 : K.lookup f18 = some ⟨oc18, od18, .func (PySem.W.fnOf "is_integer" "is_integer" (defArgs s_is_integer) (defBody s_is_integer) (defScope s_is_integer) .none kV18 dc18 pm18 an18 cd18 ct18), sl18⟩) (c18 : PySem.W.codeIn K cd18 "is_integer" = true) (k18 : PySem.W.keepIn K (.ref f18) = true)
  (a19 : PySem.W.nsIn K mainGlobals "is_between" = some (some (.ref f19))) (l19 : K.lookup f19 = some ⟨oc19, od19, .func (PySem.W.fnOf "is_between" "is_between" (defArgs s_is_between) (defBody s_is_between) (defScope s_is_between) .none kV19 dc19 pm19 an19 cd19 ct19), sl19⟩) (c19 : PySem.W.codeIn K cd19 "is_between" = true) (k19 : PySem.W.keepIn K (.ref f19) = true)
  (a20 : PySem.W.nsIn K mainGlobals "is_long_row" = some (some (.ref f20))) (l20 : K.lookup f20 = some ⟨oc20, od20, .func (PySem.W.fnOf "is_long_row" "is_long_row" (defArgs s_is_long_row) (defBody s_is_long_row) (defScope s_is_long_row) .none kV20 dc20 pm20 an20 cd20 ct20), sl20⟩) (c20 : PySem.W.codeIn K cd20 "is_long_row" = true) (k20 : PySem.W.keepIn K (.ref f20) = true)
  (a21 : PySem.W.nsIn K mainGlobals "is_row" = some (some (.ref f21))) (l21 : K.lookup f21 = some ⟨oc21, od21, .func (PySem.W.fnOf "is_row" "is_row" (defArgs s_is_row) (defBody s_is_row) (defScope s_is_row) .none kV21 dc21 pm21 an21 cd21 ct21), sl21⟩) (c21 : PySem.W.codeIn K cd21 "is_row" = true) (k21 : PySem.W.keepIn K (.ref f21) = true)
  (a22 : PySem.W.nsIn K mainGlobals "is_long_grid" = some (some (.ref f22))) (l22 : K.lookup f22 = some ⟨oc22, od22, .func (PySem.W.fnOf "is_long_grid" "is_long_grid" (defArgs s_is_long_grid) (defBody s_is_long_grid) (defScope s_is_long_grid) .none kV22 dc22 pm22 an22 cd22 ct22), sl22⟩) (c22 : PySem.W.codeIn K cd22 "is_long_grid" = true) (k22 : PySem.W.keepIn K (.ref f22) = true)
  (a23 : PySem.W.nsIn K mainGlobals "is_grid" = some (some (.ref f23))) (l23 : K.lookup f23 = some ⟨oc23, od23, .func (PySem.W.fnOf "is_grid" "is_grid" (defArgs s_is_grid) (defBody s_is_grid) (defScope s_is_grid) .none kV23 dc23 pm23 an23 cd23 ct23), sl23⟩) (c23 : PySem.W.codeIn K cd23 "is_grid" = true) (k23 : PySem.W.keepIn K (.ref f23) = true)
  (a24 : PySem.W.nsIn K mainGlobals "check_row" = some (some (.ref f24))) (l24 : K.lookup f24 = some ⟨oc24, od24, .func (PySem.W.fnOf "check_row" "check_row" (defArgs s_check_row) (defBody s_check_row) (defScope s_check_row) .none kV24 dc24 pm24 an24 cd24 ct24), sl24⟩) (c24 : PySem.W.codeIn K cd24 "check_row" = true) (k24 : PySem.W.keepIn K (.ref f24) = true)
  (a25 : PySem.W.nsIn K mainGlobals "check_grid" = some (some (.ref f25))) (l25 : K.lookup f25 = some ⟨oc25, od25, .func (PySem.W.fnOf "check_grid" "check_grid" (defArgs s_check_grid) (defBody s_check_grid) (defScope s_check_grid) .none kV25 dc25 pm25 an25 cd25 ct25), sl25⟩) (c25 : PySem.W.codeIn K cd25 "check_grid" = true) (k25 : PySem.W.keepIn K (.ref f25) = true)
  (a26 : PySem.W.nsIn K mainGlobals "check_grids" = some (some (.ref f26))) (l26 : K.lookup f26 = some ⟨oc26, od26, .func (PySem.W.fnOf "check_grids" "check_grids" (defArgs s_check_grids) (defBody s_check_grids) (defScope s_check_grids) .none kV26 dc26 pm26 an26 cd26 ct26), sl26⟩) (c26 : PySem.W.codeIn K cd26 "check_grids" = true) (k26 : PySem.W.keepIn K (.ref f26) = true)
  (a27 : PySem.W.nsIn K mainGlobals "check_integer" = some (some (.ref f27))) (l27 : K.lookup f27 = some ⟨oc27, od27, .func (PySem.W.fnOf "check_integer" "check_integer" (defArgs s_check_integer) (defBody s_check_integer) (defScope s_check_integer) .none kV27 dc27 pm27 an27 cd27 ct27), sl27⟩) (c27 : PySem.W.codeIn K cd27 "check_integer" = true) (k27 : PySem.W.keepIn K (.ref f27) = true)
  (a28 : PySem.W.nsIn K mainGlobals "check_between" = some (some (.ref f28))) (l28 : K.lookup f28 = some ⟨oc28, od28, .func (PySem.W.fnOf "check_between" "check_between" (defArgs s_check_between) (defBody s_check_between) (defScope s_check_between) .none kV28 dc28 pm28 an28 cd28 ct28), sl28⟩) (c28 : PySem.W.codeIn K cd28 "check_between" = true) (k28 : PySem.W.keepIn K (.ref f28) = true)
  (a29 : PySem.W.nsIn K mainGlobals "check_least" = some (some (.ref f29))) (l29 : K.lookup f29 = some ⟨oc29, od29, .func (PySem.W.fnOf "check_least" "check_least" (defArgs s_check_least) (defBody s_check_least) (defScope s_check_least) .none kV29 dc29 pm29 an29 cd29 ct29), sl29⟩) (c29 : PySem.W.codeIn K cd29 "check_least" = true) (k29 : PySem.W.keepIn K (.ref f29) = true)
  (a30 : PySem.W.nsIn K mainGlobals "check_fit" = some (some (.ref f30))) (l30 : K.lookup f30 = some ⟨oc30, od30, .func (PySem.W.fnOf "check_fit" "check_fit" (defArgs s_check_fit) (defBody s_check_fit) (defScope s_check_fit) .none kV30 dc30 pm30 an30 cd30 ct30), sl30⟩) (c30 : PySem.W.codeIn K cd30 "check_fit" = true) (k30 : PySem.W.keepIn K (.ref f30) = true)
  (a31 : PySem.W.nsIn K mainGlobals "check_rows" = some (some (.ref f31))) (l31 : K.lookup f31 = some ⟨oc31, od31, .func (PySem.W.fnOf "check_rows" "check_rows" (defArgs s_check_rows) (defBody s_check_rows) (defScope s_check_rows) .none kV31 dc31 pm31 an31 cd31 ct31), sl31⟩) (c31 : PySem.W.codeIn K cd31 "check_rows" = true) (k31 : PySem.W.keepIn K (.ref f31) = true)
  (a32 : PySem.W.nsIn K mainGlobals "dot" = some (some (.ref f32))) (l32 : K.lookup f32 = some ⟨oc32, od32, .func (PySem.W.fnOf "dot" "dot" (defArgs s_dot) (defBody s_dot) (defScope s_dot) .none kV32 dc32 pm32 an32 cd32 ct32), sl32⟩) (c32 : PySem.W.codeIn K cd32 "dot" = true) (k32 : PySem.W.keepIn K (.ref f32) = true)
  (a33 : PySem.W.nsIn K mainGlobals "row_sum" = some (some (.ref f33))) (l33 : K.lookup f33 = some ⟨oc33, od33, .func (PySem.W.fnOf "row_sum" "row_sum" (defArgs s_row_sum) (defBody s_row_sum) (defScope s_row_sum) .none kV33 dc33 pm33 an33 cd33 ct33), sl33⟩) (c33 : PySem.W.codeIn K cd33 "row_sum" = true) (k33 : PySem.W.keepIn K (.ref f33) = true)
  (a34 : PySem.W.nsIn K mainGlobals "row_difference" = some (some (.ref f34))) (l34 : K.lookup f34 = some ⟨oc34, od34, .func (PySem.W.fnOf "row_difference" "row_difference" (defArgs s_row_difference) (defBody s_row_difference) (defScope s_row_difference) .none kV34 dc34 pm34 an34 cd34 ct34), sl34⟩) (c34 : PySem.W.codeIn K cd34 "row_difference" = true) (k34 : PySem.W.keepIn K (.ref f34) = true)
  (a35 : PySem.W.nsIn K mainGlobals "row_multiple" = some (some (.ref f35))) (l35 : K.lookup f35 = some ⟨oc35, od35, .func (PySem.W.fnOf "row_multiple" "row_multiple" (defArgs s_row_multiple) (defBody s_row_multiple) (defScope s_row_multiple) .none kV35 dc35 pm35 an35 cd35 ct35), sl35⟩) (c35 : PySem.W.codeIn K cd35 "row_multiple" = true) (k35 : PySem.W.keepIn K (.ref f35) = true)
  (a36 : PySem.W.nsIn K mainGlobals "is_nought" = some (some (.ref f36))) (l36 : K.lookup f36 = some ⟨oc36, od36, .func (PySem.W.fnOf "is_nought" "is_nought" (defArgs s_is_nought) (defBody s_is_nought) (defScope s_is_nought) .none kV36 dc36 pm36 an36 cd36 ct36), sl36⟩) (c36 : PySem.W.codeIn K cd36 "is_nought" = true) (k36 : PySem.W.keepIn K (.ref f36) = true)
  (a37 : PySem.W.nsIn K mainGlobals "shared" = some (some (.ref f37))) (l37 : K.lookup f37 = some ⟨oc37, od37, .func (PySem.W.fnOf "shared" "shared" (defArgs s_shared) (defBody s_shared) (defScope s_shared) .none kV37 dc37 pm37 an37 cd37 ct37), sl37⟩) (c37 : PySem.W.codeIn K cd37 "shared" = true) (k37 : PySem.W.keepIn K (.ref f37) = true)
  (a38 : PySem.W.nsIn K mainGlobals "unit_grid" = some (some (.ref f38))) (l38 : K.lookup f38 = some ⟨oc38, od38, .func (PySem.W.fnOf "unit_grid" "unit_grid" (defArgs s_unit_grid) (defBody s_unit_grid) (defScope s_unit_grid) .none kV38 dc38 pm38 an38 cd38 ct38), sl38⟩) (c38 : PySem.W.codeIn K cd38 "unit_grid" = true) (k38 : PySem.W.keepIn K (.ref f38) = true)
  (a39 : PySem.W.nsIn K mainGlobals "nought_grid" = some (some (.ref f39))) (l39 : K.lookup f39 = some ⟨oc39, od39, .func (PySem.W.fnOf "nought_grid" "nought_grid" (defArgs s_nought_grid) (defBody s_nought_grid) (defScope s_nought_grid) .none kV39 dc39 pm39 an39 cd39 ct39), sl39⟩) (c39 : PySem.W.codeIn K cd39 "nought_grid" = true) (k39 : PySem.W.keepIn K (.ref f39) = true)
  (a40 : PySem.W.nsIn K mainGlobals "turned" = some (some (.ref f40))) (l40 : K.lookup f40 = some ⟨oc40, od40, .func (PySem.W.fnOf "turned" "turned" (defArgs s_turned) (defBody s_turned) (defScope s_turned) .none kV40 dc40 pm40 an40 cd40 ct40), sl40⟩) (c40 : PySem.W.codeIn K cd40 "turned" = true) (k40 : PySem.W.keepIn K (.ref f40) = true)
  (a41 : PySem.W.nsIn K mainGlobals "grid_multiple" = some (some (.ref f41))) (l41 : K.lookup f41 = some ⟨oc41, od41, .func (PySem.W.fnOf "grid_multiple" "grid_multiple" (defArgs s_grid_multiple) (defBody s_grid_multiple) (defScope s_grid_multiple) .none kV41 dc41 pm41 an41 cd41 ct41), sl41⟩) (c41 : PySem.W.codeIn K cd41 "grid_multiple" = true) (k41 : PySem.W.keepIn K (.ref f41) = true)
  (a42 : PySem.W.nsIn K mainGlobals "check_like" = some (some (.ref f42))) (l42 : K.lookup f42 = some ⟨oc42, od42, .func (PySem.W.fnOf "check_like" "check_like" (defArgs s_check_like) (defBody s_check_like) (defScope s_check_like) .none kV42 dc42 pm42 an42 cd42 ct42), sl42⟩) (c42 : PySem.W.codeIn K cd42 "check_like" = true) (k42 : PySem.W.keepIn K (.ref f42) = true)
  (a43 : PySem.W.nsIn K mainGlobals "grid_sum" = some (some (.ref f43))) (l43 : K.lookup f43 = some ⟨oc43, od43, .func (PySem.W.fnOf "grid_sum" "grid_sum" (defArgs s_grid_sum) (defBody s_grid_sum) (defScope s_grid_sum) .none kV43 dc43 pm43 an43 cd43 ct43), sl43⟩) (c43 : PySem.W.codeIn K cd43 "grid_sum" = true) (k43 : PySem.W.keepIn K (.ref f43) = true)
  (a44 : PySem.W.nsIn K mainGlobals "grid_difference" = some (some (.ref f44))) (l44 : K.lookup f44 = some ⟨oc44, od44, .func (PySem.W.fnOf "grid_difference" "grid_difference" (defArgs s_grid_difference) (defBody s_grid_difference) (defScope s_grid_difference) .none kV44 dc44 pm44 an44 cd44 ct44), sl44⟩) (c44 : PySem.W.codeIn K cd44 "grid_difference" = true) (k44 : PySem.W.keepIn K (.ref f44) = true)
  (a45 : PySem.W.nsIn K mainGlobals "grid_product" = some (some (.ref f45))) (l45 : K.lookup f45 = some ⟨oc45, od45, .func (PySem.W.fnOf "grid_product" "grid_product" (defArgs s_grid_product) (defBody s_grid_product) (defScope s_grid_product) .none kV45 dc45 pm45 an45 cd45 ct45), sl45⟩) (c45 : PySem.W.codeIn K cd45 "grid_product" = true) (k45 : PySem.W.keepIn K (.ref f45) = true)
  (a46 : PySem.W.nsIn K mainGlobals "check_most" = some (some (.ref f46))) (l46 : K.lookup f46 = some ⟨oc46, od46, .func (PySem.W.fnOf "check_most" "check_most" (defArgs s_check_most) (defBody s_check_most) (defScope s_check_most) .none kV46 dc46 pm46 an46 cd46 ct46), sl46⟩) (c46 : PySem.W.codeIn K cd46 "check_most" = true) (k46 : PySem.W.keepIn K (.ref f46) = true)
  (a47 : PySem.W.nsIn K mainGlobals "beside" = some (some (.ref f47))) (l47 : K.lookup f47 = some ⟨oc47, od47, .func (PySem.W.fnOf "beside" "beside" (defArgs s_beside) (defBody s_beside) (defScope s_beside) .none kV47 dc47 pm47 an47 cd47 ct47), sl47⟩) (c47 : PySem.W.codeIn K cd47 "beside" = true) (k47 : PySem.W.keepIn K (.ref f47) = true)
  (a48 : PySem.W.nsIn K mainGlobals "over" = some (some (.ref f48))) (l48 : K.lookup f48 = some ⟨oc48, od48, .func (PySem.W.fnOf "over" "over" (defArgs s_over) (defBody s_over) (defScope s_over) .none kV48 dc48 pm48 an48 cd48 ct48), sl48⟩) (c48 : PySem.W.codeIn K cd48 "over" = true) (k48 : PySem.W.keepIn K (.ref f48) = true)
  (a49 : PySem.W.nsIn K mainGlobals "led" = some (some (.ref f49))) (l49 : K.lookup f49 = some ⟨oc49, od49, .func (PySem.W.fnOf "led" "led" (defArgs s_led) (defBody s_led) (defScope s_led) .none kV49 dc49 pm49 an49 cd49 ct49), sl49⟩) (c49 : PySem.W.codeIn K cd49 "led" = true) (k49 : PySem.W.keepIn K (.ref f49) = true)
  (a50 : PySem.W.nsIn K mainGlobals "read_by" = some (some (.ref f50))) (l50 : K.lookup f50 = some ⟨oc50, od50, .func (PySem.W.fnOf "read_by" "read_by" (defArgs s_read_by) (defBody s_read_by) (defScope s_read_by) .none kV50 dc50 pm50 an50 cd50 ct50), sl50⟩) (c50 : PySem.W.codeIn K cd50 "read_by" = true) (k50 : PySem.W.keepIn K (.ref f50) = true)
  (a51 : PySem.W.nsIn K mainGlobals "_law_hat" = some (some (.ref f51))) (l51 : K.lookup f51 = some ⟨oc51, od51, .func (PySem.W.fnOf "_law_hat" "_law_hat" (defArgs s_law_hat) (defBody s_law_hat) (defScope s_law_hat) .none kV51 dc51 pm51 an51 cd51 ct51), sl51⟩) (c51 : PySem.W.codeIn K cd51 "_law_hat" = true) (k51 : PySem.W.keepIn K (.ref f51) = true)
  (a52 : PySem.W.nsIn K mainGlobals "_law_up_to" = some (some (.ref f52))) (l52 : K.lookup f52 = some ⟨oc52, od52, .func (PySem.W.fnOf "_law_up_to" "_law_up_to" (defArgs s_law_up_to) (defBody s_law_up_to) (defScope s_law_up_to) .none kV52 dc52 pm52 an52 cd52 ct52), sl52⟩) (c52 : PySem.W.codeIn K cd52 "_law_up_to" = true) (k52 : PySem.W.keepIn K (.ref f52) = true)
  (a53 : PySem.W.nsIn K mainGlobals "_law_out_of" = some (some (.ref f53))) (l53 : K.lookup f53 = some ⟨oc53, od53, .func (PySem.W.fnOf "_law_out_of" "_law_out_of" (defArgs s_law_out_of) (defBody s_law_out_of) (defScope s_law_out_of) .none kV53 dc53 pm53 an53 cd53 ct53), sl53⟩) (c53 : PySem.W.codeIn K cd53 "_law_out_of" = true) (k53 : PySem.W.keepIn K (.ref f53) = true)
  (a54 : PySem.W.nsIn K mainGlobals "_law_met" = some (some (.ref f54))) (l54 : K.lookup f54 = some ⟨oc54, od54, .func (PySem.W.fnOf "_law_met" "_law_met" (defArgs s_law_met) (defBody s_law_met) (defScope s_law_met) .none kV54 dc54 pm54 an54 cd54 ct54), sl54⟩) (c54 : PySem.W.codeIn K cd54 "_law_met" = true) (k54 : PySem.W.keepIn K (.ref f54) = true)
  (a55 : PySem.W.nsIn K mainGlobals "_law_grids_right" = some (some (.ref f55))) (l55 : K.lookup f55 = some ⟨oc55, od55, .func (PySem.W.fnOf "_law_grids_right" "_law_grids_right" (defArgs s_law_grids_right) (defBody s_law_grids_right) (defScope s_law_grids_right) .none kV55 dc55 pm55 an55 (.ref cc55) ct55), sl55⟩) (c55 : PySem.W.codeIn K (.ref cc55) "_law_grids_right" = true) (k55 : PySem.W.keepIn K (.ref f55) = true)
  (a56 : PySem.W.nsIn K mainGlobals "_law_rows_right" = some (some (.ref f56))) (l56 : K.lookup f56 = some ⟨oc56, od56, .func (PySem.W.fnOf "_law_rows_right" "_law_rows_right" (defArgs s_law_rows_right) (defBody s_law_rows_right) (defScope s_law_rows_right) .none kV56 dc56 pm56 an56 (.ref cc56) ct56), sl56⟩) (c56 : PySem.W.codeIn K (.ref cc56) "_law_rows_right" = true) (k56 : PySem.W.keepIn K (.ref f56) = true)
  (a57 : PySem.W.nsIn K mainGlobals "law" = some (some (.ref f57))) (l57 : K.lookup f57 = some ⟨oc57, od57, .func (PySem.W.fnOf "law" "law" (defArgs s_law) (defBody s_law) (defScope s_law) .none kV57 dc57 pm57 an57 (.ref cc57) ct57), sl57⟩) (c57 : PySem.W.codeIn K (.ref cc57) "law" = true) (k57 : PySem.W.keepIn K (.ref f57) = true)
  (t55 : PySem.W.tabIn K "_law_grids_right" = some (cc55, PP55)) (h55 : PySem.W.codeHdIn K cc55 PP55 = true) (n55 : K.lookup PP55 = none) (m55 : PP55 ∈ ts)
  (t56 : PySem.W.tabIn K "_law_rows_right" = some (cc56, PP56)) (h56 : PySem.W.codeHdIn K cc56 PP56 = true) (n56 : K.lookup PP56 = none) (m56 : PP56 ∈ ts)
  (t57 : PySem.W.tabIn K "law" = some (cc57, PP57)) (h57 : PySem.W.codeHdIn K cc57 PP57 = true) (n57 : K.lookup PP57 = none) (m57 : PP57 ∈ ts)
  (d55_56 : PP55 ≠ PP56)
  (d55_57 : PP55 ≠ PP57)
  (d56_57 : PP56 ≠ PP57)
  {t_MAX_SIZE : Tok} (g_MAX_SIZE : PySem.W.nsIn K mainGlobals "MAX_SIZE" = some (some (.int 60 t_MAX_SIZE)))
  {t_TOO_LONG : Tok} (g_TOO_LONG : PySem.W.nsIn K mainGlobals "TOO_LONG" = some (some (.int 1000000000000 t_TOO_LONG)))
  (z_abs : PySem.W.nsIn K mainGlobals "abs" = some none)
  (z_all : PySem.W.nsIn K mainGlobals "all" = some none)
  (z_bool : PySem.W.nsIn K mainGlobals "bool" = some none)
  (z_int : PySem.W.nsIn K mainGlobals "int" = some none)
  (z_isinstance : PySem.W.nsIn K mainGlobals "isinstance" = some none)
  (z_len : PySem.W.nsIn K mainGlobals "len" = some none)
  (z_list : PySem.W.nsIn K mainGlobals "list" = some none)
  (z_max : PySem.W.nsIn K mainGlobals "max" = some none)
  (z_min : PySem.W.nsIn K mainGlobals "min" = some none)
  (z_range : PySem.W.nsIn K mainGlobals "range" = some none)
  (z_repr : PySem.W.nsIn K mainGlobals "repr" = some none)
  (z_sum : PySem.W.nsIn K mainGlobals "sum" = some none)
  (z_tuple : PySem.W.nsIn K mainGlobals "tuple" = some none)
  (z_zip : PySem.W.nsIn K mainGlobals "zip" = some none)
  {A_InvalidGrid : Addr}
  (g_InvalidGrid : PySem.W.nsIn K mainGlobals "InvalidGrid" = some (some (.ref A_InvalidGrid))) (q_InvalidGrid : PySem.W.excIn K A_InvalidGrid [.type "ValueError", .type "Exception", .type "BaseException", .type "object"] "ValueError.__new__" = true) (k_InvalidGrid : PySem.W.keepIn K (.ref A_InvalidGrid) = true) (e_InvalidGrid : PySem.W.subIn K (.ref A_InvalidGrid) (.type "BaseException") = some true) (y_InvalidGrid : PySem.W.typeIn K (.ref A_InvalidGrid) = some (.type "type"))
  {A_InvalidNumber : Addr}
  {I_InvalidNumber : Addr} {nm_InvalidNumber qn_InvalidNumber ql_InvalidNumber : Str} {N_InvalidNumber : Addr} {bs_InvalidNumber : List Value} {sn_InvalidNumber : List Str} {su_InvalidNumber : List Value} {ab_InvalidNumber : Bool} {co_InvalidNumber : Option Bool} {dd_InvalidNumber : Option Addr} {m0_InvalidNumber m1_InvalidNumber m2_InvalidNumber m3_InvalidNumber m5_InvalidNumber : Option Value}
  {oI_InvalidNumber dI_InvalidNumber pI_InvalidNumber vI_InvalidNumber tI_InvalidNumber : Value} {nI_InvalidNumber aI_InvalidNumber : Option Addr} {sI_InvalidNumber : Array (Option Value)} {p1_InvalidNumber p2_InvalidNumber q1_InvalidNumber q2_InvalidNumber q3_InvalidNumber q4_InvalidNumber : Pos}
  (g_InvalidNumber : PySem.W.nsIn K mainGlobals "InvalidNumber" = some (some (.ref A_InvalidNumber))) (xL_InvalidNumber : K.lookup A_InvalidNumber = some (PySem.OwnEx.excCls nm_InvalidNumber ql_InvalidNumber A_InvalidNumber N_InvalidNumber bs_InvalidNumber [.type "IndexError", .type "LookupError", .type "Exception", .type "BaseException", .type "object"] sn_InvalidNumber su_InvalidNumber ab_InvalidNumber co_InvalidNumber dd_InvalidNumber m0_InvalidNumber m1_InvalidNumber m2_InvalidNumber m3_InvalidNumber m5_InvalidNumber "IndexError.__new__")) (sa_InvalidNumber : PySem.W.findIn K (.ref A_InvalidNumber) "__setattr__" = some (some (.builtin "object.__setattr__"))) (no_InvalidNumber : PySem.W.findIn K (.ref A_InvalidNumber) "given" = some none) (iC_InvalidNumber : PySem.W.findIn K (.ref A_InvalidNumber) "__init__" = some (some (.ref I_InvalidNumber))) (ti_InvalidNumber : PySem.W.typeIn K (.ref I_InvalidNumber) = some (.type "function")) (lI_InvalidNumber : K.lookup I_InvalidNumber = some ⟨oI_InvalidNumber, nI_InvalidNumber, .func (PySem.W.fnOf "__init__" qn_InvalidNumber (PySem.OwnEx.inArgs "given" p1_InvalidNumber p2_InvalidNumber) (PySem.OwnEx.inBody "given" q1_InvalidNumber q2_InvalidNumber q3_InvalidNumber q4_InvalidNumber) (PySem.OwnEx.inScope "given") .none .none dI_InvalidNumber pI_InvalidNumber aI_InvalidNumber vI_InvalidNumber tI_InvalidNumber), sI_InvalidNumber⟩) (cI_InvalidNumber : PySem.W.codeIn K vI_InvalidNumber qn_InvalidNumber = true) (k_InvalidNumber : PySem.W.keepIn K (.ref A_InvalidNumber) = true) (e_InvalidNumber : PySem.W.subIn K (.ref A_InvalidNumber) (.type "BaseException") = some true) (y_InvalidNumber : PySem.W.typeIn K (.ref A_InvalidNumber) = some (.type "type")) (ga_InvalidNumber : PySem.W.findIn K (.ref A_InvalidNumber) "__getattribute__" = some (some (.builtin "BaseException.__getattribute__"))) (gg_InvalidNumber : PySem.W.findIn K (.ref A_InvalidNumber) "__getattr__" = some none) (hd_InvalidNumber : PySem.W.hasDictIn K A_InvalidNumber = true)
  {A_InvalidOperation : Addr}
  (g_InvalidOperation : PySem.W.nsIn K mainGlobals "InvalidOperation" = some (some (.ref A_InvalidOperation))) (q_InvalidOperation : PySem.W.excIn K A_InvalidOperation [.type "ValueError", .type "Exception", .type "BaseException", .type "object"] "ValueError.__new__" = true) (k_InvalidOperation : PySem.W.keepIn K (.ref A_InvalidOperation) = true) (e_InvalidOperation : PySem.W.subIn K (.ref A_InvalidOperation) (.type "BaseException") = some true) (y_InvalidOperation : PySem.W.typeIn K (.ref A_InvalidOperation) = some (.type "type"))
  {A_InvalidRow : Addr}
  (g_InvalidRow : PySem.W.nsIn K mainGlobals "InvalidRow" = some (some (.ref A_InvalidRow))) (q_InvalidRow : PySem.W.excIn K A_InvalidRow [.type "ValueError", .type "Exception", .type "BaseException", .type "object"] "ValueError.__new__" = true) (k_InvalidRow : PySem.W.keepIn K (.ref A_InvalidRow) = true) (e_InvalidRow : PySem.W.subIn K (.ref A_InvalidRow) (.type "BaseException") = some true) (y_InvalidRow : PySem.W.typeIn K (.ref A_InvalidRow) = some (.type "type"))
  {A_TooMany : Addr}
  {I_TooMany : Addr} {nm_TooMany qn_TooMany ql_TooMany : Str} {N_TooMany : Addr} {bs_TooMany : List Value} {sn_TooMany : List Str} {su_TooMany : List Value} {ab_TooMany : Bool} {co_TooMany : Option Bool} {dd_TooMany : Option Addr} {m0_TooMany m1_TooMany m2_TooMany m3_TooMany m5_TooMany : Option Value}
  {oI_TooMany dI_TooMany pI_TooMany vI_TooMany tI_TooMany : Value} {nI_TooMany aI_TooMany : Option Addr} {sI_TooMany : Array (Option Value)} {p1_TooMany p2_TooMany q1_TooMany q2_TooMany q3_TooMany q4_TooMany : Pos}
  (g_TooMany : PySem.W.nsIn K mainGlobals "TooMany" = some (some (.ref A_TooMany))) (xL_TooMany : K.lookup A_TooMany = some (PySem.OwnEx.excCls nm_TooMany ql_TooMany A_TooMany N_TooMany bs_TooMany [.type "OverflowError", .type "ArithmeticError", .type "Exception", .type "BaseException", .type "object"] sn_TooMany su_TooMany ab_TooMany co_TooMany dd_TooMany m0_TooMany m1_TooMany m2_TooMany m3_TooMany m5_TooMany "OverflowError.__new__")) (sa_TooMany : PySem.W.findIn K (.ref A_TooMany) "__setattr__" = some (some (.builtin "object.__setattr__"))) (no_TooMany : PySem.W.findIn K (.ref A_TooMany) "most" = some none) (iC_TooMany : PySem.W.findIn K (.ref A_TooMany) "__init__" = some (some (.ref I_TooMany))) (ti_TooMany : PySem.W.typeIn K (.ref I_TooMany) = some (.type "function")) (lI_TooMany : K.lookup I_TooMany = some ⟨oI_TooMany, nI_TooMany, .func (PySem.W.fnOf "__init__" qn_TooMany (PySem.OwnEx.inArgs "most" p1_TooMany p2_TooMany) (PySem.OwnEx.inBody "most" q1_TooMany q2_TooMany q3_TooMany q4_TooMany) (PySem.OwnEx.inScope "most") .none .none dI_TooMany pI_TooMany aI_TooMany vI_TooMany tI_TooMany), sI_TooMany⟩) (cI_TooMany : PySem.W.codeIn K vI_TooMany qn_TooMany = true) (k_TooMany : PySem.W.keepIn K (.ref A_TooMany) = true) (e_TooMany : PySem.W.subIn K (.ref A_TooMany) (.type "BaseException") = some true) (y_TooMany : PySem.W.typeIn K (.ref A_TooMany) = some (.type "type")) (ga_TooMany : PySem.W.findIn K (.ref A_TooMany) "__getattribute__" = some (some (.builtin "BaseException.__getattribute__"))) (gg_TooMany : PySem.W.findIn K (.ref A_TooMany) "__getattr__" = some none) (hd_TooMany : PySem.W.hasDictIn K A_TooMany = true)
  (e_InvalidGrid_InvalidGrid : PySem.W.exmOne K (.ref A_InvalidGrid) (.ref A_InvalidGrid) = some true) (e_InvalidNumber_InvalidGrid : PySem.W.exmOne K (.ref A_InvalidNumber) (.ref A_InvalidGrid) = some false) (e_InvalidOperation_InvalidGrid : PySem.W.exmOne K (.ref A_InvalidOperation) (.ref A_InvalidGrid) = some false) (e_InvalidRow_InvalidGrid : PySem.W.exmOne K (.ref A_InvalidRow) (.ref A_InvalidGrid) = some false) (e_TooMany_InvalidGrid : PySem.W.exmOne K (.ref A_TooMany) (.ref A_InvalidGrid) = some false)
  (e_InvalidGrid_InvalidRow : PySem.W.exmOne K (.ref A_InvalidGrid) (.ref A_InvalidRow) = some false) (e_InvalidNumber_InvalidRow : PySem.W.exmOne K (.ref A_InvalidNumber) (.ref A_InvalidRow) = some false) (e_InvalidOperation_InvalidRow : PySem.W.exmOne K (.ref A_InvalidOperation) (.ref A_InvalidRow) = some false) (e_InvalidRow_InvalidRow : PySem.W.exmOne K (.ref A_InvalidRow) (.ref A_InvalidRow) = some true) (e_TooMany_InvalidRow : PySem.W.exmOne K (.ref A_TooMany) (.ref A_InvalidRow) = some false)
  (e_InvalidGrid_InvalidOperation : PySem.W.exmOne K (.ref A_InvalidGrid) (.ref A_InvalidOperation) = some false) (e_InvalidNumber_InvalidOperation : PySem.W.exmOne K (.ref A_InvalidNumber) (.ref A_InvalidOperation) = some false) (e_InvalidOperation_InvalidOperation : PySem.W.exmOne K (.ref A_InvalidOperation) (.ref A_InvalidOperation) = some true) (e_InvalidRow_InvalidOperation : PySem.W.exmOne K (.ref A_InvalidRow) (.ref A_InvalidOperation) = some false) (e_TooMany_InvalidOperation : PySem.W.exmOne K (.ref A_TooMany) (.ref A_InvalidOperation) = some false)
  (e_InvalidGrid_InvalidNumber : PySem.W.exmOne K (.ref A_InvalidGrid) (.ref A_InvalidNumber) = some false) (e_InvalidNumber_InvalidNumber : PySem.W.exmOne K (.ref A_InvalidNumber) (.ref A_InvalidNumber) = some true) (e_InvalidOperation_InvalidNumber : PySem.W.exmOne K (.ref A_InvalidOperation) (.ref A_InvalidNumber) = some false) (e_InvalidRow_InvalidNumber : PySem.W.exmOne K (.ref A_InvalidRow) (.ref A_InvalidNumber) = some false) (e_TooMany_InvalidNumber : PySem.W.exmOne K (.ref A_TooMany) (.ref A_InvalidNumber) = some false)
  (e_InvalidGrid_TooMany : PySem.W.exmOne K (.ref A_InvalidGrid) (.ref A_TooMany) = some false) (e_InvalidNumber_TooMany : PySem.W.exmOne K (.ref A_InvalidNumber) (.ref A_TooMany) = some false) (e_InvalidOperation_TooMany : PySem.W.exmOne K (.ref A_InvalidOperation) (.ref A_TooMany) = some false) (e_InvalidRow_TooMany : PySem.W.exmOne K (.ref A_InvalidRow) (.ref A_TooMany) = some false) (e_TooMany_TooMany : PySem.W.exmOne K (.ref A_TooMany) (.ref A_TooMany) = some true)
  : LawAtG l w K CX0 15 63 "script" mg fa h := by
  letI I : Mir.Tb := ⟨[(PP55, (envOfC "_law_grids_right" (defScope s_law_grids_right) 0 0 .none).qual ++ Str.ofString "<lambda>"), (PP56, (envOfC "_law_rows_right" (defScope s_law_rows_right) 0 0 .none).qual ++ Str.ofString "<lambda>"), (PP57, (envOfC "law" (defScope s_law) 0 0 .none).qual ++ Str.ofString "<lambda>")], [f43, f44, f45, f47, f48, f32, f33, f34]⟩
  have e := hfa.symm.trans (PySem.W.mg_of X G a57)
  cases e
  have F0 := fun_mk (st := s_plain_dot) l0 c0 k0
  have b0 := F0.binds (ps := ["one", "other"]) fun _ _ _ _ _ _ us hl => match us, hl with | [_, _], _ => rfl
  have F1 := fun_mk (st := s_row_more) l1 c1 k1
  have b1 := F1.binds (ps := ["one", "other"]) fun _ _ _ _ _ _ us hl => match us, hl with | [_, _], _ => rfl
  have F2 := fun_mk (st := s_row_less) l2 c2 k2
  have b2 := F2.binds (ps := ["one", "other"]) fun _ _ _ _ _ _ us hl => match us, hl with | [_, _], _ => rfl
  have F3 := fun_mk (st := s_plain_led) l3 c3 k3
  have b3 := F3.binds (ps := ["grid", "row"]) fun _ _ _ _ _ _ us hl => match us, hl with | [_, _], _ => rfl
  have F4 := fun_mk (st := s_plain_grid) l4 c4 k4
  have b4 := F4.binds (ps := ["rows", "width"]) fun _ _ _ _ _ _ us hl => match us, hl with | [_, _], _ => rfl
  have F5 := fun_mk (st := s_turned_rows_of) l5 c5 k5
  have b5 := F5.binds (ps := ["rows", "width"]) fun _ _ _ _ _ _ us hl => match us, hl with | [_, _], _ => rfl
  have F6 := fun_mk (st := s_plain_turned) l6 c6 k6
  have b6 := F6.binds (ps := ["grid"]) fun _ _ _ _ _ _ us hl => match us, hl with | [_], _ => rfl
  have F7 := fun_mk (st := s_plain_product) l7 c7 k7
  have b7 := F7.binds (ps := ["one", "other"]) fun _ _ _ _ _ _ us hl => match us, hl with | [_, _], _ => rfl
  have F8 := fun_mk (st := s_plain_difference) l8 c8 k8
  have b8 := F8.binds (ps := ["one", "other"]) fun _ _ _ _ _ _ us hl => match us, hl with | [_, _], _ => rfl
  have F9 := fun_mk (st := s_plain_multiple) l9 c9 k9
  have b9 := F9.binds (ps := ["grid", "number"]) fun _ _ _ _ _ _ us hl => match us, hl with | [_, _], _ => rfl
  have F10 := fun_mk (st := s_plain_sum) l10 c10 k10
  have b10 := F10.binds (ps := ["one", "other"]) fun _ _ _ _ _ _ us hl => match us, hl with | [_, _], _ => rfl
  have F11 := fun_mk (st := s_plain_read) l11 c11 k11
  have b11 := F11.binds (ps := ["row", "grid"]) fun _ _ _ _ _ _ us hl => match us, hl with | [_, _], _ => rfl
  have F12 := fun_mk (st := s_plain_beside) l12 c12 k12
  have b12 := F12.binds (ps := ["one", "other"]) fun _ _ _ _ _ _ us hl => match us, hl with | [_, _], _ => rfl
  have F13 := fun_mk (st := s_is_multiple) l13 c13 k13
  have b13 := F13.binds (ps := ["number", "modulus"]) fun _ _ _ _ _ _ us hl => match us, hl with | [_, _], _ => rfl
  have F14 := fun_mk (st := s_plain_unit) l14 c14 k14
  have b14 := F14.binds (ps := ["size"]) fun _ _ _ _ _ _ us hl => match us, hl with | [_], _ => rfl
  have F15 := fun_mk (st := s_plain_nought) l15 c15 k15
  have b15 := F15.binds (ps := ["height", "width"]) fun _ _ _ _ _ _ us hl => match us, hl with | [_, _], _ => rfl
  have F16 := fun_mk (st := s_bezout) l16 c16 k16
  have b16 := F16.binds (ps := ["one", "other"]) fun _ _ _ _ _ _ us hl => match us, hl with | [_, _], _ => rfl
  have F17 := fun_mk (st := s_is_long_integer) l17 c17 k17
  have b17 := F17.binds (ps := ["value"]) fun _ _ _ _ _ _ us hl => match us, hl with | [_], _ => rfl
  have F18 := fun_mk (st := s_is_integer) l18 c18 k18
  have b18 := F18.binds (ps := ["value"]) fun _ _ _ _ _ _ us hl => match us, hl with | [_], _ => rfl
  have F19 := fun_mk (st := s_is_between) l19 c19 k19
  have b19 := F19.binds (ps := ["value", "least", "greatest"]) fun _ _ _ _ _ _ us hl => match us, hl with | [_, _, _], _ => rfl
  have F20 := fun_mk (st := s_is_long_row) l20 c20 k20
  have b20 := F20.binds (ps := ["value"]) fun _ _ _ _ _ _ us hl => match us, hl with | [_], _ => rfl
  have F21 := fun_mk (st := s_is_row) l21 c21 k21
  have b21 := F21.binds (ps := ["value"]) fun _ _ _ _ _ _ us hl => match us, hl with | [_], _ => rfl
  have F22 := fun_mk (st := s_is_long_grid) l22 c22 k22
  have b22 := F22.binds (ps := ["value"]) fun _ _ _ _ _ _ us hl => match us, hl with | [_], _ => rfl
  have F23 := fun_mk (st := s_is_grid) l23 c23 k23
  have b23 := F23.binds (ps := ["value"]) fun _ _ _ _ _ _ us hl => match us, hl with | [_], _ => rfl
  have F24 := fun_mk (st := s_check_row) l24 c24 k24
  have b24 := F24.binds (ps := ["value"]) fun _ _ _ _ _ _ us hl => match us, hl with | [_], _ => rfl
  have F25 := fun_mk (st := s_check_grid) l25 c25 k25
  have b25 := F25.binds (ps := ["value"]) fun _ _ _ _ _ _ us hl => match us, hl with | [_], _ => rfl
  have F26 := fun_mk (st := s_check_grids) l26 c26 k26
  have b26 := F26.binds (ps := ["one", "other"]) fun _ _ _ _ _ _ us hl => match us, hl with | [_, _], _ => rfl
  have F27 := fun_mk (st := s_check_integer) l27 c27 k27
  have b27 := F27.binds (ps := ["value"]) fun _ _ _ _ _ _ us hl => match us, hl with | [_], _ => rfl
  have F28 := fun_mk (st := s_check_between) l28 c28 k28
  have b28 := F28.binds (ps := ["value", "least", "greatest"]) fun _ _ _ _ _ _ us hl => match us, hl with | [_, _, _], _ => rfl
  have F29 := fun_mk (st := s_check_least) l29 c29 k29
  have b29 := F29.binds (ps := ["value", "least"]) fun _ _ _ _ _ _ us hl => match us, hl with | [_, _], _ => rfl
  have F30 := fun_mk (st := s_check_fit) l30 c30 k30
  have b30 := F30.binds (ps := ["fits", "reason"]) fun _ _ _ _ _ _ us hl => match us, hl with | [_, _], _ => rfl
  have F31 := fun_mk (st := s_check_rows) l31 c31 k31
  have b31 := F31.binds (ps := ["one", "other"]) fun _ _ _ _ _ _ us hl => match us, hl with | [_, _], _ => rfl
  have F32 := fun_mk (st := s_dot) l32 c32 k32
  have b32 := F32.binds (ps := ["one", "other"]) fun _ _ _ _ _ _ us hl => match us, hl with | [_, _], _ => rfl
  have F33 := fun_mk (st := s_row_sum) l33 c33 k33
  have b33 := F33.binds (ps := ["one", "other"]) fun _ _ _ _ _ _ us hl => match us, hl with | [_, _], _ => rfl
  have F34 := fun_mk (st := s_row_difference) l34 c34 k34
  have b34 := F34.binds (ps := ["one", "other"]) fun _ _ _ _ _ _ us hl => match us, hl with | [_, _], _ => rfl
  have F35 := fun_mk (st := s_row_multiple) l35 c35 k35
  have b35 := F35.binds (ps := ["row", "number"]) fun _ _ _ _ _ _ us hl => match us, hl with | [_, _], _ => rfl
  have F36 := fun_mk (st := s_is_nought) l36 c36 k36
  have b36 := F36.binds (ps := ["value", "modulus"]) fun _ _ _ _ _ _ us hl => match us, hl with | [_, _], _ => rfl
  have F37 := fun_mk (st := s_shared) l37 c37 k37
  have b37 := F37.binds (ps := ["one", "other"]) fun _ _ _ _ _ _ us hl => match us, hl with | [_, _], _ => rfl
  have F38 := fun_mk (st := s_unit_grid) l38 c38 k38
  have b38 := F38.binds (ps := ["size"]) fun _ _ _ _ _ _ us hl => match us, hl with | [_], _ => rfl
  have F39 := fun_mk (st := s_nought_grid) l39 c39 k39
  have b39 := F39.binds (ps := ["height", "width"]) fun _ _ _ _ _ _ us hl => match us, hl with | [_, _], _ => rfl
  have F40 := fun_mk (st := s_turned) l40 c40 k40
  have b40 := F40.binds (ps := ["grid"]) fun _ _ _ _ _ _ us hl => match us, hl with | [_], _ => rfl
  have F41 := fun_mk (st := s_grid_multiple) l41 c41 k41
  have b41 := F41.binds (ps := ["grid", "number"]) fun _ _ _ _ _ _ us hl => match us, hl with | [_, _], _ => rfl
  have F42 := fun_mk (st := s_check_like) l42 c42 k42
  have b42 := F42.binds (ps := ["one", "other"]) fun _ _ _ _ _ _ us hl => match us, hl with | [_, _], _ => rfl
  have F43 := fun_mk (st := s_grid_sum) l43 c43 k43
  have b43 := F43.binds (ps := ["one", "other"]) fun _ _ _ _ _ _ us hl => match us, hl with | [_, _], _ => rfl
  have F44 := fun_mk (st := s_grid_difference) l44 c44 k44
  have b44 := F44.binds (ps := ["one", "other"]) fun _ _ _ _ _ _ us hl => match us, hl with | [_, _], _ => rfl
  have F45 := fun_mk (st := s_grid_product) l45 c45 k45
  have b45 := F45.binds (ps := ["one", "other"]) fun _ _ _ _ _ _ us hl => match us, hl with | [_, _], _ => rfl
  have F46 := fun_mk (st := s_check_most) l46 c46 k46
  have b46 := F46.binds (ps := ["size"]) fun _ _ _ _ _ _ us hl => match us, hl with | [_], _ => rfl
  have F47 := fun_mk (st := s_beside) l47 c47 k47
  have b47 := F47.binds (ps := ["one", "other"]) fun _ _ _ _ _ _ us hl => match us, hl with | [_, _], _ => rfl
  have F48 := fun_mk (st := s_over) l48 c48 k48
  have b48 := F48.binds (ps := ["one", "other"]) fun _ _ _ _ _ _ us hl => match us, hl with | [_, _], _ => rfl
  have F49 := fun_mk (st := s_led) l49 c49 k49
  have b49 := F49.binds (ps := ["grid", "row"]) fun _ _ _ _ _ _ us hl => match us, hl with | [_, _], _ => rfl
  have F50 := fun_mk (st := s_read_by) l50 c50 k50
  have b50 := F50.binds (ps := ["row", "grid"]) fun _ _ _ _ _ _ us hl => match us, hl with | [_, _], _ => rfl
  have F51 := fun_mk (st := s_law_hat) l51 c51 k51
  have b51 := F51.binds (ps := ["script", "spot"]) fun _ _ _ _ _ _ us hl => match us, hl with | [_, _], _ => rfl
  have F52 := fun_mk (st := s_law_up_to) l52 c52 k52
  have b52 := F52.binds (ps := ["hat", "total"]) fun _ _ _ _ _ _ us hl => match us, hl with | [_, _], _ => rfl
  have F53 := fun_mk (st := s_law_out_of) l53 c53 k53
  have b53 := F53.binds (ps := ["hat", "items"]) fun _ _ _ _ _ _ us hl => match us, hl with | [_, _], _ => rfl
  have F54 := fun_mk (st := s_law_met) l54 c54 k54
  have b54 := F54.binds (ps := ["call"]) fun _ _ _ _ _ _ us hl => match us, hl with | [_], _ => rfl
  have F55 := fun_mk (st := s_law_grids_right) l55 c55 k55
  have b55 := F55.binds (ps := ["hat"]) fun _ _ _ _ _ _ us hl => match us, hl with | [_], _ => rfl
  have F56 := fun_mk (st := s_law_rows_right) l56 c56 k56
  have b56 := F56.binds (ps := ["hat"]) fun _ _ _ _ _ _ us hl => match us, hl with | [_], _ => rfl
  have F57 := fun_mk (st := s_law) l57 c57 k57
  have b57 := F57.binds (ps := ["script"]) fun _ _ _ _ _ _ us hl => match us, hl with | [_], _ => rfl
  let T : Txt K mg := {
    a_plain_dot := f0, fd_plain_dot := _, F_plain_dot := F0, m_plain_dot := PySem.W.mg_of X G a0, b_plain_dot := b0,
    a_row_more := f1, fd_row_more := _, F_row_more := F1, m_row_more := PySem.W.mg_of X G a1, b_row_more := b1,
    a_row_less := f2, fd_row_less := _, F_row_less := F2, m_row_less := PySem.W.mg_of X G a2, b_row_less := b2,
    a_plain_led := f3, fd_plain_led := _, F_plain_led := F3, m_plain_led := PySem.W.mg_of X G a3, b_plain_led := b3,
    a_plain_grid := f4, fd_plain_grid := _, F_plain_grid := F4, m_plain_grid := PySem.W.mg_of X G a4, b_plain_grid := b4,
    a_turned_rows_of := f5, fd_turned_rows_of := _, F_turned_rows_of := F5, m_turned_rows_of := PySem.W.mg_of X G a5, b_turned_rows_of := b5,
    a_plain_turned := f6, fd_plain_turned := _, F_plain_turned := F6, m_plain_turned := PySem.W.mg_of X G a6, b_plain_turned := b6,
    a_plain_product := f7, fd_plain_product := _, F_plain_product := F7, m_plain_product := PySem.W.mg_of X G a7, b_plain_product := b7,
    a_plain_difference := f8, fd_plain_difference := _, F_plain_difference := F8, m_plain_difference := PySem.W.mg_of X G a8, b_plain_difference := b8,
    a_plain_multiple := f9, fd_plain_multiple := _, F_plain_multiple := F9, m_plain_multiple := PySem.W.mg_of X G a9, b_plain_multiple := b9,
    a_plain_sum := f10, fd_plain_sum := _, F_plain_sum := F10, m_plain_sum := PySem.W.mg_of X G a10, b_plain_sum := b10,
    a_plain_read := f11, fd_plain_read := _, F_plain_read := F11, m_plain_read := PySem.W.mg_of X G a11, b_plain_read := b11,
    a_plain_beside := f12, fd_plain_beside := _, F_plain_beside := F12, m_plain_beside := PySem.W.mg_of X G a12, b_plain_beside := b12,
    a_is_multiple := f13, fd_is_multiple := _, F_is_multiple := F13, m_is_multiple := PySem.W.mg_of X G a13, b_is_multiple := b13,
    a_plain_unit := f14, fd_plain_unit := _, F_plain_unit := F14, m_plain_unit := PySem.W.mg_of X G a14, b_plain_unit := b14,
    a_plain_nought := f15, fd_plain_nought := _, F_plain_nought := F15, m_plain_nought := PySem.W.mg_of X G a15, b_plain_nought := b15,
    a_bezout := f16, fd_bezout := _, F_bezout := F16, m_bezout := PySem.W.mg_of X G a16, b_bezout := b16,
    a_is_long_integer := f17, fd_is_long_integer := _, F_is_long_integer := F17, m_is_long_integer := PySem.W.mg_of X G a17, b_is_long_integer := b17,
    a_is_integer := f18, fd_is_integer := _, F_is_integer := F18, m_is_integer := PySem.W.mg_of X G a18, b_is_integer := b18,
    a_is_between := f19, fd_is_between := _, F_is_between := F19, m_is_between := PySem.W.mg_of X G a19, b_is_between := b19,
    a_is_long_row := f20, fd_is_long_row := _, F_is_long_row := F20, m_is_long_row := PySem.W.mg_of X G a20, b_is_long_row := b20,
    a_is_row := f21, fd_is_row := _, F_is_row := F21, m_is_row := PySem.W.mg_of X G a21, b_is_row := b21,
    a_is_long_grid := f22, fd_is_long_grid := _, F_is_long_grid := F22, m_is_long_grid := PySem.W.mg_of X G a22, b_is_long_grid := b22,
    a_is_grid := f23, fd_is_grid := _, F_is_grid := F23, m_is_grid := PySem.W.mg_of X G a23, b_is_grid := b23,
    a_check_row := f24, fd_check_row := _, F_check_row := F24, m_check_row := PySem.W.mg_of X G a24, b_check_row := b24,
    a_check_grid := f25, fd_check_grid := _, F_check_grid := F25, m_check_grid := PySem.W.mg_of X G a25, b_check_grid := b25,
    a_check_grids := f26, fd_check_grids := _, F_check_grids := F26, m_check_grids := PySem.W.mg_of X G a26, b_check_grids := b26,
    a_check_integer := f27, fd_check_integer := _, F_check_integer := F27, m_check_integer := PySem.W.mg_of X G a27, b_check_integer := b27,
    a_check_between := f28, fd_check_between := _, F_check_between := F28, m_check_between := PySem.W.mg_of X G a28, b_check_between := b28,
    a_check_least := f29, fd_check_least := _, F_check_least := F29, m_check_least := PySem.W.mg_of X G a29, b_check_least := b29,
    a_check_fit := f30, fd_check_fit := _, F_check_fit := F30, m_check_fit := PySem.W.mg_of X G a30, b_check_fit := b30,
    a_check_rows := f31, fd_check_rows := _, F_check_rows := F31, m_check_rows := PySem.W.mg_of X G a31, b_check_rows := b31,
    a_dot := f32, fd_dot := _, F_dot := F32, m_dot := PySem.W.mg_of X G a32, b_dot := b32,
    a_row_sum := f33, fd_row_sum := _, F_row_sum := F33, m_row_sum := PySem.W.mg_of X G a33, b_row_sum := b33,
    a_row_difference := f34, fd_row_difference := _, F_row_difference := F34, m_row_difference := PySem.W.mg_of X G a34, b_row_difference := b34,
    a_row_multiple := f35, fd_row_multiple := _, F_row_multiple := F35, m_row_multiple := PySem.W.mg_of X G a35, b_row_multiple := b35,
    a_is_nought := f36, fd_is_nought := _, F_is_nought := F36, m_is_nought := PySem.W.mg_of X G a36, b_is_nought := b36,
    a_shared := f37, fd_shared := _, F_shared := F37, m_shared := PySem.W.mg_of X G a37, b_shared := b37,
    a_unit_grid := f38, fd_unit_grid := _, F_unit_grid := F38, m_unit_grid := PySem.W.mg_of X G a38, b_unit_grid := b38,
    a_nought_grid := f39, fd_nought_grid := _, F_nought_grid := F39, m_nought_grid := PySem.W.mg_of X G a39, b_nought_grid := b39,
    a_turned := f40, fd_turned := _, F_turned := F40, m_turned := PySem.W.mg_of X G a40, b_turned := b40,
    a_grid_multiple := f41, fd_grid_multiple := _, F_grid_multiple := F41, m_grid_multiple := PySem.W.mg_of X G a41, b_grid_multiple := b41,
    a_check_like := f42, fd_check_like := _, F_check_like := F42, m_check_like := PySem.W.mg_of X G a42, b_check_like := b42,
    a_grid_sum := f43, fd_grid_sum := _, F_grid_sum := F43, m_grid_sum := PySem.W.mg_of X G a43, b_grid_sum := b43,
    a_grid_difference := f44, fd_grid_difference := _, F_grid_difference := F44, m_grid_difference := PySem.W.mg_of X G a44, b_grid_difference := b44,
    a_grid_product := f45, fd_grid_product := _, F_grid_product := F45, m_grid_product := PySem.W.mg_of X G a45, b_grid_product := b45,
    a_check_most := f46, fd_check_most := _, F_check_most := F46, m_check_most := PySem.W.mg_of X G a46, b_check_most := b46,
    a_beside := f47, fd_beside := _, F_beside := F47, m_beside := PySem.W.mg_of X G a47, b_beside := b47,
    a_over := f48, fd_over := _, F_over := F48, m_over := PySem.W.mg_of X G a48, b_over := b48,
    a_led := f49, fd_led := _, F_led := F49, m_led := PySem.W.mg_of X G a49, b_led := b49,
    a_read_by := f50, fd_read_by := _, F_read_by := F50, m_read_by := PySem.W.mg_of X G a50, b_read_by := b50,
    a_law_hat := f51, fd_law_hat := _, F_law_hat := F51, m_law_hat := PySem.W.mg_of X G a51, b_law_hat := b51,
    a_law_up_to := f52, fd_law_up_to := _, F_law_up_to := F52, m_law_up_to := PySem.W.mg_of X G a52, b_law_up_to := b52,
    a_law_out_of := f53, fd_law_out_of := _, F_law_out_of := F53, m_law_out_of := PySem.W.mg_of X G a53, b_law_out_of := b53,
    a_law_met := f54, fd_law_met := _, F_law_met := F54, m_law_met := PySem.W.mg_of X G a54, b_law_met := b54,
    a_law_grids_right := f55, fd_law_grids_right := _, F_law_grids_right := F55, m_law_grids_right := PySem.W.mg_of X G a55, b_law_grids_right := b55,
    a_law_rows_right := f56, fd_law_rows_right := _, F_law_rows_right := F56, m_law_rows_right := PySem.W.mg_of X G a56, b_law_rows_right := b56,
    a_law := fa, fd_law := _, F_law := F57, m_law := PySem.W.mg_of X G a57, b_law := b57,
    cc_law_grids_right := cc55, P_law_grids_right := PP55, C_law_grids_right := funC_mk (st := s_law_grids_right) l55 c55,
    cc_law_rows_right := cc56, P_law_rows_right := PP56, C_law_rows_right := funC_mk (st := s_law_rows_right) l56 c56,
    cc_law := cc57, P_law := PP57, C_law := funC_mk (st := s_law) l57 c57,
    d_law_grids_right_law_rows_right := d55_56,
    d_law_grids_right_law := d55_57,
    d_law_rows_right_law := d56_57,
    t_MAX_SIZE := t_MAX_SIZE, c_MAX_SIZE := PySem.W.mg_of X G g_MAX_SIZE,
    t_TOO_LONG := t_TOO_LONG, c_TOO_LONG := PySem.W.mg_of X G g_TOO_LONG,
    z_abs := PySem.W.mg_none_of X G z_abs,
    z_all := PySem.W.mg_none_of X G z_all,
    z_bool := PySem.W.mg_none_of X G z_bool,
    z_int := PySem.W.mg_none_of X G z_int,
    z_isinstance := PySem.W.mg_none_of X G z_isinstance,
    z_len := PySem.W.mg_none_of X G z_len,
    z_list := PySem.W.mg_none_of X G z_list,
    z_max := PySem.W.mg_none_of X G z_max,
    z_min := PySem.W.mg_none_of X G z_min,
    z_range := PySem.W.mg_none_of X G z_range,
    z_repr := PySem.W.mg_none_of X G z_repr,
    z_sum := PySem.W.mg_none_of X G z_sum,
    z_tuple := PySem.W.mg_none_of X G z_tuple,
    z_zip := PySem.W.mg_none_of X G z_zip,
    A_InvalidGrid := A_InvalidGrid, g_InvalidGrid := PySem.W.mg_of X G g_InvalidGrid, q_InvalidGrid := q_InvalidGrid, k_InvalidGrid := k_InvalidGrid, e_InvalidGrid := e_InvalidGrid, y_InvalidGrid := y_InvalidGrid,
    A_InvalidNumber := A_InvalidNumber, g_InvalidNumber := PySem.W.mg_of X G g_InvalidNumber, I_InvalidNumber := I_InvalidNumber, x_InvalidNumber := ⟨PySem.F.excBase_IndexError, ⟨nm_InvalidNumber, ql_InvalidNumber, N_InvalidNumber, bs_InvalidNumber, sn_InvalidNumber, su_InvalidNumber, ab_InvalidNumber, co_InvalidNumber, dd_InvalidNumber, m0_InvalidNumber, m1_InvalidNumber, m2_InvalidNumber, m3_InvalidNumber, m5_InvalidNumber, xL_InvalidNumber⟩, by decide, fun x => by rfl, sa_InvalidNumber, no_InvalidNumber, iC_InvalidNumber, ti_InvalidNumber, k_InvalidNumber, e_InvalidNumber, y_InvalidNumber, ⟨_, _, _, _, _, _, _, _, _, _, _, _, _, _, _, lI_InvalidNumber, cI_InvalidNumber⟩⟩,
    xf_InvalidNumber := ⟨ga_InvalidNumber, gg_InvalidNumber, e_InvalidNumber, hd_InvalidNumber⟩,
    A_InvalidOperation := A_InvalidOperation, g_InvalidOperation := PySem.W.mg_of X G g_InvalidOperation, q_InvalidOperation := q_InvalidOperation, k_InvalidOperation := k_InvalidOperation, e_InvalidOperation := e_InvalidOperation, y_InvalidOperation := y_InvalidOperation,
    A_InvalidRow := A_InvalidRow, g_InvalidRow := PySem.W.mg_of X G g_InvalidRow, q_InvalidRow := q_InvalidRow, k_InvalidRow := k_InvalidRow, e_InvalidRow := e_InvalidRow, y_InvalidRow := y_InvalidRow,
    A_TooMany := A_TooMany, g_TooMany := PySem.W.mg_of X G g_TooMany, I_TooMany := I_TooMany, x_TooMany := ⟨PySem.F.excBase_OverflowError, ⟨nm_TooMany, ql_TooMany, N_TooMany, bs_TooMany, sn_TooMany, su_TooMany, ab_TooMany, co_TooMany, dd_TooMany, m0_TooMany, m1_TooMany, m2_TooMany, m3_TooMany, m5_TooMany, xL_TooMany⟩, by decide, fun x => by rfl, sa_TooMany, no_TooMany, iC_TooMany, ti_TooMany, k_TooMany, e_TooMany, y_TooMany, ⟨_, _, _, _, _, _, _, _, _, _, _, _, _, _, _, lI_TooMany, cI_TooMany⟩⟩,
    xf_TooMany := ⟨ga_TooMany, gg_TooMany, e_TooMany, hd_TooMany⟩,
    e_InvalidGrid_InvalidGrid := e_InvalidGrid_InvalidGrid,
    e_InvalidNumber_InvalidGrid := e_InvalidNumber_InvalidGrid,
    e_InvalidOperation_InvalidGrid := e_InvalidOperation_InvalidGrid,
    e_InvalidRow_InvalidGrid := e_InvalidRow_InvalidGrid,
    e_TooMany_InvalidGrid := e_TooMany_InvalidGrid,
    e_InvalidGrid_InvalidRow := e_InvalidGrid_InvalidRow,
    e_InvalidNumber_InvalidRow := e_InvalidNumber_InvalidRow,
    e_InvalidOperation_InvalidRow := e_InvalidOperation_InvalidRow,
    e_InvalidRow_InvalidRow := e_InvalidRow_InvalidRow,
    e_TooMany_InvalidRow := e_TooMany_InvalidRow,
    e_InvalidGrid_InvalidOperation := e_InvalidGrid_InvalidOperation,
    e_InvalidNumber_InvalidOperation := e_InvalidNumber_InvalidOperation,
    e_InvalidOperation_InvalidOperation := e_InvalidOperation_InvalidOperation,
    e_InvalidRow_InvalidOperation := e_InvalidRow_InvalidOperation,
    e_TooMany_InvalidOperation := e_TooMany_InvalidOperation,
    e_InvalidGrid_InvalidNumber := e_InvalidGrid_InvalidNumber,
    e_InvalidNumber_InvalidNumber := e_InvalidNumber_InvalidNumber,
    e_InvalidOperation_InvalidNumber := e_InvalidOperation_InvalidNumber,
    e_InvalidRow_InvalidNumber := e_InvalidRow_InvalidNumber,
    e_TooMany_InvalidNumber := e_TooMany_InvalidNumber,
    e_InvalidGrid_TooMany := e_InvalidGrid_TooMany,
    e_InvalidNumber_TooMany := e_InvalidNumber_TooMany,
    e_InvalidOperation_TooMany := e_InvalidOperation_TooMany,
    e_InvalidRow_TooMany := e_InvalidRow_TooMany,
    e_TooMany_TooMany := e_TooMany_TooMany }
  refine ⟨_, [(cc55, PP55), (cc56, PP56), (cc57, PP57)], sp_law K, ?_, ?_, ?_, fun s v => .of_eq rfl, fun H a ns hl hT hS => ⟨a, ns, rfl, hS, hl, ?_, fun _ => rfl⟩, fun base _ _ TB => law_sp math T (base := base) ⟨rfl, rfl, TB _ (mem_at (i := 0) rfl), TB _ (mem_at (i := 1) rfl), TB _ (mem_at (i := 2) rfl)⟩⟩
  · intro p hm
    simp only [List.mem_cons, List.not_mem_nil, or_false] at hm
    rcases hm with rfl | rfl | rfl
    · exact hts _ m55
    · exact hts _ m56
    · exact hts _ m57
  · intro p hm
    simp only [List.mem_cons, List.not_mem_nil, or_false] at hm
    rcases hm with rfl | rfl | rfl
    · exact n55
    · exact n56
    · exact n57
  · intro p hm
    simp only [List.mem_cons, List.not_mem_nil, or_false] at hm
    rcases hm with rfl | rfl | rfl
    · exact PySem.W.codeHd_of_K X h55
    · exact PySem.W.codeHd_of_K X h56
    · exact PySem.W.codeHd_of_K X h57
  · intro p hm
    replace hm : p ∈ [(PP55, (envOfC "_law_grids_right" (defScope s_law_grids_right) 0 0 .none).qual ++ Str.ofString "<lambda>"), (PP56, (envOfC "_law_rows_right" (defScope s_law_rows_right) 0 0 .none).qual ++ Str.ofString "<lambda>"), (PP57, (envOfC "law" (defScope s_law) 0 0 .none).qual ++ Str.ofString "<lambda>")] := hm
    simp only [List.mem_cons, List.not_mem_nil, or_false] at hm
    rcases hm with rfl | rfl | rfl
    · exact hT (cc55, PP55) (mem_at (i := 0) rfl)
    · exact hT (cc56, PP56) (mem_at (i := 1) rfl)
    · exact hT (cc57, PP57) (mem_at (i := 2) rfl)
end My
open PySem PySem.W PyProof.Rows in
set_option maxRecDepth 100000 in
set_option maxHeartbeats 0 in
theorem PySem.Challenge.cw_gluewhole_k04_errors_of_numbers_holds : PySem.Challenge.rw_gluewhole_k04_errors_of_numbers.Holds := by
  w_on; o_law; k_head; (case hw => w_witness2)
  k_fill
  refine Mir.walk_ofG (l := PySem.Challenge.rw_gluewhole_k04_errors_of_numbers) (n := 63) (k := 15) (x := "script") (CX := fun _ => L2.CX0) rfl (by decide) rfl ⟨rfl, by decide, by decide⟩ (fun w h Y => PySem.W.km_in_of Y) ?F (fun _ _ _ _ _ h => h)
  case F =>
    intro w mg fa h Y KX G hmg
    refine' My.all_mk Math.law_true KX G hmg (PySem.W.km_tabs_of Y) ?a0 ?l0 ?c0 ?k0 ?a1 ?l1 ?c1 ?k1 ?a2 ?l2 ?c2 ?k2 ?a3 ?l3 ?c3 ?k3 ?a4 ?l4 ?c4 ?k4 ?a5 ?l5 ?c5 ?k5 ?a6 ?l6 ?c6 ?k6 ?a7 ?l7 ?c7 ?k7 ?a8 ?l8 ?c8 ?k8 ?a9 ?l9 ?c9 ?k9 ?a10 ?l10 ?c10 ?k10 ?a11 ?l11 ?c11 ?k11 ?a12 ?l12 ?c12 ?k12 ?a13 ?l13 ?c13 ?k13 ?a14 ?l14 ?c14 ?k14 ?a15 ?l15 ?c15 ?k15 ?a16 ?l16 ?c16 ?k16 ?a17 ?l17 ?c17 ?k17 ?a18 ?l18 ?c18 ?k18 ?a19 ?l19 ?c19 ?k19 ?a20 ?l20 ?c20 ?k20 ?a21 ?l21 ?c21 ?k21 ?a22 ?l22 ?c22 ?k22 ?a23 ?l23 ?c23 ?k23 ?a24 ?l24 ?c24 ?k24 ?a25 ?l25 ?c25 ?k25 ?a26 ?l26 ?c26 ?k26 ?a27 ?l27 ?c27 ?k27 ?a28 ?l28 ?c28 ?k28 ?a29 ?l29 ?c29 ?k29 ?a30 ?l30 ?c30 ?k30 ?a31 ?l31 ?c31 ?k31 ?a32 ?l32 ?c32 ?k32 ?a33 ?l33 ?c33 ?k33 ?a34 ?l34 ?c34 ?k34 ?a35 ?l35 ?c35 ?k35 ?a36 ?l36 ?c36 ?k36 ?a37 ?l37 ?c37 ?k37 ?a38 ?l38 ?c38 ?k38 ?a39 ?l39 ?c39 ?k39 ?a40 ?l40 ?c40 ?k40 ?a41 ?l41 ?c41 ?k41 ?a42 ?l42 ?c42 ?k42 ?a43 ?l43 ?c43 ?k43 ?a44 ?l44 ?c44 ?k44 ?a45 ?l45 ?c45 ?k45 ?a46 ?l46 ?c46 ?k46 ?a47 ?l47 ?c47 ?k47 ?a48 ?l48 ?c48 ?k48 ?a49 ?l49 ?c49 ?k49 ?a50 ?l50 ?c50 ?k50 ?a51 ?l51 ?c51 ?k51 ?a52 ?l52 ?c52 ?k52 ?a53 ?l53 ?c53 ?k53 ?a54 ?l54 ?c54 ?k54 ?a55 ?l55 ?c55 ?k55 ?a56 ?l56 ?c56 ?k56 ?a57 ?l57 ?c57 ?k57 ?t55 ?h55 ?n55 ?m55 ?t56 ?h56 ?n56 ?m56 ?t57 ?h57 ?n57 ?m57 ?d55_56 ?d55_57 ?d56_57 ?g_MAX_SIZE ?g_TOO_LONG ?z_abs ?z_all ?z_bool ?z_int ?z_isinstance ?z_len ?z_list ?z_max ?z_min ?z_range ?z_repr ?z_sum ?z_tuple ?z_zip ?g_InvalidGrid ?q_InvalidGrid ?k_InvalidGrid ?e_InvalidGrid ?y_InvalidGrid ?g_InvalidNumber ?xL_InvalidNumber ?sa_InvalidNumber ?no_InvalidNumber ?iC_InvalidNumber ?ti_InvalidNumber ?lI_InvalidNumber ?cI_InvalidNumber ?k_InvalidNumber ?e_InvalidNumber ?y_InvalidNumber ?ga_InvalidNumber ?gg_InvalidNumber ?hd_InvalidNumber ?g_InvalidOperation ?q_InvalidOperation ?k_InvalidOperation ?e_InvalidOperation ?y_InvalidOperation ?g_InvalidRow ?q_InvalidRow ?k_InvalidRow ?e_InvalidRow ?y_InvalidRow ?g_TooMany ?xL_TooMany ?sa_TooMany ?no_TooMany ?iC_TooMany ?ti_TooMany ?lI_TooMany ?cI_TooMany ?k_TooMany ?e_TooMany ?y_TooMany ?ga_TooMany ?gg_TooMany ?hd_TooMany ?e_InvalidGrid_InvalidGrid ?e_InvalidNumber_InvalidGrid ?e_InvalidOperation_InvalidGrid ?e_InvalidRow_InvalidGrid ?e_TooMany_InvalidGrid ?e_InvalidGrid_InvalidRow ?e_InvalidNumber_InvalidRow ?e_InvalidOperation_InvalidRow ?e_InvalidRow_InvalidRow ?e_TooMany_InvalidRow ?e_InvalidGrid_InvalidOperation ?e_InvalidNumber_InvalidOperation ?e_InvalidOperation_InvalidOperation ?e_InvalidRow_InvalidOperation ?e_TooMany_InvalidOperation ?e_InvalidGrid_InvalidNumber ?e_InvalidNumber_InvalidNumber ?e_InvalidOperation_InvalidNumber ?e_InvalidRow_InvalidNumber ?e_TooMany_InvalidNumber ?e_InvalidGrid_TooMany ?e_InvalidNumber_TooMany ?e_InvalidOperation_TooMany ?e_InvalidRow_TooMany ?e_TooMany_TooMany
    (case a0 => first | k_is | rfl | decide)
    (case l0 => first | k_is | rfl | decide)
    (case c0 => first | k_is | rfl | decide)
    (case k0 => first | k_is | rfl | decide)
    (case a1 => first | k_is | rfl | decide)
    (case l1 => first | k_is | rfl | decide)
    (case c1 => first | k_is | rfl | decide)
    (case k1 => first | k_is | rfl | decide)
    (case a2 => first | k_is | rfl | decide)
    (case l2 => first | k_is | rfl | decide)
    (case c2 => first | k_is | rfl | decide)
    (case k2 => first | k_is | rfl | decide)
    (case a3 => first | k_is | rfl | decide)
    (case l3 => first | k_is | rfl | decide)
    (case c3 => first | k_is | rfl | decide)
    (case k3 => first | k_is | rfl | decide)
    (case a4 => first | k_is | rfl | decide)
    (case l4 => first | k_is | rfl | decide)
    (case c4 => first | k_is | rfl | decide)
    (case k4 => first | k_is | rfl | decide)
    (case a5 => first | k_is | rfl | decide)
    (case l5 => first | k_is | rfl | decide)
    (case c5 => first | k_is | rfl | decide)
    (case k5 => first | k_is | rfl | decide)
    (case a6 => first | k_is | rfl | decide)
    (case l6 => first | k_is | rfl | decide)
    (case c6 => first | k_is | rfl | decide)
    (case k6 => first | k_is | rfl | decide)
    (case a7 => first | k_is | rfl | decide)
    (case l7 => first | k_is | rfl | decide)
    (case c7 => first | k_is | rfl | decide)
    (case k7 => first | k_is | rfl | decide)
    (case a8 => first | k_is | rfl | decide)
    (case l8 => first | k_is | rfl | decide)
    (case c8 => first | k_is | rfl | decide)
    (case k8 => first | k_is | rfl | decide)
    (case a9 => first | k_is | rfl | decide)
    (case l9 => first | k_is | rfl | decide)
    (case c9 => first | k_is | rfl | decide)
    (case k9 => first | k_is | rfl | decide)
    (case a10 => first | k_is | rfl | decide)
    (case l10 => first | k_is | rfl | decide)
    (case c10 => first | k_is | rfl | decide)
    (case k10 => first | k_is | rfl | decide)
    (case a11 => first | k_is | rfl | decide)
    (case l11 => first | k_is | rfl | decide)
    (case c11 => first | k_is | rfl | decide)
    (case k11 => first | k_is | rfl | decide)
    (case a12 => first | k_is | rfl | decide)
    (case l12 => first | k_is | rfl | decide)
    (case c12 => first | k_is | rfl | decide)
    (case k12 => first | k_is | rfl | decide)
    (case a13 => first | k_is | rfl | decide)
    (case l13 => first | k_is | rfl | decide)
    (case c13 => first | k_is | rfl | decide)
    (case k13 => first | k_is | rfl | decide)
    (case a14 => first | k_is | rfl | decide)
    (case l14 => first | k_is | rfl | decide)
    (case c14 => first | k_is | rfl | decide)
    (case k14 => first | k_is | rfl | decide)
    (case a15 => first | k_is | rfl | decide)
    (case l15 => first | k_is | rfl | decide)
    (case c15 => first | k_is | rfl | decide)
    (case k15 => first | k_is | rfl | decide)
    (case a16 => first | k_is | rfl | decide)
    (case l16 => first | k_is | rfl | decide)
    (case c16 => first | k_is | rfl | decide)
    (case k16 => first | k_is | rfl | decide)
    (case a17 => first | k_is | rfl | decide)
    (case l17 => first | k_is | rfl | decide)
    (case c17 => first | k_is | rfl | decide)
    (case k17 => first | k_is | rfl | decide)
    (case a18 => first | k_is | rfl | decide)
    (case l18 => first | k_is | rfl | decide)
    (case c18 => first | k_is | rfl | decide)
    (case k18 => first | k_is | rfl | decide)
    (case a19 => first | k_is | rfl | decide)
    (case l19 => first | k_is | rfl | decide)
    (case c19 => first | k_is | rfl | decide)
    (case k19 => first | k_is | rfl | decide)
    (case a20 => first | k_is | rfl | decide)
    (case l20 => first | k_is | rfl | decide)
    (case c20 => first | k_is | rfl | decide)
    (case k20 => first | k_is | rfl | decide)
    (case a21 => first | k_is | rfl | decide)
    (case l21 => first | k_is | rfl | decide)
    (case c21 => first | k_is | rfl | decide)
    (case k21 => first | k_is | rfl | decide)
    (case a22 => first | k_is | rfl | decide)
    (case l22 => first | k_is | rfl | decide)
    (case c22 => first | k_is | rfl | decide)
    (case k22 => first | k_is | rfl | decide)
    (case a23 => first | k_is | rfl | decide)
    (case l23 => first | k_is | rfl | decide)
    (case c23 => first | k_is | rfl | decide)
    (case k23 => first | k_is | rfl | decide)
    (case a24 => first | k_is | rfl | decide)
    (case l24 => first | k_is | rfl | decide)
    (case c24 => first | k_is | rfl | decide)
    (case k24 => first | k_is | rfl | decide)
    (case a25 => first | k_is | rfl | decide)
    (case l25 => first | k_is | rfl | decide)
    (case c25 => first | k_is | rfl | decide)
    (case k25 => first | k_is | rfl | decide)
    (case a26 => first | k_is | rfl | decide)
    (case l26 => first | k_is | rfl | decide)
    (case c26 => first | k_is | rfl | decide)
    (case k26 => first | k_is | rfl | decide)
    (case a27 => first | k_is | rfl | decide)
    (case l27 => first | k_is | rfl | decide)
    (case c27 => first | k_is | rfl | decide)
    (case k27 => first | k_is | rfl | decide)
    (case a28 => first | k_is | rfl | decide)
    (case l28 => first | k_is | rfl | decide)
    (case c28 => first | k_is | rfl | decide)
    (case k28 => first | k_is | rfl | decide)
    (case a29 => first | k_is | rfl | decide)
    (case l29 => first | k_is | rfl | decide)
    (case c29 => first | k_is | rfl | decide)
    (case k29 => first | k_is | rfl | decide)
    (case a30 => first | k_is | rfl | decide)
    (case l30 => first | k_is | rfl | decide)
    (case c30 => first | k_is | rfl | decide)
    (case k30 => first | k_is | rfl | decide)
    (case a31 => first | k_is | rfl | decide)
    (case l31 => first | k_is | rfl | decide)
    (case c31 => first | k_is | rfl | decide)
    (case k31 => first | k_is | rfl | decide)
    (case a32 => first | k_is | rfl | decide)
    (case l32 => first | k_is | rfl | decide)
    (case c32 => first | k_is | rfl | decide)
    (case k32 => first | k_is | rfl | decide)
    (case a33 => first | k_is | rfl | decide)
    (case l33 => first | k_is | rfl | decide)
    (case c33 => first | k_is | rfl | decide)
    (case k33 => first | k_is | rfl | decide)
    (case a34 => first | k_is | rfl | decide)
    (case l34 => first | k_is | rfl | decide)
    (case c34 => first | k_is | rfl | decide)
    (case k34 => first | k_is | rfl | decide)
    (case a35 => first | k_is | rfl | decide)
    (case l35 => first | k_is | rfl | decide)
    (case c35 => first | k_is | rfl | decide)
    (case k35 => first | k_is | rfl | decide)
    (case a36 => first | k_is | rfl | decide)
    (case l36 => first | k_is | rfl | decide)
    (case c36 => first | k_is | rfl | decide)
    (case k36 => first | k_is | rfl | decide)
    (case a37 => first | k_is | rfl | decide)
    (case l37 => first | k_is | rfl | decide)
    (case c37 => first | k_is | rfl | decide)
    (case k37 => first | k_is | rfl | decide)
    (case a38 => first | k_is | rfl | decide)
    (case l38 => first | k_is | rfl | decide)
    (case c38 => first | k_is | rfl | decide)
    (case k38 => first | k_is | rfl | decide)
    (case a39 => first | k_is | rfl | decide)
    (case l39 => first | k_is | rfl | decide)
    (case c39 => first | k_is | rfl | decide)
    (case k39 => first | k_is | rfl | decide)
    (case a40 => first | k_is | rfl | decide)
    (case l40 => first | k_is | rfl | decide)
    (case c40 => first | k_is | rfl | decide)
    (case k40 => first | k_is | rfl | decide)
    (case a41 => first | k_is | rfl | decide)
    (case l41 => first | k_is | rfl | decide)
    (case c41 => first | k_is | rfl | decide)
    (case k41 => first | k_is | rfl | decide)
    (case a42 => first | k_is | rfl | decide)
    (case l42 => first | k_is | rfl | decide)
    (case c42 => first | k_is | rfl | decide)
    (case k42 => first | k_is | rfl | decide)
    (case a43 => first | k_is | rfl | decide)
    (case l43 => first | k_is | rfl | decide)
    (case c43 => first | k_is | rfl | decide)
    (case k43 => first | k_is | rfl | decide)
    (case a44 => first | k_is | rfl | decide)
    (case l44 => first | k_is | rfl | decide)
    (case c44 => first | k_is | rfl | decide)
    (case k44 => first | k_is | rfl | decide)
    (case a45 => first | k_is | rfl | decide)
    (case l45 => first | k_is | rfl | decide)
    (case c45 => first | k_is | rfl | decide)
    (case k45 => first | k_is | rfl | decide)
    (case a46 => first | k_is | rfl | decide)
    (case l46 => first | k_is | rfl | decide)
    (case c46 => first | k_is | rfl | decide)
    (case k46 => first | k_is | rfl | decide)
    (case a47 => first | k_is | rfl | decide)
    (case l47 => first | k_is | rfl | decide)
    (case c47 => first | k_is | rfl | decide)
    (case k47 => first | k_is | rfl | decide)
    (case a48 => first | k_is | rfl | decide)
    (case l48 => first | k_is | rfl | decide)
    (case c48 => first | k_is | rfl | decide)
    (case k48 => first | k_is | rfl | decide)
    (case a49 => first | k_is | rfl | decide)
    (case l49 => first | k_is | rfl | decide)
    (case c49 => first | k_is | rfl | decide)
    (case k49 => first | k_is | rfl | decide)
    (case a50 => first | k_is | rfl | decide)
    (case l50 => first | k_is | rfl | decide)
    (case c50 => first | k_is | rfl | decide)
    (case k50 => first | k_is | rfl | decide)
    (case a51 => first | k_is | rfl | decide)
    (case l51 => first | k_is | rfl | decide)
    (case c51 => first | k_is | rfl | decide)
    (case k51 => first | k_is | rfl | decide)
    (case a52 => first | k_is | rfl | decide)
    (case l52 => first | k_is | rfl | decide)
    (case c52 => first | k_is | rfl | decide)
    (case k52 => first | k_is | rfl | decide)
    (case a53 => first | k_is | rfl | decide)
    (case l53 => first | k_is | rfl | decide)
    (case c53 => first | k_is | rfl | decide)
    (case k53 => first | k_is | rfl | decide)
    (case a54 => first | k_is | rfl | decide)
    (case l54 => first | k_is | rfl | decide)
    (case c54 => first | k_is | rfl | decide)
    (case k54 => first | k_is | rfl | decide)
    (case a55 => first | k_is | rfl | decide)
    (case l55 => first | k_is | rfl | decide)
    (case c55 => first | k_is | rfl | decide)
    (case k55 => first | k_is | rfl | decide)
    (case a56 => first | k_is | rfl | decide)
    (case l56 => first | k_is | rfl | decide)
    (case c56 => first | k_is | rfl | decide)
    (case k56 => first | k_is | rfl | decide)
    (case a57 => first | k_is | rfl | decide)
    (case l57 => first | k_is | rfl | decide)
    (case c57 => first | k_is | rfl | decide)
    (case k57 => first | k_is | rfl | decide)
    (case t55 => first | k_is | rfl | decide)
    (case h55 => first | k_is | rfl | decide)
    (case n55 => first | k_is | rfl | decide)
    (case m55 => first | k_is | rfl | decide)
    (case t56 => first | k_is | rfl | decide)
    (case h56 => first | k_is | rfl | decide)
    (case n56 => first | k_is | rfl | decide)
    (case m56 => first | k_is | rfl | decide)
    (case t57 => first | k_is | rfl | decide)
    (case h57 => first | k_is | rfl | decide)
    (case n57 => first | k_is | rfl | decide)
    (case m57 => first | k_is | rfl | decide)
    (case d55_56 => first | k_is | rfl | decide)
    (case d55_57 => first | k_is | rfl | decide)
    (case d56_57 => first | k_is | rfl | decide)
    (case g_MAX_SIZE => first | k_is | rfl | decide)
    (case g_TOO_LONG => first | k_is | rfl | decide)
    (case z_abs => first | k_is | rfl | decide)
    (case z_all => first | k_is | rfl | decide)
    (case z_bool => first | k_is | rfl | decide)
    (case z_int => first | k_is | rfl | decide)
    (case z_isinstance => first | k_is | rfl | decide)
    (case z_len => first | k_is | rfl | decide)
    (case z_list => first | k_is | rfl | decide)
    (case z_max => first | k_is | rfl | decide)
    (case z_min => first | k_is | rfl | decide)
    (case z_range => first | k_is | rfl | decide)
    (case z_repr => first | k_is | rfl | decide)
    (case z_sum => first | k_is | rfl | decide)
    (case z_tuple => first | k_is | rfl | decide)
    (case z_zip => first | k_is | rfl | decide)
    (case g_InvalidGrid => first | k_is | rfl | decide)
    (case q_InvalidGrid => k_exc)
    (case k_InvalidGrid => first | k_is | rfl | decide)
    (case e_InvalidGrid => first | k_is | rfl | decide)
    (case y_InvalidGrid => first | k_is | rfl | decide)
    (case g_InvalidNumber => first | k_is | rfl | decide)
    (case xL_InvalidNumber => first | k_is | rfl | decide)
    (case sa_InvalidNumber => first | k_is | rfl | decide)
    (case no_InvalidNumber => first | k_is | rfl | decide)
    (case iC_InvalidNumber => first | k_is | rfl | decide)
    (case ti_InvalidNumber => first | k_is | rfl | decide)
    (case lI_InvalidNumber => first | k_is | rfl | decide)
    (case cI_InvalidNumber => first | k_is | rfl | decide)
    (case k_InvalidNumber => first | k_is | rfl | decide)
    (case e_InvalidNumber => first | k_is | rfl | decide)
    (case y_InvalidNumber => first | k_is | rfl | decide)
    (case ga_InvalidNumber => first | k_is | rfl | decide)
    (case gg_InvalidNumber => first | k_is | rfl | decide)
    (case hd_InvalidNumber => first | k_is | rfl | decide)
    (case g_InvalidOperation => first | k_is | rfl | decide)
    (case q_InvalidOperation => k_exc)
    (case k_InvalidOperation => first | k_is | rfl | decide)
    (case e_InvalidOperation => first | k_is | rfl | decide)
    (case y_InvalidOperation => first | k_is | rfl | decide)
    (case g_InvalidRow => first | k_is | rfl | decide)
    (case q_InvalidRow => k_exc)
    (case k_InvalidRow => first | k_is | rfl | decide)
    (case e_InvalidRow => first | k_is | rfl | decide)
    (case y_InvalidRow => first | k_is | rfl | decide)
    (case g_TooMany => first | k_is | rfl | decide)
    (case xL_TooMany => first | k_is | rfl | decide)
    (case sa_TooMany => first | k_is | rfl | decide)
    (case no_TooMany => first | k_is | rfl | decide)
    (case iC_TooMany => first | k_is | rfl | decide)
    (case ti_TooMany => first | k_is | rfl | decide)
    (case lI_TooMany => first | k_is | rfl | decide)
    (case cI_TooMany => first | k_is | rfl | decide)
    (case k_TooMany => first | k_is | rfl | decide)
    (case e_TooMany => first | k_is | rfl | decide)
    (case y_TooMany => first | k_is | rfl | decide)
    (case ga_TooMany => first | k_is | rfl | decide)
    (case gg_TooMany => first | k_is | rfl | decide)
    (case hd_TooMany => first | k_is | rfl | decide)
    (case e_InvalidGrid_InvalidGrid => first | k_is | rfl | decide)
    (case e_InvalidNumber_InvalidGrid => first | k_is | rfl | decide)
    (case e_InvalidOperation_InvalidGrid => first | k_is | rfl | decide)
    (case e_InvalidRow_InvalidGrid => first | k_is | rfl | decide)
    (case e_TooMany_InvalidGrid => first | k_is | rfl | decide)
    (case e_InvalidGrid_InvalidRow => first | k_is | rfl | decide)
    (case e_InvalidNumber_InvalidRow => first | k_is | rfl | decide)
    (case e_InvalidOperation_InvalidRow => first | k_is | rfl | decide)
    (case e_InvalidRow_InvalidRow => first | k_is | rfl | decide)
    (case e_TooMany_InvalidRow => first | k_is | rfl | decide)
    (case e_InvalidGrid_InvalidOperation => first | k_is | rfl | decide)
    (case e_InvalidNumber_InvalidOperation => first | k_is | rfl | decide)
    (case e_InvalidOperation_InvalidOperation => first | k_is | rfl | decide)
    (case e_InvalidRow_InvalidOperation => first | k_is | rfl | decide)
    (case e_TooMany_InvalidOperation => first | k_is | rfl | decide)
    (case e_InvalidGrid_InvalidNumber => first | k_is | rfl | decide)
    (case e_InvalidNumber_InvalidNumber => first | k_is | rfl | decide)
    (case e_InvalidOperation_InvalidNumber => first | k_is | rfl | decide)
    (case e_InvalidRow_InvalidNumber => first | k_is | rfl | decide)
    (case e_TooMany_InvalidNumber => first | k_is | rfl | decide)
    (case e_InvalidGrid_TooMany => first | k_is | rfl | decide)
    (case e_InvalidNumber_TooMany => first | k_is | rfl | decide)
    (case e_InvalidOperation_TooMany => first | k_is | rfl | decide)
    (case e_InvalidRow_TooMany => first | k_is | rfl | decide)
    (case e_TooMany_TooMany => first | k_is | rfl | decide)
