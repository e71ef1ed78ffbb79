import PyProof.Rows.All
import Wide.All
import OpenK.AllK
import Wide.FinOn
import HandS.ForMost
import HandS.ForExc
import HandS.Lambda
import HandS.NoneIn
import HandS.Star
import HandS.TupAny
import HandS.TupMul
import HandS.IsInst
import HandS.RaiseMore
import HandS.Wide
import KE.DataEq
import HandS.Property
import HandS.ClsMeth
import KE.KCallOwn
import OpenK.KMeth
import PyProof.InstNe
import HandS.TryMany
import HandS.FStr
import PyProof.ReprRoads
import HandS.Style
import KE.KEqNest
import HandS.Ends
import HandS.EndTab
import KE.DataCmp
import KE.SortData
import KE.OsSetLaws
import HandS.TupSets
import HandS.Zip
import HandS.WrittenGet
import HandS.ExcIs
import HandS.Conv
import HandS.DictComp
import KE.KExcInit
import HandS.ExcValue
import HandS.ExcField
import KE.GoesEnum
import HandS.Zip0
import KE.KExcIs
import PySem.Challenge.RW_answeredabove_k00_errors_and_what_they_k
set_option Elab.async false
set_option linter.all false
set_option maxRecDepth 100000
/-! DX: a def's meaning as a function over plain data, and what makes it so. 1: data, the store, what stands for what -/
namespace DX
open PySem PySem.Spec PyProof.Rows L2

/-- data: lst, dK, dT, ins stand for lists, dicts, own instances that nobody changes any more (rd: a list that is locked); exc: an exception as a value; cls: an own class; ob n for the n-th thing of the store -/
inductive D where
  | non | bl (b : Bool) | int (i : Int) | str (x : Str)
  | tup (xs : List D) | lst (xs : List D) | rd (xs : List D) | dK (ks : List Key) (ds : List D) | dT (ks : List (List Key)) (ds : List D)
  | ins (c : String) (fs : List Str) (ds : List D) | exc (c : String) (fs : List Str) (ds : List D) | cls (c : String) | ob (n : Nat)
  deriving Inhabited
/-- what may change -/
inductive O where
  | lst (xs : List D) | dK (ks : List Key) (ds : List D) | dT (ks : List (List Key)) (ds : List D) | ins (c : String) (fs : List Str) (ds : List D)
abbrev Store := List O
inductive Res (α : Type) where
  | ok (a : α) (st : Store) | exc (c : String) (fs : List (Str × D)) (st : Store) | bad
def Res.bind {α β : Type} (r : Res α) (f : α → Store → Res β) : Res β :=
  match r with
  | .ok a st => f a st
  | .exc c fs st => .exc c fs st
  | .bad => .bad
abbrev Sl := List (Option D)
abbrev EF := Sl → Store → Res D
abbrev TF := Sl → Store → Res Bool
abbrev AF := Sl → Store → Res (List D)
abbrev FF := List D → Store → Res D
inductive SRes where
  | nx (ρ : Sl) (st : Store) | rt (d : D) (st : Store) | bk (ρ : Sl) (st : Store) | ct (ρ : Sl) (st : Store)
  | exc (c : String) (fs : List (Str × D)) (ρ : Sl) (st : Store) | bad
abbrev SF := Sl → Store → SRes

/-! ### what stands for what -/
/-- where the store's things stand; what no datum may stand for; the tables of code objects -/
structure Mp where
  m : List Addr
  x : List Addr
  tb : List (Addr × Str)
def Mp.out (M : Mp) (a : Addr) : Prop := a ∉ M.m ∧ a ∉ M.x
def WrT (K : PySem.W.Frag) (a : Addr) (xs : List V) : Prop :=
  ∃ o its n, List.lookup a K = some o ∧ o.cls = Value.type "tuple" ∧ o.data = Data.seq its n ∧ its.size ≤ sizeLine ∧ Vals xs its.toList
def WrL (K : PySem.W.Frag) (a : Addr) (xs : List V) : Prop :=
  ∃ o its n, List.lookup a K = some o ∧ o.cls = Value.type "list" ∧ o.dict = none ∧ o.data = Data.seq its n ∧ its.size ≤ sizeLine ∧ Vals xs its.toList
def TupAt (K : PySem.W.Frag) (H : Hp) (m : Mp) (a : Addr) (xs : List V) : Prop := (Rd H a (.tup xs) ∧ m.out a) ∨ WrT K a xs
def LstAt (K : PySem.W.Frag) (H : Hp) (m : Mp) (a : Addr) (xs : List V) : Prop := (Rd H a (.lst xs) ∧ m.out a) ∨ WrL K a xs
/-- the class c of the module stands at C -/
def ClAt (K : PySem.W.Frag) (c : String) (C : Addr) : Prop := PySem.W.nsIn K mainGlobals (Str.ofString c) = some (some (.ref C))
/-- an exception object of the class cls with the dict d, not raised yet -/
def ExG (cls : Value) (d : Option Addr) (a : Addr) : HO := .ext fun h => ∃ (oe : Obj) (vs : Array Value), h.get? a = some oe ∧ Zc cls d oe ∧ oe.data = .fields vs ∧ vs[1]? = some .none ∧ vs[2]? = some .none ∧ 4 < vs.size
/-- its fields -/
def XdAt (H : Hp) (m : Mp) (dx : Option Addr) (fs : List Str) (vs : List V) : Prop := fs.length = vs.length ∧ match dx with
  | none => fs = []
  | some d => H d = some (.xd (fs.zip vs)) ∧ m.out d
mutual
inductive Rep (K : PySem.W.Frag) (H : Hp) (m : Mp) : V → D → Prop
  | non : Rep K H m .non .non
  | bl (b : Bool) : Rep K H m (.bl b) (.bl b)
  | int (i : Int) : Rep K H m (.int i) (.int i)
  | str (x : Str) : Rep K H m (.str x) (.str x)
  | tup {a : Addr} {vs : List V} {ds : List D} : TupAt K H m a vs → RepL K H m vs ds → Rep K H m (.ref a) (.tup ds)
  | lst {a : Addr} {vs : List V} {ds : List D} : H a = some (.lst vs) → m.out a → RepL K H m vs ds → Rep K H m (.ref a) (.lst ds)
  | rd {a : Addr} {vs : List V} {ds : List D} : LstAt K H m a vs → RepL K H m vs ds → Rep K H m (.ref a) (.rd ds)
  | dK {a : Addr} {ks : List Key} {vs : List V} {ds : List D} : Rd H a (.dK (ks.zip vs)) → m.out a → ks.length = vs.length → RepL K H m vs ds → Rep K H m (.ref a) (.dK ks ds)
  | dT {a : Addr} {ks : List (List Key)} {vs : List V} {ds : List D} : Rd H a (.dT (ks.zip vs)) → m.out a → ks.length = vs.length → RepL K H m vs ds → Rep K H m (.ref a) (.dT ks ds)
  | ins {a C dx : Addr} {c : String} {fs : List Str} {vs : List V} {ds : List D} : ClAt K c C → H a = some (.ins C dx (fs.zip vs)) → m.out a → fs.length = vs.length → RepL K H m vs ds → Rep K H m (.ref a) (.ins c fs ds)
  | exc {a C : Addr} {dx : Option Addr} {c : String} {fs : List Str} {vs : List V} {ds : List D} : ClAt K c C → H a = some (ExG (.ref C) dx a) → m.out a → XdAt H m dx fs vs → RepL K H m vs ds → Rep K H m (.ref a) (.exc c fs ds)
  | cls {C : Addr} {c : String} : ClAt K c C → Rep K H m (.ref C) (.cls c)
  | ob {a : Addr} {n : Nat} : m.m[n]? = some a → Rep K H m (.ref a) (.ob n)
inductive RepL (K : PySem.W.Frag) (H : Hp) (m : Mp) : List V → List D → Prop
  | nil : RepL K H m [] []
  | cons {v : V} {vs : List V} {d : D} {ds : List D} : Rep K H m v d → RepL K H m vs ds → RepL K H m (v :: vs) (d :: ds)
end
structure Ext (m : Mp) (H : Hp) (m' : Mp) (H' : Hp) : Prop where
  pre : m.m <+: m'.m
  old : ∀ a o, H a = some o → a ∉ m.m → (∀ ps, o ≠ .tbl ps) → H' a = some o
  new : ∀ a, a ∈ m'.m → a ∉ m.m → H a = none
  ex : ∀ a ∈ m'.x, a ∈ m.x ∨ H a = none
  exs : ∀ a ∈ m.x, a ∈ m'.x
  tr : ∀ a, H a ≠ none → H' a ≠ none
  tb : m'.tb = m.tb
theorem Ext.refl (m : Mp) (H : Hp) : Ext m H m H := ⟨List.prefix_refl _, fun _ _ h _ _ => h, fun _ h1 h2 => absurd h1 h2, fun _ h => .inl h, fun _ h => h, fun _ h => h, rfl⟩
theorem Ext.trans {m m1 m2 : Mp} {H H1 H2 : Hp} (a : Ext m H m1 H1) (b : Ext m1 H1 m2 H2) : Ext m H m2 H2 where
  pre := a.pre.trans b.pre
  old := fun c o h hn ht => b.old c o (a.old c o h hn ht) (fun h1 => by
    rw [a.new c h1 hn] at h
    cases h) ht
  new := fun c h2 hn => by
    by_cases h1 : c ∈ m1.m
    · exact a.new c h1 hn
    · have q := b.new c h2 h1
      cases e : H c with
      | none => rfl
      | some o => exact absurd q (a.tr c (by rw [e]; simp))
  ex := fun c h => (b.ex c h).elim (fun q => a.ex c q) fun q => .inr (by
    cases e : H c with
    | none => rfl
    | some o => exact absurd q (a.tr c (by rw [e]; simp)))
  exs := fun c h => b.exs c (a.exs c h)
  tr := fun c h => b.tr c (a.tr c h)
  tb := b.tb.trans a.tb
theorem Ext.mem {m m' : Mp} {H H' : Hp} (e : Ext m H m' H') {a : Addr} (h : a ∈ m.m) : a ∈ m'.m := e.pre.subset h
theorem tr_upd {H : Hp} {p : Addr} {o : HO} {a : Addr} (h : H a ≠ none) : upd H p o a ≠ none := by
  by_cases e : a = p
  · rw [e, upd_same]; simp
  · rw [upd_ne e]; exact h
theorem Ext.laid {m : Mp} {H : Hp} {p : Addr} {o : HO} (h : H p = none) : Ext m H m (upd H p o) where
  pre := List.prefix_refl _
  old := fun a u e _ _ => by
    rw [upd_ne (ne_of_none e h)]
    exact e
  new := fun _ h1 h2 => absurd h1 h2
  ex := fun _ h => .inl h
  exs := fun _ h => h
  tr := fun a h => tr_upd h
  tb := rfl
/-- what was not there may change -/
theorem Ext.mut {m m' : Mp} {H H' : Hp} {p : Addr} {o : HO} (e : Ext m H m' H') (h : H p = none) : Ext m H m' (upd H' p o) :=
  ⟨e.pre, fun a u ha hn ht => by rw [upd_ne (ne_of_none ha h)]; exact e.old a u ha hn ht, e.new, e.ex, e.exs, fun a ha => tr_upd (e.tr a ha), e.tb⟩
theorem Ext.notin {m m' : Mp} {H H' : Hp} (e : Ext m H m' H') {a : Addr} {o : HO} (h : H a = some o) (hn : a ∉ m.m) : a ∉ m'.m := fun h1 => by
  rw [e.new a h1 hn] at h
  cases h
theorem Ext.out {m m' : Mp} {H H' : Hp} (e : Ext m H m' H') {a : Addr} {o : HO} (h : H a = some o) (hn : m.out a) : m'.out a := ⟨e.notin h hn.1, fun z => (e.ex a z).elim hn.2 fun q => by rw [h] at q; cases q⟩
/-- no table -/
def Nt (u : HO) : Prop := ∀ ps, u ≠ .tbl ps
theorem nt_frz {o : Obj} {u : HO} : Nt (.frz o u) := fun _ z => nomatch z
theorem rd_ext {m m' : Mp} {H H' : Hp} (e : Ext m H m' H') {a : Addr} {u : HO} (h : Rd H a u) (hn : m.out a) (hu : Nt u) : Rd H' a u ∧ m'.out a := by
  rcases h with h | ⟨o, h⟩
  · exact ⟨.inl (e.old a _ h hn.1 hu), e.out h hn⟩
  · exact ⟨.inr ⟨o, e.old a _ h hn.1 nt_frz⟩, e.out h hn⟩
section
variable {K : PySem.W.Frag} {m m' : Mp} {H H' : Hp}
theorem TupAt.ext (e : Ext m H m' H') {a : Addr} {xs : List V} (h : TupAt K H m a xs) : TupAt K H' m' a xs := by
  rcases h with ⟨h, hn⟩ | h
  · exact .inl (rd_ext e h hn fun _ z => nomatch z)
  · exact .inr h
theorem LstAt.ext (e : Ext m H m' H') {a : Addr} {xs : List V} (h : LstAt K H m a xs) : LstAt K H' m' a xs := by
  rcases h with ⟨h, hn⟩ | h
  · exact .inl (rd_ext e h hn fun _ z => nomatch z)
  · exact .inr h
theorem XdAt.ext (e : Ext m H m' H') {dx : Option Addr} {fs : List Str} {vs : List V} (h : XdAt H m dx fs vs) : XdAt H' m' dx fs vs := by
  refine ⟨h.1, ?_⟩
  cases dx with
  | none => exact h.2
  | some d => exact ⟨e.old d _ h.2.1 h.2.2.1 (fun _ z => nomatch z), e.out h.2.1 h.2.2⟩
theorem TupAt.sq {a : Addr} {xs : List V} (h : TupAt K H m a xs) : SqT K H a xs := by
  rcases h with ⟨h, _⟩ | h
  · exact .inl h
  · exact .inr h
theorem LstAt.sq {a : Addr} {xs : List V} (h : LstAt K H m a xs) : SqL K H a xs := by
  rcases h with ⟨h, _⟩ | h
  · exact .inl h
  · exact .inr h
mutual
theorem Rep.ext (e : Ext m H m' H') : ∀ (d : D) (v : V), Rep K H m v d → Rep K H' m' v d
  | .non, _, h => by cases h; exact .non
  | .bl b, _, h => by cases h; exact .bl b
  | .int i, _, h => by cases h; exact .int i
  | .str x, _, h => by cases h; exact .str x
  | .tup ds, _, h => by
    cases h with
    | tup h1 h2 => exact .tup (h1.ext e) (RepL.ext e ds _ h2)
  | .lst ds, _, h => by
    cases h with
    | lst h1 hn h2 => exact .lst (e.old _ _ h1 hn.1 fun _ z => nomatch z) (e.out h1 hn) (RepL.ext e ds _ h2)
  | .rd ds, _, h => by
    cases h with
    | rd h1 h2 => exact .rd (h1.ext e) (RepL.ext e ds _ h2)
  | .dK ks ds, _, h => by
    cases h with
    | dK h1 hn hl h2 => exact .dK (rd_ext e h1 hn fun _ z => nomatch z).1 (rd_ext e h1 hn fun _ z => nomatch z).2 hl (RepL.ext e ds _ h2)
  | .dT ks ds, _, h => by
    cases h with
    | dT h1 hn hl h2 => exact .dT (rd_ext e h1 hn fun _ z => nomatch z).1 (rd_ext e h1 hn fun _ z => nomatch z).2 hl (RepL.ext e ds _ h2)
  | .ins c fs ds, _, h => by
    cases h with
    | ins hc h1 hn hl h2 => exact .ins hc (e.old _ _ h1 hn.1 fun _ z => nomatch z) (e.out h1 hn) hl (RepL.ext e ds _ h2)
  | .exc c fs ds, _, h => by
    cases h with
    | exc hc h1 hn hx h2 => exact .exc hc (e.old _ _ h1 hn.1 fun _ z => nomatch z) (e.out h1 hn) (hx.ext e) (RepL.ext e ds _ h2)
  | .cls c, _, h => by cases h with | cls hc => exact .cls hc
  | .ob n, _, h => by
    cases h with
    | ob h1 =>
      obtain ⟨t, ht⟩ := e.pre
      refine .ob ?_
      rw [← ht, List.getElem?_append_left (List.getElem?_eq_some_iff.mp h1).1]
      exact h1
theorem RepL.ext (e : Ext m H m' H') : ∀ (ds : List D) (vs : List V), RepL K H m vs ds → RepL K H' m' vs ds
  | [], _, h => by cases h; exact .nil
  | d :: ds, _, h => by
    cases h with
    | cons h1 h2 => exact .cons (Rep.ext e d _ h1) (RepL.ext e ds _ h2)
end
theorem Rep.up (e : Ext m H m' H') {d : D} {v : V} (h : Rep K H m v d) : Rep K H' m' v d := Rep.ext e d v h
theorem RepL.up (e : Ext m H m' H') {ds : List D} {vs : List V} (h : RepL K H m vs ds) : RepL K H' m' vs ds := RepL.ext e ds vs h
theorem RepL.length : ∀ {vs : List V} {ds : List D}, RepL K H m vs ds → vs.length = ds.length
  | [], [], _ => rfl
  | [], _ :: _, h => by cases h
  | _ :: _, [], h => by cases h
  | v :: vs, d :: ds, h => by
    cases h with
    | cons h1 h2 => exact congrArg Nat.succ (RepL.length h2)
theorem RepL.get : ∀ {vs : List V} {ds : List D} {i : Nat} {d : D}, RepL K H m vs ds → ds[i]? = some d → ∃ v, vs[i]? = some v ∧ Rep K H m v d
  | [], [], i, d, _, e => by simp at e
  | [], _ :: _, _, _, h, _ => by cases h
  | _ :: _, [], _, _, h, _ => by cases h
  | v :: vs, d :: ds, 0, d', h, e => by
    cases h with
    | cons h1 h2 =>
      have e' : d = d' := by simpa using e
      subst e'
      exact ⟨v, rfl, h1⟩
  | v :: vs, d :: ds, i + 1, d', h, e => by
    cases h with
    | cons h1 h2 =>
      obtain ⟨w, q1, q2⟩ := RepL.get (i := i) (d := d') h2 (by simpa using e)
      exact ⟨w, by simpa using q1, q2⟩
theorem RepL.get' : ∀ {vs : List V} {ds : List D} {i : Nat} {v : V}, RepL K H m vs ds → vs[i]? = some v → ∃ d, ds[i]? = some d ∧ Rep K H m v d
  | [], [], i, d, _, e => by simp at e
  | [], _ :: _, _, _, h, _ => by cases h
  | _ :: _, [], _, _, h, _ => by cases h
  | v :: vs, d :: ds, 0, v', h, e => by
    cases h with
    | cons h1 h2 =>
      have e' : v = v' := by simpa using e
      subst e'
      exact ⟨d, rfl, h1⟩
  | v :: vs, d :: ds, i + 1, v', h, e => by
    cases h with
    | cons h1 h2 =>
      obtain ⟨w, q1, q2⟩ := RepL.get' (i := i) (v := v') h2 (by simpa using e)
      exact ⟨w, by simpa using q1, q2⟩
theorem RepL.append : ∀ {vs ws : List V} {ds es : List D}, RepL K H m vs ds → RepL K H m ws es → RepL K H m (vs ++ ws) (ds ++ es)
  | [], _, [], _, _, h => h
  | [], _, _ :: _, _, h, _ => by cases h
  | _ :: _, _, [], _, h, _ => by cases h
  | v :: vs, _, d :: ds, _, h, g => by
    cases h with
    | cons h1 h2 => exact .cons h1 (RepL.append h2 g)
theorem RepL.take : ∀ {vs : List V} {ds : List D} (n : Nat), RepL K H m vs ds → RepL K H m (vs.take n) (ds.take n)
  | [], [], n, _ => by simp; exact .nil
  | [], _ :: _, _, h => by cases h
  | _ :: _, [], _, h => by cases h
  | v :: vs, d :: ds, 0, h => .nil
  | v :: vs, d :: ds, n + 1, h => by
    cases h with
    | cons h1 h2 => exact .cons h1 (RepL.take n h2)
theorem RepL.drop : ∀ {vs : List V} {ds : List D} (n : Nat), RepL K H m vs ds → RepL K H m (vs.drop n) (ds.drop n)
  | [], [], n, _ => by simp; exact .nil
  | [], _ :: _, _, h => by cases h
  | _ :: _, [], _, h => by cases h
  | v :: vs, d :: ds, 0, h => h
  | v :: vs, d :: ds, n + 1, h => by
    cases h with
    | cons h1 h2 => exact RepL.drop n h2
theorem RepL.reverse : ∀ {vs : List V} {ds : List D}, RepL K H m vs ds → RepL K H m vs.reverse ds.reverse
  | [], [], _ => .nil
  | [], _ :: _, h => by cases h
  | _ :: _, [], h => by cases h
  | v :: vs, d :: ds, h => by
    cases h with
    | cons h1 h2 =>
      rw [List.reverse_cons, List.reverse_cons]
      exact (RepL.reverse h2).append (.cons h1 .nil)
theorem RepL.set : ∀ {vs : List V} {ds : List D} {v : V} {d : D} (i : Nat), RepL K H m vs ds → Rep K H m v d → RepL K H m (vs.set i v) (ds.set i d)
  | [], [], _, _, i, _, _ => by simp; exact .nil
  | [], _ :: _, _, _, _, h, _ => by cases h
  | _ :: _, [], _, _, _, h, _ => by cases h
  | v :: vs, d :: ds, _, _, 0, h, g => by
    cases h with
    | cons h1 h2 => exact .cons g h2
  | v :: vs, d :: ds, _, _, i + 1, h, g => by
    cases h with
    | cons h1 h2 => exact .cons h1 (RepL.set i h2 g)
theorem RepL.eraseIdx : ∀ {vs : List V} {ds : List D} (i : Nat), RepL K H m vs ds → RepL K H m (vs.eraseIdx i) (ds.eraseIdx i)
  | [], [], i, _ => by simp; exact .nil
  | [], _ :: _, _, h => by cases h
  | _ :: _, [], _, h => by cases h
  | v :: vs, d :: ds, 0, h => by
    cases h with
    | cons h1 h2 => exact h2
  | v :: vs, d :: ds, i + 1, h => by
    cases h with
    | cons h1 h2 => exact .cons h1 (RepL.eraseIdx i h2)
theorem RepL.ints {ns : List Int} : RepL K H m (ns.map V.int) (ns.map D.int) := by
  induction ns with
  | nil => exact .nil
  | cons n r ih => exact .cons (.int n) ih
/-- what is found under a name -/
theorem RepL.look {κ : Type} [BEq κ] {k : κ} : ∀ {ks : List κ} {vs : List V} {ds : List D} {d : D}, RepL K H m vs ds → (ks.zip ds).lookup k = some d → ∃ v, (ks.zip vs).lookup k = some v ∧ Rep K H m v d
  | [], _, _, _, _, e => by simp at e
  | _ :: _, [], [], _, _, e => by simp at e
  | _ :: _, [], _ :: _, _, h, _ => by cases h
  | _ :: _, _ :: _, [], _, h, _ => by cases h
  | j :: ks, v :: vs, d :: ds, d', h, e => by
    cases h with
    | cons h1 h2 =>
      simp only [List.zip_cons_cons, List.lookup_cons] at e ⊢
      cases z : k == j with
      | true =>
        rw [z] at e
        have e' : d = d' := by simpa using e
        subst e'
        exact ⟨v, rfl, h1⟩
      | false =>
        rw [z] at e
        exact RepL.look h2 e
theorem RepL.lookN {κ : Type} [BEq κ] {k : κ} : ∀ {ks : List κ} {vs : List V} {ds : List D}, RepL K H m vs ds → (ks.zip ds).lookup k = none → (ks.zip vs).lookup k = none
  | [], _, _, _, _ => by simp
  | _ :: _, [], [], _, _ => by simp
  | _ :: _, [], _ :: _, h, _ => by cases h
  | _ :: _, _ :: _, [], h, _ => by cases h
  | j :: ks, v :: vs, d :: ds, h, e => by
    cases h with
    | cons h1 h2 =>
      simp only [List.zip_cons_cons, List.lookup_cons] at e ⊢
      cases z : k == j with
      | true =>
        rw [z] at e
        cases e
      | false =>
        rw [z] at e
        exact RepL.lookN h2 e
end
/-- the store and what stands for it -/
def ORep (K : PySem.W.Frag) (H : Hp) (m : Mp) (a : Addr) : O → Prop
  | .lst ds => ∃ vs, H a = some (.lst vs) ∧ RepL K H m vs ds
  | .dK ks ds => ∃ vs, H a = some (.dK (ks.zip vs)) ∧ ks.length = vs.length ∧ RepL K H m vs ds
  | .dT ks ds => ∃ vs, H a = some (.dT (ks.zip vs)) ∧ ks.length = vs.length ∧ RepL K H m vs ds
  | .ins c fs ds => ∃ C dx vs, ClAt K c C ∧ H a = some (.ins C dx (fs.zip vs)) ∧ fs.length = vs.length ∧ RepL K H m vs ds
/-- a table of code objects, out of the way -/
def TbAt (m : Mp) (H : Hp) (P : Addr) (q : Str) : Prop :=
  m.out P ∧ ∃ ps : Array Value, H P = some (.tbl ps) ∧ TriplesOk ps.toList ∧ ∀ (pos : Pos) (cv : Value), codeAmong pos ps.toList = some cv → ∃ c, cv = .ref c ∧ H c = some (LamX.CodeO c q) ∧ m.out c
theorem TbAt.tabS {m : Mp} {H : Hp} {P : Addr} {q : Str} (h : TbAt m H P q) : LamX.TabS H P q := by
  obtain ⟨_, ps, h1, h2, h3⟩ := h
  exact ⟨ps, h1, h2, fun pos cv e => let ⟨c, a, b, _⟩ := h3 pos cv e; ⟨c, a, b⟩⟩
/-- the tables of code objects of the whole run -/
class TB0 where
  tb : List (Addr × Str)
instance : TB0 := ⟨[]⟩
section
variable [TB0]
structure Rl (K : PySem.W.Frag) (m : Mp) (H : Hp) (st : Store) : Prop where
  nd : m.m.Nodup
  len : m.m.length = st.length
  ob : ∀ (n : Nat) (o : O) (a : Addr), st[n]? = some o → m.m[n]? = some a → ORep K H m a o
  tr : ∀ a ∈ m.m, H a ≠ none
  trx : ∀ a ∈ m.x, H a ≠ none
  dj : ∀ a ∈ m.m, a ∉ m.x
  tbs : ∀ p ∈ m.tb, TbAt m H p.1 p.2
  tk : m.tb = TB0.tb
/-- the slots -/
structure SR (K : PySem.W.Frag) (H : Hp) (m : Mp) (σ : L2.St) (ρ : Sl) : Prop where
  len : σ.length = ρ.length
  get : ∀ (i : Nat) (d : D), ρ[i]? = some (some d) → ∃ v, σ[i]? = some (some v) ∧ Rep K H m v d
section
variable {K : PySem.W.Frag} {m m' : Mp} {H H' : Hp} {σ : L2.St} {ρ : Sl} {st : Store}
theorem SR.up (e : Ext m H m' H') (s : SR K H m σ ρ) : SR K H' m' σ ρ := ⟨s.len, fun i d h => by
  obtain ⟨v, h1, h2⟩ := s.get i d h
  exact ⟨v, h1, h2.up e⟩⟩
theorem SR.set (s : SR K H m σ ρ) {v : V} {d : D} (r : Rep K H m v d) (i : Nat) : SR K H m (σ.set i (some v)) (ρ.set i (some d)) := ⟨by simp [s.len], fun j d' h => by
  by_cases e : i = j
  · subst e
    rw [List.getElem?_set] at h
    by_cases hl : i < ρ.length
    · simp [hl] at h
      subst h
      refine ⟨v, ?_, r⟩
      rw [List.getElem?_set]
      simp [s.len, hl]
    · simp [hl] at h
  · rw [List.getElem?_set_ne e] at h
    obtain ⟨w, h1, h2⟩ := s.get j d' h
    exact ⟨w, by rw [List.getElem?_set_ne e]; exact h1, h2⟩⟩
theorem ORep.ext (e : Ext m H m' H') {a : Addr} {o : O} (h : ORep K H m a o) (hs : H' a = H a) : ORep K H' m' a o := by
  cases o with
  | lst ds =>
    obtain ⟨vs, h1, h2⟩ := h
    exact ⟨vs, hs.trans h1, h2.up e⟩
  | dK ks ds =>
    obtain ⟨vs, h1, hl, h2⟩ := h
    exact ⟨vs, hs.trans h1, hl, h2.up e⟩
  | dT ks ds =>
    obtain ⟨vs, h1, hl, h2⟩ := h
    exact ⟨vs, hs.trans h1, hl, h2.up e⟩
  | ins c fs ds =>
    obtain ⟨C, dx, vs, h0, h1, hl, h2⟩ := h
    exact ⟨C, dx, vs, h0, hs.trans h1, hl, h2.up e⟩
/-- tables stay, where a thing changes that is none of theirs -/
theorem TbAt.upd {p : Addr} {o : HO} {P : Addr} {q : Str} (h : TbAt m H P q) (hp : H p = none ∨ p ∈ m.m ∨ p ∈ m.x) : TbAt m (L2.upd H p o) P q := by
  obtain ⟨ho, ps, h1, h2, h3⟩ := h
  have ne : ∀ (a : Addr) (u : HO), H a = some u → m.out a → a ≠ p := fun a u e hn z => by
    rcases hp with hp | hp | hp
    · rw [z, hp] at e
      cases e
    · exact hn.1 (z ▸ hp)
    · exact hn.2 (z ▸ hp)
  refine ⟨ho, ps, by rw [upd_ne (ne P _ h1 ho)]; exact h1, h2, fun pos cv e => ?_⟩
  obtain ⟨c, e1, e2, e3⟩ := h3 pos cv e
  exact ⟨c, e1, by rw [upd_ne (ne c _ e2 e3)]; exact e2, e3⟩
/-- .. where more, or less, is out of the way -/
theorem TbAt.out {m' : Mp} {P : Addr} {q : Str} (h : TbAt m H P q) (hm : ∀ a o, H a = some o → m.out a → m'.out a) : TbAt m' H P q := by
  obtain ⟨ho, ps, h1, h2, h3⟩ := h
  refine ⟨hm _ _ h1 ho, ps, h1, h2, fun pos cv e => ?_⟩
  obtain ⟨c, e1, e2, e3⟩ := h3 pos cv e
  exact ⟨c, e1, e2, hm _ _ e2 e3⟩
/-- a new thing outside of the store -/
theorem Rl.laid (r : Rl K m H st) {p : Addr} {o : HO} (h : H p = none) : Rl K m (upd H p o) st :=
  ⟨r.nd, r.len, fun n u a h1 h2 => (r.ob n u a h1 h2).ext (Ext.laid h) (upd_ne fun z => r.tr a (List.mem_of_getElem? h2) (z ▸ h)), fun a ha => tr_upd (r.tr a ha), fun a ha => tr_upd (r.trx a ha), r.dj, fun q hq => (r.tbs q hq).upd (.inl h), r.tk⟩
theorem Rl.free (r : Rl K m H st) {p : Addr} (h : H p = none) : p ∉ m.m := fun z => r.tr p z h
theorem Rl.fresh (r : Rl K m H st) {p : Addr} (h : H p = none) : m.out p := ⟨r.free h, fun z => r.trx p z h⟩
/-- the store grows by p -/
def Mp.push (m : Mp) (p : Addr) : Mp := ⟨m.m ++ [p], m.x, m.tb⟩
theorem Ext.push {p : Addr} {o : HO} (h : H p = none) : Ext m H (m.push p) (upd H p o) := ⟨List.prefix_append _ _, (Ext.laid (m := m) h).old, fun a h1 h2 => by
    rcases List.mem_append.mp h1 with z | z
    · exact absurd z h2
    · have : a = p := by simpa using z
      rw [this]
      exact h, fun _ h => .inl h, fun _ h => h, fun _ h => tr_upd h, rfl⟩
/-- a new thing of the store -/
theorem Rl.push (r : Rl K m H st) {p : Addr} {o : HO} {u : O} (h : H p = none) (ho : ORep K (upd H p o) (m.push p) p u) : Rl K (m.push p) (upd H p o) (st ++ [u]) := by
  have hp := r.free h
  have e : Ext m H (m.push p) (upd H p o) := Ext.push h
  refine ⟨?_, by simp [Mp.push, r.len], fun n u' a h1 h2 => ?_, fun a ha => ?_, fun a ha => tr_upd (r.trx a ha), fun a ha => ?_, fun q hq => ((r.tbs q hq).out (m' := m.push p) ?_).upd (.inl h), r.tk⟩
  · refine List.nodup_append.mpr ⟨r.nd, by simp, fun a ha b hb z => ?_⟩
    have : b = p := by simpa using hb
    subst this
    exact hp (z ▸ ha)
  · unfold Mp.push at h2
    by_cases hn : n < st.length
    · rw [List.getElem?_append_left hn] at h1
      rw [List.getElem?_append_left (by rw [r.len]; exact hn)] at h2
      exact (r.ob n u' a h1 h2).ext e (upd_ne fun z => hp (z ▸ List.mem_of_getElem? h2))
    · have hl := (List.getElem?_eq_some_iff.mp h1).1
      rw [List.length_append] at hl
      have en : n = st.length := by
        have : ([u] : List O).length = 1 := rfl
        omega
      subst en
      rw [List.getElem?_append_right (Nat.le_refl _), Nat.sub_self] at h1
      rw [List.getElem?_append_right (by rw [r.len]; exact Nat.le_refl _), r.len, Nat.sub_self] at h2
      have e1 : u = u' := by simpa using h1
      have e2 : p = a := by simpa using h2
      subst e1
      subst e2
      exact ho
  · rcases List.mem_append.mp ha with z | z
    · exact tr_upd (r.tr a z)
    · have : a = p := by simpa using z
      rw [this, upd_same]
      simp
  · rcases List.mem_append.mp ha with z | z
    · exact r.dj a z
    · have : a = p := by simpa using z
      rw [this]
      exact fun z => r.trx p z h
  · intro a u' ha hn
    refine ⟨fun z => ?_, hn.2⟩
    rcases List.mem_append.mp z with z | z
    · exact hn.1 z
    · have hap : a = p := by simpa using z
      rw [hap, h] at ha
      cases ha
/-- a thing of the store is changed -/
theorem Ext.write {p : Addr} {o : HO} (hp : p ∈ m.m) : Ext m H m (upd H p o) := ⟨List.prefix_refl _, fun a q h hn _ => by
    rw [upd_ne (show a ≠ p from fun z => hn (by rw [z]; exact hp))]
    exact h, fun _ h1 h2 => absurd h1 h2, fun _ h => .inl h, fun _ h => h, fun _ h => tr_upd h, rfl⟩
theorem Rl.write (r : Rl K m H st) {p : Addr} {n : Nat} {o : HO} {u : O} (hm : m.m[n]? = some p) (ho : Ext m H m (upd H p o) → ORep K (upd H p o) m p u) : Rl K m (upd H p o) (st.set n u) := by
  have hp : p ∈ m.m := List.mem_of_getElem? hm
  have e : Ext m H m (upd H p o) := Ext.write hp
  refine ⟨r.nd, by simp [r.len], fun k u' a h1 h2 => ?_, fun a ha => tr_upd (r.tr a ha), fun a ha => tr_upd (r.trx a ha), r.dj, fun q hq => (r.tbs q hq).upd (.inr (.inl hp)), r.tk⟩
  by_cases hk : n = k
  · subst hk
    have hl : n < st.length := by
      rw [← r.len]
      exact (List.getElem?_eq_some_iff.mp hm).1
    rw [List.getElem?_set_self hl] at h1
    have e1 : u = u' := by simpa using h1
    rw [hm] at h2
    cases h2
    subst e1
    exact ho e
  · rw [List.getElem?_set_ne hk] at h1
    refine (r.ob k u' a h1 h2).ext e (upd_ne ?_)
    intro z
    subst z
    obtain ⟨l1, e1⟩ := List.getElem?_eq_some_iff.mp hm
    obtain ⟨l2, e2⟩ := List.getElem?_eq_some_iff.mp h2
    exact hk ((List.getElem_inj r.nd).mp (e1.trans e2.symm))
end
/-! ### what is hidden -/
/-- no datum stands for p -/
def Mp.hide (M : Mp) (p : Addr) : Mp := ⟨M.m, p :: M.x, M.tb⟩
theorem Ext.hide {M : Mp} {H : Hp} {p : Addr} {o : HO} (h : H p = none) : Ext M H (M.hide p) (upd H p o) :=
  ⟨List.prefix_refl _, (Ext.laid (m := M) (o := o) h).old, fun _ h1 h2 => absurd h1 h2, fun a ha => (List.mem_cons.mp ha).elim (fun z => .inr (z ▸ h)) .inl, fun _ h => List.mem_cons_of_mem _ h, fun _ => tr_upd, rfl⟩
theorem Rl.hide {K : PySem.W.Frag} {M : Mp} {H : Hp} {st : Store} {p : Addr} {o : HO} (r : Rl K M H st) (h : H p = none) : Rl K (M.hide p) (upd H p o) st :=
  ⟨r.nd, r.len, fun n u a h1 h2 => (r.ob n u a h1 h2).ext (Ext.hide h) (upd_ne fun z => r.tr a (List.mem_of_getElem? h2) (z ▸ h)), fun a ha => tr_upd (r.tr a ha), fun a ha => (List.mem_cons.mp ha).elim (fun z => by rw [z, upd_same]; simp) fun z => tr_upd (r.trx a z),
    fun a ha z => (List.mem_cons.mp z).elim (fun q => r.free h (q ▸ ha)) (r.dj a ha), fun q hq => ((r.tbs q hq).out (m' := M.hide p) fun a u ha hn => ⟨hn.1, fun z => (List.mem_cons.mp z).elim (fun q => by rw [q, h] at ha; cases ha) hn.2⟩).upd (.inl h), r.tk⟩
theorem out_upd {H : Hp} {m : Mp} {p a : Addr} {o u : HO} (hp : p ∈ m.x) (h : Rd H a u) (ho : m.out a) : Rd (upd H p o) a u := by
  have ne : a ≠ p := fun z => ho.2 (z ▸ hp)
  rcases h with h | ⟨q, h⟩
  · exact .inl (by rw [upd_ne ne]; exact h)
  · exact .inr ⟨q, by rw [upd_ne ne]; exact h⟩
theorem hid_at {H : Hp} {m : Mp} {p a : Addr} {o : HO} (hp : p ∈ m.x) (hn : m.out a) : upd H p o a = H a := upd_ne fun z => hn.2 (by rw [z]; exact hp)
section
variable {K : PySem.W.Frag} {H : Hp} {m : Mp} {p : Addr} {o : HO}
mutual
/-- what is hidden changes -/
theorem Rep.hid (hp : p ∈ m.x) : ∀ (d : D) (v : V), Rep K H m v d → Rep K (upd H p o) m v d
  | .non, _, h => by cases h; exact .non
  | .bl b, _, h => by cases h; exact .bl b
  | .int i, _, h => by cases h; exact .int i
  | .str x, _, h => by cases h; exact .str x
  | .tup ds, _, h => by
    cases h with
    | tup h1 h2 => exact .tup (h1.elim (fun q => .inl ⟨out_upd hp q.1 q.2, q.2⟩) .inr) (RepL.hid hp ds _ h2)
  | .lst ds, _, h => by
    cases h with
    | lst h1 hn h2 => exact .lst ((hid_at hp hn).trans h1) hn (RepL.hid hp ds _ h2)
  | .rd ds, _, h => by
    cases h with
    | rd h1 h2 => exact .rd (h1.elim (fun q => .inl ⟨out_upd hp q.1 q.2, q.2⟩) .inr) (RepL.hid hp ds _ h2)
  | .dK ks ds, _, h => by
    cases h with
    | dK h1 hn hl h2 => exact .dK (out_upd hp h1 hn) hn hl (RepL.hid hp ds _ h2)
  | .dT ks ds, _, h => by
    cases h with
    | dT h1 hn hl h2 => exact .dT (out_upd hp h1 hn) hn hl (RepL.hid hp ds _ h2)
  | .ins c fs ds, _, h => by
    cases h with
    | ins hc h1 hn hl h2 => exact .ins hc ((hid_at hp hn).trans h1) hn hl (RepL.hid hp ds _ h2)
  | .exc c fs ds, _, h => by
    cases h with
    | @exc a C dx _ _ vs _ hc h1 hn hx h2 =>
      refine .exc hc ((hid_at hp hn).trans h1) hn ⟨hx.1, ?_⟩ (RepL.hid hp ds _ h2)
      cases dx with
      | none => exact hx.2
      | some d => exact ⟨(hid_at hp hx.2.2).trans hx.2.1, hx.2.2⟩
  | .cls c, _, h => by cases h with | cls hc => exact .cls hc
  | .ob n, _, h => by
    cases h with
    | ob h1 => exact .ob h1
theorem RepL.hid (hp : p ∈ m.x) : ∀ (ds : List D) (vs : List V), RepL K H m vs ds → RepL K (upd H p o) m vs ds
  | [], _, h => by cases h; exact .nil
  | d :: ds, _, h => by
    cases h with
    | cons h1 h2 => exact .cons (Rep.hid hp d _ h1) (RepL.hid hp ds _ h2)
end
mutual
/-- less is out of the way -/
theorem Rep.less {m' : Mp} (hm : m'.m = m.m) (hx : ∀ a ∈ m'.x, a ∈ m.x) : ∀ (d : D) (v : V), Rep K H m v d → Rep K H m' v d
  | .non, _, h => by cases h; exact .non
  | .bl b, _, h => by cases h; exact .bl b
  | .int i, _, h => by cases h; exact .int i
  | .str x, _, h => by cases h; exact .str x
  | .tup ds, _, h => by
    cases h with
    | tup h1 h2 => exact .tup (h1.elim (fun q => .inl ⟨q.1, by rw [hm]; exact q.2.1, fun z => q.2.2 (hx _ z)⟩) .inr) (RepL.less hm hx ds _ h2)
  | .lst ds, _, h => by
    cases h with
    | lst h1 hn h2 => exact .lst h1 ⟨by rw [hm]; exact hn.1, fun z => hn.2 (hx _ z)⟩ (RepL.less hm hx ds _ h2)
  | .rd ds, _, h => by
    cases h with
    | rd h1 h2 => exact .rd (h1.elim (fun q => .inl ⟨q.1, by rw [hm]; exact q.2.1, fun z => q.2.2 (hx _ z)⟩) .inr) (RepL.less hm hx ds _ h2)
  | .dK ks ds, _, h => by
    cases h with
    | dK h1 hn hl h2 => exact .dK h1 ⟨by rw [hm]; exact hn.1, fun z => hn.2 (hx _ z)⟩ hl (RepL.less hm hx ds _ h2)
  | .dT ks ds, _, h => by
    cases h with
    | dT h1 hn hl h2 => exact .dT h1 ⟨by rw [hm]; exact hn.1, fun z => hn.2 (hx _ z)⟩ hl (RepL.less hm hx ds _ h2)
  | .ins c fs ds, _, h => by
    cases h with
    | ins hc h1 hn hl h2 => exact .ins hc h1 ⟨by rw [hm]; exact hn.1, fun z => hn.2 (hx _ z)⟩ hl (RepL.less hm hx ds _ h2)
  | .exc c fs ds, _, h => by
    cases h with
    | @exc a C dx _ _ vs _ hc h1 hn hX h2 =>
      refine .exc hc h1 ⟨by rw [hm]; exact hn.1, fun z => hn.2 (hx _ z)⟩ ⟨hX.1, ?_⟩ (RepL.less hm hx ds _ h2)
      cases dx with
      | none => exact hX.2
      | some d => exact ⟨hX.2.1, by rw [hm]; exact hX.2.2.1, fun z => hX.2.2.2 (hx _ z)⟩
  | .cls c, _, h => by cases h with | cls hc => exact .cls hc
  | .ob n, _, h => by
    cases h with
    | ob h1 => exact .ob (by rw [hm]; exact h1)
theorem RepL.less {m' : Mp} (hm : m'.m = m.m) (hx : ∀ a ∈ m'.x, a ∈ m.x) : ∀ (ds : List D) (vs : List V), RepL K H m vs ds → RepL K H m' vs ds
  | [], _, h => by cases h; exact .nil
  | d :: ds, _, h => by
    cases h with
    | cons h1 h2 => exact .cons (Rep.less hm hx d _ h1) (RepL.less hm hx ds _ h2)
end
theorem ORep.hid (hp : p ∈ m.x) {a : Addr} (ne : a ≠ p) {u : O} (q : ORep K H m a u) : ORep K (upd H p o) m a u := by
  cases u with
  | lst ds =>
    obtain ⟨vs, q1, q2⟩ := q
    exact ⟨vs, by rw [upd_ne ne]; exact q1, RepL.hid hp ds vs q2⟩
  | dK ks ds =>
    obtain ⟨vs, q1, hl, q2⟩ := q
    exact ⟨vs, by rw [upd_ne ne]; exact q1, hl, RepL.hid hp ds vs q2⟩
  | dT ks ds =>
    obtain ⟨vs, q1, hl, q2⟩ := q
    exact ⟨vs, by rw [upd_ne ne]; exact q1, hl, RepL.hid hp ds vs q2⟩
  | ins c fs ds =>
    obtain ⟨C, dx, vs, q0, q1, hl, q2⟩ := q
    exact ⟨C, dx, vs, q0, by rw [upd_ne ne]; exact q1, hl, RepL.hid hp ds vs q2⟩
theorem ORep.less {m' : Mp} (hm : m'.m = m.m) (hx : ∀ a ∈ m'.x, a ∈ m.x) {a : Addr} {u : O} (q : ORep K H m a u) : ORep K H m' a u := by
  cases u with
  | lst ds =>
    obtain ⟨vs, q1, q2⟩ := q
    exact ⟨vs, q1, RepL.less hm hx ds vs q2⟩
  | dK ks ds =>
    obtain ⟨vs, q1, hl, q2⟩ := q
    exact ⟨vs, q1, hl, RepL.less hm hx ds vs q2⟩
  | dT ks ds =>
    obtain ⟨vs, q1, hl, q2⟩ := q
    exact ⟨vs, q1, hl, RepL.less hm hx ds vs q2⟩
  | ins c fs ds =>
    obtain ⟨C, dx, vs, q0, q1, hl, q2⟩ := q
    exact ⟨C, dx, vs, q0, q1, hl, RepL.less hm hx ds vs q2⟩
theorem Rl.hid {st : Store} (hp : p ∈ m.x) (hm : p ∉ m.m) (r : Rl K m H st) : Rl K m (upd H p o) st :=
  ⟨r.nd, r.len, fun n u a h1 h2 => (r.ob n u a h1 h2).hid hp fun z => hm (z ▸ List.mem_of_getElem? h2), fun a ha => tr_upd (r.tr a ha), fun a ha => tr_upd (r.trx a ha), r.dj, fun q hq => (r.tbs q hq).upd (.inr (.inr hp)), r.tk⟩
theorem Rl.less {st : Store} {m' : Mp} (hm : m'.m = m.m) (ht : m'.tb = m.tb) (hx : ∀ a ∈ m'.x, a ∈ m.x) (r : Rl K m H st) : Rl K m' H st :=
  ⟨by rw [hm]; exact r.nd, by rw [hm]; exact r.len, fun n u a h1 h2 => (r.ob n u a h1 (by rw [← hm]; exact h2)).less hm hx, fun a ha => r.tr a (by rw [← hm]; exact ha), fun a ha => r.trx a (hx a ha), fun a ha z => r.dj a (by rw [← hm]; exact ha) (hx a z),
    fun q hq => (r.tbs q (by rw [← ht]; exact hq)).out fun a u _ hn => ⟨by rw [hm]; exact hn.1, fun z => hn.2 (hx a z)⟩, ht.trans r.tk⟩
end
/-- what was hidden since m1 is so no longer -/
def Mp.rel (m2 m1 : Mp) : Mp := ⟨m2.m, m1.x, m2.tb⟩
section
variable {K : PySem.W.Frag} {H1 H2 : Hp} {m1 m2 : Mp}
theorem Ext.rel (e : Ext m1 H1 m2 H2) : Ext m1 H1 (m2.rel m1) H2 := ⟨e.pre, e.old, e.new, fun _ z => .inl z, fun _ z => z, e.tr, e.tb⟩
theorem Rl.rel {st : Store} (r : Rl K m2 H2 st) (e : Ext m1 H1 m2 H2) : Rl K (m2.rel m1) H2 st := Rl.less (m := m2) (m' := m2.rel m1) rfl rfl e.exs r
theorem Rep.rel {v : V} {d : D} (r : Rep K H2 m2 v d) (e : Ext m1 H1 m2 H2) : Rep K H2 (m2.rel m1) v d := Rep.less (m := m2) (m' := m2.rel m1) rfl e.exs d v r
theorem RepL.rel {vs : List V} {ds : List D} (r : RepL K H2 m2 vs ds) (e : Ext m1 H1 m2 H2) : RepL K H2 (m2.rel m1) vs ds := RepL.less (m := m2) (m' := m2.rel m1) rfl e.exs ds vs r
end
/-! ### at a def's end the store's new things stand still -/
mutual
def fzD (g : Nat → Option D) : D → Option D
  | .non => some .non
  | .bl b => some (.bl b)
  | .int i => some (.int i)
  | .str x => some (.str x)
  | .tup xs => (fzL g xs).map .tup
  | .lst xs => (fzL g xs).map .lst
  | .rd xs => (fzL g xs).map .rd
  | .dK ks ds => (fzL g ds).map (.dK ks)
  | .dT ks ds => (fzL g ds).map (.dT ks)
  | .ins c fs ds => (fzL g ds).map (.ins c fs)
  | .exc c fs ds => (fzL g ds).map (.exc c fs)
  | .cls c => some (.cls c)
  | .ob n => g n
def fzL (g : Nat → Option D) : List D → Option (List D)
  | [] => some []
  | d :: ds => match fzD g d, fzL g ds with
    | some a, some as => some (a :: as)
    | _, _ => none
end
/-- the n0 things that were there stay what they are, the newer ones become data -/
def fzG (st : Store) (n0 : Nat) : Nat → Nat → Option D
  | 0, n => if n < n0 then some (.ob n) else none
  | k + 1, n => if n < n0 then some (.ob n) else match st[n]? with
    | some (.lst xs) => (fzL (fzG st n0 k) xs).map .lst
    | some (.dK ks ds) => (fzL (fzG st n0 k) ds).map (.dK ks)
    | some (.dT ks ds) => (fzL (fzG st n0 k) ds).map (.dT ks)
    | some (.ins c fs ds) => (fzL (fzG st n0 k) ds).map (.ins c fs)
    | none => none
mutual
/-- nothing of the store is in it -/
def D.pure : D → Bool
  | .tup xs => D.pureL xs
  | .lst xs => D.pureL xs
  | .rd xs => D.pureL xs
  | .dK _ ds => D.pureL ds
  | .dT _ ds => D.pureL ds
  | .ins _ _ ds => D.pureL ds
  | .exc _ _ ds => D.pureL ds
  | .ob _ => false
  | _ => true
def D.pureL : List D → Bool
  | [] => true
  | d :: ds => D.pure d && D.pureL ds
end
def O.pure : O → Bool
  | .lst xs => D.pureL xs
  | .dK _ ds => D.pureL ds
  | .dT _ ds => D.pureL ds
  | .ins _ _ ds => D.pureL ds
mutual
theorem fz_pure (g : Nat → Option D) : ∀ d : D, d.pure = true → fzD g d = some d
  | .non, _ => rfl
  | .bl b, _ => rfl
  | .int i, _ => rfl
  | .str x, _ => rfl
  | .tup xs, h => by unfold fzD; rw [fzL_pure g xs h]; rfl
  | .lst xs, h => by unfold fzD; rw [fzL_pure g xs h]; rfl
  | .rd xs, h => by unfold fzD; rw [fzL_pure g xs h]; rfl
  | .dK ks xs, h => by unfold fzD; rw [fzL_pure g xs h]; rfl
  | .dT ks xs, h => by unfold fzD; rw [fzL_pure g xs h]; rfl
  | .ins c fs xs, h => by unfold fzD; rw [fzL_pure g xs h]; rfl
  | .exc c fs xs, h => by unfold fzD; rw [fzL_pure g xs h]; rfl
  | .cls c, _ => rfl
  | .ob n, h => by cases h
theorem fzL_pure (g : Nat → Option D) : ∀ ds : List D, D.pureL ds = true → fzL g ds = some ds
  | [], _ => rfl
  | d :: ds, h => by
    obtain ⟨h1, h2⟩ := Bool.and_eq_true_iff.mp h
    unfold fzL
    rw [fz_pure g d h1, fzL_pure g ds h2]
end
section
variable {K : PySem.W.Frag} {H : Hp} {m m' : Mp}
/-- the older places alone -/
structure Cut (m m' : Mp) : Prop where
  pre : m'.m <+: m.m
  x : m'.x = m.x
theorem Cut.out {a : Addr} (c : Cut m m') (h : m.out a) : m'.out a := ⟨fun z => h.1 (c.pre.subset z), fun z => h.2 (by rw [← c.x]; exact z)⟩
mutual
theorem Rep.fz (c : Cut m m') {g : Nat → Option D} (hg : ∀ n a d', m.m[n]? = some a → g n = some d' → Rep K H m' (.ref a) d') : ∀ (d : D) (v : V) (d' : D), Rep K H m v d → fzD g d = some d' → Rep K H m' v d'
  | .non, _, _, h, e => by cases h; cases e; exact .non
  | .bl b, _, _, h, e => by cases h; cases e; exact .bl b
  | .int i, _, _, h, e => by cases h; cases e; exact .int i
  | .str x, _, _, h, e => by cases h; cases e; exact .str x
  | .tup ds, _, _, h, e => by
    cases h with
    | tup h1 h2 =>
      unfold fzD at e
      obtain ⟨ds', e1, rfl⟩ := Option.map_eq_some_iff.mp e
      exact .tup (h1.elim (fun q => .inl ⟨q.1, c.out q.2⟩) .inr) (RepL.fz c hg ds _ ds' h2 e1)
  | .lst ds, _, _, h, e => by
    cases h with
    | lst h1 hn h2 =>
      unfold fzD at e
      obtain ⟨ds', e1, rfl⟩ := Option.map_eq_some_iff.mp e
      exact .lst h1 (c.out hn) (RepL.fz c hg ds _ ds' h2 e1)
  | .rd ds, _, _, h, e => by
    cases h with
    | rd h1 h2 =>
      unfold fzD at e
      obtain ⟨ds', e1, rfl⟩ := Option.map_eq_some_iff.mp e
      exact .rd (h1.elim (fun q => .inl ⟨q.1, c.out q.2⟩) .inr) (RepL.fz c hg ds _ ds' h2 e1)
  | .dK ks ds, _, _, h, e => by
    cases h with
    | dK h1 hn hl h2 =>
      unfold fzD at e
      obtain ⟨ds', e1, rfl⟩ := Option.map_eq_some_iff.mp e
      exact .dK h1 (c.out hn) hl (RepL.fz c hg ds _ ds' h2 e1)
  | .dT ks ds, _, _, h, e => by
    cases h with
    | dT h1 hn hl h2 =>
      unfold fzD at e
      obtain ⟨ds', e1, rfl⟩ := Option.map_eq_some_iff.mp e
      exact .dT h1 (c.out hn) hl (RepL.fz c hg ds _ ds' h2 e1)
  | .ins cn fs ds, _, _, h, e => by
    cases h with
    | ins hc h1 hn hl h2 =>
      unfold fzD at e
      obtain ⟨ds', e1, rfl⟩ := Option.map_eq_some_iff.mp e
      exact .ins hc h1 (c.out hn) hl (RepL.fz c hg ds _ ds' h2 e1)
  | .exc cn fs ds, _, _, h, e => by
    cases h with
    | @exc a C dx _ _ vs _ hc h1 hn hx h2 =>
      unfold fzD at e
      obtain ⟨ds', e1, rfl⟩ := Option.map_eq_some_iff.mp e
      refine .exc hc h1 (c.out hn) ⟨hx.1, ?_⟩ (RepL.fz c hg ds _ ds' h2 e1)
      cases dx with
      | none => exact hx.2
      | some d => exact ⟨hx.2.1, c.out hx.2.2⟩
  | .cls c, _, _, h, e => by cases h with | cls hc => cases e; exact .cls hc
  | .ob n, _, _, h, e => by
    cases h with
    | ob h1 => exact hg n _ _ h1 e
theorem RepL.fz (c : Cut m m') {g : Nat → Option D} (hg : ∀ n a d', m.m[n]? = some a → g n = some d' → Rep K H m' (.ref a) d') : ∀ (ds : List D) (vs : List V) (ds' : List D), RepL K H m vs ds → fzL g ds = some ds' → RepL K H m' vs ds'
  | [], _, _, h, e => by cases h; cases e; exact .nil
  | d :: ds, _, _, h, e => by
    cases h with
    | cons h1 h2 =>
      unfold fzL at e
      split at e
      · rename_i a as z1 z2
        cases e
        exact .cons (Rep.fz c hg d _ a h1 z1) (RepL.fz c hg ds _ as h2 z2)
      · cases e
end
theorem fzG_old {st : Store} {n0 n : Nat} (h : n < n0) : ∀ k, fzG st n0 k n = some (.ob n)
  | 0 => by unfold fzG; rw [if_pos h]
  | k + 1 => by unfold fzG; rw [if_pos h]
theorem fzG_rep {st : Store} (r : Rl K m H st) (c : Cut m m') : ∀ (k n : Nat) (a : Addr) (d' : D), m.m[n]? = some a → fzG st m'.m.length k n = some d' → Rep K H m' (.ref a) d' := by
  have old : ∀ (n : Nat) (a : Addr), m.m[n]? = some a → n < m'.m.length → Rep K H m' (.ref a) (.ob n) := fun n a h1 hn => by
    obtain ⟨t, ht⟩ := c.pre
    refine .ob ?_
    rw [← ht, List.getElem?_append_left hn] at h1
    exact h1
  have new : ∀ (n : Nat) (a : Addr), m.m[n]? = some a → ¬ n < m'.m.length → m'.out a := fun n a h1 hn => by
    refine ⟨fun z => ?_, fun z => r.dj a (List.mem_of_getElem? h1) (by rw [← c.x]; exact z)⟩
    obtain ⟨j, hj, e⟩ := List.getElem_of_mem z
    obtain ⟨t, ht⟩ := c.pre
    have h2 : m.m[j]? = some a := by
      rw [← ht, List.getElem?_append_left hj, List.getElem?_eq_getElem hj, e]
    obtain ⟨l1, e1⟩ := List.getElem?_eq_some_iff.mp h1
    obtain ⟨l2, e2⟩ := List.getElem?_eq_some_iff.mp h2
    have := (List.getElem_inj r.nd).mp (e1.trans e2.symm)
    omega
  intro k
  induction k with
  | zero =>
    intro n a d' h1 e
    unfold fzG at e
    by_cases hn : n < m'.m.length
    · rw [if_pos hn] at e
      cases e
      exact old n a h1 hn
    · rw [if_neg hn] at e
      cases e
  | succ k ih =>
    intro n a d' h1 e
    unfold fzG at e
    by_cases hn : n < m'.m.length
    · rw [if_pos hn] at e
      cases e
      exact old n a h1 hn
    · rw [if_neg hn] at e
      have ho := new n a h1 hn
      split at e
      · rename_i xs hs
        obtain ⟨vs, q1, q2⟩ := r.ob n _ a hs h1
        obtain ⟨ds', e1, rfl⟩ := Option.map_eq_some_iff.mp e
        exact .lst q1 ho (RepL.fz c (fun n a d' => ih n a d') xs vs ds' q2 e1)
      · rename_i ks xs hs
        obtain ⟨vs, q1, hl, q2⟩ := r.ob n _ a hs h1
        obtain ⟨ds', e1, rfl⟩ := Option.map_eq_some_iff.mp e
        exact .dK (.inl q1) ho hl (RepL.fz c (fun n a d' => ih n a d') xs vs ds' q2 e1)
      · rename_i ks xs hs
        obtain ⟨vs, q1, hl, q2⟩ := r.ob n _ a hs h1
        obtain ⟨ds', e1, rfl⟩ := Option.map_eq_some_iff.mp e
        exact .dT (.inl q1) ho hl (RepL.fz c (fun n a d' => ih n a d') xs vs ds' q2 e1)
      · rename_i cn fs xs hs
        obtain ⟨C, dx, vs, q0, q1, hl, q2⟩ := r.ob n _ a hs h1
        obtain ⟨ds', e1, rfl⟩ := Option.map_eq_some_iff.mp e
        exact .ins q0 q1 ho hl (RepL.fz c (fun n a d' => ih n a d') xs vs ds' q2 e1)
      · cases e
mutual
/-- only the first n0 things of the store are in it -/
theorem Rep.scoped {n0 : Nat} {g : Nat → Option D} (hn : m.m.length ≤ n0) (hg : ∀ n, n < n0 → g n = some (.ob n)) : ∀ (d : D) (v : V), Rep K H m v d → fzD g d = some d
  | .non, _, _ => rfl
  | .bl b, _, _ => rfl
  | .int i, _, _ => rfl
  | .str x, _, _ => rfl
  | .tup ds, _, h => by cases h with | tup h1 h2 => unfold fzD; rw [RepL.scoped hn hg ds _ h2]; rfl
  | .lst ds, _, h => by cases h with | lst h1 h3 h2 => unfold fzD; rw [RepL.scoped hn hg ds _ h2]; rfl
  | .rd ds, _, h => by cases h with | rd h1 h2 => unfold fzD; rw [RepL.scoped hn hg ds _ h2]; rfl
  | .dK ks ds, _, h => by cases h with | dK h1 h3 hl h2 => unfold fzD; rw [RepL.scoped hn hg ds _ h2]; rfl
  | .dT ks ds, _, h => by cases h with | dT h1 h3 hl h2 => unfold fzD; rw [RepL.scoped hn hg ds _ h2]; rfl
  | .ins c fs ds, _, h => by cases h with | ins hc h1 h3 hl h2 => unfold fzD; rw [RepL.scoped hn hg ds _ h2]; rfl
  | .exc c fs ds, _, h => by cases h with | exc hc h1 h3 hx h2 => unfold fzD; rw [RepL.scoped hn hg ds _ h2]; rfl
  | .cls c, _, _ => rfl
  | .ob n, _, h => by
    cases h with
    | ob h1 => exact hg n (Nat.lt_of_lt_of_le (List.getElem?_eq_some_iff.mp h1).1 hn)
theorem RepL.scoped {n0 : Nat} {g : Nat → Option D} (hn : m.m.length ≤ n0) (hg : ∀ n, n < n0 → g n = some (.ob n)) : ∀ (ds : List D) (vs : List V), RepL K H m vs ds → fzL g ds = some ds
  | [], _, _ => rfl
  | d :: ds, _, h => by
    cases h with
    | cons h1 h2 => unfold fzL; rw [Rep.scoped hn hg d _ h1, RepL.scoped hn hg ds _ h2]
end
end
/-- of the older things each is as it was, or holds nothing of the store -/
def OkOld (st st' : Store) : Prop := ∀ j o, j < st.length → st'[j]? = some o → st[j]? = some o ∨ o.pure = true
open Classical in
/-- what a def gives: the store as it was, but for changes of older things -/
noncomputable def frzR {α : Type} (f : (Nat → Option D) → α → Option α) (st : Store) : Res α → Res α
  | .ok d st' => if OkOld st st' then match f (fzG st' st.length 40) d with
    | some d' => .ok d' (st'.take st.length)
    | none => .bad else .bad
  | .exc c fs st' => if OkOld st st' then match fzL (fzG st' st.length 40) (fs.map (·.2)) with
    | some ds => .exc c ((fs.map (·.1)).zip ds) (st'.take st.length)
    | none => .bad else .bad
  | .bad => .bad
noncomputable def frz (F : FF) : FF := fun ds st => frzR fzD st (F ds st)
section
variable {K : PySem.W.Frag} {H H' : Hp} {m m' : Mp} {st st' : Store}
/-- the places, cut back to m -/
def Mp.back (m' m : Mp) : Mp := ⟨m.m, m'.x, m'.tb⟩
theorem Ext.back (e : Ext m H m' H') : Ext m H (m'.back m) H' := ⟨List.prefix_refl _, e.old, fun _ h1 h2 => absurd h1 h2, e.ex, e.exs, e.tr, e.tb⟩
theorem Ext.cut (e : Ext m H m' H') : Cut m' (m'.back m) := ⟨e.pre, rfl⟩
theorem Rl.back (r : Rl K m H st) (e : Ext m H m' H') (r' : Rl K m' H' st') (ok : OkOld st st') : Rl K (m'.back m) H' (st'.take st.length) := by
  have hpl : m.m.length ≤ m'.m.length := e.pre.length_le
  have hl : st.length ≤ st'.length := by rw [← r.len, ← r'.len]; exact hpl
  have c := e.cut
  have stays : ∀ a ∈ m.m, a ∈ m'.m := fun a h => e.pre.subset h
  refine ⟨r.nd, by rw [List.length_take, Nat.min_eq_left hl]; exact r.len, fun n u a h1 h2 => ?_, fun a ha => r'.tr a (stays a ha), r'.trx, fun a ha => r'.dj a (stays a ha), fun q hq => (r'.tbs q hq).out fun a u _ hn => c.out hn, r'.tk⟩
  have hn : n < st.length := by rw [← r.len]; exact (List.getElem?_eq_some_iff.mp h2).1
  rw [List.getElem?_take_of_lt hn] at h1
  have h3 : m'.m[n]? = some a := by
    obtain ⟨t, ht⟩ := e.pre
    rw [← ht, List.getElem?_append_left (by rw [r.len]; exact hn)]
    exact h2
  have q := r'.ob n u a h1 h3
  have fin : ∀ (vs : List V) (ds : List D), fzL (fzG st' m.m.length 0) ds = some ds → RepL K H' m' vs ds → RepL K H' (m'.back m) vs ds := fun vs ds hs q2 => RepL.fz c (fun n a d' => fzG_rep r' c 0 n a d') ds vs ds q2 hs
  have sc : ∀ ds : List D, D.pureL ds = true ∨ (∃ vs, RepL K H m vs ds) → fzL (fzG st' m.m.length 0) ds = some ds := fun ds h => h.elim (fun h => fzL_pure _ ds h) fun ⟨vs, h⟩ => RepL.scoped (n0 := m.m.length) (Nat.le_refl _) (fun n h => fzG_old h 0) ds vs h
  rcases ok n u hn h1 with h4 | h4
  · have q0 := r.ob n u a h4 h2
    cases u with
    | lst ds =>
      obtain ⟨vs0, _, z⟩ := q0
      obtain ⟨vs, q1, q2⟩ := q
      exact ⟨vs, q1, fin vs ds (sc ds (.inr ⟨_, z⟩)) q2⟩
    | dK ks ds =>
      obtain ⟨vs0, _, _, z⟩ := q0
      obtain ⟨vs, q1, hl, q2⟩ := q
      exact ⟨vs, q1, hl, fin vs ds (sc ds (.inr ⟨_, z⟩)) q2⟩
    | dT ks ds =>
      obtain ⟨vs0, _, _, z⟩ := q0
      obtain ⟨vs, q1, hl, q2⟩ := q
      exact ⟨vs, q1, hl, fin vs ds (sc ds (.inr ⟨_, z⟩)) q2⟩
    | ins cn fs ds =>
      obtain ⟨_, _, vs0, _, _, _, z⟩ := q0
      obtain ⟨C, dx, vs, q0, q1, hl, q2⟩ := q
      exact ⟨C, dx, vs, q0, q1, hl, fin vs ds (sc ds (.inr ⟨_, z⟩)) q2⟩
  · cases u with
    | lst ds =>
      obtain ⟨vs, q1, q2⟩ := q
      exact ⟨vs, q1, fin vs ds (sc ds (.inl h4)) q2⟩
    | dK ks ds =>
      obtain ⟨vs, q1, hl, q2⟩ := q
      exact ⟨vs, q1, hl, fin vs ds (sc ds (.inl h4)) q2⟩
    | dT ks ds =>
      obtain ⟨vs, q1, hl, q2⟩ := q
      exact ⟨vs, q1, hl, fin vs ds (sc ds (.inl h4)) q2⟩
    | ins cn fs ds =>
      obtain ⟨C, dx, vs, q0, q1, hl, q2⟩ := q
      exact ⟨C, dx, vs, q0, q1, hl, fin vs ds (sc ds (.inl h4)) q2⟩
end
end
end DX

/-! DX 2: what it is for an expression to mean a function; the plain expressions -/
namespace DX
open PySem PySem.Spec PyProof.Rows L2
variable [TB0]

/-- an exception in the air: its class's name, its fields -/
def XCls (K : PySem.W.Frag) (c : String) (cls : Value) : Prop := (∃ C, ClAt K c C ∧ cls = .ref C) ∨ (PySem.W.nsIn K mainGlobals (Str.ofString c) = some none ∧ cls = .type c)
def XRep (K : PySem.W.Frag) (H : Hp) (m : Mp) (cls : Value) (dc : Option Addr) (c : String) (fs : List (Str × D)) : Prop :=
  XCls K c cls ∧ (fs = [] ∨ ∃ d vs, dc = some d ∧ H d = some (.xd ((fs.map (·.1)).zip vs)) ∧ m.out d ∧ RepL K H m vs (fs.map (·.2)))
def PostV (K : PySem.W.Frag) (m : Mp) (H : Hp) {α β : Type} (R : PySem.W.Frag → Hp → Mp → β → α → Prop) (Q : β → Hp → Prop) (a : α) (st : Store) : Prop :=
  ∀ v H' m', Ext m H m' H' → Rl K m' H' st → R K H' m' v a → Q v H'
def Post {α β : Type} (X : Cx) (W : WX) (m : Mp) (H : Hp) (σ : L2.St) (R : PySem.W.Frag → Hp → Mp → β → α → Prop) (Q : β → Hp → Prop) : Res α → Prop
  | .ok a st => PostV X.K m H R Q a st
  | .exc c fs st => ∀ cls dc H' m', Ext m H m' H' → Rl X.K m' H' st → XRep X.K H' m' cls dc c fs → W cls dc σ H'
  | .bad => False
section
variable {α α' β β' : Type} {X : Cx} {W : WX} {m m' : Mp} {H H' : Hp} {σ : L2.St} {R : PySem.W.Frag → Hp → Mp → β → α → Prop} {R' : PySem.W.Frag → Hp → Mp → β' → α' → Prop} {Q : β → Hp → Prop} {Q' : β' → Hp → Prop}
theorem Post.up {r : Res α} (h : Post X W m H σ R Q r) (e : Ext m H m' H') : Post X W m' H' σ R Q r := by
  cases r with
  | ok a st => exact fun v H2 m2 e2 => h v H2 m2 (e.trans e2)
  | exc c fs st => exact fun cls dc H2 m2 e2 => h cls dc H2 m2 (e.trans e2)
  | bad => exact h
theorem Post.mp {r : Res α'} {f : α' → Store → Res α} (h : Post X W m H σ R Q (r.bind f))
    (k : ∀ a st v H1 m1, Ext m H m1 H1 → Rl X.K m1 H1 st → R' X.K H1 m1 v a → Post X W m1 H1 σ R Q (f a st) → Q' v H1) : Post X W m H σ R' Q' r := by
  cases r with
  | ok a st =>
    intro v H1 m1 e r1 rp
    exact k a st v H1 m1 e r1 rp (Post.up (show Post X W m H σ R Q (f a st) from h) e)
  | exc c fs st => exact h
  | bad => exact h
theorem Post.go {a : α} {st : Store} {v : β} (h : Post X W m H σ R Q (.ok a st)) (r : Rl X.K m H st) (rp : R X.K H m v a) : Q v H := h v H m (Ext.refl m H) r rp
end
def RB : PySem.W.Frag → Hp → Mp → Bool → Bool → Prop := fun _ _ _ v a => v = a
/-- an expression, a test, arguments mean .. -/
structure SE (X : Cx) (W : WX) (e : Expr) (f : EF) : Prop where
  ex : ∃ t : TE, PE X e t ∧ ∀ σ H ρ st m Q, SR X.K H m σ ρ → Rl X.K m H st → Post X W m H σ Rep Q (f ρ st) → t σ H Q
structure STt (X : Cx) (W : WX) (e : Expr) (f : TF) : Prop where
  ex : ∃ t : TT, PT X e t ∧ ∀ σ H ρ st m Q, SR X.K H m σ ρ → Rl X.K m H st → Post X W m H σ RB Q (f ρ st) → t σ H Q
structure STw (X : Cx) (W : WX) (e : Expr) (f : TF) : Prop where
  ex : ∃ t : TT, PW X e t ∧ ∀ σ H ρ st m Q, SR X.K H m σ ρ → Rl X.K m H st → Post X W m H σ RB Q (f ρ st) → t σ H Q
structure SA (X : Cx) (W : WX) (es : List Expr) (f : AF) : Prop where
  ex : ∃ t : TA, PA X es t ∧ ∀ σ H ρ st m Q, SR X.K H m σ ρ → Rl X.K m H st → Post X W m H σ RepL Q (f ρ st) → t σ H Q
/-- what a body has around it -/
structure Ctx (X : Cx) (W : WX) (k : Nat) (g : Bool) : Prop where
  calm : X.calm = true
  nd : X.N.Nodup
  tk : Takes X W
  room : Room k X.A
  gd : g = true → X.A.guards = some []

/-! ### the functions -/
def eVar (i : Nat) : EF := fun ρ st => match ρ[i]? with
  | some (some d) => .ok d st
  | _ => .bad
def eC (d : D) : EF := fun _ st => .ok d st
def Res.of {α : Type} (o : Option α) (st : Store) : Res α := match o with
  | some a => .ok a st
  | none => .bad
abbrev B2 := Store → D → D → Option D
def eOp (b : B2) (fa fb : EF) : EF := fun ρ st => (fa ρ st).bind fun x st1 => (fb ρ st1).bind fun y st2 => Res.of (b st2 x y) st2
def eUn (b : Store → D → Option D) (fa : EF) : EF := fun ρ st => (fa ρ st).bind fun x st1 => Res.of (b st1 x) st1
def eChain (b b' : B2) (fa fb fc : EF) : EF := fun ρ st => (fa ρ st).bind fun x st1 => (fb ρ st1).bind fun y st2 => match b st2 x y with
  | some (.bl true) => (fc ρ st2).bind fun z st3 => Res.of (b' st3 y z) st3
  | some (.bl false) => .ok (.bl false) st2
  | _ => .bad
def eAnd (fa fb : EF) : EF := fun ρ st => (fa ρ st).bind fun x st1 => match x with
  | .bl true => fb ρ st1
  | .bl false => .ok (.bl false) st1
  | _ => .bad
def eOr (fa fb : EF) : EF := fun ρ st => (fa ρ st).bind fun x st1 => match x with
  | .bl true => .ok (.bl true) st1
  | .bl false => fb ρ st1
  | _ => .bad
def eNot (fa : EF) : EF := fun ρ st => (fa ρ st).bind fun x st1 => match x with
  | .bl b => .ok (.bl !b) st1
  | _ => .bad
def eIf (c : TF) (fa fb : EF) : EF := fun ρ st => (c ρ st).bind fun b st1 => match b with
  | true => fa ρ st1
  | false => fb ρ st1
def tV (fa : EF) : TF := fun ρ st => (fa ρ st).bind fun x st1 => match x with
  | .bl b => .ok b st1
  | _ => .bad
def tAndF (c d : TF) : TF := fun ρ st => (c ρ st).bind fun b st1 => match b with
  | true => d ρ st1
  | false => .ok false st1
def tOrF (c d : TF) : TF := fun ρ st => (c ρ st).bind fun b st1 => match b with
  | true => .ok true st1
  | false => d ρ st1
def tNotF (c : TF) : TF := fun ρ st => (c ρ st).bind fun b st1 => .ok (!b) st1
def aNil : AF := fun _ st => .ok [] st
def aCons (fa : EF) (r : AF) : AF := fun ρ st => (fa ρ st).bind fun x st1 => (r ρ st1).bind fun xs st2 => .ok (x :: xs) st2
def aCall (b : Store → List D → Option D) (fa : AF) : EF := fun ρ st => (fa ρ st).bind fun xs st1 => Res.of (b st1 xs) st1

section
variable {X : Cx} {W : WX} {a b c e : Expr} {fa fb fc : EF} {pos : Pos}
theorem se_var (i : Nat) {x : Str} (hN : X.N[i]? = some x := by rfl) (hv : Vis X.env.scope x := by first | exact Or.inl rfl | exact Or.inr (Or.inl rfl) | exact Or.inr (Or.inr rfl)) (hd : (x == ("__debug__" : Str)) = false := by decide)
    (hcd : (x == ("__classdict__" : Str)) = false := by decide) : SE X W (.Name x pos) (eVar i) :=
  ⟨_, pe_var hN hv hd hcd, fun σ H ρ st m Q s r h => by
    unfold eVar at h
    split at h
    · rename_i d e
      obtain ⟨v, h1, h2⟩ := s.get i d e
      exact ⟨v, h1, h.go r h2⟩
    · exact h.elim⟩
theorem se_c {t : TE} {d : D} {v : V} (h : PE X e (fun _ H Q => Q v H)) (r : ∀ K H m, Rep K H m v d) : SE X W e (eC d) :=
  ⟨_, h, fun σ H ρ st m Q s rl h => h.go rl (r _ _ _)⟩
theorem se_int {i : Int} {j} : SE X W (.Constant (.int i) j pos) (eC (.int i)) := ⟨_, pe_int, fun σ H ρ st m Q s r h => h.go r (.int i)⟩
theorem se_bl {i : Bool} {j} : SE X W (.Constant (.bool i) j pos) (eC (.bl i)) := ⟨_, pe_bl, fun σ H ρ st m Q s r h => h.go r (.bl i)⟩
theorem se_str {i : Str} {j} : SE X W (.Constant (.str i) j pos) (eC (.str i)) := ⟨_, pe_str, fun σ H ρ st m Q s r h => h.go r (.str i)⟩
theorem se_non {j} : SE X W (.Constant .none j pos) (eC .non) := ⟨_, pe_non, fun σ H ρ st m Q s r h => h.go r .non⟩
/-- an operator on data -/
def OpD (X : Cx) (f : Value → Value → Sem Value) (b : B2) : Prop :=
  ∃ r : R2, OpR X f r ∧ ∀ (H : Hp) (m : Mp) (st : Store) (x y : V) (dx dy d : D) (Q : VK), Rl X.K m H st → Rep X.K H m x dx → Rep X.K H m y dy → b st dx dy = some d → PostV X.K m H Rep Q d st → r x y H Q
theorem PostV.go {K : PySem.W.Frag} {m : Mp} {H : Hp} {α β : Type} {R : PySem.W.Frag → Hp → Mp → β → α → Prop} {Q : β → Hp → Prop} {a : α} {st : Store} {v : β} (h : PostV K m H R Q a st) (r : Rl K m H st) (rp : R K H m v a) : Q v H := h v H m (Ext.refl m H) r rp
theorem se_op {op : Operator} {o : B2} (ho : OpD X (binaryOp op) o) (ha : SE X W a fa) (hb : SE X W b fb) : SE X W (.BinOp a op b pos) (eOp o fa fb) := by
  obtain ⟨r, hr, hro⟩ := ho
  obtain ⟨ta, pa, qa⟩ := ha
  obtain ⟨tb, pb, qb⟩ := hb
  refine ⟨_, pe_op hr pa pb, fun σ H ρ st m Q s rl h => qa σ H ρ st m _ s rl (h.mp fun x st1 v H1 m1 e1 r1 p1 h1 => qb σ H1 ρ st1 m1 _ (s.up e1) r1 (h1.mp fun y st2 w H2 m2 e2 r2 p2 h2 => ?_))⟩
  cases q : o st2 x y with
  | none => rw [q] at h2; exact h2.elim
  | some d => rw [q] at h2; exact hro H2 m2 st2 v w x y d Q r2 (p1.up e2) p2 q h2
theorem se_cmp {op : CmpOp} {o : B2} (ho : OpD X (compareOp op) o) (ha : SE X W a fa) (hb : SE X W b fb) (hm : behindInMarks op b = false := by exact nomark _) : SE X W (.Compare a [op] [b] pos) (eOp o fa fb) := by
  obtain ⟨r, hr, hro⟩ := ho
  obtain ⟨ta, pa, qa⟩ := ha
  obtain ⟨tb, pb, qb⟩ := hb
  refine ⟨_, pe_cmpR hr pa pb hm, fun σ H ρ st m Q s rl h => qa σ H ρ st m _ s rl (h.mp fun x st1 v H1 m1 e1 r1 p1 h1 => qb σ H1 ρ st1 m1 _ (s.up e1) r1 (h1.mp fun y st2 w H2 m2 e2 r2 p2 h2 => ?_))⟩
  cases q : o st2 x y with
  | none => rw [q] at h2; exact h2.elim
  | some d => rw [q] at h2; exact hro H2 m2 st2 v w x y d Q r2 (p1.up e2) p2 q h2
theorem se_chain {op op' : CmpOp} {o o' : B2} (ho : OpD X (compareOp op) o) (ho' : OpD X (compareOp op') o') (ha : SE X W a fa) (hb : SE X W b fb) (hc : SE X W c fc) (hm : lastMarks [op, op'] [b, c] = false := by rfl) :
    SE X W (.Compare a [op, op'] [b, c] pos) (eChain o o' fa fb fc) := by
  obtain ⟨r, hr, hro⟩ := ho
  obtain ⟨r', hr', hro'⟩ := ho'
  obtain ⟨ta, pa, qa⟩ := ha
  obtain ⟨tb, pb, qb⟩ := hb
  obtain ⟨tc, pc, qc⟩ := hc
  refine ⟨_, pe_chain hr hr' pa pb pc hm, fun σ H ρ st m Q s rl h => qa σ H ρ st m _ s rl (h.mp fun x st1 v H1 m1 e1 r1 p1 h1 => qb σ H1 ρ st1 m1 _ (s.up e1) r1 (h1.mp fun y st2 w H2 m2 e2 r2 p2 h2 => ?_))⟩
  cases q : o st2 x y with
  | none => rw [q] at h2; exact h2.elim
  | some d =>
    rw [q] at h2
    refine hro H2 m2 st2 v w x y d _ r2 (p1.up e2) p2 q fun z H3 m3 e3 r3 p3 => ?_
    cases d with
    | bl k =>
      cases p3
      refine ⟨k, rfl, ?_⟩
      cases k with
      | true =>
        rw [if_pos rfl]
        refine qc σ H3 ρ st2 m3 _ (((s.up e1).up e2).up e3) r3 ((h2.up e3).mp fun y' st4 w' H4 m4 e4 r4 p4 h4 => ?_)
        cases q' : o' st4 y y' with
        | none => rw [q'] at h4; exact h4.elim
        | some d' => rw [q'] at h4; exact hro' H4 m4 st4 w w' y y' d' Q r4 ((p2.up e3).up e4) p4 q' h4
      | false =>
        rw [if_neg Bool.false_ne_true]
        exact (h2.up e3).go r3 (.bl false)
    | _ => exact h2.elim
theorem se_and {rest : List Expr} (ha : SE X W a fa) (hb : SE X W (.BoolOp .And (b :: rest) pos) fb) : SE X W (.BoolOp .And (a :: b :: rest) pos) (eAnd fa fb) := by
  obtain ⟨ta, pa, qa⟩ := ha
  obtain ⟨tb, pb, qb⟩ := hb
  refine ⟨_, pe_and pa pb, fun σ H ρ st m Q s rl h => qa σ H ρ st m _ s rl (h.mp fun x st1 v H1 m1 e1 r1 p1 h1 => ?_)⟩
  cases x with
  | bl k =>
    cases p1
    refine ⟨k, rfl, ?_⟩
    cases k with
    | true =>
      rw [if_pos rfl]
      exact qb σ H1 ρ st1 m1 _ (s.up e1) r1 h1
    | false =>
      rw [if_neg Bool.false_ne_true]
      exact h1.go r1 (.bl false)
  | _ => exact h1.elim
theorem se_or {rest : List Expr} (ha : SE X W a fa) (hb : SE X W (.BoolOp .Or (b :: rest) pos) fb) : SE X W (.BoolOp .Or (a :: b :: rest) pos) (eOr fa fb) := by
  obtain ⟨ta, pa, qa⟩ := ha
  obtain ⟨tb, pb, qb⟩ := hb
  refine ⟨_, pe_or pa pb, fun σ H ρ st m Q s rl h => qa σ H ρ st m _ s rl (h.mp fun x st1 v H1 m1 e1 r1 p1 h1 => ?_)⟩
  cases x with
  | bl k =>
    cases p1
    refine ⟨k, rfl, ?_⟩
    cases k with
    | true =>
      rw [if_pos rfl]
      exact h1.go r1 (.bl true)
    | false =>
      rw [if_neg Bool.false_ne_true]
      exact qb σ H1 ρ st1 m1 _ (s.up e1) r1 h1
  | _ => exact h1.elim
theorem se_one {op : BoolOp} (ha : SE X W a fa) : SE X W (.BoolOp op [a] pos) fa := by
  obtain ⟨ta, pa, qa⟩ := ha
  exact ⟨_, pe_one pa, qa⟩
theorem se_not (ha : SE X W a fa) : SE X W (.UnaryOp .Not a pos) (eNot fa) := by
  obtain ⟨ta, pa, qa⟩ := ha
  refine ⟨_, pe_not pa, fun σ H ρ st m Q s rl h => qa σ H ρ st m _ s rl (h.mp fun x st1 v H1 m1 e1 r1 p1 h1 => ?_)⟩
  cases x with
  | bl k =>
    cases p1
    exact ⟨k, rfl, h1.go r1 (.bl _)⟩
  | _ => exact h1.elim
theorem se_if {fc : TF} (hc : STt X W c fc) (ha : SE X W a fa) (hb : SE X W b fb) : SE X W (.IfExp c a b pos) (eIf fc fa fb) := by
  obtain ⟨tc, pc, qc⟩ := hc
  obtain ⟨ta, pa, qa⟩ := ha
  obtain ⟨tb, pb, qb⟩ := hb
  refine ⟨_, pe_ifExp pc pa pb, fun σ H ρ st m Q s rl h => qc σ H ρ st m _ s rl (h.mp fun x st1 v H1 m1 e1 r1 p1 h1 => ?_)⟩
  obtain rfl : v = x := p1
  cases v with
  | true =>
    rw [if_pos rfl]
    exact qa σ H1 ρ st1 m1 _ (s.up e1) r1 h1
  | false =>
    rw [if_neg Bool.false_ne_true]
    exact qb σ H1 ρ st1 m1 _ (s.up e1) r1 h1
/-! tests -/
theorem st_val (ha : SE X W a fa) (hw : ∀ whole : Sem Value, PySem.isTrue a X.env whole = (do
            let v ← whole
            standAt (Expr.pos a)
            holding [v] (truthy v)) := by intro _; rfl) : STt X W a (tV fa) := by
  obtain ⟨ta, pa, qa⟩ := ha
  refine ⟨_, pt_val pa hw, fun σ H ρ st m Q s rl h => qa σ H ρ st m _ s rl (h.mp fun x st1 v H1 m1 e1 r1 p1 h1 => ?_)⟩
  cases x with
  | bl k =>
    cases p1
    exact ⟨k, rfl, h1.go r1 rfl⟩
  | _ => exact h1.elim
theorem st_w {fc : TF} (h : STw X W c fc) : STt X W c fc := by
  obtain ⟨t, p, q⟩ := h
  exact ⟨t, p.pt, q⟩
theorem sw_and1 {fc : TF} (h : STt X W a fc) : STw X W (.BoolOp .And [a] pos) fc := by
  obtain ⟨t, p, q⟩ := h
  exact ⟨t, pw_and1 p, q⟩
theorem sw_or1 {fc : TF} (h : STt X W a fc) : STw X W (.BoolOp .Or [a] pos) fc := by
  obtain ⟨t, p, q⟩ := h
  exact ⟨t, pw_or1 p, q⟩
theorem sw_and {fc fd : TF} {rest : List Expr} (ha : STt X W a fc) (hb : STw X W (.BoolOp .And (b :: rest) pos) fd) : STw X W (.BoolOp .And (a :: b :: rest) pos) (tAndF fc fd) := by
  obtain ⟨ta, pa, qa⟩ := ha
  obtain ⟨tb, pb, qb⟩ := hb
  refine ⟨_, pw_and pa pb, fun σ H ρ st m Q s rl h => qa σ H ρ st m _ s rl (h.mp fun x st1 v H1 m1 e1 r1 p1 h1 => ?_)⟩
  obtain rfl : v = x := p1
  cases v with
  | true =>
    rw [if_pos rfl]
    exact qb σ H1 ρ st1 m1 _ (s.up e1) r1 h1
  | false =>
    rw [if_neg Bool.false_ne_true]
    exact h1.go r1 rfl
theorem sw_or {fc fd : TF} {rest : List Expr} (ha : STt X W a fc) (hb : STw X W (.BoolOp .Or (b :: rest) pos) fd) : STw X W (.BoolOp .Or (a :: b :: rest) pos) (tOrF fc fd) := by
  obtain ⟨ta, pa, qa⟩ := ha
  obtain ⟨tb, pb, qb⟩ := hb
  refine ⟨_, pw_or pa pb, fun σ H ρ st m Q s rl h => qa σ H ρ st m _ s rl (h.mp fun x st1 v H1 m1 e1 r1 p1 h1 => ?_)⟩
  obtain rfl : v = x := p1
  cases v with
  | true =>
    rw [if_pos rfl]
    exact h1.go r1 rfl
  | false =>
    rw [if_neg Bool.false_ne_true]
    exact qb σ H1 ρ st1 m1 _ (s.up e1) r1 h1
theorem st_not {fc : TF} (h : STt X W a fc) : STt X W (.UnaryOp .Not a pos) (tNotF fc) := by
  obtain ⟨ta, pa, qa⟩ := h
  refine ⟨_, pt_not pa, fun σ H ρ st m Q s rl h => qa σ H ρ st m _ s rl (h.mp fun x st1 v H1 m1 e1 r1 p1 h1 => ?_)⟩
  obtain rfl : v = x := p1
  exact h1.go r1 rfl
/-! arguments -/
theorem sa_nil : SA X W [] aNil := ⟨_, pa_nil, fun σ H ρ st m Q s rl h => h.go rl .nil⟩
theorem sa_cons {es : List Expr} {r : AF} (ha : SE X W a fa) (hr : SA X W es r) (he : starEach (a :: es) X.env = (false, eval a X.env) :: starEach es X.env := by rfl) : SA X W (a :: es) (aCons fa r) := by
  obtain ⟨ta, pa, qa⟩ := ha
  obtain ⟨tb, pb, qb⟩ := hr
  refine ⟨_, pa_cons pa pb he, fun σ H ρ st m Q s rl h => qa σ H ρ st m _ s rl (h.mp fun x st1 v H1 m1 e1 r1 p1 h1 => qb σ H1 ρ st1 m1 _ (s.up e1) r1 (h1.mp fun xs st2 vs H2 m2 e2 r2 p2 h2 => ?_))⟩
  exact h2.go r2 (.cons (p1.up e2) p2)
/-- a call of a built-in on data -/
def CallD (X : Cx) (f : Value) (b : Store → List D → Option D) : Prop :=
  ∃ r : List V → Hp → VK → Prop, CallR X f r ∧ ∀ (H : Hp) (m : Mp) (st : Store) (vs : List V) (ds : List D) (d : D) (Q : VK), Rl X.K m H st → RepL X.K H m vs ds → b st ds = some d → PostV X.K m H Rep Q d st → r vs H Q
theorem se_callB {x : Str} {p : Pos} {es : List Expr} {id : String} {o : Store → List D → Option D} {f : AF} (hc : CallD X (.builtin id) o) (hg : Gl X x) (hm : X.mg x = none) (hb : bootBuiltins x = some (.builtin id)) (ha : SA X W (e :: es) f)
    (h1 : x ≠ ("__name__" : Str) := by decide) (h2 : (x == ("__debug__" : Str)) = false := by decide) (h3 : starEach (e :: es) X.env = (false, eval e X.env) :: starEach es X.env := by rfl) (h4 : (backTo pos (starEach es X.env)).any (·.1) = false := by rfl) :
    SE X W (.Call (.Name x p) (e :: es) [] pos) (aCall o f) := by
  obtain ⟨r, hr, hro⟩ := hc
  obtain ⟨ta, pa, qa⟩ := ha
  refine ⟨_, pe_callB hr hg hm hb pa h1 h2 h3 h4, fun σ H ρ st m Q s rl h => qa σ H ρ st m _ s rl (h.mp fun xs st1 vs H1 m1 e1 r1 p1 h1 => ?_)⟩
  cases q : o st1 xs with
  | none => rw [q] at h1; exact h1.elim
  | some d => rw [q] at h1; exact hro H1 m1 st1 vs xs d Q r1 p1 q h1
theorem se_callTy {x : Str} {p : Pos} {es : List Expr} {T : String} {o : Store → List D → Option D} {f : AF} (hc : CallD X (.type T) o) (hg : Gl X x) (hm : X.mg x = none) (hb : bootBuiltins x = some (.type T)) (ha : SA X W (e :: es) f)
    (h1 : x ≠ ("__name__" : Str) := by decide) (h2 : (x == ("__debug__" : Str)) = false := by decide) (h3 : starEach (e :: es) X.env = (false, eval e X.env) :: starEach es X.env := by rfl) (h4 : (backTo pos (starEach es X.env)).any (·.1) = false := by rfl) :
    SE X W (.Call (.Name x p) (e :: es) [] pos) (aCall o f) := by
  obtain ⟨r, hr, hro⟩ := hc
  obtain ⟨ta, pa, qa⟩ := ha
  refine ⟨_, pe_callTy hr hg hm hb pa h1 h2 h3 h4, fun σ H ρ st m Q s rl h => qa σ H ρ st m _ s rl (h.mp fun xs st1 vs H1 m1 e1 r1 p1 h1 => ?_)⟩
  cases q : o st1 xs with
  | none => rw [q] at h1; exact h1.elim
  | some d => rw [q] at h1; exact hro H1 m1 st1 vs xs d Q r1 p1 q h1
end
end DX

/-! DX 3: statements, targets, what is walked, loops -/
namespace DX
open PySem PySem.Spec PyProof.Rows L2
variable [TB0]

/-- Ctx with what loops ask -/
structure Cxt (X : Cx) (W : WX) (k : Nat) (g : Bool) : Prop extends Ctx X W k g where
  own : PassesOwn (model X.prog X.w) X.A X.env X.xe
  st : X.stack = X.env :: X.outer
  fr : X.env.frame = some X.env.locals
def PostS (X : Cx) (W : WX) (m : Mp) (H : Hp) (E : Ends) : SRes → Prop
  | .nx ρ st => ∀ σ' H' m', Ext m H m' H' → Rl X.K m' H' st → SR X.K H' m' σ' ρ → E.nx σ' H'
  | .bk ρ st => ∀ σ' H' m', Ext m H m' H' → Rl X.K m' H' st → SR X.K H' m' σ' ρ → E.bk σ' H'
  | .ct ρ st => ∀ σ' H' m', Ext m H m' H' → Rl X.K m' H' st → SR X.K H' m' σ' ρ → E.ct σ' H'
  | .rt d st => PostV X.K m H Rep E.rt d st
  | .exc c fs ρ st => ∀ cls dc σ' H' m', Ext m H m' H' → Rl X.K m' H' st → SR X.K H' m' σ' ρ → XRep X.K H' m' cls dc c fs → W cls dc σ' H'
  | .bad => False
def bindS {α : Type} (r : Res α) (ρ : Sl) (f : α → Store → SRes) : SRes := match r with
  | .ok a st => f a st
  | .exc c fs st => .exc c fs ρ st
  | .bad => .bad
def SRes.bind (r : SRes) (f : Sl → Store → SRes) : SRes := match r with
  | .nx ρ st => f ρ st
  | .bk ρ st => .bk ρ st
  | .ct ρ st => .ct ρ st
  | .rt d st => .rt d st
  | .exc c fs ρ st => .exc c fs ρ st
  | .bad => .bad
section
variable {α β : Type} {X : Cx} {W : WX} {m m' : Mp} {H H' : Hp} {σ : L2.St} {ρ : Sl} {E : Ends} {R : PySem.W.Frag → Hp → Mp → β → α → Prop} {Q : β → Hp → Prop}
theorem PostS.up {r : SRes} (h : PostS X W m H E r) (e : Ext m H m' H') : PostS X W m' H' E r := by
  cases r with
  | nx ρ st => exact fun σ2 H2 m2 e2 => h σ2 H2 m2 (e.trans e2)
  | bk ρ st => exact fun σ2 H2 m2 e2 => h σ2 H2 m2 (e.trans e2)
  | ct ρ st => exact fun σ2 H2 m2 e2 => h σ2 H2 m2 (e.trans e2)
  | rt d st => exact fun v H2 m2 e2 => h v H2 m2 (e.trans e2)
  | exc c fs ρ st => exact fun cls dc σ2 H2 m2 e2 => h cls dc σ2 H2 m2 (e.trans e2)
  | bad => exact h
theorem PostS.mp {r : Res α} {f : α → Store → SRes} (h : PostS X W m H E (bindS r ρ f)) (s : SR X.K H m σ ρ)
    (k : ∀ a st v H1 m1, Ext m H m1 H1 → Rl X.K m1 H1 st → R X.K H1 m1 v a → PostS X W m1 H1 E (f a st) → Q v H1) : Post X W m H σ R Q r := by
  cases r with
  | ok a st =>
    intro v H1 m1 e r1 rp
    exact k a st v H1 m1 e r1 rp (PostS.up (show PostS X W m H E (f a st) from h) e)
  | exc c fs st => exact fun cls dc H1 m1 e1 r1 x1 => h cls dc σ H1 m1 e1 r1 (s.up e1) x1
  | bad => exact h
theorem PostS.nxt {st : Store} (h : PostS X W m H E (.nx ρ st)) (r : Rl X.K m H st) (s : SR X.K H m σ ρ) : E.nx σ H := h σ H m (Ext.refl m H) r s
end
structure SS (X : Cx) (W : WX) (s : Stmt) (f : SF) : Prop where
  ex : ∃ t : TS, PS X s t ∧ ∀ σ H ρ st m E, SR X.K H m σ ρ → Rl X.K m H st → PostS X W m H E (f ρ st) → t E σ H
structure SSs (X : Cx) (W : WX) (s : List Stmt) (f : SF) : Prop where
  ex : ∃ t : TS, PSs X s t ∧ ∀ σ H ρ st m E, SR X.K H m σ ρ → Rl X.K m H st → PostS X W m H E (f ρ st) → t E σ H
/-- a target: what is stored, by data -/
abbrev GF := D → Sl → Store → Option (Sl × Store)
theorem wipe_sets (σ : L2.St) (i : Nat) (x : Option V) : ∀ vs : List Nat, wipe (σ.set i x) vs = if i ∈ vs then wipe σ vs else (wipe σ vs).set i x := by
  intro vs
  induction vs with
  | nil => simp [wipe]
  | cons v vs ih =>
    unfold wipe
    rw [ih]
    by_cases h : i ∈ vs
    · simp [h]
    · by_cases e : i = v
      · subst e
        simp [h, List.set_set]
      · simp [h, e, List.set_comm _ _ e]
theorem wipe_set (σ : L2.St) (i : Nat) (x : Option V) (vs : List Nat) (h : i ∈ vs) : wipe (σ.set i x) vs = wipe σ vs := by
  rw [wipe_sets, if_pos h]
theorem wipe_idem (σ : L2.St) : ∀ vs : List Nat, wipe (wipe σ vs) vs = wipe σ vs
  | [] => rfl
  | v :: vs => by
    show (wipe ((wipe σ vs).set v none) vs).set v none = (wipe σ vs).set v none
    rw [wipe_sets, wipe_idem σ vs]
    by_cases h : v ∈ vs
    · rw [if_pos h]
    · rw [if_neg h, List.set_set]
structure SG (X : Cx) (tg : Expr) (u : GF) (own : List Nat) : Prop where
  ex : ∃ g : TG, PG X tg g ∧ ∀ v d σ H ρ st m Q ρ' st', SR X.K H m σ ρ → Rl X.K m H st → Rep X.K H m v d → u d ρ st = some (ρ', st') →
    (∀ σ' H' m', Ext m H m' H' → Rl X.K m' H' st' → SR X.K H' m' σ' ρ' → (∀ vs, (∀ i ∈ own, i ∈ vs) → wipe σ' vs = wipe σ vs) → Q σ' H') → g v σ H Q
abbrev GFs := List D → Sl → Store → Option (Sl × Store)
structure SGs (X : Cx) (ts : List Expr) (u : GFs) (own : List Nat) : Prop where
  ex : ∃ g : TGs, PGs X ts g ∧ ∀ vs ds σ H ρ st m Q ρ' st', SR X.K H m σ ρ → Rl X.K m H st → RepL X.K H m vs ds → u ds ρ st = some (ρ', st') →
    (∀ σ' H' m', Ext m H m' H' → Rl X.K m' H' st' → SR X.K H' m' σ' ρ' → (∀ vs, (∀ i ∈ own, i ∈ vs) → wipe σ' vs = wipe σ vs) → Q σ' H') → g vs σ H Q
/-! ### the functions -/
def sNx : SF := fun ρ st => .nx ρ st
def sBk : SF := fun ρ st => .bk ρ st
def sCt : SF := fun ρ st => .ct ρ st
def sSeq (f g : SF) : SF := fun ρ st => (f ρ st).bind g
def sDrop (fe : EF) : SF := fun ρ st => bindS (fe ρ st) ρ fun _ st1 => .nx ρ st1
def sRet (fe : EF) : SF := fun ρ st => bindS (fe ρ st) ρ fun d st1 => .rt d st1
def sRetN : SF := fun _ st => .rt .non st
def sIf (c : TF) (f g : SF) : SF := fun ρ st => bindS (c ρ st) ρ fun b st1 => match b with
  | true => f ρ st1
  | false => g ρ st1
def sAsg (fe : EF) (u : GF) : SF := fun ρ st => bindS (fe ρ st) ρ fun d st1 => match u d ρ st1 with
  | some (ρ', st') => .nx ρ' st'
  | none => .bad
def gSet (i : Nat) : GF := fun d ρ st => some (ρ.set i (some d), st)
def gsNil : GFs := fun ds ρ st => match ds with
  | [] => some (ρ, st)
  | _ => none
def gsCons (u : GF) (us : GFs) : GFs := fun ds ρ st => match ds with
  | d :: r => (u d ρ st).bind fun p => us r p.1 p.2
  | [] => none
def gTupF (n : Nat) (us : GFs) : GF := fun d ρ st => match d with
  | .tup xs => if xs.length = n then us xs ρ st else none
  | _ => none
/-- a list's items: of one that stands, of one of the store -/
def seqL (st : Store) : D → Option (List D)
  | .lst xs => some xs
  | .rd xs => some xs
  | .ob n => match st[n]? with
    | some (.lst xs) => some xs
    | _ => none
  | _ => none
def gLstF (n : Nat) (us : GFs) : GF := fun d ρ st => match seqL st d with
  | some xs => if xs.length = n then us xs ρ st else none
  | none => none
def gOr (u u' : GF) : GF := fun d ρ st => (u d ρ st).orElse fun _ => u' d ρ st
/-- o[i] = d, o a list of the store -/
def gSub (fo fi : EF) : GF := fun d ρ st => match fo ρ st with
  | .ok (.ob n) st1 => match fi ρ st1 with
    | .ok (.int i) st2 => match st2[n]? with
      | some (.lst xs) => if 0 ≤ i ∧ i.toNat < xs.length then some (ρ, st2.set n (.lst (xs.set i.toNat d))) else none
      | _ => none
    | _ => none
  | _ => none
/-- a walk over data -/
def sForL (u : GF) (body : SF) : List D → SF
  | [], ρ, st => .nx ρ st
  | x :: xs, ρ, st => match u x ρ st with
    | none => .bad
    | some (ρ1, st1) => match body ρ1 st1 with
      | .nx ρ2 st2 => sForL u body xs ρ2 st2
      | .ct ρ2 st2 => sForL u body xs ρ2 st2
      | .bk ρ2 st2 => .nx ρ2 st2
      | .rt d st2 => .rt d st2
      | .exc c fs ρ2 st2 => .exc c fs ρ2 st2
      | .bad => .bad
def sFor (it : AF) (u : GF) (body : SF) : SF := fun ρ st => bindS (it ρ st) ρ fun xs st1 => sForL u body xs ρ st1
def sWhileN (c : TF) (body : SF) : Nat → SF
  | 0, _, _ => .bad
  | n + 1, ρ, st => bindS (c ρ st) ρ fun b st1 => match b with
    | false => .nx ρ st1
    | true => match body ρ st1 with
      | .nx ρ2 st2 => sWhileN c body n ρ2 st2
      | .ct ρ2 st2 => sWhileN c body n ρ2 st2
      | .bk ρ2 st2 => .nx ρ2 st2
      | .rt d st2 => .rt d st2
      | .exc c fs ρ2 st2 => .exc c fs ρ2 st2
      | .bad => .bad
def sAug (i : Nat) (b : B2) (fe : EF) : SF := fun ρ st => match ρ[i]? with
  | some (some x) => bindS (fe ρ st) ρ fun y st1 => match b st1 x y with
    | some z => .nx (ρ.set i (some z)) st1
    | none => .bad
  | _ => .bad
section
variable {X : Cx} {W : WX} {a b c e tg : Expr} {fa fb fc fe : EF} {pos : Pos} {k : Nat}
theorem sss_nil : SSs X W [] sNx := ⟨_, pss_nil, fun σ H ρ st m E s r h => h.nxt r s⟩
theorem sss_one {s : Stmt} {f : SF} (h : SS X W s f) : SSs X W [s] f := by
  obtain ⟨t, p, q⟩ := h
  exact ⟨t, pss_one p, q⟩
theorem sss_cons {s : Stmt} {rest : List Stmt} {f g : SF} (h : SS X W s f) (hr : SSs X W rest g) : SSs X W (s :: rest) (sSeq f g) := by
  obtain ⟨t, p, q⟩ := h
  obtain ⟨u, pu, qu⟩ := hr
  refine ⟨_, pss_cons p pu, fun σ H ρ st m E s r h => q σ H ρ st m _ s r ?_⟩
  unfold sSeq at h
  cases e : f ρ st with
  | nx ρ1 st1 =>
    rw [e] at h
    exact fun σ1 H1 m1 e1 r1 s1 => qu σ1 H1 ρ1 st1 m1 E s1 r1 (PostS.up (show PostS X W m H E (g ρ1 st1) from h) e1)
  | _ => rw [e] at h; exact h
theorem ss_pass : SS X W (.Pass pos) sNx := ⟨_, ps_pass, fun σ H ρ st m E s r h => h.nxt r s⟩
theorem ss_break : SS X W (.Break pos) sBk := ⟨_, ps_break, fun σ H ρ st m E s r h => h σ H m (Ext.refl m H) r s⟩
theorem ss_continue : SS X W (.Continue pos) sCt := ⟨_, ps_continue, fun σ H ρ st m E s r h => h σ H m (Ext.refl m H) r s⟩
theorem ss_expr (h : SE X W e fe) (h1 : swapsWith e none pos.line X.env = pure false := by rfl) : SS X W (.Expr e pos) (sDrop fe) := by
  obtain ⟨t, p, q⟩ := h
  exact ⟨_, ps_expr p h1, fun σ H ρ st m E s r h => q σ H ρ st m _ s r (PostS.mp h s fun d st1 v H1 m1 e1 r1 p1 h1 => h1.nxt r1 (s.up e1))⟩
theorem ss_ret (h : SE X W e fe) : SS X W (.Return (some e) pos) (sRet fe) := by
  obtain ⟨t, p, q⟩ := h
  exact ⟨_, ps_ret p, fun σ H ρ st m E s r h => q σ H ρ st m _ s r (PostS.mp h s fun d st1 v H1 m1 e1 r1 p1 h1 => PostV.go (show PostV X.K m1 H1 Rep E.rt d st1 from h1) r1 p1)⟩
theorem ss_retN : SS X W (.Return none pos) sRetN := ⟨_, ps_retN, fun σ H ρ st m E s r h => (show PostV X.K m H Rep E.rt D.non st from h) .non H m (Ext.refl m H) r .non⟩
theorem ss_if {fc : TF} {f g : SF} {x y : List Stmt} (hc : STt X W c fc) (hx : SSs X W x f) (hy : SSs X W y g) : SS X W (.If c x y pos) (sIf fc f g) := by
  obtain ⟨t, p, q⟩ := hc
  obtain ⟨tx, px, qx⟩ := hx
  obtain ⟨ty, py, qy⟩ := hy
  refine ⟨_, ps_if p px py, fun σ H ρ st m E s r h => q σ H ρ st m _ s r (PostS.mp h s fun b st1 v H1 m1 e1 r1 p1 h1 => ?_)⟩
  obtain rfl : v = b := p1
  cases v with
  | true =>
    rw [if_pos rfl]
    exact qx σ H1 ρ st1 m1 E (s.up e1) r1 h1
  | false =>
    rw [if_neg Bool.false_ne_true]
    exact qy σ H1 ρ st1 m1 E (s.up e1) r1 h1
theorem sg_name {i : Nat} {x : Str} (hN : X.N.Nodup) (hi : X.N[i]? = some x := by rfl) (hx : Loc X.env.scope x := by first | exact Or.inl rfl | exact Or.inr rfl)
    (hf : X.fn x = true ∨ X.env.scope.names.lookup x = some .local := by first | exact Or.inl rfl | exact Or.inr rfl) : SG X (.Name x pos) (gSet i) [i] :=
  ⟨_, pg_name hN hi hx hf, fun v d σ H ρ st m Q ρ' st' s r p e k => by
    cases e
    exact k _ H m (Ext.refl m H) r (s.set p i) fun vs h => wipe_set σ i _ vs (h i (by simp))⟩
theorem ss_asg {u : GF} {own : List Nat} (h : SE X W e fe) (hg : SG X tg u own) (h1 : swapsWithSole [tg] e pos.line X.env = pure false := by rfl) (h2 : swappedStores [tg] e X.env = pure none := by rfl) (h3 : (assignEach [tg] X.env).map (·.2) = [assign tg X.env] := by rfl) :
    SS X W (.Assign [tg] e pos) (sAsg fe u) := by
  obtain ⟨t, p, q⟩ := h
  obtain ⟨g, pg, qg⟩ := hg
  refine ⟨_, ps_asg p pg h1 h2 h3, fun σ H ρ st m E s r h => q σ H ρ st m _ s r (PostS.mp h s fun d st1 v H1 m1 e1 r1 p1 h1 => ?_)⟩
  cases z : u d ρ st1 with
  | none => rw [z] at h1; exact h1.elim
  | some w =>
    obtain ⟨ρ', st'⟩ := w
    rw [z] at h1
    exact qg v d σ H1 ρ st1 m1 _ ρ' st' (s.up e1) r1 p1 z fun σ' H' m' e' r' s' _ => (PostS.up h1 e').nxt r' s'
/-- x = e, x in slot i -/
theorem ss_set {i : Nat} {x : Str} {pos' : Pos} (hN : X.N.Nodup) (h : SE X W e fe) (hi : X.N[i]? = some x := by rfl) (hx : Loc X.env.scope x := by first | exact Or.inl rfl | exact Or.inr rfl) (h1 : swapsWith e (some (.Name x pos')) pos.line X.env = pure false := by rfl)
    (hf : X.fn x = true ∨ X.env.scope.names.lookup x = some .local := by first | exact Or.inl rfl | exact Or.inr rfl) : SS X W (.Assign [.Name x pos'] e pos) (sAsg fe (gSet i)) := by
  obtain ⟨t, p, q⟩ := h
  refine ⟨_, ps_set hN hi hx p h1 hf, fun σ H ρ st m E s r h => q σ H ρ st m _ s r (PostS.mp h s fun d st1 v H1 m1 e1 r1 p1 h1 => ?_)⟩
  exact h1.nxt r1 ((s.up e1).set p1 i)
def sPar (i j : Nat) (fa : AF) : SF := fun ρ st => bindS (fa ρ st) ρ fun ds st1 => match ds with
  | [x, y] => .nx ((ρ.set i (some x)).set j (some y)) st1
  | _ => .bad
theorem ss_par {i j : Nat} {x y : Str} {px py pt pt2 : Pos} {kt k2 : Nat} {f : AF} (hc : X.calm = true) (hN : X.N.Nodup) (h : SA X W [a, b] f) (hi : X.N[i]? = some x := by rfl) (hj : X.N[j]? = some y := by rfl) (hij : i ≠ j := by decide)
    (hx : X.env.scope.names.lookup x = some .local := by rfl) (hy : X.env.scope.names.lookup y = some .local := by rfl)
    (hw : swappedStores [.Tuple [.Name x px, .Name y py] kt pt] (.Tuple [a, b] k2 pt2) X.env = pure (some [x, y]) := by rfl) (h1 : swapsWithSole [.Tuple [.Name x px, .Name y py] kt pt] (.Tuple [a, b] k2 pt2) pos.line X.env = pure false := by rfl) :
    SS X W (.Assign [.Tuple [.Name x px, .Name y py] kt pt] (.Tuple [a, b] k2 pt2) pos) (sPar i j f) := by
  obtain ⟨t, p, q⟩ := h
  refine ⟨_, ps_par hc hN hi hj hij hx hy p hw h1, fun σ H ρ st m E s r h => q σ H ρ st m _ s r (PostS.mp h s fun ds st1 vs H1 m1 e1 r1 p1 h1 => ?_)⟩
  cases p1 with
  | nil => exact h1.elim
  | cons q1 p1 =>
    cases p1 with
    | nil => exact h1.elim
    | cons q2 p1 =>
      cases p1 with
      | nil => exact ⟨_, _, rfl, h1.nxt r1 (((s.up e1).set q1 i).set q2 j)⟩
      | cons _ _ => exact h1.elim
theorem ss_aug {i : Nat} {x : Str} {op : Operator} {pos' : Pos} {o : B2} (hN : X.N.Nodup) (ho : OpD X (inplaceOp op) o) (h : SE X W e fe) (hi : X.N[i]? = some x := by rfl) (hx : Loc X.env.scope x := by first | exact Or.inl rfl | exact Or.inr rfl)
    (hf : X.fn x = true ∨ X.env.scope.names.lookup x = some .local := by first | exact Or.inl rfl | exact Or.inr rfl) : SS X W (.AugAssign (.Name x pos') op e pos) (sAug i o fe) := by
  obtain ⟨r, hr, hro⟩ := ho
  obtain ⟨t, p, q⟩ := h
  refine ⟨_, ps_aug hN hi hx p (show PIp X op r from hr) hf, fun σ H ρ st m E s rl h => ?_⟩
  unfold sAug at h
  split at h
  · rename_i x' ex
    obtain ⟨vx, hv, px⟩ := s.get i x' ex
    refine ⟨vx, hv, q σ H ρ st m _ s rl (PostS.mp h s fun d st1 v H1 m1 e1 r1 p1 h1 => ?_)⟩
    cases z : o st1 x' d with
    | none => rw [z] at h1; exact h1.elim
    | some w =>
      rw [z] at h1
      exact hro H1 m1 st1 vx v x' d w _ r1 (px.up e1) p1 z fun v2 H2 m2 e2 r2 p2 => (PostS.up h1 e2).nxt r2 (((s.up e1).up e2).set p2 i)
  · exact h.elim
/-! targets -/
theorem sgs_nil : SGs X [] gsNil [] := ⟨_, pgs_nil, fun vs ds σ H ρ st m Q ρ' st' s r p e k => by
  cases p with
  | nil =>
    cases e
    exact ⟨rfl, k σ H m (Ext.refl m H) r s fun _ _ => rfl⟩
  | cons _ _ => cases e⟩
theorem sgs_cons {u : GF} {us : GFs} {es : List Expr} {own own' : List Nat} (h : SG X e u own) (hr : SGs X es us own') (he : (assignEach (e :: es) X.env).map (·.2) = assign e X.env :: (assignEach es X.env).map (·.2) := by rfl) : SGs X (e :: es) (gsCons u us) (own ++ own') := by
  obtain ⟨g, p, q⟩ := h
  obtain ⟨gs, ps, qs⟩ := hr
  refine ⟨_, pgs_cons p ps he, fun vs ds σ H ρ st m Q ρ' st' s r p e k => ?_⟩
  cases p with
  | nil => cases e
  | @cons v vs d ds p1 p2 =>
    refine ⟨v, vs, rfl, ?_⟩
    unfold gsCons at e
    dsimp only at e
    cases z : u d ρ st with
    | none => rw [z] at e; cases e
    | some w =>
      obtain ⟨ρ1, st1⟩ := w
      rw [z] at e
      exact q v d σ H ρ st m _ ρ1 st1 s r p1 z fun σ1 H1 m1 e1 r1 s1 w1 => qs vs ds σ1 H1 ρ1 st1 m1 Q ρ' st' s1 r1 (p2.up e1) e fun σ2 H2 m2 e2 r2 s2 w2 => k σ2 H2 m2 (e1.trans e2) r2 s2 fun vs h => (w2 vs fun i q => h i (List.mem_append_right _ q)).trans (w1 vs fun i q => h i (List.mem_append_left _ q))
theorem sg_tup {us : GFs} {es : List Expr} {n : Nat} {kk : Nat} {own : List Nat} (hc : X.calm = true) (h : SGs X es us own) (hn : (assignEach es X.env).length = n := by rfl) (hf : (assignEach es X.env).findIdx? (·.1) = none := by rfl) : SG X (.Tuple es kk pos) (gTupF n us) own := by
  obtain ⟨g, p, q⟩ := h
  refine ⟨_, pg_tup hc p hn hf, fun v d σ H ρ st m Q ρ' st' s r p e k => ?_⟩
  cases p with
  | @tup a vs ds h1 h2 =>
    unfold gTupF at e
    dsimp only at e
    split at e
    · rename_i hl
      exact ⟨a, vs, rfl, h1.sq, h2.length.trans hl, q vs ds σ H ρ st m Q ρ' st' s r h2 e k⟩
    · cases e
  | _ => cases e
theorem seqL_at {K : PySem.W.Frag} {m : Mp} {H : Hp} {st : Store} {v : V} {d : D} {xs : List D} (r : Rl K m H st) (p : Rep K H m v d) (e : seqL st d = some xs) : ∃ a vs, v = .ref a ∧ SqL K H a vs ∧ RepL K H m vs xs := by
  cases p with
  | @lst a vs ds h1 hn h2 =>
    cases e
    exact ⟨a, vs, rfl, .inl (.inl h1), h2⟩
  | @rd a vs ds h1 h2 =>
    cases e
    exact ⟨a, vs, rfl, h1.sq, h2⟩
  | @ob a n h1 =>
    unfold seqL at e
    dsimp only at e
    split at e
    · rename_i ys hy
      cases e
      obtain ⟨vs, q1, q2⟩ := r.ob n _ a hy h1
      exact ⟨a, vs, rfl, .inl (.inl q1), q2⟩
    · cases e
  | _ => cases e
theorem sg_lst {us : GFs} {es : List Expr} {n : Nat} {kk : Nat} {own : List Nat} (hc : X.calm = true) (h : SGs X es us own) (hn : (assignEach es X.env).length = n := by rfl) (hf : (assignEach es X.env).findIdx? (·.1) = none := by rfl) : SG X (.Tuple es kk pos) (gLstF n us) own := by
  obtain ⟨g, p, q⟩ := h
  refine ⟨_, pg_unl hc p hn hf, fun v d σ H ρ st m Q ρ' st' s r p e k => ?_⟩
  unfold gLstF at e
  split at e
  · rename_i xs hx
    obtain ⟨a, vs, rfl, q1, q2⟩ := seqL_at r p hx
    split at e
    · rename_i hl
      exact ⟨a, vs, rfl, q1, q2.length.trans hl, q vs xs σ H ρ st m Q ρ' st' s r q2 e k⟩
    · cases e
  · cases e
theorem sg_or {u u' : GF} {own : List Nat} (h : SG X tg u own) (h' : SG X tg u' own) : SG X tg (gOr u u') own := by
  obtain ⟨g, p, q⟩ := h
  obtain ⟨g', p', q'⟩ := h'
  refine ⟨fun v σ H Q => g v σ H Q ∨ g' v σ H Q, ⟨fun pins s σ H v w Q I r h => h.elim (p.run pins s σ H v w Q I r) (p'.run pins s σ H v w Q I r)⟩, fun v d σ H ρ st m Q ρ' st' s r p e k => ?_⟩
  unfold gOr at e
  cases z : u d ρ st with
  | none =>
    rw [z] at e
    exact .inr (q' v d σ H ρ st m Q ρ' st' s r p e k)
  | some w =>
    rw [z] at e
    cases e
    exact .inl (q v d σ H ρ st m Q ρ' st' s r p z k)
theorem ixN_nat {n : Nat} {i : Int} (h : 0 ≤ i ∧ i.toNat < n) : ixN n i = some i.toNat := by
  unfold ixN
  rw [if_pos (by omega), if_pos (by omega)]
theorem sg_sub {o i : Expr} {fo fi : EF} (ho : SE X (fun _ _ _ _ => False) o fo) (hi : SE X (fun _ _ _ _ => False) i fi)
    (hw : ∀ v : Value, assign (o.Subscript i pos) X.env v = (do
                let ov ← holding [v] (eval o X.env)
                let iv ← holding [v, ov] (eval i X.env)
                standAt pos
                holding [v, ov, iv] (setItem ov iv v)
                release [v, ov, iv] []) := by intro _; rfl) : SG X (.Subscript o i pos) (gSub fo fi) [] := by
  obtain ⟨t, p, q⟩ := ho
  obtain ⟨t', p', q'⟩ := hi
  refine ⟨_, pg_sub p p' set_list hw, fun v d σ H ρ st m Q ρ' st' s r pd e k => ?_⟩
  unfold gSub at e
  split at e
  · rename_i n st1 e1
    split at e
    · rename_i i st2 e2
      split at e
      · rename_i xs e3
        split at e
        · rename_i hi
          cases e
          refine q σ H ρ st m _ s r ?_
          rw [e1]
          intro vo H1 m1 x1 r1 p1
          refine q' σ H1 ρ st1 m1 _ (s.up x1) r1 ?_
          rw [e2]
          intro vi H2 m2 x2 r2 p2
          have p1' := p1.up x2
          cases p1' with
          | @ob a _ hm =>
            cases p2
            obtain ⟨vs, hH, hv⟩ := r2.ob n _ a e3 hm
            have hl : i.toNat < vs.length := by rw [hv.length]; exact hi.2
            have pd' := (pd.up x1).up x2
            have x3 : Ext m2 H2 m2 (upd H2 a (.lst (vs.set i.toNat v))) := Ext.write (List.mem_of_getElem? hm)
            have r3 := r2.write (o := .lst (vs.set i.toNat v)) (u := .lst (xs.set i.toNat d)) hm fun x3 => ⟨_, upd_same, (hv.up x3).set i.toNat (pd'.up x3)⟩
            exact ⟨a, vs, i, i.toNat, rfl, rfl, hH, ixN_nat ⟨hi.1, hl⟩, k _ _ m2 ((x1.trans x2).trans x3) r3 (((s.up x1).up x2).up x3) fun _ _ => rfl⟩
        · cases e
      · cases e
    · cases e
  · cases e
end
end DX

/-! DX 4: what is walked; for, while, list comprehensions -/
namespace DX
open PySem PySem.Spec PyProof.Rows L2
variable [TB0]

/-- J gives the data ds, as long as nothing but the store's things changes -/
def ItOk (K : PySem.W.Frag) (H : Hp) (m : Mp) (J : It) (ds : List D) : Prop := ∀ m' H', Ext m H m' H' → J.stop ds.length H' ∧
  ∀ i d, ds[i]? = some d → J.go i H' ∧ ∀ x H2, J.yld i H' x H2 → Ext m' H' m' H2 ∧ ∀ st, Rl K m' H' st → Rl K m' H2 st ∧ Rep K H2 m' x d
structure SI (X : Cx) (W : WX) (tg iter : Expr) (f : AF) : Prop where
  ex : ∃ wi : TI, PI X tg iter wi ∧ ∀ σ H ρ st m R, SR X.K H m σ ρ → Rl X.K m H st → Post X W m H σ ItOk R (f ρ st) → wi σ H R
theorem ItOk.up {K : PySem.W.Frag} {m m' : Mp} {H H' : Hp} {J : It} {ds : List D} (h : ItOk K H m J ds) (e : Ext m H m' H') : ItOk K H' m' J ds := fun m2 H2 e2 => h m2 H2 (e.trans e2)
def signs (x : Str) : List D := x.cps.toList.map fun c => .str ⟨#[c]⟩
def itAny (fe : EF) : AF := fun ρ st => (fe ρ st).bind fun d st1 => match d with
  | .lst xs => .ok xs st1
  | .rd xs => .ok xs st1
  | .tup xs => .ok xs st1
  | .str x => .ok (signs x) st1
  | _ => .bad
def rng (lo : Int) (n : Nat) : List D := (List.range n).map fun (i : Nat) => D.int (lo + (i : Int))
def small (i : Int) : Bool := decide (-1000000000000 ≤ i ∧ i ≤ 1000000000000)
def itRange1 (fe : EF) : AF := fun ρ st => (fe ρ st).bind fun d st1 => match d with
  | .int n => if small n then .ok (rng 0 n.toNat) st1 else .bad
  | _ => .bad
def itRange2 (fa fb : EF) : AF := fun ρ st => (fa ρ st).bind fun x st1 => (fb ρ st1).bind fun y st2 => match x, y with
  | .int a, .int b => if small a && small b then .ok (rng a (b - a).toNat) st2 else .bad
  | _, _ => .bad
section
variable {X : Cx} {W : WX} {e tg : Expr} {fe : EF} {pos : Pos} {k : Nat}
theorem ItOk.lst {K : PySem.W.Frag} {m : Mp} {H : Hp} {a : Addr} {vs : List V} {ds : List D} (h1 : LstAt K H m a vs) (h2 : RepL K H m vs ds) : ItOk K H m (Itl K a) ds := fun m' H' e => by
  have q := h1.ext e
  refine ⟨⟨vs, q.sq, Nat.le_of_eq h2.length⟩, fun i d hd => ?_⟩
  obtain ⟨v, g1, g2⟩ := h2.get hd
  refine ⟨⟨vs, v, q.sq, g1⟩, fun x H2 y => ?_⟩
  obtain ⟨rfl, hx⟩ := y
  have := hx vs q.sq
  rw [g1] at this
  cases this
  exact ⟨Ext.refl m' H2, fun st r => ⟨r, g2.up e⟩⟩
theorem ItOk.tup {K : PySem.W.Frag} {m : Mp} {H : Hp} {a : Addr} {vs : List V} {ds : List D} (h1 : TupAt K H m a vs) (h2 : RepL K H m vs ds) : ItOk K H m (Itt K a) ds := fun m' H' e => by
  have q := h1.ext e
  refine ⟨⟨vs, q.sq, Nat.le_of_eq h2.length⟩, fun i d hd => ?_⟩
  obtain ⟨v, g1, g2⟩ := h2.get hd
  refine ⟨⟨vs, v, q.sq, g1⟩, fun x H2 y => ?_⟩
  obtain ⟨rfl, hx⟩ := y
  have := hx vs q.sq
  rw [g1] at this
  cases this
  exact ⟨Ext.refl m' H2, fun st r => ⟨r, g2.up e⟩⟩
theorem ItOk.str {K : PySem.W.Frag} {m : Mp} {H : Hp} {x : Str} : ItOk K H m (Its x) (signs x) := fun m' H' e => by
  refine ⟨?_, fun i d hd => ?_⟩
  · show x.cps.size ≤ (signs x).length
    unfold signs
    rw [List.length_map, Array.length_toList]
    exact Nat.le_refl _
  · unfold signs at hd
    rw [List.getElem?_map] at hd
    cases q : x.cps.toList[i]? with
    | none => rw [q] at hd; cases hd
    | some c =>
      rw [q] at hd
      have hd' : D.str ⟨#[c]⟩ = d := by simpa using hd
      have q' : x.cps[i]? = some c := by rw [← Array.getElem?_toList]; exact q
      refine ⟨(Array.getElem?_eq_some_iff.mp q').1, fun v H2 y => ?_⟩
      obtain ⟨rfl, c', h1, rfl⟩ := y
      rw [q'] at h1
      cases h1
      rw [← hd']
      exact ⟨Ext.refl m' H2, fun st r => ⟨r, .str _⟩⟩
theorem ItOk.rng {K : PySem.W.Frag} {m : Mp} {H : Hp} {lo : Int} {n : Nat} : ItOk K H m (Itr lo n) (rng lo n) := fun m' H' e => by
  refine ⟨?_, fun i d hd => ?_⟩
  · show n ≤ (DX.rng lo n).length
    simp [DX.rng]
  · unfold DX.rng at hd
    rw [List.getElem?_map] at hd
    by_cases h : i < n
    · rw [List.getElem?_range h] at hd
      have hd' : D.int (lo + (i : Int)) = d := by simpa using hd
      refine ⟨h, fun v H2 y => ?_⟩
      obtain ⟨rfl, rfl⟩ := y
      rw [← hd']
      exact ⟨Ext.refl m' H2, fun st r => ⟨r, .int _⟩⟩
    · rw [List.getElem?_eq_none (by simp; omega)] at hd
      cases hd
theorem PI.or {wi wi' : TI} {it : Expr} (h : PI X tg it wi) (h' : PI X tg it wi') : PI X tg it (fun σ H R => wi σ H R ∨ wi' σ H R) :=
  ⟨fun pins s σ H R I h1 => h1.elim (h.run pins s σ H R I) (h'.run pins s σ H R I)⟩
theorem si_any (h : SE X W e fe) : SI X W tg e (itAny fe) := by
  obtain ⟨t, p, q⟩ := h
  refine ⟨_, PI.or (pi_list p) (PI.or (pi_tup p) (pi_str p)), fun σ H ρ st m R s r h => ?_⟩
  have key : ∀ (Q : VK), (∀ d st1 v H1 m1, fe ρ st = .ok d st1 → Ext m H m1 H1 → Rl X.K m1 H1 st1 → Rep X.K H1 m1 v d → Q v H1) → t σ H Q := fun Q hk => by
    refine q σ H ρ st m Q s r ?_
    cases z : fe ρ st with
    | ok d st1 => exact fun v H1 m1 e1 r1 p1 => hk d st1 v H1 m1 z e1 r1 p1
    | exc c fs st1 =>
      unfold itAny at h
      rw [z] at h
      exact h
    | bad =>
      unfold itAny at h
      rw [z] at h
      exact h
  cases z : fe ρ st with
  | ok d st1 =>
    unfold itAny at h
    rw [z] at h
    cases d with
    | lst xs =>
      refine .inl (key _ fun d st2 v H1 m1 z2 e1 r1 p1 => ?_)
      rw [z] at z2
      cases z2
      cases p1 with
      | @lst a vs _ g1 gn g2 => exact ⟨a, rfl, ⟨vs, .inl (.inl g1)⟩, h _ H1 m1 e1 r1 (ItOk.lst (.inl ⟨.inl g1, gn⟩) g2)⟩
    | rd xs =>
      refine .inl (key _ fun d st2 v H1 m1 z2 e1 r1 p1 => ?_)
      rw [z] at z2
      cases z2
      cases p1 with
      | @rd a vs _ g1 g2 => exact ⟨a, rfl, ⟨vs, g1.sq⟩, h _ H1 m1 e1 r1 (ItOk.lst g1 g2)⟩
    | tup xs =>
      refine .inr (.inl (key _ fun d st2 v H1 m1 z2 e1 r1 p1 => ?_))
      rw [z] at z2
      cases z2
      cases p1 with
      | @tup a vs _ g1 g2 => exact ⟨a, rfl, ⟨vs, g1.sq⟩, h _ H1 m1 e1 r1 (ItOk.tup g1 g2)⟩
    | str x =>
      refine .inr (.inr (key _ fun d st2 v H1 m1 z2 e1 r1 p1 => ?_))
      rw [z] at z2
      cases z2
      cases p1
      exact ⟨x, rfl, h _ H1 m1 e1 r1 ItOk.str⟩
    | _ => exact h.elim
  | exc c fs st1 =>
    refine .inl (q σ H ρ st m _ s r ?_)
    unfold itAny at h
    rw [z] at h ⊢
    exact h
  | bad =>
    unfold itAny at h
    rw [z] at h
    exact h.elim
theorem si_range1 {p : Pos} (hg : Gl X "range") (hm : X.mg "range" = none) (h : SE X W e fe) (he : starEach [e] X.env = [(false, eval e X.env)] := by rfl) : SI X W tg (.Call (.Name "range" p) [e] [] pos) (itRange1 fe) := by
  obtain ⟨t, pa, q⟩ := h
  refine ⟨_, pi_range1 hg hm (pa_cons pa pa_nil he) he, fun σ H ρ st m R s r h => q σ H ρ st m _ s r (h.mp fun d st1 v H1 m1 e1 r1 p1 h1 => ?_)⟩
  cases p1 with
  | int n =>
    dsimp only at h1
    split at h1
    · rename_i hs
      have hs' : -1000000000000 ≤ n ∧ n ≤ 1000000000000 := of_decide_eq_true hs
      exact ⟨n, rfl, by omega, by omega, h1.go r1 ItOk.rng⟩
    · exact h1.elim
  | _ => exact h1.elim
theorem si_range2 {p : Pos} {a b : Expr} {fa fb : EF} (hg : Gl X "range") (hm : X.mg "range" = none) (ha : SE X W a fa) (hb : SE X W b fb) (he : starEach [a, b] X.env = [(false, eval a X.env), (false, eval b X.env)] := by rfl) (he' : starEach [b] X.env = [(false, eval b X.env)] := by rfl) :
    SI X W tg (.Call (.Name "range" p) [a, b] [] pos) (itRange2 fa fb) := by
  obtain ⟨t, pa, q⟩ := ha
  obtain ⟨t', pb, q'⟩ := hb
  refine ⟨_, pi_range2 hg hm (pa_cons pa (pa_cons pb pa_nil he') (by rw [he, he'])) he he', fun σ H ρ st m R s r h => q σ H ρ st m _ s r (h.mp fun d st1 v H1 m1 e1 r1 p1 h1 => q' σ H1 ρ st1 m1 _ (s.up e1) r1 (h1.mp fun d2 st2 v2 H2 m2 e2 r2 p2 h2 => ?_))⟩
  cases p1 with
  | int i =>
    cases p2 with
    | int j =>
      dsimp only at h2
      split at h2
      · rename_i hs
        have hs' := Bool.and_eq_true_iff.mp hs
        have h3 : -1000000000000 ≤ i ∧ i ≤ 1000000000000 := of_decide_eq_true hs'.1
        have h4 : -1000000000000 ≤ j ∧ j ≤ 1000000000000 := of_decide_eq_true hs'.2
        exact ⟨i, j, rfl, ⟨by omega, by omega, by omega, by omega⟩, h2.go r2 ItOk.rng⟩
      · exact h2.elim
    | _ => exact h2.elim
  | _ => cases p2 <;> exact h2.elim
/-! ### for -/
theorem ss_for {it : AF} {u : GF} {own : List Nat} {f : SF} {body : List Stmt} (c : Cxt X W k g) (hi : SI X W tg e it) (hg : SG X tg u own) (hb : SSs X W body f) (hs : ∀ x, foldedSetIterable e X.env x = pure x := by intro _; rfl) :
    SS X W (.For tg e body [] pos) (sFor it u f) := by
  obtain ⟨wi, pi, qi⟩ := hi
  obtain ⟨g, pg, qg⟩ := hg
  obtain ⟨t, pb, qb⟩ := hb
  refine ⟨_, ps_for c.own c.calm pi pg pb hs, fun σ H ρ st m E s r h => qi σ H ρ st m _ s r (PostS.mp h s fun ds st1 J H1 m1 e1 r1 p1 h1 => ?_)⟩
  refine ⟨fun i n σ2 H2 => n = ds.length - i ∧ i ≤ ds.length ∧ ∃ ρ2 st2 m2, Ext m1 H1 m2 H2 ∧ Rl X.K m2 H2 st2 ∧ SR X.K H2 m2 σ2 ρ2 ∧ PostS X W m2 H2 E (sForL u f (ds.drop i) ρ2 st2),
    ⟨ds.length, rfl, Nat.zero_le _, ρ, st1, m1, Ext.refl m1 H1, r1, s.up e1, h1⟩, fun i n σ2 H2 hW => ?_⟩
  obtain ⟨hn, hi, ρ2, st2, m2, e2, r2, s2, h2⟩ := hW
  obtain ⟨stop, at_⟩ := p1 m2 H2 e2
  by_cases hl : i = ds.length
  · subst hl
    rw [List.drop_length] at h2
    exact .inl ⟨stop, h2.nxt r2 s2⟩
  · have hlt : i < ds.length := by omega
    obtain ⟨go, yld⟩ := at_ i ds[i] (List.getElem?_eq_getElem hlt)
    rw [List.drop_eq_getElem_cons hlt] at h2
    unfold sForL at h2
    refine .inr ⟨go, fun σ3 H3 => ∃ ρ3 st3 m3, Ext m1 H1 m3 H3 ∧ Rl X.K m3 H3 st3 ∧ SR X.K H3 m3 σ3 ρ3 ∧ PostS X W m3 H3 E (sForL u f (ds.drop (i + 1)) ρ3 st3),
      fun σ3 H3 ⟨ρ3, st3, m3, e3, r3, s3, h3⟩ => ⟨ds.length - (i + 1), by omega, rfl, by omega, ρ3, st3, m3, e3, r3, s3, h3⟩, fun x H3 hy => ?_⟩
    obtain ⟨e3, rl3⟩ := yld x H3 hy
    cases z : u ds[i] ρ2 st2 with
    | none => rw [z] at h2; exact h2.elim
    | some w =>
      obtain ⟨ρ4, st4⟩ := w
      rw [z] at h2
      refine qg x ds[i] σ2 H3 ρ2 st2 m2 _ ρ4 st4 (s2.up e3) (rl3 _ r2).1 (rl3 _ r2).2 z fun σ4 H4 m4 e4 r4 s4 _ => qb σ4 H4 ρ4 st4 m4 _ s4 r4 ?_
      have e24 := e3.trans e4
      dsimp only at h2
      cases z2 : f ρ4 st4 with
      | nx ρ5 st5 =>
        rw [z2] at h2
        exact fun σ5 H5 m5 e5 r5 s5 => ⟨ρ5, st5, m5, (e2.trans e24).trans e5, r5, s5, PostS.up h2 (e24.trans e5)⟩
      | ct ρ5 st5 =>
        rw [z2] at h2
        exact fun σ5 H5 m5 e5 r5 s5 => ⟨ρ5, st5, m5, (e2.trans e24).trans e5, r5, s5, PostS.up h2 (e24.trans e5)⟩
      | bk ρ5 st5 =>
        rw [z2] at h2
        exact fun σ5 H5 m5 e5 r5 s5 => h2 σ5 H5 m5 (e24.trans e5) r5 s5
      | rt d st5 =>
        rw [z2] at h2
        exact fun v H5 m5 e5 => h2 v H5 m5 (e24.trans e5)
      | exc cn fs ρ5 st5 =>
        rw [z2] at h2
        exact fun cls dc σ5 H5 m5 e5 => h2 cls dc σ5 H5 m5 (e24.trans e5)
      | bad => rw [z2] at h2; exact h2.elim
theorem ss_while {fc : TF} {f : SF} {body : List Stmt} (n : Nat) (c : Cxt X W k g) (hc : STt X W e fc) (hb : SSs X W body f) : SS X W (.While e body [] pos) (sWhileN fc f n) := by
  obtain ⟨t, p, q⟩ := hc
  obtain ⟨tb, pb, qb⟩ := hb
  refine ⟨_, ps_while c.own p pb, fun σ H ρ st m E s r h => ?_⟩
  refine ⟨fun i σ2 H2 => ∃ ρ2 st2 m2, Rl X.K m2 H2 st2 ∧ SR X.K H2 m2 σ2 ρ2 ∧ PostS X W m2 H2 E (sWhileN fc f i ρ2 st2), ⟨n, ρ, st, m, r, s, h⟩, fun i σ2 H2 hW => ?_⟩
  obtain ⟨ρ2, st2, m2, r2, s2, h2⟩ := hW
  cases i with
  | zero => exact h2.elim
  | succ i =>
    unfold sWhileN at h2
    refine q σ2 H2 ρ2 st2 m2 _ s2 r2 (PostS.mp h2 s2 fun b st3 v H3 m3 e3 r3 p3 h3 => ?_)
    obtain rfl : v = b := p3
    cases v with
    | false =>
      rw [if_neg Bool.false_ne_true]
      exact h3.nxt r3 (s2.up e3)
    | true =>
      rw [if_pos rfl]
      dsimp only at h3
      refine ⟨fun σ4 H4 => ∃ ρ4 st4 m4, Rl X.K m4 H4 st4 ∧ SR X.K H4 m4 σ4 ρ4 ∧ PostS X W m4 H4 E (sWhileN fc f i ρ4 st4), fun σ4 H4 h4 => ⟨i, Nat.lt_succ_self i, h4⟩, qb σ2 H3 ρ2 st3 m3 _ (s2.up e3) r3 ?_⟩
      cases z2 : f ρ2 st3 with
      | nx ρ5 st5 =>
        rw [z2] at h3
        exact fun σ5 H5 m5 e5 r5 s5 => ⟨ρ5, st5, m5, r5, s5, PostS.up h3 e5⟩
      | ct ρ5 st5 =>
        rw [z2] at h3
        exact fun σ5 H5 m5 e5 r5 s5 => ⟨ρ5, st5, m5, r5, s5, PostS.up h3 e5⟩
      | bk ρ5 st5 =>
        rw [z2] at h3
        exact fun σ5 H5 m5 e5 r5 s5 => h3 σ5 H5 m5 e5 r5 s5
      | rt d st5 =>
        rw [z2] at h3
        exact h3
      | exc cn fs ρ5 st5 =>
        rw [z2] at h3
        exact h3
      | bad => rw [z2] at h3; exact h3.elim
/-! ### [e for x in xs if t] -/
/-- the tests of a comprehension -/
structure SIf (X : Cx) (W : WX) (es : List Expr) (f : TF) : Prop where
  ex : ∃ t : TT, PTs X es t ∧ ∀ σ H ρ st m Q, SR X.K H m σ ρ → Rl X.K m H st → Post X W m H σ RB Q (f ρ st) → t σ H Q
def tYesF : TF := fun _ st => .ok true st
theorem sif_nil : SIf X W [] tYesF := ⟨_, pts_nil, fun σ H ρ st m Q s r h => h.go r rfl⟩
theorem sif_one {f : TF} (h : STt X W e f) : SIf X W [e] f := by
  obtain ⟨t, p, q⟩ := h
  exact ⟨_, pts_one p, q⟩
def wipeF (ρ : Sl) : List Nat → Sl
  | [] => ρ
  | v :: vs => (wipeF ρ vs).set v none
theorem SR.wipe {K : PySem.W.Frag} {H : Hp} {m : Mp} {σ : L2.St} {ρ : Sl} (s : SR K H m σ ρ) : ∀ vs : List Nat, SR K H m (L2.wipe σ vs) (wipeF ρ vs)
  | [] => s
  | v :: vs => by
    have ih := s.wipe vs
    refine ⟨by simp [L2.wipe, wipeF, ih.len], fun i d h => ?_⟩
    unfold wipeF at h
    by_cases e : v = i
    · subst e
      rw [List.getElem?_set] at h
      split at h
      · split at h <;> cases h
      · exact absurd rfl ‹_›
    · rw [List.getElem?_set_ne e] at h
      unfold L2.wipe
      rw [List.getElem?_set_ne e]
      exact ih.get i d h
def lcL (u : GF) (t : TF) (fe : EF) (ρ : Sl) : List D → List D → Store → Res D
  | [], acc, st => .ok (.lst acc) st
  | x :: xs, acc, st => match u x ρ st with
    | none => .bad
    | some (ρ1, st1) => match t ρ1 st1 with
      | .ok true st2 => match fe ρ1 st2 with
        | .ok d st3 => if acc.length < 100000 then lcL u t fe ρ xs (acc ++ [d]) st3 else .bad
        | _ => .bad
      | .ok false st2 => lcL u t fe ρ xs acc st2
      | _ => .bad
def lcF (it : AF) (u : GF) (t : TF) (fe : EF) (vs : List Nat) : EF := fun ρ st => (it ρ st).bind fun xs st1 => lcL u t fe (wipeF ρ vs) xs [] st1
abbrev W0 : WX := fun _ _ _ _ => False
/-- the readings in one form -/
def tSE (X : Cx) (W : WX) (f : EF) : TE := fun σ H Q => ∃ ρ st m, SR X.K H m σ ρ ∧ Rl X.K m H st ∧ Post X W m H σ Rep Q (f ρ st)
def tST (X : Cx) (W : WX) (f : TF) : TT := fun σ H Q => ∃ ρ st m, SR X.K H m σ ρ ∧ Rl X.K m H st ∧ Post X W m H σ RB Q (f ρ st)
def tSG (X : Cx) (u : GF) (own : List Nat) : TG := fun v σ H Q => ∃ d ρ st m ρ' st', SR X.K H m σ ρ ∧ Rl X.K m H st ∧ Rep X.K H m v d ∧ u d ρ st = some (ρ', st') ∧
  (∀ σ' H' m', Ext m H m' H' → Rl X.K m' H' st' → SR X.K H' m' σ' ρ' → (∀ vs, (∀ i ∈ own, i ∈ vs) → wipe σ' vs = wipe σ vs) → Q σ' H')
theorem SE.pe (h : SE X W e fe) : PE X e (tSE X W fe) := by
  obtain ⟨t, p, q⟩ := h
  exact ⟨fun pins s σ H Q I ⟨ρ, st, m, h1, h2, h3⟩ => p.run pins s σ H Q I (q σ H ρ st m Q h1 h2 h3)⟩
theorem SIf.pts {es : List Expr} {f : TF} (h : SIf X W es f) : PTs X es (tST X W f) := by
  obtain ⟨t, p, q⟩ := h
  exact ⟨fun pins s σ H Q I ⟨ρ, st, m, h1, h2, h3⟩ => p.run pins s σ H Q I (q σ H ρ st m Q h1 h2 h3)⟩
theorem SG.pg {u : GF} {own : List Nat} (h : SG X tg u own) : PG X tg (tSG X u own) := by
  obtain ⟨t, p, q⟩ := h
  exact ⟨fun pins s σ H v w Q I r ⟨d, ρ, st, m, ρ', st', h1, h2, h3, h4, h5⟩ => p.run pins s σ H v w Q I r (q v d σ H ρ st m Q ρ' st' h1 h2 h3 h4 h5)⟩
theorem cap_lt {n : Nat} (h : n < 100000) : n < sizeLine := Nat.lt_of_lt_of_le h (by decide)
theorem cap_le {n : Nat} (h : n ≤ 100000) : n ≤ sizeLine := Nat.le_trans h (by decide)
theorem lc_read {iter : Expr} {own : List (Str × Nat)} {own' : List Nat} {it : AF} {u : GF} {t : TF} {wi : TI} (qi : ∀ σ H ρ st m R, SR X.K H m σ ρ → Rl X.K m H st → Post X W m H σ ItOk R (it ρ st) → wi σ H R) (hown : ∀ i ∈ own', i ∈ own.map (·.2)) :
    ∀ σ H ρ st m Q, SR X.K H m σ ρ → Rl X.K m H st → Post X W m H σ Rep Q (lcF it u t fe (own.map (·.2)) ρ st) → tLc wi (tSG X u own') (tST X W0 t) (tSE X W0 fe) (own.map (·.2)) σ H Q := by
  refine fun σ H ρ st m Q s r h => qi σ H ρ st m _ s r (h.mp fun ds st1 J H1 m1 e1 r1 p1 h1 => ?_)
  intro Dp hD
  have s1 := s.up e1
  refine ⟨fun i n H2 => n = ds.length - i ∧ i ≤ ds.length ∧ ∃ acc vs st2 m2, Ext m1 H1 m2 H2 ∧ Rl X.K m2 H2 st2 ∧ Dp ∈ m2.x ∧ Dp ∉ m2.m ∧ H2 Dp = some (.lst vs) ∧ RepL X.K H2 m2 vs acc ∧ Post X W m1 H1 σ Rep Q (lcL u t fe (wipeF ρ (own.map (·.2))) (ds.drop i) acc st2),
    ⟨ds.length, rfl, Nat.zero_le _, [], [], st1, m1.hide Dp, Ext.hide hD, r1.hide hD, List.mem_cons_self, r1.free hD, upd_same, .nil, h1⟩, fun i n H2 hW => ?_⟩
  obtain ⟨hn, hi, acc, vs, st2, m2, e2, r2, hx, hm, hH, ha, h2⟩ := hW
  obtain ⟨stop, at_⟩ := p1 m2 H2 e2
  by_cases hl : i = ds.length
  · subst hl
    rw [List.drop_length] at h2
    have hout : Dp ∉ m1.x := fun z => r1.trx Dp z hD
    exact .inl ⟨stop, h2 (.ref Dp) H2 (m2.rel m1) e2.rel (r2.rel e2) (.lst hH ⟨hm, hout⟩ (ha.rel e2))⟩
  · have hlt : i < ds.length := by omega
    obtain ⟨go, yld⟩ := at_ i ds[i] (List.getElem?_eq_getElem hlt)
    rw [List.drop_eq_getElem_cons hlt] at h2
    unfold lcL at h2
    refine .inr ⟨go, fun H3 => ∃ acc vs st2 m2, Ext m1 H1 m2 H3 ∧ Rl X.K m2 H3 st2 ∧ Dp ∈ m2.x ∧ Dp ∉ m2.m ∧ H3 Dp = some (.lst vs) ∧ RepL X.K H3 m2 vs acc ∧ Post X W m1 H1 σ Rep Q (lcL u t fe (wipeF ρ (own.map (·.2))) (ds.drop (i + 1)) acc st2),
      fun H3 h3 => ⟨ds.length - (i + 1), by omega, rfl, by omega, h3⟩, fun x H3 hy => ?_⟩
    obtain ⟨e3, rl3⟩ := yld x H3 hy
    cases z : u ds[i] (wipeF ρ (own.map (·.2))) st2 with
    | none => rw [z] at h2; exact h2.elim
    | some w =>
      obtain ⟨ρ4, st4⟩ := w
      rw [z] at h2
      refine ⟨ds[i], _, st2, m2, ρ4, st4, ((s1.up e2).up e3).wipe _, (rl3 _ r2).1, (rl3 _ r2).2, z, fun σ4 H4 m4 e4 r4 s4 w4 => ⟨(w4 _ hown).trans (wipe_idem σ _), ?_⟩⟩
      dsimp only at h2
      refine ⟨ρ4, st4, m4, s4, r4, ?_⟩
      have e34 := e3.trans e4
      cases z2 : t ρ4 st4 with
      | ok b st5 =>
        rw [z2] at h2
        intro v5 H5 m5 e5 r5 p5
        obtain rfl : v5 = b := p5
        have e35 := e34.trans e5
        have hm5 : Dp ∉ m5.m := e35.notin hH hm
        have hH5 : H5 Dp = some (.lst vs) := e35.old Dp _ hH hm fun _ z => nomatch z
        have hx5 : Dp ∈ m5.x := e35.exs Dp hx
        cases v5 with
        | true =>
          rw [if_pos rfl]
          refine ⟨ρ4, st5, m5, s4.up e5, r5, ?_⟩
          dsimp only at h2
          cases z3 : fe ρ4 st5 with
          | ok d st6 =>
            rw [z3] at h2
            dsimp only at h2
            split at h2
            · rename_i hlen
              intro v6 H6 m6 e6 r6 p6
              have hx6 := e6.exs Dp hx5
              have hm6 := e6.notin hH5 hm5
              have hH6 := e6.old Dp _ hH5 hm5 fun _ z => nomatch z
              refine ⟨vs, hH6, ?_, acc ++ [d], vs ++ [v6], st6, m6, ((e2.trans e35).trans e6).mut hD, r6.hid hx6 hm6, hx6, hm6, upd_same, ?_, h2⟩
              · rw [ha.length]
                exact cap_lt hlen
              · exact RepL.hid hx6 _ _ (((ha.up e35).up e6).append (.cons p6 .nil))
            · exact h2.elim
          | exc c fs st6 => rw [z3] at h2; exact h2.elim
          | bad => rw [z3] at h2; exact h2.elim
        | false =>
          rw [if_neg Bool.false_ne_true]
          exact ⟨acc, vs, st5, m5, e2.trans e35, r5, hx5, hm5, hH5, ha.up e35, h2⟩
      | exc c fs st5 => rw [z2] at h2; exact h2.elim
      | bad => rw [z2] at h2; exact h2.elim
theorem se_lc {elt iter : Expr} {ifs : List Expr} {scope : Scope} {own : List (Str × Nat)} {own' : List Nat} {it : AF} {u : GF} {t : TF} (hc : X.calm = true) (hN : X.N.Nodup) (hi : SI X W tg iter it) (ok : BlkOk X.N X.env.scope scope own)
    (hg : ∀ (s : Shared) (H : Hp) (C : Addr) (cl : List (Str × Addr)) (fp : List Addr), SG (X.blk s H scope (compEnvC scope cl C X.env) fp) tg u own')
    (ht : ∀ (s : Shared) (H : Hp) (C : Addr) (cl : List (Str × Addr)) (fp : List Addr), SIf (X.blk s H scope (compEnvC scope cl C X.env) fp) W0 ifs t)
    (he : ∀ (s : Shared) (H : Hp) (C : Addr) (cl : List (Str × Addr)) (fp : List Addr), SE (X.blk s H scope (compEnvC scope cl C X.env) fp) W0 elt fe)
    (hown : ∀ i ∈ own', i ∈ own.map (·.2) := by decide) (hs : ∀ x, foldedSetIterable iter X.env x = pure x := by intro _; rfl) :
    SE X W (.ListComp elt [⟨tg, iter, ifs, 0⟩] scope pos) (lcF it u t fe (own.map (·.2))) := by
  obtain ⟨wi, pi, qi⟩ := hi
  exact ⟨_, pe_lc (g := tSG X u own') (tt := tST X W0 t) (te := tSE X W0 fe) hc hN pi ok (fun s H C cl fp => (hg s H C cl fp).pg) (fun s H C cl fp => (ht s H C cl fp).pts) (fun s H C cl fp => (he s H C cl fp).pe) hs, lc_read (iter := iter) qi hown⟩
/-- x = [e for ..] on one line -/
theorem ss_setLc {i : Nat} {y : Str} {py spos : Pos} {elt iter : Expr} {ifs : List Expr} {scope : Scope} {own : List (Str × Nat)} {own' : List Nat} {it : AF} {u : GF} {t : TF} (hc : X.calm = true) (hN : X.N.Nodup) (hi : SI X W tg iter it) (ok : BlkOk X.N X.env.scope scope own)
    (hg : ∀ (s : Shared) (H : Hp) (C : Addr) (cl : List (Str × Addr)) (fp : List Addr), SG (X.blk s H scope (compEnvC scope cl C X.env) fp) tg u own')
    (ht : ∀ (s : Shared) (H : Hp) (C : Addr) (cl : List (Str × Addr)) (fp : List Addr), SIf (X.blk s H scope (compEnvC scope cl C X.env) fp) W0 ifs t)
    (he : ∀ (s : Shared) (H : Hp) (C : Addr) (cl : List (Str × Addr)) (fp : List Addr), SE (X.blk s H scope (compEnvC scope cl C X.env) fp) W0 elt fe)
    (hy : X.N[i]? = some y := by rfl) (hyl : X.env.scope.names.lookup y = some .local := by rfl) (hsw : swapsWith (.ListComp elt [⟨tg, iter, ifs, 0⟩] scope pos) (some (.Name y py)) spos.line X.env = pure true := by exact sw_true rfl rfl rfl (by decide +kernel))
    (hown : ∀ i ∈ own', i ∈ own.map (·.2) := by decide) (hs : ∀ x, foldedSetIterable iter X.env x = pure x := by intro _; rfl) :
    SS X W (.Assign [.Name y py] (.ListComp elt [⟨tg, iter, ifs, 0⟩] scope pos) spos) (sAsg (lcF it u t fe (own.map (·.2))) (gSet i)) := by
  obtain ⟨wi, pi, qi⟩ := hi
  refine ⟨_, ps_setLc (i := i) (g := tSG X u own') (tt := tST X W0 t) (te := tSE X W0 fe) hc hN hy hyl hsw pi ok (fun s H C cl fp => (hg s H C cl fp).pg) (fun s H C cl fp => (ht s H C cl fp).pts) (fun s H C cl fp => (he s H C cl fp).pe) hs, fun σ H ρ st m E s r h =>
    lc_read (iter := iter) qi hown σ H ρ st m _ s r (PostS.mp h s fun d st1 v H1 m1 e1 r1 p1 h1 => h1.nxt r1 ((s.up e1).set p1 i))⟩
end
end DX

/-! DX 5: defs, calls, the law's end -/
namespace DX
open PySem PySem.Spec PyProof.Rows L2
variable [TB0]

def PostF (K : PySem.W.Frag) (m : Mp) (H : Hp) (Q : VK) (E : XK) : Res D → Prop
  | .ok d st => PostV K m H Rep Q d st
  | .exc c fs st => ∀ cls dc H' m', Ext m H m' H' → Rl K m' H' st → XRep K H' m' cls dc c fs → E cls dc H'
  | .bad => False
theorem PostF.up {K : PySem.W.Frag} {m m' : Mp} {H H' : Hp} {Q : VK} {E : XK} {r : Res D} (h : PostF K m H Q E r) (e : Ext m H m' H') : PostF K m' H' Q E r := by
  cases r with
  | ok d st => exact fun v H2 m2 e2 => h v H2 m2 (e.trans e2)
  | exc c fs st => exact fun cls dc H2 m2 e2 => h cls dc H2 m2 (e.trans e2)
  | bad => exact h
/-- arguments that mean data on which F goes on -/
def spOf (K : PySem.W.Frag) (F : FF) : Sp := fun vs H Q E => ∃ ds st m, RepL K H m vs ds ∧ Rl K m H st ∧ PostF K m H Q E (F ds st)
/-- the def at f means F; gd: where no repr is under way -/
structure FnD (P : Program) (w : World) (K : PySem.W.Frag) (mg : Str → Option Value) (base : Heap) (k : Nat) (gd : Bool) (f : Addr) (F : FF) : Prop where
  run : ∀ (A : Around) (outer : List Env) (s : Shared) (H : Hp) (us : List Value) (vs : List V) (Q : VK) (E : XK), Room k A → (gd = true → A.guards = some []) → Env0 P w K mg base A outer s H → Vals vs us → spOf K F vs H Q E →
    codeAny (model P w) A (.call (.ref f) ⟨us, []⟩) (CR (L2.CX P w) outer P w H s Q E) s
/-- the def x of the module means F -/
structure DefOk (P : Program) (w : World) (K : PySem.W.Frag) (mg : Str → Option Value) (base : Heap) (k : Nat) (gd : Bool) (x : Str) (F : FF) : Prop where
  ex : ∃ f, mg x = some (.ref f) ∧ PySem.W.keepIn K (.ref f) = true ∧ FnD P w K mg base k gd f F
def eCall (F : FF) (fa : AF) : EF := fun ρ st => (fa ρ st).bind F
def fBody (N : Nat) (b : SF) : FF := fun ds st => match b (ds.map some ++ List.replicate (N - ds.length) none) st with
  | .rt d st' => .ok d st'
  | .nx _ st' => .ok .non st'
  | .exc c fs _ st' => .exc c fs st'
  | _ => .bad
/-- n parameters, N slots -/
def fDef (n N : Nat) (b : SF) : FF := fun ds st => if ds.length = n then fBody N b ds st else .bad
/-- n parameters and a starred one -/
def fStar (n N : Nat) (b : SF) : FF := fun ds st => if n ≤ ds.length ∧ ds.length ≤ 100000 then fBody N b (ds.take n ++ [.tup (ds.drop n)]) st else .bad
theorem Ctx.mono {X : Cx} {W : WX} {k j : Nat} {g : Bool} (c : Ctx X W k g) (h : j ≤ k) : Ctx X W j g := ⟨c.calm, c.nd, c.tk, c.room.mono h, c.gd⟩
theorem Ctx.blk {X : Cx} {W : WX} {k : Nat} {g : Bool} (c : Ctx X W k g) (s : Shared) (H : Hp) (sc : Scope) (env : Env) (fp : List Addr) : Ctx (X.blk s H sc env fp) W0 k g := ⟨c.calm, c.nd, takes0, c.room, c.gd⟩
section
variable {P : Program} {w : World} {K : PySem.W.Frag} {mg : Str → Option Value} {base : Heap} {k j : Nat} {g : Bool} {f : Addr} {F : FF}
theorem FnD.mono (d : FnD P w K mg base j g f F) (h : j ≤ k) : FnD P w K mg base k g f F := ⟨fun A outer s H us vs Q E hr => d.run A outer s H us vs Q E (hr.mono h)⟩
theorem FnD.fnR (d : FnD P w K mg base k false f F) : FnR P w K mg base (L2.CX P w) k f (spOf K F) := fun A outer s H us vs Q E hr e0 r h => d.run A outer s H us vs Q E hr (fun z => Bool.noConfusion z) e0 r h
/-- new things of the store stand still at the end -/
theorem frz_up {m : Mp} {H : Hp} {st : Store} {ds : List D} {Q : VK} {E : XK} (r : Rl K m H st) (hp : PostF K m H Q E (frz F ds st)) : PostF K m H Q E (F ds st) := by
  unfold frz at hp
  cases e : F ds st with
  | ok d st' =>
    rw [e] at hp
    unfold frzR at hp
    dsimp only at hp
    split at hp
    · rename_i ok
      split at hp
      · rename_i d' hd
        intro v H' m' e' r' p'
        have hl : st.length = m.m.length := r.len.symm
        rw [hl] at hd
        exact hp v H' (m'.back m) e'.back (r.back e' r' ok) (Rep.fz e'.cut (fun n a d' => fzG_rep r' e'.cut 40 n a d') d v d' p' hd)
      · exact hp.elim
    · exact hp.elim
  | exc c fs st' =>
    rw [e] at hp
    unfold frzR at hp
    dsimp only at hp
    split at hp
    · rename_i ok
      split at hp
      · rename_i ds' hd
        intro cls dc H' m' e' r' p'
        have hl : st.length = m.m.length := r.len.symm
        rw [hl] at hd
        refine hp cls dc H' (m'.back m) e'.back (r.back e' r' ok) ⟨p'.1, ?_⟩
        rcases p'.2 with z | ⟨d, vs, h1, h2, h3, h4⟩
        · subst z
          exact .inl (by simp)
        · refine .inr ⟨d, vs, h1, ?_, e'.cut.out h3, ?_⟩
          · have q := RepL.fz e'.cut (fun n a d' => fzG_rep r' e'.cut 40 n a d') _ vs ds' h4 hd
            have hl2 : ds'.length = fs.length := by rw [← q.length, h4.length, List.length_map]
            rw [List.map_fst_zip (by rw [List.length_map, hl2]; exact Nat.le_refl _)]
            exact h2
          · have q := RepL.fz e'.cut (fun n a d' => fzG_rep r' e'.cut 40 n a d') _ vs ds' h4 hd
            have hl2 : ds'.length = fs.length := by rw [← q.length, h4.length, List.length_map]
            rw [List.map_snd_zip (by rw [List.length_map, hl2]; exact Nat.le_refl _)]
            exact q
      · exact hp.elim
    · exact hp.elim
  | bad => rw [e] at hp; exact hp.elim
theorem spOf_frz {vs : List V} {H : Hp} {Q : VK} {E : XK} (h : spOf K (frz F) vs H Q E) : spOf K F vs H Q E := by
  obtain ⟨ds, st, m, hv, r, hp⟩ := h
  exact ⟨ds, st, m, hv, r, frz_up r hp⟩
theorem FnD.frz (d : FnD P w K mg base k g f F) : FnD P w K mg base k g f (frz F) := ⟨fun A outer s H us vs Q E hr hg e0 r h => d.run A outer s H us vs Q E hr hg e0 r (spOf_frz h)⟩
end
section
variable {X : Cx} {W : WX} {e : Expr} {pos : Pos} {k j : Nat} {g g' : Bool}
theorem SA.pa {es : List Expr} {f : AF} (h : SA X W es f) : PA X es (fun σ H Q => ∃ ρ st m, SR X.K H m σ ρ ∧ Rl X.K m H st ∧ Post X W m H σ RepL Q (f ρ st)) := by
  obtain ⟨t, p, q⟩ := h
  exact ⟨fun pos pins s σ H Q I ⟨ρ, st, m, h1, h2, h3⟩ => p.run pos pins s σ H Q I (q σ H ρ st m Q h1 h2 h3)⟩
theorem run_fnD {f : Addr} {F : FF} {pins : List (Addr × Obj)} {σ : L2.St} {H : Hp} {s : Shared} {Q : VK} {us : List Value} {vs : List V} (d : FnD X.prog X.w X.K X.mg X.base k g f F) (hr : Room k X.A) (hg : g = true → X.A.guards = some []) {E : XK} (hx : PassesAt (L2.CX X.prog X.w) X σ E)
    (I : Inv X pins σ H s) (r : Vals vs us) (h : spOf X.K F vs H Q E) : wpAny (model X.prog X.w) X.A (call (.ref f) us) (EP X pins σ Q) X.xe s := by
  refine wpAny_call (codeAny_mono (d.run X.A X.stack s H us vs Q E hr hg I.env0 r h) fun r s' hq => ?_)
  cases r with
  | error e => exact hx pins H s e s' I hq
  | ok fl =>
    cases fl with
    | ret u => exact I.after hq
    | next => exact False.elim hq
    | brk => exact False.elim hq
    | cont => exact False.elim hq
theorem pe_callD {f : Addr} {F : FF} {x : Str} {p : Pos} {es : List Expr} {t : TA} (d : FnD X.prog X.w X.K X.mg X.base k g f F) (hr : Room k X.A) (hgd : g = true → X.A.guards = some []) (hg : Gl X x) (hm : X.mg x = some (.ref f)) (hk : PySem.W.keepIn X.K (.ref f) = true)
    {E : L2.St → XK} (hx : ∀ σ, PassesAt (L2.CX X.prog X.w) X σ (E σ)) (ha : PA X (e :: es) t) (hdb : (x == ("__debug__" : Str)) = false := by decide) (he : starEach (e :: es) X.env = (false, eval e X.env) :: starEach es X.env := by rfl) (hpl : (backTo pos (starEach es X.env)).any (·.1) = false := by rfl) :
    PE X (.Call (.Name x p) (e :: es) [] pos) (tCallS (spOf X.K F) E t) := by
  refine ⟨fun pins s σ H Q I h => ?_⟩
  refine wpAny_Call_Name_kw (ld_glob I hg hm ?_ hdb)
  refine PySem.W.callWith_K (h₀ := X.base) I.ok.mod.kin hk (thn (ha.run pos pins s σ H _ I h) fun us s1 ⟨vs, H1, I1, r, q⟩ => ⟨I1.kIn, ?_⟩) he hpl
  exact run_fnD d hr hgd (hx σ) I1 r q
theorem post_F {m : Mp} {H : Hp} {σ : L2.St} {Q : VK} {r : Res D} (h : Post X W m H σ Rep Q r) : PostF X.K m H Q (WE W σ) r := by
  cases r with
  | ok d st => exact h
  | exc c fs st => exact h
  | bad => exact h
theorem se_call {x : Str} {p : Pos} {es : List Expr} {F : FF} {f : AF} (d : DefOk X.prog X.w X.K X.mg X.base j g x F) (c : Ctx X W k g') (hg : Gl X x) (ha : SA X W (e :: es) f) (hj : j ≤ k := by decide) (hgg : g = true → g' = true := by decide)
    (h2 : (x == ("__debug__" : Str)) = false := by decide) (h3 : starEach (e :: es) X.env = (false, eval e X.env) :: starEach es X.env := by rfl) (h4 : (backTo pos (starEach es X.env)).any (·.1) = false := by rfl) :
    SE X W (.Call (.Name x p) (e :: es) [] pos) (eCall F f) := by
  obtain ⟨fa, hm, hk, G⟩ := d.ex
  obtain ⟨t, pa, q⟩ := ha
  refine ⟨_, pe_callD G (c.room.mono hj) (fun z => c.gd (hgg z)) hg hm hk (fun σ => passAt c.tk σ) pa h2 h3 h4, fun σ H ρ st m Q s r h => q σ H ρ st m _ s r (h.mp fun ds st1 vs H1 m1 e1 r1 p1 h1 => ⟨ds, st1, m1, p1, r1, post_F h1⟩)⟩
end
theorem sr_start {K : PySem.W.Frag} {H : Hp} {m : Mp} {vs : List V} {ds : List D} {N : List Str} (h : RepL K H m vs ds) : SR K H m (L2.start N vs) (ds.map some ++ List.replicate (N.length - ds.length) none) := by
  have hl := h.length
  refine ⟨by simp [L2.start, hl], fun i d hd => ?_⟩
  by_cases hi : i < ds.length
  · rw [List.getElem?_append_left (by simpa using hi), List.getElem?_map] at hd
    cases q : ds[i]? with
    | none => rw [q] at hd; cases hd
    | some d' =>
      rw [q] at hd
      have : d' = d := by simpa using hd
      subst this
      obtain ⟨v, h1, h2⟩ := h.get q
      refine ⟨v, ?_, h2⟩
      unfold L2.start
      rw [List.getElem?_append_left (by rw [List.length_map, hl]; exact hi), List.getElem?_map, h1]
      rfl
  · rw [List.getElem?_append_right (by simpa using Nat.le_of_not_lt hi), List.getElem?_replicate] at hd
    split at hd <;> cases hd
section
variable {P : Program} {w : World} {K : PySem.W.Frag} {mg : Str → Option Value} {base : Heap}
/-- the body's reading at its start -/
theorem body_go {X : Cx} {Q : VK} {E : XK} {k : Nat} {g : Bool} {body : List Stmt} {b : SF} {N : List Str} {vs : List V} {ds : List D} {H : Hp} {st0 : Store} {m : Mp} (hb : SSs X (fun cls d _ H => E cls d H) body b) (hv : RepL X.K H m vs ds) (hr0 : Rl X.K m H st0) (hp : PostF X.K m H Q E (fBody N.length b ds st0)) :
    ∃ t, PSs X body t ∧ t { nx := fun _ H' => Q .non H', rt := Q } (L2.start N vs) H := by
  obtain ⟨t, p, q⟩ := hb
  refine ⟨t, p, q _ H _ st0 m _ (sr_start hv) hr0 ?_⟩
  unfold fBody at hp
  split at hp
  · rename_i d st' e
    rw [e]
    exact hp
  · rename_i ρ' st' e
    rw [e]
    exact fun σ' H' m' e' r' s' => hp .non H' m' e' r' .non
  · rename_i c fs ρ' st' e
    rw [e]
    exact fun cls dc σ' H' m' e' r' s' x' => hp cls dc H' m' e' r' x'
  · exact hp.elim
theorem fDef_ok {K : PySem.W.Frag} {n N : Nat} {b : SF} {m : Mp} {H : Hp} {Q : VK} {E : XK} {ds : List D} {st : Store} (h : PostF K m H Q E (fDef n N b ds st)) : ds.length = n ∧ PostF K m H Q E (fBody N b ds st) := by
  unfold fDef at h
  split at h
  · rename_i hl
    exact ⟨hl, h⟩
  · exact h.elim
/-- a def by its body -/
theorem def_fn {x q : Str} {st : Stmt} {f : Addr} {fd : FuncData} {N ps : List Str} {k : Nat} {b : SF} (F : Fun K x q st f fd) (S : FnScope N ps (defScope st))
    (hbody : ∀ (cdv : Value) (A : Around) (outer : List Env) (s : Shared) (H : Hp) (E : XK), Cxt (cxOf (L2.CX P w) P w K mg base N q (defScope st) f cdv A outer s H E) (fun cls d _ H => E cls d H) k false →
      SSs (cxOf (L2.CX P w) P w K mg base N q (defScope st) f cdv A outer s H E) (fun cls d _ H => E cls d H) (defBody st) b) : FnOk P w K mg base (L2.CX P w) (k + 1) f fd ps (spOf K (fDef ps.length N.length b)) := by
  refine F.okX S (fun vs H Q E h => ?_) fun cdv A outer s H vs Q E hr h => ?_
  · obtain ⟨ds, st, m, hv, hr, hp⟩ := h
    exact hv.length.trans (fDef_ok hp).1
  · obtain ⟨ds, st0, m, hv, hr0, hp⟩ := h
    exact body_go (X := cxOf (L2.CX P w) P w K mg base N q (defScope st) f cdv A outer s H E) (k := k) (g := false) (hbody cdv A outer s H E ⟨⟨rfl, S.nd, takes_of rfl rfl rfl rfl, hr, fun z => Bool.noConfusion z⟩, passes_of rfl, rfl, rfl⟩) hv hr0 (fDef_ok hp).2
theorem fnD_of {f : Addr} {fd : FuncData} {ps : List Str} {k : Nat} {g : Bool} {F : FF} (G : FnOk P w K mg base (L2.CX P w) k f fd ps (spOf K F)) (hb : Binds K fd ps []) : FnD P w K mg base k g f F := ⟨fun A outer s H us vs Q E hr _ e0 rv h => by
  have KX : K.In s.heap := e0.mod.kin.keeps fun b o e => (e0.bs b o e).1
  have b := hb s us KX (by rw [List.append_nil, ← rv.length]; exact G.len _ _ _ _ h)
  rw [List.append_nil] at b
  exact G.run A outer s H ⟨us, []⟩ us vs Q E hr e0 b rv h⟩
/-- .. where no repr is under way -/
theorem def_fnG {x q : Str} {st : Stmt} {f : Addr} {fd : FuncData} {N ps : List Str} {k : Nat} {b : SF} (F : Fun K x q st f fd) (S : FnScope N ps (defScope st)) (hb : Binds K fd ps [])
    (hbody : ∀ (cdv : Value) (A : Around) (outer : List Env) (s : Shared) (H : Hp) (E : XK), Cxt (cxOf (L2.CX P w) P w K mg base N q (defScope st) f cdv A outer s H E) (fun cls d _ H => E cls d H) k true →
      SSs (cxOf (L2.CX P w) P w K mg base N q (defScope st) f cdv A outer s H E) (fun cls d _ H => E cls d H) (defBody st) b) : FnD P w K mg base (k + 1) true f (fDef ps.length N.length b) := by
  obtain ⟨_, _, _, _, _, _, cdv, _, _, rfl, lk, hcd⟩ := F.ex
  refine ⟨fun A outer s H us vs Q E hr hg e0 rv h => ?_⟩
  obtain ⟨ds, st0, m, hv, hr0, hp⟩ := h
  obtain ⟨hl0, hp⟩ := fDef_ok hp
  have hl : vs.length = ps.length := hv.length.trans hl0
  have bb := hb s us (e0.mod.kin.keeps fun b o e => (e0.bs b o e).1) (by rw [List.append_nil, ← rv.length]; exact hl)
  rw [List.append_nil] at bb
  exact LamX.run_ofS lk hcd S hr e0 bb rv hl fun hr' => body_go (X := cxOf (L2.CX P w) P w K mg base N q (defScope st) f cdv A outer s H E) (k := k) (g := true) (hbody cdv A outer s H E ⟨⟨rfl, S.nd, takes_of rfl rfl rfl rfl, hr', fun _ => hg rfl⟩, passes_of rfl, rfl, rfl⟩) hv hr0 hp
/-- def f(a, .., *v) -/
theorem def_star {x q pv : Str} {st : Stmt} {f : Addr} {fd : FuncData} {N ps : List Str} {k : Nat} {g : Bool} {b : SF} (F : Fun K x q st f fd) (S : FnScope N (ps ++ [pv]) (defScope st))
    (hb : ∀ us rest : List Value, us.length = ps.length → bindArgs fd ⟨us ++ rest, []⟩ = (newTuple rest >>= fun t => pure (ps.zip us ++ [(pv, t)])))
    (hbody : ∀ (cdv : Value) (A : Around) (outer : List Env) (s : Shared) (H : Hp) (E : XK), Cxt (cxOf (L2.CX P w) P w K mg base N q (defScope st) f cdv A outer s H E) (fun cls d _ H => E cls d H) k false →
      SSs (cxOf (L2.CX P w) P w K mg base N q (defScope st) f cdv A outer s H E) (fun cls d _ H => E cls d H) (defBody st) b) : FnD P w K mg base (k + 1) g f (fStar ps.length N.length b) := by
  obtain ⟨oc, od, kV, doc, pm, an, cdv, ct, osl, rfl, lk, hcd⟩ := F.ex
  have R := StX.fn_star (CX := L2.CX P w) (sp := spOf K (fBody N.length b)) lk hcd S StX.cxUp hb fun A outer s H vs Q E hr h => by
    obtain ⟨ds, st0, m, hv, hr0, hp⟩ := h
    exact body_go (X := cxOf (L2.CX P w) P w K mg base N q (defScope st) f cdv A outer s H E) (k := k) (g := false) (hbody cdv A outer s H E ⟨⟨rfl, S.nd, takes_of rfl rfl rfl rfl, hr, fun z => Bool.noConfusion z⟩, passes_of rfl, rfl, rfl⟩) hv hr0 hp
  refine ⟨fun A outer s H us vs Q E hr _ e0 rv h => R A outer s H us vs Q E hr e0 rv ?_⟩
  obtain ⟨ds, st0, m, hv, hr0, hp⟩ := h
  unfold fStar at hp
  split at hp
  · rename_i hl
    have hlv := hv.length
    refine ⟨vs.take ps.length, vs.drop ps.length, (List.take_append_drop _ _).symm, by rw [List.length_take]; omega, cap_le (by rw [List.length_drop]; omega), fun p hpn => ?_⟩
    refine ⟨_, st0, m, ((hv.take ps.length).up (Ext.laid hpn)).append (.cons (.tup (.inl ⟨.inl upd_same, hr0.fresh hpn⟩) ((hv.drop ps.length).up (Ext.laid hpn))) .nil), hr0.laid hpn, hp.up (Ext.laid hpn)⟩
  · exact hp.elim
theorem def_ok {x : Str} {f : Addr} {k : Nat} {g : Bool} {F : FF} (hm : mg x = some (.ref f)) (hk : PySem.W.keepIn K (.ref f) = true) (G : FnD P w K mg base k g f F) : DefOk P w K mg base k g x F := ⟨f, hm, hk, G⟩
end
end DX

/-! DX 6: operators and built-ins on data -/
namespace DX
open PySem PySem.Spec PyProof.Rows L2
variable [TB0]

def bOr (b1 b2 : B2) : B2 := fun st x y => (b1 st x y).orElse fun _ => b2 st x y
theorem OpD.or {X : Cx} {f : Value → Value → Sem Value} {b1 b2 : B2} (h1 : OpD X f b1) (h2 : OpD X f b2) : OpD X f (bOr b1 b2) := by
  obtain ⟨r1, p1, q1⟩ := h1
  obtain ⟨r2, p2, q2⟩ := h2
  refine ⟨fun x y H Q => r1 x y H Q ∨ r2 x y H Q, fun pins s σ H x y v u Q I rx ry h => h.elim (p1 pins s σ H x y v u Q I rx ry) (p2 pins s σ H x y v u Q I rx ry), fun H m st x y dx dy d Q r px py e h => ?_⟩
  unfold bOr at e
  cases z : b1 st dx dy with
  | none =>
    rw [z] at e
    exact .inr (q2 H m st x y dx dy d Q r px py e h)
  | some w =>
    rw [z] at e
    have e' : w = d := by simpa using e
    subst e'
    exact .inl (q1 H m st x y dx dy w Q r px py z h)
def bI (g : Int → Int → Option D) : B2 := fun _ x y => match x, y with
  | .int i, .int j => g i j
  | _, _ => none
theorem opd_I {X : Cx} {f : Value → Value → Sem Value} {C : Int → Int → Prop} {gv : Int → Int → V} {g : Int → Int → Option D} (h : OpR X f (rI C gv)) (hg : ∀ i j d, g i j = some d → C i j ∧ ∀ K H m, Rep K H m (gv i j) d) : OpD X f (bI g) :=
  ⟨_, h, fun H m st x y dx dy d Q r px py e k => by
    cases px with
    | int i =>
      cases py with
      | int j =>
        obtain ⟨c, p⟩ := hg i j d e
        exact ⟨i, j, rfl, rfl, c, k.go r (p _ _ _)⟩
      | _ => cases e
    | _ => cases py <;> cases e⟩
theorem opd_I0 {X : Cx} {f : Value → Value → Sem Value} {gv : Int → Int → V} {g : Int → Int → Option D} (h : OpR X f (rI0 gv)) (hg : ∀ i j d, g i j = some d → ∀ K H m, Rep K H m (gv i j) d) : OpD X f (bI g) :=
  ⟨_, h, fun H m st x y dx dy d Q r px py e k => by
    cases px with
    | int i =>
      cases py with
      | int j => exact ⟨i, j, rfl, rfl, k.go r (hg i j d e _ _ _)⟩
      | _ => cases e
    | _ => cases py <;> cases e⟩
def bAddI : B2 := bI fun i j => some (.int (i + j))
def bSub : B2 := bI fun i j => some (.int (i - j))
def narrow (i : Int) : Bool := decide (-(2 ^ 64) < i ∧ i < 2 ^ 64)
def bMulI : B2 := bI fun i j => if narrow i || narrow j then some (.int (i * j)) else none
def bMod : B2 := bI fun i j => if 0 < j then some (.int (i % j)) else none
def bFdiv : B2 := bI fun i j => if 0 < j ∧ j < 1073741824 then some (.int (i / j)) else none
def bPow : B2 := bI fun i j => if 0 ≤ j ∧ j ≤ 1000 ∧ i.natAbs < 2 ^ 256 then some (.int (i ^ j.toNat)) else none
section
variable {X : Cx}
theorem opd_addI : OpD X (binaryOp .Add) bAddI := opd_I0 op_add fun i j d e _ _ _ => by cases e; exact .int _
theorem opd_sub : OpD X (binaryOp .Sub) bSub := opd_I0 op_sub fun i j d e _ _ _ => by cases e; exact .int _
theorem opd_mulI : OpD X (binaryOp .Mult) bMulI := opd_I op_mul fun i j d e => by
  split at e
  · rename_i h
    cases e
    refine ⟨?_, fun _ _ _ => .int _⟩
    rcases Bool.or_eq_true_iff.mp h with h | h
    · exact .inl (of_decide_eq_true h)
    · exact .inr (of_decide_eq_true h)
  · cases e
theorem opd_mod : OpD X (binaryOp .Mod) bMod := opd_I op_mod fun i j d e => by
  split at e
  · rename_i h
    cases e
    exact ⟨h, fun _ _ _ => .int _⟩
  · cases e
theorem opd_fdiv : OpD X (binaryOp .FloorDiv) bFdiv := opd_I op_fdiv fun i j d e => by
  split at e
  · rename_i h
    cases e
    exact ⟨h, fun _ _ _ => .int _⟩
  · cases e
theorem op_powW : OpR X (binaryOp .Pow) (rI (fun i j => 0 ≤ j ∧ j ≤ 1000 ∧ i.natAbs < 2 ^ 256) fun i j => .int (i ^ j.toNat)) := by
  intro pins s σ H x y v u Q I rx ry h
  obtain ⟨i, j, rfl, rfl, hc, q⟩ := h
  obtain ⟨t, rfl⟩ := rx
  obtain ⟨t', rfl⟩ := ry
  refine PyProof.Rows.pow_int hc.1 ?_ ⟨.int (i ^ j.toNat), H, I.tok _, ⟨_, rfl⟩, q⟩
  have h1 : Builtin.Int.intBits i ≤ 256 := by
    unfold Builtin.Int.intBits
    split
    · omega
    · rename_i h0
      have hn : i.natAbs ≠ 0 := by
        intro z
        have : i = 0 := by omega
        subst this
        exact h0 rfl
      have := (Nat.log2_lt hn).mpr hc.2.2
      omega
  have h2 : ((Builtin.Int.intBits i : Nat) : Int) ≤ 256 := by omega
  have h3 := Int.mul_le_mul h2 hc.2.1 hc.1 (by decide)
  have h4 : (256 : Int) * 1000 ≤ 2 ^ 27 := by decide
  omega
theorem opd_pow : OpD X (binaryOp .Pow) bPow := opd_I op_powW fun i j d e => by
  split at e
  · rename_i h
    cases e
    exact ⟨h, fun _ _ _ => .int _⟩
  · cases e
def bLtI : B2 := bI fun i j => some (.bl (decide (i < j)))
def bLeI : B2 := bI fun i j => some (.bl (decide (i ≤ j)))
def bGtI : B2 := bI fun i j => some (.bl (decide (j < i)))
def bGeI : B2 := bI fun i j => some (.bl (decide (j ≤ i)))
theorem opd_ltI : OpD X (compareOp .Lt) bLtI := opd_I0 op_lt fun i j d e _ _ _ => by cases e; exact .bl _
theorem opd_leI : OpD X (compareOp .LtE) bLeI := opd_I0 op_le fun i j d e _ _ _ => by cases e; exact .bl _
theorem opd_gtI : OpD X (compareOp .Gt) bGtI := opd_I0 op_gt fun i j d e _ _ _ => by cases e; exact .bl _
theorem opd_geI : OpD X (compareOp .GtE) bGeI := opd_I0 op_ge fun i j d e _ _ _ => by cases e; exact .bl _
/-! texts -/
def bS (g : Str → Str → Option D) : B2 := fun _ x y => match x, y with
  | .str i, .str j => g i j
  | _, _ => none
theorem opd_S {f : Value → Value → Sem Value} {C : Str → Str → Prop} {gv : Str → Str → V} {g : Str → Str → Option D} (h : OpR X f (fun x y H Q => ∃ i j, x = .str i ∧ y = .str j ∧ C i j ∧ Q (gv i j) H)) (hg : ∀ i j d, g i j = some d → C i j ∧ ∀ K H m, Rep K H m (gv i j) d) : OpD X f (bS g) :=
  ⟨_, h, fun H m st x y dx dy d Q r px py e k => by
    cases px with
    | str i =>
      cases py with
      | str j =>
        obtain ⟨c, p⟩ := hg i j d e
        exact ⟨i, j, rfl, rfl, c, k.go r (p _ _ _)⟩
      | _ => cases e
    | _ => cases py <;> cases e⟩
theorem opd_S0 {f : Value → Value → Sem Value} {gv : Str → Str → V} {g : Str → Str → Option D} (h : OpR X f (fun x y H Q => ∃ i j, x = .str i ∧ y = .str j ∧ Q (gv i j) H)) (hg : ∀ i j d, g i j = some d → ∀ K H m, Rep K H m (gv i j) d) : OpD X f (bS g) :=
  ⟨_, h, fun H m st x y dx dy d Q r px py e k => by
    cases px with
    | str i =>
      cases py with
      | str j => exact ⟨i, j, rfl, rfl, k.go r (hg i j d e _ _ _)⟩
      | _ => cases e
    | _ => cases py <;> cases e⟩
def bAddS : B2 := bS fun i j => if i.length + j.length ≤ 100000 then some (.str (i ++ j)) else none
theorem opd_addS : OpD X (binaryOp .Add) bAddS := opd_S op_add_str fun i j d e => by
  split at e
  · rename_i h
    cases e
    exact ⟨cap_le h, fun _ _ _ => .str _⟩
  · cases e
def bLtS : B2 := bS fun i j => some (.bl (decide (i.cps.toList < j.cps.toList)))
def bLeS : B2 := bS fun i j => some (.bl (!decide (j.cps.toList < i.cps.toList)))
def bGtS : B2 := bS fun i j => some (.bl (decide (j.cps.toList < i.cps.toList)))
def bGeS : B2 := bS fun i j => some (.bl (!decide (i.cps.toList < j.cps.toList)))
theorem opd_ltS : OpD X (compareOp .Lt) bLtS := opd_S0 op_lt_str fun i j d e _ _ _ => by cases e; exact .bl _
theorem opd_leS : OpD X (compareOp .LtE) bLeS := opd_S0 op_le_str fun i j d e _ _ _ => by cases e; exact .bl _
theorem opd_gtS : OpD X (compareOp .Gt) bGtS := opd_S0 op_gt_str fun i j d e _ _ _ => by cases e; exact .bl _
theorem opd_geS : OpD X (compareOp .GtE) bGeS := opd_S0 op_ge_str fun i j d e _ _ _ => by cases e; exact .bl _
/-- text * number -/
def timesS (x : Str) (n : Int) : Str := ⟨(List.replicate n.toNat x.cps).foldl (· ++ ·) #[]⟩
theorem timesS_len (x : Str) (n : Int) : (timesS x n).length = n.toNat * x.length := by
  have key : ∀ (k : Nat) (b : Array Nat), ((List.replicate k x.cps).foldl (· ++ ·) b).size = b.size + k * x.cps.size := by
    intro k
    induction k with
    | zero => intro b; simp
    | succ k ih =>
      intro b
      rw [List.replicate_succ, List.foldl_cons, ih, Array.size_append, Nat.succ_mul]
      omega
  show ((List.replicate n.toNat x.cps).foldl (· ++ ·) #[]).size = n.toNat * x.cps.size
  rw [key]
  simp
def bMulS : B2 := fun _ x y => match x, y with
  | .str a, .int n => if 2 ≤ n ∧ n ≤ 100 ∧ 1 ≤ a.length ∧ a.length ≤ 100 then some (.str (timesS a n)) else if 0 ≤ n ∧ n ≤ 100 ∧ a.length = 0 then some (.str a) else none
  | _, _ => none
theorem op_mulS : OpR X (binaryOp .Mult) (fun x y H Q => ∃ a n, x = .str a ∧ y = .int n ∧ ((2 ≤ n ∧ n ≤ 100 ∧ 1 ≤ a.length ∧ a.length ≤ 100 ∧ Q (.str (timesS a n)) H) ∨ (0 ≤ n ∧ n ≤ 100 ∧ a.length = 0 ∧ Q (.str a) H))) := by
  intro pins s σ H x y v u Q I rx ry h
  obtain ⟨a, n, rfl, rfl, h⟩ := h
  obtain ⟨t, rfl⟩ := rx
  obtain ⟨t', rfl⟩ := ry
  have two : (2 : Int) ^ 63 = 9223372036854775808 := by decide
  rcases h with ⟨h1, h2, h3, h4, q⟩ | ⟨h1, h2, h3, q⟩
  · have hmul : a.length * n.toNat ≤ 100 * 100 := Nat.mul_le_mul h4 (by omega)
    have hlen : (timesS a n).length ≤ sizeLine := by
      rw [timesS_len]
      exact cap_le (by rw [Nat.mul_comm]; omega)
    refine PySem.P.mul_str (by rw [decide_eq_false (by omega), decide_eq_false (by omega)]; rfl) (fun _ _ hb => ?_) (fun _ _ => ?_) ?_
    · have hd : (100 : Int) ≤ (2 ^ 63 - 1) / n := (Int.le_ediv_iff_mul_le (by omega)).mpr (by omega)
      omega
    · unfold Builtin.Str.tooLong
      exact decide_eq_false (Nat.not_lt.mpr (cap_le (by omega)))
    · rw [if_neg (by omega), if_neg (by
        intro z
        rcases Bool.or_eq_true_iff.mp z with z | z
        · have := eq_of_beq z
          omega
        · have := eq_of_beq z
          omega)]
      exact ⟨hlen, .str (timesS a n), H, I.tok _, ⟨_, rfl⟩, q⟩
  · by_cases hn : n < 1
    · refine PySem.P.mul_str_none hn (by omega) ⟨.str a, H, I.tok _, ⟨s.toks, ?_⟩, q⟩
      have : a = Str.empty := by
        cases a with
        | mk c =>
          have hc : c.size = 0 := h3
          have : c = #[] := Array.eq_empty_of_size_eq_zero hc
          rw [this]
          rfl
      rw [this]
    · refine PySem.P.mul_str (by rw [decide_eq_false (by omega), decide_eq_false (by omega)]; rfl) (fun _ hz => ?_) (fun _ hz => ?_) ?_
      · rw [h3] at hz
        simp at hz
      · rw [h3] at hz
        simp at hz
      · rw [if_neg hn, if_pos (by rw [h3]; simp)]
        exact ⟨.str a, H, I, ⟨_, rfl⟩, q⟩
theorem opd_mulS : OpD X (binaryOp .Mult) bMulS := ⟨_, op_mulS, fun H m st x y dx dy d Q r px py e k => by
  cases px with
  | str a =>
    cases py with
    | int n =>
      unfold bMulS at e
      dsimp only at e
      refine ⟨a, n, rfl, rfl, ?_⟩
      split at e
      · rename_i h
        cases e
        exact .inl ⟨h.1, h.2.1, h.2.2.1, h.2.2.2, k.go r (.str _)⟩
      · split at e
        · rename_i h
          cases e
          exact .inr ⟨h.1, h.2.1, h.2.2, k.go r (.str _)⟩
        · cases e
    | _ => cases e
  | _ => cases py <;> cases e⟩
/-! lists, tuples -/
/-- a list that is no locked one -/
def seqW (st : Store) : D → Option (List D)
  | .lst xs => some xs
  | .ob n => match st[n]? with
    | some (.lst xs) => some xs
    | _ => none
  | _ => none
theorem seqW_at {K : PySem.W.Frag} {m : Mp} {H : Hp} {st : Store} {v : V} {d : D} {xs : List D} (r : Rl K m H st) (p : Rep K H m v d) (e : seqW st d = some xs) : ∃ a vs, v = .ref a ∧ H a = some (.lst vs) ∧ RepL K H m vs xs := by
  cases p with
  | @lst a vs ds h1 hn h2 =>
    cases e
    exact ⟨a, vs, rfl, h1, h2⟩
  | @ob a n h1 =>
    unfold seqW at e
    dsimp only at e
    split at e
    · rename_i ys hy
      cases e
      obtain ⟨vs, q1, q2⟩ := r.ob n _ a hy h1
      exact ⟨a, vs, rfl, q1, q2⟩
    · cases e
  | _ => cases e
/-- a new list, a new tuple, that nobody changes -/
theorem PostV.newL {K : PySem.W.Frag} {m : Mp} {H : Hp} {Q : VK} {xs : List D} {st : Store} {vs : List V} (k : PostV K m H Rep Q (.lst xs) st) (r : Rl K m H st) (h : RepL K H m vs xs) : ∀ p, H p = none → Q (.ref p) (upd H p (.lst vs)) := fun p hp =>
  k _ _ m (Ext.laid hp) (r.laid hp) (.lst upd_same (r.fresh hp) (h.up (Ext.laid hp)))
theorem PostV.newT {K : PySem.W.Frag} {m : Mp} {H : Hp} {Q : VK} {xs : List D} {st : Store} {vs : List V} (k : PostV K m H Rep Q (.tup xs) st) (r : Rl K m H st) (h : RepL K H m vs xs) : ∀ p, H p = none → Q (.ref p) (upd H p (.tup vs)) := fun p hp =>
  k _ _ m (Ext.laid hp) (r.laid hp) (.tup (.inl ⟨.inl upd_same, r.fresh hp⟩) (h.up (Ext.laid hp)))
def bAddL : B2 := fun st x y => match seqW st x, seqW st y with
  | some xs, some ys => if xs.length + ys.length ≤ 100000 then some (.lst (xs ++ ys)) else none
  | _, _ => none
theorem opd_addL : OpD X (binaryOp .Add) bAddL := ⟨_, op_cat, fun H m st x y dx dy d Q r px py e k => by
  unfold bAddL at e
  split at e
  · rename_i xs ys hx hy
    split at e
    · rename_i hl
      cases e
      obtain ⟨a, vs, rfl, h1, h2⟩ := seqW_at r px hx
      obtain ⟨b, ws, rfl, g1, g2⟩ := seqW_at r py hy
      exact ⟨a, b, vs, ws, rfl, rfl, h1, g1, by rw [h2.length, g2.length]; exact cap_le hl, k.newL r (h2.append g2)⟩
    · cases e
  · cases e⟩
def bAddT : B2 := fun _ x y => match x, y with
  | .tup xs, .tup ys => if xs.length + ys.length ≤ 100000 then some (.tup (xs ++ ys)) else none
  | _, _ => none
theorem opd_addT : OpD X (binaryOp .Add) bAddT := ⟨_, op_catA, fun H m st x y dx dy d Q r px py e k => by
  cases px with
  | @tup a vs xs h1 h2 =>
    cases py with
    | @tup b ws ys g1 g2 =>
      unfold bAddT at e
      dsimp only at e
      split at e
      · rename_i hl
        cases e
        have key : RepL X.K H m (vs ++ ws) (xs ++ ys) := h2.append g2
        refine ⟨a, b, vs, ws, rfl, rfl, h1.sq, g1.sq, by rw [h2.length, g2.length]; exact cap_le hl, fun z => ?_, fun _ z => ?_, fun _ _ => k.newT r key⟩
        · subst z
          exact k.go r (.tup g1 key)
        · subst z
          rw [List.append_nil] at key
          exact k.go r (.tup h1 key)
      · cases e
    | _ => cases e
  | _ => cases py <;> cases e⟩
def bAdd : B2 := bOr bAddI (bOr bAddS (bOr bAddL bAddT))
theorem opd_add : OpD X (binaryOp .Add) bAdd := opd_addI.or (opd_addS.or (opd_addL.or opd_addT))
def bLt : B2 := bOr bLtI bLtS
def bLe : B2 := bOr bLeI bLeS
def bGt : B2 := bOr bGtI bGtS
def bGe : B2 := bOr bGeI bGeS
theorem opd_lt : OpD X (compareOp .Lt) bLt := opd_ltI.or opd_ltS
theorem opd_le : OpD X (compareOp .LtE) bLe := opd_leI.or opd_leS
theorem opd_gt : OpD X (compareOp .Gt) bGt := opd_gtI.or opd_gtS
theorem opd_ge : OpD X (compareOp .GtE) bGe := opd_geI.or opd_geS
/-! ### == -/
mutual
def py0 : D → Option PyData
  | .non => some .none
  | .bl b => some (.bool b)
  | .int i => some (.int i)
  | .str x => some (.str x)
  | .tup xs => (py0L xs).map .tuple
  | .lst xs => (py0L xs).map .list
  | .rd xs => (py0L xs).map .list
  | .dK _ _ => none
  | .dT _ _ => none
  | .ins _ _ _ => none
  | .exc _ _ _ => none
  | .cls _ => none
  | .ob _ => none
def py0L : List D → Option (List PyData)
  | [] => some []
  | x :: xs => match py0 x, py0L xs with
    | some a, some as => some (a :: as)
    | _, _ => none
end
/-- .. of a list of the store too -/
def pyS (st : Store) (d : D) : Option PyData := match seqL st d with
  | some xs => (py0L xs).map .list
  | none => py0 d
mutual
theorem Dp.of {K : PySem.W.Frag} {H : Hp} {m : Mp} : ∀ (d : D) (v : V) (p : PyData), Rep K H m v d → py0 d = some p → Dp K H v p ∧ p.plain = true
  | .non, _, _, h, e => by cases h; cases e; exact ⟨.non, rfl⟩
  | .bl b, _, _, h, e => by cases h; cases e; exact ⟨.bl b, rfl⟩
  | .int i, _, _, h, e => by cases h; cases e; exact ⟨.int i, rfl⟩
  | .str x, _, _, h, e => by cases h; cases e; exact ⟨.str x, rfl⟩
  | .tup ds, _, _, h, e => by
    cases h with
    | tup h1 h2 =>
      unfold py0 at e
      cases z : py0L ds with
      | none => rw [z] at e; cases e
      | some ps =>
        rw [z] at e
        cases e
        obtain ⟨q1, q2⟩ := DpAll.of ds _ ps h2 z
        exact ⟨.tup h1.sq q1, q2⟩
  | .lst ds, _, _, h, e => by
    cases h with
    | lst h1 hn h2 =>
      unfold py0 at e
      cases z : py0L ds with
      | none => rw [z] at e; cases e
      | some ps =>
        rw [z] at e
        cases e
        obtain ⟨q1, q2⟩ := DpAll.of ds _ ps h2 z
        exact ⟨.lst (.inl (.inl h1)) q1, q2⟩
  | .rd ds, _, _, h, e => by
    cases h with
    | rd h1 h2 =>
      unfold py0 at e
      cases z : py0L ds with
      | none => rw [z] at e; cases e
      | some ps =>
        rw [z] at e
        cases e
        obtain ⟨q1, q2⟩ := DpAll.of ds _ ps h2 z
        exact ⟨.lst h1.sq q1, q2⟩
  | .dK _ _, _, _, _, e => by cases e
  | .dT _ _, _, _, _, e => by cases e
  | .ins _ _ _, _, _, _, e => by cases e
  | .exc _ _ _, _, _, _, e => by cases e
  | .cls _, _, _, _, e => by cases e
  | .ob _, _, _, _, e => by cases e
theorem DpAll.of {K : PySem.W.Frag} {H : Hp} {m : Mp} : ∀ (ds : List D) (vs : List V) (ps : List PyData), RepL K H m vs ds → py0L ds = some ps → DpAll K H vs ps ∧ PyData.plainAll ps = true
  | [], _, _, h, e => by cases h; cases e; exact ⟨.nil, rfl⟩
  | d :: ds, _, _, h, e => by
    cases h with
    | cons h1 h2 =>
      unfold py0L at e
      split at e
      · rename_i a as z1 z2
        cases e
        obtain ⟨q1, q2⟩ := Dp.of d _ a h1 z1
        obtain ⟨q3, q4⟩ := DpAll.of ds _ as h2 z2
        refine ⟨.cons q1 q3, ?_⟩
        unfold PyData.plainAll
        rw [q2, q4]
        rfl
      · cases e
end
theorem Dp.ofS {K : PySem.W.Frag} {H : Hp} {m : Mp} {st : Store} {d : D} {v : V} {p : PyData} (r : Rl K m H st) (h : Rep K H m v d) (e : pyS st d = some p) : Dp K H v p ∧ p.plain = true := by
  unfold pyS at e
  split at e
  · rename_i xs hx
    cases z : py0L xs with
    | none => rw [z] at e; cases e
    | some ps =>
      rw [z] at e
      cases e
      obtain ⟨a, vs, rfl, h1, h2⟩ := seqL_at r h hx
      obtain ⟨q1, q2⟩ := DpAll.of xs vs ps h2 z
      exact ⟨.lst h1 q1, q2⟩
  · exact Dp.of d v p h e
def rEqP (K : PySem.W.Frag) (neg : Bool) : R2 := fun x y H Q => ∃ d e, Dp K H x d ∧ Dp K H y e ∧ d.plain = true ∧ e.plain = true ∧ min d.depth e.depth ≤ 60 ∧ Q (.bl (if neg then !PyData.eqv d e else PyData.eqv d e)) H
theorem op_eqP (hu : X.A.units + 64 < cLine) : OpR X (compareOp .Eq) (rEqP X.K false) := by
  intro pins s σ H x y v u Q I rx ry h
  obtain ⟨d, e, hd, he, sd, se, hm, q⟩ := h
  obtain ⟨as, r1⟩ := Dp.reads I d x v hd rx
  obtain ⟨bs, r2⟩ := Dp.reads I e y u he ry
  exact SeqAt.eq_plain r1 r2 sd se (by omega) ⟨.bl _, H, I, rfl, q⟩
theorem op_neP (hu : X.A.units + 64 < cLine) : OpR X (compareOp .NotEq) (rEqP X.K true) := by
  intro pins s σ H x y v u Q I rx ry h
  obtain ⟨d, e, hd, he, sd, se, hm, q⟩ := h
  obtain ⟨as, r1⟩ := Dp.reads I d x v hd rx
  obtain ⟨bs, r2⟩ := Dp.reads I e y u he ry
  exact SeqAt.ne_plain r1 r2 sd se (by omega) ⟨.bl _, H, I, rfl, q⟩
def eqD (st : Store) (x y : D) : Option Bool := match pyS st x, pyS st y with
  | some a, some b => if min a.depth b.depth ≤ 60 then some (PyData.eqv a b) else none
  | _, _ => none
def bEq : B2 := fun st x y => (eqD st x y).map .bl
def bNe : B2 := fun st x y => (eqD st x y).map fun b => .bl !b
theorem opd_eq (hu : X.A.units + 64 < cLine) : OpD X (compareOp .Eq) bEq := ⟨_, op_eqP hu, fun H m st x y dx dy d Q r px py e k => by
  unfold bEq eqD at e
  split at e
  · rename_i a b ha hb
    split at e
    · rename_i hm
      cases e
      obtain ⟨q1, q2⟩ := Dp.ofS r px ha
      obtain ⟨q3, q4⟩ := Dp.ofS r py hb
      exact ⟨a, b, q1, q3, q2, q4, hm, k.go r (.bl _)⟩
    · cases e
  · cases e⟩
theorem opd_ne (hu : X.A.units + 64 < cLine) : OpD X (compareOp .NotEq) bNe := ⟨_, op_neP hu, fun H m st x y dx dy d Q r px py e k => by
  unfold bNe eqD at e
  split at e
  · rename_i a b ha hb
    split at e
    · rename_i hm
      cases e
      obtain ⟨q1, q2⟩ := Dp.ofS r px ha
      obtain ⟨q3, q4⟩ := Dp.ofS r py hb
      exact ⟨a, b, q1, q3, q2, q4, hm, k.go r (.bl _)⟩
    · cases e
  · cases e⟩
theorem Ctx.hu {X : Cx} {W : WX} {k : Nat} {g : Bool} (c : Ctx X W k g) : X.A.units + 64 < cLine := by have := c.room.un; omega
end
end DX

/-! DX 7: subscripts, slices, displays, built-ins -/
namespace DX
open PySem PySem.Spec PyProof.Rows L2
variable [TB0]

section
variable {X : Cx} {W : WX} {a b e o : Expr} {fa fb fe fo : EF} {pos : Pos}
/-! ### o[i] -/
theorem RepL.atI {K : PySem.W.Frag} {H : Hp} {m : Mp} {vs : List V} {ds : List D} {i : Int} {d : D} (h : RepL K H m vs ds) (e : L2.atI ds i = some d) : ∃ v, L2.atI vs i = some v ∧ Rep K H m v d := by
  unfold L2.atI at e ⊢
  rw [h.length]
  cases z : L2.ixN ds.length i with
  | none => rw [z] at e; cases e
  | some j =>
    rw [z] at e
    exact h.get e
def ixD : B2 := fun st x y => match y with
  | .int i => match x with
    | .tup xs => L2.atI xs i
    | .str z => if z.length ≤ 100000 then (L2.atI z.cps.toList i).map fun c => .str ⟨#[c]⟩ else none
    | _ => match seqL st x with
      | some xs => L2.atI xs i
      | none => none
  | _ => none
theorem IxR.or {r1 r2 : R2} (h1 : IxR X r1) (h2 : IxR X r2) : IxR X (fun x y H Q => r1 x y H Q ∨ r2 x y H Q) :=
  fun _ _ _ _ _ _ _ _ _ _ _ I rx ry h hs => h.elim (fun z => h1 _ _ _ _ _ _ _ _ _ _ _ I rx ry z hs) (fun z => h2 _ _ _ _ _ _ _ _ _ _ _ I rx ry z hs)
theorem se_ix (ha : SE X W a fa) (hb : SE X W b fb) (hp : PlainIx b := by exact fun _ _ => rfl) : SE X W (.Subscript a b pos) (eOp ixD fa fb) := by
  obtain ⟨ta, pa, qa⟩ := ha
  obtain ⟨tb, pb, qb⟩ := hb
  refine ⟨_, pe_ix (IxR.or ix_list (IxR.or ix_tup ix_str)) pa pb hp, fun σ H ρ st m Q s rl h => qa σ H ρ st m _ s rl (h.mp fun x st1 v H1 m1 e1 r1 p1 h1 => qb σ H1 ρ st1 m1 _ (s.up e1) r1 (h1.mp fun y st2 w H2 m2 e2 r2 p2 h2 => ?_))⟩
  cases q : ixD st2 x y with
  | none => rw [q] at h2; exact h2.elim
  | some d =>
    rw [q] at h2
    have p1' := p1.up e2
    cases y with
    | int i =>
      cases p2
      unfold ixD at q
      dsimp only at q
      split at q
      · rename_i xs
        cases p1' with
        | @tup a vs _ g1 g2 =>
          obtain ⟨v, g3, g4⟩ := g2.atI q
          exact .inr (.inl ⟨a, vs, i, v, rfl, rfl, g1.sq, g3, h2.go r2 g4⟩)
      · rename_i z
        cases p1'
        split at q
        · rename_i hl
          cases g : L2.atI z.cps.toList i with
          | none => rw [g] at q; cases q
          | some c =>
            rw [g] at q
            cases q
            exact .inr (.inr ⟨z, i, c, rfl, rfl, cap_le hl, g, h2.go r2 (.str _)⟩)
        · cases q
      · split at q
        · rename_i xs hx
          obtain ⟨a, vs, rfl, g1, g2⟩ := seqL_at r2 p1' hx
          obtain ⟨v, g3, g4⟩ := g2.atI q
          exact .inl ⟨a, vs, i, v, rfl, rfl, g1, g3, h2.go r2 g4⟩
        · cases q
    | _ => cases q
/-! ### o[a:b] -/
abbrev PF := Sl → Store → Res (Option Int)
def RO : PySem.W.Frag → Hp → Mp → Option Int → Option Int → Prop := fun _ _ _ v a => v = a
structure SP (X : Cx) (W : WX) (e : Option Expr) (f : PF) : Prop where
  ex : ∃ t : TO, PO X e t ∧ ∀ σ H ρ st m Q, SR X.K H m σ ρ → Rl X.K m H st → Post X W m H σ RO Q (f ρ st) → t σ H Q
def pNo : PF := fun _ st => .ok none st
def pAt (fe : EF) : PF := fun ρ st => (fe ρ st).bind fun d st1 => match d with
  | .int i => .ok (some i) st1
  | _ => .bad
theorem sp_none : SP X W none pNo := ⟨_, po_none, fun σ H ρ st m Q s r h => h.go r rfl⟩
theorem sp_some (h : SE X W e fe) : SP X W (some e) (pAt fe) := by
  obtain ⟨t, p, q⟩ := h
  refine ⟨_, po_some p, fun σ H ρ st m Q s r h => q σ H ρ st m _ s r (h.mp fun d st1 v H1 m1 e1 r1 p1 h1 => ?_)⟩
  cases p1 with
  | int i => exact ⟨i, rfl, h1.go r1 rfl⟩
  | _ => exact h1.elim
def cutD (xs : List D) (lo hi : Option Int) : List D := (xs.drop (HT.sIx xs.length 0 lo)).take (HT.sIx xs.length xs.length hi - HT.sIx xs.length 0 lo)
def slD (st : Store) (x : D) (lo hi : Option Int) : Option D := match x with
  | .tup xs => some (.tup (cutD xs lo hi))
  | .str z => if z.length ≤ 100000 then some (.str (cutS z lo hi)) else none
  | _ => (seqL st x).map fun xs => .lst (cutD xs lo hi)
def eSl (fe : EF) (lo hi : PF) : EF := fun ρ st => (fe ρ st).bind fun x st1 => (lo ρ st1).bind fun i st2 => (hi ρ st2).bind fun j st3 => Res.of (slD st3 x i j) st3
theorem SlR.or {r1 r2 : V → Option Int → Option Int → Hp → VK → Prop} (h1 : SlR X r1) (h2 : SlR X r2) : SlR X (fun x lo hi H Q => r1 x lo hi H Q ∨ r2 x lo hi H Q) :=
  fun pins s σ H x v vl vu lo hi sl Q I rx hs pl pu h => h.elim (h1 pins s σ H x v vl vu lo hi sl Q I rx hs pl pu) (h2 pins s σ H x v vl vu lo hi sl Q I rx hs pl pu)
theorem RepL.cut {K : PySem.W.Frag} {H : Hp} {m : Mp} {vs : List V} {ds : List D} (h : RepL K H m vs ds) (lo hi : Option Int) : RepL K H m (cutV vs lo hi) (cutD ds lo hi) := by
  unfold cutV cutD
  rw [h.length]
  exact (h.drop _).take _
theorem se_sl {lo hi : Option Expr} {fl fh : PF} {p2 : Pos} (h : SE X W e fe) (hl : SP X W lo fl) (hh : SP X W hi fh) : SE X W (.Subscript e (.Slice lo hi none p2) pos) (eSl fe fl fh) := by
  obtain ⟨t, p, q⟩ := h
  obtain ⟨tl, pl, ql⟩ := hl
  obtain ⟨th, ph, qh⟩ := hh
  refine ⟨_, pe_slice (SlR.or sl_list (SlR.or sl_tupA sl_str)) p pl ph, fun σ H ρ st m Q s r h => q σ H ρ st m _ s r (h.mp fun x st1 v H1 m1 e1 r1 p1 h1 => ql σ H1 ρ st1 m1 _ (s.up e1) r1 (h1.mp fun i st2 vi H2 m2 e2 r2 p2 h2 => qh σ H2 ρ st2 m2 _ ((s.up e1).up e2) r2 (h2.mp fun j st3 vj H3 m3 e3 r3 p3 h3 => ?_)))⟩
  obtain rfl : vi = i := p2
  obtain rfl : vj = j := p3
  cases z : slD st3 x vi vj with
  | none => rw [z] at h3; exact h3.elim
  | some d =>
    rw [z] at h3
    have p1' := (p1.up e2).up e3
    unfold slD at z
    split at z
    · rename_i xs
      cases z
      cases p1' with
      | @tup a vs _ g1 g2 =>
        refine .inr (.inl ⟨a, vs, rfl, g1.sq, fun hw => ?_, fun _ => PostV.newT (show PostV X.K m3 H3 Rep Q _ st3 from h3) r3 (g2.cut vi vj)⟩)
        have hc : cutD xs vi vj = xs := by
          unfold cutD
          rw [← g2.length, hw.1, hw.2]
          simp [g2.length]
        rw [hc] at h3
        exact h3.go r3 (.tup g1 g2)
    · rename_i zz
      cases p1'
      split at z
      · rename_i hl
        cases z
        exact .inr (.inr ⟨zz, rfl, cap_le hl, h3.go r3 (.str _)⟩)
      · cases z
    · cases y : seqL st3 x with
      | none => rw [y] at z; cases z
      | some xs =>
        rw [y] at z
        cases z
        obtain ⟨a, vs, rfl, g1, g2⟩ := seqL_at r3 p1' y
        exact .inl ⟨a, vs, rfl, g1, PostV.newL (show PostV X.K m3 H3 Rep Q _ st3 from h3) r3 (g2.cut vi vj)⟩
/-! ### displays -/
def eTup (fa : AF) : EF := fun ρ st => (fa ρ st).bind fun xs st1 => if xs.length ≤ 100000 then .ok (.tup xs) st1 else .bad
def eLst (fa : AF) : EF := fun ρ st => (fa ρ st).bind fun xs st1 => if xs.length ≤ 100000 then .ok (.lst xs) st1 else .bad
/-- a list that will change: a new thing of the store -/
def eLstM (fa : AF) : EF := fun ρ st => (fa ρ st).bind fun xs st1 => if xs.length ≤ 100000 then .ok (.ob st1.length) (st1 ++ [.lst xs]) else .bad
theorem se_tup {es : List Expr} {f : AF} {x1 : Nat} (h : SA X W es f) : SE X W (.Tuple es x1 pos) (eTup f) := by
  obtain ⟨t, p, q⟩ := h
  refine ⟨_, pe_tup p, fun σ H ρ st m Q s r h => q σ H ρ st m _ s r (h.mp fun xs st1 vs H1 m1 e1 r1 p1 h1 => ?_)⟩
  split at h1
  · rename_i hl
    exact ⟨by rw [p1.length]; exact cap_le hl, PostV.newT (show PostV X.K m1 H1 Rep Q _ st1 from h1) r1 p1⟩
  · exact h1.elim
theorem se_lst {es : List Expr} {f : AF} (h : SA X W es f) : SE X W (.List es pos) (eLst f) := by
  obtain ⟨t, p, q⟩ := h
  refine ⟨_, pe_lst p, fun σ H ρ st m Q s r h => q σ H ρ st m _ s r (h.mp fun xs st1 vs H1 m1 e1 r1 p1 h1 => ?_)⟩
  split at h1
  · rename_i hl
    exact ⟨by rw [p1.length]; exact cap_le hl, PostV.newL (show PostV X.K m1 H1 Rep Q _ st1 from h1) r1 p1⟩
  · exact h1.elim
/-- a new list of the store -/
theorem PostV.pushO {K : PySem.W.Frag} {m : Mp} {H : Hp} {Q : VK} {st : Store} {o : HO} {u : O} (k : PostV K m H Rep Q (.ob st.length) (st ++ [u])) (r : Rl K m H st) {p : Addr} (hp : H p = none) (h : ORep K (upd H p o) (m.push p) p u) : Q (.ref p) (upd H p o) :=
  k _ _ _ (Ext.push hp) (r.push hp h) (.ob (by unfold Mp.push; rw [← r.len, List.getElem?_append_right (Nat.le_refl _), Nat.sub_self]; rfl))
theorem PostV.pushL {K : PySem.W.Frag} {m : Mp} {H : Hp} {Q : VK} {xs : List D} {st : Store} {vs : List V} (k : PostV K m H Rep Q (.ob st.length) (st ++ [.lst xs])) (r : Rl K m H st) (h : RepL K H m vs xs) : ∀ p, H p = none → Q (.ref p) (upd H p (.lst vs)) := fun p hp =>
  k.pushO r hp ⟨vs, upd_same, h.up (Ext.push hp)⟩
theorem se_lstM {es : List Expr} {f : AF} (h : SA X W es f) : SE X W (.List es pos) (eLstM f) := by
  obtain ⟨t, p, q⟩ := h
  refine ⟨_, pe_lst p, fun σ H ρ st m Q s r h => q σ H ρ st m _ s r (h.mp fun xs st1 vs H1 m1 e1 r1 p1 h1 => ?_)⟩
  split at h1
  · rename_i hl
    exact ⟨by rw [p1.length]; exact cap_le hl, PostV.pushL (show PostV X.K m1 H1 Rep Q _ _ from h1) r1 p1⟩
  · exact h1.elim
def keyOf : D → Option Key
  | .int i => some (.inl i)
  | .str x => some (.inr x)
  | _ => none
/-- {} ; {k: v} -/
def eD0 : EF := fun _ st => .ok (.dK [] []) st
def eD1 (fk fv : EF) : EF := fun ρ st => (fk ρ st).bind fun k st1 => (fv ρ st1).bind fun v st2 => match keyOf k with
  | some key => .ok (.dK [key] [v]) st2
  | none => .bad
theorem se_d0 : SE X W (.Dict [] [] pos) eD0 := ⟨_, pe_dnewK, fun σ H ρ st m Q s r h p hp =>
  h _ _ m (Ext.laid hp) (r.laid hp) (.dK (ks := []) (vs := []) (.inl upd_same) (r.fresh hp) rfl .nil)⟩
theorem Post.mpb {α α' β β' : Type} {m m0 : Mp} {H H0 : Hp} {σ : L2.St} {R : PySem.W.Frag → Hp → Mp → β → α → Prop} {R' : PySem.W.Frag → Hp → Mp → β' → α' → Prop} {Q : β → Hp → Prop} {Q' : β' → Hp → Prop} {r : Res α'} {f : α' → Store → Res α}
    (e0 : Ext m0 H0 m H) (h : Post X W m0 H0 σ R Q (r.bind f)) (k : ∀ a st v H1 m1, Ext m H m1 H1 → Rl X.K m1 H1 st → R' X.K H1 m1 v a → Post X W m0 H0 σ R Q (f a st) → Q' v H1) : Post X W m H σ R' Q' r := by
  cases r with
  | ok a st => exact fun v H1 m1 e r1 rp => k a st v H1 m1 e r1 rp h
  | exc c fs st => exact fun cls dc H1 m1 e => h cls dc H1 m1 (e0.trans e)
  | bad => exact h
theorem se_d1 (hk : SE X W a fa) (hv : SE X W b fb) : SE X W (.Dict [some a] [b] pos) (eD1 fa fb) := by
  obtain ⟨tk, pk, qk⟩ := hk
  obtain ⟨tv, pv, qv⟩ := hv
  refine ⟨_, pe_disp (pps_cons pk pv pps_nil) (by rfl) (by rfl) (fun z => by cases z) (by simp), fun σ H ρ st m Q s r h p hp => ?_⟩
  have r0 := r.hide (o := .dK []) hp
  have e0 : Ext m H (m.hide p) (upd H p (.dK [])) := Ext.hide hp
  have s0 := s.up e0
  show tk σ (upd H p (.dK [])) fun x H1 => tv σ H1 fun y H2 => _
  refine qk σ _ ρ st (m.hide p) _ s0 r0 (Post.mpb e0 h fun x st1 vx H1 m1 e1 r1 p1 h1 => qv σ H1 ρ st1 m1 _ (s0.up e1) r1 (Post.mpb (e0.trans e1) h1 fun y st2 vy H2 m2 e2 r2 p2 h2 => ?_))
  have e12 := e1.trans e2
  have e02 := e0.trans e12
  have hx : p ∈ m2.x := e12.exs p List.mem_cons_self
  have hm : p ∉ m2.m := e12.notin upd_same (r.free hp)
  have hH : H2 p = some (.dK []) := e12.old p _ upd_same (r.free hp) fun _ z => nomatch z
  cases z : keyOf x with
  | none => rw [z] at h2; exact h2.elim
  | some key =>
    rw [z] at h2
    refine ⟨hH, [(key, vy)], ?_, by simp, ?_⟩
    · cases x <;> first | cases z | skip
      · cases p1; rfl
      · cases p1; rfl
    · have e3 := e02.mut (o := .dK [(key, vy)]) hp
      have pv := ((Rep.hid (o := .dK [(key, vy)]) hx _ _ p2)).rel e3
      exact h2 (.ref p) _ (m2.rel m) e3.rel ((r2.hid hx hm).rel e3) (.dK (ks := [key]) (vs := [vy]) (.inl upd_same) ⟨hm, fun z => r.trx p z hp⟩ rfl (.cons pv .nil))
/-! ### built-ins -/
inductive Ty where
  | str | int | bool | tuple | list | dict
  deriving DecidableEq
def Ty.name : Ty → String
  | .str => "str" | .int => "int" | .bool => "bool" | .tuple => "tuple" | .list => "list" | .dict => "dict"
inductive Tg where
  | none | bool | int | str | tuple | list | dict
  deriving DecidableEq
def Tg.name : Tg → String
  | .none => "NoneType" | .bool => "bool" | .int => "int" | .str => "str" | .tuple => "tuple" | .list => "list" | .dict => "dict"
def Ty.has : Ty → Tg → Bool
  | .str, .str => true
  | .int, .int => true
  | .int, .bool => true
  | .bool, .bool => true
  | .tuple, .tuple => true
  | .list, .list => true
  | .dict, .dict => true
  | _, _ => false
theorem kit_tab : ∀ (a : Tg) (t : Ty), kitB a.name t.name = some (t.has a) := by
  intro a t
  cases a <;> cases t <;> decide +kernel
def tagOf (st : Store) : D → Option Tg
  | .non => some .none
  | .bl _ => some .bool
  | .int _ => some .int
  | .str _ => some .str
  | .tup _ => some .tuple
  | .lst _ => some .list
  | .rd _ => some .list
  | .dK _ _ => some .dict
  | .dT _ _ => none
  | .ins _ _ _ => none
  | .exc _ _ _ => none
  | .cls _ => none
  | .ob n => match st[n]? with
    | some (.lst _) => some .list
    | some (.dK _ _) => some .dict
    | _ => none
theorem tag_at {K : PySem.W.Frag} {m : Mp} {H : Hp} {st : Store} {v : V} {d : D} {t : Tg} (r : Rl K m H st) (p : Rep K H m v d) (e : tagOf st d = some t) : TyX K H v (.type t.name) := by
  cases p with
  | non => cases e; exact .base .non
  | bl b => cases e; exact .base (.bl b)
  | int i => cases e; exact .base (.int i)
  | str x => cases e; exact .base (.str x)
  | tup h1 _ =>
    cases e
    rcases h1 with ⟨h | ⟨o, h⟩, _⟩ | ⟨o, its, n, h, hc, _⟩
    · exact .base (.tup h)
    · exact .fTuple h
    · exact .kTuple h hc
  | lst h1 _ _ => cases e; exact .base (.lst h1)
  | rd h1 _ =>
    cases e
    rcases h1 with ⟨h | ⟨o, h⟩, _⟩ | ⟨o, its, n, h, hc, _⟩
    · exact .base (.lst h)
    · exact .base (.frz h)
    · exact .kList h hc
  | dK h1 _ _ _ =>
    cases e
    rcases h1 with h | ⟨o, h⟩
    · exact .base (.dK h)
    · exact .fDict h
  | dT _ _ _ _ => cases e
  | ins _ _ _ _ _ => cases e
  | exc _ _ _ _ _ => cases e
  | cls _ => cases e
  | @ob a n h1 =>
    unfold tagOf at e
    dsimp only at e
    split at e
    · rename_i ys hy
      cases e
      obtain ⟨vs, q1, q2⟩ := r.ob n _ a hy h1
      exact .base (.lst q1)
    · rename_i ks ys hy
      cases e
      obtain ⟨vs, q1, q2⟩ := r.ob n _ a hy h1
      exact .base (.dK q1)
    · cases e
def isD (t : Ty) (st : Store) (d : D) : Option D := (tagOf st d).map fun a => .bl (t.has a)
def eIs (t : Ty) (fe : EF) : EF := fun ρ st => (fe ρ st).bind fun d st1 => Res.of (isD t st1 d) st1
theorem se_is (t : Ty) {p p2 : Pos} {x : Str} (hx : x = Str.ofString t.name) (hg : Gl X "isinstance") (hm : X.mg "isinstance" = none) (hg2 : Gl X x) (hm2 : X.mg x = none) (hb : bootBuiltins x = some (.type t.name)) (h : SE X W e fe)
    (hn : x ≠ ("__name__" : Str) := by decide) (hd : (x == ("__debug__" : Str)) = false := by decide) (h3 : starEach [e, .Name x p2] X.env = (false, eval e X.env) :: starEach [.Name x p2] X.env := by rfl) (h5 : starEach [.Name x p2] X.env = (false, eval (.Name x p2) X.env) :: starEach [] X.env := by rfl) (h4 : (backTo pos (starEach [.Name x p2] X.env)).any (·.1) = false := by rfl) :
    SE X W (.Call (.Name "isinstance" p) [e, .Name x p2] [] pos) (eIs t fe) := by
  obtain ⟨te, pe, q⟩ := h
  have pt : PE X (.Name x p2) (tC (.ty t.name)) := pe_bltn hg2 hm2 hb rfl hn hd
  refine ⟨_, pe_callB call_isi hg hm (by decide +kernel) (pa_cons pe (pa_cons pt pa_nil h5) h3) (by decide) (by decide) h3 h4, fun σ H ρ st m Q s r h => q σ H ρ st m _ s r (h.mp fun d st1 v H1 m1 e1 r1 p1 h1 => ?_)⟩
  unfold isD at h1
  cases z : tagOf st1 d with
  | none => rw [z] at h1; exact h1.elim
  | some a =>
    rw [z] at h1
    exact ⟨v, .ty t.name, .type a.name, .type t.name, t.has a, rfl, .ty _, tag_at r1 p1 z, kit_ty (kit_tab a t), h1.go r1 (.bl _)⟩
/-- a call of one argument -/
def one (f : Store → D → Option D) : Store → List D → Option D := fun st ds => match ds with
  | [d] => f st d
  | _ => none
def two (f : Store → D → D → Option D) : Store → List D → Option D := fun st ds => match ds with
  | [a, b] => f st a b
  | _ => none
theorem calld_one {f : Value} {g : Store → D → Option D} {r : List V → Hp → VK → Prop} (h : CallR X f r) (hr : ∀ (H : Hp) (m : Mp) (st : Store) (v : V) (a d : D) (Q : VK), Rl X.K m H st → Rep X.K H m v a → g st a = some d → PostV X.K m H Rep Q d st → r [v] H Q) : CallD X f (one g) :=
  ⟨r, h, fun H m st vs ds d Q rl p e k => by
    cases p with
    | nil => cases e
    | cons p1 p2 =>
      cases p2 with
      | nil => exact hr H m st _ _ d Q rl p1 e k
      | cons _ _ => cases e⟩
theorem calld_two {f : Value} {g : Store → D → D → Option D} {r : List V → Hp → VK → Prop} (h : CallR X f r) (hr : ∀ (H : Hp) (m : Mp) (st : Store) (v w : V) (a b d : D) (Q : VK), Rl X.K m H st → Rep X.K H m v a → Rep X.K H m w b → g st a b = some d → PostV X.K m H Rep Q d st → r [v, w] H Q) : CallD X f (two g) :=
  ⟨r, h, fun H m st vs ds d Q rl p e k => by
    cases p with
    | nil => cases e
    | cons p1 p2 =>
      cases p2 with
      | nil => cases e
      | cons p2 p3 =>
        cases p3 with
        | nil => exact hr H m st _ _ _ _ d Q rl p1 p2 e k
        | cons _ _ => cases e⟩
def lenD (st : Store) (d : D) : Option D := match d with
  | .str x => if x.length ≤ 100000 then some (.int x.length) else none
  | .tup xs => some (.int xs.length)
  | _ => (seqL st d).map fun xs => .int xs.length
theorem calld_len : CallD X (.builtin "len") (one lenD) := calld_one call_len fun H m st v a d Q r p e k => by
  unfold lenD at e
  split at e
  · rename_i x
    cases p
    split at e
    · rename_i hl
      cases e
      exact ⟨_, _, rfl, ⟨cap_le hl, rfl⟩, k.go r (.int _)⟩
    · cases e
  · rename_i xs
    cases e
    cases p with
    | @tup a vs _ g1 g2 => exact ⟨_, vs.length, rfl, .inr ⟨vs, g1.sq, rfl⟩, k.go r (by rw [g2.length]; exact .int _)⟩
  · cases z : seqL st a with
    | none => rw [z] at e; cases e
    | some xs =>
      rw [z] at e
      cases e
      obtain ⟨p, vs, rfl, g1, g2⟩ := seqL_at r p z
      exact ⟨_, vs.length, rfl, .inl ⟨vs, g1, rfl⟩, k.go r (by rw [g2.length]; exact .int _)⟩
def absD (_ : Store) (d : D) : Option D := match d with
  | .int i => some (.int (if i < 0 then -i else i))
  | _ => none
theorem calld_abs : CallD X (.builtin "abs") (one absD) := calld_one call_abs fun H m st v a d Q r p e k => by
  cases p with
  | int i => cases e; exact ⟨i, rfl, k.go r (.int _)⟩
  | _ => cases e
def intD (_ : Store) (d : D) : Option D := match d with
  | .int i => some (.int i)
  | .bl b => some (.int (if b = true then 1 else 0))
  | _ => none
theorem calld_int : CallD X (.type "int") (one intD) := calld_one call_int1 fun H m st v a d Q r p e k => by
  cases p with
  | int i => cases e; exact .inl ⟨i, rfl, k.go r (.int _)⟩
  | bl b => cases e; exact .inr ⟨b, rfl, k.go r (.int _)⟩
  | _ => cases e
def max2D (_ : Store) (a b : D) : Option D := match a, b with
  | .int i, .int j => some (.int (if j > i then j else i))
  | _, _ => none
theorem calld_max2 (hc : X.calm = true) : CallD X (.builtin "max") (two max2D) := calld_two (call_max2 hc) fun H m st v w a b d Q r p p2 e k => by
  cases p with
  | int i =>
    cases p2 with
    | int j => cases e; exact ⟨i, j, rfl, k.go r (.int _)⟩
    | _ => cases e
  | _ => cases p2 <;> cases e
def min2D (_ : Store) (a b : D) : Option D := match a, b with
  | .int i, .int j => some (.int (if j < i then j else i))
  | _, _ => none
theorem calld_min2 (hc : X.calm = true) : CallD X (.builtin "min") (two min2D) := calld_two (call_min2 hc) fun H m st v w a b d Q r p p2 e k => by
  cases p with
  | int i =>
    cases p2 with
    | int j => cases e; exact ⟨i, j, rfl, k.go r (.int _)⟩
    | _ => cases e
  | _ => cases p2 <;> cases e
def boolsOf : List D → Option (List Bool)
  | [] => some []
  | .bl b :: r => (boolsOf r).map (b :: ·)
  | _ => none
theorem RepL.bools {K : PySem.W.Frag} {m : Mp} {H : Hp} : ∀ {vs : List V} {ds : List D} {bs : List Bool}, RepL K H m vs ds → boolsOf ds = some bs → vs = bs.map .bl
  | _, [], _, h, e => by cases h; cases e; rfl
  | _, d :: ds, bs, h, e => by
    cases h with
    | cons h1 h2 =>
      cases d with
      | bl b =>
        unfold boolsOf at e
        cases z : boolsOf ds with
        | none => rw [z] at e; cases e
        | some cs =>
          rw [z] at e
          cases e
          cases h1
          rw [RepL.bools h2 z]
          rfl
      | _ => cases e
def allD (st : Store) (d : D) : Option D := (seqL st d).bind fun xs => (boolsOf xs).map fun bs => .bl (bs.all id)
def anyD (st : Store) (d : D) : Option D := (seqL st d).bind fun xs => (boolsOf xs).map fun bs => .bl (bs.any id)
theorem calld_all (hc : X.calm = true) : CallD X (.builtin "all") (one allD) := calld_one (cr_all hc) fun H m st v a d Q r p e k => by
  unfold allD at e
  cases z : seqL st a with
  | none => rw [z] at e; cases e
  | some xs =>
    rw [z] at e
    cases z2 : boolsOf xs with
    | none =>
      have e' : (boolsOf xs).map (fun bs => D.bl (bs.all id)) = some d := e
      rw [z2] at e'; cases e'
    | some bs =>
      have e' : (boolsOf xs).map (fun bs => D.bl (bs.all id)) = some d := e
      rw [z2] at e'
      cases e'
      obtain ⟨q, vs, rfl, g1, g2⟩ := seqL_at r p z
      exact ⟨q, bs, rfl, (RepL.bools g2 z2) ▸ g1, k.go r (.bl _)⟩
theorem calld_any (hc : X.calm = true) : CallD X (.builtin "any") (one anyD) := calld_one (cr_any hc) fun H m st v a d Q r p e k => by
  unfold anyD at e
  cases z : seqL st a with
  | none => rw [z] at e; cases e
  | some xs =>
    rw [z] at e
    cases z2 : boolsOf xs with
    | none =>
      have e' : (boolsOf xs).map (fun bs => D.bl (bs.any id)) = some d := e
      rw [z2] at e'; cases e'
    | some bs =>
      have e' : (boolsOf xs).map (fun bs => D.bl (bs.any id)) = some d := e
      rw [z2] at e'
      cases e'
      obtain ⟨q, vs, rfl, g1, g2⟩ := seqL_at r p z
      exact ⟨q, bs, rfl, (RepL.bools g2 z2) ▸ g1, k.go r (.bl _)⟩
/-- repr of a flag -/
def repB (_ : Store) (d : D) : Option D := match d with
  | .bl b => some (.str (if b then "True" else "False"))
  | _ => none
theorem calld_repB : CallD X (.builtin "repr") (one repB) := calld_one (r := fun xs H Q => ∃ b, xs = [.bl b] ∧ Q (.str (if b then "True" else "False")) H) (by
  intro pins s σ H xs us Q I r h
  obtain ⟨b, rfl, q⟩ := h
  obtain ⟨u, rfl, hu⟩ := vals1 r
  cases hu
  exact PySem.P.repr_of_bool ⟨.str _, H, I.tok _, ⟨_, rfl⟩, q⟩) fun H m st v a d Q r p e k => by
  cases p with
  | bl b => cases e; exact ⟨b, rfl, k.go r (.str _)⟩
  | _ => cases e
/-! ### texts' methods -/
def strsOf : List D → Option (List Str)
  | [] => some []
  | .str b :: r => (strsOf r).map (b :: ·)
  | _ => none
theorem RepL.strs {K : PySem.W.Frag} {m : Mp} {H : Hp} : ∀ {vs : List V} {ds : List D} {bs : List Str}, RepL K H m vs ds → strsOf ds = some bs → vs = bs.map .str
  | _, [], _, h, e => by cases h; cases e; rfl
  | _, d :: ds, bs, h, e => by
    cases h with
    | cons h1 h2 =>
      cases d with
      | str b =>
        unfold strsOf at e
        cases z : strsOf ds with
        | none => rw [z] at e; cases e
        | some cs =>
          rw [z] at e
          cases e
          cases h1
          rw [RepL.strs h2 z]
          rfl
      | _ => cases e
def itemsOf (st : Store) : D → Option (List D)
  | .tup xs => some xs
  | d => seqL st d
def joinD (st : Store) (x : Str) (b : D) : Option D := match itemsOf st b with
  | some xs => match strsOf xs with
    | some ys => if (ys.map fun y => y.length).sum + ys.length * x.length ≤ 100000 then some (.str (Txt.join x ys)) else none
    | none => none
  | none => none
def eJoin (fo fe : EF) : EF := fun ρ st => (fo ρ st).bind fun x st1 => match x with
  | .str z => (fe ρ st1).bind fun y st2 => Res.of (joinD st2 z y) st2
  | _ => .bad
theorem se_join {apos : Pos} (ho : SE X W o fo) (h : SE X W e fe) (h1 : starEach [e] X.env = [(false, eval e X.env)] := by rfl) (h2 : attributeBase o "join" X.env (eval o X.env) = eval o X.env := by rfl) (h3 : (apos.endLine == pos.line) = true := by rfl) :
    SE X W (.Call (.Attribute o "join" apos) [e] [] pos) (eJoin fo fe) := by
  obtain ⟨t, p, q⟩ := ho
  obtain ⟨t2, p2, q2⟩ := h
  refine ⟨_, pe_join p p2 h1 h2 h3, fun σ H ρ st m Q s r h => q σ H ρ st m _ s r (h.mp fun x st1 v H1 m1 e1 r1 p1 h1 => ?_)⟩
  cases p1 with
  | str x =>
    refine ⟨⟨x, rfl⟩, q2 σ H1 ρ st1 m1 _ (s.up e1) r1 (h1.mp fun y st2 w H2 m2 e2 r2 p2 h2 => ?_)⟩
    cases hd : joinD st2 x y with
    | none => rw [hd] at h2; exact h2.elim
    | some d =>
      rw [hd] at h2
      unfold joinD at hd
      split at hd
      · rename_i xs hx
        split at hd
        · rename_i ys hy
          split at hd
          · rename_i hl
            cases hd
            unfold itemsOf at hx
            split at hx
            · cases hx
              cases p2 with
              | @tup a vs _ g1 g2 => exact ⟨x, a, ys, rfl, rfl, .inr ((RepL.strs g2 hy) ▸ g1.sq), Nat.le_trans hl (by decide), h2.go r2 (.str _)⟩
            · obtain ⟨a, vs, rfl, g1, g2⟩ := seqL_at r2 p2 hx
              exact ⟨x, a, ys, rfl, rfl, .inl ((RepL.strs g2 hy) ▸ g1), Nat.le_trans hl (by decide), h2.go r2 (.str _)⟩
          · cases hd
        · cases hd
      · cases hd
  | _ => exact h1.elim
def upperD (_ : Store) (d : D) : Option D := match d with
  | .str x => if x.length ≤ 100000 then some (.str (Txt.upper x)) else none
  | _ => none
theorem se_upper {apos : Pos} (ho : SE X W o fo) (h2 : attributeBase o "upper" X.env (eval o X.env) = eval o X.env := by rfl) (h3 : (apos.endLine == pos.line) = true := by rfl) :
    SE X W (.Call (.Attribute o "upper" apos) [] [] pos) (eUn upperD fo) := by
  obtain ⟨t, p, q⟩ := ho
  refine ⟨_, pe_upper p h2 h3, fun σ H ρ st m Q s r h => q σ H ρ st m _ s r (h.mp fun x st1 v H1 m1 e1 r1 p1 h1 => ?_)⟩
  cases hd : upperD st1 x with
  | none => rw [hd] at h1; exact h1.elim
  | some d =>
    rw [hd] at h1
    cases p1 with
    | str x =>
      unfold upperD at hd
      dsimp only at hd
      split at hd
      · rename_i hl
        cases hd
        exact ⟨⟨x, rfl⟩, x, rfl, rfl, Nat.le_trans hl (by decide), h1.go r1 (.str _)⟩
      · cases hd
    | _ => cases hd
end
end DX

/-! DX 8: the built-ins' names, the law's end -/
namespace DX
open PySem PySem.Spec PyProof.Rows L2
variable [TB0]
def bMul : B2 := bOr bMulI bMulS
theorem opd_mul {X : Cx} : OpD X (binaryOp .Mult) bMul := opd_mulI.or opd_mulS
theorem bb_len : bootBuiltins "len" = some (.builtin "len") := by decide +kernel
theorem bb_abs : bootBuiltins "abs" = some (.builtin "abs") := by decide +kernel
theorem bb_max : bootBuiltins "max" = some (.builtin "max") := by decide +kernel
theorem bb_min : bootBuiltins "min" = some (.builtin "min") := by decide +kernel
theorem bb_all : bootBuiltins "all" = some (.builtin "all") := by decide +kernel
theorem bb_any : bootBuiltins "any" = some (.builtin "any") := by decide +kernel
theorem bb_repr : bootBuiltins "repr" = some (.builtin "repr") := by decide +kernel
theorem bb_sorted : bootBuiltins "sorted" = some (.builtin "sorted") := by decide +kernel
theorem bb_sum : bootBuiltins "sum" = some (.builtin "sum") := by decide +kernel
theorem bb_str : bootBuiltins "str" = some (.type "str") := by decide +kernel
theorem bb_int : bootBuiltins "int" = some (.type "int") := by decide +kernel
theorem bb_bool : bootBuiltins "bool" = some (.type "bool") := by decide +kernel
theorem bb_tuple : bootBuiltins "tuple" = some (.type "tuple") := by decide +kernel
theorem bb_list : bootBuiltins "list" = some (.type "list") := by decide +kernel
theorem bb_dict : bootBuiltins "dict" = some (.type "dict") := by decide +kernel
section
variable {X : Cx} {W : WX} {a e : Expr} {fa fe : EF} {pos : Pos}
theorem se_gI {x : Str} {i : Int} (hg : Gl X x) (hm : ∃ t, X.mg x = some (.int i t)) (hd : (x == ("__debug__" : Str)) = false := by decide) : SE X W (.Name x pos) (eC (.int i)) := by
  obtain ⟨t, hm⟩ := hm
  exact ⟨_, pe_glob (v := .int i) hg hm ⟨_, rfl⟩ hd, fun σ H ρ st m Q s r h => h.go r (.int i)⟩
theorem se_gS {x y : Str} (hg : Gl X x) (hm : ∃ t, X.mg x = some (.str y t)) (hd : (x == ("__debug__" : Str)) = false := by decide) : SE X W (.Name x pos) (eC (.str y)) := by
  obtain ⟨t, hm⟩ := hm
  exact ⟨_, pe_glob (v := .str y) hg hm ⟨_, rfl⟩ hd, fun σ H ρ st m Q s r h => h.go r (.str y)⟩
def negD (_ : Store) (d : D) : Option D := match d with
  | .int i => some (.int (-i))
  | _ => none
theorem se_neg (h : SE X W a fa) : SE X W (.UnaryOp .USub a pos) (eUn negD fa) := by
  obtain ⟨t, p, q⟩ := h
  refine ⟨_, pe_un un_neg p, fun σ H ρ st m Q s r h => q σ H ρ st m _ s r (h.mp fun x st1 v H1 m1 e1 r1 p1 h1 => ?_)⟩
  cases p1 with
  | int i => exact ⟨i, rfl, h1.go r1 (.int _)⟩
  | _ => exact h1.elim
def isNoneD (_ : Store) (d : D) : Option D := match d with
  | .non => some (.bl true)
  | _ => some (.bl false)
def notNoneD (_ : Store) (d : D) : Option D := match d with
  | .non => some (.bl false)
  | _ => some (.bl true)
theorem se_isN {j} {pos' : Pos} (h : SE X W a fa) : SE X W (.Compare a [.Is] [.Constant .none j pos'] pos) (eUn isNoneD fa) := by
  obtain ⟨t, p, q⟩ := h
  refine ⟨_, pe_cmpR op_isN p pe_non (by rfl), fun σ H ρ st m Q s r h => q σ H ρ st m _ s r (h.mp fun x st1 v H1 m1 e1 r1 p1 h1 => ⟨rfl, ?_⟩)⟩
  cases p1 <;> exact h1.go r1 (.bl _)
theorem se_notN {j} {pos' : Pos} (h : SE X W a fa) : SE X W (.Compare a [.IsNot] [.Constant .none j pos'] pos) (eUn notNoneD fa) := by
  obtain ⟨t, p, q⟩ := h
  refine ⟨_, pe_cmpR op_notN p pe_non (by rfl), fun σ H ρ st m Q s r h => q σ H ρ st m _ s r (h.mp fun x st1 v H1 m1 e1 r1 p1 h1 => ⟨rfl, ?_⟩)⟩
  cases p1 <;> exact h1.go r1 (.bl _)
/-- comparisons as tests -/
theorem test_read {t : TE} (h : ∀ σ H ρ st m Q, SR X.K H m σ ρ → Rl X.K m H st → Post X W m H σ Rep Q (fe ρ st) → t σ H Q) : ∀ σ H ρ st m Q, SR X.K H m σ ρ → Rl X.K m H st → Post X W m H σ RB Q (tV fe ρ st) → tTest t σ H Q :=
  fun σ H ρ st m Q s r h' => h σ H ρ st m _ s r (h'.mp fun x st1 v H1 m1 e1 r1 p1 h1 => by
    cases x with
    | bl k =>
      cases p1
      exact ⟨k, rfl, h1.go r1 rfl⟩
    | _ => exact h1.elim)
theorem op_read {b : Expr} {fb : EF} {f : Value → Value → Sem Value} {o : B2} {r : R2} {ta tb : TE} (hro : ∀ (H : Hp) (m : Mp) (st : Store) (x y : V) (dx dy d : D) (Q : VK), Rl X.K m H st → Rep X.K H m x dx → Rep X.K H m y dy → o st dx dy = some d → PostV X.K m H Rep Q d st → r x y H Q)
    (qa : ∀ σ H ρ st m Q, SR X.K H m σ ρ → Rl X.K m H st → Post X W m H σ Rep Q (fa ρ st) → ta σ H Q) (qb : ∀ σ H ρ st m Q, SR X.K H m σ ρ → Rl X.K m H st → Post X W m H σ Rep Q (fb ρ st) → tb σ H Q) :
    ∀ σ H ρ st m Q, SR X.K H m σ ρ → Rl X.K m H st → Post X W m H σ Rep Q (eOp o fa fb ρ st) → tOp r ta tb σ H Q :=
  fun σ H ρ st m Q s rl h => qa σ H ρ st m _ s rl (h.mp fun x st1 v H1 m1 e1 r1 p1 h1 => qb σ H1 ρ st1 m1 _ (s.up e1) r1 (h1.mp fun y st2 w H2 m2 e2 r2 p2 h2 => by
    cases q : o st2 x y with
    | none => rw [q] at h2; exact h2.elim
    | some d => rw [q] at h2; exact hro H2 m2 st2 v w x y d Q r2 (p1.up e2) p2 q h2))
theorem st_cmp {b : Expr} {fb : EF} {op : CmpOp} {o : B2} (ho : OpD X (compareOp op) o) (ha : SE X W a fa) (hb : SE X W b fb) (hm : behindInMarks op b = false := by exact nomark _) : STt X W (.Compare a [op] [b] pos) (tV (eOp o fa fb)) := by
  obtain ⟨r, hr, hro⟩ := ho
  obtain ⟨ta, pa, qa⟩ := ha
  obtain ⟨tb, pb, qb⟩ := hb
  exact ⟨_, pt_cmpR hr pa pb hm, test_read (op_read (b := b) (f := compareOp op) hro qa qb)⟩
theorem st_chain {b c : Expr} {fb fc : EF} {op op' : CmpOp} {o o' : B2} (ho : OpD X (compareOp op) o) (ho' : OpD X (compareOp op') o') (ha : SE X W a fa) (hb : SE X W b fb) (hc : SE X W c fc) (hm : lastMarks [op, op'] [b, c] = false := by rfl) :
    STt X W (.Compare a [op, op'] [b, c] pos) (tV (eChain o o' fa fb fc)) := by
  obtain ⟨r, hr, hro⟩ := ho
  obtain ⟨r', hr', hro'⟩ := ho'
  obtain ⟨ta, pa, qa⟩ := ha
  obtain ⟨tb, pb, qb⟩ := hb
  obtain ⟨tc, pc, qc⟩ := hc
  refine ⟨_, pt_chain hr hr' pa pb pc hm, test_read fun σ H ρ st m Q s rl h => qa σ H ρ st m _ s rl (h.mp fun x st1 v H1 m1 e1 r1 p1 h1 => qb σ H1 ρ st1 m1 _ (s.up e1) r1 (h1.mp fun y st2 w H2 m2 e2 r2 p2 h2 => ?_))⟩
  cases q : o st2 x y with
  | none => rw [q] at h2; exact h2.elim
  | some d =>
    rw [q] at h2
    refine hro H2 m2 st2 v w x y d _ r2 (p1.up e2) p2 q fun z H3 m3 e3 r3 p3 => ?_
    cases d with
    | bl k =>
      cases p3
      refine ⟨k, rfl, ?_⟩
      cases k with
      | true =>
        rw [if_pos rfl]
        refine qc σ H3 ρ st2 m3 _ (((s.up e1).up e2).up e3) r3 ((h2.up e3).mp fun y' st4 w' H4 m4 e4 r4 p4 h4 => ?_)
        cases q' : o' st4 y y' with
        | none => rw [q'] at h4; exact h4.elim
        | some d' => rw [q'] at h4; exact hro' H4 m4 st4 w w' y y' d' Q r4 ((p2.up e3).up e4) p4 q' h4
      | false =>
        rw [if_neg Bool.false_ne_true]
        exact (h2.up e3).go r3 (.bl false)
    | _ => exact h2.elim
theorem st_isN {j} {pos' : Pos} (h : SE X W a fa) : STt X W (.Compare a [.Is] [.Constant .none j pos'] pos) (tV (eUn isNoneD fa)) := by
  obtain ⟨t, p, q⟩ := h
  refine ⟨_, pt_cmpR op_isN p pe_non (by rfl), test_read fun σ H ρ st m Q s r h => q σ H ρ st m _ s r (h.mp fun x st1 v H1 m1 e1 r1 p1 h1 => ⟨rfl, ?_⟩)⟩
  cases p1 <;> exact h1.go r1 (.bl _)
theorem st_notN {j} {pos' : Pos} (h : SE X W a fa) : STt X W (.Compare a [.IsNot] [.Constant .none j pos'] pos) (tV (eUn notNoneD fa)) := by
  obtain ⟨t, p, q⟩ := h
  refine ⟨_, pt_cmpR op_notN p pe_non (by rfl), test_read fun σ H ρ st m Q s r h => q σ H ρ st m _ s r (h.mp fun x st1 v H1 m1 e1 r1 p1 h1 => ⟨rfl, ?_⟩)⟩
  cases p1 <;> exact h1.go r1 (.bl _)
end
theorem cx_false {P : Program} {w : World} {H : Hp} {s s' : Shared} {e : Value} (h : L2.CX P w [] H s (fun _ _ _ => False) e s') : False := by
  obtain ⟨_, _, _, _, _, _, _, _, _, _, _, _, z⟩ := h
  exact z
end DX

/-! DX C: own classes: instances made, their attributes, properties, methods, special methods -/
namespace DX
open PySem PySem.Spec PyProof.Rows L2
variable [TB0]

/-- the first that means something -/
def eAlt (f g : EF) : EF := fun ρ st => match f ρ st with
  | .bad => g ρ st
  | r => r
/-- a class's name, attributes -/
def insOf (st : Store) : D → Option (String × List Str × List D)
  | .ins c fs ds => some (c, fs, ds)
  | .ob n => match st[n]? with
    | some (.ins c fs ds) => some (c, fs, ds)
    | _ => none
  | _ => none
theorem ClAt.eq {K : PySem.W.Frag} {c : String} {C C' : Addr} (h : ClAt K c C) (h' : ClAt K c C') : C = C' := by
  unfold ClAt at h h'
  rw [h] at h'
  injection h' with z
  injection z with z
  injection z
theorem ins_at {K : PySem.W.Frag} {m : Mp} {H : Hp} {st : Store} {v : V} {d : D} {c : String} {fs : List Str} {ds : List D} (r : Rl K m H st) (p : Rep K H m v d) (e : insOf st d = some (c, fs, ds)) :
    ∃ a C dx vs, v = .ref a ∧ ClAt K c C ∧ H a = some (.ins C dx (fs.zip vs)) ∧ fs.length = vs.length ∧ RepL K H m vs ds := by
  cases p with
  | @ins a C dx _ _ vs _ hc h1 hn hl h2 =>
    cases e
    exact ⟨a, C, dx, vs, rfl, hc, h1, hl, h2⟩
  | @ob a n h1 =>
    unfold insOf at e
    dsimp only at e
    split at e
    · rename_i c' fs' ds' hs
      cases e
      obtain ⟨C, dx, vs, hc, q1, hl, q2⟩ := r.ob n _ a hs h1
      exact ⟨a, C, dx, vs, rfl, hc, q1, hl, q2⟩
    · cases e
  | _ => cases e
/-- .. of the class c -/
def insIs (c : String) (st : Store) (d : D) : Option (List Str × List D) := match insOf st d with
  | some (c', fs, ds) => if c' = c then some (fs, ds) else none
  | none => none
theorem insIs_at {K : PySem.W.Frag} {m : Mp} {H : Hp} {st : Store} {v : V} {d : D} {c : String} {C : Addr} {fs : List Str} {ds : List D} (hC : ClAt K c C) (r : Rl K m H st) (p : Rep K H m v d) (e : insIs c st d = some (fs, ds)) :
    ∃ a dx vs, v = .ref a ∧ H a = some (.ins C dx (fs.zip vs)) ∧ fs.length = vs.length ∧ RepL K H m vs ds := by
  unfold insIs at e
  split at e
  · rename_i c' fs' ds' h
    split at e
    · rename_i hc
      cases e
      obtain ⟨a, C', dx, vs, h0, h1, h2, h3, h4⟩ := ins_at r p h
      rw [hc] at h1
      rw [hC.eq h1]
      exact ⟨a, dx, vs, h0, h2, h3, h4⟩
    · cases e
  · cases e
def eFld (c : String) (f : Str) (fe : EF) : EF := fun ρ st => (fe ρ st).bind fun d st1 => match insIs c st1 d with
  | some (fs, ds) => Res.of ((fs.zip ds).lookup f) st1
  | none => .bad
/-- a property: its getter lets nothing out -/
def eProp (c : String) (F : FF) (fe : EF) : EF := fun ρ st => (fe ρ st).bind fun d st1 => match insIs c st1 d with
  | some _ => match F [d] st1 with
    | .ok r st2 => .ok r st2
    | _ => .bad
  | none => .bad
def eMeth (c : String) (m : Str) (F : FF) (fo : EF) (fa : AF) : EF := fun ρ st => (fo ρ st).bind fun d st1 => match insIs c st1 d with
  | some (fs, _) => if m ∈ fs then .bad else (fa ρ st1).bind fun xs st2 => F (d :: xs) st2
  | none => .bad
/-- a new instance: its __init__, then it stands still -/
noncomputable def fNew (c : String) (F : FF) : FF := fun xs st => frzR fzD st (match F (.ob st.length :: xs) (st ++ [.ins c [] []]) with
  | .ok .non st2 => .ok (.ob st.length) st2
  | .exc cn fs st2 => .exc cn fs st2
  | _ => .bad)
/-- .. and goes on to change -/
def fNewM (c : String) (F : FF) : FF := fun xs st => match F (.ob st.length :: xs) (st ++ [.ins c [] []]) with
  | .ok .non st2 => .ok (.ob st.length) st2
  | .exc cn fs st2 => .exc cn fs st2
  | _ => .bad
/-- a classmethod -/
def eCMeth (c : String) (F : FF) (fa : AF) : EF := fun ρ st => (fa ρ st).bind fun xs st1 => F (.cls c :: xs) st1
/-- cls(..), cls in the slot i -/
def eCallCls (c : String) (i : Nat) (F : FF) (fa : AF) : EF := fun ρ st => match ρ[i]? with
  | some (some (.cls c')) => if c' = c then (fa ρ st).bind F else .bad
  | _ => .bad
def aStar (fe : EF) (fr : AF) : AF := fun ρ st => (fe ρ st).bind fun d st1 => match itemsOf st1 d with
  | some xs => (fr ρ st1).bind fun ys st2 => .ok (xs ++ ys) st2
  | none => .bad
theorem zip_none {m : Str} : ∀ (gs : List Str) (ws : List V), m ∉ gs → (gs.zip ws).lookup m = none
  | [], _, _ => by simp
  | _ :: _, [], _ => by simp
  | y :: ys, w :: ws, hm => by
    rw [List.zip_cons_cons, List.lookup_cons, beq_eq_false_iff_ne.mpr (fun z => hm (by rw [z]; exact List.mem_cons_self))]
    exact zip_none ys ws fun z => hm (List.mem_cons_of_mem _ z)
section
variable {X : Cx} {W : WX} {e o : Expr} {fe fo : EF} {pos : Pos} {k j : Nat} {g g' : Bool} {c : String} {C : Addr} {F : FF}
theorem se_alt {f f' : EF} (h : SE X W e f) (h' : SE X W e f') : SE X W e (eAlt f f') := by
  obtain ⟨t, p, q⟩ := h
  obtain ⟨t', p', q'⟩ := h'
  refine ⟨fun σ H Q => t σ H Q ∨ t' σ H Q, ⟨fun pins s σ H Q I z => z.elim (p.run pins s σ H Q I) (p'.run pins s σ H Q I)⟩, fun σ H ρ st m Q s r z => ?_⟩
  unfold eAlt at z
  cases y : f ρ st with
  | bad => rw [y] at z; exact .inr (q' σ H ρ st m Q s r z)
  | ok d st1 => rw [y] at z; exact .inl (q σ H ρ st m Q s r (by rw [y]; exact z))
  | exc cn fs st1 => rw [y] at z; exact .inl (q σ H ρ st m Q s r (by rw [y]; exact z))
theorem se_fld {f : Str} (hC : ClAt X.K c C) (hc : Cls X.K C) (hn : NoAttr X.K C f) (h : SE X W e fe) (hb : attributeBase e f X.env (eval e X.env) = eval e X.env := by rfl) : SE X W (.Attribute e f pos) (eFld c f fe) := by
  obtain ⟨t, p, q⟩ := h
  refine ⟨_, pe_fld p hb, fun σ H ρ st m Q s r h => q σ H ρ st m _ s r (h.mp fun d st1 v H1 m1 e1 r1 p1 h1 => ?_)⟩
  cases z : insIs c st1 d with
  | none => rw [z] at h1; exact h1.elim
  | some w =>
    obtain ⟨fs, ds⟩ := w
    rw [z] at h1
    dsimp only at h1
    obtain ⟨a, dx, vs, rfl, ha, hl, hv⟩ := insIs_at hC r1 p1 z
    cases y : (fs.zip ds).lookup f with
    | none => rw [y] at h1; exact h1.elim
    | some d' =>
      rw [y] at h1
      obtain ⟨v', hv', pv⟩ := hv.look y
      exact ⟨a, C, dx, _, v', rfl, ha, hc, hn, hv', h1.go r1 pv⟩
theorem se_prop {f : Str} {p g : Addr} {fd : FuncData} {ps : List Str} (hC : ClAt X.K c C) (hc : Cls X.K C) (hp : PropOf X.K C f p g) (G : FnOk X.prog X.w X.K X.mg X.base (L2.CX X.prog X.w) j g fd ps (spOf X.K F)) (hb : Binds X.K fd ps []) (cx : Ctx X W k g') (h : SE X W e fe) (hj : j + 1 ≤ k := by decide)
    (hab : attributeBase e f X.env (eval e X.env) = eval e X.env := by rfl) : SE X W (.Attribute e f pos) (eProp c F fe) := by
  obtain ⟨t, pe, q⟩ := h
  refine ⟨_, pe_prop pe hc hp G (cx.room.mono hj) hb .nil passL hab, fun σ H ρ st m Q s r h => q σ H ρ st m _ s r (h.mp fun d st1 v H1 m1 e1 r1 p1 h1 => ?_)⟩
  cases z : insIs c st1 d with
  | none => rw [z] at h1; exact h1.elim
  | some w =>
    obtain ⟨fs, ds⟩ := w
    rw [z] at h1
    dsimp only at h1
    obtain ⟨a, dx, vs, rfl, ha, hl, hv⟩ := insIs_at hC r1 p1 z
    refine ⟨a, dx, _, rfl, ha, [d], st1, m1, .cons p1 .nil, r1, ?_⟩
    cases y : F [d] st1 with
    | ok r2 st2 => rw [y] at h1; exact h1
    | exc cn fs st2 => rw [y] at h1; exact h1.elim
    | bad => rw [y] at h1; exact h1.elim
/-- o.m(e, ..) -/
theorem se_meth {m : Str} {f : Addr} {apos : Pos} {es : List Expr} {fa : AF} {pl : Sem Bool} (hC : ClAt X.K c C) (hc : Cls X.K C) (hm : Meth X.K C m f) (G : FnD X.prog X.w X.K X.mg X.base j g f F) (cx : Ctx X W k g') (ho : SE X W o fo) (ha : SA X W (e :: es) fa) (hj : j ≤ k := by decide) (hgg : g = true → g' = true := by decide)
    (hst : starEach (e :: es) X.env = (false, eval e X.env) :: starEach es X.env := by rfl) (hpl : (backTo pos (starEach es X.env)).any (·.1) = false := by rfl)
    (ht : eval (.Call (.Attribute o m apos) (e :: es) [] pos) X.env = (eval o X.env >>= fun ov => standAt apos.atName >>= fun _ => holding [ov] (getMethod ov m pl) >>= fun z => callWith pos z.1 z.2 (backTo pos (starEach (e :: es) X.env)) (backToKw pos (keywordEach [] X.env))) := by rfl) :
    SE X W (.Call (.Attribute o m apos) (e :: es) [] pos) (eMeth c m F fo fa) := by
  obtain ⟨t, pe, q⟩ := ho
  obtain ⟨ta, pa, qa⟩ := ha
  refine ⟨fun σ H Q => t σ H fun x H1 => ∃ a dx fs, x = .ref a ∧ H1 a = some (.ins C dx fs) ∧ fs.lookup m = none ∧ ta σ H1 fun vs H2 => spOf X.K F (.ref a :: vs) H2 Q (WE W σ), ⟨fun pins s σ H Q I hq => ?_⟩, fun σ H ρ st mm Q s r h => q σ H ρ st mm _ s r (h.mp fun d st1 v H1 m1 e1 r1 p1 h1 => ?_)⟩
  · refine PySem.W.methodCall_KW (pl := pl) (thn (pe.run pins s σ H _ I hq) fun uo s1 ⟨xo, H1, I1, ro, a, dx, fs, ex, ea, el, q1⟩ => ?_) ht
    cases ex
    cases ro
    refine getmeth_ok I1 ea hc hm el ?_
    refine PySem.W.callWith_K (first := [.ref a]) (h₀ := X.base) I1.ok.mod.kin hm.kp (thn (pa.run pos pins s1 σ H1 _ I1 q1) fun ua s2 ⟨va, H2, I2, ra, q2⟩ => ⟨I2.kIn, ?_⟩) hst hpl
    exact run_fnD (us := .ref a :: ua) (vs := .ref a :: va) G (cx.room.mono hj) (fun z => cx.gd (hgg z)) (passAt cx.tk σ) I2 (.cons rfl ra) q2
  · cases z : insIs c st1 d with
    | none => rw [z] at h1; exact h1.elim
    | some w =>
      obtain ⟨fs, ds⟩ := w
      rw [z] at h1
      dsimp only at h1
      obtain ⟨a, dx, vs, rfl, ha, hl, hv⟩ := insIs_at hC r1 p1 z
      split at h1
      · exact h1.elim
      · rename_i hno
        refine ⟨a, dx, _, rfl, ha, ?_, qa σ H1 ρ st1 m1 _ (s.up e1) r1 (h1.mp fun xs st2 us H2 m2 e2 r2 p2 h2 => ⟨d :: xs, st2, m2, .cons (p1.up e2) p2, r2, post_F h2⟩)⟩
        exact zip_none fs vs hno
/-- o.m() -/
theorem se_meth0 {m : Str} {f : Addr} {apos : Pos} {pl : Sem Bool} (hC : ClAt X.K c C) (hc : Cls X.K C) (hm : Meth X.K C m f) (G : FnD X.prog X.w X.K X.mg X.base j g f F) (cx : Ctx X W k g') (ho : SE X W o fo) (hj : j ≤ k := by decide) (hgg : g = true → g' = true := by decide)
    (ht : eval (.Call (.Attribute o m apos) [] [] pos) X.env = (eval o X.env >>= fun ov => standAt apos.atName >>= fun _ => holding [ov] (getMethod ov m pl) >>= fun z => callWith pos z.1 z.2 (backTo pos (starEach [] X.env)) (backToKw pos (keywordEach [] X.env))) := by rfl) :
    SE X W (.Call (.Attribute o m apos) [] [] pos) (eMeth c m F fo aNil) := by
  obtain ⟨t, pe, q⟩ := ho
  refine ⟨fun σ H Q => t σ H fun x H1 => ∃ a dx fs, x = .ref a ∧ H1 a = some (.ins C dx fs) ∧ fs.lookup m = none ∧ spOf X.K F [.ref a] H1 Q (WE W σ), ⟨fun pins s σ H Q I hq => ?_⟩, fun σ H ρ st mm Q s r h => q σ H ρ st mm _ s r (h.mp fun d st1 v H1 m1 e1 r1 p1 h1 => ?_)⟩
  · refine PySem.W.methodCall_KW (pl := pl) (thn (pe.run pins s σ H _ I hq) fun uo s1 ⟨xo, H1, I1, ro, a, dx, fs, ex, ea, el, q1⟩ => ?_) ht
    cases ex
    cases ro
    refine getmeth_ok I1 ea hc hm el ?_
    exact PySem.W.callWith_K0 (first := [.ref a]) I1.kIn hm.kp (run_fnD (us := [.ref a]) (vs := [.ref a]) G (cx.room.mono hj) (fun z => cx.gd (hgg z)) (passAt cx.tk σ) I1 (.cons rfl .nil) q1)
  · cases z : insIs c st1 d with
    | none => rw [z] at h1; exact h1.elim
    | some w =>
      obtain ⟨fs, ds⟩ := w
      rw [z] at h1
      dsimp only at h1
      obtain ⟨a, dx, vs, rfl, ha, hl, hv⟩ := insIs_at hC r1 p1 z
      split at h1
      · exact h1.elim
      · rename_i hno
        refine ⟨a, dx, _, rfl, ha, ?_, [d], st1, m1, .cons p1 .nil, r1, post_F h1⟩
        exact zip_none fs vs hno
/-! ### new instances -/
theorem run_new {f : Addr} {pins : List (Addr × Obj)} {σ : L2.St} {H : Hp} {s : Shared} {Q : VK} {us : List Value} {vs : List V} {E : XK} (M : Mk X.K C f) (G : FnD X.prog X.w X.K X.mg X.base j false f F) (hr : Room (j + 1) X.A) (hx : PassesAt (L2.CX X.prog X.w) X σ E) (I : Inv X pins σ H s) (r : Vals vs us)
    (h : ∀ x dx, H x = none → H dx = none → dx ≠ x → spOf X.K F (.ref x :: vs) (upd (upd H dx (.own x)) x (.ins C dx [])) (fun v H2 => v = .non ∧ Q (.ref x) H2) E) : wpAny (model X.prog X.w) X.A (call (.ref C) us) (EP X pins σ Q) X.xe s := by
  have J := Inv.made (C := C) I
  have hn := h (s.heap.objs.size + 1) s.heap.objs.size (I.hok.fresh (Nat.le_succ _)) (I.hok.fresh (Nat.le_refl _)) (Nat.ne_of_lt (Nat.lt_succ_self _))
  have rs : Vals (.ref (s.heap.objs.size + 1) :: vs) (.ref (s.heap.objs.size + 1) :: us) := .cons rfl r
  refine wpAny_call (make_map (f := f) I.kIn M.makes M.init (beq_iff_eq.mp M.fn) (codeAny_mono (G.run _ X.stack _ _ _ _ _ E (hr.make C us []) (fun z => Bool.noConfusion z) (J.env0.make C us []) rs hn) fun res s2 hq => ?_))
  cases res with
  | error ex => exact hx pins _ _ ex s2 J hq
  | ok fl =>
    cases fl with
    | ret u =>
      obtain ⟨y, H3, I3, ry, ey, q3⟩ := J.after hq
      subst ey
      exact ⟨ry, ⟨.ref (s.heap.objs.size + 1), H3, I3, rfl, q3⟩⟩
    | next => exact hq.elim
    | brk => exact hq.elim
    | cont => exact hq.elim
/-- the new instance is a thing of the store -/
theorem made_at {m : Mp} {H : Hp} {st : Store} {x dx : Addr} (hC : ClAt X.K c C) (r : Rl X.K m H st) (hx : H x = none) (hd : H dx = none) (hne : dx ≠ x) :
    Ext m H (m.push x) (upd (upd H dx (.own x)) x (.ins C dx [])) ∧ Rl X.K (m.push x) (upd (upd H dx (.own x)) x (.ins C dx [])) (st ++ [.ins c [] []]) := by
  have hx' : upd H dx (.own x) x = none := by rw [upd_ne hne.symm]; exact hx
  exact ⟨(Ext.laid hd).trans (Ext.push hx'), (r.laid hd).push hx' ⟨C, dx, [], hC, upd_same, rfl, .nil⟩⟩
theorem fNewM_ok {m : Mp} {H : Hp} {st : Store} {xs : List D} {vs : List V} {Q : VK} {E : XK} (hC : ClAt X.K c C) (r : Rl X.K m H st) (p : RepL X.K H m vs xs) (h : PostF X.K m H Q E (fNewM c F xs st)) :
    ∀ x dx, H x = none → H dx = none → dx ≠ x → spOf X.K F (.ref x :: vs) (upd (upd H dx (.own x)) x (.ins C dx [])) (fun v H2 => v = .non ∧ Q (.ref x) H2) E := by
  intro x dx hx hd hne
  obtain ⟨e1, r1⟩ := made_at (c := c) hC r hx hd hne
  have hx1 : (m.push x).m[st.length]? = some x := by
    unfold Mp.push
    rw [← r.len, List.getElem?_append_right (Nat.le_refl _), Nat.sub_self]
    rfl
  refine ⟨.ob st.length :: xs, _, _, .cons (.ob hx1) (p.up e1), r1, ?_⟩
  unfold fNewM at h
  cases z : F (.ob st.length :: xs) (st ++ [.ins c [] []]) with
  | ok d st2 =>
    rw [z] at h
    cases d with
    | non =>
      intro v H2 m2 e2 r2 p2
      cases p2
      have hp2 : m2.m[st.length]? = some x := by
        obtain ⟨t, ht⟩ := e2.pre
        rw [← ht, List.getElem?_append_left (List.getElem?_eq_some_iff.mp hx1).1]
        exact hx1
      exact ⟨rfl, h (.ref x) H2 m2 (e1.trans e2) r2 (.ob hp2)⟩
    | _ => exact h.elim
  | exc cn fs st2 =>
    rw [z] at h
    exact fun cls dc H2 m2 e2 => h cls dc H2 m2 (e1.trans e2)
  | bad => rw [z] at h; exact h.elim
theorem fNew_eq : fNew c F = frz (fNewM c F) := by
  funext xs st
  unfold fNew frz fNewM
  rfl
theorem fNew_ok {m : Mp} {H : Hp} {st : Store} {xs : List D} {vs : List V} {Q : VK} {E : XK} (hC : ClAt X.K c C) (r : Rl X.K m H st) (p : RepL X.K H m vs xs) (h : PostF X.K m H Q E (fNew c F xs st)) :
    ∀ x dx, H x = none → H dx = none → dx ≠ x → spOf X.K F (.ref x :: vs) (upd (upd H dx (.own x)) x (.ins C dx [])) (fun v H2 => v = .non ∧ Q (.ref x) H2) E := by
  rw [fNew_eq] at h
  exact fNewM_ok hC r p (frz_up r h)
/-- C(e, ..) -/
theorem se_makeM {x : Str} {f : Addr} {p : Pos} {es : List Expr} {fa : AF} (hC : ClAt X.K c C) (M : Mk X.K C f) (G : FnD X.prog X.w X.K X.mg X.base j false f F) (cx : Ctx X W k g') (hg : Gl X x) (hm : X.mg x = some (.ref C)) (ha : SA X W (e :: es) fa) (hj : j + 1 ≤ k := by decide)
    (h2 : (x == ("__debug__" : Str)) = false := by decide) (h3 : starEach (e :: es) X.env = (false, eval e X.env) :: starEach es X.env := by rfl) (h4 : (backTo pos (starEach es X.env)).any (·.1) = false := by rfl) :
    SE X W (.Call (.Name x p) (e :: es) [] pos) (eCall (fNewM c F) fa) := by
  obtain ⟨t, pa, q⟩ := ha
  refine ⟨fun σ H Q => t σ H fun vs H1 => ∀ x dx, H1 x = none → H1 dx = none → dx ≠ x → spOf X.K F (.ref x :: vs) (upd (upd H1 dx (.own x)) x (.ins C dx [])) (fun v H2 => v = .non ∧ Q (.ref x) H2) (WE W σ), ⟨fun pins s σ H Q I hq => ?_⟩,
    fun σ H ρ st m Q s r h => q σ H ρ st m _ s r (h.mp fun ds st1 vs H1 m1 e1 r1 p1 h1 => fNewM_ok hC r1 p1 (post_F h1))⟩
  refine wpAny_Call_Name_kw (ld_glob I hg hm ?_ h2)
  exact PySem.W.callWith_K (h₀ := X.base) I.ok.mod.kin M.kp (thn (pa.run pos pins s σ H _ I hq) fun ua s2 ⟨va, H2, I2, ra, q2⟩ => ⟨I2.kIn, run_new M G (cx.room.mono hj) (passAt cx.tk σ) I2 ra q2⟩) h3 h4
theorem se_make {x : Str} {f : Addr} {p : Pos} {es : List Expr} {fa : AF} (hC : ClAt X.K c C) (M : Mk X.K C f) (G : FnD X.prog X.w X.K X.mg X.base j false f F) (cx : Ctx X W k g') (hg : Gl X x) (hm : X.mg x = some (.ref C)) (ha : SA X W (e :: es) fa) (hj : j + 1 ≤ k := by decide)
    (h2 : (x == ("__debug__" : Str)) = false := by decide) (h3 : starEach (e :: es) X.env = (false, eval e X.env) :: starEach es X.env := by rfl) (h4 : (backTo pos (starEach es X.env)).any (·.1) = false := by rfl) :
    SE X W (.Call (.Name x p) (e :: es) [] pos) (eCall (fNew c F) fa) := by
  obtain ⟨t, pa, q⟩ := ha
  refine ⟨fun σ H Q => t σ H fun vs H1 => ∀ x dx, H1 x = none → H1 dx = none → dx ≠ x → spOf X.K F (.ref x :: vs) (upd (upd H1 dx (.own x)) x (.ins C dx [])) (fun v H2 => v = .non ∧ Q (.ref x) H2) (WE W σ), ⟨fun pins s σ H Q I hq => ?_⟩,
    fun σ H ρ st m Q s r h => q σ H ρ st m _ s r (h.mp fun ds st1 vs H1 m1 e1 r1 p1 h1 => fNew_ok hC r1 p1 (post_F h1))⟩
  refine wpAny_Call_Name_kw (ld_glob I hg hm ?_ h2)
  exact PySem.W.callWith_K (h₀ := X.base) I.ok.mod.kin M.kp (thn (pa.run pos pins s σ H _ I hq) fun ua s2 ⟨va, H2, I2, ra, q2⟩ => ⟨I2.kIn, run_new M G (cx.room.mono hj) (passAt cx.tk σ) I2 ra q2⟩) h3 h4
/-- *e -/
theorem sa_star {es : List Expr} {fr : AF} {p : Pos} (h : SE X W e fe) (hr : SA X W es fr) (hs : starEach (.Starred e p :: es) X.env = (true, eval e X.env) :: starEach es X.env := by rfl) : SA X W (.Starred e p :: es) (aStar fe fr) := by
  obtain ⟨t, pe, q⟩ := h
  obtain ⟨tr, pr, qr⟩ := hr
  refine ⟨_, StX.pa_star pe pr hs, fun σ H ρ st m Q s r h => q σ H ρ st m _ s r (h.mp fun d st1 v H1 m1 e1 r1 p1 h1 => ?_)⟩
  cases z : itemsOf st1 d with
  | none => rw [z] at h1; exact h1.elim
  | some xs =>
    rw [z] at h1
    have key : ∃ a vs, v = .ref a ∧ (SqT X.K H1 a vs ∨ SqL X.K H1 a vs) ∧ RepL X.K H1 m1 vs xs := by
      unfold itemsOf at z
      split at z
      · cases z
        cases p1 with
        | @tup a vs _ g1 g2 => exact ⟨a, vs, rfl, .inl g1.sq, g2⟩
      · obtain ⟨a, vs, rfl, g1, g2⟩ := seqL_at r1 p1 z
        exact ⟨a, vs, rfl, .inr g1, g2⟩
    obtain ⟨a, vs, rfl, hsq, hv⟩ := key
    exact ⟨a, vs, rfl, hsq, qr σ H1 ρ st1 m1 _ (s.up e1) r1 (h1.mp fun ys st2 ws H2 m2 e2 r2 p2 h2 => h2.go r2 ((hv.up e2).append p2))⟩
/-- cls(e, .., *y), cls a parameter that holds the class -/
theorem se_callCls {x : Str} {i : Nat} {f : Addr} {p : Pos} {es : List Expr} {fa : AF} (hC : ClAt X.K c C) (M : Mk X.K C f) (G : FnD X.prog X.w X.K X.mg X.base j false f F) (cx : Ctx X W k g') (ha : SA X W (e :: es) fa) (hN : X.N[i]? = some x := by rfl) (hv : Vis X.env.scope x := by first | exact Or.inl rfl | exact Or.inr (Or.inl rfl) | exact Or.inr (Or.inr rfl)) (hj : j + 1 ≤ k := by decide)
    (hd : (x == ("__debug__" : Str)) = false := by decide) (hcd : (x == ("__classdict__" : Str)) = false := by decide) (h3 : starEach (e :: es) X.env = (false, eval e X.env) :: starEach es X.env := by rfl) (h4 : (backTo pos (starEach es X.env)).any (·.1) = true := by rfl) :
    SE X W (.Call (.Name x p) (e :: es) [] pos) (eCallCls c i (fNew c F) fa) := by
  obtain ⟨t, pa, q⟩ := ha
  refine ⟨fun σ H Q => σ[i]? = some (some (.ref C)) ∧ t σ H fun vs H1 => ∀ x dx, H1 x = none → H1 dx = none → dx ≠ x → spOf X.K F (.ref x :: vs) (upd (upd H1 dx (.own x)) x (.ins C dx [])) (fun v H2 => v = .non ∧ Q (.ref x) H2) (WE W σ), ⟨fun pins s σ H Q I hq => ?_⟩, fun σ H ρ st m Q s r h => ?_⟩
  · refine wpAny_Call_Name_kw (thn ((pe_var (pos := p) (i := i) hN hv hd hcd).run pins s σ H (fun v H1 => v = .ref C ∧ H1 = H) I ⟨_, hq.1, rfl, rfl⟩) fun u s1 ⟨v, H1, I1, r1, ev, eH⟩ => ?_)
    subst ev eH
    cases r1
    exact PySem.W.callWith_S2 (h₀ := X.base) I1.ok.mod.kin M.kp (thn (pa.run pos pins s1 σ _ _ I1 hq.2) fun ua s2 ⟨va, H2, I2, ra, q2⟩ => ⟨I2.kIn, run_new M G (cx.room.mono hj) (passAt cx.tk σ) I2 ra q2⟩) h3 h4
  · unfold eCallCls at h
    split at h
    · rename_i c' hs
      split at h
      · rename_i hcc
        subst hcc
        obtain ⟨v, hv', pv⟩ := s.get i _ hs
        cases pv with
        | cls hc' =>
          rw [hC.eq hc']
          rw [← hC.eq hc']
          exact ⟨by rw [hC.eq hc']; exact hv', q σ H ρ st m _ s r (h.mp fun ds st1 vs H1 m1 e1 r1 p1 h1 => fNew_ok hC r1 p1 (post_F h1))⟩
      · exact h.elim
    · exact h.elim
/-- C.m(e, ..), m a classmethod of C -/
theorem se_cmeth {x m : Str} {mc : Value} {pp f : Addr} {p apos : Pos} {es : List Expr} {fa : AF} {pl : Sem Bool} (hC : ClAt X.K c C) (R : ClX.CRead X.K C mc) (T : ClX.CMet X.K C mc m pp f) (G : FnD X.prog X.w X.K X.mg X.base j false f F) (cx : Ctx X W k g') (hg : Gl X x) (hm : X.mg x = some (.ref C)) (ha : SA X W (e :: es) fa) (hj : j ≤ k := by decide)
    (h2 : (x == ("__debug__" : Str)) = false := by decide) (h3 : starEach (e :: es) X.env = (false, eval e X.env) :: starEach es X.env := by rfl) (h4 : (backTo pos (starEach es X.env)).any (·.1) = false := by rfl)
    (ht : eval (.Call (.Attribute (.Name x p) m apos) (e :: es) [] pos) X.env = (eval (.Name x p) X.env >>= fun ov => standAt apos.atName >>= fun _ => holding [ov] (getMethod ov m pl) >>= fun z => callWith pos z.1 z.2 (backTo pos (starEach (e :: es) X.env)) (backToKw pos (keywordEach [] X.env))) := by rfl) :
    SE X W (.Call (.Attribute (.Name x p) m apos) (e :: es) [] pos) (eCMeth c F fa) := by
  obtain ⟨t, pa, q⟩ := ha
  refine ⟨fun σ H Q => t σ H fun vs H1 => spOf X.K F (.ref C :: vs) H1 Q (WE W σ), ⟨fun pins s σ H Q I hq => ?_⟩, fun σ H ρ st mm Q s r h => q σ H ρ st mm _ s r (h.mp fun ds st1 vs H1 m1 e1 r1 p1 h1 => ⟨.cls c :: ds, st1, m1, .cons (.cls hC) p1, r1, post_F h1⟩)⟩
  refine PySem.W.methodCall_KW (pl := pl) (thn ((pe_glob (v := .ref C) (pos := p) hg hm rfl h2).run pins s σ H (fun v H1 => v = .ref C ∧ H1 = H) I ⟨rfl, rfl⟩) fun u s1 ⟨v, H1, I1, r1, ev, eH⟩ => ?_) ht
  subst ev eH
  cases r1
  refine ClX.getmethcm_ok I1 R T fun s2 I2 => ?_
  refine ClX.callwith_cm I2 (ClX.base_none I1 (Nat.le_refl _)) T.fi (thn (pa.run pos _ s2 σ _ _ I2 hq) fun ua s3 ⟨va, H3, I3, ra, q3⟩ => ⟨⟨ClX.pin_at I3, I3.kIn⟩, ?_⟩) h3 h4
  have z : wpAny (model X.prog X.w) X.A (call (.ref s1.heap.objs.size) ua) (EP X ((s1.heap.objs.size, PySem.W.methodObj (.ref f) (.ref C)) :: pins) σ Q) X.xe s3 :=
    wpAny_call (PySem.W.method_call (ClX.pin_at I3) (codeAny_mono (G.run X.A X.stack s3 _ (.ref C :: ua) (.ref C :: va) _ _ (cx.room.mono hj) (fun z => Bool.noConfusion z) I3.env0 (.cons rfl ra) q3) fun res s4 hr => by
      cases res with
      | error ex => exact passAt cx.tk σ _ _ _ ex s4 I3 hr
      | ok fl =>
        cases fl with
        | ret u => exact I3.after hr
        | next => exact False.elim hr
        | brk => exact False.elim hr
        | cont => exact False.elim hr))
  exact thn z fun _ _ y => ClX.unpinE y
end
end DX

/-! DX S: attributes stored, special methods, isinstance of own classes -/
namespace DX
open PySem PySem.Spec PyProof.Rows L2
variable [TB0]

/-! ### o.f = e -/
def putP (f : Str) (d : D) : List Str → List D → List Str × List D
  | [], _ => ([f], [d])
  | g :: fs, ds => match ds with
    | [] => (g :: fs, [])
    | x :: ds => if g = f then (g :: fs, d :: ds) else (g :: (putP f d fs ds).1, x :: (putP f d fs ds).2)
theorem putP_rep {K : PySem.W.Frag} {H : Hp} {m : Mp} {f : Str} {v : V} {d : D} (p : Rep K H m v d) : ∀ (fs : List Str) (vs : List V) (ds : List D), fs.length = vs.length → RepL K H m vs ds →
    ∃ vs', putF f v (fs.zip vs) = (putP f d fs ds).1.zip vs' ∧ (putP f d fs ds).1.length = vs'.length ∧ RepL K H m vs' (putP f d fs ds).2
  | [], _, _, _, _ => ⟨[v], rfl, rfl, .cons p .nil⟩
  | g :: fs, [], _, hl, _ => by cases hl
  | g :: fs, w :: vs, _, hl, h => by
    cases h with
    | @cons _ _ x ds h1 h2 =>
      obtain ⟨vs', q1, q2, q3⟩ := putP_rep (f := f) p fs vs ds (by simpa using hl) h2
      unfold putP
      dsimp only
      by_cases e : g = f
      · rw [if_pos e]
        refine ⟨v :: vs, ?_, by simpa using hl, .cons p h2⟩
        show (if g = f then (g, v) :: fs.zip vs else _) = _
        rw [if_pos e]
        rfl
      · rw [if_neg e]
        refine ⟨w :: vs', ?_, by simpa using q2, .cons h1 q3⟩
        show (if g = f then _ else (g, w) :: putF f v (fs.zip vs)) = _
        rw [if_neg e, q1]
        rfl
def sFldS (c : String) (f : Str) (fo fe : EF) : SF := fun ρ st => bindS (fe ρ st) ρ fun d st1 => bindS (fo ρ st1) ρ fun o st2 => match o with
  | .ob n => match st2[n]? with
    | some (.ins c' fs ds) => if c' = c ∧ fs.length < 900 then .nx ρ (st2.set n (.ins c (putP f d fs ds).1 (putP f d fs ds).2)) else .bad
    | _ => .bad
  | _ => .bad
section
variable {X : Cx} {W : WX} {e o : Expr} {fe fo : EF} {pos : Pos} {k j : Nat} {g g' : Bool} {c : String} {C : Addr} {F : FF}
theorem ss_fld {f : Str} {pos' : Pos} (hC : ClAt X.K c C) (hc : Cls X.K C) (hn : NoAttr X.K C f) (ho : SE X W o fo) (h : SE X W e fe) (hs : swapsWith e (some (.Attribute o f pos')) pos.line X.env = pure false := by rfl) : SS X W (.Assign [.Attribute o f pos'] e pos) (sFldS c f fo fe) := by
  obtain ⟨t, p, q⟩ := h
  obtain ⟨to, po, qo⟩ := ho
  refine ⟨_, ps_fld po p hs, fun σ H ρ st m E s r h => q σ H ρ st m _ s r (PostS.mp h s fun d st1 v H1 m1 e1 r1 p1 h1 => qo σ H1 ρ st1 m1 _ (s.up e1) r1 (PostS.mp h1 (s.up e1) fun y st2 w H2 m2 e2 r2 p2 h2 => ?_))⟩
  cases p2 with
  | @ob a n hm =>
    dsimp only at h2
    split at h2
    · rename_i c' fs ds hs
      split at h2
      · rename_i hcl
        obtain ⟨C', dx, vs, hc', hH, hl, hv⟩ := r2.ob n _ a hs hm
        obtain ⟨h3, h4⟩ := hcl
        subst h3
        obtain rfl := hC.eq hc'
        have hlen : (fs.zip vs).length < 1000 := by
          rw [List.length_zip]
          omega
        refine ⟨a, C, dx, fs.zip vs, rfl, hH, hc, hn, hlen, ?_⟩
        obtain ⟨vs', e1', e2', e3'⟩ := putP_rep (f := f) (p1.up e2) fs vs ds hl hv
        have x3 : Ext m2 H2 m2 (upd H2 a (.ins C dx (putF f v (fs.zip vs)))) := Ext.write (List.mem_of_getElem? hm)
        have r3 := r2.write (o := .ins C dx (putF f v (fs.zip vs))) (u := .ins c' (putP f d fs ds).1 (putP f d fs ds).2) hm fun x3 => ⟨C, dx, vs', hC, by rw [upd_same, e1'], e2', e3'.up x3⟩
        exact (PostS.up h2 x3).nxt r3 (((s.up e1).up e2).up x3)
      · exact h2.elim
    · exact h2.elim
  | _ => exact h2.elim
/-! ### special methods -/
/-- a def called deeper within -/
theorem run_deep {A' : Around} {f : Addr} {pins : List (Addr × Obj)} {σ : L2.St} {H : Hp} {s : Shared} {Q : VK} {us : List Value} {vs : List V} {E : XK} (G : FnD X.prog X.w X.K X.mg X.base j g f F) (hr : Room j A') (hgd : g = true → A'.guards = some []) (hf : A'.frames = X.A.frames) (hx : PassesAt (L2.CX X.prog X.w) X σ E)
    (I : Inv X pins σ H s) (r : Vals vs us) (h : spOf X.K F vs H Q E) : wpAny (model X.prog X.w) A' (call (.ref f) us) (EP X pins σ Q) X.xe s := by
  have e0 := I.env0
  refine wpAny_call (codeAny_mono (G.run A' X.stack s H us vs Q E hr hgd ⟨hf.trans e0.frames, e0.mod, e0.bs, e0.bsz, e0.funs, e0.frf, e0.hok, e0.bare⟩ r h) fun res s2 hq => ?_)
  cases res with
  | error ex => exact hx pins H s ex s2 I hq
  | ok fl =>
    cases fl with
    | ret u => exact I.after hq
    | next => exact hq.elim
    | brk => exact hq.elim
    | cont => exact hq.elim
theorem inst_at {pins : List (Addr × Obj)} {σ : L2.St} {H : Hp} {s : Shared} {a dx : Addr} {fs : List (Str × V)} (I : Inv X pins σ H s) (h : H a = some (.ins C dx fs)) : ∃ ox od, PySem.W.InstAt s.heap a ox C od := by
  obtain ⟨mA, O, _⟩ := ins_get I.hok h
  obtain ⟨od, J, _⟩ := O.look
  exact ⟨_, _, J⟩
/-- what the class says of a special method -/
structure Spec1 (K : PySem.W.Frag) (C : Addr) (m : Str) (f : Addr) : Prop where
  at_ : PySem.W.findIn K (.ref C) m = some (some (.ref f))
  fn : PySem.W.isFn K (.ref f) = true
/-- an expression whose value goes to an own special method -/
def eOwn1 (c : String) (F : FF) (back : D → Option D) (fe : EF) : EF := fun ρ st => (fe ρ st).bind fun d st1 => match insIs c st1 d with
  | some _ => (F [d] st1).bind fun r st2 => Res.of (back r) st2
  | none => .bad
def backLen : D → Option D
  | .int n => if 0 ≤ n ∧ n < 2 ^ 62 then some (.int n) else none
  | _ => none
def backStr : D → Option D
  | .str x => some (.str x)
  | _ => none
theorem own1_sp {m : Mp} {H : Hp} {σ : L2.St} {Q : VK} {d : D} {v : V} {st : Store} {back : D → Option D} (r : Rl X.K m H st) (p : Rep X.K H m v d) (h : Post X W m H σ Rep Q ((F [d] st).bind fun r st2 => Res.of (back r) st2)) :
    spOf X.K F [v] H (fun w H2 => ∃ dw dr m2 st2, Ext m H m2 H2 ∧ Rl X.K m2 H2 st2 ∧ Rep X.K H2 m2 w dw ∧ back dw = some dr ∧ PostV X.K m H Rep Q dr st2) (WE W σ) := by
  refine ⟨[d], st, m, .cons p .nil, r, ?_⟩
  cases z : F [d] st with
  | ok r2 st2 =>
    rw [z] at h
    intro w H2 m2 e2 rl2 p2
    change Post X W m H σ Rep Q (Res.of (back r2) st2) at h
    cases y : back r2 with
    | none => rw [y] at h; exact h.elim
    | some dr =>
      rw [y] at h
      exact ⟨r2, dr, m2, st2, e2, rl2, p2, y, h⟩
  | exc cn fs st2 => rw [z] at h; exact h
  | bad => rw [z] at h; exact h.elim
/-- len(o) -/
theorem se_lenO {p : Pos} {f : Addr} (hC : ClAt X.K c C) (S : Spec1 X.K C "__len__" f) (G : FnD X.prog X.w X.K X.mg X.base j g f F) (cx : Ctx X W k g') (hg : Gl X "len") (hm : X.mg "len" = none) (h : SE X W e fe) (hj : j + 1 ≤ k := by decide) (hgg : g = true → g' = true := by decide)
    (h3 : starEach [e] X.env = (false, eval e X.env) :: starEach [] X.env := by rfl) (h4 : (backTo pos (starEach [] X.env)).any (·.1) = false := by rfl) : SE X W (.Call (.Name "len" p) [e] [] pos) (eOwn1 c F backLen fe) := by
  obtain ⟨t, pe, q⟩ := h
  refine ⟨fun σ H Q => tCons t tNil σ H fun va H1 => ∃ a dx fs, va = [.ref a] ∧ H1 a = some (.ins C dx fs) ∧ spOf X.K F [.ref a] H1 (fun w H2 => ∃ n : Int, w = .int n ∧ 0 ≤ n ∧ n < 2 ^ 62 ∧ Q (.int n) H2) (WE W σ), ⟨fun pins s σ H Q I hq => ?_⟩, fun σ H ρ st m Q s r h => q σ H ρ st m _ s r (h.mp fun d st1 v H1 m1 e1 r1 p1 h1 => ?_)⟩
  · refine wpAny_Call_Name_kw (ld_blt I hg hm PySem.boot_len ?_ (by decide) (by decide))
    refine PyProof.Rows.callWith_builtin1 (thn ((pa_cons pe pa_nil h3).run pos pins s σ H _ I hq) fun ua s1 ⟨va, H1, I1, ra, a, dx, fs, ex, ha, hsp⟩ => ?_) h3 h4
    subst ex
    cases ra with
    | cons r1 r2 =>
      cases r2
      cases r1
      obtain ⟨ox, od, J⟩ := inst_at I1 ha
      obtain ⟨mm, hF⟩ := I1.fr
      refine PySem.W.len_K hF I1.ok.mod.kin J S.at_ S.fn (wpAny_mono (run_deep (vs := [.ref a]) G (cx.room.mono hj).in1 (fun z => cx.gd (hgg z)) rfl (passAt cx.tk σ) I1 (.cons rfl .nil) hsp) (fun u s2 hs => ?_) fun _ _ y => y)
      obtain ⟨w, H2, I2, rw_, n, ew, h0, h1, hq2⟩ := hs
      subst ew
      obtain ⟨tk, rfl⟩ := rw_
      exact ⟨⟨h0, by omega⟩, .int n, H2, I2.tok _, ⟨_, rfl⟩, hq2⟩
  · cases z : insIs c st1 d with
    | none => rw [z] at h1; exact h1.elim
    | some w =>
      obtain ⟨fs, ds⟩ := w
      rw [z] at h1
      dsimp only at h1
      obtain ⟨a, dx, vs, rfl, ha, hl, hv⟩ := insIs_at hC r1 p1 z
      refine ⟨a, dx, _, rfl, ha, ?_⟩
      obtain ⟨ds', st0, m0, hv0, hr0, hp0⟩ := own1_sp (F := F) (back := backLen) r1 p1 h1
      refine ⟨ds', st0, m0, hv0, hr0, ?_⟩
      cases y : F ds' st0 with
      | ok r2 st2 =>
        rw [y] at hp0
        intro w H2 m2 e2 rl2 p2
        obtain ⟨dw, dr, m3, st3, e3, rl3, p3, b3, k3⟩ := hp0 w H2 m2 e2 rl2 p2
        cases dw with
        | int n =>
          cases p3
          unfold backLen at b3
          dsimp only at b3
          split at b3
          · rename_i hb
            cases b3
            exact ⟨n, rfl, hb.1, hb.2, k3 _ _ m3 e3 rl3 (.int n)⟩
          · cases b3
        | _ => cases b3
      | exc cn fs st2 => rw [y] at hp0; exact hp0
      | bad => rw [y] at hp0; exact hp0.elim
/-! ### types, own classes among them -/
inductive Tag where
  | b (a : Tg) | o (c : String)
  deriving DecidableEq
/-- what is asked of a class whose instances are looked at -/
structure TyC (K : PySem.W.Frag) (C : Addr) : Prop where
  cl : Cls K C
  ha : PySem.W.findIn K (.ref C) "__class__" = some (some (.builtin "object.__class__"))
  hn : PySem.W.specialIn K (.builtin "object.__class__") "__get__" = some (some (.builtin "getset_descriptor.__get__"))
  ht : PySem.W.takesIn K (.builtin "object.__class__") = some true
  hm : PySem.W.mroIn K C (.type "object") = some true
def ClsT (K : PySem.W.Frag) (CT : List String) : Prop := ∀ c ∈ CT, ∃ C, ClAt K c C ∧ TyC K C
def tagX (CT : List String) (st : Store) (d : D) : Option Tag := match tagOf st d with
  | some a => some (.b a)
  | none => match insOf st d with
    | some (c, _, _) => if c ∈ CT then some (.o c) else none
    | none => none
def TagV (K : PySem.W.Frag) (CT : List String) : Tag → Value → Prop
  | .b a, v => v = .type a.name
  | .o c, v => c ∈ CT ∧ ∃ C, ClAt K c C ∧ v = .ref C
theorem tagX_at {K : PySem.W.Frag} {CT : List String} {m : Mp} {H : Hp} {st : Store} {v : V} {d : D} {t : Tag} (T : ClsT K CT) (r : Rl K m H st) (p : Rep K H m v d) (e : tagX CT st d = some t) : ∃ tv, TyX K H v tv ∧ TagV K CT t tv := by
  unfold tagX at e
  split at e
  · rename_i a ha
    cases e
    exact ⟨_, tag_at r p ha, rfl⟩
  · split at e
    · rename_i c fs ds hi
      split at e
      · rename_i hc
        cases e
        obtain ⟨a, C, dx, vs, rfl, h1, h2, h3, h4⟩ := ins_at r p hi
        obtain ⟨C', g1, g2⟩ := T c hc
        obtain rfl := h1.eq g1
        exact ⟨.ref C, .base (.ins h2 g2.cl g2.ha g2.hn g2.ht g2.hm), hc, C, h1, rfl⟩
      · cases e
    · cases e
/-- isinstance(e, T): has tells the answers -/
def eIsX (CT : List String) (has : Tag → Bool) (fe : EF) : EF := fun ρ st => (fe ρ st).bind fun d st1 => match tagX CT st1 d with
  | some t => .ok (.bl (has t)) st1
  | none => .bad
def hasB (T : Ty) : Tag → Bool
  | .b a => T.has a
  | .o _ => false
/-- own classes: the names of those at or below -/
def hasO (cs : List String) : Tag → Bool
  | .b _ => false
  | .o c => decide (c ∈ cs)
def IsFact (K : PySem.W.Frag) (CT : List String) (has : Tag → Bool) (tv : Value) : Prop := ∀ t v, TagV K CT t v → PySem.W.kitOne K v tv = some (has t)
theorem se_isX {CT : List String} {has : Tag → Bool} {ce : Expr} {cv : V} {tv : Value} {p : Pos} (T : ClsT X.K CT) (hF : IsFact X.K CT has tv) (hcv : ClsV cv tv) (hce : PE X ce (fun _ H Q => Q cv H)) (hg : Gl X "isinstance") (hm : X.mg "isinstance" = none) (h : SE X W e fe)
    (h3 : starEach [e, ce] X.env = (false, eval e X.env) :: starEach [ce] X.env := by rfl) (h5 : starEach [ce] X.env = (false, eval ce X.env) :: starEach [] X.env := by rfl) (h4 : (backTo pos (starEach [ce] X.env)).any (·.1) = false := by rfl) :
    SE X W (.Call (.Name "isinstance" p) [e, ce] [] pos) (eIsX CT has fe) := by
  obtain ⟨te, pe, q⟩ := h
  refine ⟨_, pe_callB call_isi hg hm (by decide +kernel) (pa_cons pe (pa_cons hce pa_nil h5) h3) (by decide) (by decide) h3 h4, fun σ H ρ st m Q s r h => q σ H ρ st m _ s r (h.mp fun d st1 v H1 m1 e1 r1 p1 h1 => ?_)⟩
  cases z : tagX CT st1 d with
  | none => rw [z] at h1; exact h1.elim
  | some t =>
    rw [z] at h1
    obtain ⟨tw, g1, g2⟩ := tagX_at T r1 p1 z
    exact ⟨v, cv, tw, tv, has t, rfl, hcv, g1, hF t tw g2, h1.go r1 (.bl _)⟩
/-- T a built-in type -/
theorem se_isB {CT : List String} (t : Ty) {p p2 : Pos} {x : Str} (T : ClsT X.K CT) (hF : IsFact X.K CT (hasB t) (.type t.name)) (hg : Gl X "isinstance") (hm : X.mg "isinstance" = none) (hg2 : Gl X x) (hm2 : X.mg x = none) (hb : bootBuiltins x = some (.type t.name)) (h : SE X W e fe)
    (hn : x ≠ ("__name__" : Str) := by decide) (hd : (x == ("__debug__" : Str)) = false := by decide) (h3 : starEach [e, .Name x p2] X.env = (false, eval e X.env) :: starEach [.Name x p2] X.env := by rfl) (h5 : starEach [.Name x p2] X.env = (false, eval (.Name x p2) X.env) :: starEach [] X.env := by rfl) (h4 : (backTo pos (starEach [.Name x p2] X.env)).any (·.1) = false := by rfl) :
    SE X W (.Call (.Name "isinstance" p) [e, .Name x p2] [] pos) (eIsX CT (hasB t) fe) := se_isX (cv := .ty t.name) T hF (.ty _) (pe_bltn hg2 hm2 hb rfl hn hd) hg hm h h3 h5 h4
/-- T an own class -/
theorem se_isO {CT cs : List String} {p p2 : Pos} {x : Str} (T : ClsT X.K CT) (hF : IsFact X.K CT (hasO cs) (.ref C)) (hg : Gl X "isinstance") (hm : X.mg "isinstance" = none) (hg2 : Gl X x) (hm2 : X.mg x = some (.ref C)) (h : SE X W e fe)
    (hd : (x == ("__debug__" : Str)) = false := by decide) (h3 : starEach [e, .Name x p2] X.env = (false, eval e X.env) :: starEach [.Name x p2] X.env := by rfl) (h5 : starEach [.Name x p2] X.env = (false, eval (.Name x p2) X.env) :: starEach [] X.env := by rfl) (h4 : (backTo pos (starEach [.Name x p2] X.env)).any (·.1) = false := by rfl) :
    SE X W (.Call (.Name "isinstance" p) [e, .Name x p2] [] pos) (eIsX CT (hasO cs) fe) := se_isX (cv := .ref C) T hF (.own _) (pe_glob (v := .ref C) hg2 hm2 rfl hd) hg hm h h3 h5 h4
/-! ### own == -/
open Classical in
/-- a pure special method of two, its answer True or False -/
noncomputable def ownB (c : String) (F : FF) (st : Store) (x y : D) : Option Bool := match insIs c st x with
  | some _ => match F [x, y] st with
    | .ok (.bl b) st' => if st' = st then some b else none
    | _ => none
  | none => none
theorem ownB_sp {K : PySem.W.Frag} {c : String} {C : Addr} {F : FF} {m : Mp} {H : Hp} {st : Store} {x y : D} {vx vy : V} {b : Bool} {Q : VK} (hC : ClAt K c C) (r : Rl K m H st) (px : Rep K H m vx x) (py : Rep K H m vy y) (e : ownB c F st x y = some b) (k : ∀ H2 m2, Ext m H m2 H2 → Rl K m2 H2 st → Q (.bl b) H2) :
    (∃ a dx fs, vx = .ref a ∧ H a = some (.ins C dx fs)) ∧ spOf K F [vx, vy] H (fun w H2 => ∃ b' : Bool, w = .bl b' ∧ Q (.bl b') H2) E0 := by
  unfold ownB at e
  split at e
  · rename_i w hi
    obtain ⟨fs, ds⟩ := w
    obtain ⟨a, dx, vs, rfl, ha, hl, hv⟩ := insIs_at hC r px hi
    refine ⟨⟨a, dx, _, rfl, ha⟩, [x, y], st, m, .cons px (.cons py .nil), r, ?_⟩
    split at e
    · rename_i b' st' hF
      split at e
      · rename_i hs
        cases e
        rw [hF]
        intro w H2 m2 e2 r2 p2
        cases p2
        exact ⟨b, rfl, k H2 m2 e2 (by rw [← hs]; exact r2)⟩
      · cases e
    · cases e
  · cases e
noncomputable def bEqO (CT : List String) (c : String) (F : FF) : B2 := fun st x y => match tagX CT st y with
  | some _ => (ownB c F st x y).map .bl
  | none => none
/-- nothing else is asked ahead of C's own == -/
def EqFirst (K : PySem.W.Frag) (CT : List String) (C : Addr) : Prop := ∀ t v, TagV K CT t v → PySem.W.notFirst K C v = true
theorem op_eqO {f : Addr} {TV : Value → Prop} (S : Spec1 X.K C "__eq__" f) (G : FnD X.prog X.w X.K X.mg X.base j false f F) (hr : Room j X.A) (hN : ∀ v, TV v → PySem.W.notFirst X.K C v = true) :
    OpR X (compareOp .Eq) (fun x y H Q => ∃ tv, TyX X.K H y tv ∧ TV tv ∧ (∃ a dx fs, x = .ref a ∧ H a = some (.ins C dx fs)) ∧ spOf X.K F [x, y] H (fun w H2 => ∃ b : Bool, w = .bl b ∧ Q (.bl b) H2) E0) := by
  intro pins s σ H x y vx vy Q I rx ry h
  obtain ⟨tv, hty, htv, ⟨a, dx, fs, ex, ha⟩, hsp⟩ := h
  cases ex
  cases rx
  obtain ⟨ox, od, J⟩ := inst_at I ha
  obtain ⟨mm, hF⟩ := I.fr
  obtain ⟨PP, Z, pz, _⟩ := kit_of I ry hty
  refine PySem.W.cmp_K (op := .Eq) hr.units0 hF I.ok.mod.kin J (Z.ty _ _ I.kIn pz) (hN _ htv) S.at_ S.fn (wpAny_mono (run_deep (vs := [.ref a, y]) G hr (fun z => Bool.noConfusion z) rfl (fun pins H s e s' I' c' => passL pins σ H s e s' I' c') I (.cons rfl (.cons ry .nil)) hsp) (fun u s2 hs => ?_) fun _ _ z => z)
  obtain ⟨w, H2, I2, rw_, b, ew, hq⟩ := hs
  subst ew
  cases rw_
  exact ⟨.bl b, H2, I2, rfl, hq⟩
theorem opd_eqO {CT : List String} {f : Addr} (T : ClsT X.K CT) (hC : ClAt X.K c C) (S : Spec1 X.K C "__eq__" f) (G : FnD X.prog X.w X.K X.mg X.base j false f F) (cx : Ctx X W k g') (hN : EqFirst X.K CT C) (hj : j ≤ k := by decide) : OpD X (compareOp .Eq) (bEqO CT c F) :=
  ⟨_, op_eqO (TV := fun v => ∃ t, TagV X.K CT t v) S G (cx.room.mono hj) (fun v ⟨t, h⟩ => hN t v h), fun H m st x y dx dy d Q r px py e q => by
    unfold bEqO at e
    split at e
    · rename_i t ht
      cases z : ownB c F st dx dy with
      | none => rw [z] at e; cases e
      | some b =>
        rw [z] at e
        cases e
        obtain ⟨tv, g1, g2⟩ := tagX_at T r py ht
        obtain ⟨h1, h2⟩ := ownB_sp (Q := Q) hC r px py z fun H2 m2 e2 r2 => q _ H2 m2 e2 r2 (.bl b)
        exact ⟨tv, g1, ⟨t, g2⟩, h1, h2⟩
    · cases e⟩
/-! ### k in o -/
noncomputable def bInO (c : String) (F : FF) : B2 := fun st x y => (ownB c F st y x).map .bl
noncomputable def bNotInO (c : String) (F : FF) : B2 := fun st x y => (ownB c F st y x).map fun b => .bl !b
theorem opd_inO {f : Addr} (hC : ClAt X.K c C) (S : Spec1 X.K C "__contains__" f) (G : FnD X.prog X.w X.K X.mg X.base j false f F) (cx : Ctx X W k g') (hj : j ≤ k := by decide) : OpD X (compareOp .In) (bInO c F) :=
  ⟨fun x y H Q => (∃ a dx fs, y = .ref a ∧ H a = some (.ins C dx fs)) ∧ spOf X.K F [y, x] H (fun w H2 => ∃ b : Bool, w = .bl b ∧ Q (.bl b) H2) E0, by
    intro pins s σ H x y vx vy Q I rx ry h
    obtain ⟨⟨a, dx, fs, ex, ha⟩, hsp⟩ := h
    cases ex
    cases ry
    obtain ⟨ox, od, J⟩ := inst_at I ha
    obtain ⟨mm, hF⟩ := I.fr
    refine PySem.W.in_K hF I.ok.mod.kin J S.at_ S.fn (wpAny_mono (run_deep (vs := [.ref a, x]) G (cx.room.mono hj) (fun z => Bool.noConfusion z) rfl (fun pins H s e s' I' c' => passL pins σ H s e s' I' c') I (.cons rfl (.cons rx .nil)) hsp) (fun u s2 hs => ?_) fun _ _ z => z)
    obtain ⟨w, H2, I2, rw_, b, ew, hq⟩ := hs
    subst ew
    cases rw_
    exact wpAny_truthy_bool ⟨.bl b, H2, I2, rfl, hq⟩, fun H m st x y dx dy d Q r px py e q => by
    unfold bInO at e
    cases z : ownB c F st dy dx with
    | none => rw [z] at e; cases e
    | some b =>
      rw [z] at e
      cases e
      exact ownB_sp (Q := Q) hC r py px z fun H2 m2 e2 r2 => q _ H2 m2 e2 r2 (.bl b)⟩
theorem opd_notInO {f : Addr} (hC : ClAt X.K c C) (S : Spec1 X.K C "__contains__" f) (G : FnD X.prog X.w X.K X.mg X.base j false f F) (cx : Ctx X W k g') (hj : j ≤ k := by decide) : OpD X (compareOp .NotIn) (bNotInO c F) :=
  ⟨fun x y H Q => (∃ a dx fs, y = .ref a ∧ H a = some (.ins C dx fs)) ∧ spOf X.K F [y, x] H (fun w H2 => ∃ b : Bool, w = .bl b ∧ Q (.bl !b) H2) E0, by
    intro pins s σ H x y vx vy Q I rx ry h
    obtain ⟨⟨a, dx, fs, ex, ha⟩, hsp⟩ := h
    cases ex
    cases ry
    obtain ⟨ox, od, J⟩ := inst_at I ha
    obtain ⟨mm, hF⟩ := I.fr
    refine PySem.W.notIn_K hF I.ok.mod.kin J S.at_ S.fn (wpAny_mono (run_deep (vs := [.ref a, x]) G (cx.room.mono hj) (fun z => Bool.noConfusion z) rfl (fun pins H s e s' I' c' => passL pins σ H s e s' I' c') I (.cons rfl (.cons rx .nil)) hsp) (fun u s2 hs => ?_) fun _ _ z => z)
    obtain ⟨w, H2, I2, rw_, b, ew, hq⟩ := hs
    subst ew
    cases rw_
    exact wpAny_truthy_bool ⟨.bl !b, H2, I2, rfl, hq⟩, fun H m st x y dx dy d Q r px py e q => by
    unfold bNotInO at e
    cases z : ownB c F st dy dx with
    | none => rw [z] at e; cases e
    | some b =>
      rw [z] at e
      cases e
      obtain ⟨h1, ds, st0, m0, hv, hr, hp⟩ := ownB_sp (Q := fun w H2 => ∃ b' : Bool, w = .bl b' ∧ Q (.bl !b') H2) hC r py px z fun H2 m2 e2 r2 => ⟨b, rfl, q _ H2 m2 e2 r2 (.bl !b)⟩
      refine ⟨h1, ds, st0, m0, hv, hr, ?_⟩
      cases y : F ds st0 with
      | ok r2 st2 =>
        rw [y] at hp
        intro w H2 m2 e2 rl2 p2
        obtain ⟨b1, e1, b2, e3, hq⟩ := hp w H2 m2 e2 rl2 p2
        cases e3
        exact ⟨b1, e1, hq⟩
      | exc cn fs st2 => rw [y] at hp; exact hp
      | bad => rw [y] at hp; exact hp.elim⟩
end
end DX

/-! DX N: != by an own == -/
namespace DX
open PySem PySem.Spec PyProof.Rows L2
variable [TB0]
section
variable {prog : Program} {w : World} {A : Around} {E : Value → Shared → Prop} {s : Shared} {K : PySem.W.Frag} {x C f : Addr} {ox : Obj} {od : Option Obj} {b tb : Value}
theorem boundBuiltin {M : Model} {name : Str} {id : String} {args : List Value} {Q : Option Value → Shared → Prop} (X : K.In s.heap) (J : PySem.W.InstAt s.heap x ox C od) (hs : PySem.W.findIn K (.ref C) name = some (some (.builtin id)))
    (hb : ∀ self, bindSpecial (.builtin id) self = pure (.builtin id, [self])) (h : wpAny M A (call (.builtin id) (.ref x :: args)) (fun v => Q (some v)) E s) : wpAny M A (callSpecialIfBound? (.ref x) name args) Q E s := by
  simp only [callSpecialIfBound?, bindSpecialIfBound?]
  refine wpAny_holding (wpAny_bind (wpAny_bind (wpAny_bind (J.type.here ((PySem.W.looks_findIn X hs).here ?_)))))
  refine wpAny_bind (wpAny_askSetting (wpAny_ite ?_))
  have last : wpAny M A (call (.builtin id) ([.ref x] ++ args) >>= fun v => pure (some v)) Q E s := wpAny_bind (wpAny_mono h (fun _ _ z => wpAny_pure z) fun _ _ z => z)
  split
  · exact wpAny_bind ((PySem.W.Looks.of_pure (hb _)).here (wpAny_pure (by exact last)))
  · exact wpAny_tryCatch (wpAny_bind ((PySem.W.Looks.of_pure (hb _)).here (wpAny_pure (by exact last))))
open Builtin in
theorem ne_entry {Q : Value → Shared → Prop} (hu : A.in1.units < cLine) (X : K.In s.heap) (J : PySem.W.InstAt s.heap x ox C od) (hs : PySem.W.findIn K (.ref C) "__eq__" = some (some (.ref f))) (hf : PySem.W.isFn K (.ref f) = true) (hm : PySem.W.mroIn K C (.type "object") = some true)
    (h : wpAny (model prog w) A.in1 (call (.ref f) [.ref x, b]) (fun v s' => ∃ k, v = .bool k ∧ Q (.bool (!k)) s') E s) : wpAny (model prog w) A (call (.builtin "object.__ne__") [.ref x, b]) Q E s := by
  refine wpAny_call (codeAny_call_builtin PySem.F.slot_tuple_iterator_ne.plain F.cmpEntry_ne (PySem.W.check_slot (owner := "object") (n := "__ne__") F.cmpKind_ne F.cmpSplit_ne (J.type.andThen (PySem.W.looks_mroIn X hm)) (F.cmpArgs_ne _ _) ?_))
  unfold Builtin.«object.__ne__»
  refine wpAny_bind (m := slotArgs "__ne__" 1 _) (wpAny_pure ?_)
  refine wpAny_bind (m := cRoomFor _ _) (wpAny_cRoomFor hu ?_)
  refine wpAny_bind (m := callSpecialIfBound? (.ref x) (Str.ofString "__eq__") _) (PySem.W.ifBound_K X J hs hf (wpAny_mono h (fun r s' hq => ?_) fun _ _ y => y))
  obtain ⟨k, rfl, hq⟩ := hq
  first
    | exact wpAny_bind (wpAny_truthy_bool (wpAny_pure hq))
    | exact wpAny_bind (wpAny_truthy_bool (wpAny_pure (wpAny_pure hq)))
theorem ne_own {Q : Value → Shared → Prop} (hu : A.units < cLine) (hu1 : A.in1.units < cLine) (X : K.In s.heap) (J : PySem.W.InstAt s.heap x ox C od) (hb : PySem.W.Looks (model prog w) s.heap (typeOf b) tb) (hn : PySem.W.notFirst K C tb = true) (hne : PySem.W.findIn K (.ref C) "__ne__" = some (some (.builtin "object.__ne__")))
    (hs : PySem.W.findIn K (.ref C) "__eq__" = some (some (.ref f))) (hf : PySem.W.isFn K (.ref f) = true) (hm : PySem.W.mroIn K C (.type "object") = some true)
    (h : wpAny (model prog w) A.in1 (call (.ref f) [.ref x, b]) (fun v s' => ∃ k, v = .bool k ∧ Q (.bool (!k)) s') E s) : wpAny (model prog w) A (richCompare .NotEq (.ref x) b) Q E s := by
  have once : wpAny (model prog w) A (tryCompare (.ref x) "__ne__" b) (fun r s' => ∃ v, r = some v ∧ Q v s') E s := by
    unfold tryCompare
    refine wpAny_bind (boundBuiltin X J hne PySem.F.slot_tuple_iterator_ne.bind (wpAny_mono (ne_entry (Q := fun v s' => ∃ k, v = .bool k ∧ Q v s') hu1 X J hs hf hm (wpAny_mono h (fun v s' hv => ?_) fun _ _ z => z)) (fun v s' hv => ?_) fun _ _ z => z))
    · obtain ⟨k, rfl, hq⟩ := hv
      exact ⟨k, rfl, _, rfl, hq⟩
    · obtain ⟨k, rfl, hq⟩ := hv
      exact wpAny_pure ⟨_, rfl, hq⟩
  unfold richCompare
  simp only [oneThing_ref]
  refine wpAny_holding (wpAny_bind (wpAny_cRoomFor hu (wpAny_bind (J.type.here (wpAny_bind (hb.here ?_))))))
  split
  · rename_i q
    have e : PySem.W.subIn K tb (.ref C) = some false := by
      rcases Bool.or_eq_true_iff.mp hn with e | e
      · rw [beq_iff_eq.mp e] at q; simp at q
      · exact beq_iff_eq.mp e
    refine wpAny_bind ((PySem.W.looks_subIn X e).here ?_)
    simp only [Bool.false_eq_true, if_false]
    refine wpAny_bind (wpAny_mono once (fun r s' z => ?_) fun _ _ z => z)
    obtain ⟨v, rfl, hq⟩ := z
    exact wpAny_pure hq
  · refine wpAny_bind (wpAny_pure ?_)
    simp only [Bool.false_eq_true, if_false]
    refine wpAny_bind (wpAny_mono once (fun r s' z => ?_) fun _ _ z => z)
    obtain ⟨v, rfl, hq⟩ := z
    exact wpAny_pure hq
end
section
variable {X : Cx} {W : WX} {k j : Nat} {g' : Bool} {c : String} {C : Addr} {F : FF}
noncomputable def bNeO (CT : List String) (c : String) (F : FF) : B2 := fun st x y => match tagX CT st y with
  | some _ => (ownB c F st x y).map fun b => .bl !b
  | none => none
theorem opd_neO {CT : List String} {f : Addr} (T : ClsT X.K CT) (hC : ClAt X.K c C) (S : Spec1 X.K C "__eq__" f) (hne : PySem.W.findIn X.K (.ref C) "__ne__" = some (some (.builtin "object.__ne__"))) (hm : PySem.W.mroIn X.K C (.type "object") = some true) (G : FnD X.prog X.w X.K X.mg X.base j false f F) (cx : Ctx X W k g') (hN : EqFirst X.K CT C) (hj : j + 1 ≤ k := by decide) : OpD X (compareOp .NotEq) (bNeO CT c F) :=
  ⟨fun x y H Q => ∃ tv, TyX X.K H y tv ∧ (∃ t, TagV X.K CT t tv) ∧ (∃ a dx fs, x = .ref a ∧ H a = some (.ins C dx fs)) ∧ spOf X.K F [x, y] H (fun w H2 => ∃ b : Bool, w = .bl b ∧ Q (.bl !b) H2) E0, by
    intro pins s σ H x y vx vy Q I rx ry h
    obtain ⟨tv, hty, ⟨t, ht⟩, ⟨a, dx, fs, ex, ha⟩, hsp⟩ := h
    cases ex
    cases rx
    obtain ⟨ox, od, J⟩ := inst_at I ha
    obtain ⟨PP, Z, pz, _⟩ := kit_of I ry hty
    have hr := cx.room.mono hj
    refine ne_own (s := s) hr.units0 hr.in1.units0 I.kIn J (Z.ty _ _ I.kIn pz) (hN t _ ht) hne S.at_ S.fn hm (wpAny_mono (run_deep (vs := [.ref a, y]) G hr.in1 (fun z => Bool.noConfusion z) rfl (fun pins H s e s' I' c' => passL pins σ H s e s' I' c') I (.cons rfl (.cons ry .nil)) hsp) (fun u s2 hs => ?_) fun _ _ z => z)
    obtain ⟨w, H2, I2, rw_, b, ew, hq⟩ := hs
    subst ew
    cases rw_
    exact ⟨b, rfl, .bl !b, H2, I2, rfl, hq⟩, fun H m st x y dx dy d Q r px py e q => by
    unfold bNeO at e
    split at e
    · rename_i t ht
      cases z : ownB c F st dx dy with
      | none => rw [z] at e; cases e
      | some b =>
        rw [z] at e
        cases e
        obtain ⟨tv, g1, g2⟩ := tagX_at T r py ht
        obtain ⟨h1, ds, st0, m0, hv, hr, hp⟩ := ownB_sp (Q := fun w H2 => ∃ b' : Bool, w = .bl b' ∧ Q (.bl !b') H2) hC r px py z fun H2 m2 e2 r2 => ⟨b, rfl, q _ H2 m2 e2 r2 (.bl !b)⟩
        refine ⟨tv, g1, ⟨t, g2⟩, h1, ds, st0, m0, hv, hr, ?_⟩
        cases y : F ds st0 with
        | ok r2 st2 =>
          rw [y] at hp
          intro w H2 m2 e2 rl2 p2
          obtain ⟨b1, e1, b2, e3, hq⟩ := hp w H2 m2 e2 rl2 p2
          cases e3
          exact ⟨b1, e1, hq⟩
        | exc cn fs st2 => rw [y] at hp; exact hp
        | bad => rw [y] at hp; exact hp.elim
    · cases e⟩
/-! ### str(o) -/
theorem se_strO {e : Expr} {fe : EF} {pos p : Pos} {f : Addr} (hC : ClAt X.K c C) (S : Spec1 X.K C "__str__" f) (G : FnD X.prog X.w X.K X.mg X.base j false f F) (cx : Ctx X W k g') (hg : Gl X "str") (hm : X.mg "str" = none) (h : SE X W e fe) (hj : j + 2 ≤ k := by decide)
    (h3 : starEach [e] X.env = (false, eval e X.env) :: starEach [] X.env := by rfl) (h4 : (backTo pos (starEach [] X.env)).any (·.1) = false := by rfl) : SE X W (.Call (.Name "str" p) [e] [] pos) (eOwn1 c F backStr fe) := by
  obtain ⟨t, pe, q⟩ := h
  refine ⟨fun σ H Q => tCons t tNil σ H fun va H1 => ∃ a dx fs, va = [.ref a] ∧ H1 a = some (.ins C dx fs) ∧ spOf X.K F [.ref a] H1 (fun w H2 => ∃ n : Str, w = .str n ∧ Q (.str n) H2) (WE W σ), ⟨fun pins s σ H Q I hq => ?_⟩, fun σ H ρ st m Q s r h => q σ H ρ st m _ s r (h.mp fun d st1 v H1 m1 e1 r1 p1 h1 => ?_)⟩
  · refine wpAny_Call_Name_kw (ld_blt I hg hm bb_str ?_ (by decide) (by decide))
    refine PyProof.Rows.callWith_type1 (thn ((pa_cons pe pa_nil h3).run pos pins s σ H _ I hq) fun ua s1 ⟨va, H1, I1, ra, a, dx, fs, ex, ha, hsp⟩ => ?_) h3 h4
    subst ex
    cases ra with
    | cons r1 r2 =>
      cases r2
      cases r1
      obtain ⟨ox, od, J⟩ := inst_at I1 ha
      have hr := cx.room.mono hj
      refine PySem.W.kso_call hr.in1.in1.units0 I1.kIn J S.at_ S.fn (wpAny_mono (run_deep (vs := [.ref a]) G hr.in1.in1 (fun z => Bool.noConfusion z) rfl (passAt cx.tk σ) I1 (.cons rfl .nil) hsp) (fun u s2 hs => ?_) fun _ _ y => y)
      obtain ⟨w, H2, I2, rw_, n, ew, hq2⟩ := hs
      subst ew
      obtain ⟨tk, rfl⟩ := rw_
      exact ⟨.str n, H2, I2, ⟨_, rfl⟩, hq2⟩
  · cases z : insIs c st1 d with
    | none => rw [z] at h1; exact h1.elim
    | some w =>
      obtain ⟨fs, ds⟩ := w
      rw [z] at h1
      dsimp only at h1
      obtain ⟨a, dx, vs, rfl, ha, hl, hv⟩ := insIs_at hC r1 p1 z
      refine ⟨a, dx, _, rfl, ha, ?_⟩
      obtain ⟨ds', st0, m0, hv0, hr0, hp0⟩ := own1_sp (F := F) (back := backStr) r1 p1 h1
      refine ⟨ds', st0, m0, hv0, hr0, ?_⟩
      cases y : F ds' st0 with
      | ok r2 st2 =>
        rw [y] at hp0
        intro w H2 m2 e2 rl2 p2
        obtain ⟨dw, dr, m3, st3, e3, rl3, p3, b3, k3⟩ := hp0 w H2 m2 e2 rl2 p2
        cases dw with
        | str n =>
          cases p3
          cases b3
          exact ⟨n, rfl, k3 _ _ m3 e3 rl3 (.str n)⟩
        | _ => cases b3
      | exc cn fs st2 => rw [y] at hp0; exact hp0
      | bad => rw [y] at hp0; exact hp0.elim
end
end DX

/-! DX X: exceptions -/
namespace DX
open PySem PySem.Spec PyProof.Rows L2
variable [TB0]

/-- a block's reading in one form -/
def tSS (X : Cx) (W : WX) (f : SF) : TS := fun E σ H => ∃ ρ st m, SR X.K H m σ ρ ∧ Rl X.K m H st ∧ PostS X W m H E (f ρ st)
theorem SSs.pss {X : Cx} {W : WX} {s : List Stmt} {f : SF} (h : SSs X W s f) : PSs X s (tSS X W f) := by
  obtain ⟨t, p, q⟩ := h
  exact ⟨fun pins s σ H D I ⟨ρ, st, m, h1, h2, h3⟩ => p.run pins s σ H D I (q σ H ρ st m D h1 h2 h3)⟩
/-- raise C('..') -/
def sRaiseT (c : String) : SF := fun ρ st => .exc c [] ρ st
/-- try: b except ..: the clauses, one after the other: what class names it catches, what it does (told the fields) -/
structure Hd where
  hs : String → Option Bool
  su : List (Str × D) → SF
def sHands (c : String) (fs : List (Str × D)) : List Hd → SF
  | [], ρ, st => .exc c fs ρ st
  | h :: r, ρ, st => match h.hs c with
    | some true => match h.su fs ρ st with
      | .exc _ _ _ _ => .bad
      | r => r
    | some false => sHands c fs r ρ st
    | none => .bad
def sTry (b : SF) (hs : List Hd) : SF := fun ρ st => match b ρ st with
  | .exc c fs ρ' st' => sHands c fs hs ρ' st'
  | r => r
/-- the clause's class stands at cv: what it catches -/
def Catches (K : PySem.W.Frag) (cv : Value) (hs : String → Option Bool) : Prop := ∀ c cls b, XCls K c cls → hs c = some b → PySem.W.exmOne K cls cv = some b
section
variable {X : Cx} {W : WX} {k : Nat} {g : Bool} {c : String} {C : Addr} {pos : Pos}
theorem ss_raiseT {x m : Str} {i : Nat} {p p2 pos' : Pos} {bmB : List Value} {B newId initId : String} (hC : ClAt X.K c C) (cx : Ctx X W k g) (F : ExcBaseFacts B newId initId bmB) (q : PySem.W.excIn X.K C bmB newId = true) (gC : X.mg x = some (.ref C)) (kC : PySem.W.keepIn X.K (.ref C) = true)
    (h1 : PySem.W.subIn X.K (.ref C) (.type "BaseException") = some true) (h2 : PySem.W.typeIn X.K (.ref C) = some (.type "type")) (hg : Gl X x) (hdb : (x == ("__debug__" : Str)) = false := by decide) :
    SS X W (.Raise (some (.Call (.Name x p) [.Constant (.str m) i p2] [] pos')) none pos) (sRaiseT c) :=
  ⟨_, ps_raise cx.calm cx.tk (pmk_own F q gC kC (raises_own h1 h2) hg hdb), fun σ H ρ st m E s r h => h _ none σ H m (Ext.refl m H) r s ⟨.inl ⟨C, hC, rfl⟩, .inl rfl⟩⟩
theorem Cxt.tr {W' : WX} (cx : Cxt X W k g) {pn : List (Addr × Obj)} {xe : Value → Shared → Prop} (tk : Takes (X.tr pn xe) W') (po : PassesOwn (model X.prog X.w) X.A X.env xe) : Cxt (X.tr pn xe) W' k g :=
  ⟨⟨cx.calm, cx.nd, tk, cx.room, cx.gd⟩, po, cx.st, cx.fr⟩
/-- what an except suite has around it -/
structure CxS (X : Cx) (k : Nat) (g : Bool) : Prop where
  nd : X.N.Nodup
  dp : X.A.depth + 3 * k + 5 < recursionLimit
  un : X.A.units + 16 * k + 200 < cLine
  gd : g = true → X.A.guards = some []
theorem Cxt.su (cx : Cxt X W k g) (a : Addr) (pn : List (Addr × Obj)) : CxS (X.suite a pn) k g := ⟨cx.nd, cx.room.dp, cx.room.un, cx.gd⟩
/-- try: .. except x: .. -/
theorem ss_try1 {body suite : List Stmt} {b₀ : Stmt} {x : Str} {cv : Value} {np pos' : Pos} {b f : SF} {hs : String → Option Bool} (cx : Cxt X W k g) (hx : Names X x cv) (hc : Catches X.K cv hs)
    (hb : ∀ (W' : WX) (pn : List (Addr × Obj)) (xe : Value → Shared → Prop), Cxt (X.tr pn xe) W' k g → SSs (X.tr pn xe) W' body b)
    (hsu : ∀ (a : Addr) (pn : List (Addr × Obj)), CxS (X.suite a pn) k g → SSs (X.suite a pn) W0 (b₀ :: suite) f) :
    SS X W (.Try body [.ExceptHandler (some (.Name x np)) none (b₀ :: suite) pos'] [] [] pos) (sTry b [⟨hs, fun _ => f⟩]) := by
  refine ⟨_, ps_try_only cx.st cx.fr hx cx.tk (tb := fun W' => tSS X W' b) (ts := fun _ _ _ => tSS X W0 f) (fun W' pn xe tk po => (hb W' pn xe (cx.tr tk po)).pss) (fun a oe cls d pn _ _ => (hsu a ((a, oe) :: pn) (cx.su a _)).pss), fun σ H ρ st m E s r h => ⟨ρ, st, m, s, r, ?_⟩⟩
  unfold sTry at h
  cases z : b ρ st with
  | nx ρ1 st1 => rw [z] at h; exact h
  | bk ρ1 st1 => rw [z] at h; exact h
  | ct ρ1 st1 => rw [z] at h; exact h
  | rt d st1 => rw [z] at h; exact h
  | bad => rw [z] at h; exact h
  | exc cn fs ρ1 st1 =>
    rw [z] at h
    intro cls dc σ1 H1 m1 e1 r1 s1 x1
    unfold sHands at h
    dsimp only at h
    cases y : hs cn with
    | none => rw [y] at h; exact h.elim
    | some bb =>
      rw [y] at h
      refine ⟨bb, hc cn cls bb x1.1 y, fun hbb a _ => ?_, fun hbb => ?_⟩
      · subst hbb
        refine ⟨ρ1, st1, m1, s1, r1, ?_⟩
        change PostS X W m H E (match f ρ1 st1 with
          | .exc _ _ _ _ => .bad
          | r => r) at h
        have h' := PostS.up h e1
        cases w : f ρ1 st1 with
        | exc cn2 fs2 ρ2 st2 => rw [w] at h'; exact h'.elim
        | nx ρ2 st2 => rw [w] at h'; exact h'
        | bk ρ2 st2 => rw [w] at h'; exact h'
        | ct ρ2 st2 => rw [w] at h'; exact h'
        | rt d st2 => rw [w] at h'; exact h'
        | bad => rw [w] at h'; exact h'
      · subst hbb
        exact h cls dc σ1 H1 m1 e1 r1 s1 x1
end
end DX

/-! DX V: repr, str, texts with parts -/
namespace DX
open PySem PySem.Spec PyProof.Rows L2
variable [TB0]

mutual
theorem noDict : ∀ d : PyData, d.plain = true → d.hasDict = false
  | .none, _ => rfl
  | .bool _, _ => rfl
  | .int _, _ => rfl
  | .str _, _ => rfl
  | .list xs, h => by
    unfold PyData.hasDict
    exact noDictL xs h
  | .tuple xs, h => by
    unfold PyData.hasDict
    exact noDictL xs h
  | .dict _, h => by cases h
theorem noDictL : ∀ xs : List PyData, PyData.plainAll xs = true → PyData.hasDictAll xs = false
  | [], _ => rfl
  | x :: xs, h => by
    have h' : x.plain = true ∧ PyData.plainAll xs = true := by simpa [PyData.plainAll] using h
    unfold PyData.hasDictAll
    rw [noDict x h'.1, noDictL xs h'.2]
    rfl
end
def canShow (p : PyData) : Bool := p.showable && decide (p.shown.length ≤ 100000) && decide (p.depth ≤ 60)
def reprD (st : Store) (d : D) : Option D := match pyS st d with
  | some p => if canShow p then some (.str p.shown) else none
  | none => none
section
variable {X : Cx} {W : WX} {e : Expr} {fe : EF} {pos : Pos}
theorem calld_repr (hg : X.A.guards = some []) (hu : X.A.units + 64 < cLine) : CallD X (.builtin "repr") (one reprD) :=
  calld_one (r := fun xs H Q => ∃ x p, xs = [x] ∧ Dp X.K H x p ∧ p.plain = true ∧ canShow p = true ∧ Q (.str p.shown) H) (by
    intro pins s σ H xs us Q I r h
    obtain ⟨x, p, rfl, hd, hp, hc, q⟩ := h
    obtain ⟨u, rfl, hu1⟩ := vals1 r
    unfold canShow at hc
    simp only [Bool.and_eq_true, decide_eq_true_eq] at hc
    obtain ⟨⟨hs, hl⟩, hdp⟩ := hc
    have hl' : p.shown.length ≤ sizeLine := cap_le hl
    have onRef : ∀ a, u = .ref a → wpAny (model X.prog X.w) X.A (call (.builtin "repr") [u]) (EP X pins σ Q) X.xe s := fun a ea => by
      subst ea
      obtain ⟨as, rd⟩ := Dp.reads I p x _ hd hu1
      exact repr_of_reads' rd hs (fun z => by rw [noDict p hp] at z; cases z) hg (by omega) (fun _ _ z => z) (fun h' u tk k => ⟨.str p.shown, H, I.kept k, ⟨_, rfl⟩, q⟩) hl'
    cases hd with
    | non => cases hu1; exact PySem.P.repr_of_none ⟨.str _, H, I.tok _, ⟨_, rfl⟩, q⟩
    | bl b => cases hu1; exact PySem.P.repr_of_bool ⟨.str _, H, I.tok _, ⟨_, rfl⟩, q⟩
    | int i =>
      obtain ⟨t, rfl⟩ := hu1
      exact PySem.P.repr_of_int (of_decide_eq_true hs) ⟨.str _, H, I.tok _, ⟨_, rfl⟩, q⟩
    | str x =>
      obtain ⟨t, rfl⟩ := hu1
      exact PySem.P.repr_of_str ⟨.str _, H, I.tok _, ⟨_, rfl⟩, q⟩ hl'
    | lst h1 h2 => cases hu1; exact onRef _ rfl
    | tup h1 h2 => cases hu1; exact onRef _ rfl) fun H m st v a d Q r p e k => by
    unfold reprD at e
    split at e
    · rename_i pd hpd
      split at e
      · rename_i hc
        cases e
        obtain ⟨q1, q2⟩ := Dp.ofS r p hpd
        exact ⟨v, pd, rfl, q1, q2, hc, k.go r (.str _)⟩
      · cases e
    · cases e
def smallInt (i : Int) : Bool := decide (i.natAbs.log2 < 1920)
/-- str of a number, of a text; {e} in a text -/
def strD (_ : Store) (d : D) : Option D := match d with
  | .int i => if smallInt i then some (.str (toString i)) else none
  | .str x => if x.length ≤ 100000 then some (.str x) else none
  | _ => none
theorem calld_str : CallD X (.type "str") (one strD) :=
  calld_one (r := fun xs H Q => (∃ i, xs = [.int i] ∧ i.natAbs.log2 < 1920 ∧ Q (.str (toString i)) H) ∨ ∃ a, xs = [.str a] ∧ Q (.str a) H) (fun pins s σ H xs us Q I r h => h.elim (call_str_int pins s σ H xs us Q I r) (SkE.call_str_str pins s σ H xs us Q I r)) fun H m st v a d Q r p e k => by
    cases p with
    | int i =>
      unfold strD at e
      dsimp only at e
      split at e
      · rename_i hi
        cases e
        exact .inl ⟨i, rfl, of_decide_eq_true hi, k.go r (.str _)⟩
      · cases e
    | str x =>
      unfold strD at e
      dsimp only at e
      split at e
      · cases e
        exact .inr ⟨x, rfl, k.go r (.str _)⟩
      · cases e
    | _ => cases e
theorem se_fmt (h : SE X W e fe) : SE X W (.FormattedValue e (-1) none pos) (eUn strD fe) := by
  obtain ⟨t, p, q⟩ := h
  refine ⟨_, pe_fmt p, fun σ H ρ st m Q s r h => q σ H ρ st m _ s r (h.mp fun x st1 v H1 m1 e1 r1 p1 h1 => ?_)⟩
  cases p1 with
  | int i =>
    unfold strD at h1
    dsimp only at h1
    split at h1
    · rename_i hi
      exact .inr ⟨i, rfl, of_decide_eq_true hi, h1.go r1 (.str _)⟩
    · exact h1.elim
  | str x =>
    unfold strD at h1
    dsimp only at h1
    split at h1
    · rename_i hx
      exact .inl ⟨x, rfl, cap_le hx, h1.go r1 (.str _)⟩
    · exact h1.elim
  | _ => exact h1.elim
/-- the parts of a text -/
def jsL : List EF → Str → EF
  | [], acc, _, st => .ok (.str acc) st
  | f :: fs, acc, ρ, st => (f ρ st).bind fun d st1 => match d with
    | .str y => if (acc ++ y).length ≤ 100000 then jsL fs (acc ++ y) ρ st1 else .bad
    | _ => .bad
def eJs (fs : List EF) : EF := jsL fs Str.empty
inductive SJ (X : Cx) (W : WX) : List Expr → List EF → Prop
  | nil : SJ X W [] []
  | cons {e : Expr} {f : EF} {es : List Expr} {fs : List EF} (h : SE X W e f) (r : SJ X W es fs) : SJ X W (e :: es) (f :: fs)
theorem SJ.pj {es : List Expr} {fs : List EF} (h : SJ X W es fs) : PJ X es (fs.map (tSE X W)) := by
  induction h with
  | nil => exact .nil
  | cons h r ih => exact .cons h.pe ih
theorem js_read : ∀ (fs : List EF) (acc : Str) σ H ρ st m (Q : VK), SR X.K H m σ ρ → Rl X.K m H st → Post X W m H σ Rep Q (jsL fs acc ρ st) → tJs (fs.map (tSE X W)) acc σ H fun out H1 => Q (.str out) H1
  | [], acc, σ, H, ρ, st, m, Q, s, r, h => h.go r (.str acc)
  | f :: fs, acc, σ, H, ρ, st, m, Q, s, r, h => by
    unfold jsL at h
    refine ⟨ρ, st, m, s, r, h.mp fun d st1 v H1 m1 e1 r1 p1 h1 => ?_⟩
    cases p1 with
    | str y =>
      dsimp only at h1
      split at h1
      · rename_i hl
        exact ⟨y, rfl, cap_le hl, js_read fs (acc ++ y) σ H1 ρ st1 m1 Q (s.up e1) r1 h1⟩
      · exact h1.elim
    | _ => exact h1.elim
theorem se_js {v1 v2 : Expr} {rest : List Expr} {fs : List EF} (h : SJ X W (v1 :: v2 :: rest) fs) : SE X W (.JoinedStr (v1 :: v2 :: rest) pos) (eJs fs) :=
  ⟨_, pe_joined h.pj, fun σ H ρ st m Q s r h => js_read fs Str.empty σ H ρ st m Q s r h⟩
end
end DX

set_option maxHeartbeats 2000000
/-! DX L: lists and tuples: methods, list(), tuple(), times, turned -/
namespace DX
open PySem PySem.Spec PyProof.Rows L2
variable [TB0]

/-! ### methods of a list of the store -/
/-- a list of the store stands there -/
def isLst (st : Store) (n : Nat) : Bool := match st[n]? with
  | some (.lst _) => true
  | _ => false
/-- o.m(e) that writes the list o -/
def eWr1 (f : List D → D → Option (D × List D)) (fo fe : EF) : EF := fun ρ st => (fo ρ st).bind fun o st1 => match o with
  | .ob n => if isLst st1 n = true then (fe ρ st1).bind fun d st2 => match st2[n]? with
    | some (.lst xs) => match f xs d with
      | some (r, ys) => .ok r (st2.set n (.lst ys))
      | none => .bad
    | _ => .bad else .bad
  | _ => .bad
def fAppend (xs : List D) (d : D) : Option (D × List D) := if xs.length < 100000 then some (.non, xs ++ [d]) else none
def fPopAt (xs : List D) (d : D) : Option (D × List D) := match d with
  | .int i => if 0 ≤ i ∧ i < 1000000 then (xs[i.toNat]?).map fun y => (y, xs.eraseIdx i.toNat) else none
  | _ => none
def fExtend (xs : List D) (d : D) : Option (D × List D) := match d with
  | .lst ys => if xs.length + ys.length ≤ 100000 then some (.non, xs ++ ys) else none
  | _ => none
/-- o.pop() -/
def ePop (fo : EF) : EF := fun ρ st => (fo ρ st).bind fun o st1 => match o with
  | .ob n => match st1[n]? with
    | some (.lst xs) => match xs[xs.length - 1]? with
      | some y => .ok y (st1.set n (.lst xs.dropLast))
      | none => .bad
    | _ => .bad
  | _ => .bad
section
variable {X : Cx} {W : WX} {e o : Expr} {fe fo : EF} {pos apos : Pos}
/-- the list at the store's n -/
theorem store_lst {K : PySem.W.Frag} {m : Mp} {H : Hp} {st : Store} {v : V} {n : Nat} {xs : List D} (r : Rl K m H st) (p : Rep K H m v (.ob n)) (h : st[n]? = some (.lst xs)) : ∃ a vs, v = .ref a ∧ m.m[n]? = some a ∧ H a = some (.lst vs) ∧ RepL K H m vs xs := by
  cases p with
  | ob hm =>
    obtain ⟨vs, q1, q2⟩ := r.ob n _ _ h hm
    exact ⟨_, vs, rfl, hm, q1, q2⟩
theorem Rl.wlst {K : PySem.W.Frag} {m : Mp} {H : Hp} {st : Store} {n : Nat} {a : Addr} {vs : List V} {ys : List D} (r : Rl K m H st) (hm : m.m[n]? = some a) (h : RepL K H m vs ys) : Ext m H m (upd H a (.lst vs)) ∧ Rl K m (upd H a (.lst vs)) (st.set n (.lst ys)) :=
  ⟨Ext.write (List.mem_of_getElem? hm), r.write hm fun x => ⟨vs, upd_same, h.up x⟩⟩
/-- o is a list -/
theorem tyV_lst {K : PySem.W.Frag} {H : Hp} {a : Addr} {vs : List V} (h : H a = some (.lst vs)) : tyV K "list" (.ref a) H := .inl ⟨rfl, vs, .inl (.inl h)⟩
theorem ob_is {K : PySem.W.Frag} {m : Mp} {H : Hp} {st : Store} {v : V} {n : Nat} (r : Rl K m H st) (p : Rep K H m v (.ob n)) : ∃ a, v = .ref a ∧ m.m[n]? = some a := by
  cases p with
  | ob hm => exact ⟨_, rfl, hm⟩
theorem ob_lst {K : PySem.W.Frag} {m : Mp} {H : Hp} {st : Store} {v : V} {n : Nat} (r : Rl K m H st) (p : Rep K H m v (.ob n)) (h : isLst st n = true) : ∃ a vs, v = .ref a ∧ H a = some (.lst vs) := by
  unfold isLst at h
  split at h
  · rename_i xs hs
    obtain ⟨a, vs, h1, _, h2, _⟩ := store_lst r p hs
    exact ⟨a, vs, h1, h2⟩
  · cases h
theorem se_wr1 {id : String} {nm : Str} {R : V → List V → Hp → VK → Prop} {f : List D → D → Option (D × List D)} (slot : Slot "list" nm id) (hty : typeOf (.builtin id) = pure (.type "method_descriptor")) (hM : MtR X id R)
    (hR : ∀ (H : Hp) (m : Mp) (st : Store) (a : Addr) (n : Nat) (vs : List V) (xs ys : List D) (w : V) (d r : D) (Q : VK), Rl X.K m H st → m.m[n]? = some a → H a = some (.lst vs) → RepL X.K H m vs xs → Rep X.K H m w d → f xs d = some (r, ys) → PostV X.K m H Rep Q r (st.set n (.lst ys)) → R (.ref a) [w] H Q)
    (ho : SE X W o fo) (h : SE X W e fe) (h1 : attributeBase o nm X.env (eval o X.env) = eval o X.env := by rfl)
    (h2 : ((backTo pos (starEach [e] X.env)).all (fun x => !x.1) && (backToKw pos (keywordEach [] X.env)).all (fun x => x.1.isSome) && decide ([e].length + ([] : List Keyword).length + (if ([] : List Keyword).isEmpty then 0 else 1) < 30)) = true := by rfl)
    (h3 : (apos.endLine == pos.line) = true := by rfl) (h4 : starEach [e] X.env = (false, eval e X.env) :: starEach [] X.env := by rfl) (h5 : (backTo pos (starEach [] X.env)).any (·.1) = false := by rfl) :
    SE X W (.Call (.Attribute o nm apos) [e] [] pos) (eWr1 f fo fe) := by
  obtain ⟨t, p, q⟩ := ho
  obtain ⟨t2, p2, q2⟩ := h
  refine ⟨fun σ H Q => tBM X.K "list" R t (tCons t2 tNil) σ H Q, pe_bm PySem.F.plainAttrs_list slot hty hM p (pa_cons p2 pa_nil h4) h1 h2 h3 h4 h5, fun σ H ρ st m Q s r h => q σ H ρ st m _ s r (h.mp fun d st1 v H1 m1 e1 r1 p1 h1 => ?_)⟩
  cases d with
  | ob n =>
    dsimp only at h1
    split at h1
    · rename_i hL
      obtain ⟨a, vs0, rfl, h0⟩ := ob_lst r1 p1 hL
      refine ⟨tyV_lst h0, q2 σ H1 ρ st1 m1 _ (s.up e1) r1 (h1.mp fun y st2 w H2 m2 e2 r2 p2 h2 => ?_)⟩
      cases z : st2[n]? with
      | none => rw [z] at h2; exact h2.elim
      | some ob =>
        rw [z] at h2
        cases ob with
        | lst xs =>
          dsimp only at h2
          obtain ⟨a', vs, ea, hm2, hH, hv⟩ := store_lst r2 (p1.up e2) z
          cases ea
          cases g : f xs y with
          | none => rw [g] at h2; exact h2.elim
          | some w' =>
            rw [g] at h2
            exact hR H2 m2 st2 a n vs xs w'.2 w y w'.1 Q r2 hm2 hH hv p2 g h2
        | _ => exact h2.elim
    · exact h1.elim
  | _ => exact h1.elim
theorem se_append (ho : SE X W o fo) (h : SE X W e fe) (h1 : attributeBase o "append" X.env (eval o X.env) = eval o X.env := by rfl)
    (h2 : ((backTo pos (starEach [e] X.env)).all (fun x => !x.1) && (backToKw pos (keywordEach [] X.env)).all (fun x => x.1.isSome) && decide ([e].length + ([] : List Keyword).length + (if ([] : List Keyword).isEmpty then 0 else 1) < 30)) = true := by rfl)
    (h3 : (apos.endLine == pos.line) = true := by rfl) (h4 : starEach [e] X.env = (false, eval e X.env) :: starEach [] X.env := by rfl) (h5 : (backTo pos (starEach [] X.env)).any (·.1) = false := by rfl) :
    SE X W (.Call (.Attribute o "append" apos) [e] [] pos) (eWr1 fAppend fo fe) :=
  se_wr1 PySem.F.slot_list_append PySem.F.type_list_append mt_append (fun H m st a n vs xs ys w d r Q rl hm hH hv pd g k => by
    unfold fAppend at g
    split at g
    · rename_i hlen
      cases g
      obtain ⟨x3, r3⟩ := rl.wlst (vs := vs ++ [w]) hm (hv.append (.cons pd .nil))
      exact ⟨a, vs, w, rfl, rfl, hH, by rw [hv.length]; exact cap_lt hlen, k _ _ m x3 r3 .non⟩
    · cases g) ho h h1 h2 h3 h4 h5
theorem se_popAt (ho : SE X W o fo) (h : SE X W e fe) (h1 : attributeBase o "pop" X.env (eval o X.env) = eval o X.env := by rfl)
    (h2 : ((backTo pos (starEach [e] X.env)).all (fun x => !x.1) && (backToKw pos (keywordEach [] X.env)).all (fun x => x.1.isSome) && decide ([e].length + ([] : List Keyword).length + (if ([] : List Keyword).isEmpty then 0 else 1) < 30)) = true := by rfl)
    (h3 : (apos.endLine == pos.line) = true := by rfl) (h4 : starEach [e] X.env = (false, eval e X.env) :: starEach [] X.env := by rfl) (h5 : (backTo pos (starEach [] X.env)).any (·.1) = false := by rfl) :
    SE X W (.Call (.Attribute o "pop" apos) [e] [] pos) (eWr1 fPopAt fo fe) :=
  se_wr1 PySem.F.slot_list_pop PySem.F.type_list_pop mt_popAt (fun H m st a n vs xs ys w d r Q rl hm hH hv pd g k => by
    unfold fPopAt at g
    cases pd with
    | int i =>
      dsimp only at g
      split at g
      · rename_i hi
        cases y : xs[i.toNat]? with
        | none => rw [y] at g; cases g
        | some z =>
          rw [y] at g
          cases g
          obtain ⟨v, hv1, pv⟩ := hv.get y
          have hl : i.toNat < xs.length := (List.getElem?_eq_some_iff.mp y).1
          have hlv : i.toNat < vs.length := (List.getElem?_eq_some_iff.mp hv1).1
          obtain ⟨x3, r3⟩ := rl.wlst (vs := vs.eraseIdx i.toNat) hm (hv.eraseIdx i.toNat)
          have hk : seqIndex? i vs.length = some i.toNat := by
            unfold seqIndex?
            rw [if_neg (show ¬ i < 0 by omega)]
            have : (decide (0 ≤ i) && decide (i < (vs.length : Int))) = true := by
              rw [decide_eq_true (by omega), decide_eq_true (by omega)]
              rfl
            exact if_pos this
          exact ⟨a, vs, i, i.toNat, v, rfl, rfl, hH, by omega, by omega, hk, hv1, k _ _ m x3 r3 (pv.up x3)⟩
      · cases g
    | _ => cases g) ho h h1 h2 h3 h4 h5
theorem se_extend (ho : SE X W o fo) (h : SE X W e fe) (h1 : attributeBase o "extend" X.env (eval o X.env) = eval o X.env := by rfl)
    (h2 : ((backTo pos (starEach [e] X.env)).all (fun x => !x.1) && (backToKw pos (keywordEach [] X.env)).all (fun x => x.1.isSome) && decide ([e].length + ([] : List Keyword).length + (if ([] : List Keyword).isEmpty then 0 else 1) < 30)) = true := by rfl)
    (h3 : (apos.endLine == pos.line) = true := by rfl) (h4 : starEach [e] X.env = (false, eval e X.env) :: starEach [] X.env := by rfl) (h5 : (backTo pos (starEach [] X.env)).any (·.1) = false := by rfl) :
    SE X W (.Call (.Attribute o "extend" apos) [e] [] pos) (eWr1 fExtend fo fe) :=
  se_wr1 PySem.F.slot_list_extend PySem.F.type_list_extend mt_extend (fun H m st a n vs xs ys w d r Q rl hm hH hv pd g k => by
    unfold fExtend at g
    cases pd with
    | @lst b ws zs hb hbo hw =>
      dsimp only at g
      split at g
      · rename_i hl
        cases g
        obtain ⟨x3, r3⟩ := rl.wlst (vs := vs ++ ws) hm (hv.append hw)
        exact ⟨a, b, vs, ws, rfl, rfl, hH, hb, by rw [hv.length, hw.length]; exact cap_le hl, k _ _ m x3 r3 .non⟩
      · cases g
    | _ => cases g) ho h h1 h2 h3 h4 h5
theorem se_pop (ho : SE X W o fo) (h1 : attributeBase o "pop" X.env (eval o X.env) = eval o X.env := by rfl) (h3 : (apos.endLine == pos.line) = true := by rfl) : SE X W (.Call (.Attribute o "pop" apos) [] [] pos) (ePop fo) := by
  obtain ⟨t, p, q⟩ := ho
  refine ⟨_, pe_bm0 PySem.F.plainAttrs_list PySem.F.slot_list_pop PySem.F.type_list_pop mt_pop p h1 h3, fun σ H ρ st m Q s r h => q σ H ρ st m _ s r (h.mp fun d st1 v H1 m1 e1 r1 p1 h1 => ?_)⟩
  cases d with
  | ob n =>
    dsimp only at h1
    cases z : st1[n]? with
    | none => rw [z] at h1; exact h1.elim
    | some ob =>
      rw [z] at h1
      cases ob with
      | lst xs =>
        dsimp only at h1
        obtain ⟨a, vs, rfl, hm, hH, hv⟩ := store_lst r1 p1 z
        cases y : xs[xs.length - 1]? with
        | none => rw [y] at h1; exact h1.elim
        | some d' =>
          rw [y] at h1
          obtain ⟨v', hv', pv⟩ := hv.get y
          have hd : RepL X.K H1 m1 vs.dropLast xs.dropLast := by
            rw [List.dropLast_eq_take, List.dropLast_eq_take, hv.length]
            exact hv.take _
          obtain ⟨x3, r3⟩ := r1.wlst hm hd
          exact ⟨tyV_lst hH, a, vs, v', rfl, rfl, hH, by rw [hv.length]; exact hv', (Post.up h1 x3).go r3 (pv.up x3)⟩
      | _ => exact h1.elim
  | _ => exact h1.elim
/-! ### list(e), tuple(e) -/
def listD (st : Store) (d : D) : Option D := (itemsOf st d).map .lst
def tupleD (st : Store) (d : D) : Option D := (itemsOf st d).map .tup
theorem items_at {K : PySem.W.Frag} {m : Mp} {H : Hp} {st : Store} {v : V} {d : D} {xs : List D} (r : Rl K m H st) (p : Rep K H m v d) (e : itemsOf st d = some xs) : ∃ a vs, v = .ref a ∧ (SqL K H a vs ∨ SqT K H a vs) ∧ RepL K H m vs xs := by
  unfold itemsOf at e
  split at e
  · cases e
    cases p with
    | @tup a vs _ g1 g2 => exact ⟨a, vs, rfl, .inr g1.sq, g2⟩
  · obtain ⟨a, vs, h1, g1, g2⟩ := seqL_at r p e
    exact ⟨a, vs, h1, .inl g1, g2⟩
theorem calld_list : CallD X (.type "list") (one listD) := calld_one call_list_of fun H m st v a d Q r p e k => by
  unfold listD at e
  obtain ⟨xs, hx, rfl⟩ := Option.map_eq_some_iff.mp e
  obtain ⟨b, vs, rfl, hs, hv⟩ := items_at r p hx
  exact ⟨b, vs, rfl, hs, k.newL r hv⟩
theorem calld_tuple : CallD X (.type "tuple") (one tupleD) := calld_one call_tuple_of fun H m st v a d Q r p e k => by
  unfold tupleD at e
  obtain ⟨xs, hx, rfl⟩ := Option.map_eq_some_iff.mp e
  unfold itemsOf at hx
  split at hx
  · cases hx
    cases p with
    | @tup b vs _ g1 g2 => exact ⟨b, vs, rfl, .inr ⟨g1.sq, k.go r (.tup g1 g2)⟩⟩
  · obtain ⟨b, vs, rfl, g1, g2⟩ := seqL_at r p hx
    exact ⟨b, vs, rfl, .inl ⟨g1, k.newT r g2⟩⟩
/-- a new list that will change -/
def eListM (fa : AF) : EF := fun ρ st => (fa ρ st).bind fun xs st1 => match xs with
  | [d] => match itemsOf st1 d with
    | some ys => .ok (.ob st1.length) (st1 ++ [.lst ys])
    | none => .bad
  | _ => .bad
theorem se_listM {p : Pos} {fa : AF} (hg : Gl X "list") (hm : X.mg "list" = none) (ha : SA X W [e] fa) (h3 : starEach [e] X.env = (false, eval e X.env) :: starEach [] X.env := by rfl) (h4 : (backTo pos (starEach [] X.env)).any (·.1) = false := by rfl) :
    SE X W (.Call (.Name "list" p) [e] [] pos) (eListM fa) := by
  obtain ⟨ta, pa, qa⟩ := ha
  refine ⟨_, pe_callTy call_list_of hg hm bb_list pa (by decide) (by decide) h3 h4, fun σ H ρ st m Q s rl h => qa σ H ρ st m _ s rl (h.mp fun xs st1 vs H1 m1 e1 r1 p1 h1 => ?_)⟩
  cases p1 with
  | nil => exact h1.elim
  | cons q1 q2 =>
    cases q2 with
    | cons _ _ => exact h1.elim
    | nil =>
      rename_i v d
      dsimp only at h1
      cases z : itemsOf st1 d with
      | none => rw [z] at h1; exact h1.elim
      | some ys =>
        rw [z] at h1
        obtain ⟨b, ws, rfl, hs, hv⟩ := items_at r1 q1 z
        exact ⟨b, ws, rfl, hs, PostV.pushL (show PostV X.K m1 H1 Rep Q _ _ from h1) r1 hv⟩
/-! ### times -/
theorem RepL.rep {K : PySem.W.Frag} {m : Mp} {H : Hp} {vs : List V} {xs : List D} (h : RepL K H m vs xs) : ∀ n : Nat, RepL K H m (List.replicate n vs).flatten (List.replicate n xs).flatten
  | 0 => .nil
  | n + 1 => by
    rw [List.replicate_succ, List.replicate_succ, List.flatten_cons, List.flatten_cons]
    exact h.append (RepL.rep h n)
def bMulL : B2 := fun st x y => match y with
  | .int k => match seqW st x with
    | some xs => if 0 ≤ k ∧ k ≤ 1000 ∧ xs.length ≤ 100 then some (.lst (List.replicate k.toNat xs).flatten) else none
    | none => none
  | _ => none
theorem opd_mulL : OpD X (binaryOp .Mult) bMulL := ⟨_, op_rep, fun H m st x y dx dy d Q r px py e k => by
  cases py with
  | int j =>
    unfold bMulL at e
    dsimp only at e
    split at e
    · rename_i xs hx
      split at e
      · rename_i hc
        cases e
        obtain ⟨a, vs, rfl, h1, h2⟩ := seqW_at r px hx
        refine ⟨a, j, vs, rfl, rfl, h1, by omega, by omega, ?_, k.newL r (h2.rep j.toNat)⟩
        have : vs.length * j.toNat ≤ 100 * 1000 := Nat.mul_le_mul (by rw [h2.length]; exact hc.2.2) (by omega)
        exact Nat.le_trans this (by decide)
      · cases e
    · cases e
  | _ => cases e⟩
end
section
open AutoSeq1 (wpAny_loadPart')
open MeetsSeq
theorem tuple_mul_same (l : Addr) (items : Array Value) (n : Nat) (dd : Option Addr) (sl : Array (Option Value)) (x : Int) (u : Tok) (c0 : (decide (x < -(2 ^ 63)) || decide (x ≥ 2 ^ 63)) = false) (c1 : (items.isEmpty || x == 1) = true) :
    Meets (Builtin.«tuple.__mul__» ⟨[.ref l, .int x u], []⟩) (fun _ R s => s.heap.get? l = some { cls := .type "tuple", dict := dd, data := .seq items n, slots := sl } ∧ R (.ok (.ret (.ref l))) s) :=
  .of_wp fun prog w A R s h => by
    obtain ⟨hp, g, d, tk, os⟩ := s
    obtain ⟨hl, h⟩ := h
    have f1 := AutoSeq1.idx_int
    wp_walk using wpAny_loadPart' hl
    repeat (first
      | (refine wpAny_ite_false (decide_eq_false (by rw [c0]; exact Bool.false_ne_true)) ?_; wp_walk using wpAny_loadPart' hl)
      | (refine wpAny_ite_true (decide_eq_true c1) ?_; wp_walk using wpAny_loadPart' hl))
    exact ⟨_, rfl, h⟩
theorem tuple_mul_none (l : Addr) (items : Array Value) (n : Nat) (dd : Option Addr) (sl : Array (Option Value)) (x : Int) (u : Tok) (c0 : (decide (x < -(2 ^ 63)) || decide (x ≥ 2 ^ 63)) = false) (c1 : (items.isEmpty || x == 1) = false) (c2 : (decide (x ≤ 0) || items.isEmpty) = true) :
    Meets (Builtin.«tuple.__mul__» ⟨[.ref l, .int x u], []⟩) (fun _ R s => s.heap.get? l = some { cls := .type "tuple", dict := dd, data := .seq items n, slots := sl } ∧
      R (.ok (.ret (.ref s.heap.objs.size))) { s with heap := s.heap.push { cls := .type "tuple", data := .seq #[] } }) :=
  .of_wp fun prog w A R s h => by
    obtain ⟨hp, g, d, tk, os⟩ := s
    obtain ⟨hl, h⟩ := h
    have f1 := AutoSeq1.idx_int
    wp_walk using wpAny_loadPart' hl
    repeat (first
      | (refine wpAny_ite_false (decide_eq_false (by rw [c0]; exact Bool.false_ne_true)) ?_; wp_walk using wpAny_loadPart' hl)
      | (refine wpAny_ite_false (decide_eq_false (by rw [c1]; exact Bool.false_ne_true)) ?_; wp_walk using wpAny_loadPart' hl)
      | (refine wpAny_ite_true (decide_eq_true c2) ?_; wp_walk using wpAny_loadPart' hl))
    exact ⟨_, rfl, h⟩
end
section
variable {X : Cx} {W : WX} {e : Expr} {fe : EF} {pos : Pos}
/-- what stands between a tuple times an int and the method -/
theorem mul_road {M : Model} {A : Around} {E : Value → Shared → Prop} {s : Shared} {l : Addr} {items : Array Value} {n : Nat} {dd : Option Addr} {sl : Array (Option Value)} {k : Int} {t : Tok} {Q : Value → Shared → Prop} (P : Program) (w : World) (ho : s.heap.get? l = some { cls := .type "tuple", dict := dd, data := .seq items n, slots := sl })
    (h : wpAny (model P w) A (call (.builtin "tuple.__mul__") [.ref l, .int k t]) Q E s) : wpAny (model P w) A (binaryOp .Mult (.ref l) (.int k t)) Q E s :=
  wpAny_binaryOp_repeat_ref (T := "tuple") (U := "int") (by decide) ⟨_, ho, rfl⟩ (fun s' => typeIs_int s' k t) noFill_tuple_mul F.fills_int_mul F.slot_int_rmul repeat_tuple F.slot_int_index.lookup
    (call_meets F.slot_int_rmul (typeIs_int s k t) F.entry_int_rmul (F.args_int_rmul_2 _ _) (int_rmul_tuple k t l items n dd sl) ⟨ho, rfl, ⟨_, ho, rfl⟩, h⟩)
def rMulT (K : PySem.W.Frag) : R2 := fun x y H Q => ∃ l k xs, x = .ref l ∧ y = .int k ∧ SqT K H l xs ∧ 0 ≤ k ∧ k ≤ 1000 ∧ xs.length ≤ 1000 ∧ ((xs = [] ∨ k = 1) → Q (.ref l) H) ∧ ∀ p, H p = none → Q (.ref p) (upd H p (.tup (List.replicate k.toNat xs).flatten))
theorem op_mulT : OpR X (binaryOp .Mult) (rMulT X.K) := by
  intro pins s σ H x y v u Q I rx ry h
  obtain ⟨l, k, xs, rfl, rfl, hT, h0, h1, hz, q1, q2⟩ := h
  by_cases hs : xs = [] ∨ k = 1
  · cases rx
    obtain ⟨t, rfl⟩ := ry
    obtain ⟨its, r, ⟨⟨cls, dd, data, sl⟩, ho, hc, n, hd⟩, hs2⟩ := I.tuple hT
    simp only at hc hd
    subst hc hd
    have c0 : (decide (k < -(2 ^ 63)) || decide (k ≥ 2 ^ 63)) = false := by
      rw [decide_eq_false (by omega), decide_eq_false (by omega)] <;> rfl
    have c1 : (its.toArray.isEmpty || k == 1) = true := by
      rcases hs with e | e
      · subst e
        cases r
        rfl
      · rw [e]
        simp
    refine mul_road (M := model X.prog X.w) X.prog X.w ho (call_meets PySem.F.slot_tuple_mul ⟨_, ho, rfl⟩ PySem.F.entry_tuple_mul (PySem.F.args_tuple_mul_2 _ _) (tuple_mul_same l its.toArray n dd sl k t c0 c1) ⟨ho, ?_⟩)
    exact ⟨.ref l, H, I, rfl, q1 hs⟩
  · have hne : xs ≠ [] := fun z => hs (.inl z)
    have hk1 : k ≠ 1 := fun z => hs (.inr z)
    by_cases hk : 2 ≤ k
    · exact op_repT pins s σ H (.ref l) (.int k) v u Q I rx ry ⟨l, k, xs, rfl, rfl, hT, hne, hk, h1, hz, q2⟩
    · have e0 : k = 0 := by omega
      subst e0
      cases rx
      obtain ⟨t, rfl⟩ := ry
      obtain ⟨its, r, ⟨⟨cls, dd, data, sl⟩, ho, hc, n, hd⟩, hs2⟩ := I.tuple hT
      simp only at hc hd
      subst hc hd
      have hi : its.toArray.isEmpty = false := by
        cases its with
        | nil => cases r; exact absurd rfl hne
        | cons a b => rfl
      refine mul_road (M := model X.prog X.w) X.prog X.w ho (call_meets PySem.F.slot_tuple_mul ⟨_, ho, rfl⟩ PySem.F.entry_tuple_mul (PySem.F.args_tuple_mul_2 _ _) (tuple_mul_none l its.toArray n dd sl 0 t (by decide) (by rw [hi]; rfl) (by rw [hi]; rfl)) ⟨ho, ?_⟩)
      refine ⟨.ref s.heap.objs.size, _, I.laid (t' := s.toks) (o := .tup []) (fun b ob q => Heap.get?_push_of_some _ q) (Nat.le_refl _) ?_, rfl, q2 _ (I.hok.fresh (Nat.le_refl _))⟩
      exact ⟨by decide, [], .nil, IsTup.new _ _⟩
def bMulT : B2 := fun _ x y => match x, y with
  | .tup xs, .int k => if 0 ≤ k ∧ k ≤ 1000 ∧ xs.length ≤ 1000 then some (.tup (List.replicate k.toNat xs).flatten) else none
  | _, _ => none
theorem opd_mulT : OpD X (binaryOp .Mult) bMulT := ⟨_, op_mulT, fun H m st x y dx dy d Q r px py e k => by
  cases px with
  | @tup a vs xs h1 h2 =>
    cases py with
    | int j =>
      unfold bMulT at e
      dsimp only at e
      split at e
      · rename_i hc
        cases e
        have key := h2.rep j.toNat
        refine ⟨a, j, vs, rfl, rfl, h1.sq, hc.1, hc.2.1, by rw [h2.length]; exact hc.2.2, fun z => ?_, k.newT r key⟩
        have ev : (List.replicate j.toNat vs).flatten = vs := by
          rcases z with z | z
          · subst z; simp
          · subst z; simp
        rw [ev] at key
        exact k.go r (.tup h1 key)
      · cases e
    | _ => cases e
  | _ => cases py <;> cases e⟩
end
end DX

/-! DX E0: == and != of a dict and something else -/
namespace DX
open PySem PySem.Spec PyProof.Rows L2
variable [TB0]
open AutoSeq1 (wpAny_loadPart')
open MeetsSeq SeqAt
/-- what stands at v, by kinds -/
inductive Ck (s : Shared) : Value → Tg → Prop
  | non : Ck s .none .none
  | bl (b : Bool) : Ck s (.bool b) .bool
  | int (i : Int) (t : Tok) : Ck s (.int i t) .int
  | str (x : Str) (t : Tok) : Ck s (.str x t) .str
  | lst {l : Addr} {is : Array Value} (h : s.heap.IsList l is) : Ck s (.ref l) .list
  | tup {l : Addr} {is : Array Value} (h : s.heap.IsTuple l is) : Ck s (.ref l) .tuple
  | dict {l : Addr} {dd : Option Addr} {es : Array DictEntry} {n : Nat} {sl : Array (Option Value)} (h : s.heap.get? l = some { cls := .type "dict", dict := dd, data := .dict es n, slots := sl }) : Ck s (.ref l) .dict
theorem Ck.ty {s : Shared} {v : Value} {T : Tg} (c : Ck s v T) : s.TypeIs v T.name := by
  cases c with
  | non => rfl
  | bl b => rfl
  | int i t => rfl
  | str x t => rfl
  | lst h => exact h.typeIs
  | tup h => exact h.typeIs
  | dict h => exact ⟨_, h, rfl⟩
section
variable {dd : Option Addr} {es : Array DictEntry} {n : Nat} {sl : Array (Option Value)} (l : Addr)
theorem i_dec (i : Int) (t : Tok) : Meets (Builtin.«int.__eq__» ⟨[.int i t, .ref l], []⟩) (fun _ R s => s.heap.get? l = some { cls := .type "dict", dict := dd, data := .dict es n, slots := sl } ∧ R (.ok (.ret .notImplemented)) s) :=
  .of_wp fun prog w A R s h => by
    obtain ⟨hp, g, d, tk, os⟩ := s
    obtain ⟨hl, k⟩ := h
    wp_walk using wpAny_loadPart' hl, wpAny_load hl
    exact ⟨_, rfl, k⟩
theorem b_dec (i : Bool) : Meets (Builtin.«int.__eq__» ⟨[.bool i, .ref l], []⟩) (fun _ R s => s.heap.get? l = some { cls := .type "dict", dict := dd, data := .dict es n, slots := sl } ∧ R (.ok (.ret .notImplemented)) s) :=
  .of_wp fun prog w A R s h => by
    obtain ⟨hp, g, d, tk, os⟩ := s
    obtain ⟨hl, k⟩ := h
    wp_walk using wpAny_loadPart' hl, wpAny_load hl
    exact ⟨_, rfl, k⟩
theorem s_dec (i : Str) (t : Tok) : Meets (Builtin.«str.__eq__» ⟨[.str i t, .ref l], []⟩) (fun _ R s => s.heap.get? l = some { cls := .type "dict", dict := dd, data := .dict es n, slots := sl } ∧ R (.ok (.ret .notImplemented)) s) :=
  .of_wp fun prog w A R s h => by
    obtain ⟨hp, g, d, tk, os⟩ := s
    obtain ⟨hl, k⟩ := h
    wp_walk using wpAny_loadPart' hl, wpAny_load hl
    exact ⟨_, rfl, k⟩
theorem i_decN (i : Int) (t : Tok) : Meets (Builtin.«int.__ne__» ⟨[.int i t, .ref l], []⟩) (fun _ R s => s.heap.get? l = some { cls := .type "dict", dict := dd, data := .dict es n, slots := sl } ∧ R (.ok (.ret .notImplemented)) s) :=
  .of_wp fun prog w A R s h => by
    obtain ⟨hp, g, d, tk, os⟩ := s
    obtain ⟨hl, k⟩ := h
    wp_walk using wpAny_loadPart' hl, wpAny_load hl
    exact ⟨_, rfl, k⟩
theorem b_decN (i : Bool) : Meets (Builtin.«int.__ne__» ⟨[.bool i, .ref l], []⟩) (fun _ R s => s.heap.get? l = some { cls := .type "dict", dict := dd, data := .dict es n, slots := sl } ∧ R (.ok (.ret .notImplemented)) s) :=
  .of_wp fun prog w A R s h => by
    obtain ⟨hp, g, d, tk, os⟩ := s
    obtain ⟨hl, k⟩ := h
    wp_walk using wpAny_loadPart' hl, wpAny_load hl
    exact ⟨_, rfl, k⟩
theorem s_decN (i : Str) (t : Tok) : Meets (Builtin.«str.__ne__» ⟨[.str i t, .ref l], []⟩) (fun _ R s => s.heap.get? l = some { cls := .type "dict", dict := dd, data := .dict es n, slots := sl } ∧ R (.ok (.ret .notImplemented)) s) :=
  .of_wp fun prog w A R s h => by
    obtain ⟨hp, g, d, tk, os⟩ := s
    obtain ⟨hl, k⟩ := h
    wp_walk using wpAny_loadPart' hl, wpAny_load hl
    exact ⟨_, rfl, k⟩
theorem l_dec (x : Addr) (is : Array Value) (m : Nat) (da : Option Addr) (sx : Array (Option Value)) : Meets (Builtin.«list.__eq__» ⟨[.ref x, .ref l], []⟩) (fun _ R s => s.heap.get? x = some { cls := .type "list", dict := da, data := .seq is m, slots := sx } ∧ s.heap.get? l = some { cls := .type "dict", dict := dd, data := .dict es n, slots := sl } ∧ R (.ok (.ret .notImplemented)) s) :=
  .of_wp fun prog w A R s h => by
    obtain ⟨hp, g, d, tk, os⟩ := s
    obtain ⟨hx, hl, k⟩ := h
    have ff := F.sub_dict_list
    wp_walk using wpAny_loadPart' hx, wpAny_loadPart' hl
    exact ⟨_, rfl, k⟩
theorem l_decN (x : Addr) (is : Array Value) (m : Nat) (da : Option Addr) (sx : Array (Option Value)) : Meets (Builtin.«list.__ne__» ⟨[.ref x, .ref l], []⟩) (fun _ R s => s.heap.get? x = some { cls := .type "list", dict := da, data := .seq is m, slots := sx } ∧ s.heap.get? l = some { cls := .type "dict", dict := dd, data := .dict es n, slots := sl } ∧ R (.ok (.ret .notImplemented)) s) :=
  .of_wp fun prog w A R s h => by
    obtain ⟨hp, g, d, tk, os⟩ := s
    obtain ⟨hx, hl, k⟩ := h
    have ff := F.sub_dict_list
    wp_walk using wpAny_loadPart' hx, wpAny_loadPart' hl
    exact ⟨_, rfl, k⟩
theorem t_dec (x : Addr) (is : Array Value) (m : Nat) (da : Option Addr) (sx : Array (Option Value)) : Meets (Builtin.«tuple.__eq__» ⟨[.ref x, .ref l], []⟩) (fun _ R s => s.heap.get? x = some { cls := .type "tuple", dict := da, data := .seq is m, slots := sx } ∧ s.heap.get? l = some { cls := .type "dict", dict := dd, data := .dict es n, slots := sl } ∧ R (.ok (.ret .notImplemented)) s) :=
  .of_wp fun prog w A R s h => by
    obtain ⟨hp, g, d, tk, os⟩ := s
    obtain ⟨hx, hl, k⟩ := h
    have ff := F.sub_dict_tuple
    wp_walk using wpAny_loadPart' hx, wpAny_loadPart' hl
    exact ⟨_, rfl, k⟩
theorem t_decN (x : Addr) (is : Array Value) (m : Nat) (da : Option Addr) (sx : Array (Option Value)) : Meets (Builtin.«tuple.__ne__» ⟨[.ref x, .ref l], []⟩) (fun _ R s => s.heap.get? x = some { cls := .type "tuple", dict := da, data := .seq is m, slots := sx } ∧ s.heap.get? l = some { cls := .type "dict", dict := dd, data := .dict es n, slots := sl } ∧ R (.ok (.ret .notImplemented)) s) :=
  .of_wp fun prog w A R s h => by
    obtain ⟨hp, g, d, tk, os⟩ := s
    obtain ⟨hx, hl, k⟩ := h
    have ff := F.sub_dict_tuple
    wp_walk using wpAny_loadPart' hx, wpAny_loadPart' hl
    exact ⟨_, rfl, k⟩
end
section
variable {prog : Program} {w : World} {A : Around} {E : Value → Shared → Prop} {s : Shared} {x y : Value} {T U : Tg} {Q : Value → Shared → Prop}
/-- who answers ==, != -/
def eqId : Tg → String
  | .none => "NoneType.__eq__" | .bool => "int.__eq__" | .int => "int.__eq__" | .str => "str.__eq__" | .list => "list.__eq__" | .tuple => "tuple.__eq__" | .dict => "dict.__eq__"
def neId : Tg → String
  | .none => "NoneType.__ne__" | .bool => "int.__ne__" | .int => "int.__ne__" | .str => "str.__ne__" | .list => "list.__ne__" | .tuple => "tuple.__ne__" | .dict => "dict.__ne__"
theorem ck_sub (cx : Ck s x T) (h : T ≠ .dict) : isSubtype (.type T.name) (.type "dict") = pure false ∧ isSubtype (.type "dict") (.type T.name) = pure false := by
  cases cx with
  | non => exact ⟨PySem.F.sub_NoneType_dict, PySem.F.sub_dict_NoneType⟩
  | bl b => exact ⟨PySem.F.sub_bool_dict, PySem.F.sub_dict_bool⟩
  | int i t => exact ⟨PySem.F.sub_int_dict, PySem.F.sub_dict_int⟩
  | str x t => exact ⟨PySem.F.sub_str_dict, PySem.F.sub_dict_str⟩
  | lst h => exact ⟨PySem.F.sub_list_dict, PySem.F.sub_dict_list⟩
  | tup h => exact ⟨PySem.F.sub_tuple_dict, PySem.F.sub_dict_tuple⟩
  | dict h => exact absurd rfl ‹_›
theorem dict_dec (cx : Ck s x .dict) (cy : Ck s y T) (h : T ≠ .dict) (k : Q .notImplemented s) : wpAny (model prog w) A (call (.builtin "dict.__eq__") [x, y]) Q E s := by
  refine wpAny_call_entry PySem.F.slot_dict_eq cx.ty PySem.F.entry_dict_eq ?_ (PySem.F.args_dict_eq_2 _ _)
  show wpAny _ _ (Builtin.Dict.dictSlotArgs "__eq__" ⟨[x, y], []⟩ >>= _) _ _ s
  refine wpAny_bind ?_
  unfold Builtin.Dict.dictSlotArgs
  refine wpAny_bind (wpAny_notOrdered_dict cx.ty ?_)
  show wpAny _ _ (pure (x, y)) _ _ s
  refine wpAny_pure (wpAny_bind (wpAny_isInstance cy.ty (ck_sub cy h).1 ?_))
  simp only [Bool.not_false, if_true]
  exact wpAny_bind (wpAny_rule (wpAny_pure ⟨_, rfl, k⟩))
theorem dict_decN (cx : Ck s x .dict) (cy : Ck s y T) (h : T ≠ .dict) (k : Q .notImplemented s) : wpAny (model prog w) A (call (.builtin "dict.__ne__") [x, y]) Q E s := by
  refine wpAny_call_entry PySem.F.slot_dict_ne cx.ty PySem.F.entry_dict_ne ?_ (PySem.F.args_dict_ne_2 _ _)
  show wpAny _ _ (Builtin.Dict.dictSlotArgs "__ne__" ⟨[x, y], []⟩ >>= _) _ _ s
  refine wpAny_bind ?_
  unfold Builtin.Dict.dictSlotArgs
  refine wpAny_bind (wpAny_notOrdered_dict cx.ty ?_)
  show wpAny _ _ (pure (x, y)) _ _ s
  refine wpAny_pure (wpAny_bind (wpAny_isInstance cy.ty (ck_sub cy h).1 ?_))
  simp only [Bool.not_false, if_true]
  exact wpAny_bind (wpAny_rule (wpAny_pure ⟨_, rfl, k⟩))
theorem oth_dec (cx : Ck s x T) (cy : Ck s y .dict) (h : T ≠ .dict) (k : Q .notImplemented s) : wpAny (model prog w) A (call (.builtin (eqId T)) [x, y]) Q E s := by
  cases cy with
  | @dict l dd es n sl hl =>
    cases cx with
    | non => exact call_gives PySem.F.slot_NoneType_eq rfl PySem.F.entry_NoneType_eq (PySem.F.args_NoneType_eq_2 _ _) (NoneType___eq___none_ref_0 l) k
    | bl b => exact call_meets PySem.F.slot_bool_eq rfl PySem.F.entry_int_eq (PySem.F.args_int_eq_2 _ _) (b_dec l b) ⟨hl, k⟩
    | int i t => exact call_meets PySem.F.slot_int_eq rfl PySem.F.entry_int_eq (PySem.F.args_int_eq_2 _ _) (i_dec l i t) ⟨hl, k⟩
    | str x t => exact call_meets PySem.F.slot_str_eq rfl PySem.F.entry_str_eq (PySem.F.args_str_eq_2 _ _) (s_dec l x t) ⟨hl, k⟩
    | lst hx =>
      obtain ⟨⟨c1, d1, dt, s1⟩, ho, hc, m, hd⟩ := id hx
      simp only at hc hd
      subst hc hd
      exact call_meets PySem.F.slot_list_eq ⟨_, ho, rfl⟩ PySem.F.entry_list_eq (PySem.F.args_list_eq_2 _ _) (l_dec l _ _ m d1 s1) ⟨ho, hl, k⟩
    | tup hx =>
      obtain ⟨⟨c1, d1, dt, s1⟩, ho, hc, m, hd⟩ := id hx
      simp only at hc hd
      subst hc hd
      exact call_meets PySem.F.slot_tuple_eq ⟨_, ho, rfl⟩ PySem.F.entry_tuple_eq (PySem.F.args_tuple_eq_2 _ _) (t_dec l _ _ m d1 s1) ⟨ho, hl, k⟩
    | dict h => exact absurd rfl ‹_›
theorem oth_decN (cx : Ck s x T) (cy : Ck s y .dict) (h : T ≠ .dict) (k : Q .notImplemented s) : wpAny (model prog w) A (call (.builtin (neId T)) [x, y]) Q E s := by
  cases cy with
  | @dict l dd es n sl hl =>
    cases cx with
    | non => exact call_gives PySem.F.slot_NoneType_ne rfl PySem.F.entry_NoneType_ne (PySem.F.args_NoneType_ne_2 _ _) (NoneType___ne___none_ref_0 l) k
    | bl b => exact call_meets PySem.F.slot_bool_ne rfl PySem.F.entry_int_ne (PySem.F.args_int_ne_2 _ _) (b_decN l b) ⟨hl, k⟩
    | int i t => exact call_meets PySem.F.slot_int_ne rfl PySem.F.entry_int_ne (PySem.F.args_int_ne_2 _ _) (i_decN l i t) ⟨hl, k⟩
    | str x t => exact call_meets PySem.F.slot_str_ne rfl PySem.F.entry_str_ne (PySem.F.args_str_ne_2 _ _) (s_decN l x t) ⟨hl, k⟩
    | lst hx =>
      obtain ⟨⟨c1, d1, dt, s1⟩, ho, hc, m, hd⟩ := id hx
      simp only at hc hd
      subst hc hd
      exact call_meets PySem.F.slot_list_ne ⟨_, ho, rfl⟩ PySem.F.entry_list_ne (PySem.F.args_list_ne_2 _ _) (l_decN l _ _ m d1 s1) ⟨ho, hl, k⟩
    | tup hx =>
      obtain ⟨⟨c1, d1, dt, s1⟩, ho, hc, m, hd⟩ := id hx
      simp only at hc hd
      subst hc hd
      exact call_meets PySem.F.slot_tuple_ne ⟨_, ho, rfl⟩ PySem.F.entry_tuple_ne (PySem.F.args_tuple_ne_2 _ _) (t_decN l _ _ m d1 s1) ⟨ho, hl, k⟩
    | dict h => exact absurd rfl ‹_›
theorem ck_slot (cx : Ck s x T) : Slot T.name (cmpInfo .Eq).2.1 (eqId T) ∧ Slot T.name (cmpInfo .Eq).2.2 (eqId T) ∧ Slot T.name (cmpInfo .NotEq).2.1 (neId T) ∧ Slot T.name (cmpInfo .NotEq).2.2 (neId T) := by
  cases cx with
  | non => exact ⟨PySem.F.slot_NoneType_eq, PySem.F.slot_NoneType_eq_refl, PySem.F.slot_NoneType_ne, PySem.F.slot_NoneType_ne_refl⟩
  | bl b => exact ⟨PySem.F.slot_bool_eq, PySem.F.slot_bool_eq_refl, PySem.F.slot_bool_ne, PySem.F.slot_bool_ne_refl⟩
  | int i t => exact ⟨PySem.F.slot_int_eq, PySem.F.slot_int_eq_refl, PySem.F.slot_int_ne, PySem.F.slot_int_ne_refl⟩
  | str x t => exact ⟨PySem.F.slot_str_eq, PySem.F.slot_str_eq_refl, PySem.F.slot_str_ne, PySem.F.slot_str_ne_refl⟩
  | lst h => exact ⟨PySem.F.slot_list_eq, PySem.F.slot_list_eq_refl, PySem.F.slot_list_ne, PySem.F.slot_list_ne_refl⟩
  | tup h => exact ⟨PySem.F.slot_tuple_eq, PySem.F.slot_tuple_eq_refl, PySem.F.slot_tuple_ne, PySem.F.slot_tuple_ne_refl⟩
  | dict h => exact ⟨PySem.F.slot_dict_eq, PySem.F.slot_dict_eq_refl, PySem.F.slot_dict_ne, PySem.F.slot_dict_ne_refl⟩
theorem ck_dec (cx : Ck s x T) (cy : Ck s y U) (h : (T = .dict ∧ U ≠ .dict) ∨ (T ≠ .dict ∧ U = .dict)) (k : Q .notImplemented s) : wpAny (model prog w) A (call (.builtin (eqId T)) [x, y]) Q E s := by
  rcases h with ⟨h1, h2⟩ | ⟨h1, h2⟩
  · subst h1; exact dict_dec cx cy h2 k
  · subst h2; exact oth_dec cx cy h1 k
theorem ck_decN (cx : Ck s x T) (cy : Ck s y U) (h : (T = .dict ∧ U ≠ .dict) ∨ (T ≠ .dict ∧ U = .dict)) (k : Q .notImplemented s) : wpAny (model prog w) A (call (.builtin (neId T)) [x, y]) Q E s := by
  rcases h with ⟨h1, h2⟩ | ⟨h1, h2⟩
  · subst h1; exact dict_decN cx cy h2 k
  · subst h2; exact oth_decN cx cy h1 k
theorem ck_same (cx : Ck s x T) (cy : Ck s y U) (h : (T = .dict ∧ U ≠ .dict) ∨ (T ≠ .dict ∧ U = .dict)) {Q' : Bool → Shared → Prop} (k : Q' false s) : wpAny (model prog w) A (isSame x y) Q' E s := by
  rcases h with ⟨h1, h2⟩ | ⟨h1, h2⟩
  · subst h1
    cases cx with
    | dict hl =>
      cases cy with
      | non => exact wpAny_of_eq (show isSame _ _ = pure false from rfl) k
      | bl b => exact wpAny_of_eq (show isSame _ _ = pure false from rfl) k
      | int i t => exact wpAny_of_eq (show isSame _ _ = pure false from rfl) k
      | str i t => exact wpAny_of_eq (show isSame _ _ = pure false from rfl) k
      | lst hx =>
        obtain ⟨o, ho, hc, m, hd⟩ := id hx
        exact wpAny_isSame_ref_other (fun e => by rw [e, ho] at hl; cases hl; exact absurd hc (by simp)) hl ho (by simp) k
      | tup hx =>
        obtain ⟨o, ho, hc, m, hd⟩ := id hx
        exact wpAny_isSame_ref_other (fun e => by rw [e, ho] at hl; cases hl; exact absurd hc (by simp)) hl ho (by simp) k
      | dict _ => exact absurd rfl h2
  · subst h2
    cases cy with
    | dict hl =>
      cases cx with
      | non => exact wpAny_of_eq (show isSame _ _ = pure false from rfl) k
      | bl b => exact wpAny_of_eq (show isSame _ _ = pure false from rfl) k
      | int i t => exact wpAny_of_eq (show isSame _ _ = pure false from rfl) k
      | str i t => exact wpAny_of_eq (show isSame _ _ = pure false from rfl) k
      | lst hx =>
        obtain ⟨o, ho, hc, m, hd⟩ := id hx
        exact wpAny_isSame_ref_other' (fun e => by rw [← e, ho] at hl; cases hl; exact absurd hc (by simp)) ho hl (by simp) k
      | tup hx =>
        obtain ⟨o, ho, hc, m, hd⟩ := id hx
        exact wpAny_isSame_ref_other' (fun e => by rw [← e, ho] at hl; cases hl; exact absurd hc (by simp)) ho hl (by simp) k
      | dict _ => exact absurd rfl h1
/-- a dict and something else are not equal -/
theorem rc_apart (cx : Ck s x T) (cy : Ck s y U) (h : (T = .dict ∧ U ≠ .dict) ∨ (T ≠ .dict ∧ U = .dict)) (hu : A.units < cLine) (k : Q (.bool false) s) : wpAny (model prog w) A (richCompare .Eq x y) Q E s := by
  have hne : (Value.type T.name != Value.type U.name) = true := by
    rcases h with ⟨h1, h2⟩ | ⟨h1, h2⟩
    · subst h1; cases U <;> first | exact absurd rfl h2 | decide
    · subst h2; cases T <;> first | exact absurd rfl h1 | decide
  have hsub : isSubtype (.type U.name) (.type T.name) = pure false := by
    rcases h with ⟨h1, h2⟩ | ⟨h1, h2⟩
    · subst h1; exact (ck_sub cy h2).1
    · subst h2; exact (ck_sub cx h1).2
  exact rc_eq_decline_or cx.ty cy.ty hne hsub (ck_slot cx).1 (ck_slot cy).2.1 (fun _ hq => ck_dec cx cy h hq) (fun _ hq => ck_dec cy cx (h.elim (fun z => .inr ⟨z.2, z.1⟩) fun z => .inl ⟨z.2, z.1⟩) hq) (fun _ hq => ck_same cx cy h hq) (.inr hu) k
theorem rc_apartN (cx : Ck s x T) (cy : Ck s y U) (h : (T = .dict ∧ U ≠ .dict) ∨ (T ≠ .dict ∧ U = .dict)) (hu : A.units < cLine) (k : Q (.bool true) s) : wpAny (model prog w) A (richCompare .NotEq x y) Q E s := by
  have hne : (Value.type T.name != Value.type U.name) = true := by
    rcases h with ⟨h1, h2⟩ | ⟨h1, h2⟩
    · subst h1; cases U <;> first | exact absurd rfl h2 | decide
    · subst h2; cases T <;> first | exact absurd rfl h1 | decide
  have hsub : isSubtype (.type U.name) (.type T.name) = pure false := by
    rcases h with ⟨h1, h2⟩ | ⟨h1, h2⟩
    · subst h1; exact (ck_sub cy h2).1
    · subst h2; exact (ck_sub cx h1).2
  exact rc_ne_decline_or (k := false) cx.ty cy.ty hne hsub (ck_slot cx).2.2.1 (ck_slot cy).2.2.2 (fun _ hq => ck_decN cx cy h hq) (fun _ hq => ck_decN cy cx (h.elim (fun z => .inr ⟨z.2, z.1⟩) fun z => .inl ⟨z.2, z.1⟩) hq) (fun _ hq => ck_same cx cy h hq) (.inr hu) k
end
end DX

/-! DX E1: == and != of lists and tuples whose items' == may change the state, but for what J says -/
namespace DX
open PySem PySem.Spec PyProof.Rows L2
variable [TB0]
open AutoSeq1 (wpAny_loadPart')
open MeetsSeq MeetsSeq2 MeetsSeq3 SeqRoads2
section
variable {prog : Program} {w : World} {J : Shared → Prop}
/-- y == x answers b and keeps J -/
def EqJ (prog : Program) (w : World) (J : Shared → Prop) (A : Around) (y x : Value) (b : Bool) : Prop := ∀ (E : Value → Shared → Prop) (Q : Bool → Shared → Prop) (s : Shared), J s → (∀ s', J s' → Q b s') → wpAny (model prog w) A (eqBool y x) Q E s
/-- .. in this state -/
def EqS (prog : Program) (w : World) (J : Shared → Prop) (A : Around) (y x : Value) (b : Bool) (s : Shared) : Prop := ∀ (E : Value → Shared → Prop) (Q : Bool → Shared → Prop), (∀ s', J s' → Q b s') → wpAny (model prog w) A (eqBool y x) Q E s
/-- .. pair by pair, up to the first that are not equal -/
inductive PairsJ (prog : Program) (w : World) (J : Shared → Prop) (A : Around) : List (Value × Value) → Bool → Prop
  | nil : PairsJ prog w J A [] true
  | no {y x : Value} {r : List (Value × Value)} : EqJ prog w J A y x false → PairsJ prog w J A ((y, x) :: r) false
  | yes {y x : Value} {r : List (Value × Value)} {b : Bool} : EqJ prog w J A y x true → PairsJ prog w J A r b → PairsJ prog w J A ((y, x) :: r) b
theorem PairsJ.inv {A : Around} {y x : Value} {r : List (Value × Value)} {b : Bool} (h : PairsJ prog w J A ((y, x) :: r) b) : (EqJ prog w J A y x false ∧ b = false) ∨ (EqJ prog w J A y x true ∧ PairsJ prog w J A r b) := by
  cases h with
  | no h => exact .inl ⟨h, rfl⟩
  | yes h t => exact .inr ⟨h, t⟩
theorem PairsJ.inv0 {A : Around} {b : Bool} (h : PairsJ prog w J A [] b) : b = true := by cases h; rfl
section
variable {l m : Addr} {es : List (Option Bool)} {A0 : Around}
/-- the answers, up to the first False -/
def foldE : List (Option Bool) → Option Bool
  | [] => some true
  | some true :: r => foldE r
  | c :: _ => c
/-- two lists stand there, as long as es; es tells of their items -/
def TwoL (prog : Program) (w : World) (J : Shared → Prop) (A0 : Around) (l m : Addr) (es : List (Option Bool)) : Prop := ∀ s, J s → ∃ us vs : Array Value, us.size = es.length ∧ vs.size = es.length ∧
  (∃ n n2 dd dd2 sl sl2, s.heap.get? l = some { cls := .type "list", dict := dd, data := .seq us n, slots := sl } ∧ s.heap.get? m = some { cls := .type "list", dict := dd2, data := .seq vs n2, slots := sl2 }) ∧
  ∀ i (h1 : i < us.size) (h2 : i < vs.size) c, es[i]? = some (some c) → EqS prog w J A0 us[i] vs[i] c s
theorem j_loop (T : TwoL prog w J A0 l m es) : ∀ (k i : Nat), es.length - i = k → ∀ t, foldE (es.drop i) = some t → MeetsIn prog w (Builtin.«list.__eq__.loop» ⟨[.ref l, .ref m, rawInt i, rawInt 2], []⟩)
    (fun A R s => A.in1 = A0 ∧ J s ∧ ∀ s', J s' → R (.ok (.ret (.bool (t)))) s') := by
  intro k
  induction k with
  | zero =>
    intro i hk t ht A R s h
    obtain ⟨hA, hj, hR⟩ := h
    obtain ⟨us, vs, hu, hv, ⟨n, n2, dd, dd2, sl, sl2, hl, hm⟩, hp⟩ := T s hj
    rw [List.drop_of_length_le (by omega)] at ht
    cases ht
    have z := hR s hj
    obtain ⟨h0, g0, d0, tk, os⟩ := s
    wp_walk using wpAny_loadPart' hl, wpAny_loadPart' hm
    rw [show us[((i : Nat) : Int).toNat]? = none by simp; omega, show vs[((i : Nat) : Int).toNat]? = none by simp; omega]
    wp_walk using wpAny_loadPart' hl, wpAny_loadPart' hm
    show R (.ok (.ret (.bool (us.size == vs.size)))) _
    rw [hu, hv, beq_self_eq_true]
    exact z
  | succ k ih =>
    intro i hk t ht A R s h
    obtain ⟨hA, hj, hR⟩ := h
    obtain ⟨us, vs, hu, hv, ⟨n, n2, dd, dd2, sl, sl2, hl, hm⟩, hp⟩ := T s hj
    have i0 : i < es.length := by omega
    have i1 : i < us.size := by omega
    have i2 : i < vs.size := by omega
    rw [List.drop_eq_getElem_cons i0] at ht
    have g1 : us[((i : Nat) : Int).toNat]? = some us[i] := by simp [i1]
    have g2 : vs[((i : Nat) : Int).toNat]? = some vs[i] := by simp [i2]
    have hj0 := hj
    have hpi := hp i i1 i2
    rw [List.getElem?_eq_getElem i0] at hpi
    obtain ⟨h0, g0, d0, tk, os⟩ := s
    wp_walk using wpAny_loadPart' hl, wpAny_loadPart' hm
    rw [g1, g2]
    rw [hA]
    cases c : es[i] with
    | none => rw [c] at ht; cases ht
    | some b =>
      have he := hpi b (by rw [c])
      rw [c] at ht
      refine wpAny_bind (he _ _ fun s2 hj2 => ?_)
      cases b with
      | false =>
        cases ht
        obtain ⟨us', vs', hu', hv', ⟨n', n2', dd', dd2', sl', sl2', hl2, hm2⟩, hp'⟩ := T s2 hj2
        have z := hR s2 hj2
        have g1' : us'[((i : Nat) : Int).toNat]? = some (us'[i]'(by omega)) := by simp [show i < us'.size by omega]
        have g2' : vs'[((i : Nat) : Int).toNat]? = some (vs'[i]'(by omega)) := by simp [show i < vs'.size by omega]
        obtain ⟨h0', g0', d0', tk', os'⟩ := s2
        wp_walk using wpAny_loadPart' hl2, wpAny_loadPart' hm2
        rw [g1', g2']
        wp_walk
        exact z
      | true =>
        have hc : ((i : Int) + 1) = ((i + 1 : Nat) : Int) := by push_cast; rfl
        wp_walk
        rw [hc]
        exact ⟨plainId_quiet plain_eq_loop _, codeAny_builtin entry_eq_loop (by
          rw [Around.under_plainId plain_eq_loop _]
          exact ih (i + 1) (by omega) t ht A R _ ⟨hA, hj2, hR⟩)⟩
theorem j_loopN (T : TwoL prog w J A0 l m es) : ∀ (k i : Nat), es.length - i = k → ∀ t, foldE (es.drop i) = some t → MeetsIn prog w (Builtin.«list.__eq__.loop» ⟨[.ref l, .ref m, rawInt i, rawInt 3], []⟩)
    (fun A R s => A.in1 = A0 ∧ J s ∧ ∀ s', J s' → R (.ok (.ret (.bool (!t)))) s') := by
  intro k
  induction k with
  | zero =>
    intro i hk t ht A R s h
    obtain ⟨hA, hj, hR⟩ := h
    obtain ⟨us, vs, hu, hv, ⟨n, n2, dd, dd2, sl, sl2, hl, hm⟩, hp⟩ := T s hj
    rw [List.drop_of_length_le (by omega)] at ht
    cases ht
    have z := hR s hj
    obtain ⟨h0, g0, d0, tk, os⟩ := s
    wp_walk using wpAny_loadPart' hl, wpAny_loadPart' hm
    rw [show us[((i : Nat) : Int).toNat]? = none by simp; omega, show vs[((i : Nat) : Int).toNat]? = none by simp; omega]
    wp_walk using wpAny_loadPart' hl, wpAny_loadPart' hm
    show R (.ok (.ret (.bool (us.size != vs.size)))) _
    rw [hu, hv, bne_self_eq_false]
    exact z
  | succ k ih =>
    intro i hk t ht A R s h
    obtain ⟨hA, hj, hR⟩ := h
    obtain ⟨us, vs, hu, hv, ⟨n, n2, dd, dd2, sl, sl2, hl, hm⟩, hp⟩ := T s hj
    have i0 : i < es.length := by omega
    have i1 : i < us.size := by omega
    have i2 : i < vs.size := by omega
    rw [List.drop_eq_getElem_cons i0] at ht
    have g1 : us[((i : Nat) : Int).toNat]? = some us[i] := by simp [i1]
    have g2 : vs[((i : Nat) : Int).toNat]? = some vs[i] := by simp [i2]
    have hj0 := hj
    have hpi := hp i i1 i2
    rw [List.getElem?_eq_getElem i0] at hpi
    obtain ⟨h0, g0, d0, tk, os⟩ := s
    wp_walk using wpAny_loadPart' hl, wpAny_loadPart' hm
    rw [g1, g2]
    rw [hA]
    cases c : es[i] with
    | none => rw [c] at ht; cases ht
    | some b =>
      have he := hpi b (by rw [c])
      rw [c] at ht
      refine wpAny_bind (he _ _ fun s2 hj2 => ?_)
      cases b with
      | false =>
        cases ht
        obtain ⟨us', vs', hu', hv', ⟨n', n2', dd', dd2', sl', sl2', hl2, hm2⟩, hp'⟩ := T s2 hj2
        have z := hR s2 hj2
        have g1' : us'[((i : Nat) : Int).toNat]? = some (us'[i]'(by omega)) := by simp [show i < us'.size by omega]
        have g2' : vs'[((i : Nat) : Int).toNat]? = some (vs'[i]'(by omega)) := by simp [show i < vs'.size by omega]
        obtain ⟨h0', g0', d0', tk', os'⟩ := s2
        wp_walk using wpAny_loadPart' hl2, wpAny_loadPart' hm2
        rw [g1', g2']
        wp_walk
        exact z
      | true =>
        have hc : ((i : Int) + 1) = ((i + 1 : Nat) : Int) := by push_cast; rfl
        wp_walk
        rw [hc]
        exact ⟨plainId_quiet plain_eq_loop _, codeAny_builtin entry_eq_loop (by
          rw [Around.under_plainId plain_eq_loop _]
          exact ih (i + 1) (by omega) t ht A R _ ⟨hA, hj2, hR⟩)⟩
theorem j_list (T : TwoL prog w J A0 l m es) (t : Bool) (ht : foldE es = some t) : MeetsIn prog w (Builtin.«list.__eq__» ⟨[.ref l, .ref m], []⟩)
    (fun A R s => A.in1 = A0 ∧ J s ∧ ∀ s', J s' → R (.ok (.ret (.bool (t)))) s') := by
  intro A R s h
  obtain ⟨hA, hj, hR⟩ := h
  obtain ⟨us, vs, hu, hv, ⟨n, n2, dd, dd2, sl, sl2, hl, hm⟩, hp⟩ := T s hj
  have hj0 := hj
  obtain ⟨h0, g0, d0, tk, os⟩ := s
  have ff := AutoSeq1.sub_list_list
  have hne : ¬ (us.size != vs.size) = true := by simp [hu, hv]
  wp_walk using wpAny_loadPart' hl, wpAny_loadPart' hm
  exact ⟨plainId_quiet plain_eq_loop _, codeAny_builtin entry_eq_loop (by
    rw [Around.under_plainId plain_eq_loop _]
    exact j_loop T _ 0 rfl t ht A R _ ⟨hA, hj0, hR⟩)⟩
theorem j_listN (T : TwoL prog w J A0 l m es) (t : Bool) (ht : foldE es = some t) : MeetsIn prog w (Builtin.«list.__ne__» ⟨[.ref l, .ref m], []⟩)
    (fun A R s => A.in1 = A0 ∧ J s ∧ ∀ s', J s' → R (.ok (.ret (.bool (!t)))) s') := by
  intro A R s h
  obtain ⟨hA, hj, hR⟩ := h
  obtain ⟨us, vs, hu, hv, ⟨n, n2, dd, dd2, sl, sl2, hl, hm⟩, hp⟩ := T s hj
  have hj0 := hj
  obtain ⟨h0, g0, d0, tk, os⟩ := s
  have ff := AutoSeq1.sub_list_list
  have hne : ¬ (us.size != vs.size) = true := by simp [hu, hv]
  wp_walk using wpAny_loadPart' hl, wpAny_loadPart' hm
  exact ⟨plainId_quiet plain_eq_loop _, codeAny_builtin entry_eq_loop (by
    rw [Around.under_plainId plain_eq_loop _]
    exact j_loopN T _ 0 rfl t ht A R _ ⟨hA, hj0, hR⟩)⟩
end
end
end DX

/-! DX E2: .. tuples -/
namespace DX
open PySem PySem.Spec PyProof.Rows L2
variable [TB0]
open AutoSeq1 (wpAny_loadPart')
open MeetsSeq MeetsSeq2 MeetsSeq3 SeqRoads2
section
variable {prog : Program} {w : World} {J : Shared → Prop} {l m : Addr} {us vs : Array Value}
theorem j_tup (l m : Addr) (us vs : Array Value) (n n2 : Nat) (dd dd2 : Option Addr) (sl sl2 : Array (Option Value)) (t : Bool) : MeetsIn prog w (Builtin.«tuple.__eq__» ⟨[.ref l, .ref m], []⟩)
    (fun A R s => s.heap.get? l = some { cls := .type "tuple", dict := dd, data := .seq us n, slots := sl } ∧ s.heap.get? m = some { cls := .type "tuple", dict := dd2, data := .seq vs n2, slots := sl2 } ∧ J s ∧ PairsJ prog w J A.in1 (us.toList.zip vs.toList) t ∧ ∀ s', J s' → R (.ok (.ret (.bool (t && us.size == vs.size)))) s') :=
  .of_wp fun A R s h => by
    obtain ⟨hl, hm, hj, hp, hR⟩ := h
    have hj0 := hj
    obtain ⟨h0, g0, d0, tk, os⟩ := s
    have ff := AutoSeq1.sub_tuple_tuple
    wp_walk using wpAny_loadPart' hl, wpAny_loadPart' hm, wpAny_forIn_list _ (fun rest b s' => b.1 = none ∧ J s' ∧ PairsJ prog w J A.in1 rest t) _
    case turn =>
      rintro ⟨y, x⟩ rest b s' ⟨hb', hj', hp'⟩
      rcases hp'.inv with ⟨he, rfl⟩ | ⟨he, ht⟩
      · refine wpAny_bind (he _ _ _ hj' fun s2 hj2 => ?_)
        have z := hR s2 hj2
        obtain ⟨h0', g0', d0', tk', os'⟩ := s2
        wp_walk
        exact ⟨_, rfl, z⟩
      · refine wpAny_bind (he _ _ _ hj' fun s2 hj2 => ?_)
        wp_walk
        exact ⟨rfl, hj2, ht⟩
    case fin =>
      rintro ⟨b1, b2⟩ s' ⟨hb', hj', hp'⟩
      simp only at hb'
      subst hb'
      have ht := hp'.inv0
      subst ht
      have z := hR s' hj'
      wp_walk
      exact ⟨_, rfl, by simpa [Builtin.Tuple.tupleCompareSizes] using z⟩
    case h => exact ⟨rfl, hj0, hp⟩
theorem j_tupN (l m : Addr) (us vs : Array Value) (n n2 : Nat) (dd dd2 : Option Addr) (sl sl2 : Array (Option Value)) (t : Bool) : MeetsIn prog w (Builtin.«tuple.__ne__» ⟨[.ref l, .ref m], []⟩)
    (fun A R s => s.heap.get? l = some { cls := .type "tuple", dict := dd, data := .seq us n, slots := sl } ∧ s.heap.get? m = some { cls := .type "tuple", dict := dd2, data := .seq vs n2, slots := sl2 } ∧ J s ∧ PairsJ prog w J A.in1 (us.toList.zip vs.toList) t ∧ ∀ s', J s' → R (.ok (.ret (.bool (!(t && us.size == vs.size))))) s') :=
  .of_wp fun A R s h => by
    obtain ⟨hl, hm, hj, hp, hR⟩ := h
    have hj0 := hj
    obtain ⟨h0, g0, d0, tk, os⟩ := s
    have ff := AutoSeq1.sub_tuple_tuple
    wp_walk using wpAny_loadPart' hl, wpAny_loadPart' hm, wpAny_forIn_list _ (fun rest b s' => b.1 = none ∧ J s' ∧ PairsJ prog w J A.in1 rest t) _
    case turn =>
      rintro ⟨y, x⟩ rest b s' ⟨hb', hj', hp'⟩
      rcases hp'.inv with ⟨he, rfl⟩ | ⟨he, ht⟩
      · refine wpAny_bind (he _ _ _ hj' fun s2 hj2 => ?_)
        have z := hR s2 hj2
        obtain ⟨h0', g0', d0', tk', os'⟩ := s2
        wp_walk
        exact ⟨_, rfl, z⟩
      · refine wpAny_bind (he _ _ _ hj' fun s2 hj2 => ?_)
        wp_walk
        exact ⟨rfl, hj2, ht⟩
    case fin =>
      rintro ⟨b1, b2⟩ s' ⟨hb', hj', hp'⟩
      simp only at hb'
      subst hb'
      have ht := hp'.inv0
      subst ht
      have z := hR s' hj'
      wp_walk
      exact ⟨_, rfl, by simpa [Builtin.Tuple.tupleCompareSizes, bne] using z⟩
    case h => exact ⟨rfl, hj0, hp⟩
/-! the four, as comparisons -/
/-- a op y, kept by J -/
def RcJ (prog : Program) (w : World) (J : Shared → Prop) (op : CmpOp) (A : Around) (y x : Value) (b : Bool) : Prop := ∀ (E Q : Value → Shared → Prop) (s : Shared), J s → (∀ s', J s' → Q (.bool b) s') → wpAny (model prog w) A (richCompare op y x) Q E s
def neg (op : CmpOp) (b : Bool) : Bool := match op with
  | .NotEq => !b
  | _ => b
theorem RcJ.eq {A : Around} {l m : Addr} {b : Bool} (hne : l ≠ m) (h : RcJ prog w J .Eq A (.ref l) (.ref m) b) : EqJ prog w J A (.ref l) (.ref m) b := fun E Q s hj hq => by
  unfold eqBool
  refine wpAny_holding (wpAny_ite_split (fun z => absurd (by have := eq_of_beq z; injection this) hne) fun _ => ?_)
  exact wpAny_bind (h E _ s hj fun s' hj' => wpAny_truthy_bool (hq s' hj'))
theorem EqJ.same {A : Around} (v : Value) : EqJ prog w J A v v true := fun E Q s hj hq => SeqAt.EqAt.same v prog w E Q (hq s hj)
theorem EqJ.of {A : Around} {y x : Value} {b : Bool} (h : ∀ s, J s → SeqAt.EqAt A s y x b) : EqJ prog w J A y x b := fun E Q s hj hq => h s hj prog w E Q (hq s hj)
theorem rcj_lists {A : Around} {es : List (Option Bool)} {t : Bool} (T : ∀ s, J s → ∃ us vs : Array Value, us.size = es.length ∧ vs.size = es.length ∧ s.heap.IsList l us ∧ s.heap.IsList m vs ∧ ∀ i (h1 : i < us.size) (h2 : i < vs.size) c, es[i]? = some (some c) → EqS prog w J A.in1 us[i] vs[i] c s)
    (ht : foldE es = some t) (hu : A.units < cLine) : RcJ prog w J .Eq A (.ref l) (.ref m) t ∧ RcJ prog w J .NotEq A (.ref l) (.ref m) !t := by
  have T2 : TwoL prog w J A.in1 l m es := fun s hj => by
    obtain ⟨us, vs, hu, hv, ⟨⟨c1, d1, dt1, s1⟩, h1, e1, n1, f1⟩, ⟨⟨c2, d2, dt2, s2⟩, h2, e2, n2, f2⟩, hp⟩ := T s hj
    simp only at e1 f1 e2 f2
    subst e1 f1 e2 f2
    exact ⟨us, vs, hu, hv, ⟨n1, n2, d1, d2, s1, s2, h1, h2⟩, hp⟩
  constructor
  · intro E Q s hj hq
    obtain ⟨us, vs, _, _, ⟨n, n2, dd, dd2, sl, sl2, hl, hm⟩, _⟩ := T2 s hj
    exact wpAny_richCompare_same_room (T := "list") (op := .Eq) ⟨_, hl, rfl⟩ ⟨_, hm, rfl⟩ PySem.F.slot_list_eq (call_meetsIn PySem.F.slot_list_eq ⟨_, hl, rfl⟩ PySem.F.entry_list_eq (PySem.F.args_list_eq_2 _ _) (j_list T2 t ht) ⟨rfl, hj, fun s' hj' => show Value.bool t ≠ Value.notImplemented ∧ Q (.bool t) s' from ⟨(fun z => nomatch z), hq s' hj'⟩⟩) hu
  · intro E Q s hj hq
    obtain ⟨us, vs, _, _, ⟨n, n2, dd, dd2, sl, sl2, hl, hm⟩, _⟩ := T2 s hj
    exact wpAny_richCompare_same_room (T := "list") (op := .NotEq) ⟨_, hl, rfl⟩ ⟨_, hm, rfl⟩ PySem.F.slot_list_ne (call_meetsIn PySem.F.slot_list_ne ⟨_, hl, rfl⟩ PySem.F.entry_list_ne (PySem.F.args_list_ne_2 _ _) (j_listN T2 t ht) ⟨rfl, hj, fun s' hj' => show Value.bool (!t) ≠ Value.notImplemented ∧ Q (.bool !t) s' from ⟨(fun z => nomatch z), hq s' hj'⟩⟩) hu
theorem rcj_lens {A : Around} (T : ∀ s, J s → ∃ us vs : Array Value, us.size ≠ vs.size ∧ s.heap.IsList l us ∧ s.heap.IsList m vs) (hu : A.units < cLine) : RcJ prog w J .Eq A (.ref l) (.ref m) false ∧ RcJ prog w J .NotEq A (.ref l) (.ref m) true :=
  ⟨fun E Q s hj hq => by
    obtain ⟨us, vs, hs, h1, h2⟩ := T s hj
    exact SeqAt.RcAt.lists_lengths h1 h2 (bne_iff_ne.mpr hs) hu prog w E Q (hq s hj), fun E Q s hj hq => by
    obtain ⟨us, vs, hs, h1, h2⟩ := T s hj
    exact SeqAt.RcNeAt.lists_lengths h1 h2 (bne_iff_ne.mpr hs) hu prog w E Q (hq s hj)⟩
theorem rcj_tuples {A : Around} {t z : Bool} (T : ∀ s, J s → ∃ us vs : Array Value, s.heap.IsTuple l us ∧ s.heap.IsTuple m vs ∧ PairsJ prog w J A.in1 (us.toList.zip vs.toList) t ∧ (us.size == vs.size) = z) (hu : A.units < cLine) : RcJ prog w J .Eq A (.ref l) (.ref m) (t && z) ∧ RcJ prog w J .NotEq A (.ref l) (.ref m) !(t && z) := by
  constructor
  · intro E Q s hj hq
    obtain ⟨us, vs, ⟨⟨c1, d1, dt1, s1⟩, h1, e1, n1, f1⟩, ⟨⟨c2, d2, dt2, s2⟩, h2, e2, n2, f2⟩, h, rfl⟩ := T s hj
    simp only at e1 f1 e2 f2
    subst e1 f1 e2 f2
    exact wpAny_richCompare_same_room (T := "tuple") (op := .Eq) ⟨_, h1, rfl⟩ ⟨_, h2, rfl⟩ PySem.F.slot_tuple_eq (call_meetsIn PySem.F.slot_tuple_eq ⟨_, h1, rfl⟩ PySem.F.entry_tuple_eq (PySem.F.args_tuple_eq_2 _ _) (j_tup l m us vs n1 n2 d1 d2 s1 s2 t) ⟨h1, h2, hj, h, fun s' hj' => show Value.bool _ ≠ Value.notImplemented ∧ Q (.bool _) s' from ⟨(fun z => nomatch z), hq s' hj'⟩⟩) hu
  · intro E Q s hj hq
    obtain ⟨us, vs, ⟨⟨c1, d1, dt1, s1⟩, h1, e1, n1, f1⟩, ⟨⟨c2, d2, dt2, s2⟩, h2, e2, n2, f2⟩, h, rfl⟩ := T s hj
    simp only at e1 f1 e2 f2
    subst e1 f1 e2 f2
    exact wpAny_richCompare_same_room (T := "tuple") (op := .NotEq) ⟨_, h1, rfl⟩ ⟨_, h2, rfl⟩ PySem.F.slot_tuple_ne (call_meetsIn PySem.F.slot_tuple_ne ⟨_, h1, rfl⟩ PySem.F.entry_tuple_ne (PySem.F.args_tuple_ne_2 _ _) (j_tupN l m us vs n1 n2 d1 d2 s1 s2 t) ⟨h1, h2, hj, h, fun s' hj' => show Value.bool _ ≠ Value.notImplemented ∧ Q (.bool _) s' from ⟨(fun z => nomatch z), hq s' hj'⟩⟩) hu
end
end DX

/-! DX E3: == of data with dicts and own instances within -/
namespace DX
open PySem PySem.Spec PyProof.Rows L2
variable [TB0]

mutual
/-- may be the same thing -/
def like : D → D → Bool
  | .bl a, .bl b => a == b
  | .int a, .int b => a == b
  | .str a, .str b => a == b
  | .non, .bl _ => false
  | .non, .int _ => false
  | .non, .str _ => false
  | .bl _, .non => false
  | .bl _, .int _ => false
  | .bl _, .str _ => false
  | .int _, .non => false
  | .int _, .bl _ => false
  | .int _, .str _ => false
  | .str _, .non => false
  | .str _, .bl _ => false
  | .str _, .int _ => false
  | .tup xs, .tup ys => likeL xs ys
  | .ins _ fs xs, .ins _ gs ys => likeL xs ys
  | .ins _ _ _, .non => false
  | .ins _ _ _, .bl _ => false
  | .ins _ _ _, .int _ => false
  | .ins _ _ _, .str _ => false
  | .ins _ _ _, .tup _ => false
  | _, _ => true
def likeL : List D → List D → Bool
  | [], [] => true
  | x :: xs, y :: ys => like x y && likeL xs ys
  | _, _ => false
end
def eqXL (f : D → D → Option Bool) : List D → List D → Option Bool
  | x :: xs, y :: ys => match f x y with
    | some true => eqXL f xs ys
    | r => r
  | _, _ => some true
def apart (st : Store) (x y : D) : Bool := match tagOf st x, tagOf st y with
  | some a, some b => (decide (a = .dict) && decide (b ≠ .dict)) || (decide (a ≠ .dict) && decide (b = .dict))
  | _, _ => false
abbrev Own := Store → D → D → Option Bool
def ownL (own : Own) (st : Store) (x y : D) : Option Bool := match own st x y with
  | some true => some true
  | some false => if like x y = true then none else some false
  | none => none
/-- n levels deep; own: what own classes say -/
def eqX (own : Own) (st : Store) : Nat → D → D → Option Bool
  | 0, x, y => eqD st x y
  | n + 1, x, y => match eqD st x y with
    | some b => some b
    | none => match x, y with
      | .tup xs, .tup ys => (eqXL (eqX own st n) xs ys).map fun b => b && xs.length == ys.length
      | x, y => match seqL st x, seqL st y with
        | some xs, some ys => if xs.length = ys.length then eqXL (eqX own st n) xs ys else some false
        | _, _ => if apart st x y = true then some false else ownL own st x y
section
variable {X : Cx} {pins : List (Addr × Obj)} {σ : L2.St} {H : Hp} {m : Mp} {st : Store} {s : Shared}
/-- what stays -/
def Jat (X : Cx) (pins : List (Addr × Obj)) (σ : L2.St) (m : Mp) (H : Hp) (st : Store) : Shared → Prop := fun s => ∃ H' m', Inv X pins σ H' s ∧ Ext m H m' H' ∧ Rl X.K m' H' st
theorem inj_ref {v : V} {a : Addr} (r : RelV v (.ref a)) : v = .ref a := by
  cases v <;> first | (cases r; rfl) | (obtain ⟨_, z⟩ := r; cases z) | (cases r)
mutual
theorem like_of (I : Inv X pins σ H s) : ∀ (x y : D) (v : V), Rep X.K H m v x → Rep X.K H m v y → like x y = true
  | .tup xs, y, _, h, g => by
    cases y with
    | tup ys =>
      cases h with
      | tup h1 h2 =>
        cases g with
        | tup g1 g2 =>
          obtain rfl := I.tuple_inj h1.sq g1.sq
          unfold like
          exact like_ofL I xs ys _ h2 g2
    | _ => rfl
  | .ins _ fs xs, y, _, h, g => by
    cases y with
    | ins _ gs ys =>
      cases h with
      | @ins _ _ _ _ _ vs _ hc h1 hn hl h2 =>
        cases g with
        | @ins _ _ _ _ _ vs' _ hc' g1 gn gl g2 =>
          rw [h1] at g1
          injection g1 with g1
          injection g1 with e1 e2 e3
          have hv : vs = vs' := by
            have q := congrArg (List.map Prod.snd) e3
            rw [List.map_snd_zip (by omega), List.map_snd_zip (by omega)] at q
            exact q
          subst hv
          unfold like
          exact like_ofL I xs ys _ h2 g2
    | non => cases h; cases g
    | bl _ => cases h; cases g
    | int _ => cases h; cases g
    | str _ => cases h; cases g
    | tup ys =>
      cases h with
      | @ins _ _ _ _ _ vs _ hc h1 hn hl h2 =>
        cases g with
        | tup g1 g2 =>
          obtain ⟨mA, O, _⟩ := ins_get I.hok h1
          obtain ⟨od, J, _⟩ := O.look
          obtain ⟨its, _, ⟨o, ho, hcls, _⟩, _⟩ := I.tuple g1.sq
          have e1 := J.at_
          rw [ho] at e1
          cases e1
          have e2 := J.cls
          rw [hcls] at e2
          cases e2
    | _ => rfl
  | .bl a, y, _, h, g => by
    cases h
    cases y <;> first | rfl | (cases g; done) | (cases g; simp [like])
  | .int a, y, _, h, g => by
    cases h
    cases y <;> first | rfl | (cases g; done) | (cases g; simp [like])
  | .str a, y, _, h, g => by
    cases h
    cases y <;> first | rfl | (cases g; done) | (cases g; simp [like])
  | .non, y, _, h, g => by
    cases h
    cases y <;> first | rfl | (cases g; done) | (cases g; simp [like])
  | .lst _, y, _, _, _ => by cases y <;> rfl
  | .rd _, y, _, _, _ => by cases y <;> rfl
  | .dK _ _, y, _, _, _ => by cases y <;> rfl
  | .dT _ _, y, _, _, _ => by cases y <;> rfl
  | .exc _ _ _, y, _, _, _ => by cases y <;> rfl
  | .cls _, y, _, _, _ => by cases y <;> rfl
  | .ob _, y, _, _, _ => by cases y <;> rfl
theorem like_ofL (I : Inv X pins σ H s) : ∀ (xs ys : List D) (vs : List V), RepL X.K H m vs xs → RepL X.K H m vs ys → likeL xs ys = true
  | [], [], _, _, _ => rfl
  | [], _ :: _, _, h, g => by cases h; cases g
  | _ :: _, [], _, h, g => by cases h; cases g
  | x :: xs, y :: ys, _, h, g => by
    cases h with
    | cons h1 h2 =>
      cases g with
      | cons g1 g2 =>
        unfold likeL
        rw [like_of I x y _ h1 g1, like_ofL I xs ys _ h2 g2]
        rfl
end
/-- what own classes say is so, deeper within -/
structure OwnOk (X : Cx) (j : Nat) (own : Own) : Prop where
  run : ∀ (A' : Around), Room j A' → A'.frames = X.A.frames → ∀ (pins : List (Addr × Obj)) (σ : L2.St) (H : Hp) (m : Mp) (st : Store) (s : Shared) (u v : Value) (x y : V) (dx dy : D) (b : Bool) (E Q : Value → Shared → Prop),
    Inv X pins σ H s → Rl X.K m H st → RelV x u → RelV y v → Rep X.K H m x dx → Rep X.K H m y dy → own st dx dy = some b →
    ((∀ s', Jat X pins σ m H st s' → Q (.bool b) s') → wpAny (model X.prog X.w) A' (richCompare .Eq u v) Q E s) ∧ ((∀ s', Jat X pins σ m H st s' → Q (.bool !b) s') → wpAny (model X.prog X.w) A' (richCompare .NotEq u v) Q E s)
  ref : ∀ (H : Hp) (m : Mp) (st : Store) (x : V) (dx dy : D) (b : Bool), Rep X.K H m x dx → own st dx dy = some b → (insOf st dx).isSome = true
theorem Jat.up {H1 : Hp} {m1 : Mp} (e : Ext m H m1 H1) {s : Shared} (h : Jat X pins σ m1 H1 st s) : Jat X pins σ m H st s := by
  obtain ⟨H', m', I, e', r⟩ := h
  exact ⟨H', m', I, e.trans e', r⟩
/-- what stands at a datum with a tag -/
theorem ck_of (I : Inv X pins σ H s) (r : Rl X.K m H st) {x : V} {u : Value} {d : D} {t : Tg} (ru : RelV x u) (p : Rep X.K H m x d) (e : tagOf st d = some t) : Ck s u t := by
  have dk : ∀ (a : Addr) (kvs : List (Key × V)), Rd H a (.dK kvs) → Ck s (.ref a) .dict := fun a kvs h => by
    obtain ⟨_, _, vs, _, o, es, ep, h1, hx, hd, _⟩ := h.ok I.hok
    obtain ⟨c, dd, dt, sl⟩ := o
    obtain ⟨e1, e2, e3⟩ := hx
    simp only at e1 hd
    subst e1 hd
    exact .dict h1
  have ls : ∀ (a : Addr) (vs : List V), SqL X.K H a vs → Ck s (.ref a) .list := fun a vs h => by
    obtain ⟨its, _, hl, _⟩ := I.list h
    exact .lst hl.isList
  cases p with
  | non => cases e; cases ru; exact .non
  | bl b => cases e; cases ru; exact .bl b
  | int i => cases e; obtain ⟨t, rfl⟩ := ru; exact .int i t
  | str z => cases e; obtain ⟨t, rfl⟩ := ru; exact .str z t
  | tup h1 _ =>
    cases e
    cases ru
    obtain ⟨its, _, hl, _⟩ := I.tuple h1.sq
    exact .tup hl
  | lst h1 _ _ => cases e; cases ru; exact ls _ _ (.of h1)
  | rd h1 _ => cases e; cases ru; exact ls _ _ h1.sq
  | dK h1 _ _ _ => cases e; cases ru; exact dk _ _ h1
  | dT _ _ _ _ => cases e
  | ins _ _ _ _ _ => cases e
  | exc _ _ _ _ _ => cases e
  | cls _ => cases e
  | @ob a n h1 =>
    cases ru
    unfold tagOf at e
    dsimp only at e
    split at e
    · rename_i ys hy
      cases e
      obtain ⟨vs, q1, q2⟩ := r.ob n _ a hy h1
      exact ls _ _ (.of q1)
    · rename_i ks ys hy
      cases e
      obtain ⟨vs, q1, q2⟩ := r.ob n _ a hy h1
      exact dk _ _ (.inl q1)
    · cases e
theorem ck_ne {x y : Value} {t u : Tg} (c : Ck s x t) (d : Ck s y u) (h : t ≠ u) : x ≠ y := fun e => by
  subst e
  cases c with
  | non => cases d; exact h rfl
  | bl b => cases d; exact h rfl
  | int i t => cases d; exact h rfl
  | str i t => cases d; exact h rfl
  | lst hl =>
    cases d with
    | lst _ => exact h rfl
    | tup hm =>
      obtain ⟨o, ho, hc, _⟩ := hl
      obtain ⟨o', ho', hc', _⟩ := hm
      rw [ho] at ho'
      cases ho'
      rw [hc] at hc'
      exact absurd hc' (by simp)
    | dict hm =>
      obtain ⟨o, ho, hc, _⟩ := hl
      rw [ho] at hm
      cases hm
      exact absurd hc (by simp)
  | tup hl =>
    cases d with
    | tup _ => exact h rfl
    | lst hm =>
      obtain ⟨o, ho, hc, _⟩ := hl
      obtain ⟨o', ho', hc', _⟩ := hm
      rw [ho] at ho'
      cases ho'
      rw [hc] at hc'
      exact absurd hc' (by simp)
    | dict hm =>
      obtain ⟨o, ho, hc, _⟩ := hl
      rw [ho] at hm
      cases hm
      exact absurd hc (by simp)
  | dict hl =>
    cases d with
    | dict _ => exact h rfl
    | lst hm =>
      obtain ⟨o, ho, hc, _⟩ := hm
      rw [ho] at hl
      cases hl
      exact absurd hc (by simp)
    | tup hm =>
      obtain ⟨o, ho, hc, _⟩ := hm
      rw [ho] at hl
      cases hl
      exact absurd hc (by simp)
end
end DX

/-! DX E4: eqX is what == says -/
namespace DX
open PySem PySem.Spec PyProof.Rows L2
variable [TB0]
section
variable {X : Cx} {pins : List (Addr × Obj)} {σ : L2.St} {H : Hp} {m : Mp} {st : Store} {s : Shared} {own : Own} {j : Nat}
theorem relV_of {d : D} {x : V} (p : Rep X.K H m x d) : ∃ u, RelV x u := by
  cases p with
  | non => exact ⟨_, rfl⟩
  | bl b => exact ⟨_, rfl⟩
  | int i => exact ⟨.int i 0, 0, rfl⟩
  | str z => exact ⟨.str z 0, 0, rfl⟩
  | tup _ _ => exact ⟨_, rfl⟩
  | lst _ _ _ => exact ⟨_, rfl⟩
  | rd _ _ => exact ⟨_, rfl⟩
  | dK _ _ _ _ => exact ⟨_, rfl⟩
  | dT _ _ _ _ => exact ⟨_, rfl⟩
  | ins _ _ _ _ _ => exact ⟨_, rfl⟩
  | exc _ _ _ _ _ => exact ⟨_, rfl⟩
  | cls _ => exact ⟨_, rfl⟩
  | ob _ => exact ⟨_, rfl⟩
theorem eqD_id (I : Inv X pins σ H s) (r : Rl X.K m H st) {dx dy : D} {x : V} {b : Bool} (px : Rep X.K H m x dx) (py : Rep X.K H m x dy) (e : eqD st dx dy = some b) : b = true := by
  unfold eqD at e
  split at e
  · rename_i p q hp hq
    split at e
    · cases e
      obtain ⟨a1, a2⟩ := Dp.ofS r px hp
      obtain ⟨b1, b2⟩ := Dp.ofS r py hq
      obtain ⟨u, ru⟩ := relV_of px
      obtain ⟨as, r1⟩ := Dp.reads I p x u a1 ru
      obtain ⟨bs, r2⟩ := Dp.reads I q x u b1 ru
      rw [SeqAt.plain_unique p q _ _ _ a2 r1 r2]
      exact SeqAt.eqv_refl_plain q b2
    · cases e
  · cases e
theorem eqXL_id {f : D → D → Option Bool} (hf : ∀ (dx dy : D) (x : V) (b : Bool), Rep X.K H m x dx → Rep X.K H m x dy → f dx dy = some b → b = true) : ∀ (xs ys : List D) (vs : List V) (b : Bool), RepL X.K H m vs xs → RepL X.K H m vs ys → eqXL f xs ys = some b → b = true
  | [], [], _, b, _, _, e => by unfold eqXL at e; cases e; rfl
  | [], _ :: _, _, _, h, g, _ => by cases h; cases g
  | _ :: _, [], _, _, h, g, _ => by cases h; cases g
  | x :: xs, y :: ys, _, b, h, g, e => by
    cases h with
    | cons h1 h2 =>
      cases g with
      | cons g1 g2 =>
        unfold eqXL at e
        split at e
        · exact eqXL_id hf xs ys _ b h2 g2 e
        · exact hf x y _ b h1 g1 e
theorem eqX_id (I : Inv X pins σ H s) (r : Rl X.K m H st) : ∀ (n : Nat) (dx dy : D) (x : V) (b : Bool), Rep X.K H m x dx → Rep X.K H m x dy → eqX own st n dx dy = some b → b = true := by
  intro n
  induction n with
  | zero => exact fun dx dy x b px py e => eqD_id I r px py e
  | succ n ih =>
    intro dx dy x b px py e
    unfold eqX at e
    split at e
    · rename_i c hc
      cases e
      exact eqD_id I r px py hc
    · split at e
      · rename_i xs ys hn
        cases px with
        | tup h1 h2 =>
          cases py with
          | tup g1 g2 =>
            obtain rfl := I.tuple_inj h1.sq g1.sq
            obtain ⟨c, hc, rfl⟩ := Option.map_eq_some_iff.mp e
            rw [eqXL_id ih xs ys _ c h2 g2 hc, ← h2.length, ← g2.length]
            simp
      · split at e
        · rename_i xs ys hx hy
          obtain ⟨a, vs, rfl, g1, g2⟩ := seqL_at r px hx
          obtain ⟨a', vs', ea, k1, k2⟩ := seqL_at r py hy
          cases ea
          obtain rfl := I.list_inj g1 k1
          rw [if_pos (by rw [← g2.length, ← k2.length])] at e
          exact eqXL_id ih xs ys _ b g2 k2 e
        · split at e
          · rename_i ha
            cases e
            unfold apart at ha
            split at ha
            · rename_i t u ht hu
              obtain ⟨v, rv⟩ := relV_of px
              refine absurd rfl (ck_ne (ck_of I r rv px ht) (ck_of I r rv py hu) fun z => ?_)
              subst z
              cases t <;> exact absurd ha (by decide)
            · cases ha
          · unfold ownL at e
            split at e
            · cases e; rfl
            · rw [if_pos (like_of I dx dy x px py)] at e
              cases e
            · cases e
theorem EqJ.rc {prog : Program} {w : World} {J : Shared → Prop} {A : Around} {u v : Value} {b : Bool} (hfl : ∀ c t, u ≠ .float c t) (hid : u = v → b = true) (h : RcJ prog w J .Eq A u v b) : EqJ prog w J A u v b := fun E Q s hj hq => by
  by_cases hz : u = v
  · have hb := hid hz
    subst hz hb
    exact EqJ.same u E Q s hj hq
  · unfold eqBool
    refine wpAny_holding (wpAny_ite_split (fun z => absurd (eq_of_beq z) hz) fun _ => ?_)
    cases u <;> first | exact wpAny_bind (h E _ s hj fun s' hj' => wpAny_truthy_bool (hq s' hj')) | exact absurd rfl (hfl _ _)
theorem no_float {d : D} {x : V} {u : Value} (p : Rep X.K H m x d) (r : RelV x u) : ∀ c t, u ≠ .float c t := fun c t z => by
  subst z
  cases p <;> first | (cases r; done) | (obtain ⟨_, z⟩ := r; cases z)
/-- the same value, or its token alone differs -/
theorem inj_rel : ∀ {x y : V} {u : Value}, RelV x u → RelV y u → (∃ a, x = .ref a) → x = y := by
  intro x y u hx hy hr
  obtain ⟨a, rfl⟩ := hr
  cases hx
  exact (inj_ref hy).symm
theorem eqXL_fold (f : D → D → Option Bool) : ∀ xs ys : List D, xs.length = ys.length → eqXL f xs ys = foldE (List.zipWith f xs ys)
  | [], [], _ => rfl
  | [], _ :: _, h => by cases h
  | _ :: _, [], h => by cases h
  | x :: xs, y :: ys, h => by
    unfold eqXL
    rw [List.zipWith_cons_cons]
    cases f x y with
    | none => rfl
    | some c =>
      cases c with
      | true => exact eqXL_fold f xs ys (by simpa using h)
      | false => rfl
theorem pairs_of {prog : Program} {w : World} {J : Shared → Prop} {A : Around} {f : D → D → Option Bool} {K : PySem.W.Frag}
    (hf : ∀ (u v : Value) (x y : V) (dx dy : D) (b : Bool), RelV x u → RelV y v → Rep K H m x dx → Rep K H m y dy → f dx dy = some b → EqJ prog w J A u v b) :
    ∀ (us vs : List Value) (a b : List V) (xs ys : List D) (t : Bool), Vals a us → Vals b vs → RepL K H m a xs → RepL K H m b ys → eqXL f xs ys = some t → PairsJ prog w J A (us.zip vs) t
  | [], _, _, _, _, _, t, r1, _, h1, _, e => by
    cases r1
    cases h1
    unfold eqXL at e
    cases e
    exact .nil
  | _ :: _, [], _, _, _, _, t, r1, r2, h1, h2, e => by
    cases r2
    cases h2
    have : t = true := by
      cases r1
      cases h1
      have e' : some true = some t := e
      cases e'
      rfl
    subst this
    rw [List.zip_nil_right]
    exact .nil
  | u :: us, v :: vs, _, _, _, _, t, r1, r2, h1, h2, e => by
    cases r1 with
    | cons r1 r1' =>
      cases r2 with
      | cons r2 r2' =>
        cases h1 with
        | cons h1 h1' =>
          cases h2 with
          | cons h2 h2' =>
            rename_i dx dxs dy dys
            unfold eqXL at e
            rw [List.zip_cons_cons]
            split at e
            · rename_i hc
              exact .yes (hf u v _ _ dx dy true r1 r2 h1 h2 hc) (pairs_of hf us vs _ _ dxs dys t r1' r2' h1' h2' e)
            · rename_i q hq
              cases t with
              | true => exact absurd e hq
              | false => exact .no (hf u v _ _ dx dy false r1 r2 h1 h2 e)
theorem rel_get {vs : List V} {us : List Value} (h : Vals vs us) {i : Nat} {u : Value} (e : us[i]? = some u) : ∃ v, vs[i]? = some v ∧ RelV v u := by
  induction h generalizing i with
  | nil => simp at e
  | @cons v u' vs us r t ih =>
    cases i with
    | zero =>
      have : u' = u := by simpa using e
      subst this
      exact ⟨v, rfl, r⟩
    | succ i =>
      obtain ⟨w, q1, q2⟩ := ih (i := i) (by simpa using e)
      exact ⟨w, by simpa using q1, q2⟩
theorem eqX_rc (ho : OwnOk X j own) : ∀ (n : Nat) (A' : Around) (H : Hp) (m : Mp), Room (j + n) A' → A'.frames = X.A.frames → ∀ (u v : Value) (x y : V) (dx dy : D) (b : Bool), RelV x u → RelV y v → Rep X.K H m x dx → Rep X.K H m y dy → eqX own st n dx dy = some b →
    RcJ X.prog X.w (Jat X pins σ m H st) .Eq A' u v b ∧ RcJ X.prog X.w (Jat X pins σ m H st) .NotEq A' u v !b := by
  have leaf : ∀ (n : Nat) (A' : Around) (H : Hp) (m : Mp), Room (j + n) A' → ∀ (u v : Value) (x y : V) (dx dy : D) (b : Bool), RelV x u → RelV y v → Rep X.K H m x dx → Rep X.K H m y dy → eqD st dx dy = some b →
      RcJ X.prog X.w (Jat X pins σ m H st) .Eq A' u v b ∧ RcJ X.prog X.w (Jat X pins σ m H st) .NotEq A' u v !b := by
    intro n A' H m hr u v x y dx dy b rx ry px py e
    have hu := hr.un
    unfold eqD at e
    split at e
    · rename_i p q hp hq
      split at e
      · rename_i hd
        cases e
        constructor
        · intro E Q s' hj hQ
          obtain ⟨H', m', I, e', rl⟩ := id hj
          obtain ⟨a1, a2⟩ := Dp.ofS rl (px.up e') hp
          obtain ⟨b1, b2⟩ := Dp.ofS rl (py.up e') hq
          obtain ⟨as, r1⟩ := Dp.reads I p x u a1 rx
          obtain ⟨bs, r2⟩ := Dp.reads I q y v b1 ry
          exact SeqAt.rcAt_plain r1 r2 a2 b2 (by omega) _ _ _ _ (hQ s' hj)
        · intro E Q s' hj hQ
          obtain ⟨H', m', I, e', rl⟩ := id hj
          obtain ⟨a1, a2⟩ := Dp.ofS rl (px.up e') hp
          obtain ⟨b1, b2⟩ := Dp.ofS rl (py.up e') hq
          obtain ⟨as, r1⟩ := Dp.reads I p x u a1 rx
          obtain ⟨bs, r2⟩ := Dp.reads I q y v b1 ry
          exact SeqAt.rcNe_plain r1 r2 a2 b2 (by omega) _ _ _ _ (hQ s' hj)
      · cases e
    · cases e
  intro n
  induction n with
  | zero => exact fun A' H m hr _ => leaf 0 A' H m hr
  | succ n ih =>
    intro A' H m hr hf u v x y dx dy b rx ry px py e
    have hu := hr.units0
    have inner : ∀ (H : Hp) (m : Mp) (u v : Value) (x y : V) (dx dy : D) (b : Bool), RelV x u → RelV y v → (∃ s', Jat X pins σ m H st s') → Rep X.K H m x dx → Rep X.K H m y dy → eqX own st n dx dy = some b → EqJ X.prog X.w (Jat X pins σ m H st) A'.in1 u v b := by
      intro H m u v x y dx dy b rx ry hs px py e
      refine EqJ.rc (no_float px rx) (fun z => ?_) (ih A'.in1 H m (show Room (j + n + 1) A' from hr).in1 hf u v x y dx dy b rx ry px py e).1
      subst z
      obtain ⟨s', H', m', I, e', rl⟩ := hs
      by_cases hx : ∃ a, x = .ref a
      · obtain rfl := inj_rel rx ry hx
        exact eqX_id I rl n dx dy x b (px.up e') (py.up e') e
      · have hxy : x = y := by
          cases x with
          | ref a => exact absurd ⟨a, rfl⟩ hx
          | non => cases rx; cases y <;> first | rfl | (cases ry; done) | (obtain ⟨_, z⟩ := ry; cases z)
          | bl c => cases rx; cases y <;> first | (cases ry; rfl) | (cases ry; done) | (obtain ⟨_, z⟩ := ry; cases z)
          | int c => obtain ⟨t, rfl⟩ := rx; cases y <;> first | (cases ry; done) | (obtain ⟨_, z⟩ := ry; cases z; rfl) | (obtain ⟨_, z⟩ := ry; cases z)
          | str c => obtain ⟨t, rfl⟩ := rx; cases y <;> first | (cases ry; done) | (obtain ⟨_, z⟩ := ry; cases z; rfl) | (obtain ⟨_, z⟩ := ry; cases z)
          | _ => cases px
        subst hxy
        exact eqX_id I rl n dx dy x b (px.up e') (py.up e') e
    unfold eqX at e
    split at e
    · rename_i c hc
      cases e
      exact leaf (n + 1) A' H m hr u v x y dx dy b rx ry px py hc
    · split at e
      · rename_i xs ys hn
        obtain ⟨c, hc, rfl⟩ := Option.map_eq_some_iff.mp e
        cases px with
        | @tup a vs _ h1 h2 =>
          cases py with
          | @tup a' vs' _ g1 g2 =>
            cases rx
            cases ry
            refine rcj_tuples (fun s' hj => ?_) hu
            obtain ⟨H', m', I, e', rl⟩ := id hj
            obtain ⟨us, ru, hlu, _⟩ := I.tuple (h1.ext e').sq
            obtain ⟨ws, rw', hlw, _⟩ := I.tuple (g1.ext e').sq
            refine ⟨us.toArray, ws.toArray, hlu, hlw, ?_, ?_⟩
            · exact pairs_of (K := X.K) (H := H) (m := m) (fun u v x y dx dy b rx ry px py e => inner H m u v x y dx dy b rx ry ⟨s', hj⟩ px py e) us ws _ _ xs ys c ru rw' h2 g2 hc
            · have z1 : us.length = xs.length := by rw [← ru.length, h2.length]
              have z2 : ws.length = ys.length := by rw [← rw'.length, g2.length]
              simp [z1, z2]
      · split at e
        · rename_i xs ys hx hy
          -- the same lists in each state
          have stay : ∀ s', Jat X pins σ m H st s' → ∃ (a a' : Addr) (us ws : List Value) (vs vs' : List V), u = .ref a ∧ v = .ref a' ∧ s'.heap.IsList a us.toArray ∧ s'.heap.IsList a' ws.toArray ∧ Vals vs us ∧ Vals vs' ws ∧ ∃ H' m', Inv X pins σ H' s' ∧ Rl X.K m' H' st ∧ Ext m H m' H' ∧ RepL X.K H' m' vs xs ∧ RepL X.K H' m' vs' ys := by
            intro s' hj
            obtain ⟨H', m', I, e', rl⟩ := hj
            obtain ⟨a, vs, rfl, g1, g2⟩ := seqL_at rl (px.up e') hx
            obtain ⟨a', vs', rfl, k1, k2⟩ := seqL_at rl (py.up e') hy
            cases rx
            cases ry
            obtain ⟨us, ru, hlu, _⟩ := I.list g1
            obtain ⟨ws, rw', hlw, _⟩ := I.list k1
            exact ⟨a, a', us, ws, vs, vs', rfl, rfl, hlu.isList, hlw.isList, ru, rw', H', m', I, rl, e', g2, k2⟩
          have sz : ∀ {l : List V} {us : List Value} {ds : List D} {H' : Hp} {m' : Mp}, Vals l us → RepL X.K H' m' l ds → us.length = ds.length := fun r h => by rw [← r.length, h.length]
          by_cases hs : ∃ s', Jat X pins σ m H st s'
          · obtain ⟨s0, hs0⟩ := hs
            obtain ⟨a, a', us0, ws0, vs0, vs0', rfl, rfl, _⟩ := stay s0 hs0
            split at e
            · rename_i hlen
              rw [eqXL_fold _ _ _ hlen] at e
              refine rcj_lists (es := List.zipWith (eqX own st n) xs ys) (fun s' hj => ?_) e hu
              obtain ⟨b1, b2, us, ws, vs, vs', q1, q2, l1, l2, r1, r2, H', m', I', rl', e', p1, p2⟩ := stay s' hj
              cases q1
              cases q2
              have z1 := sz r1 p1
              have z2 := sz r2 p2
              have hz : (List.zipWith (eqX own st n) xs ys).length = xs.length := by rw [List.length_zipWith, hlen, Nat.min_self]
              refine ⟨us.toArray, ws.toArray, by simp [hz, z1], by simp [hz, z2, hlen], l1, l2, fun i h1 h2 c hc => ?_⟩
              have i1 : i < us.length := by simpa using h1
              have i2 : i < ws.length := by simpa using h2
              obtain ⟨x', hx', rx'⟩ := rel_get r1 (List.getElem?_eq_getElem i1)
              obtain ⟨y', hy', ry'⟩ := rel_get r2 (List.getElem?_eq_getElem i2)
              obtain ⟨dx', hdx, px'⟩ := p1.get' hx'
              obtain ⟨dy', hdy, py'⟩ := p2.get' hy'
              rw [List.getElem?_zipWith, hdx, hdy] at hc
              have hc' : eqX own st n dx' dy' = some c := by simpa using hc
              have js : Jat X pins σ m' H' st s' := ⟨H', m', I', Ext.refl _ _, rl'⟩
              have back : EqS X.prog X.w (Jat X pins σ m H st) A'.in1 us[i] ws[i] c s' := fun E Q hQ => inner H' m' us[i] ws[i] x' y' dx' dy' c rx' ry' ⟨s', js⟩ px' py' hc' E Q s' js fun s2 h2 => hQ s2 (Jat.up e' h2)
              simpa using back
            · rename_i hlen
              cases e
              refine rcj_lens (fun s' hj => ?_) hu
              obtain ⟨b1, b2, us, ws, vs, vs', q1, q2, l1, l2, r1, r2, H', m', I', rl', e', p1, p2⟩ := stay s' hj
              cases q1
              cases q2
              have z1 := sz r1 p1
              have z2 := sz r2 p2
              exact ⟨us.toArray, ws.toArray, by simp [z1, z2, hlen], l1, l2⟩
          · exact ⟨fun E Q s' hj _ => absurd ⟨s', hj⟩ hs, fun E Q s' hj _ => absurd ⟨s', hj⟩ hs⟩
        · split at e
          · rename_i ha
            cases e
            unfold apart at ha
            split at ha
            · rename_i t t' ht ht'
              have hd : (t = .dict ∧ t' ≠ .dict) ∨ (t ≠ .dict ∧ t' = .dict) := by simpa using ha
              constructor
              · intro E Q s' hj hQ
                obtain ⟨H', m', I, e', rl⟩ := id hj
                exact rc_apart (ck_of I rl rx (px.up e') ht) (ck_of I rl ry (py.up e') ht') hd hu (hQ s' hj)
              · intro E Q s' hj hQ
                obtain ⟨H', m', I, e', rl⟩ := id hj
                exact rc_apartN (ck_of I rl rx (px.up e') ht) (ck_of I rl ry (py.up e') ht') hd hu (hQ s' hj)
            · cases ha
          · have e2 : own st dx dy = some b := by
              unfold ownL at e
              split at e
              · rename_i q; cases e; exact q
              · rename_i q
                split at e
                · cases e
                · cases e; exact q
              · cases e
            constructor
            · intro E Q s' hj hQ
              obtain ⟨H', m', I, e', rl⟩ := id hj
              exact (ho.run A' (hr.mono (by omega)) hf pins σ H' m' st s' u v x y dx dy b E Q I rl rx ry (px.up e') (py.up e') e2).1 fun s2 h2 => hQ s2 (Jat.up e' h2)
            · intro E Q s' hj hQ
              obtain ⟨H', m', I, e', rl⟩ := id hj
              exact (ho.run A' (hr.mono (by omega)) hf pins σ H' m' st s' u v x y dx dy b E Q I rl rx ry (px.up e') (py.up e') e2).2 fun s2 h2 => hQ s2 (Jat.up e' h2)
end
end DX

/-! DX W: the law's own call, where no repr is under way -/
namespace DX
open PySem PySem.Spec PyProof.Rows L2
section
variable {P : Program} {w : World} {K : PySem.W.Frag} {mg mb : Str → Option Value} {k : Nat} {fa a : Addr} {F : FF} {s : Shared} {vs : List Value} {ns : List Int}
/-- the script alone, where it is no object of the module -/
noncomputable def scrH (K : PySem.W.Frag) (a : Addr) (vs : List Value) (ns : List Int) : Hp := fun b =>
  if b = a ∧ K.lookup a = none then some (.frz { cls := .type "list", data := .seq vs.toArray } (.lst (ns.map V.int))) else none
theorem scrH_none {b : Addr} (h : ¬ (b = a ∧ K.lookup a = none)) : scrH K a vs ns b = none := if_neg h
theorem scrH_dict {b : Addr} {o : Obj} {es : Array DictEntry} {ep : Nat} (ha : s.heap.get? a = some { cls := .type "list", data := .seq vs.toArray }) (e : s.heap.get? b = some o) (d : o.data = .dict es ep) : scrH K a vs ns b = none :=
  scrH_none fun z => by
    obtain ⟨rfl, _⟩ := z
    rw [e] at ha
    have h1 := congrArg (fun o => o.map Obj.data) ha
    simp only [Option.map_some, d] at h1
    cases h1
theorem scrH_K (KX : K.In s.heap) {b : Addr} {o : Obj} (e : K.lookup b = some o) : scrH K a vs ns b = none :=
  scrH_none fun z => by
    obtain ⟨rfl, z2⟩ := z
    rw [e] at z2
    cases z2
theorem hid_ns (ha : s.heap.get? a = some { cls := .type "list", data := .seq vs.toArray }) {b : Addr} {m : Str → Option Value} (h : s.heap.Ns b m) : (hidT s.heap (scrH K a vs ns)).Ns b m := by
  obtain ⟨o, es, ep, e, d, r⟩ := h
  exact ⟨o, es, ep, hidT_get e (scrH_dict ha e d), d, r⟩
/-- the script and the tables of code objects, as they stand ahead of the law's call -/
noncomputable def stH (K : PySem.W.Frag) (a : Addr) (vs : List Value) (ns : List Int) (ts : List Addr) : Hp := fun b => if b ∈ ts then some (.tbl #[]) else scrH K a vs ns b
/-- a code object, its table, the name of the lambdas in it -/
abbrev Tcs := List (Addr × Addr × Str)
def Tcs.ts (cs : Tcs) : List Addr := cs.map (·.2.1)
def Tcs.tb0 (cs : Tcs) : TB0 := ⟨cs.map (·.2)⟩
theorem Tcs.mem {cs : Tcs} {p : Addr × Addr × Str} (h : p ∈ cs) : p.2.1 ∈ cs.ts := List.mem_map.mpr ⟨p, h, rfl⟩
theorem Tcs.of {cs : Tcs} {b : Addr} (h : b ∈ cs.ts) : ∃ p ∈ cs, p.2.1 = b := by
  obtain ⟨p, h1, h2⟩ := List.mem_map.mp h
  exact ⟨p, h1, h2⟩
/-- what is asked of them -/
structure TcsOk (K : PySem.W.Frag) (h : Heap) (cs : Tcs) : Prop where
  tab : ∀ p ∈ cs, h.get? p.2.1 = some { cls := .none, data := .fields #[] }
  no : ∀ p ∈ cs, K.lookup p.2.1 = none
  code : ∀ p ∈ cs, PySem.W.CodeHd h p.1 p.2.1
/-- the law's def, called on the script -/
theorem law_goT {cs : Tcs} (KX : K.In s.heap) (hns : s.heap.Ns mainGlobals mg) (hb : s.heap.Ns builtinsNs mb) (hbb : ∀ x : Str, x ≠ "__name__" → mb x = bootBuiltins x) (hlim : s.heap.NoLimit) (hg : s.gens = #[]) (T : TcsOk K s.heap cs)
    (hbm : ∃ (bm : Addr) (ob : Obj), mg "__builtins__" = some (.ref bm) ∧ bm ≠ builtinsNs ∧ s.heap.get? bm = some ob ∧ ob.cls = .type "module" ∧ ob.dict = some builtinsNs ∧ ob.data = .plain)
    (ha : s.heap.get? a = some { cls := .type "list", data := .seq vs.toArray }) (hi : IntsAre vs ns) (hl : ns.length ≤ 63) (hr : Room k callerA)
    (G : ∀ base : Heap, K.In base → base.Ns mainGlobals mg → (∀ p ∈ cs, LamX.TabB base mg p.1 p.2.1) → @FnD cs.tb0 P w K mg base k true fa F) (LAW : ∀ ns : List Int, ns.length ≤ 63 → ∃ st, F [.rd (ns.map .int)] [] = .ok (.bl true) st) :
    codeAny (model P w) callerA (.call (.ref fa) ⟨[.ref a], []⟩) (fun r s' => r = .ok (.ret (.bool true)) ∧ OldK s.heap s'.heap ∧ s'.os = s.os ∧ AllBare s'.gens) s := by
  letI : TB0 := cs.tb0
  have hl2 : ns.length ≤ sizeLine := Nat.le_trans hl (by decide)
  have isT : ∀ b ∈ cs.ts, s.heap.get? b = some { cls := .none, data := .fields #[] } := fun b z => by
    obtain ⟨p, hp, rfl⟩ := Tcs.of z
    exact T.tab p hp
  have aT : a ∉ cs.ts := fun z => by
    have q := isT a z
    rw [ha] at q
    have z' : Data.seq vs.toArray _ = Data.fields #[] := congrArg Obj.data (Option.some.inj q)
    cases z'
  let H := stH K a vs ns cs.ts
  have hIn : ∀ {b}, b ∈ cs.ts → H b = some (.tbl #[]) := fun z => if_pos z
  have hOut : ∀ {b}, b ∉ cs.ts → H b = scrH K a vs ns b := fun z => if_neg z
  -- what is neither the script nor a table is not tracked
  have free : ∀ {b : Addr} {o : Obj}, s.heap.get? b = some o → (∀ xs n, o.data ≠ .seq xs n) → o.data ≠ .fields #[] → H b = none := fun {b o} e h1 h2 => by
    by_cases hb : b ∈ cs.ts
    · rw [isT b hb] at e
      cases e
      exact (h2 rfl).elim
    · rw [hOut hb]
      refine scrH_none fun z => ?_
      obtain ⟨rfl, _⟩ := z
      rw [ha] at e
      cases e
      exact h1 _ _ rfl
  have freeD : ∀ {b : Addr} {o : Obj} {es : Array DictEntry} {ep : Nat}, s.heap.get? b = some o → o.data = .dict es ep → H b = none := fun e d => free e (fun xs n z => by rw [d] at z; cases z) (fun z => by rw [d] at z; cases z)
  have nsB : ∀ {b : Addr} {m : Str → Option Value}, s.heap.Ns b m → (hidT s.heap H).Ns b m := fun ⟨o, es, ep, e, d, r⟩ => ⟨o, es, ep, hidT_get e (freeD e d), d, r⟩
  have base_K : K.In (hidT s.heap H) := fun b o e => hidT_get (KX b o e) (by
    by_cases hb : b ∈ cs.ts
    · obtain ⟨p, hp, rfl⟩ := Tcs.of hb
      rw [T.no p hp] at e
      cases e
    · rw [hOut hb]
      exact scrH_K (s := s) KX e)
  have md : Mod K mg (hidT s.heap H) := by
    obtain ⟨mc, l1, l2⟩ := hlim
    exact ⟨base_K, nsB hns, ⟨mb, nsB hb, hbb⟩, ⟨mc, nsB l1, l2⟩⟩
  have tabs : ∀ p ∈ cs, LamX.TabB (hidT s.heap H) mg p.1 p.2.1 := fun p hp => by
    have atP := T.tab p hp
    have codes := T.code p hp
    obtain ⟨bm, ob, b1, b2, b3, b4, b5, b6⟩ := hbm
    refine ⟨?_, ⟨bm, ob, b1, b2, fun q => ?_, fun q => ?_, hidT_get b3 (free b3 (fun xs n z => by rw [b6] at z; cases z) (fun z => by rw [b6] at z; cases z)), b4, b5, b6⟩, fun z => ?_⟩
    · obtain ⟨o, us, file, tf, flags, tg, inF, text, tt, e1, r1, r2, r3, rest⟩ := codes
      refine ⟨o, us, file, tf, flags, tg, inF, text, tt, hidT_get e1 (free e1 (fun xs n z => ?_) fun z => ?_), r1, r2, r3, rest⟩
      · rw [r2] at z
        cases z
      · rw [r2] at z
        cases z
        simp at r3
    · obtain ⟨o, es, ep, e, hd, _⟩ := hns
      rw [q, e] at b3
      cases b3
      rw [hd] at b6
      cases b6
    · rw [q, atP] at b3
      cases b3
      cases b6
    · obtain ⟨o, es, ep, e, hd, _⟩ := hns
      rw [z, atP] at e
      cases e
      cases hd
  have ok : HOk P w H s.heap := fun b u z => by
    by_cases hb : b ∈ cs.ts
    · rw [hIn hb] at z
      cases z
      exact isT b hb
    · rw [hOut hb] at z
      unfold scrH at z
      split at z
      · rename_i hc
        obtain ⟨rfl, _⟩ := hc
        cases z
        exact ⟨ha, by rw [List.length_map]; exact hl2, vs, _, vals_ints hi, ha⟩
      · cases z
  have env : Env0 P w K mg (hidT s.heap H) callerA [] s H :=
    ⟨rfl, md, fun b o e => of_hidT e, Nat.le_of_eq (hidT_size _ _), trivial, fun b z => absurd (show b ∈ ([] : List Addr) from z) (by simp), ok, .of_eq hg⟩
  obtain ⟨st, eF⟩ := LAW ns hl
  let m0 : Mp := ⟨[], [], TB0.tb⟩
  have arg : Rep K H m0 (.ref a) (.rd (ns.map .int)) := by
    refine .rd ?_ RepL.ints
    cases hk : K.lookup a with
    | none => exact .inl ⟨.inr ⟨_, (hOut aT).trans (if_pos ⟨rfl, hk⟩)⟩, by simp [m0, Mp.out]⟩
    | some o =>
      have e := KX a o hk
      rw [ha] at e
      cases e
      exact .inr ⟨_, vs.toArray, _, hk, rfl, rfl, rfl, by rw [List.size_toArray, hi.length]; exact hl2, by simpa using vals_ints hi⟩
  have rl : Rl K m0 H [] := by
    refine ⟨.nil, rfl, fun n o a h => by simp at h, fun a h => by simp [m0] at h, fun a h => by simp [m0] at h, fun a h => by simp [m0] at h, fun p hp => ?_, rfl⟩
    obtain ⟨p', hp', rfl⟩ := List.mem_map.mp (show p ∈ cs.map (·.2) from hp)
    refine ⟨by simp [m0, Mp.out], #[], hIn (Tcs.mem hp'), True.intro, fun pos cv hc => ?_⟩
    have z : codeAmong pos [] = some cv := hc
    simp [codeAmong] at z
  have run := (G _ base_K (nsB hns) tabs).run callerA [] s H [.ref a] [.ref a] (fun v _ => v = .bl true) (fun _ _ _ => False) hr (fun _ => rfl) env (.cons rfl .nil)
    ⟨[.rd (ns.map .int)], [], m0, .cons arg .nil, rl, by
      rw [eF]
      intro v H' m' _ _ rp
      cases rp
      rfl⟩
  refine codeAny_mono run fun r s' h => ?_
  match r, h with
  | .error e, h => exact (cx_false h).elim
  | .ok .next, h => exact h.elim
  | .ok .brk, h => exact h.elim
  | .ok .cont, h => exact h.elim
  | .ok (.ret u), h =>
  obtain ⟨v, H', os, bare, un, ok', rel, q⟩ := h
  have q' : v = .bl true := q
  subst q'
  obtain rfl : u = Value.bool true := rel
  have rest : ∀ b o, b ∉ cs.ts → s.heap.get? b = some o → s'.heap.get? b = some o := fun b o nb e => by
    by_cases hc : b = a ∧ K.lookup a = none
    · obtain ⟨g1, _⟩ := ok' b _ (un.frzs b _ _ ((hOut nb).trans (if_pos hc)))
      obtain ⟨rfl, _⟩ := hc
      rw [ha] at e
      cases e
      exact g1
    · exact un.keep b o e ((hOut nb).trans (scrH_none hc)) (fun z => absurd (show b ∈ ([] : List Addr) from z) (by simp)) (by simp)
  have grown : ∀ p ∈ cs, ∃ more : Array Value, s'.heap.get? p.2.1 = some { cls := .none, data := .fields more } := fun p hp => by
    obtain ⟨more, z⟩ := un.tbls p.2.1 #[] (hIn (Tcs.mem hp))
    exact ⟨_, ok' p.2.1 _ z⟩
  refine ⟨rfl, ⟨fun b o e => ?_, fun b o e => ?_⟩, os, bare⟩
  · by_cases hb : b ∈ cs.ts
    · obtain ⟨p, hp, rfl⟩ := Tcs.of hb
      obtain ⟨more, hm⟩ := grown p hp
      rw [T.tab p hp] at e
      cases e
      exact .inr (.inl ⟨((T.code p hp).tab (T.tab p hp)).isCodeTable, rfl, #[], more, rfl, by rw [Array.empty_append]; exact hm⟩)
    · exact .inl (rest b o hb e)
  · by_cases hb : b ∈ cs.ts
    · obtain ⟨p, hp, rfl⟩ := Tcs.of hb
      obtain ⟨more, hm⟩ := grown p hp
      exact ⟨_, hm⟩
    · exact ⟨o, rest b o hb e⟩
end
/-- the head's goal, from the law's meaning; the code objects that make lambdas, and their tables, are told at the head's heap -/
theorem walk_T {l : PySem.W.OpenLaw} {k : Nat} {q : Program} {loose : List Str} {XP : (Str → Option Value) → Heap → Prop} {YP : World → Heap → Prop} {d : DefRec} {K : Params → PySem.W.Frag} {F : FF} (hn : l.most = some 63) (hdf : d.params.defaults = []) (hr : Room k callerA)
    (hY : ∀ (w : World) (h : Heap), YP w h → (K w.params).In h)
    (G : ∀ (w : World) (mg : Str → Option Value) (fa : Addr) (h : Heap), YP w h → (K w.params).In h → h.Ns mainGlobals mg → mg d.name = some (.ref fa) → ∃ cs : Tcs, TcsOk (K w.params) h cs ∧
      ∀ base : Heap, (K w.params).In base → base.Ns mainGlobals mg → (∀ p ∈ cs, LamX.TabB base mg p.1 p.2.1) → @FnD cs.tb0 l.prog w (K w.params) mg base k true fa F)
    (LAW : ∀ ns : List Int, ns.length ≤ 63 → ∃ st, F [.rd (ns.map .int)] [] = .ok (.bl true) st) : PySem.W.WalkO q loose XP YP l.row.toRowW d [] (fun f vs => PySem.call f vs) := by
  refine Att.attach_call hn hdf fun w s₀ s mg mb fa o pm cd doc a vs ns G0 Y ho hd hcd hmg hobj hints hlen hg => ?_
  obtain ⟨cs, T, G'⟩ := G w mg fa _ Y (hY w _ Y) G0.T.g hmg
  exact law_goT (hY w _ Y) G0.T.g G0.T.b G0.T.builtins G0.T.nolimit hg T G0.T.bmain hobj hints hlen hr G' LAW
/-- .. where no def makes a lambda -/
theorem walk_D {l : PySem.W.OpenLaw} {k : Nat} {q : Program} {loose : List Str} {XP : (Str → Option Value) → Heap → Prop} {YP : World → Heap → Prop} {d : DefRec} {K : Params → PySem.W.Frag} {F : FF} (hn : l.most = some 63) (hdf : d.params.defaults = []) (hr : Room k callerA)
    (hY : ∀ (w : World) (h : Heap), YP w h → (K w.params).In h)
    (G : ∀ (T0 : TB0) (w : World) (mg : Str → Option Value) (fa : Addr) (h : Heap), (K w.params).In h → h.Ns mainGlobals mg → mg d.name = some (.ref fa) → ∀ base : Heap, (K w.params).In base → base.Ns mainGlobals mg → FnD l.prog w (K w.params) mg base k true fa F)
    (LAW : ∀ ns : List Int, ns.length ≤ 63 → ∃ st, F [.rd (ns.map .int)] [] = .ok (.bl true) st) : PySem.W.WalkO q loose XP YP l.row.toRowW d [] (fun f vs => PySem.call f vs) :=
  walk_T hn hdf hr hY (fun w mg fa h _ h2 h3 h4 => ⟨[], ⟨fun p hp => absurd hp (by simp), fun p hp => absurd hp (by simp), fun p hp => absurd hp (by simp)⟩, fun base k1 k2 _ => G (Tcs.tb0 []) w mg fa h h2 h3 h4 base k1 k2⟩) LAW
end DX

set_option maxHeartbeats 1000000
/-! DX O: order on data; == at any depth; lists and tuples turned; sets that are sorted or counted at once -/
namespace DX
open PySem PySem.Spec PyProof.Rows L2
variable [TB0]
/-! ### < on data -/
def isNonP : PyData → Bool
  | .none => true
  | _ => false
def ltP (st : Store) (x y : D) : Option (PyData × PyData) := match pyS st x, pyS st y with
  | some a, some b => if PySem.W.alike a b = true ∧ isNonP a = false ∧ min a.depth b.depth ≤ 60 then some (a, b) else none
  | _, _ => none
def bLtP : B2 := fun st x y => (ltP st x y).map fun p => .bl (PySem.W.dataLt p.1 p.2)
def bGtP : B2 := fun st x y => (ltP st x y).map fun p => .bl (PySem.W.dataLt p.2 p.1)
def bLeP : B2 := fun st x y => (ltP st x y).map fun p => .bl (!PySem.W.dataLt p.2 p.1)
def bGeP : B2 := fun st x y => (ltP st x y).map fun p => .bl (!PySem.W.dataLt p.1 p.2)
section
variable {X : Cx}
theorem nonP_ne {a : PyData} (h : isNonP a = false) : a ≠ .none := fun z => by
  subst z
  cases h
def rCmpP (K : PySem.W.Frag) (g : PyData → PyData → Bool) : R2 := fun x y H Q => ∃ d e, Dp K H x d ∧ Dp K H y e ∧ PySem.W.alike d e = true ∧ isNonP d = false ∧ min d.depth e.depth ≤ 60 ∧ Q (.bl (g d e)) H
theorem cmpP_sp {m : Mp} {H : Hp} {st : Store} {x y : V} {dx dy d : D} {Q : VK} {g : PyData → PyData → Bool} (r : Rl X.K m H st) (px : Rep X.K H m x dx) (py : Rep X.K H m y dy) (e : (ltP st dx dy).map (fun p => D.bl (g p.1 p.2)) = some d) (k : PostV X.K m H Rep Q d st) : rCmpP X.K g x y H Q := by
  unfold ltP at e
  split at e
  · rename_i a b ha hb
    split at e
    · rename_i hc
      cases e
      exact ⟨a, b, (Dp.ofS r px ha).1, (Dp.ofS r py hb).1, hc.1, hc.2.1, hc.2.2, k.go r (.bl _)⟩
    · cases e
  · cases e
theorem opd_ltP (hu : X.A.units + 64 < cLine) : OpD X (compareOp .Lt) bLtP := ⟨rCmpP X.K PySem.W.dataLt, fun pins s σ H x y v u Q I rx ry ⟨d, e, hd, he, ha, hn, hm, q⟩ => by
  obtain ⟨as, r1⟩ := Dp.reads I d x v hd rx
  obtain ⟨bs, r2⟩ := Dp.reads I e y u he ry
  exact PySem.W.lt_data r1 r2 ha (nonP_ne hn) (by omega) ⟨.bl _, H, I, rfl, q⟩, fun H m st x y dx dy d Q r px py e k => cmpP_sp r px py e k⟩
theorem opd_gtP (hu : X.A.units + 64 < cLine) : OpD X (compareOp .Gt) bGtP := ⟨rCmpP X.K fun a b => PySem.W.dataLt b a, fun pins s σ H x y v u Q I rx ry ⟨d, e, hd, he, ha, hn, hm, q⟩ => by
  obtain ⟨as, r1⟩ := Dp.reads I d x v hd rx
  obtain ⟨bs, r2⟩ := Dp.reads I e y u he ry
  exact PySem.W.gt_data r1 r2 ha (nonP_ne hn) (by omega) ⟨.bl _, H, I, rfl, q⟩, fun H m st x y dx dy d Q r px py e k => cmpP_sp r px py e k⟩
theorem opd_leP (hu : X.A.units + 64 < cLine) : OpD X (compareOp .LtE) bLeP := ⟨rCmpP X.K fun a b => !PySem.W.dataLt b a, fun pins s σ H x y v u Q I rx ry ⟨d, e, hd, he, ha, hn, hm, q⟩ => by
  obtain ⟨as, r1⟩ := Dp.reads I d x v hd rx
  obtain ⟨bs, r2⟩ := Dp.reads I e y u he ry
  exact PySem.W.le_data r1 r2 ha (nonP_ne hn) (by omega) ⟨.bl _, H, I, rfl, q⟩, fun H m st x y dx dy d Q r px py e k => cmpP_sp r px py e k⟩
theorem opd_geP (hu : X.A.units + 64 < cLine) : OpD X (compareOp .GtE) bGeP := ⟨rCmpP X.K fun a b => !PySem.W.dataLt a b, fun pins s σ H x y v u Q I rx ry ⟨d, e, hd, he, ha, hn, hm, q⟩ => by
  obtain ⟨as, r1⟩ := Dp.reads I d x v hd rx
  obtain ⟨bs, r2⟩ := Dp.reads I e y u he ry
  exact PySem.W.ge_data r1 r2 ha (nonP_ne hn) (by omega) ⟨.bl _, H, I, rfl, q⟩, fun H m st x y dx dy d Q r px py e k => cmpP_sp r px py e k⟩
def bLtA : B2 := bOr bLtI (bOr bLtS bLtP)
def bLeA : B2 := bOr bLeI (bOr bLeS bLeP)
def bGtA : B2 := bOr bGtI (bOr bGtS bGtP)
def bGeA : B2 := bOr bGeI (bOr bGeS bGeP)
theorem opd_ltA (hu : X.A.units + 64 < cLine) : OpD X (compareOp .Lt) bLtA := opd_ltI.or (opd_ltS.or (opd_ltP hu))
theorem opd_leA (hu : X.A.units + 64 < cLine) : OpD X (compareOp .LtE) bLeA := opd_leI.or (opd_leS.or (opd_leP hu))
theorem opd_gtA (hu : X.A.units + 64 < cLine) : OpD X (compareOp .Gt) bGtA := opd_gtI.or (opd_gtS.or (opd_gtP hu))
theorem opd_geA (hu : X.A.units + 64 < cLine) : OpD X (compareOp .GtE) bGeA := opd_geI.or (opd_geS.or (opd_geP hu))
/-! ### times, of lists and tuples too -/
def bMulA : B2 := bOr bMul (bOr bMulL bMulT)
theorem opd_mulA : OpD X (binaryOp .Mult) bMulA := opd_mul.or (opd_mulL.or opd_mulT)
end
/-! ### == at any depth, own classes within -/
noncomputable def bEqX (own : Own) (n : Nat) : B2 := fun st x y => (eqX own st n x y).map .bl
noncomputable def bNeX (own : Own) (n : Nat) : B2 := fun st x y => (eqX own st n x y).map fun b => .bl !b
def ownNo : Own := fun _ _ _ => none
theorem ownNo_ok {X : Cx} {j : Nat} : OwnOk X j ownNo where
  run := by
    intro A' _ _ pins σ H m st s u v x y dx dy b E Q _ _ _ _ _ _ e
    cases e
  ref := by
    intro H m st x dx dy b _ e
    cases e
/-- a def called deeper within, that raises nothing -/
theorem run_deep0 {X : Cx} {j : Nat} {g : Bool} {F : FF} {A' : Around} {f : Addr} {pins : List (Addr × Obj)} {σ : L2.St} {H : Hp} {s : Shared} {Q : VK} {us : List Value} {vs : List V} {E : Value → Shared → Prop} (G : FnD X.prog X.w X.K X.mg X.base j g f F) (hr : Room j A') (hgd : g = true → A'.guards = some []) (hf : A'.frames = X.A.frames)
    (I : Inv X pins σ H s) (r : Vals vs us) (h : spOf X.K F vs H Q E0) : wpAny (model X.prog X.w) A' (call (.ref f) us) (EP X pins σ Q) E s := by
  have e0 := I.env0
  have env : Env0 X.prog X.w X.K X.mg X.base A' X.stack s H := ⟨hf.trans e0.frames, e0.mod, e0.bs, e0.bsz, e0.funs, e0.frf, e0.hok, e0.bare⟩
  refine wpAny_call (codeAny_mono (G.run A' X.stack s H us vs Q E0 hr hgd env r h) fun res s2 hq => ?_)
  match res, hq with
  | .error ex, hq =>
    obtain ⟨_, _, _, _, _, _, _, _, _, _, _, _, z⟩ := hq
    exact z.elim
  | .ok (.ret u), hq => exact I.after hq
  | .ok .next, hq => exact hq.elim
  | .ok .brk, hq => exact hq.elim
  | .ok .cont, hq => exact hq.elim
section
variable {X : Cx} {W : WX} {k j n : Nat} {g : Bool} {own : Own}
theorem opd_eqX (c : Ctx X W k g) (ho : OwnOk X j own) (hj : j + n ≤ k := by decide) : OpD X (compareOp .Eq) (bEqX own n) :=
  ⟨fun x y H Q => ∃ m st dx dy b, Rl X.K m H st ∧ Rep X.K H m x dx ∧ Rep X.K H m y dy ∧ eqX own st n dx dy = some b ∧ PostV X.K m H Rep Q (.bl b) st, fun pins s σ H x y v u Q I rx ry ⟨m, st, dx, dy, b, rl, px, py, e, q⟩ =>
    (eqX_rc (pins := pins) (σ := σ) (st := st) ho n X.A H m (c.room.mono hj) rfl v u x y dx dy b rx ry px py e).1 X.xe _ s ⟨H, m, I, Ext.refl m H, rl⟩ fun s' ⟨H', m', I', e', r'⟩ => ⟨.bl b, H', I', rfl, q _ H' m' e' r' (.bl b)⟩,
    fun H m st x y dx dy d Q r px py e q => by
      unfold bEqX at e
      cases z : eqX own st n dx dy with
      | none => rw [z] at e; cases e
      | some b =>
        rw [z] at e
        cases e
        exact ⟨m, st, dx, dy, b, r, px, py, z, q⟩⟩
theorem opd_neX (c : Ctx X W k g) (ho : OwnOk X j own) (hj : j + n ≤ k := by decide) : OpD X (compareOp .NotEq) (bNeX own n) :=
  ⟨fun x y H Q => ∃ m st dx dy b, Rl X.K m H st ∧ Rep X.K H m x dx ∧ Rep X.K H m y dy ∧ eqX own st n dx dy = some b ∧ PostV X.K m H Rep Q (.bl !b) st, fun pins s σ H x y v u Q I rx ry ⟨m, st, dx, dy, b, rl, px, py, e, q⟩ =>
    (eqX_rc (pins := pins) (σ := σ) (st := st) ho n X.A H m (c.room.mono hj) rfl v u x y dx dy b rx ry px py e).2 X.xe _ s ⟨H, m, I, Ext.refl m H, rl⟩ fun s' ⟨H', m', I', e', r'⟩ => ⟨.bl !b, H', I', rfl, q _ H' m' e' r' (.bl !b)⟩,
    fun H m st x y dx dy d Q r px py e q => by
      unfold bNeX at e
      cases z : eqX own st n dx dy with
      | none => rw [z] at e; cases e
      | some b =>
        rw [z] at e
        cases e
        exact ⟨m, st, dx, dy, b, r, px, py, z, q⟩⟩
/-! ### one class more whose == is known -/
noncomputable def ownOr (CT : List String) (c : String) (F : FF) (o : Own) : Own := fun st x y => match tagX CT st y with
  | some _ => match ownB c F st x y with
    | some b => some b
    | none => o st x y
  | none => o st x y
theorem ownB_ins {c : String} {F : FF} {st : Store} {x y : D} {b : Bool} (h : ownB c F st x y = some b) : (insOf st x).isSome = true := by
  unfold ownB at h
  split at h
  · rename_i p hp
    unfold insIs at hp
    split at hp
    · rename_i hi
      rw [hi]
      rfl
    · cases hp
  · cases h
theorem own_or {CT : List String} {c : String} {C f : Addr} {F : FF} {i : Nat} {o : Own} (T : ClsT X.K CT) (hC : ClAt X.K c C) (S : Spec1 X.K C "__eq__" f) (hne : PySem.W.findIn X.K (.ref C) "__ne__" = some (some (.builtin "object.__ne__"))) (hm : PySem.W.mroIn X.K C (.type "object") = some true)
    (hN : EqFirst X.K CT C) (G : FnD X.prog X.w X.K X.mg X.base i false f F) (hi : i + 1 ≤ j) (ho : OwnOk X j o) : OwnOk X j (ownOr CT c F o) where
  run := fun A' hr hf pins σ H m st s u v x y dx dy b E Q I rl rx ry px py e => by
    unfold ownOr at e
    split at e
    · rename_i t ht
      split at e
      case h_2 => exact ho.run A' hr hf pins σ H m st s u v x y dx dy b E Q I rl rx ry px py e
      rename_i b2 hb
      obtain rfl : b2 = b := Option.some.inj e
      obtain ⟨tv, g1, g2⟩ := tagX_at T rl py ht
      have sp : ∀ Q' : VK, (∀ H2 m2, Ext m H m2 H2 → Rl X.K m2 H2 st → Q' (.bl b2) H2) → (∃ a dx fs, x = .ref a ∧ H a = some (.ins C dx fs)) ∧ spOf X.K F [x, y] H (fun w H2 => ∃ b1 : Bool, w = .bl b1 ∧ Q' (.bl b1) H2) E0 := fun Q' k => ownB_sp (Q := Q') hC rl px py hb k
      have hr1 : Room i A' := hr.mono (by omega)
      have hr2 : Room i A'.in1 := (hr.mono hi).in1
      have run : ∀ (A2 : Around) (hA : Room i A2) (hA2 : A2.frames = X.A.frames) (R : Value → Shared → Prop), (∀ s', Jat X pins σ m H st s' → R (.bool b2) s') → ∃ a ox od, u = .ref a ∧ PySem.W.InstAt s.heap a ox C od ∧ wpAny (model X.prog X.w) A2 (call (.ref f) [u, v]) R E s := fun A2 hA hA2 R hR => by
        obtain ⟨⟨a, dx', fs, ex, ha⟩, hsp⟩ := sp (fun w H2 => w = .bl b2 ∧ ∃ m2, Ext m H m2 H2 ∧ Rl X.K m2 H2 st) fun H2 m2 e2 r2 => ⟨rfl, m2, e2, r2⟩
        cases ex
        cases rx
        obtain ⟨ox, od, J⟩ := inst_at I ha
        refine ⟨a, ox, od, rfl, J, wpAny_mono (run_deep0 (X := X) (E := E) (A' := A2) (vs := [.ref a, y]) G hA (fun z => Bool.noConfusion z) hA2 I (.cons rfl (.cons ry .nil)) hsp) (fun w s2 hs => ?_) fun _ _ z => z⟩
        obtain ⟨wv, H2, I2, rw_, b1, ew, ⟨eb, m2, e2, r2⟩⟩ := hs
        cases ew
        cases eb
        cases rw_
        exact hR s2 ⟨H2, m2, I2, e2, r2⟩
      obtain ⟨PP, Z, pz, _⟩ := kit_of I ry g1
      obtain ⟨mm, hF⟩ := I.fr
      refine ⟨fun hq => ?_, fun hq => ?_⟩
      · obtain ⟨a, ox, od, eu, J, w⟩ := run A' hr1 hf (PySem.W.CmpBack Q) fun s' h' => hq s' h'
        subst eu
        exact PySem.W.cmp_K (op := .Eq) hr1.units0 hF I.ok.mod.kin J (Z.ty _ _ I.kIn pz) (hN t _ g2) S.at_ S.fn w
      · obtain ⟨a, ox, od, eu, J, w⟩ := run A'.in1 hr2 hf (fun w s' => ∃ k, w = .bool k ∧ Q (.bool !k) s') fun s' h' => ⟨b2, rfl, hq s' h'⟩
        subst eu
        exact ne_own hr1.units0 hr2.units0 I.kIn J (Z.ty _ _ I.kIn pz) (hN t _ g2) hne S.at_ S.fn hm w
    · exact ho.run A' hr hf pins σ H m st s u v x y dx dy b E Q I rl rx ry px py e
  ref := fun H m st x dx dy b p e => by
    unfold ownOr at e
    split at e
    · rename_i t ht
      split at e
      · rename_i b' hb
        exact ownB_ins hb
      · exact ho.ref H m st x dx dy b p e
    · exact ho.ref H m st x dx dy b p e
end
end DX

/-! DX G: what the generator leans on -/
namespace DX
open PySem PySem.Spec PyProof.Rows L2
variable [TB0]
/-! ### a written dict of ints by texts -/
def tabI : List DictEntry → Option (List (Str × Int))
  | [] => some []
  | e :: r => match e.key, e.val with
    | .str x _, .int i _ => (tabI r).map ((x, i) :: ·)
    | _, _ => none
structure WDict (K : PySem.W.Frag) (w : World) (x : Str) (tab : List (Str × Int)) (mg : Str → Option Value) : Prop where
  ex : ∃ (a : Addr) (es : Array DictEntry) (n : Nat), mg x = some (.ref a) ∧ K.lookup a = some ⟨.type "dict", none, .dict es n, #[]⟩ ∧ PySem.W.KeysLit w.params es.toList ∧ (a == sysModules) = false ∧ tabI es.toList = some tab
theorem tabI_find {y : Str} : ∀ (es : List DictEntry) (tab : List (Str × Int)), tabI es = some tab → ∃ r : Option Value, (match es.find? (fun e => e.key.isStr y) with | some e => some (some e.val) | none => if es.any (·.refKey) then none else some none) = some r ∧ match tab.lookup y with
    | some i => ∃ t, r = some (.int i t)
    | none => r = none
  | [], tab, h => by
    cases h
    exact ⟨none, rfl, rfl⟩
  | e :: es, tab, h => by
    unfold tabI at h
    split at h
    · rename_i x t i t2 hk hv
      obtain ⟨tab', h1, rfl⟩ := Option.map_eq_some_iff.mp h
      obtain ⟨r, h2, h3⟩ := tabI_find (y := y) es tab' h1
      have hb : e.key.isStr y = (y == x) := by
        rw [hk]
        show (x == y) = (y == x)
        exact PySem.W.beq_swap x y
      cases q : (y == x) with
      | true =>
        refine ⟨some (.int i t2), ?_, ?_⟩
        · rw [List.find?_cons_of_pos (by rw [hb, q]), ← hv]
        · rw [List.lookup_cons, q]
          exact ⟨t2, rfl⟩
      | false =>
        have hr : e.refKey = false := by
          unfold DictEntry.refKey
          rw [hk]
        refine ⟨r, ?_, ?_⟩
        · rw [List.find?_cons_of_neg (by rw [hb, q]; decide), List.any_cons, hr, Bool.false_or]
          exact h2
        · rw [List.lookup_cons, q]
          exact h3
    · cases h
/-- tab.get(k, e) -/
def eGetW (tab : List (Str × Int)) (fk fe : EF) : EF := fun ρ st => (fk ρ st).bind fun k st1 => (fe ρ st1).bind fun d st2 => match k with
  | .str y => .ok (match tab.lookup y with | some i => .int i | none => d) st2
  | _ => .bad
section
variable {X : Cx} {W : WX} {e f : Expr} {fk fe : EF} {pos apos p : Pos}
theorem se_getW {x : Str} {tab : List (Str × Int)} (hc : X.calm = true) (D : WDict X.K X.w x tab X.mg) (hg : Gl X x) (hk : SE X W e fk) (he : SE X W f fe) (hd : (x == ("__debug__" : Str)) = false := by decide)
    (h1 : attributeBase (.Name x p) "get" X.env (eval (.Name x p) X.env) = eval (.Name x p) X.env := by rfl)
    (h2 : ((backTo pos (starEach [e, f] X.env)).all (fun x => !x.1) && (backToKw pos (keywordEach [] X.env)).all (fun x => x.1.isSome) && decide ([e, f].length + ([] : List Keyword).length + (if ([] : List Keyword).isEmpty then 0 else 1) < 30)) = true := by rfl)
    (h3 : (apos.endLine == pos.line) = true := by rfl) (h4 : starEach [e, f] X.env = (false, eval e X.env) :: starEach [f] X.env := by rfl) (h6 : starEach [f] X.env = (false, eval f X.env) :: starEach [] X.env := by rfl) (h5 : (backTo pos (starEach [f] X.env)).any (·.1) = false := by rfl) :
    SE X W (.Call (.Attribute (.Name x p) "get" apos) [e, f] [] pos) (eGetW tab fk fe) := by
  obtain ⟨t1, p1, q1⟩ := hk
  obtain ⟨t2, p2, q2⟩ := he
  obtain ⟨a, es, n, gm, gl, lit, low, ht⟩ := D.ex
  refine ⟨fun σ H Q => tCons t1 (tCons t2 tNil) σ H fun xs H2 => ∃ y d, xs = [.str y, d] ∧ (match tab.lookup y with | some i => Q (.int i) H2 | none => Q d H2), ⟨fun pins s σ H Q I h => ?_⟩, ?_⟩
  · refine wpAny_Call_method_late h1 h2 h3 rfl (ld_glob I hg gm ?_ hd)
    have at_ : s.heap.get? a = some ⟨.type "dict", none, .dict es n, #[]⟩ := I.kIn a _ gl
    refine ⟨"dict", "dict.get", PySem.F.plainAttrs_dict, PySem.F.slot_dict_get, PySem.F.type_dict_get, ⟨_, at_, rfl⟩, fun b eb => ⟨_, (by cases eb; exact at_), rfl⟩, ?_⟩
    have hA := (pa_cons p1 (pa_cons p2 pa_nil h6) h4).run pos pins s σ H _ I h
    rw [h4] at hA ⊢
    refine Calls.callWith_builtin (by show (false || (backTo pos (starEach [f] X.env)).any (·.1)) = false; rw [h5]; rfl) (Calls.evalArgs_plain ?_)
    refine thn hA fun us s2 ⟨vs, H2, I2, r2, y, d, ev, q⟩ => ?_
    subst ev
    cases r2 with
    | cons ry r2 =>
      cases r2 with
      | cons rd r3 =>
        cases r3
        obtain ⟨t, rfl⟩ := ry
        have mp := PySem.W.mapOf_K (prog := X.prog) (w := X.w) I2.kIn gl lit
        obtain ⟨r, hf, hr⟩ := tabI_find (y := y) es.toList tab ht
        have hf2 : PySem.W.nsIn X.K a y = some r := by
          unfold PySem.W.nsIn
          rw [gl]
          exact hf
        have hfind := PySem.W.find_K gl hf2
        refine call_meetsIn PySem.F.slot_dict_get mp.typeIs PySem.F.entry_dict_get (PySem.F.args_dict_get_3 _ _ _) (meets_dict_get_default (strKind X.prog X.w) a (strKind_is X.prog X.w y t) low _) ⟨_, mp, ?_⟩
        rw [hfind]
        cases hl : tab.lookup y with
        | some i =>
          rw [hl] at q hr
          obtain ⟨t', rfl⟩ := hr
          exact ⟨.int i, H2, I2.tok _, ⟨_, rfl⟩, q⟩
        | none =>
          rw [hl] at q hr
          subst hr
          exact ⟨d, H2, I2.tok _, rd, q⟩
  · intro σ H ρ st m Q s r h
    refine q1 σ H ρ st m _ s r (Post.mp h fun k st1 v H1 m1 e1 r1 r1' h' => q2 σ H1 ρ st1 m1 _ (s.up e1) r1 (Post.mp h' fun d st2 w H2 m2 e2 r2 r2' h2' => ?_))
    have rk := r1'.up e2
    cases k with
    | str y =>
      cases rk
      refine ⟨y, w, rfl, ?_⟩
      dsimp only at h2'
      cases z : tab.lookup y with
      | some i =>
        rw [z] at h2'
        exact h2'.go r2 (.int i)
      | none =>
        rw [z] at h2'
        exact h2'.go r2 r2'
    | _ => exact h2'.elim
end
/-! ### tuples and lists turned -/
def revD (st : Store) (d : D) : Option D := match d with
  | .tup xs => some (.tup xs.reverse)
  | _ => (seqL st d).map fun xs => .lst xs.reverse
section
variable {prog : Program} {w : World} {A : Around} {E : Value → Shared → Prop} {s : Shared}
theorem back_places (n : Nat) : Builtin.Slice.slicePlaces ((n : Int) - 1) (-1) (-1) = n := by
  unfold Builtin.Slice.slicePlaces
  rw [if_neg (show ¬ ((-1 : Int) > 0) by decide), show -(-1 : Int) = 1 from rfl, Int.ediv_one]
  split <;> omega
theorem back_pick (xs : Array Value) : ((List.range xs.size).filterMap fun (k : Nat) => xs[((xs.size : Int) - 1 + (k : Int) * (-1)).toNat]?).toArray = xs.toList.reverse.toArray := by
  congr 1
  have gen : ∀ n, n ≤ xs.size → (List.range n).filterMap (fun (k : Nat) => xs[((xs.size : Int) - 1 + (k : Int) * (-1)).toNat]?) = (xs.toList.drop (xs.size - n)).reverse := by
    intro n
    induction n with
    | zero => intro _; simp
    | succ n ih =>
      intro hn
      rw [List.range_succ, List.filterMap_append, ih (by omega)]
      have e : ((xs.size : Int) - 1 + (n : Int) * (-1)).toNat = xs.size - (n + 1) := by omega
      have hlt : xs.size - (n + 1) < xs.toList.length := by simp; omega
      have hd : xs.toList.drop (xs.size - (n + 1)) = xs.toList[xs.size - (n + 1)] :: xs.toList.drop (xs.size - n) := by
        rw [List.drop_eq_getElem_cons hlt]
        congr 2
        omega
      rw [hd, List.reverse_cons]
      congr 1
      have e2 : xs[((xs.size : Int) - 1 + (n : Int) * (-1)).toNat]? = some xs[xs.size - (n + 1)] := by
        rw [e, getElem?_pos xs (xs.size - (n + 1)) (by omega)]
      rw [List.filterMap_cons_some (f := fun (k : Nat) => xs[((xs.size : Int) - 1 + (k : Int) * (-1)).toNat]?) e2, List.filterMap_nil]
      simp
  rw [gen xs.size (Nat.le_refl _), Nat.sub_self, List.drop_zero]
theorem cut_back {sl : Addr} {vl vu vs : Value} {n : Nat} {Q : Int × Int × Nat → Shared → Prop} (hs : s.heap.IsSliceOf sl vl vu vs) (pl : IsPart vl none) (pu : IsPart vu none) (pv : IsPart vs (some (-1)))
    (hQ : Q ((n : Int) - 1, -1, n) s) : wpAny (model prog w) A (Builtin.Slice.sliceApplied (.ref sl) (pure (n : Int))) Q E s := by
  obtain ⟨ob, g1, g2, g3⟩ := id hs
  unfold Builtin.Slice.sliceApplied
  unfold Builtin.Slice.sliceFields
  refine wpAny_bind (wpAny_bind (wpAny_field g1 g3 (x := vl) rfl ?_))
  refine wpAny_bind (wpAny_field g1 g3 (x := vu) rfl ?_)
  refine wpAny_bind (wpAny_field g1 g3 (x := vs) rfl (wpAny_pure ?_))
  refine wpAny_bind (HT.slicePart_ pv ?_)
  show wpAny _ _ (if ((-1 : Int) == 0) = true then _ else _) _ _ s
  rw [if_neg (by decide)]
  refine wpAny_bind (HT.slicePart_ pl ?_)
  refine wpAny_bind (HT.slicePart_ pu (wpAny_bind (wpAny_pure ?_)))
  show wpAny _ _ (pure ((n : Int) - 1, (-1 : Int), Builtin.Slice.slicePlaces ((n : Int) - 1) (-1) (-1))) _ _ s
  rw [back_places]
  exact wpAny_pure hQ
theorem item_tup_back {t sl : Addr} {its : Array Value} {vl vu vs : Value} {Q : Value → Shared → Prop} (ht : IsTup s.heap t its) (hs : s.heap.IsSliceOf sl vl vu vs) (pl : IsPart vl none) (pu : IsPart vu none) (pv : IsPart vs (some (-1)))
    (h : Q (.ref s.heap.objs.size) { s with heap := s.heap.push { cls := .type "tuple", data := .seq its.toList.reverse.toArray } }) (hsz : its.size ≤ sizeLine) : wpAny (model prog w) A (getItem (.ref t) (.ref sl)) Q E s := by
  have small : sizeOk (.seq its.toList.reverse.toArray) := by
    show its.toList.reverse.toArray.size ≤ sizeLine
    simpa using hsz
  obtain ⟨ob, g1, g2, g3⟩ := id hs
  have ty : s.TypeIs (.ref sl) "slice" := ⟨ob, g1, g2⟩
  unfold getItem
  refine wpAny_holding ?_
  first | refine wpAny_bind (wpAny_pure ?_) | skip
  refine wpAny_bind (wpAny_sequenceKey ht.typeIs (by decide) ?_)
  have inner : ∀ P : PySem.Fin → Shared → Prop, P (.done (.ret (.ref s.heap.objs.size))) { s with heap := s.heap.push { cls := .type "tuple", data := .seq its.toList.reverse.toArray } } → wpAny (model prog w) A.in1 (Builtin.«tuple.__getitem__» ⟨[.ref t, .ref sl], []⟩) P E s := fun P hP => by
    show wpAny _ _ (Builtin.Tuple.tupleItemsOf (.ref t) >>= _) _ _ s
    refine wpAny_bind (tupleItemsOf_ ht (wpAny_bind (wpAny_typeOf ty ?_)))
    rw [if_pos (by decide)]
    refine wpAny_bind (cut_back hs pl pu pv ?_)
    show wpAny _ _ (if (((its.size : Int) - 1 == 0) && ((-1 : Int) == 1) && (its.size == its.size)) = true then _ else _) _ _ s
    rw [if_neg (by simp), back_pick]
    first
      | exact wpAny_bind (m := Builtin.Tuple.tupleExact _) (wpAny_newObj_type (wpAny_pure hP) small)
      | exact wpAny_bind (m := Builtin.Tuple.tupleExact _) (wpAny_newObj_type (wpAny_bind (wpAny_pure (wpAny_pure hP))) small)
  refine wpAny_bind (wpAny_callSpecial?_slot (name := Str.ofString "__getitem__") ht.typeIs PyProof.Rows.slot_tuple_getitem
    (wpAny_call_entry PyProof.Rows.slot_tuple_getitem ht.typeIs PyProof.Rows.entry_tuple_getitem (inner _ ⟨_, rfl, wpAny_pure h⟩) (PyProof.Rows.args_tuple_getitem _ _)))
end
section
variable {X : Cx} {W : WX} {e : Expr} {fe : EF} {pos : Pos}
def tRevA (K : PySem.W.Frag) (te : TE) : TE := fun σ H Q => te σ H fun x H1 => ∃ a xs, x = .ref a ∧ ((SqL K H1 a xs ∧ ∀ p, H1 p = none → Q (.ref p) (upd H1 p (.lst xs.reverse))) ∨ (SqT K H1 a xs ∧ ∀ p, H1 p = none → Q (.ref p) (upd H1 p (.tup xs.reverse))))
theorem pe_revA {te : TE} {k : Nat} {p1 p2 p3 : Pos} (he : PE X e te) : PE X (.Subscript e (.Slice none none (some (.UnaryOp .USub (.Constant (.int 1) k p1) p2)) p3) pos) (tRevA X.K te) := by
  have step : PO X (some (.UnaryOp .USub (.Constant (.int 1) k p1) p2)) (tPart (tUn (rU fun i => .int (-i)) (tC (.int 1)))) := po_some (pe_un un_neg pe_int)
  refine ⟨fun pins s σ H Q I h => Subscript_ (thn (he.run pins s σ H _ I h) ?_)⟩
  rintro v s1 ⟨x, H1, I1, r1, a, xs, ex, q⟩
  subst ex
  cases r1
  refine wpAny_Slice (thn (po_none.run pins s1 σ H1 (fun o H2 => o = none ∧ H2 = H1) I1 ⟨rfl, rfl⟩) ?_)
  rintro vl s2 ⟨l, H2, I2, pl, el, e2⟩
  subst el; subst e2
  refine thn (po_none.run pins s2 σ H2 (fun o H3 => o = none ∧ H3 = H2) I2 ⟨rfl, rfl⟩) ?_
  rintro vu s3 ⟨u, H3, I3, pu, eu, e3⟩
  subst eu; subst e3
  refine thn (step.run pins s3 σ H3 (fun o H4 => o = some (-1) ∧ H4 = H3) I3 ⟨1, rfl, -1, rfl, rfl, rfl⟩) ?_
  rintro vs s4 ⟨o, H4, I4, ps, eo, e4⟩
  subst eo; subst e4
  have J : Inv X pins σ H4 { s4 with heap := s4.heap.push { cls := .type "slice", data := .fields #[vl, vu, vs] } } := I4.kept (t' := s4.toks) fun b ob z => Heap.get?_push_of_some _ z
  show wpAny (model X.prog X.w) X.A (subscriptTail e (.Slice none none (some (.UnaryOp .USub (.Constant (.int 1) k p1) p2)) p3) (.ref a) (.ref s4.heap.objs.size)) _ _ _
  rcases q with ⟨hx, q⟩ | ⟨hx, q⟩
  · obtain ⟨its, r, ht, hz⟩ := J.list hx
    have hlen := r.length
    refine tail_any (ops := [.ref a, .ref s4.heap.objs.size]) ht.isList.typeIs (PySem.slot_list_getitem.lookup) (wpAny_getItem_list_slice ht.isList (Heap.IsSliceOf.new _ vl vu vs) pl pu ps (by decide) ?_ (by rw [List.size_toArray]; omega)) (by with_unfolding_all rfl)
    rw [PySem.W.krv_pick]
    exact ⟨.ref _, _, J.laid (t' := s4.toks) (o := .lst xs.reverse) (fun b ob z => Heap.get?_push_of_some _ z) (Nat.le_refl _) ⟨by rw [List.length_reverse]; exact hz, _, 0, r.reverse, Heap.get?_push_size _ rfl⟩, rfl, q _ (J.hok.fresh (Nat.le_refl _))⟩
  · obtain ⟨its, r, ht, hz⟩ := J.tuple hx
    have hlen := r.length
    refine tail_any (ops := [.ref a, .ref s4.heap.objs.size]) ht.typeIs (PyProof.Rows.slot_tuple_getitem.lookup) (item_tup_back ht (Heap.IsSliceOf.new _ vl vu vs) pl pu ps ?_ (by rw [List.size_toArray]; omega)) (by with_unfolding_all rfl)
    exact ⟨.ref _, _, J.laid (t' := s4.toks) (o := .tup xs.reverse) (fun b ob z => Heap.get?_push_of_some _ z) (Nat.le_refl _) ⟨by rw [List.length_reverse]; exact hz, _, r.reverse, IsTup.new _ _⟩, rfl, q _ (J.hok.fresh (Nat.le_refl _))⟩
theorem se_rev {k : Nat} {p1 p2 p3 : Pos} (h : SE X W e fe) : SE X W (.Subscript e (.Slice none none (some (.UnaryOp .USub (.Constant (.int 1) k p1) p2)) p3) pos) (eUn revD fe) := by
  obtain ⟨t, p, q⟩ := h
  refine ⟨_, pe_revA p, fun σ H ρ st m Q s r h => q σ H ρ st m _ s r (h.mp fun d st1 v H1 m1 e1 r1 p1 h1 => ?_)⟩
  unfold revD at h1
  split at h1
  · rename_i xs
    cases p1 with
    | tup g1 g2 => exact ⟨_, _, rfl, .inr ⟨g1.sq, PostV.newT h1 r1 g2.reverse⟩⟩
  · cases z : seqL st1 d with
    | none => rw [z] at h1; exact h1.elim
    | some xs =>
      rw [z] at h1
      obtain ⟨a, vs, rfl, g1, g2⟩ := seqL_at r1 p1 z
      exact ⟨a, vs, rfl, .inl ⟨g1, PostV.newL h1 r1 g2.reverse⟩⟩
/-! ### a, b, c = x, y, z -/
def sPar3 (i j l : Nat) (fa : AF) : SF := fun ρ st => bindS (fa ρ st) ρ fun ds st1 => match ds with
  | [x, y, z] => .nx (((ρ.set i (some x)).set j (some y)).set l (some z)) st1
  | _ => .bad
theorem ss_par3 {a b c : Expr} {i j l : Nat} {x y z : Str} {px py pz pt pt2 : Pos} {kt k2 : Nat} {f : AF} (hc : X.calm = true) (hN : X.N.Nodup) (h : SA X W [a, b, c] f) (hi : X.N[i]? = some x := by rfl) (hj : X.N[j]? = some y := by rfl) (hl : X.N[l]? = some z := by rfl) (hij : i ≠ j := by decide) (hil : i ≠ l := by decide) (hjl : j ≠ l := by decide)
    (hx : X.env.scope.names.lookup x = some .local := by rfl) (hy : X.env.scope.names.lookup y = some .local := by rfl) (hz : X.env.scope.names.lookup z = some .local := by rfl)
    (hw : swappedStores [.Tuple [.Name x px, .Name y py, .Name z pz] kt pt] (.Tuple [a, b, c] k2 pt2) X.env = pure (some [x, y, z]) := by rfl) (h1 : swapsWithSole [.Tuple [.Name x px, .Name y py, .Name z pz] kt pt] (.Tuple [a, b, c] k2 pt2) pos.line X.env = pure false := by rfl) :
    SS X W (.Assign [.Tuple [.Name x px, .Name y py, .Name z pz] kt pt] (.Tuple [a, b, c] k2 pt2) pos) (sPar3 i j l f) := by
  obtain ⟨t, p, q⟩ := h
  refine ⟨_, ps_par3 hc hN hi hj hl hij hil hjl hx hy hz p hw h1, fun σ H ρ st m E s r h => q σ H ρ st m _ s r (PostS.mp h s fun ds st1 vs H1 m1 e1 r1 p1 h1 => ?_)⟩
  match ds, vs, p1, h1 with
  | [], _, _, h1 => exact h1.elim
  | [_], _, _, h1 => exact h1.elim
  | [_, _], _, _, h1 => exact h1.elim
  | _ :: _ :: _ :: _ :: _, _, _, h1 => exact h1.elim
  | [_, _, _], _, .cons q1 (.cons q2 (.cons q3 .nil)), h1 => exact ⟨_, _, _, rfl, h1.nxt r1 ((((s.up e1).set q1 i).set q2 j).set q3 l)⟩
end
/-! ### sets that are sorted, or counted, at once -/
def intsOf : List D → Option (List Int)
  | [] => some []
  | .int i :: r => (intsOf r).map (i :: ·)
  | _ => none
theorem RepL.intsOf {K : PySem.W.Frag} {m : Mp} {H : Hp} : ∀ {vs : List V} {ds : List D} {is : List Int}, RepL K H m vs ds → DX.intsOf ds = some is → vs = is.map .int
  | _, [], _, h, e => by cases h; cases e; rfl
  | _, d :: ds, is, h, e => by
    cases h with
    | cons h1 h2 =>
      cases d with
      | int b =>
        unfold DX.intsOf at e
        obtain ⟨cs, z, rfl⟩ := Option.map_eq_some_iff.mp e
        cases h1
        rw [RepL.intsOf h2 z]
        rfl
      | _ => cases e
/-- len(set(xs)), xs a list of ints -/
def lenSetD (st : Store) (d : D) : Option D := match seqL st d with
  | some xs => match intsOf xs with
    | some is => if is.length ≤ 4000 then some (.int is.eraseDups.length) else none
    | none => none
  | none => none
/-- pairs of small ints -/
def pairsOf : List D → Option (List (Int × Int))
  | [] => some []
  | .tup [.int i, .int j] :: r => if 0 ≤ i ∧ i < 64 ∧ 0 ≤ j ∧ j < 64 then (pairsOf r).map ((i, j) :: ·) else none
  | _ => none
def pairLt (p q : Int × Int) : Bool := decide (p.1 < q.1 ∨ (p.1 = q.1 ∧ p.2 < q.2))
def putP2 (p : Int × Int) : List (Int × Int) → List (Int × Int)
  | [] => [p]
  | q :: r => if pairLt p q = true then p :: q :: r else if p = q then q :: r else q :: putP2 p r
def sortU (l : List (Int × Int)) : List (Int × Int) := l.foldr putP2 []
def pairD (p : Int × Int) : D := .tup [.int p.1, .int p.2]
def sortSetD (st : Store) (d : D) : Option D := match seqL st d with
  | some xs => match pairsOf xs with
    | some ps => if ps.length < 64 then some (.lst ((sortU ps).map pairD)) else none
    | none => none
  | none => none
theorem pairLt_iff {p q : Int × Int} : pairLt p q = true ↔ p.1 < q.1 ∨ (p.1 = q.1 ∧ p.2 < q.2) := by
  unfold pairLt
  exact decide_eq_true_iff
theorem mem_putP2 {p x : Int × Int} : ∀ {l : List (Int × Int)}, x ∈ putP2 p l ↔ x = p ∨ x ∈ l
  | [] => by simp [putP2]
  | q :: r => by
    unfold putP2
    split
    · simp
    · split
      · rename_i e
        subst e
        simp
      · rw [List.mem_cons, mem_putP2, List.mem_cons]
        constructor
        · rintro (h | h | h)
          · exact .inr (.inl h)
          · exact .inl h
          · exact .inr (.inr h)
        · rintro (h | h | h)
          · exact .inr (.inl h)
          · exact .inl h
          · exact .inr (.inr h)
theorem pw_putP2 {p : Int × Int} : ∀ {l : List (Int × Int)}, l.Pairwise (fun a b => pairLt a b = true) → (putP2 p l).Pairwise (fun a b => pairLt a b = true)
  | [], _ => by simp [putP2]
  | q :: r, h => by
    unfold putP2
    obtain ⟨h1, h2⟩ := List.pairwise_cons.mp h
    split
    · rename_i hp
      refine List.pairwise_cons.mpr ⟨fun a ha => ?_, h⟩
      rcases List.mem_cons.mp ha with e | e
      · rw [e]; exact hp
      · have := pairLt_iff.mp (h1 a e)
        have := pairLt_iff.mp hp
        exact pairLt_iff.mpr (by omega)
    · rename_i hp
      split
      · exact h
      · rename_i hne
        refine List.pairwise_cons.mpr ⟨fun a ha => ?_, pw_putP2 h2⟩
        rcases mem_putP2.mp ha with e | e
        · subst e
          have h3 : ¬ (a.1 < q.1 ∨ (a.1 = q.1 ∧ a.2 < q.2)) := fun z => hp (pairLt_iff.mpr z)
          have h4 : ¬ (a.1 = q.1 ∧ a.2 = q.2) := fun z => hne (Prod.ext z.1 z.2)
          exact pairLt_iff.mpr (by omega)
        · exact h1 a e
theorem mem_sortU {x : Int × Int} : ∀ {l : List (Int × Int)}, x ∈ sortU l ↔ x ∈ l
  | [] => by simp [sortU]
  | p :: r => by
    show x ∈ putP2 p (sortU r) ↔ _
    rw [mem_putP2, mem_sortU, List.mem_cons]
theorem pw_sortU : ∀ {l : List (Int × Int)}, (sortU l).Pairwise (fun a b => pairLt a b = true)
  | [] => .nil
  | p :: r => pw_putP2 (pw_sortU (l := r))
/-- two rising lists of the same pairs are one -/
theorem rising_one : ∀ {l m : List (Int × Int)}, l.Pairwise (fun a b => pairLt a b = true) → m.Pairwise (fun a b => pairLt a b = true) → (∀ x, x ∈ l ↔ x ∈ m) → l = m
  | [], [], _, _, _ => rfl
  | [], b :: m, _, _, h => by have := (h b).mpr List.mem_cons_self; cases this
  | a :: l, [], _, _, h => by have := (h a).mp List.mem_cons_self; cases this
  | a :: l, b :: m, h1, h2, h => by
    obtain ⟨a1, a2⟩ := List.pairwise_cons.mp h1
    obtain ⟨b1, b2⟩ := List.pairwise_cons.mp h2
    have irr : ∀ {x y : Int × Int}, pairLt x y = true → pairLt y x = true → False := fun {x y} p q => by
      have := pairLt_iff.mp p
      have := pairLt_iff.mp q
      omega
    have e : a = b := by
      rcases List.mem_cons.mp ((h a).mp List.mem_cons_self) with z | z
      · exact z
      · rcases List.mem_cons.mp ((h b).mpr List.mem_cons_self) with y | y
        · exact y.symm
        · exact (irr (b1 a z) (a1 b y)).elim
    subst e
    rw [rising_one a2 b2 fun x => ?_]
    constructor
    · intro hx
      rcases List.mem_cons.mp ((h x).mp (List.mem_cons_of_mem _ hx)) with z | z
      · subst z; exact (irr (a1 x hx) (a1 x hx)).elim
      · exact z
    · intro hx
      rcases List.mem_cons.mp ((h x).mpr (List.mem_cons_of_mem _ hx)) with z | z
      · subst z; exact (irr (b1 x hx) (b1 x hx)).elim
      · exact z
section
variable {X : Cx} {W : WX} {e : Expr} {fe : EF} {pos q p p2 : Pos}
def tLenSetN (K : PySem.W.Frag) (ta : TE) : TE := fun σ H Q => ta σ H fun x H1 => ∃ (l : Addr) (ns : List Int), x = .ref l ∧ SqL K H1 l (ns.map V.int) ∧ ns.length ≤ 4000 ∧ Q (.int ns.eraseDups.length) H1
theorem pe_lenSetN {ta : TE} (hc : X.calm = true) (hg : Gl X "len") (hm : X.mg "len" = none) (hg2 : Gl X "set") (hm2 : X.mg "set" = none) (ha : PE X e ta)
    (na : starEach [e] X.env = (false, eval e X.env) :: starEach [] X.env := by rfl) : PE X (.Call (.Name "len" p) [.Call (.Name "set" p2) [e] [] q] [] pos) (tLenSetN X.K ta) := by
  refine ⟨fun pins s σ H Q I h => Call_ (ld_blt I hg hm boot_len (PyProof.Rows.callWith_builtin1 (PyProof.Rows.args_cons ?_ rfl) rfl rfl))⟩
  refine Call_ (ld_blt I hg2 hm2 boot_set (PyProof.Rows.callWith_type1 (PyProof.Rows.args_cons (thn (ha.run pins s σ H _ I h) ?_) na) na rfl))
  rintro v s1 ⟨x, H1, I1, r1, l, ns, ex, hq, hl, q1⟩
  subst ex
  cases r1
  refine PyProof.Rows.args_nil ?_
  obtain ⟨its, r, pl, hz⟩ := I1.list hq
  have sz : its.toArray.size = ns.length := by rw [List.size_toArray, ← r.length, List.length_map]
  have is : PyProof.Rows.IntsAre its.toArray.toList ns := by simpa using RZ.intsAre_vals r
  refine call_set_list (I1.ok.hd hc) pl.isList is (by rw [sz]; unfold scanBound; omega) fun h' tk hS hk => PyProof.Rows.args_nil ?_
  rw [sz, PySem.W.oss_met, PySem.W.oss_dups] at hS
  obtain ⟨o, es, ep, t, ho, hex, hd, _, _, _, hf, hn⟩ := hS
  have I2 : Inv X pins σ H1 { s1 with heap := h', toks := tk } := I1.kept fun b o e => hk b o (Heap.lt_size e) e
  have le : ns.eraseDups.length ≤ ns.length := by
    rw [← PySem.W.oss_dups]
    exact PySem.W.oss_len ns
  exact call_len_set ho hex hd hf (by rw [hn]; omega) ⟨.int ns.eraseDups.length, H1, I2.tok _, ⟨_, by rw [hn]⟩, q1⟩
theorem se_lenSet (hc : X.calm = true) (hu : X.A.units + 64 < cLine) (hg : Gl X "len") (hm : X.mg "len" = none) (hg2 : Gl X "set") (hm2 : X.mg "set" = none) (h : SE X W e fe)
    (na : starEach [e] X.env = (false, eval e X.env) :: starEach [] X.env := by rfl) : SE X W (.Call (.Name "len" p) [.Call (.Name "set" p2) [e] [] q] [] pos) (eUn lenSetD fe) := by
  obtain ⟨t, pe, qq⟩ := h
  refine ⟨_, pe_lenSetN hc hg hm hg2 hm2 pe na, fun σ H ρ st m Q s r h => qq σ H ρ st m _ s r (h.mp fun d st1 v H1 m1 e1 r1 p1 h1 => ?_)⟩
  unfold lenSetD at h1
  cases z : seqL st1 d with
  | none => rw [z] at h1; exact h1.elim
  | some xs =>
    rw [z] at h1
    dsimp only at h1
    cases y : intsOf xs with
    | none => rw [y] at h1; exact h1.elim
    | some is =>
      rw [y] at h1
      dsimp only at h1
      split at h1
      · rename_i hl
        obtain ⟨a, vs, rfl, g1, g2⟩ := seqL_at r1 p1 z
        have ev := RepL.intsOf g2 y
        subst ev
        exact ⟨a, is, rfl, g1, hl, h1.go r1 (.int _)⟩
      · exact h1.elim
/-- the addresses of pairs -/
theorem pairs_at {K : PySem.W.Frag} {m : Mp} {H : Hp} : ∀ {vs : List V} {ds : List D} {ps : List (Int × Int)}, RepL K H m vs ds → pairsOf ds = some ps → ∃ ks : List (Addr × List Int), vs = ks.map (fun k => V.ref k.1) ∧ ps.map (fun p => [p.1, p.2]) = ks.map (·.2) ∧ (∀ k ∈ ks, SqT K H k.1 (k.2.map V.int)) ∧
    (∀ k ∈ ks, ∃ i j, k.2 = [i, j] ∧ 0 ≤ i ∧ i < 64 ∧ 0 ≤ j ∧ j < 64 ∧ Rep K H m (.ref k.1) (.tup [.int i, .int j]))
  | _, [], _, h, e => by cases h; cases e; exact ⟨[], rfl, rfl, (fun k hk => nomatch hk), fun k hk => nomatch hk⟩
  | _, d :: ds, ps, h, e => by
    cases h with
    | cons h1 h2 =>
      unfold pairsOf at e
      split at e
      · rename_i heq
        cases heq
      · rename_i i j r heq
        injection heq with e1 e2
        subst e1; subst e2
        split at e
        · rename_i hb
          obtain ⟨ps', e', rfl⟩ := Option.map_eq_some_iff.mp e
          obtain ⟨ks, g1, g2, g3, g4⟩ := pairs_at h2 e'
          have h0 := h1
          cases h1 with
          | @tup a vs _ t1 t2 =>
            have ev : vs = [V.int i, V.int j] := by
              cases t2 with
              | cons y1 y2 =>
                cases y1
                cases y2 with
                | cons y3 y4 =>
                  cases y3
                  cases y4
                  rfl
            subst ev
            refine ⟨(a, [i, j]) :: ks, by rw [g1]; rfl, by rw [List.map_cons, g2]; rfl, fun k hk => ?_, fun k hk => ?_⟩
            · rcases List.mem_cons.mp hk with z | z
              · rw [z]; exact t1.sq
              · exact g3 k z
            · rcases List.mem_cons.mp hk with z | z
              · rw [z]; exact ⟨i, j, rfl, hb.1, hb.2.1, hb.2.2.1, hb.2.2.2, h0⟩
              · exact g4 k z
        · cases e
      · cases e
def tSortSet (K : PySem.W.Frag) (ta : TE) : TE := fun σ H Q => ta σ H fun x H1 => ∃ (l : Addr) (ks : List (Addr × List Int)), x = .ref l ∧ SqL K H1 l (ks.map fun k => V.ref k.1) ∧ (∀ k ∈ ks, SqT K H1 k.1 (k.2.map V.int)) ∧ (∀ k ∈ ks, ∃ i j, k.2 = [i, j] ∧ 0 ≤ i ∧ i < 64 ∧ 0 ≤ j ∧ j < 64) ∧ ks.length < 64 ∧
  ∀ (a : Addr) (o : HO) (L : List (Addr × List Int)) (p : Addr), (∀ k ∈ L, k ∈ ks) → (∀ k ∈ ks, k.2 ∈ L.map (·.2)) → (L.map (·.2)).Nodup → L.Pairwise (fun q r => TS.code 64 q.2 ≤ TS.code 64 r.2) → H1 a = none → upd H1 a o p = none → Q (.ref p) (upd (upd H1 a o) p (.lst (L.map fun k => V.ref k.1)))
theorem pe_sortSet {ta : TE} (hc : X.calm = true) (hu : X.A.units + 64 < cLine) (hg : Gl X "sorted") (hm : X.mg "sorted" = none) (hg2 : Gl X "set") (hm2 : X.mg "set" = none) (ha : PE X e ta)
    (na : starEach [e] X.env = (false, eval e X.env) :: starEach [] X.env := by rfl) : PE X (.Call (.Name "sorted" p) [.Call (.Name "set" p2) [e] [] q] [] pos) (tSortSet X.K ta) := by
  refine ⟨fun pins s σ H Q I h => Call_ (ld_blt I hg hm bb_sorted (PyProof.Rows.callWith_builtin1 (PyProof.Rows.args_cons ?_ rfl) rfl rfl))⟩
  refine Call_ (ld_blt I hg2 hm2 boot_set (PyProof.Rows.callWith_type1 (PyProof.Rows.args_cons (thn (ha.run pins s σ H _ I h) ?_) na) na rfl))
  rintro v s1 ⟨x, H1, I1, r1, l, ks, ex, hq, hT, hP, hl, q1⟩
  subst ex
  refine PyProof.Rows.args_nil ?_
  refine thn (cr_setOfT hc hu pins s1 σ H1 [.ref l] [v] (fun w H2 => ∃ a L, w = .ref a ∧ H1 a = none ∧ (∀ p ∈ L, p ∈ ks) ∧ (∀ p ∈ ks, p.2 ∈ L.map (·.2)) ∧ H2 = upd H1 a (SetTO X.prog X.w a L)) I1 (.cons r1 .nil) ⟨l, ks, rfl, hq, hT, hl, fun a L g1 g2 g3 => ⟨a, L, rfl, g1, g2, g3, rfl⟩⟩) ?_
  rintro w s2 ⟨y, H2, I2, r2, a, L, ey, na', gs, gc, eH⟩
  subst ey
  subst eH
  refine PyProof.Rows.args_nil ?_
  have hTL : ∀ k ∈ L, SqT X.K (upd H1 a (SetTO X.prog X.w a L)) k.1 (k.2.map V.int) := fun k hk => by
    rcases hT k (gs k hk) with z | z
    · rcases z with z | ⟨o, z⟩
      · exact .inl (.inl (by rw [upd_ne (ne_of_none z na')]; exact z))
      · exact .inl (.inr ⟨o, by rw [upd_ne (ne_of_none z na')]; exact z⟩)
    · exact .inr z
  refine cr_sortedT hc pins s2 σ _ [.ref a] [w] Q I2 (.cons r2 .nil) ⟨a, L, 2, 64, rfl, upd_same, hTL, by decide, fun k hk => ?_, fun L' p pm nd few pw hp => ?_⟩
  · obtain ⟨i, j, e, b1, b2, b3, b4⟩ := hP k (gs k hk)
    rw [e]
    refine ⟨rfl, ?_⟩
    intro z hz
    rcases List.mem_cons.mp hz with y | y
    · rw [y]; exact ⟨b1, b2⟩
    · rw [List.mem_singleton.mp y]; exact ⟨b3, b4⟩
  · exact q1 a _ L' p (fun k hk => gs k (pm.mem_iff.mp hk)) (fun k hk => (pm.map (·.2)).mem_iff.mpr (gc k hk)) nd pw na' hp
theorem se_sortSet (hc : X.calm = true) (hu : X.A.units + 64 < cLine) (hg : Gl X "sorted") (hm : X.mg "sorted" = none) (hg2 : Gl X "set") (hm2 : X.mg "set" = none) (h : SE X W e fe)
    (na : starEach [e] X.env = (false, eval e X.env) :: starEach [] X.env := by rfl) : SE X W (.Call (.Name "sorted" p) [.Call (.Name "set" p2) [e] [] q] [] pos) (eUn sortSetD fe) := by
  obtain ⟨t, pe, qq⟩ := h
  refine ⟨_, pe_sortSet hc hu hg hm hg2 hm2 pe na, fun σ H ρ st m Q s r h => qq σ H ρ st m _ s r (h.mp fun d st1 v H1 m1 e1 r1 p1 h1 => ?_)⟩
  unfold sortSetD at h1
  cases z : seqL st1 d with
  | none => rw [z] at h1; exact h1.elim
  | some xs =>
    rw [z] at h1
    dsimp only at h1
    cases y : pairsOf xs with
    | none => rw [y] at h1; exact h1.elim
    | some ps =>
      rw [y] at h1
      dsimp only at h1
      split at h1
      case isFalse => exact h1.elim
      rename_i hl
      obtain ⟨a, vs, rfl, g1, g2⟩ := seqL_at r1 p1 z
      obtain ⟨ks, k1, k2, k3, k4⟩ := pairs_at g2 y
      subst k1
      have len : ks.length = ps.length := by
        have := congrArg List.length k2
        simpa using this.symm
      refine ⟨a, ks, rfl, g1, k3, fun k hk => ?_, by omega, fun b o L p hs hcov nd pw nb np => ?_⟩
      · obtain ⟨i, j, e, b1, b2, b3, b4, _⟩ := k4 k hk
        exact ⟨i, j, e, b1, b2, b3, b4⟩
      -- the list's data
      have ex : ∃ qs : List (Int × Int), L.map (·.2) = qs.map (fun p => [p.1, p.2]) ∧ RepL X.K H1 m1 (L.map fun k => V.ref k.1) (qs.map pairD) ∧ ∀ q ∈ qs, 0 ≤ q.1 ∧ q.1 < 64 ∧ 0 ≤ q.2 ∧ q.2 < 64 := by
        clear hcov nd pw np
        induction L with
        | nil => exact ⟨[], rfl, .nil, fun q hq => by cases hq⟩
        | cons k L ih =>
          obtain ⟨qs, u1, u2, u3⟩ := ih fun k' hk' => hs k' (List.mem_cons_of_mem _ hk')
          obtain ⟨i, j, e, b1, b2, b3, b4, rp⟩ := k4 k (hs k List.mem_cons_self)
          refine ⟨(i, j) :: qs, by rw [List.map_cons, u1, e]; rfl, .cons rp u2, fun q hq => ?_⟩
          rcases List.mem_cons.mp hq with c | c
          · rw [c]; exact ⟨b1, b2, b3, b4⟩
          · exact u3 q c
      obtain ⟨qs, u1, u2, u3⟩ := ex
      have inj : ∀ {p q : Int × Int}, ([p.1, p.2] : List Int) = [q.1, q.2] → p = q := fun {p q} e => by
        injection e with e1 e2
        injection e2 with e2 _
        exact Prod.ext e1 e2
      have eq : qs = sortU ps := by
        refine rising_one ?_ pw_sortU fun x => ?_
        · have pw2 : (L.map (·.2)).Pairwise (fun a b => TS.code 64 a ≤ TS.code 64 b) := List.pairwise_map.mpr pw
          have both := pw2.and nd
          rw [u1] at both
          refine List.Pairwise.imp_of_mem (fun {p q} hp hq hpq => ?_) (List.pairwise_map.mp both)
          obtain ⟨b1, b2, b3, b4⟩ := u3 p hp
          obtain ⟨c1, c2, c3, c4⟩ := u3 q hq
          exact pairLt_iff.mpr (pair_lt hpq.1 hpq.2 ⟨b1, b2⟩ ⟨b3, b4⟩ ⟨c1, c2⟩ ⟨c3, c4⟩)
        · rw [mem_sortU]
          constructor
          · intro hx
            have : [x.1, x.2] ∈ L.map (·.2) := by rw [u1]; exact List.mem_map.mpr ⟨x, hx, rfl⟩
            obtain ⟨k, hk, ek⟩ := List.mem_map.mp this
            have : [x.1, x.2] ∈ ps.map (fun p => [p.1, p.2]) := by rw [k2]; exact List.mem_map.mpr ⟨k, hs k hk, ek⟩
            obtain ⟨p', hp', ep'⟩ := List.mem_map.mp this
            rw [← inj ep']; exact hp'
          · intro hx
            have : [x.1, x.2] ∈ ks.map (·.2) := by rw [← k2]; exact List.mem_map.mpr ⟨x, hx, rfl⟩
            obtain ⟨k, hk, ek⟩ := List.mem_map.mp this
            have : [x.1, x.2] ∈ qs.map (fun p => [p.1, p.2]) := by rw [← u1, ← ek]; exact hcov k hk
            obtain ⟨p', hp', ep'⟩ := List.mem_map.mp this
            rw [← inj ep']; exact hp'
      subst eq
      have x1 : Ext m1 H1 m1 (upd H1 b o) := Ext.laid nb
      have r2 := r1.laid (o := o) nb
      exact PostV.newL (h1.up x1) r2 (u2.up x1) p np
end
/-! ### facts of classes -/
section
variable {K : PySem.W.Frag} {CT : List String} {C : Addr}
theorem isFact_b (t : Ty) (h : ∀ c, c ∈ CT → ∀ C, ClAt K c C → PySem.W.kitOne K (.ref C) (.type t.name) = some false) : IsFact K CT (hasB t) (.type t.name) := fun g v hv => by
  cases g with
  | b a =>
    have hv' : v = .type a.name := hv
    subst hv'
    exact kit_ty (kit_tab a t)
  | o c =>
    obtain ⟨h1, C, h2, rfl⟩ := hv
    exact h c h1 C h2
theorem isFact_o {cs : List String} {tv : Value} (hb : ∀ a : Tg, PySem.W.kitOne K (.type a.name) tv = some false) (h : ∀ c, c ∈ CT → ∀ C, ClAt K c C → PySem.W.kitOne K (.ref C) tv = some (decide (c ∈ cs))) : IsFact K CT (hasO cs) tv := fun g v hv => by
  cases g with
  | b a =>
    have hv' : v = .type a.name := hv
    subst hv'
    exact hb a
  | o c =>
    obtain ⟨h1, C, h2, rfl⟩ := hv
    exact h c h1 C h2
theorem eqFirst_of (hb : ∀ a : Tg, PySem.W.notFirst K C (.type a.name) = true) (h : ∀ c, c ∈ CT → ∀ C', ClAt K c C' → PySem.W.notFirst K C (.ref C') = true) : EqFirst K CT C := fun g v hv => by
  cases g with
  | b a =>
    have hv' : v = .type a.name := hv
    subst hv'
    exact hb a
  | o c =>
    obtain ⟨h1, C', h2, rfl⟩ := hv
    exact h c h1 C' h2
theorem kit_own {v : Value} {b : Bool} (h1 : PySem.W.isClsIn K C = true) (h2 : PySem.W.typeIn K (.ref C) = some (.type "type")) (h3 : PySem.W.subIn K v (.ref C) = some b) (h4 : v = .ref C → b = true) : PySem.W.kitOne K v (.ref C) = some b := by
  unfold PySem.W.kitOne
  by_cases e : v = .ref C
  · rw [if_pos (by rw [e]; exact beq_self_eq_true _), h4 e]
  · rw [if_neg (by simpa using e)]
    unfold PySem.W.kitCls
    dsimp only
    rw [if_pos, h3]
    rw [Bool.and_eq_true]
    refine ⟨?_, by rw [h2]; decide⟩
    unfold PySem.W.isClsIn at h1
    exact h1
theorem kit_bi {T : String} {D : Addr} {b : Bool} (h1 : PySem.W.kitMeta T = true) (h3 : PySem.W.subIn K (.ref D) (.type T) = some b) : PySem.W.kitOne K (.ref D) (.type T) = some b := by
  unfold PySem.W.kitOne
  rw [if_neg (by simp)]
  unfold PySem.W.kitCls
  dsimp only
  rw [if_pos h1, h3]
/-- except x: what one class alone catches -/
def hsOf (x : String) : String → Option Bool := fun c => if c = x then some true else none
theorem catches_one {x : String} (hC : ClAt K x C) (h : PySem.W.exmOne K (.ref C) (.ref C) = some true) : Catches K (.ref C) (hsOf x) := fun c cls b hx hb => by
  unfold hsOf at hb
  split at hb
  · rename_i e
    subst e
    cases hb
    rcases hx with ⟨C', h1, rfl⟩ | ⟨h1, _⟩
    · rw [ClAt.eq h1 hC]; exact h
    · have h2 : PySem.W.nsIn K mainGlobals (Str.ofString c) = some (some (.ref C)) := hC
      rw [h2] at h1
      cases h1
  · cases hb
end
section
variable {X : Cx} {W : WX} {k : Nat} {g : Bool}
theorem names_of {x : Str} {c : Value} (hg : Gl X x) (hm : X.mg x = some c) (hd : (x == ("__debug__" : Str)) = false := by decide) : Names X x c := ⟨hg, hd, .inl hm⟩
theorem ss_raiseE {x m : Str} {i : Nat} {p p2 pos' pos : Pos} {c : String} {C : Addr} {B newId initId : String} (hC : ClAt X.K c C) (cx : Ctx X W k g) (q : ∃ bm, ExcBaseFacts B newId initId bm ∧ PySem.W.excIn X.K C bm newId = true) (gC : X.mg x = some (.ref C)) (kC : PySem.W.keepIn X.K (.ref C) = true)
    (h1 : PySem.W.subIn X.K (.ref C) (.type "BaseException") = some true) (h2 : PySem.W.typeIn X.K (.ref C) = some (.type "type")) (hg : Gl X x) (hdb : (x == ("__debug__" : Str)) = false := by decide) :
    SS X W (.Raise (some (.Call (.Name x p) [.Constant (.str m) i p2] [] pos')) none pos) (sRaiseT c) := by
  obtain ⟨bm, F, q⟩ := q
  exact ss_raiseT hC cx F q gC kC h1 h2 hg hdb
end
section
variable {P : Program} {w : World} {K : PySem.W.Frag} {mg : Str → Option Value} {base : Heap} {k : Nat} {f : Addr} {fd : FuncData} {ps : List Str} {F : FF}
theorem FnOk.frzS (G : FnOk P w K mg base (L2.CX P w) k f fd ps (spOf K F)) : FnOk P w K mg base (L2.CX P w) k f fd ps (spOf K (DX.frz F)) := G.imp fun vs H Q E h => spOf_frz h
theorem FnD.gy (d : FnD P w K mg base k false f F) : FnD P w K mg base k true f F := ⟨fun A outer s H us vs Q E hr _ e0 rv h => d.run A outer s H us vs Q E hr (fun z => Bool.noConfusion z) e0 rv h⟩
end
section
variable {P : Program} {w : World} {K : PySem.W.Frag} {mg : Str → Option Value} {base : Heap}
theorem def_starB {x q pv : Str} {st : Stmt} {f : Addr} {fd : FuncData} {N ps : List Str} {k : Nat} {g : Bool} {b : SF} (F : Fun K x q st f fd) (S : FnScope N (ps ++ [pv]) (defScope st))
    (hb : ∀ (kV doc pm : Value) (an : Option Addr) (cdv ct : Value) (us rest : List Value), us.length = ps.length → bindArgs (PySem.W.fnOf x q (defArgs st) (defBody st) (defScope st) .none kV doc pm an cdv ct) ⟨us ++ rest, []⟩ = (newTuple rest >>= fun t => pure (ps.zip us ++ [(pv, t)])))
    (hbody : ∀ (cdv : Value) (A : Around) (outer : List Env) (s : Shared) (H : Hp) (E : XK), Cxt (cxOf (L2.CX P w) P w K mg base N q (defScope st) f cdv A outer s H E) (fun cls d _ H => E cls d H) k false →
      SSs (cxOf (L2.CX P w) P w K mg base N q (defScope st) f cdv A outer s H E) (fun cls d _ H => E cls d H) (defBody st) b) : FnD P w K mg base (k + 1) g f (fStar ps.length N.length b) := by
  have F' := F
  obtain ⟨oc, od, kV, doc, pm, an, cdv, ct, osl, e, lk, hcd⟩ := F.ex
  subst e
  exact def_star F' S (fun us rest hl => hb _ _ _ _ _ _ us rest hl) hbody
end
end DX

/-! DX I: in, not in -/
namespace DX
open PySem PySem.Spec PyProof.Rows L2
variable [TB0]
section
variable {X : Cx}
/-- what an item says -/
noncomputable def saysIn (h : Heap) (px : PyData) (u : Value) : Bool := by
  classical
  exact if z : ∃ p, ∃ as, Reads h u p as ∧ p.plain = true then PyData.eqv z.choose px else false
theorem says_in {h : Heap} {px p : PyData} {u : Value} {as : List Addr} (r : Reads h u p as) (hp : p.plain = true) : saysIn h px u = PyData.eqv p px := by
  unfold saysIn
  have z : ∃ p, ∃ as, Reads h u p as ∧ p.plain = true := ⟨p, as, r, hp⟩
  rw [dif_pos z]
  obtain ⟨as', r', hp'⟩ := z.choose_spec
  rw [SeqAt.plain_unique _ _ _ _ _ hp' r' r]
theorem says_all {h : Heap} {px : PyData} : ∀ {us : List Value} {ps : List PyData} {as : List Addr}, ReadsAll h us ps as → PyData.plainAll ps = true →
    us.any (saysIn h px) = ps.any (fun p => PyData.eqv p px) ∧ ∀ u ∈ us, ∃ p as, Reads h u p as ∧ p.plain = true
  | _, _, _, .nil, _ => ⟨rfl, fun u hu => by cases hu⟩
  | _, _, _, .cons r t, hp => by
    unfold PyData.plainAll at hp
    rw [Bool.and_eq_true] at hp
    obtain ⟨h1, h2⟩ := says_all t hp.2
    refine ⟨?_, fun u hu => ?_⟩
    · rw [List.any_cons, List.any_cons, says_in r hp.1, h1]
    · rcases List.mem_cons.mp hu with e | e
      · subst e
        exact ⟨_, _, r, hp.1⟩
      · exact h2 u e
def rInP (K : PySem.W.Frag) (neg : Bool) : R2 := fun x y H Q => ∃ p vs ps px, y = .ref p ∧ (SqL K H p vs ∨ SqT K H p vs) ∧ DpAll K H vs ps ∧ Dp K H x px ∧ PyData.plainAll ps = true ∧ px.plain = true ∧ px.depth ≤ 50 ∧ Q (.bl (if neg then !ps.any (fun p => PyData.eqv p px) else ps.any (fun p => PyData.eqv p px))) H
theorem op_inP (hu : X.A.units + 64 < cLine) : OpR X (compareOp .In) (rInP X.K false) := by
  intro pins s σ H x y v u Q I rx ry h
  obtain ⟨a, vs, ps, px, rfl, hq, hps, hpx, pp, pl, hd, q⟩ := h
  cases ry
  obtain ⟨bs, rb⟩ := Dp.reads I px x v hpx rx
  have u1 : X.A.in1.units ≤ X.A.units + 1 := Nat.le_refl _
  have key : ∀ {its : List Value}, Vals vs its → its.any (saysIn s.heap px) = ps.any (fun p => PyData.eqv p px) ∧ ∀ w ∈ its, SeqAt.EqAt X.A.in1 s w v (saysIn s.heap px w) := fun {its} r => by
    obtain ⟨as, ra⟩ := Dp.readsAll I ps vs its hps r
    obtain ⟨h1, h2⟩ := says_all (px := px) ra pp
    refine ⟨h1, fun w hw => ?_⟩
    obtain ⟨p, as', r', hp⟩ := h2 w hw
    rw [says_in r' hp]
    exact SeqAt.eqAt_plain p px X.A.in1 s w v as' bs r' rb hp pl (by omega)
  rcases hq with hq | hq
  · obtain ⟨its, r, pl', hz⟩ := I.list hq
    obtain ⟨k1, k2⟩ := key r
    refine SeqAt.in_listAt (saysIn s.heap px) pl'.isList (fun w hw => k2 w (by simpa using hw)) ⟨.bl _, H, I, rfl, ?_⟩
    rw [show its.toArray.any (saysIn s.heap px) = its.any (saysIn s.heap px) by simp, k1]
    exact q
  · obtain ⟨its, r, pl', hz⟩ := I.tuple hq
    obtain ⟨k1, k2⟩ := key r
    refine SeqAt.in_tupleAt (saysIn s.heap px) pl' (fun w hw => k2 w (by simpa using hw)) ⟨.bl _, H, I, rfl, ?_⟩
    rw [show its.toArray.any (saysIn s.heap px) = its.any (saysIn s.heap px) by simp, k1]
    exact q
theorem op_notInP (hu : X.A.units + 64 < cLine) : OpR X (compareOp .NotIn) (rInP X.K true) := by
  intro pins s σ H x y v u Q I rx ry h
  obtain ⟨a, vs, ps, px, rfl, hq, hps, hpx, pp, pl, hd, q⟩ := h
  cases ry
  obtain ⟨bs, rb⟩ := Dp.reads I px x v hpx rx
  have u1 : X.A.in1.units ≤ X.A.units + 1 := Nat.le_refl _
  have key : ∀ {its : List Value}, Vals vs its → its.any (saysIn s.heap px) = ps.any (fun p => PyData.eqv p px) ∧ ∀ w ∈ its, SeqAt.EqAt X.A.in1 s w v (saysIn s.heap px w) := fun {its} r => by
    obtain ⟨as, ra⟩ := Dp.readsAll I ps vs its hps r
    obtain ⟨h1, h2⟩ := says_all (px := px) ra pp
    refine ⟨h1, fun w hw => ?_⟩
    obtain ⟨p, as', r', hp⟩ := h2 w hw
    rw [says_in r' hp]
    exact SeqAt.eqAt_plain p px X.A.in1 s w v as' bs r' rb hp pl (by omega)
  rcases hq with hq | hq
  · obtain ⟨its, r, pl', hz⟩ := I.list hq
    obtain ⟨k1, k2⟩ := key r
    refine SeqAt.notIn_listAt (saysIn s.heap px) pl'.isList (fun w hw => k2 w (by simpa using hw)) ⟨.bl _, H, I, rfl, ?_⟩
    rw [show its.toArray.any (saysIn s.heap px) = its.any (saysIn s.heap px) by simp, k1]
    exact q
  · obtain ⟨its, r, pl', hz⟩ := I.tuple hq
    obtain ⟨k1, k2⟩ := key r
    refine SeqAt.notIn_tupleAt (saysIn s.heap px) pl' (fun w hw => k2 w (by simpa using hw)) ⟨.bl _, H, I, rfl, ?_⟩
    rw [show its.toArray.any (saysIn s.heap px) = its.any (saysIn s.heap px) by simp, k1]
    exact q
def inD (st : Store) (x y : D) : Option Bool := match itemsOf st y, pyS st x with
  | some ys, some px => match py0L ys with
    | some ps => if px.depth ≤ 50 then some (ps.any fun p => PyData.eqv p px) else none
    | none => none
  | _, _ => none
def bInD : B2 := fun st x y => (inD st x y).map .bl
def bNotInD : B2 := fun st x y => (inD st x y).map fun b => .bl !b
theorem inD_sp {m : Mp} {H : Hp} {st : Store} {x y : V} {dx dy : D} {b : Bool} (r : Rl X.K m H st) (px : Rep X.K H m x dx) (py : Rep X.K H m y dy) (e : inD st dx dy = some b) :
    ∃ p vs ps qx, y = .ref p ∧ (SqL X.K H p vs ∨ SqT X.K H p vs) ∧ DpAll X.K H vs ps ∧ Dp X.K H x qx ∧ PyData.plainAll ps = true ∧ qx.plain = true ∧ qx.depth ≤ 50 ∧ b = ps.any fun p => PyData.eqv p qx := by
  unfold inD at e
  split at e
  · rename_i ys qx h1 h2
    split at e
    · rename_i ps h3
      split at e
      · rename_i h4
        cases e
        obtain ⟨a, vs, ey, hq, hv⟩ := items_at r py h1
        obtain ⟨g1, g2⟩ := DpAll.of ys vs ps hv h3
        obtain ⟨g3, g4⟩ := Dp.ofS r px h2
        exact ⟨a, vs, ps, qx, ey, hq, g1, g3, g2, g4, h4, rfl⟩
      · cases e
    · cases e
  · cases e
theorem opd_inD (hu : X.A.units + 64 < cLine) : OpD X (compareOp .In) bInD := ⟨_, op_inP hu, fun H m st x y dx dy d Q r px py e k => by
  unfold bInD at e
  obtain ⟨b, e1, rfl⟩ := Option.map_eq_some_iff.mp e
  obtain ⟨p, vs, ps, qx, h1, h2, h3, h4, h5, h6, h7, rfl⟩ := inD_sp r px py e1
  exact ⟨p, vs, ps, qx, h1, h2, h3, h4, h5, h6, h7, k.go r (.bl _)⟩⟩
theorem opd_notInD (hu : X.A.units + 64 < cLine) : OpD X (compareOp .NotIn) bNotInD := ⟨_, op_notInP hu, fun H m st x y dx dy d Q r px py e k => by
  unfold bNotInD at e
  obtain ⟨b, e1, rfl⟩ := Option.map_eq_some_iff.mp e
  obtain ⟨p, vs, ps, qx, h1, h2, h3, h4, h5, h6, h7, rfl⟩ := inD_sp r px py e1
  exact ⟨p, vs, ps, qx, h1, h2, h3, h4, h5, h6, h7, k.go r (.bl _)⟩⟩
/-! ### tuple(range(n)), list(range(n)) -/
theorem rep_rgV {K : PySem.W.Frag} {m : Mp} {H : Hp} : ∀ l : List Nat, RepL K H m (l.map fun i => V.int (0 + (i : Nat))) (l.map fun i : Nat => D.int (0 + (i : Int)))
  | [] => .nil
  | i :: l => .cons (.int _) (rep_rgV l)
def tupRgD (_ : Store) (d : D) : Option D := match d with
  | .int n => if 0 ≤ n ∧ n ≤ 10000 then some (.tup (rng 0 n.toNat)) else none
  | _ => none
variable {W : WX} {e : Expr} {fe : EF} {pos p p2 q : Pos}
theorem se_tupRg (hc : X.calm = true) (hg : Gl X "tuple") (hm : X.mg "tuple" = none) (hg2 : Gl X "range") (hm2 : X.mg "range" = none) (h : SE X W e fe)
    (na : starEach [e] X.env = (false, eval e X.env) :: starEach [] X.env := by rfl) (na2 : starEach [.Call (.Name "range" p2) [e] [] q] X.env = (false, eval (.Call (.Name "range" p2) [e] [] q) X.env) :: starEach [] X.env := by rfl) :
    SE X W (.Call (.Name "tuple" p) [.Call (.Name "range" p2) [e] [] q] [] pos) (eUn tupRgD fe) := by
  obtain ⟨t, pe, qq⟩ := h
  refine ⟨_, pe_tupRg hc hg hm (prg_1 hg2 hm2 pe na) na2, fun σ H ρ st m Q s r h => qq σ H ρ st m _ s r (h.mp fun d st1 v H1 m1 e1 r1 p1 h1 => ?_)⟩
  unfold tupRgD at h1
  cases d <;> first | exact h1.elim | skip
  rename_i n
  dsimp only at h1
  split at h1
  case isFalse => exact h1.elim
  rename_i hn
  cases p1
  refine ⟨n, rfl, RgOk.of_le (by omega) (by omega) (by omega) (by omega), ?_⟩
  have e0 : (n - 0).toNat = n.toNat := by rw [Int.sub_zero]
  have rep : RepL X.K H1 m1 (rgV 0 n) (rng 0 n.toNat) := by
    unfold rgV rng
    rw [e0]
    exact rep_rgV _
  exact PostV.newT (show PostV X.K m1 H1 Rep Q _ st1 from h1) r1 rep
end
end DX

/-! DX J: dict comprehensions (each key once) -/
namespace DX
open PySem PySem.Spec PyProof.Rows L2
variable [TB0]
/-- {fk: fv for u in xs if t}, keys that are not there yet -/
def dcL (u : GF) (t : TF) (fk fv : EF) (ρ : Sl) : List D → List Key → List D → Store → Res D
  | [], ks, ds, st => .ok (.dK ks ds) st
  | x :: xs, ks, ds, st => match u x ρ st with
    | none => .bad
    | some (ρ1, st1) => match t ρ1 st1 with
      | .ok true st2 => match fk ρ1 st2 with
        | .ok k st3 => match fv ρ1 st3 with
          | .ok d st4 => match keyOf k with
            | some key => if (ks.all fun k' => !decide (k' = key)) = true ∧ ks.length < 100000 then dcL u t fk fv ρ xs (ks ++ [key]) (ds ++ [d]) st4 else .bad
            | none => .bad
          | _ => .bad
        | _ => .bad
      | .ok false st2 => dcL u t fk fv ρ xs ks ds st2
      | _ => .bad
def dcF (it : AF) (u : GF) (t : TF) (fk fv : EF) (vs : List Nat) : EF := fun ρ st => (it ρ st).bind fun xs st1 => dcL u t fk fv (wipeF ρ vs) xs [] [] st1
section
variable {X : Cx} {W : WX} {tg : Expr} {fk fv : EF} {pos : Pos}
theorem key_at {K : PySem.W.Frag} {H : Hp} {m : Mp} {v : V} {d : D} {k : Key} (p : Rep K H m v d) (h : keyOf d = some k) : v = kV k := by
  cases d <;> first | cases h | skip
  · cases p; rfl
  · cases p; rfl
theorem put_new {ks : List Key} {vs : List V} {k : Key} {v : V} (hl : ks.length = vs.length) (h : (ks.all fun k' => !decide (k' = k)) = true) : putK (ks.zip vs) k v = (ks ++ [k]).zip (vs ++ [v]) := by
  unfold putK
  rw [if_neg, List.zip_append hl]
  · rfl
  · intro z
    obtain ⟨kv, h1, h2⟩ := List.any_eq_true.mp z
    have := of_decide_eq_true h2
    subst this
    have q := List.all_eq_true.mp h _ (List.of_mem_zip (show (kv.1, kv.2) ∈ ks.zip vs from h1)).1
    simp at q
theorem dc_read {own : List (Str × Nat)} {own' : List Nat} {it : AF} {u : GF} {t : TF} {wi : TI} (qi : ∀ σ H ρ st m R, SR X.K H m σ ρ → Rl X.K m H st → Post X W m H σ ItOk R (it ρ st) → wi σ H R) (hown : ∀ i ∈ own', i ∈ own.map (·.2)) :
    ∀ σ H ρ st m Q, SR X.K H m σ ρ → Rl X.K m H st → Post X W m H σ Rep Q (dcF it u t fk fv (own.map (·.2)) ρ st) → tDc wi (tSG X u own') (tST X W0 t) (tSE X W0 fk) (tSE X W0 fv) (own.map (·.2)) σ H Q := by
  refine fun σ H ρ st m Q s r h => qi σ H ρ st m _ s r (h.mp fun ds st1 J H1 m1 e1 r1 p1 h1 => ?_)
  intro Dp hD
  have s1 := s.up e1
  refine ⟨fun i n H2 => n = ds.length - i ∧ i ≤ ds.length ∧ ∃ ks acc vs st2 m2, Ext m1 H1 m2 H2 ∧ Rl X.K m2 H2 st2 ∧ Dp ∈ m2.x ∧ Dp ∉ m2.m ∧ H2 Dp = some (.dK (ks.zip vs)) ∧ ks.length = vs.length ∧ RepL X.K H2 m2 vs acc ∧ Post X W m1 H1 σ Rep Q (dcL u t fk fv (wipeF ρ (own.map (·.2))) (ds.drop i) ks acc st2),
    ⟨ds.length, rfl, Nat.zero_le _, [], [], [], st1, m1.hide Dp, Ext.hide hD, r1.hide hD, List.mem_cons_self, r1.free hD, upd_same, rfl, .nil, h1⟩, fun i n H2 hW => ?_⟩
  obtain ⟨hn, hi, ks, acc, vs, st2, m2, e2, r2, hx, hm, hH, hkl, ha, h2⟩ := hW
  obtain ⟨stop, at_⟩ := p1 m2 H2 e2
  by_cases hl : i = ds.length
  · subst hl
    rw [List.drop_length] at h2
    have hout : Dp ∉ m1.x := fun z => r1.trx Dp z hD
    exact .inl ⟨stop, h2 (.ref Dp) H2 (m2.rel m1) e2.rel (r2.rel e2) (.dK (.inl hH) ⟨hm, hout⟩ hkl (ha.rel e2))⟩
  · have hlt : i < ds.length := by omega
    obtain ⟨go, yld⟩ := at_ i ds[i] (List.getElem?_eq_getElem hlt)
    rw [List.drop_eq_getElem_cons hlt] at h2
    unfold dcL at h2
    refine .inr ⟨go, fun H3 => ∃ ks acc vs st2 m2, Ext m1 H1 m2 H3 ∧ Rl X.K m2 H3 st2 ∧ Dp ∈ m2.x ∧ Dp ∉ m2.m ∧ H3 Dp = some (.dK (ks.zip vs)) ∧ ks.length = vs.length ∧ RepL X.K H3 m2 vs acc ∧ Post X W m1 H1 σ Rep Q (dcL u t fk fv (wipeF ρ (own.map (·.2))) (ds.drop (i + 1)) ks acc st2),
      fun H3 h3 => ⟨ds.length - (i + 1), by omega, rfl, by omega, h3⟩, fun x H3 hy => ?_⟩
    obtain ⟨e3, rl3⟩ := yld x H3 hy
    cases z : u ds[i] (wipeF ρ (own.map (·.2))) st2 with
    | none => rw [z] at h2; exact h2.elim
    | some w =>
      obtain ⟨ρ4, st4⟩ := w
      rw [z] at h2
      refine ⟨ds[i], _, st2, m2, ρ4, st4, ((s1.up e2).up e3).wipe _, (rl3 _ r2).1, (rl3 _ r2).2, z, fun σ4 H4 m4 e4 r4 s4 w4 => ⟨(w4 _ hown).trans (wipe_idem σ _), ?_⟩⟩
      dsimp only at h2
      refine ⟨ρ4, st4, m4, s4, r4, ?_⟩
      have e34 := e3.trans e4
      cases z2 : t ρ4 st4 with
      | exc c fs st5 => rw [z2] at h2; exact h2.elim
      | bad => rw [z2] at h2; exact h2.elim
      | ok b st5 =>
        rw [z2] at h2
        intro v5 H5 m5 e5 r5 p5
        obtain rfl : v5 = b := p5
        have e35 := e34.trans e5
        have hm5 : Dp ∉ m5.m := e35.notin hH hm
        have hH5 : H5 Dp = some (.dK (ks.zip vs)) := e35.old Dp _ hH hm fun _ z => nomatch z
        have hx5 : Dp ∈ m5.x := e35.exs Dp hx
        cases v5 with
        | false =>
          rw [if_neg Bool.false_ne_true]
          exact ⟨ks, acc, vs, st5, m5, e2.trans e35, r5, hx5, hm5, hH5, hkl, ha.up e35, h2⟩
        | true =>
          rw [if_pos rfl]
          refine ⟨ρ4, st5, m5, s4.up e5, r5, ?_⟩
          dsimp only at h2
          cases z3 : fk ρ4 st5 with
          | exc c fs st6 => rw [z3] at h2; exact h2.elim
          | bad => rw [z3] at h2; exact h2.elim
          | ok dk st6 =>
            rw [z3] at h2
            dsimp only at h2
            intro v6 H6 m6 e6 r6 p6
            have hx6 := e6.exs Dp hx5
            have hm6 := e6.notin hH5 hm5
            have hH6 := e6.old Dp _ hH5 hm5 fun _ z => nomatch z
            refine ⟨ρ4, st6, m6, (s4.up e5).up e6, r6, ?_⟩
            cases z4 : fv ρ4 st6 with
            | exc c fs st7 => rw [z4] at h2; exact h2.elim
            | bad => rw [z4] at h2; exact h2.elim
            | ok d st7 =>
              rw [z4] at h2
              dsimp only at h2
              intro v7 H7 m7 e7 r7 p7
              have hx7 := e7.exs Dp hx6
              have hm7 := e7.notin hH6 hm6
              have hH7 := e7.old Dp _ hH6 hm6 fun _ z => nomatch z
              cases z5 : keyOf dk with
              | none => rw [z5] at h2; exact h2.elim
              | some key =>
                rw [z5] at h2
                dsimp only at h2
                by_cases hc : (ks.all fun k' => !decide (k' = key)) = true ∧ ks.length < 100000
                · rw [if_pos hc] at h2
                  refine ⟨ks.zip vs, key, key_at p6 z5, hH7, ?_, ?_⟩
                  · rw [List.length_zip, hkl, Nat.min_self, ← hkl]
                    exact cap_lt hc.2
                  · rw [put_new hkl hc.1]
                    refine ⟨ks ++ [key], acc ++ [d], vs ++ [v7], st7, m7, (((e2.trans e35).trans e6).trans e7).mut hD, r7.hid hx7 hm7, hx7, hm7, upd_same, by simp [hkl], ?_, h2⟩
                    exact RepL.hid hx7 _ _ ((((ha.up e35).up e6).up e7).append (.cons p7 .nil))
                · rw [if_neg hc] at h2
                  exact h2.elim
theorem se_dc {kx vx iter : Expr} {ifs : List Expr} {scope : Scope} {own : List (Str × Nat)} {own' : List Nat} {it : AF} {u : GF} {t : TF} (hc : X.calm = true) (hN : X.N.Nodup) (hi : SI X W tg iter it) (ok : BlkOk X.N X.env.scope scope own)
    (hg : ∀ (s : Shared) (H : Hp) (C : Addr) (cl : List (Str × Addr)) (fp : List Addr), SG (X.blk s H scope (compEnvC scope cl C X.env) fp) tg u own')
    (ht : ∀ (s : Shared) (H : Hp) (C : Addr) (cl : List (Str × Addr)) (fp : List Addr), SIf (X.blk s H scope (compEnvC scope cl C X.env) fp) W0 ifs t)
    (hk : ∀ (s : Shared) (H : Hp) (C : Addr) (cl : List (Str × Addr)) (fp : List Addr), SE (X.blk s H scope (compEnvC scope cl C X.env) fp) W0 kx fk)
    (he : ∀ (s : Shared) (H : Hp) (C : Addr) (cl : List (Str × Addr)) (fp : List Addr), SE (X.blk s H scope (compEnvC scope cl C X.env) fp) W0 vx fv)
    (hown : ∀ i ∈ own', i ∈ own.map (·.2) := by decide) (hs : ∀ x, foldedSetIterable iter X.env x = pure x := by intro _; rfl) :
    SE X W (.DictComp kx vx [⟨tg, iter, ifs, 0⟩] scope pos) (dcF it u t fk fv (own.map (·.2))) := by
  obtain ⟨wi, pi, qi⟩ := hi
  exact ⟨_, pe_dc (g := tSG X u own') (tt := tST X W0 t) (tk := tSE X W0 fk) (tv := tSE X W0 fv) hc hN pi ok (fun s H C cl fp => (hg s H C cl fp).pg) (fun s H C cl fp => (ht s H C cl fp).pts) (fun s H C cl fp => (hk s H C cl fp).pe) (fun s H C cl fp => (he s H C cl fp).pe) hs, dc_read qi hown⟩
/-! ### what is never come to -/
def sBadF : SF := fun _ _ => .bad
def eBadF : EF := fun _ _ => .bad
theorem se_bad {e : Expr} : SE X W e eBadF := ⟨fun _ _ _ => False, ⟨fun _ _ _ _ _ _ h => h.elim⟩, fun _ _ _ _ _ _ _ _ h => h⟩
theorem ss_bad {st : Stmt} : SS X W st sBadF := ⟨fun _ _ _ => False, ⟨fun _ _ _ _ _ _ h => h.elim⟩, fun _ _ _ _ _ _ _ _ h => h⟩
end
end DX

/-! DX K: comprehensions with two fors: the list has a place in the store -/
namespace DX
open PySem PySem.Spec PyProof.Rows L2
variable [TB0]
/-- the inner turns; k: the list's place; c: what goes on behind them -/
def lcS1 (k : Nat) (u : GF) (t : TF) (fe : EF) (ρ : Sl) : List D → (Store → Res D) → Store → Res D
  | [], c, st => c st
  | x :: xs, c, st => match u x ρ st with
    | none => .bad
    | some (ρ1, st1) => match t ρ1 st1 with
      | .ok true st2 => match fe ρ1 st2 with
        | .ok d st3 => match st3[k]? with
          | some (.lst acc) => if acc.length < 100000 then lcS1 k u t fe ρ xs c (st3.set k (.lst (acc ++ [d]))) else .bad
          | _ => .bad
        | _ => .bad
      | .ok false st2 => lcS1 k u t fe ρ xs c st2
      | _ => .bad
def lcS2 (k : Nat) (u : GF) (t : TF) (it1 : AF) (u1 : GF) (t1 : TF) (fe : EF) (vs1 : List Nat) (ρ : Sl) : List D → Store → Res D
  | [], st => .ok (.ob k) st
  | x :: xs, st => match u x ρ st with
    | none => .bad
    | some (ρ1, st1) => match t ρ1 st1 with
      | .ok true st2 => match it1 ρ1 st2 with
        | .ok ys st3 => lcS1 k u1 t1 fe (wipeF ρ1 vs1) ys (fun st4 => lcS2 k u t it1 u1 t1 fe vs1 ρ xs st4) st3
        | _ => .bad
      | .ok false st2 => lcS2 k u t it1 u1 t1 fe vs1 ρ xs st2
      | _ => .bad
def lcF2 (it : AF) (u : GF) (t : TF) (it1 : AF) (u1 : GF) (t1 : TF) (fe : EF) (vs vs1 : List Nat) : EF := fun ρ st => (it ρ st).bind fun xs st1 => lcS2 st1.length u t it1 u1 t1 fe vs1 (wipeF ρ vs) xs (st1 ++ [.lst []])
section
variable {X : Cx} {W : WX} {tg tg1 : Expr} {fe : EF} {pos : Pos}
def tSI (X : Cx) (W : WX) (it : AF) : TI := fun σ H R => ∃ ρ st m, SR X.K H m σ ρ ∧ Rl X.K m H st ∧ Post X W m H σ ItOk R (it ρ st)
theorem SI.pi {e : Expr} {it : AF} (h : SI X W tg e it) : PI X tg e (tSI X W it) := by
  obtain ⟨wi, p, q⟩ := h
  exact ⟨fun pins s σ H R I ⟨ρ, st, m, h1, h2, h3⟩ => p.run pins s σ H R I (q σ H ρ st m R h1 h2 h3)⟩
theorem lc2_read {own : List (Str × Nat)} {own' own1 vs1 : List Nat} {it it1 : AF} {u u1 : GF} {t t1 : TF} {wi : TI} (qi : ∀ σ H ρ st m R, SR X.K H m σ ρ → Rl X.K m H st → Post X W m H σ ItOk R (it ρ st) → wi σ H R) (hown : ∀ i ∈ own', i ∈ own.map (·.2)) (hown1 : ∀ i ∈ own1, i ∈ vs1) :
    ∀ σ H ρ st m Q, SR X.K H m σ ρ → Rl X.K m H st → Post X W m H σ Rep Q (lcF2 it u t it1 u1 t1 fe (own.map (·.2)) vs1 ρ st) → tLc2 wi (tSG X u own') (tST X W0 t) (tSI X W0 it1) (tSG X u1 own1) (tST X W0 t1) (tSE X W0 fe) (own.map (·.2)) vs1 σ H Q := by
  refine fun σ H ρ st m Q s r h => qi σ H ρ st m _ s r (h.mp fun ds st1 J H1 m1 e1 r1 p1 h1 => ?_)
  intro Dp hD
  have s1 := s.up e1
  have eP : Ext m1 H1 (m1.push Dp) (upd H1 Dp (.lst [])) := Ext.push hD
  have rP : Rl X.K (m1.push Dp) (upd H1 Dp (.lst [])) (st1 ++ [.lst []]) := r1.push hD ⟨[], upd_same, .nil⟩
  have kP : (m1.push Dp).m[st1.length]? = some Dp := by unfold Mp.push; rw [← r1.len, List.getElem?_append_right (Nat.le_refl _), Nat.sub_self]; rfl
  have at_k : ∀ {m2 : Mp} {H2 : Hp}, Ext (m1.push Dp) (upd H1 Dp (.lst [])) m2 H2 → m2.m[st1.length]? = some Dp := fun {m2 H2} e => by
    obtain ⟨tl, ht⟩ := e.pre
    have hl : st1.length < (m1.push Dp).m.length := (List.getElem?_eq_some_iff.mp kP).1
    rw [← ht, List.getElem?_append_left hl]
    exact kP
  refine ⟨fun i n H2 => n = ds.length - i ∧ i ≤ ds.length ∧ ∃ st2 m2, Ext (m1.push Dp) (upd H1 Dp (.lst [])) m2 H2 ∧ Rl X.K m2 H2 st2 ∧ Post X W m1 H1 σ Rep Q (lcS2 st1.length u t it1 u1 t1 fe vs1 (wipeF ρ (own.map (·.2))) (ds.drop i) st2),
    ⟨ds.length, rfl, Nat.zero_le _, st1 ++ [O.lst []], m1.push Dp, Ext.refl _ _, rP, h1⟩, fun i n H2 hW => ?_⟩
  obtain ⟨hn, hi, st2, m2, e2, r2, h2⟩ := hW
  obtain ⟨stop, at_⟩ := p1 m2 H2 (eP.trans e2)
  by_cases hl : i = ds.length
  · subst hl
    rw [List.drop_length] at h2
    exact .inl ⟨stop, h2 (.ref Dp) H2 m2 (eP.trans e2) r2 (.ob (at_k e2))⟩
  · have hlt : i < ds.length := by omega
    obtain ⟨go, yld⟩ := at_ i ds[i] (List.getElem?_eq_getElem hlt)
    rw [List.drop_eq_getElem_cons hlt] at h2
    unfold lcS2 at h2
    refine .inr ⟨go, fun H3 => ∃ st2 m2, Ext (m1.push Dp) (upd H1 Dp (.lst [])) m2 H3 ∧ Rl X.K m2 H3 st2 ∧ Post X W m1 H1 σ Rep Q (lcS2 st1.length u t it1 u1 t1 fe vs1 (wipeF ρ (own.map (·.2))) (ds.drop (i + 1)) st2),
      fun H3 h3 => ⟨ds.length - (i + 1), by omega, rfl, by omega, h3⟩, fun x H3 hy => ?_⟩
    obtain ⟨e3, rl3⟩ := yld x H3 hy
    cases z : u ds[i] (wipeF ρ (own.map (·.2))) st2 with
    | none => rw [z] at h2; exact h2.elim
    | some w =>
      obtain ⟨ρ4, st4⟩ := w
      rw [z] at h2
      refine ⟨ds[i], _, st2, m2, ρ4, st4, ((s1.up (eP.trans e2)).up e3).wipe _, (rl3 _ r2).1, (rl3 _ r2).2, z, fun σ4 H4 m4 e4 r4 s4 w4 => ⟨(w4 _ hown).trans (wipe_idem σ _), ?_⟩⟩
      dsimp only at h2
      refine ⟨ρ4, st4, m4, s4, r4, ?_⟩
      have e24 := (e2.trans e3).trans e4
      cases z2 : t ρ4 st4 with
      | exc c fs st5 => rw [z2] at h2; exact h2.elim
      | bad => rw [z2] at h2; exact h2.elim
      | ok b st5 =>
        rw [z2] at h2
        intro v5 H5 m5 e5 r5 p5
        obtain rfl : v5 = b := p5
        have e25 := e24.trans e5
        cases v5 with
        | false =>
          rw [if_neg Bool.false_ne_true]
          exact ⟨st5, m5, e25, r5, h2⟩
        | true =>
          rw [if_pos rfl]
          refine ⟨ρ4, st5, m5, s4.up e5, r5, ?_⟩
          dsimp only at h2
          cases z3 : it1 ρ4 st5 with
          | exc c fs st6 => rw [z3] at h2; exact h2.elim
          | bad => rw [z3] at h2; exact h2.elim
          | ok ys st6 =>
            rw [z3] at h2
            dsimp only at h2
            intro J1 H6 m6 e6 r6 p6
            have s6 := (s4.up e5).up e6
            have e26 := e25.trans e6
            refine ⟨fun j k H7 => k = ys.length - j ∧ j ≤ ys.length ∧ ∃ st7 m7, Ext m6 H6 m7 H7 ∧ Rl X.K m7 H7 st7 ∧ Post X W m1 H1 σ Rep Q (lcS1 st1.length u1 t1 fe (wipeF ρ4 vs1) (ys.drop j) (fun st8 => lcS2 st1.length u t it1 u1 t1 fe vs1 (wipeF ρ (own.map (·.2))) (ds.drop (i + 1)) st8) st7),
              ⟨ys.length, rfl, Nat.zero_le _, st6, m6, Ext.refl m6 H6, r6, h2⟩, fun j k H7 hW1 => ?_⟩
            obtain ⟨hk, hj, st7, m7, e7, r7, h7⟩ := hW1
            obtain ⟨stop1, at1⟩ := p6 m7 H7 e7
            by_cases hl1 : j = ys.length
            · subst hl1
              rw [List.drop_length] at h7
              exact .inl ⟨stop1, st7, m7, e26.trans e7, r7, h7⟩
            · have hlt1 : j < ys.length := by omega
              obtain ⟨go1, yld1⟩ := at1 j ys[j] (List.getElem?_eq_getElem hlt1)
              rw [List.drop_eq_getElem_cons hlt1] at h7
              unfold lcS1 at h7
              refine .inr ⟨go1, fun H8 => ∃ st7 m7, Ext m6 H6 m7 H8 ∧ Rl X.K m7 H8 st7 ∧ Post X W m1 H1 σ Rep Q (lcS1 st1.length u1 t1 fe (wipeF ρ4 vs1) (ys.drop (j + 1)) (fun st8 => lcS2 st1.length u t it1 u1 t1 fe vs1 (wipeF ρ (own.map (·.2))) (ds.drop (i + 1)) st8) st7),
                fun H8 h8 => ⟨ys.length - (j + 1), by omega, rfl, by omega, h8⟩, fun x8 H8 hy8 => ?_⟩
              obtain ⟨e8, rl8⟩ := yld1 x8 H8 hy8
              cases y1 : u1 ys[j] (wipeF ρ4 vs1) st7 with
              | none => rw [y1] at h7; exact h7.elim
              | some w1 =>
                obtain ⟨ρ9, st9⟩ := w1
                rw [y1] at h7
                refine ⟨ys[j], _, st7, m7, ρ9, st9, ((s6.up e7).up e8).wipe _, (rl8 _ r7).1, (rl8 _ r7).2, y1, fun σ9 H9 m9 e9 r9 s9 w9 => ⟨(w9 _ hown1).trans (wipe_idem σ4 _), ?_⟩⟩
                dsimp only at h7
                refine ⟨ρ9, st9, m9, s9, r9, ?_⟩
                have e79 := (e7.trans e8).trans e9
                cases y2 : t1 ρ9 st9 with
                | exc c fs st10 => rw [y2] at h7; exact h7.elim
                | bad => rw [y2] at h7; exact h7.elim
                | ok b st10 =>
                  rw [y2] at h7
                  intro v10 H10 m10 e10 r10 p10
                  obtain rfl : v10 = b := p10
                  have e710 := e79.trans e10
                  cases v10 with
                  | false =>
                    rw [if_neg Bool.false_ne_true]
                    exact ⟨st10, m10, e710, r10, h7⟩
                  | true =>
                    rw [if_pos rfl]
                    refine ⟨ρ9, st10, m10, s9.up e10, r10, ?_⟩
                    dsimp only at h7
                    cases y3 : fe ρ9 st10 with
                    | exc c fs st11 => rw [y3] at h7; exact h7.elim
                    | bad => rw [y3] at h7; exact h7.elim
                    | ok d st11 =>
                      rw [y3] at h7
                      dsimp only at h7
                      intro v11 H11 m11 e11 r11 p11
                      have k11 : m11.m[st1.length]? = some Dp := at_k ((e26.trans e710).trans e11)
                      cases y4 : st11[st1.length]? with
                      | none => rw [y4] at h7; exact h7.elim
                      | some o =>
                        rw [y4] at h7
                        cases o with
                        | lst acc =>
                          dsimp only at h7
                          obtain ⟨a', vs, ea, hm2, hH, hv⟩ := store_lst r11 (.ob k11) y4
                          cases ea
                          by_cases hlen : acc.length < 100000
                          · rw [if_pos hlen] at h7
                            obtain ⟨x3, r3⟩ := r11.wlst (vs := vs ++ [v11]) hm2 (hv.append (.cons p11 .nil))
                            exact ⟨vs, hH, by rw [hv.length]; exact cap_lt hlen, _, m11, (e710.trans e11).trans x3, r3, h7⟩
                          · rw [if_neg hlen] at h7
                            exact h7.elim
                        | _ => exact h7.elim
theorem se_lc2 {elt iter iter1 : Expr} {ifs ifs1 : List Expr} {scope : Scope} {own : List (Str × Nat)} {own' own1 vs1 : List Nat} {it it1 : AF} {u u1 : GF} {t t1 : TF} (hc : X.calm = true) (hN : X.N.Nodup) (hi : SI X W tg iter it) (ok : BlkOk X.N X.env.scope scope own)
    (hg : ∀ (s : Shared) (H : Hp) (C : Addr) (cl : List (Str × Addr)) (fp : List Addr), SG (X.blk s H scope (compEnvC scope cl C X.env) fp) tg u own')
    (ht : ∀ (s : Shared) (H : Hp) (C : Addr) (cl : List (Str × Addr)) (fp : List Addr), SIf (X.blk s H scope (compEnvC scope cl C X.env) fp) W0 ifs t)
    (hi1 : ∀ (s : Shared) (H : Hp) (C : Addr) (cl : List (Str × Addr)) (fp : List Addr), SI (X.blk s H scope (compEnvC scope cl C X.env) fp) W0 tg1 iter1 it1)
    (hg1 : ∀ (s : Shared) (H : Hp) (C : Addr) (cl : List (Str × Addr)) (fp : List Addr), SG (X.blk s H scope (compEnvC scope cl C X.env) fp) tg1 u1 own1)
    (ht1 : ∀ (s : Shared) (H : Hp) (C : Addr) (cl : List (Str × Addr)) (fp : List Addr), SIf (X.blk s H scope (compEnvC scope cl C X.env) fp) W0 ifs1 t1)
    (he : ∀ (s : Shared) (H : Hp) (C : Addr) (cl : List (Str × Addr)) (fp : List Addr), SE (X.blk s H scope (compEnvC scope cl C X.env) fp) W0 elt fe)
    (hv : ∀ i ∈ vs1, i ∈ own.map (·.2) := by decide) (hown : ∀ i ∈ own', i ∈ own.map (·.2) := by decide) (hown1 : ∀ i ∈ own1, i ∈ vs1 := by decide) (hs : ∀ x, foldedSetIterable iter X.env x = pure x := by intro _; rfl) (hs1 : ∀ env x, foldedSetIterable iter1 env x = pure x := by intro _ _; rfl) :
    SE X W (.ListComp elt [⟨tg, iter, ifs, 0⟩, ⟨tg1, iter1, ifs1, 0⟩] scope pos) (lcF2 it u t it1 u1 t1 fe (own.map (·.2)) vs1) := by
  obtain ⟨wi, pi, qi⟩ := hi
  exact ⟨_, pe_lc2 (g := tSG X u own') (tt := tST X W0 t) (wi1 := tSI X W0 it1) (g1 := tSG X u1 own1) (tt1 := tST X W0 t1) (te := tSE X W0 fe) hc hN pi ok hv (fun s H C cl fp => (hg s H C cl fp).pg) (fun s H C cl fp => (ht s H C cl fp).pts) (fun s H C cl fp => (hi1 s H C cl fp).pi) (fun s H C cl fp => (hg1 s H C cl fp).pg) (fun s H C cl fp => (ht1 s H C cl fp).pts) (fun s H C cl fp => (he s H C cl fp).pe) hs hs1, lc2_read qi hown hown1⟩
end
end DX

/-! DX M0: C(..) where C is an exception class with its own __init__, whose __new__ is that of a base further up (KeyError has none of its own) -/
namespace PySem
namespace DXM0
open Builtin Builtin.ObjectAttr HandSPX
variable {nm q : Str} {C N : Addr} {bs bm bmB : List Value} {hdct : Bool} {sn : List Str} {sub : List Value} {ab : Bool} {col : Option Bool} {dd : Option Addr} {k0 k1 k2 k3 k5 : Option Value} {B newId initId : String}
/-- what the class's line must say -/
structure Line (B : String) (bm : List Value) : Prop where
  b : bm.contains (.type B) = true
  a : bm.contains (.type "AttributeError") = false
  n : bm.contains (.type "NameError") = false
section
variable {M : Model} {A : Around} {E : Value → Shared → Prop} {h : Heap} {g : Array GenState} {d : Drawn} {t : Nat} {os : OsState}
theorem chk (F : ExcBaseFacts B newId initId bmB) (L : Line B bm) {rest : List Value} {Q : Unit → Shared → Prop} (there : h.get? C = some (excClassObj nm q C N bs bm hdct sn sub ab col dd k0 k1 k2 k3 k5 newId)) (fin : Q () ⟨h, g, d, t, os⟩) :
    wpAny M A (checkBuiltinCall newId ⟨.ref C :: rest, []⟩) Q E ⟨h, g, d, t, os⟩ := by
  have below : (Value.ref C :: bm).contains (.type B) = true := by
    rw [List.contains_cons, L.b, Bool.or_true]
  have star := F.noStar
  simp only [checkBuiltinCall, F.newKind, F.newSplit, F.newRow]
  repeat (first
    | refine wpAny_loadPart_at there ?_
    | (refine wpAny_isSubtype_exc there ?_; rw [below])
    | refine wpAny_staticBase_exc there ?_
    | refine wpAny_madeBy_exc there ?_
    | simp only [bne_self_eq_false, Bool.false_eq_true, if_false]
    | wp_step)
  exact fin
end
section
variable {prog : Program} {w : World} {A : Around} {E : Value → Shared → Prop} {R : Result → Shared → Prop} {h : Heap} {g : Array GenState} {d : Drawn} {t : Nat} {os : OsState}
theorem newly (F : ExcBaseFacts B newId initId bmB) (L : Line B bm) {rest : List Value} (there : h.get? C = some (excClassObj nm q C N bs bm hdct sn sub ab col dd k0 k1 k2 k3 k5 newId))
    (fin : R (.ok (.ret (.ref (h.objs.size + 1)))) ⟨(h.push (W.kdv_tup rest)).push (excO C h.objs.size), g, d, t, os⟩) (hrest : rest.length ≤ sizeLine) : codeAny (model prog w) A (.builtin newId ⟨.ref C :: rest, []⟩) R ⟨h, g, d, t, os⟩ := by
  have ends := F.ends
  have isB : (Value.ref C :: bm).contains (.type B) = true := by
    rw [List.contains_cons, L.b, Bool.or_true]
  have noA : (Value.ref C :: bm).contains (.type "AttributeError") = false := by
    rw [List.contains_cons, L.a]
    rfl
  have noN : (Value.ref C :: bm).contains (.type "NameError") = false := by
    rw [List.contains_cons, L.n]
    rfl
  refine codeAny_builtinAt F.entry ?_
  unfold Builtin.«BaseException.__new__»
  refine wpAt_bind ?_
  show wpAt _ _ _ (stack >>= _) _ _ _
  refine wpAt_bind (wpAt_stack fun p below => wpAt_of_wpAny ?_)
  wp_walk
  refine wpAt_of_wpAny ?_
  rw [F.owner]
  repeat (first
    | with_reducible refine wpAny_madeHere_exc F.canon there ?_
    | with_reducible refine wpAny_loadPart_at there ?_
    | (with_reducible refine wpAny_isSubtype_exc there ?_; first | rw [isB] | rw [noA] | rw [noN])
    | wp_step)
  show R _ _
  rw [Heap.size_push]
  exact fin
theorem typeCall (F : ExcBaseFacts B newId initId bmB) (L : Line B bm) {rest : List Value} {fI : Addr} {Q : Fin → Shared → Prop} (there : h.get? C = some (excClassObj nm q C N bs bm hdct sn sub ab col dd k0 k1 k2 k3 k5 newId))
    (hi : W.Looks (model prog w) h (typeLookup (.ref C) "__init__") (some (.ref fI))) (hb : ∀ self, W.Looks (model prog w) h (bindSpecial (.ref fI) self) (.ref fI, [self])) (hrest : rest.length ≤ sizeLine)
    (run : codeAny (model prog w) A (.call (.ref fI) ⟨.ref (h.objs.size + 1) :: rest, []⟩) (fun r s' => match r with | .ok (.ret v) => v = .none ∧ Q (.done (.ret (.ref (h.objs.size + 1)))) s' | .ok _ => False | .error e => E e s') ⟨(h.push (W.kdv_tup rest)).push (excO C h.objs.size), g, d, t, os⟩) :
    wpAny (model prog w) A (Builtin.«type.__call__» ⟨.ref C :: rest, []⟩) Q E ⟨h, g, d, t, os⟩ := by
  repeat (first
    | with_reducible refine wpAny_loadPart_at there ?_
    | with_reducible refine wpAny_madeBy_exc there ?_
    | wp_step)
  refine codeAny_call_builtin_code (Code.quiet_builtin _ F.quiet) (chk F L there ?_)
  refine newly F L there ?_ hrest
  show wpAny _ _ _ _ _ _
  have kp : ∀ b o, h.get? b = some o → ((h.push (W.kdv_tup rest)).push (excO C h.objs.size)).get? b = some o := fun b o e => Heap.get?_push_of_some _ (Heap.get?_push_of_some _ e)
  have at1 := kp _ _ there
  have made : ((h.push (W.kdv_tup rest)).push (excO C h.objs.size)).get? (h.objs.size + 1) = some (excO C h.objs.size) := by
    heap_get
  have self : (Value.ref C :: bm).contains (.ref C) = true := by
    simp
  have i1 := hi.keeps kp
  have b1 := (hb (.ref (h.objs.size + 1))).keeps kp
  unfold isInstance
  repeat (first
    | with_reducible refine wpAny_loadPart_at made ?_
    | (with_reducible refine wpAny_isSubtype_exc at1 ?_; rw [self])
    | wp_step)
  show wpAny _ _ (typeLookup (.ref C) _) _ _ _
  refine i1.at (wpAny_holding (wpAny_bind (b1.at ?_)))
  refine wpAny_bind (wpAny_call (codeAny_mono run fun r s' z => ?_))
  cases r with
  | error e => exact z
  | ok fl =>
    cases fl with
    | ret v =>
      obtain ⟨rfl, z⟩ := z
      first
        | exact wpAny_pure (wpAny_pure z)
        | (wp_walk; exact z)
    | next => exact z.elim
    | brk => exact z.elim
    | cont => exact z.elim
/-- C(..) -/
theorem own (F : ExcBaseFacts B newId initId bmB) (L : Line B bm) {rest : List Value} {fI : Addr} (there : h.get? C = some (excClassObj nm q C N bs bm hdct sn sub ab col dd k0 k1 k2 k3 k5 newId))
    (hi : W.Looks (model prog w) h (typeLookup (.ref C) "__init__") (some (.ref fI))) (hb : ∀ self, W.Looks (model prog w) h (bindSpecial (.ref fI) self) (.ref fI, [self])) (hrest : rest.length ≤ sizeLine)
    (run : codeAny (model prog w) (A.under (.builtin "type.__call__" ⟨.ref C :: rest, []⟩)) (.call (.ref fI) ⟨.ref (h.objs.size + 1) :: rest, []⟩) (W.InitBack (h.objs.size + 1) R) ⟨(h.push (W.kdv_tup rest)).push (excO C h.objs.size), g, d, t, os⟩) :
    codeAny (model prog w) A (.call (.ref C) ⟨rest, []⟩) R ⟨h, g, d, t, os⟩ := by
  have l1 := tc_lookup
  have l2 := tc_bind (.ref C)
  have ty : (⟨h, g, d, t, os⟩ : Shared).TypeIs (.ref C) "type" := ⟨_, there, rfl⟩
  refine codeAny_of_tree ?_
  show wpAny _ _ (callAny (.ref C) _) _ _ _
  repeat (any_goals (first
    | assumption
    | with_reducible refine wpAny_loadPart_at there ?_
    | wp_step))
  refine ⟨rfl, ?_⟩
  refine codeAny_call_builtin_at (Code.quiet_builtin _ (by decide +kernel)) entry_typeCall ?_
  refine wpAny_check_type_call_sub there (typeCall F L there hi hb hrest ?_)
  refine codeAny_mono run fun r s' z => ?_
  cases r with
  | error e => exact z
  | ok fl =>
    cases fl with
    | ret v => exact z
    | next => exact z
    | brk => exact z
    | cont => exact z
end
end DXM0
end PySem

/-! DX M: exceptions that keep a thing: class E(KeyError): def __init__(self, x): self.x = x -/
namespace DX
open PySem PySem.Spec PyProof.Rows L2
variable [TB0]
theorem keepsKey : PySem.StoreFacts "KeyError" [.type "KeyError", .type "LookupError", .type "Exception", .type "BaseException", .type "object"] "object.__setattr__" "object" :=
  ⟨by kernel_rfl, PySem.Slot.of (owner := "object") (n := "__setattr__") (by rw [PySem.typeLookup_type, PySem.builtinLookup_eq_fast]; kernel_rfl) (by decide +kernel) (by decide +kernel) (by decide +kernel) (by first | exact .inl (by decide +kernel) | exact .inr (by decide +kernel)) (by rw [PySem.isSubtype_type]; kernel_rfl),
    PySem.F.store_LookupError.entry, by decide +kernel, by decide +kernel, by decide +kernel, PySem.F.store_LookupError.args, fun _ => by kernel_rfl⟩
/-- what the written part says of the class: its built-in base, its __init__ at i, which keeps one thing under the name f -/
structure ExI (K : PySem.W.Frag) (C i : Addr) (f : Str) : Prop where
  base : ∃ B newId initId bm B' bmB, ExcBaseFacts B newId initId bm ∧ PySem.DXM0.Line B bmB ∧ PySem.StoreFacts B' bmB "object.__setattr__" "object" ∧ PySem.W.excInitIn K C bmB newId = true ∧ PySem.W.excOver K C bmB = true
  init : PySem.W.findIn K (.ref C) "__init__" = some (some (.ref i))
  fn : PySem.W.isFn K (.ref i) = true
  kp : PySem.W.keepIn K (.ref C) = true
  hd : PySem.W.hasDictIn K C = true
  sa : PySem.W.findIn K (.ref C) "__setattr__" = some (some (.builtin "object.__setattr__"))
  no : PySem.W.takerIn K C f = some none
theorem exg_own {cls : Value} {d : Option Addr} {a x : Addr} : ExG cls d a ≠ .own x := by
  intro z
  unfold ExG at z
  cases z
theorem exg_tup {cls : Value} {d : Option Addr} {a : Addr} {xs : List V} : ExG cls d a ≠ .tup xs := by
  intro z
  unfold ExG at z
  cases z
theorem exg_frz {cls : Value} {d : Option Addr} {a : Addr} {o : Obj} {u : HO} : ExG cls d a ≠ .frz o u := by
  intro z
  unfold ExG at z
  cases z
theorem exg_tbl {cls : Value} {d : Option Addr} {a : Addr} {ps : Array Value} : ExG cls d a ≠ .tbl ps := by
  intro z
  unfold ExG at z
  cases z
theorem exg_ok {P : Program} {w : World} {H : Hp} {h : Heap} {a : Addr} {cls : Value} {d : Option Addr} {oe : Obj} {vs : Array Value} (e : h.get? a = some oe) (z : Zc cls d oe) (hd : oe.data = .fields vs) (h1 : vs[1]? = some .none) (h2 : vs[2]? = some .none) (h4 : 4 < vs.size) : ObjOk P w H h a (ExG cls d a) :=
  ⟨⟨oe, vs, e, z, hd, h1, h2, h4⟩, ⟨oe, e⟩, fun _ _ ⟨o, v, q, r⟩ k => ⟨o, v, k o q, r⟩⟩
theorem exg_at {P : Program} {w : World} {H : Hp} {h : Heap} {a : Addr} {cls : Value} {d : Option Addr} (ok : HOk P w H h) (e : H a = some (ExG cls d a)) : ∃ (oe : Obj) (vs : Array Value), h.get? a = some oe ∧ Zc cls d oe ∧ oe.data = .fields vs ∧ vs[1]? = some .none ∧ vs[2]? = some .none ∧ 4 < vs.size :=
  (show ObjOk P w H h a (ExG cls d a) from ok a _ e).1
section
variable {X : Cx} {pins : List (Addr × Obj)} {σ : L2.St} {H : Hp} {s : Shared} {a C i : Addr} {f : Str} {y : V} {u : Value} {Q : Unit → Shared → Prop} {E : Value → Shared → Prop} {A : Around}
/-- the heap behind self.f = y: a new dict d that has it -/
def kept1 (H : Hp) (a C d : Addr) (f : Str) (y : V) : Hp := upd (upd H d (.xd [(f, y)])) a (ExG (.ref C) (some d) a)
theorem keep_first (T : ExI X.K C i f) (I : Inv X pins σ H s) (e : H a = some (ExG (.ref C) none a)) (ry : RelV y u)
    (h : ∀ d s', H d = none → d ≠ a → Inv X pins σ (kept1 H a C d f y) s' → Q () s') : wpAny (model X.prog X.w) A (setAttr (.ref a) f u) Q E s := by
  obtain ⟨B, newId, initId, _, _, bmB, FB, LL, SF, qi, qo⟩ := T.base
  obtain ⟨⟨c0, d0, da, sl⟩, vs, ho, hz, hd, h1, h2, h4⟩ := exg_at I.hok e
  obtain ⟨z1, z2⟩ := hz
  dsimp only at z1 z2 hd
  subst z1 z2 hd
  obtain ⟨cd, hcd, hdict⟩ : ∃ cd, PySem.W.clsIn X.K C = some cd ∧ cd.hasDict = true := by
    have q := T.hd
    unfold PySem.W.hasDictIn at q
    cases z : PySem.W.clsIn X.K C with
    | none => rw [z] at q; exact absurd q (by decide)
    | some cd => rw [z] at q; exact ⟨cd, rfl, by simpa using q⟩
  obtain ⟨hp, g, dr, t, os⟩ := s
  have J : PySem.W.InstAt hp a ⟨.ref C, none, .fields vs, sl⟩ C none := ⟨ho, rfl, rfl, trivial⟩
  refine PySem.W.set_plain I.kIn (ox := ⟨.ref C, none, .fields vs, sl⟩) (od := none) J T.sa ?_
  refine PySem.W.osa_openX SF I.kIn J qo T.no fun b => ?_
  have hcls : PySem.W.Looks (model X.prog X.w) hp (classData C) cd := PySem.W.looks_clsIn I.kIn hcd
  have lt : a < hp.objs.size := Heap.lt_size ho
  have hnd : H hp.objs.size = none := I.hok.fresh (Nat.le_refl _)
  show wpAny _ _ (Builtin.ObjectAttr.storeInOwnDict (.ref a) (.ref C) (.str f t) f u b) _ _ _
  obtain ⟨cnm, cbs, cmro, cns, cqn, chd, csn, csb, cab, ccol, cdel⟩ := cd
  dsimp only at hdict
  subst hdict
  unfold Builtin.ObjectAttr.storeInOwnDict Builtin.ObjectAttr.ownDictForStores
  repeat (first | with_reducible refine PySem.HandSPX.store_in_new ?_ ?_ | with_reducible refine wpAny_loadPart_at ho ?_ | with_reducible refine hcls.at ?_ | wp_step)
  · exact ⟨_, #[], _, (Heap.get?_update_ne _ _ _ _ (Nat.ne_of_gt lt)).trans (Heap.get?_push_at rfl rfl), rfl, fun en hen => absurd hen (by simp), fun _ => rfl⟩
  · intro h' tk' hn' sb
    have ea : h'.get? a = some ⟨.ref C, some hp.objs.size, .fields vs, sl⟩ := (sb.2 a (Nat.ne_of_lt lt)).trans (Heap.get?_update_self _ (Heap.get?_push_of_some _ ho) rfl)
    have kp : ∀ b o, b ≠ a → hp.get? b = some o → h'.get? b = some o := fun b o hb hbo => (sb.2 b (Nat.ne_of_lt (Heap.lt_size hbo))).trans ((Heap.get?_update_ne _ _ _ _ hb).trans (Heap.get?_push_of_some _ hbo))
    have nA : ∀ b v, H b = some v → (∀ dd, v ≠ ExG (.ref C) dd a) → b ≠ a := fun b v hb nv z => by
      rw [z, e] at hb
      exact nv none (Option.some.inj hb).symm
    have n0 : ∀ b, H b = none → b ≠ a := fun b hb z => by
      rw [z, e] at hb
      cases hb
    have nD : ∀ b v, H b = some v → b ≠ hp.objs.size := fun b v hb z => by
      rw [z, hnd] at hb
      cases hb
    have same : ∀ b v, H b = some v → (∀ dd, v ≠ ExG (.ref C) dd a) → kept1 H a C hp.objs.size f y b = some v := fun b v hb nv => by
      unfold kept1
      rw [upd_ne (nA b v hb nv), upd_ne (nD b v hb)]
      exact hb
    have un : Un X.fs [] H (kept1 H a C hp.objs.size f y) hp h' := {
      keep := fun b o q n _ _ => kp b o (n0 b n) q
      slot := fun b o q n _ _ => ⟨o.slots, kp b o (n0 b n) q⟩
      free := fun b o q n _ => by
        unfold kept1
        rw [upd_ne (n0 b n), upd_ne (Nat.ne_of_lt (Heap.lt_size q))]
        exact n
      there := fun b o q _ => by
        by_cases hb : b = a
        · exact ⟨_, hb ▸ ea⟩
        · exact ⟨o, kp b o hb q⟩
      tups := fun b xs q => same b _ q fun _ => (fun z => exg_tup z.symm)
      frzs := fun b o v q => same b _ q fun _ => (fun z => exg_frz z.symm)
      tbls := fun b ps q => ⟨#[], by rw [same b _ q fun _ => (fun z => exg_tbl z.symm)]; simp⟩ }
    refine h hp.objs.size _ hnd (Nat.ne_of_gt lt) (I.un (t' := tk') un fun b v q => ?_)
    unfold kept1 at q
    by_cases hb : b = a
    · rw [hb, upd_same] at q
      cases q
      rw [hb]
      exact exg_ok ea ⟨rfl, rfl⟩ rfl h1 h2 h4
    · rw [upd_ne hb] at q
      by_cases hbd : b = hp.objs.size
      · rw [hbd, upd_same] at q
        cases q
        rw [hbd]
        refine ⟨_, hn', fun x => ?_⟩
        by_cases hx : x = f
        · subst hx
          rw [if_pos rfl, List.lookup_cons, beq_self_eq_true]
          exact ry
        · rw [if_neg hx, List.lookup_cons, show (x == f) = false by simpa using hx]
          exact True.intro
      · rw [upd_ne hbd] at q
        refine (I.hok b v q).stay (fun c w hc z => kp c w ?_ z) (fun c hc => same c _ hc fun _ => (fun z => exg_own z.symm)) fun c xs hc => same c _ hc fun _ => (fun z => exg_tup z.symm)
        rcases hc with hc | hc
        · rw [hc]
          exact hb
        · exact nA c _ hc fun _ z => exg_own z.symm
end
/-! ### the __init__ -/
def tKeep (K : PySem.W.Frag) (f : Str) (to te : TE) : TS := fun D σ H => te σ H fun y H1 => to σ H1 fun x H2 => ∃ a C i : Addr, x = .ref a ∧ ExI K C i f ∧ H2 a = some (ExG (.ref C) none a) ∧ ∀ d, H2 d = none → d ≠ a → D.nx σ (kept1 H2 a C d f y)
theorem ps_keep {X : Cx} {o e : Expr} {to te : TE} {f : Str} {p' pos : Pos} (ho : PE X o to) (he : PE X e te) (hs : swapsWith e (some (.Attribute o f p')) pos.line X.env = pure false := by rfl) : PS X (.Assign [.Attribute o f p'] e pos) (tKeep X.K f to te) :=
  ⟨fun pins s σ H D I h => plainObj_wpAny_Assign_Attribute (thn (he.run pins s σ H _ I h) fun v s1 ⟨y, H1, I1, r1, q1⟩ => thn (ho.run pins s1 σ H1 _ I1 q1) fun u s2 hu => by
    obtain ⟨x, H2, I2, r2, a, C, i, rfl, T, ea, q⟩ := hu
    cases r2
    exact keep_first T I2 ea r1 fun d s' n ne J => ⟨σ, _, J, q d n ne⟩) hs⟩
/-- the promise of the __init__ -/
def spKeep (C : Addr) (f : Str) : Sp := fun vs H Q _ => ∃ (a : Addr) (y : V), vs = [.ref a, y] ∧ H a = some (ExG (.ref C) none a) ∧ ∀ d, H d = none → d ≠ a → Q .non (kept1 H a C d f y)
section
variable {P : Program} {w : World} {K : PySem.W.Frag} {mg : Str → Option Value} {base : Heap}
theorem init_keeps {q x : Str} {st : Stmt} {C i : Addr} {fd : FuncData} {f : Str} (F : Fun K "__init__" q st i fd) (S : FnScope ["self", x] ["self", x] (defScope st)) (T : ExI K C i f)
    (hb : ∀ (cdv : Value) (A : Around) (outer : List Env) (s : Shared) (H : Hp) (E : XK), PSs (cxOf (L2.CX P w) P w K mg base ["self", x] q (defScope st) i cdv A outer s H E) (defBody st) (tKeep K f (tVar 0) (tVar 1))) :
    FnOk P w K mg base (L2.CX P w) 1 i fd ["self", x] (spKeep C f) := by
  refine F.okX S (fun vs H Q E h => ?_) fun cdv A outer s H vs Q E hr h => ⟨_, hb cdv A outer s H E, ?_⟩
  · obtain ⟨a, y, rfl, _⟩ := h
    rfl
  · obtain ⟨a, y, rfl, ea, k⟩ := h
    exact ⟨y, rfl, .ref a, rfl, a, C, i, rfl, T, ea, k⟩
end
/-! ### C(e) -/
section
variable {X : Cx} {pins : List (Addr × Obj)} {σ : L2.St} {H : Hp} {s : Shared} {C i : Addr} {f : Str} {y : V} {u : Value} {E : Value → Shared → Prop} {fd : FuncData} {k : Nat} {ps : List Str}
theorem made_call {Q : Value → Shared → Prop} (T : ExI X.K C i f) (G : FnOk X.prog X.w X.K X.mg X.base (L2.CX X.prog X.w) k i fd ps (spKeep C f)) (hb : Binds X.K fd ps []) (hr : Room (k + 1) X.A) (I : Inv X pins σ H s) (ry : RelV y u)
    (h : ∀ (a d : Addr) (s2 s' : Shared), Inv X pins σ (upd H a (ExG (.ref C) none a)) s2 → s.heap.objs.size ≤ a → (∀ b o, s.heap.get? b = some o → s2.heap.get? b = some o) → s2.os = s.os → H a = none → H d = none → d ≠ a →
      CE X.stack X.prog X.w (upd H a (ExG (.ref C) none a)) s2 (fun _ H2 => H2 = kept1 (upd H a (ExG (.ref C) none a)) a C d f y) .none s' → Q (.ref a) s') :
    wpAny (model X.prog X.w) X.A (call (.ref C) [u]) Q E s := by
  obtain ⟨B, newId, initId, _, _, bmB, FB, LL, SF, qi, qo⟩ := T.base
  obtain ⟨nm, N, qn, bs, bm, hdct, sn, sub, ab, col, dd, k0, k1, k2, k3, k5, hC, hT⟩ := PySem.W.excInit_of I.kIn qi
  obtain ⟨hp, g, dr, tk, os⟩ := s
  have sz : hp.objs.size ≤ hp.objs.size + 1 := Nat.le_succ _
  have nA : H (hp.objs.size + 1) = none := I.hok.fresh sz
  have kp : ∀ b o, hp.get? b = some o → ((hp.push (PySem.W.kdv_tup [u])).push (PySem.HandSPX.excO C hp.objs.size)).get? b = some o := fun b o z => Heap.get?_push_of_some _ (Heap.get?_push_of_some _ z)
  have there : ((hp.push (PySem.W.kdv_tup [u])).push (PySem.HandSPX.excO C hp.objs.size)).get? (hp.objs.size + 1) = some (PySem.HandSPX.excO C hp.objs.size) := by heap_get
  have I2 : Inv X pins σ (upd H (hp.objs.size + 1) (ExG (.ref C) none (hp.objs.size + 1))) ⟨(hp.push (PySem.W.kdv_tup [u])).push (PySem.HandSPX.excO C hp.objs.size), g, dr, tk, os⟩ :=
    I.laid (t' := tk) kp sz (exg_ok there ⟨rfl, rfl⟩ rfl rfl rfl (show 4 < 6 by decide))
  obtain ⟨oI, hoI, hcI⟩ : ∃ oI, hp.get? i = some oI ∧ oI.cls = .type "function" := by
    obtain ⟨o, z1, z2⟩ := Option.map_eq_some_iff.mp (show (X.K.lookup i).map (·.cls) = some (.type "function") from beq_iff_eq.mp T.fn)
    exact ⟨o, I.kIn _ _ z1, z2⟩
  refine wpAny_call (PySem.DXM0.own FB ⟨by rw [hT]; exact LL.b, by rw [hT]; exact LL.a, by rw [hT]; exact LL.n⟩ hC (PySem.W.looks_findIn I.kIn T.init) (fun self => PySem.W.exc_bind hoI hcI self) (by show 1 ≤ sizeLine; decide) ?_)
  have rv : Vals [V.ref (hp.objs.size + 1), y] [Value.ref (hp.objs.size + 1), u] := .cons rfl (.cons ry .nil)
  have sp : spKeep C f [V.ref (hp.objs.size + 1), y] (upd H (hp.objs.size + 1) (ExG (.ref C) none (hp.objs.size + 1))) (fun v H2 => v = .non ∧ ∃ d, H d = none ∧ d ≠ hp.objs.size + 1 ∧ H2 = kept1 (upd H (hp.objs.size + 1) (ExG (.ref C) none (hp.objs.size + 1))) (hp.objs.size + 1) C d f y) (fun _ _ _ => False) :=
    ⟨_, y, rfl, upd_same, fun d hd hne => ⟨rfl, d, by rw [upd_ne hne] at hd; exact hd, hne, rfl⟩⟩
  have bb := hb ⟨(hp.push (PySem.W.kdv_tup [u])).push (PySem.HandSPX.excO C hp.objs.size), g, dr, tk, os⟩ [Value.ref (hp.objs.size + 1), u] I2.kIn (G.len _ _ _ _ sp)
  rw [List.append_nil] at bb
  refine codeAny_mono (G.run _ X.stack _ _ ⟨[.ref (hp.objs.size + 1), u], []⟩ [.ref (hp.objs.size + 1), u] _ _ _ (hr.make C [u] []) (I2.env0.make C [u] []) bb rv sp) fun r s' hq => ?_
  cases r with
  | error er =>
    obtain ⟨_, _, _, _, _, _, _, _, _, _, _, _, z⟩ := hq
    exact z.elim
  | ok fl =>
    cases fl with
    | ret u' =>
      obtain ⟨v, H2, o1, o2, o3, o4, rv', ev, d, hd, hne, e2⟩ := hq
      subst ev
      cases rv'
      exact ⟨rfl, h _ d _ s' I2 sz kp rfl nA hd hne ⟨.non, H2, o1, o2, o3, o4, rfl, e2⟩⟩
    | next => exact hq.elim
    | brk => exact hq.elim
    | cont => exact hq.elim
theorem kept1_twice {H : Hp} {a C d : Addr} {f : Str} {y : V} {o : HO} : kept1 (upd H a o) a C d f y = kept1 H a C d f y := by
  funext b
  unfold kept1
  by_cases hb : b = a
  · rw [hb, upd_same, upd_same]
  · rw [upd_ne hb, upd_ne hb]
    by_cases hd : b = d
    · rw [hd, upd_same, upd_same]
    · rw [upd_ne hd, upd_ne hd, upd_ne hb]
theorem pe_mkX {x : Str} {e : Expr} {te : TE} {p pos : Pos} (T : ExI X.K C i f) (G : FnOk X.prog X.w X.K X.mg X.base (L2.CX X.prog X.w) k i fd ps (spKeep C f)) (hb : Binds X.K fd ps []) (hr : Room (k + 1) X.A) (hg : Gl X x) (hm : X.mg x = some (.ref C)) (he : PE X e te)
    (hs : starEach [e] X.env = (false, eval e X.env) :: starEach [] X.env := by rfl) (hdb : (x == ("__debug__" : Str)) = false := by decide) :
    PE X (.Call (.Name x p) [e] [] pos) (fun σ H Q => te σ H fun y H1 => ∀ a d, H1 a = none → H1 d = none → d ≠ a → Q (.ref a) (kept1 H1 a C d f y)) := by
  refine ⟨fun pins s σ H Q I h => wpAny_Call_Name_kw (ld_glob I hg hm (PySem.W.callWith_K (h₀ := X.base) I.ok.mod.kin T.kp ?_ hs (by rfl)) hdb)⟩
  rw [hs]
  refine Calls.spliced_cons (thn (he.run pins s σ H _ I h) fun u s1 ⟨y, H1, I1, r1, q1⟩ => Calls.spliced_nil ⟨I1.kIn, ?_⟩)
  refine made_call T G hb hr I1 r1 fun a d s2 s' I2 _ _ _ na nd ne c => ?_
  obtain ⟨v, H2, o1, o2, o3, o4, rv, ev⟩ := c
  obtain ⟨v2, H2', I3, r3, e3⟩ := I2.after (Q := fun _ H2 => H2 = kept1 (upd H1 a (ExG (.ref C) none a)) a C d f y) ⟨v, H2, o1, o2, o3, o4, rv, ev⟩
  rw [kept1_twice] at e3
  rw [e3] at I3
  exact ⟨.ref a, _, I3, rfl, q1 a d na nd ne⟩
/-- the exception let go: its dict stands as it is -/
theorem let_go {a d : Addr} {s2 s' : Shared} (I : Inv X pins σ H s) (ha : s.heap.objs.size ≤ a) (kp : ∀ b o, s.heap.get? b = some o → s2.heap.get? b = some o) (ho : s2.os = s.os) (na : H a = none) (nd : H d = none) (ne : d ≠ a)
    (c : CE X.stack X.prog X.w (upd H a (ExG (.ref C) none a)) s2 (fun _ H2 => H2 = kept1 (upd H a (ExG (.ref C) none a)) a C d f y) .none s') :
    ∃ (oe : Obj) (vs : Array Value) (G : Heap), Inv X pins σ (upd H d (.xd [(f, y)])) { s' with heap := G } ∧ (∀ b o, G.get? b = some o → s'.heap.get? b = some o) ∧ G.get? a = none ∧ s'.heap.get? a = some oe ∧ Zc (.ref C) (some d) oe ∧ oe.data = .fields vs ∧ vs[1]? = some .none ∧ upd H d (.xd [(f, y)]) a = none ∧ AllBare s'.gens := by
  obtain ⟨v, H2, o1, o2, un, hok, rv, ev⟩ := c
  rw [kept1_twice] at ev
  subst ev
  obtain ⟨oe, vs, z1, z2, z3, z4, _, _⟩ := exg_at (d := some d) (cls := .ref C) hok (show kept1 H a C d f y a = some (ExG (.ref C) (some d) a) by unfold kept1; rw [upd_same])
  obtain ⟨G, g1, g2⟩ := restrict s'.heap fun b => decide (b ≠ a)
  have at_ : ∀ b, b ≠ a → G.get? b = s'.heap.get? b := fun b hb => g1 b (decide_eq_true hb)
  have gone : G.get? a = none := g2 a (by simp)
  have old : ∀ b o, s.heap.get? b = some o → b ≠ a := fun b o z => Nat.ne_of_lt (Nat.lt_of_lt_of_le (Heap.lt_size z) ha)
  have k0 : ∀ b, b ≠ a → kept1 H a C d f y b = upd H d (.xd [(f, y)]) b := fun b hb => by unfold kept1; rw [upd_ne hb]
  have u0 : ∀ b, b ≠ a → H b = none → upd H a (ExG (.ref C) none a) b = none := fun b hb n => by rw [upd_ne hb]; exact n
  have t0 : ∀ b v, H b = some v → b ≠ a := fun b v z q => by rw [q, na] at z; cases z
  have t1 : ∀ b v, H b = some v → upd H d (.xd [(f, y)]) b = some v := fun b v z => by rw [upd_ne (fun q => by rw [q, nd] at z; cases z)]; exact z
  have U : Un (frs X.stack) [] H (upd H d (.xd [(f, y)])) s.heap G := {
    keep := fun b o z n h1 h2 => (at_ b (old b o z)).trans (un.keep b o (kp b o z) (u0 b (old b o z) n) h1 h2)
    slot := fun b o z n h1 h2 => by
      obtain ⟨sl, q⟩ := un.slot b o (kp b o z) (u0 b (old b o z) n) h1 h2
      exact ⟨sl, (at_ b (old b o z)).trans q⟩
    free := fun b o z n h2 => (k0 b (old b o z)).symm.trans (un.free b o (kp b o z) (u0 b (old b o z) n) h2)
    there := fun b o z h2 => by
      obtain ⟨o', q⟩ := un.there b o (kp b o z) h2
      exact ⟨o', (at_ b (old b o z)).trans q⟩
    tups := fun b xs z => t1 b _ z
    frzs := fun b o u z => t1 b _ z
    tbls := fun b p z => ⟨#[], by rw [t1 b _ z]; simp⟩ }
  have ok : HOk X.prog X.w (upd H d (.xd [(f, y)])) G := fun b v z => by
    have hb : b ≠ a := fun q => by
      rw [q, upd_ne ne.symm, na] at z
      cases z
    have z' : kept1 H a C d f y b = some v := (k0 b hb).trans z
    refine (hok b v z').stay (fun c w hc q => ?_) (fun c hc => ?_) fun c xs hc => ?_
    · have hca : c ≠ a := by
        rcases hc with hc | hc
        · rw [hc]; exact hb
        · intro q2
          rw [q2] at hc
          unfold kept1 at hc
          rw [upd_same] at hc
          exact exg_own (Option.some.inj hc)
      exact (at_ c hca).trans q
    · have hca : c ≠ a := fun q2 => by
        rw [q2] at hc
        unfold kept1 at hc
        rw [upd_same] at hc
        exact exg_own (Option.some.inj hc)
      exact (k0 c hca).symm.trans hc
    · have hca : c ≠ a := fun q2 => by
        rw [q2] at hc
        unfold kept1 at hc
        rw [upd_same] at hc
        exact exg_tup (Option.some.inj hc)
      exact (k0 c hca).symm.trans hc
  have J := I.call' (s' := { s' with heap := G }) (ch := []) (o1.trans ho) U ok o2 (fun b z => absurd z (by simp))
  exact ⟨oe, vs, G, J, fun b o z => by
    by_cases hb : b = a
    · rw [hb, gone] at z
      cases z
    · exact (at_ b hb).symm.trans z, gone, z1, z2, z3, z4, by rw [upd_ne ne.symm]; exact na, o2⟩
theorem pmk_mkX {x : Str} {e : Expr} {te : TE} {p pos : Pos} (T : ExI X.K C i f) (G : FnOk X.prog X.w X.K X.mg X.base (L2.CX X.prog X.w) k i fd ps (spKeep C f)) (hb : Binds X.K fd ps []) (hr : Room (k + 1) X.A) (hg : Gl X x) (hm : X.mg x = some (.ref C)) (rs : Raises X (.ref C)) (he : PE X e te)
    (hs : starEach [e] X.env = (false, eval e X.env) :: starEach [] X.env := by rfl) (hdb : (x == ("__debug__" : Str)) = false := by decide) :
    PMk X (.Call (.Name x p) [e] [] pos) (fun σ H Q => te σ H fun y H1 => ∀ d, H1 d = none → Q (.ref C) (some d) (upd H1 d (.xd [(f, y)]))) := by
  intro pins s σ H Q I h
  refine wpAny_Call_Name_kw (ld_glob I hg hm (PySem.W.callWith_K (h₀ := X.base) I.ok.mod.kin T.kp ?_ hs (by rfl)) hdb)
  rw [hs]
  refine Calls.spliced_cons (thn (he.run pins s σ H _ I h) fun u s1 ⟨y, H1, I1, r1, q1⟩ => Calls.spliced_nil ⟨I1.kIn, ?_⟩)
  refine made_call T G hb hr I1 r1 fun a d s2 s' I2 ha kp ho na nd ne c => ?_
  obtain ⟨oe, vs, GG, J, k1, k2, k3, k4, k5, k6, k7, k8⟩ := let_go I1 ha kp ho na nd ne c
  exact ⟨a, oe, vs, _, _, .ref C, some d, rfl, J, k1, k2, k3, k4, k5, k6, k7, rfl, k8, rs, q1 d nd⟩
end
/-! ### as meanings -/
def eMkX (c : String) (f : Str) (fe : EF) : EF := fun ρ st => (fe ρ st).bind fun d st1 => .ok (.exc c [f] [d]) st1
def sRaiseX (c : String) (f : Str) (fe : EF) : SF := fun ρ st => bindS (fe ρ st) ρ fun d st1 => .exc c [(f, d)] ρ st1
section
variable {X : Cx} {W : WX} {k j : Nat} {g : Bool} {c : String} {C i : Addr} {f : Str} {fd : FuncData} {ps : List Str} {e : Expr} {fe : EF} {x : Str} {p pos pos' : Pos}
theorem se_mkX (hC : ClAt X.K c C) (T : ExI X.K C i f) (G : FnOk X.prog X.w X.K X.mg X.base (L2.CX X.prog X.w) j i fd ps (spKeep C f)) (hb : Binds X.K fd ps []) (cx : Ctx X W k g) (hg : Gl X x) (hm : X.mg x = some (.ref C)) (h : SE X W e fe) (hj : j + 1 ≤ k := by decide)
    (hs : starEach [e] X.env = (false, eval e X.env) :: starEach [] X.env := by rfl) (hdb : (x == ("__debug__" : Str)) = false := by decide) : SE X W (.Call (.Name x p) [e] [] pos) (eMkX c f fe) := by
  obtain ⟨t, pe, q⟩ := h
  refine ⟨_, pe_mkX T G hb (cx.room.mono hj) hg hm pe hs hdb, fun σ H ρ st m Q s r h => q σ H ρ st m _ s r (h.mp fun d st1 v H1 m1 e1 r1 p1 h1 => fun a dd na nd ne => ?_)⟩
  have x1 : Ext m1 H1 m1 (upd H1 dd (.xd [(f, v)])) := Ext.laid nd
  have r2 : Rl X.K m1 (upd H1 dd (.xd [(f, v)])) st1 := r1.laid nd
  have na2 : upd H1 dd (.xd [(f, v)]) a = none := by rw [upd_ne ne.symm]; exact na
  have x2 : Ext m1 (upd H1 dd (.xd [(f, v)])) m1 (kept1 H1 a C dd f v) := Ext.laid na2
  refine h1 _ _ m1 (x1.trans x2) (r2.laid na2) (.exc (dx := some dd) (vs := [v]) hC (by unfold kept1; rw [upd_same]) (r1.fresh na) ⟨rfl, ?_, r1.fresh nd⟩ ((RepL.cons p1 .nil).up (x1.trans x2)))
  show kept1 H1 a C dd f v dd = some (.xd [(f, v)])
  unfold kept1
  rw [upd_ne ne, upd_same]
theorem ss_raiseX (hC : ClAt X.K c C) (T : ExI X.K C i f) (G : FnOk X.prog X.w X.K X.mg X.base (L2.CX X.prog X.w) j i fd ps (spKeep C f)) (hb : Binds X.K fd ps []) (cx : Ctx X W k g) (hg : Gl X x) (hm : X.mg x = some (.ref C)) (h1 : PySem.W.subIn X.K (.ref C) (.type "BaseException") = some true) (h2 : PySem.W.typeIn X.K (.ref C) = some (.type "type")) (h : SE X W e fe) (hj : j + 1 ≤ k := by decide)
    (hs : starEach [e] X.env = (false, eval e X.env) :: starEach [] X.env := by rfl) (hdb : (x == ("__debug__" : Str)) = false := by decide) : SS X W (.Raise (some (.Call (.Name x p) [e] [] pos')) none pos) (sRaiseX c f fe) := by
  obtain ⟨t, pe, q⟩ := h
  refine ⟨_, ps_raise cx.calm cx.tk (pmk_mkX T G hb (cx.room.mono hj) hg hm (raises_own h1 h2) pe hs hdb), fun σ H ρ st m E s r h => q σ H ρ st m _ s r (PostS.mp h s fun d st1 v H1 m1 e1 r1 p1 h1 => fun dd nd => ?_)⟩
  have x1 : Ext m1 H1 m1 (upd H1 dd (.xd [(f, v)])) := Ext.laid nd
  exact h1 (.ref C) (some dd) σ _ m1 x1 (r1.laid nd) ((s.up e1).up x1) ⟨.inl ⟨C, hC, rfl⟩, .inr ⟨dd, [v], rfl, upd_same, r1.fresh nd, (RepL.cons p1 .nil).up x1⟩⟩
end
end DX

/-! DX T: try with several clauses, with and without a name -/
namespace DX
open PySem PySem.Spec PyProof.Rows L2
variable [TB0]
/-- the slot of a clause's name -/
def slotIn : Option Nat → L2.St → Option V → L2.St
  | none, σ, _ => σ
  | some i, σ, v => σ.set i v
/-- a clause: its class, the slot of its name, what its suite does -/
structure Cla where
  c : Value
  o : Option Nat
  ts : Addr → Value → Option Addr → TS
/-- behind a suite the name is gone -/
def outD (o : Option Nat) (D : Ends) : Ends := { nx := fun σ' H' => D.nx (slotIn o σ' none) H', rt := D.rt, bk := fun σ' H' => D.bk (slotIn o σ' none) H', ct := fun σ' H' => D.ct (slotIn o σ' none) H' }
def wCla (K : PySem.W.Frag) (Wout : WX) (D : Ends) : List Cla → WX
  | [] => Wout
  | k :: r => fun cls d σ H => ∃ b, PySem.W.exmOne K cls k.c = some b ∧ (b = true → ∀ a, H a = none → k.ts a cls d (outD k.o D) (slotIn k.o σ (some (.ref a))) H) ∧ (b = false → wCla K Wout D r cls d σ H)
/-- the name n, or none, stands at the slot o -/
def NameAt (X : Cx) : Option Str → Option Nat → Prop
  | none, none => True
  | some n, some i => X.N[i]? = some n ∧ X.env.kindOf n = some .local
  | _, _ => False
inductive ClaOk (X : Cx) : List ExceptHandler → List Cla → Prop
  | nil : ClaOk X [] []
  | cons {x : Str} {n : Option Str} {k : Cla} {b₀ : Stmt} {su : List Stmt} {p1 p2 : Pos} {hds : List ExceptHandler} {l : List Cla} (hc : Names X x k.c) (hn : NameAt X n k.o)
      (h : ∀ (a : Addr) (oe : Obj) (cls : Value) (d : Option Addr) (pn : List (Addr × Obj)), Zc cls d oe → (∃ vs, oe.data = .fields vs) → PSs (X.suite a ((a, oe) :: pn)) (b₀ :: su) (k.ts a cls d)) (r : ClaOk X hds l) :
      ClaOk X (.ExceptHandler (some (.Name x p1)) n (b₀ :: su) p2 :: hds) (k :: l)
section
variable {X : Cx} {body : List Stmt} {hds : List ExceptHandler} {l : List Cla} {pos : Pos} {tb : WX → TS} {Wout : WX}
theorem ps_tryC (hst : X.stack = X.env :: X.outer) (hfr : X.env.frame = some X.env.locals) (hN : X.N.Nodup) (tk : Takes X Wout) (hne : hds ≠ [])
    (hbody : ∀ (W : WX) (pn : List (Addr × Obj)) (xe : Value → Shared → Prop), Takes (X.tr pn xe) W → PassesOwn (model X.prog X.w) X.A X.env xe → PSs (X.tr pn xe) body (tb W)) (hh : ClaOk X hds l) :
    PS X (.Try body hds [] [] pos) (fun D σ H => tb (wCla X.K Wout D l) D σ H) := by
  obtain ⟨h₀, hds, rfl⟩ : ∃ h₀ r, hds = h₀ :: r := by
    cases hds with
    | nil => exact absurd rfl hne
    | cons a b => exact ⟨a, b, rfl⟩
  refine ⟨fun pins s σ H D I hq => ?_⟩
  have frames : X.A.frames = some (X.env :: X.outer) := I.ok.frames.trans (by rw [hst])
  refine wpAny_Try_except (wpAny_mono ((hbody (wCla X.K Wout D l) (X.pn ++ pins) (fun e s₁ => wpAny (model X.prog X.w) X.A (noteFrame e X.env) (fun _ s₂ => wpAny (model X.prog X.w) X.A (setFlight e none) (fun _ s₃ =>
    wpAny (model X.prog X.w) X.A (handleBy e X.env (h₀ :: hds)) (L2.SP X pins D) X.xe s₃) X.xe s₂) X.xe s₁) (fun u s' air => ?_) PassesOwn.looking).run [] s σ H D (I.toTry _) hq) (fun fl s1 hsp => ?_) fun _ _ he => he)
  · obtain ⟨a, B, sI, pins', σ', H', cls, d, rfl, J', nb, up, sky, na, os, ag, wish⟩ := air
    have J : Inv X pins σ' H' sI := J'.ofTry I.ok
    rw [hst] at sky
    refine (Sky.land (M := model X.prog X.w) Zc.steady frames hfr sky fun h3 fl3 up3 => ?_ : wpAny (model X.prog X.w) X.A (noteFrame (.ref a) X.env) _ _ _)
    have stays : ∀ {h : Heap} {o : Obj} {vs : Array Value}, h.FunFrames B (X.env :: X.outer) → h.get? a = some o → o.data = .fields vs → a ∉ frs (X.env :: X.outer) := fun {h o vs} ff z dd hm => by
      obtain ⟨_, o', z', hnf⟩ := ff.mem hm
      rw [z] at z'
      cases z'
      exact hnf _ dd
    obtain ⟨oe3, vs3, he3, hz3, hd3⟩ := fl3.there
    have far := stays fl3.2.2.1 he3 hd3
    have aL : a ≠ X.env.locals := fun z => far (List.mem_filterMap.mpr ⟨X.env, List.mem_cons_self, by rw [hfr, z]⟩)
    have aF : a ∉ X.fs := fun hm => by
      obtain ⟨e, he, q⟩ := List.mem_filterMap.mp hm
      exact far (List.mem_filterMap.mpr ⟨e, List.mem_cons_of_mem _ he, q⟩)
    have J3 : Inv X pins σ' H' { s' with heap := h3 } := J.landed nb fl3.1 (up.trans up3) os ag
    have S3 := J3.suite he3 hd3 na aL aF
    have LT : PySem.W.Looks (model X.prog X.w) h3 (typeOf (.ref a)) cls := fun A Q E s k q => wpAny_typeOf_ref (k _ _ he3) (by rw [hz3.1]; exact q)
    suffices go : ∀ {hd' : List ExceptHandler} {l' : List Cla}, ClaOk X hd' l' → wCla X.K Wout D l' cls d σ' H' → wpAny (model X.prog X.w) X.A (handleBy (.ref a) X.env hd') (L2.SP X pins D) X.xe { s' with heap := h3 } from go hh wish
    intro hd' l' ck
    induction ck with
    | nil =>
      intro wi
      obtain ⟨_, _, _, oe, vs, TT, _, _, he, _, hd, h1, _⟩ := id fl3
      refine wpAny_handleBy_nil ?_
      unfold PySem.passOn
      refine wpAny_bind (wpAny_field he hd h1 ?_)
      rw [if_neg (show ¬ ((Value.ref TT == Value.none) = true) by simp)]
      have last : wpAny (model X.prog X.w) X.A (setFlight (.ref a) X.env.frame) (fun _ s4 => wpAny (model X.prog X.w) X.A (throw (.ref a) : Sem Flow) (L2.SP X pins D) X.xe s4) X.xe { s' with heap := h3 } := by
        rw [hfr]
        exact HandSPX.setFlight_upZ fl3 fun h4 hh4 up4 => wpAny_throw (tk _ _ ⟨a, B, sI, pins, σ', H', cls, d, rfl, J, nb, (up.trans up3).trans up4, .inr (.inr (by rw [hst]; exact hh4)), na, os, ag, wi⟩)
      first
        | exact wpAny_bind last
        | exact wpAny_bind (wpAny_pure (wpAny_bind last))
    | @cons x n kl b₀ su p1 p2 hds2 l2 hc hn hsu r ih =>
      intro wi
      obtain ⟨b, hb1, yes, no⟩ := wi
      refine wpAny_handleBy_cons (codeAny_handlers_test ?_) (by intro q; cases q)
      have LM := PySem.W.exm_one (M := model X.prog X.w) J3.kIn LT hb1
      have name : ∀ {Q : Value → Shared → Prop} {E : Value → Shared → Prop}, Q kl.c { s' with heap := h3 } → wpAny (model X.prog X.w) (X.A.mark (some (.ref a))) (eval (.Name x p1) X.env) Q E { s' with heap := h3 } := fun {Q E} q => by
        obtain ⟨gl, nd, z | ⟨z, zb, zn⟩⟩ := hc
        · exact ld_glob (X := X.suite a ((a, oe3) :: (X.pn ++ pins))) S3 gl z q nd
        · exact ld_blt (X := X.suite a ((a, oe3) :: (X.pn ++ pins))) S3 gl z zb q zn nd
      refine name (LM.here ?_)
      cases b with
      | false =>
        show wpAny _ X.A (handleBy (.ref a) X.env hds2) _ _ _
        exact ih (no rfl)
      | true =>
        obtain ⟨kc, ko, kts⟩ := kl
        cases n with
        | none =>
          cases ko with
          | some i => exact hn.elim
          | none =>
            refine codeAny_handlers_suite (HandSPX.lands_againZ fl3 fun h4 fl4 up4 => ?_)
            have J4 : Inv X pins σ' H' { s' with heap := h4 } := J.landed nb fl4.1 ((up.trans up3).trans up4) os ag
            obtain ⟨oe4, vs4, he4, hz4, hd4⟩ := fl4.there
            refine wpAny_mono ((hsu a oe4 cls d (X.pn ++ pins) hz4 ⟨_, hd4⟩).run [] _ _ H' _ (J4.suite he4 hd4 na aL aF) (yes rfl a na)) (fun fl s6 hsp => ?_) fun _ _ z => z.elim
            cases fl with
            | next => exact let ⟨_, _, S6, q6⟩ := hsp; ⟨_, _, S6.unsuite I.ok, q6⟩
            | brk => exact let ⟨_, _, S6, q6⟩ := hsp; ⟨_, _, S6.unsuite I.ok, q6⟩
            | cont => exact let ⟨_, _, S6, q6⟩ := hsp; ⟨_, _, S6.unsuite I.ok, q6⟩
            | ret u => exact let ⟨_, _, _, S6, r6, q6⟩ := hsp; ⟨_, _, _, S6.unsuite I.ok, r6, q6⟩
        | some n =>
          cases ko with
          | none => exact hn.elim
          | some i =>
            obtain ⟨hi, hl⟩ := hn
            refine codeAny_handlers_suite_as (HandSPX.lands_againZ fl3 fun h4 fl4 up4 => ?_)
            have J4 : Inv X pins σ' H' { s' with heap := h4 } := J.landed nb fl4.1 ((up.trans up3).trans up4) os ag
            obtain ⟨oe4, vs4, he4, hz4, hd4⟩ := fl4.there
            refine store_ok (X := X.suite a ((a, oe4) :: (X.pn ++ pins))) (v := .ref a) (J4.suite he4 hd4 na aL aF) hN hi (.inl hl) rfl (fun s5 S5 => ?_) (.inr hl)
            refine wpAny_mono ((hsu a oe4 cls d (X.pn ++ pins) hz4 ⟨_, hd4⟩).run [] s5 _ H' _ S5 (yes rfl a na)) (fun fl s6 hsp => ?_) fun _ _ z => z.elim
            have gone : ∀ {σ6 : L2.St} {H6 : Hp} {Q : Shared → Prop}, Inv (X.suite a ((a, oe4) :: (X.pn ++ pins))) [] σ6 H6 s6 → (∀ s7, Inv X pins (σ6.set i none) H6 s7 → Q s7) →
                wpAny (model X.prog X.w) X.A (do bindName X.env n .none; unbindBehindTheSuite X.env n p2) (fun _ s7 => Q s7) X.xe s6 := fun S6 hq => gone_ok (S6.unsuite I.ok) hN hi hl hq
            cases fl with
            | next => exact let ⟨_, _, S6, q6⟩ := hsp; gone S6 fun s7 J7 => ⟨_, _, J7, q6⟩
            | brk => exact let ⟨_, _, S6, q6⟩ := hsp; gone S6 fun s7 J7 => ⟨_, _, J7, q6⟩
            | cont => exact let ⟨_, _, S6, q6⟩ := hsp; gone S6 fun s7 J7 => ⟨_, _, J7, q6⟩
            | ret u => exact let ⟨_, _, _, S6, r6, q6⟩ := hsp; gone S6 fun s7 J7 => ⟨_, _, _, J7, r6, q6⟩
  · cases fl with
    | next => exact let ⟨σ', H', J', q⟩ := hsp; wpAny_execs_nil ⟨σ', H', J'.ofTry I.ok, q⟩
    | brk => exact let ⟨σ', H', J', q⟩ := hsp; ⟨σ', H', J'.ofTry I.ok, q⟩
    | cont => exact let ⟨σ', H', J', q⟩ := hsp; ⟨σ', H', J'.ofTry I.ok, q⟩
    | ret u => exact let ⟨v, σ', H', J', r, q⟩ := hsp; ⟨v, σ', H', J'.ofTry I.ok, r, q⟩
end
/-! ### what the suite of a clause with a name says of the caught exception -/
/-- e means f wherever P holds -/
structure SEx (X : Cx) (W : WX) (P : L2.St → Hp → Mp → Prop) (e : Expr) (f : EF) : Prop where
  ex : ∃ t : TE, PE X e t ∧ ∀ σ H ρ st m Q, P σ H m → SR X.K H m σ ρ → Rl X.K m H st → Post X W m H σ Rep Q (f ρ st) → t σ H Q
/-- slot i holds the exception a, whose dict is at d: its field f is df -/
def PXf (K : PySem.W.Frag) (i : Nat) (a : Addr) (d : Option Addr) (f : Str) (df : D) (σ : L2.St) (H : Hp) (m : Mp) : Prop :=
  σ[i]? = some (some (.ref a)) ∧ ∃ dd fs v, d = some dd ∧ H dd = some (.xd fs) ∧ m.out dd ∧ fs.lookup f = some v ∧ Rep K H m v df
theorem PXf.up {K : PySem.W.Frag} {i : Nat} {a : Addr} {d : Option Addr} {f : Str} {df : D} {σ : L2.St} {H H' : Hp} {m m' : Mp} (h : PXf K i a d f df σ H m) (e : Ext m H m' H') : PXf K i a d f df σ H' m' := by
  obtain ⟨h1, dd, fs, v, h2, h3, h4, h5, h6⟩ := h
  exact ⟨h1, dd, fs, v, h2, e.old dd _ h3 h4.1 (fun _ z => nomatch z), e.out h3 h4, h5, h6.up e⟩
section
variable {X : Cx} {W : WX} {P : L2.St → Hp → Mp → Prop} {a b e : Expr} {fa fb : EF} {pos : Pos}
theorem sx_se (h : SE X W e fa) : SEx X W P e fa := let ⟨t, p, q⟩ := h; ⟨t, p, fun σ H ρ st m Q _ => q σ H ρ st m Q⟩
theorem sx_op {op : Operator} {o : B2} (hP : ∀ σ H m H' m', P σ H m → Ext m H m' H' → P σ H' m') (ho : OpD X (binaryOp op) o) (ha : SEx X W P a fa) (hb : SEx X W P b fb) : SEx X W P (.BinOp a op b pos) (eOp o fa fb) := by
  obtain ⟨r, hr, hro⟩ := ho
  obtain ⟨ta, pa, qa⟩ := ha
  obtain ⟨tb, pb, qb⟩ := hb
  refine ⟨_, pe_op hr pa pb, fun σ H ρ st m Q hp s rl h => qa σ H ρ st m _ hp s rl (h.mp fun x st1 v H1 m1 e1 r1 p1 h1 => qb σ H1 ρ st1 m1 _ (hP _ _ _ _ _ hp e1) (s.up e1) r1 (h1.mp fun y st2 w H2 m2 e2 r2 p2 h2 => ?_))⟩
  cases q : o st2 x y with
  | none => rw [q] at h2; exact h2.elim
  | some d => rw [q] at h2; exact hro H2 m2 st2 v w x y d Q r2 (p1.up e2) p2 q h2
theorem sx_call1 {x : Str} {p : Pos} {id : String} {o : Store → List D → Option D} (hc : CallD X (.builtin id) o) (hg : Gl X x) (hm : X.mg x = none) (hb : bootBuiltins x = some (.builtin id)) (ha : SEx X W P e fa)
    (h1 : x ≠ ("__name__" : Str) := by decide) (h2 : (x == ("__debug__" : Str)) = false := by decide) (h3 : starEach [e] X.env = (false, eval e X.env) :: starEach [] X.env := by rfl) (h4 : (backTo pos (starEach [] X.env)).any (·.1) = false := by rfl) :
    SEx X W P (.Call (.Name x p) [e] [] pos) (aCall o (aCons fa aNil)) := by
  obtain ⟨r, hr, hro⟩ := hc
  obtain ⟨t, pe, q⟩ := ha
  refine ⟨_, pe_callB hr hg hm hb (pa_cons pe pa_nil h3) h1 h2 h3 h4, fun σ H ρ st m Q hp s rl h => q σ H ρ st m _ hp s rl ?_⟩
  have h' : Post X W m H σ Rep Q ((fa ρ st).bind fun d st1 => Res.of (o st1 [d]) st1) := by
    unfold aCall aCons aNil at h
    cases z : fa ρ st with
    | ok d st1 => rw [z] at h; exact h
    | exc c fs st1 => rw [z] at h; exact h
    | bad => rw [z] at h; exact h
  refine h'.mp fun d st1 v H1 m1 e1 r1 p1 h1 => ?_
  cases y : o st1 [d] with
  | none => rw [y] at h1; exact h1.elim
  | some dr => rw [y] at h1; exact hro H1 m1 st1 [v] [d] dr Q r1 (.cons p1 .nil) y h1
end
theorem sx_att {X : Cx} {W : WX} {i : Nat} {a C : Addr} {oe : Obj} {d : Option Addr} {pn : List (Addr × Obj)} {n f : Str} {df : D} {p1 pos : Pos} (T : XfC X.K C) (hno : PySem.W.findIn X.K (.ref C) f = some none) (hz : Zc (.ref C) d oe) (hf : ∃ vs, oe.data = .fields vs)
    (hN : X.N[i]? = some n) (hv : Vis X.env.scope n) (hd : (n == ("__debug__" : Str)) = false := by decide) (hcd : (n == ("__classdict__" : Str)) = false := by decide)
    (hb : attributeBase (.Name n p1) f (X.suite a ((a, oe) :: pn)).env (eval (.Name n p1) (X.suite a ((a, oe) :: pn)).env) = eval (.Name n p1) (X.suite a ((a, oe) :: pn)).env := by rfl) :
    SEx (X.suite a ((a, oe) :: pn)) W (PXf X.K i a d f df) (.Attribute (.Name n p1) f pos) (eC df) := by
  refine ⟨_, pe_xf (cls := .ref C) (d := d) T hno hz hf (pe_var (i := i) hN hv hd hcd) hb, fun σ H ρ st m Q hp s rl h => ?_⟩
  obtain ⟨h1, dd, fs, v, h2, h3, h4, h5, h6⟩ := hp
  exact ⟨.ref a, h1, rfl, rfl, dd, fs, v, h2, h3, h5, h.go rl h6⟩
/-! ### try, its clauses one after another -/
/-- what the suite 'return e' of a clause with a name does, where e speaks of the exception's field f -/
def suN (i : Nat) (f : Str) (fe : D → EF) : List (Str × D) → SF := fun fs ρ st => if i < ρ.length then match fs.lookup f with
  | some df => match fe df (ρ.set i none) st with
    | .ok d st' => .rt d st'
    | _ => .bad
  | none => .bad
  else .bad
inductive HdD (X : Cx) (k : Nat) (g : Bool) : List ExceptHandler → List Hd → Prop
  | nil : HdD X k g [] []
  | plain {x : Str} {cv : Value} {hs : String → Option Bool} {f : SF} {b₀ : Stmt} {su : List Stmt} {p1 p2 : Pos} {hds : List ExceptHandler} {l : List Hd} (hc : Names X x cv) (ht : Catches X.K cv hs)
      (h : ∀ (a : Addr) (pn : List (Addr × Obj)), CxS (X.suite a pn) k g → SSs (X.suite a pn) W0 (b₀ :: su) f) (r : HdD X k g hds l) : HdD X k g (.ExceptHandler (some (.Name x p1)) none (b₀ :: su) p2 :: hds) (⟨hs, fun _ => f⟩ :: l)
  | named {x n f : Str} {c : String} {C : Addr} {i : Nat} {hs : String → Option Bool} {fe : D → EF} {e : Expr} {p1 p2 p3 : Pos} {hds : List ExceptHandler} {l : List Hd} (hc : Names X x (.ref C)) (ht : Catches X.K (.ref C) hs) (hC : ClAt X.K c C) (one : ∀ c', hs c' = some true → c' = c)
      (hi : X.N[i]? = some n) (hl : X.env.kindOf n = some .local)
      (h : ∀ (a : Addr) (oe : Obj) (d : Option Addr) (df : D) (pn : List (Addr × Obj)), CxS (X.suite a ((a, oe) :: pn)) k g → Zc (.ref C) d oe → (∃ vs, oe.data = .fields vs) → SEx (X.suite a ((a, oe) :: pn)) W0 (PXf X.K i a d f df) e (fe df)) (r : HdD X k g hds l) :
      HdD X k g (.ExceptHandler (some (.Name x p1)) (some n) [.Return (some e) p3] p2 :: hds) (⟨hs, suN i f fe⟩ :: l)
theorem SR.drop {K : PySem.W.Frag} {H : Hp} {m : Mp} {σ : L2.St} {ρ : Sl} (s : SR K H m σ ρ) (i : Nat) (v : Option V) : SR K H m (σ.set i v) (ρ.set i none) := ⟨by simp [s.len], fun j d h => by
  by_cases e : i = j
  · subst e
    rw [List.getElem?_set] at h
    by_cases hl : i < ρ.length
    · simp [hl] at h
    · simp [hl] at h
  · rw [List.getElem?_set_ne e] at h
    obtain ⟨w, h1, h2⟩ := s.get j d h
    exact ⟨w, by rw [List.getElem?_set_ne e]; exact h1, h2⟩⟩
section
variable {X : Cx} {W : WX} {k : Nat} {g : Bool}
theorem hdd_ok (su : ∀ (a : Addr) (pn : List (Addr × Obj)), CxS (X.suite a pn) k g) : ∀ {hds : List ExceptHandler} {l : List Hd}, HdD X k g hds l → ∃ cl, ClaOk X hds cl ∧ ∀ (cn : String) (fs : List (Str × D)) (ρ1 : Sl) (st1 : Store) (m1 : Mp) (H1 : Hp) (σ1 : L2.St) (cls : Value) (dc : Option Addr) (D : Ends),
    PostS X W m1 H1 D (sHands cn fs l ρ1 st1) → Rl X.K m1 H1 st1 → SR X.K H1 m1 σ1 ρ1 → XRep X.K H1 m1 cls dc cn fs → wCla X.K W D cl cls dc σ1 H1 := by
  intro hds l hh
  induction hh with
  | nil => exact ⟨[], .nil, fun cn fs ρ1 st1 m1 H1 σ1 cls dc D h r s x => h cls dc σ1 H1 m1 (Ext.refl m1 H1) r s x⟩
  | @plain x cv hs f b₀ sus p1 p2 hds l hc ht h r ih =>
    obtain ⟨cl, ok, q⟩ := ih
    refine ⟨⟨cv, none, fun _ _ _ => tSS X W0 f⟩ :: cl, .cons hc True.intro (fun a oe cls d pn _ _ => (h a ((a, oe) :: pn) (su a _)).pss) ok, fun cn fs ρ1 st1 m1 H1 σ1 cls dc D hp r1 s1 x1 => ?_⟩
    unfold sHands at hp
    dsimp only at hp
    cases y : hs cn with
    | none => rw [y] at hp; exact hp.elim
    | some bb =>
      rw [y] at hp
      refine ⟨bb, ht cn cls bb x1.1 y, fun hbb a _ => ?_, fun hbb => ?_⟩
      · subst hbb
        refine ⟨ρ1, st1, m1, s1, r1, ?_⟩
        dsimp only at hp
        cases w : f ρ1 st1 with
        | exc cn2 fs2 ρ2 st2 => rw [w] at hp; exact hp.elim
        | nx ρ2 st2 => rw [w] at hp; exact hp
        | bk ρ2 st2 => rw [w] at hp; exact hp
        | ct ρ2 st2 => rw [w] at hp; exact hp
        | rt d st2 => rw [w] at hp; exact hp
        | bad => rw [w] at hp; exact hp
      · subst hbb
        exact q cn fs ρ1 st1 m1 H1 σ1 cls dc D hp r1 s1 x1
  | @named x n f c C i hs fe e p1 p2 p3 hds l hc ht hC one hi hl h r ih =>
    obtain ⟨cl, ok, q⟩ := ih
    refine ⟨⟨.ref C, some i, fun a cls d D σ H => ∃ df ρ st m, cls = .ref C ∧ PXf X.K i a d f df σ H m ∧ SR X.K H m σ ρ ∧ Rl X.K m H st ∧ Post X W0 m H σ Rep D.rt (fe df ρ st)⟩ :: cl, .cons hc ⟨hi, hl⟩ (fun a oe cls d pn hz hf => ?_) ok, fun cn fs ρ1 st1 m1 H1 σ1 cls dc D hp r1 s1 x1 => ?_⟩
    · refine ⟨fun pins s σ H D I hq => ?_⟩
      obtain ⟨df, ρ, st, m, rfl, hP, hs', hr, hpost⟩ := hq
      obtain ⟨t, pe, qq⟩ := h a oe d df pn (su a _) hz hf
      exact (pss_one (ps_ret pe)).run pins s σ H D I (qq σ H ρ st m _ hP hs' hr hpost)
    · unfold sHands at hp
      dsimp only at hp
      cases y : hs cn with
      | none => rw [y] at hp; exact hp.elim
      | some bb =>
        rw [y] at hp
        refine ⟨bb, ht cn cls bb x1.1 y, fun hbb a ha => ?_, fun hbb => ?_⟩
        · subst hbb
          obtain rfl := one cn y
          unfold suN at hp
          dsimp only at hp
          have hi2 : i < ρ1.length := by
            by_cases hl' : i < ρ1.length
            · exact hl'
            · rw [if_neg hl'] at hp
              exact hp.elim
          rw [if_pos hi2] at hp
          cases z : fs.lookup f with
          | none => rw [z] at hp; exact hp.elim
          | some df =>
            rw [z] at hp
            dsimp only at hp
            obtain ⟨xc, xf⟩ := x1
            have ecl : cls = .ref C := by
              rcases xc with ⟨C', h1, h2⟩ | ⟨h1, h2⟩
              · rw [h2, hC.eq h1]
              · unfold ClAt at hC
                rw [hC] at h1
                cases h1
            rcases xf with xf | ⟨d, vs, e1, e2, e3, e4⟩
            · rw [xf] at z
              cases z
            · have hz : ((fs.map (·.1)).zip (fs.map (·.2))).lookup f = some df := by
                rw [show (fs.map (·.1)).zip (fs.map (·.2)) = fs by
                  rw [List.zip_map']
                  simp]
                exact z
              obtain ⟨v, hv1, hv2⟩ := RepL.look e4 hz
              have hlen : i < σ1.length := by
                rw [s1.len]
                exact hi2
              refine ⟨df, ρ1.set i none, st1, m1, ecl, ⟨by show (σ1.set i (some (V.ref a)))[i]? = _; rw [List.getElem?_set]; simp [hlen], d, _, v, e1, e2, e3, hv1, hv2⟩, s1.drop i _, r1, ?_⟩
              cases w : fe df (ρ1.set i none) st1 with
              | ok dr st2 => rw [w] at hp; exact hp
              | exc cn2 fs2 st2 => rw [w] at hp; exact hp.elim
              | bad => rw [w] at hp; exact hp.elim
        · subst hbb
          exact q cn fs ρ1 st1 m1 H1 σ1 cls dc D hp r1 s1 x1
theorem ss_tryC {body : List Stmt} {hds : List ExceptHandler} {l : List Hd} {pos : Pos} {b : SF} (cx : Cxt X W k g) (hne : hds ≠ [])
    (hb : ∀ (W' : WX) (pn : List (Addr × Obj)) (xe : Value → Shared → Prop), Cxt (X.tr pn xe) W' k g → SSs (X.tr pn xe) W' body b) (hh : HdD X k g hds l) : SS X W (.Try body hds [] [] pos) (sTry b l) := by
  obtain ⟨cl, ok, q⟩ := hdd_ok (W := W) (fun a pn => cx.su a pn) hh
  refine ⟨_, ps_tryC cx.st cx.fr cx.nd cx.tk hne (tb := fun W' => tSS X W' b) (fun W' pn xe tk po => (hb W' pn xe (cx.tr tk po)).pss) ok, fun σ H ρ st m E s r h => ⟨ρ, st, m, s, r, ?_⟩⟩
  unfold sTry at h
  cases z : b ρ st with
  | nx ρ1 st1 => rw [z] at h; exact h
  | bk ρ1 st1 => rw [z] at h; exact h
  | ct ρ1 st1 => rw [z] at h; exact h
  | rt d st1 => rw [z] at h; exact h
  | bad => rw [z] at h; exact h
  | exc cn fs ρ1 st1 =>
    rw [z] at h
    intro cls dc σ1 H1 m1 e1 r1 s1 x1
    exact q cn fs ρ1 st1 m1 H1 σ1 cls dc E (PostS.up h e1) r1 s1 x1
end
end DX

/-! DX A: a lambda without parameters, handed to a def that calls it once in a try -/
namespace DX
open PySem PySem.Spec PyProof.Rows L2
variable [TB0]
section
variable {X : Cx} {pins : List (Addr × Obj)} {σ : L2.St} {H : Hp} {s : Shared} {m : Mp} {st : Store}
/-- the lambda is made: its code object is new, or found in the table -/
theorem lam3 {c P : Addr} {params : Arguments} {body : Expr} {scope : Scope} {pos : Pos} {E : Value → Shared → Prop} {Q : Value → Shared → Prop} (I : Inv X pins σ H s) (r : Rl X.K m H st) (TB : LamX.TabB X.base X.mg c P) (hcode : X.env.code = .ref c)
    (hm : (P, X.env.qual ++ "<lambda>") ∈ TB0.tb) (hu : ∀ p ∈ TB0.tb, p.1 = P → p.2 = X.env.qual ++ "<lambda>") (hdef : defaultsOf params X.env = ([], [])) (hfree : ∀ y ∈ scope.names, y.2 = .free → ∃ c, X.env.cells.lookup y.1 = some c)
    (h : ∀ (f c' : Addr) (pm ctv : Value) (H1 : Hp) (s' : Shared), Inv X pins σ H1 s' → Ext m H m H1 → Rl X.K m H1 st →
      s'.heap.get? f = some (PySem.W.kla_obj "<lambda>" (X.env.qual ++ "<lambda>") params body scope (cloFrom X.env.cells scope.names []) pm c' ctv) → H1 f = none → f ∉ frs X.stack → H1 c' = some (LamX.CodeO c' (X.env.qual ++ "<lambda>")) → m.out c' → Q (.ref f) s') :
    wpAny (model X.prog X.w) X.A (eval (.Lambda params body scope pos) X.env) Q E s := by
  obtain ⟨oP, ps, hP, ht, ha⟩ := r.tbs _ (by rw [r.tk]; exact hm)
  refine PySem.W.kla_eval hdef ?_
  have hP' : s.heap.get? P = some { cls := .none, data := .fields ps } := I.hok P _ hP
  have off : ∀ f, s.heap.objs.size ≤ f → f ∉ frs X.stack := fun f hf z => (List.mem_cons.mp (I.stkSub _ z)).elim (fun e => absurd (Nat.lt_of_lt_of_le (e ▸ I.lt) hf) (Nat.lt_irrefl _)) fun e => I.nofs hf e
  cases hc : codeAmong pos ps.toList with
  | some cv =>
    obtain ⟨c', e, hco, oc⟩ := ha pos cv hc
    subst e
    refine PySem.W.kla_makeFunctionHit (mg := X.mg) (c := c) (P := P) (ps := ps) (closure_ok hfree) I.ok.glob (I.mod.glob.keeps I.bk) hcode (TB.code.keeps I.bk) hP' ht hc (TB.bm.keeps I.bk) fun ctv h' tk hx hsz => ?_
    have I1 : Inv X pins σ H { s with heap := h'.push (PySem.W.kla_obj "<lambda>" (X.env.qual ++ "<lambda>") params body scope (cloFrom X.env.cells scope.names []) ((X.mg "__name__").getD .none) c' ctv), toks := tk } := I.kept fun b o e => Heap.get?_push_of_some _ (hx b o e)
    exact h h'.objs.size c' ((X.mg "__name__").getD .none) ctv H _ I1 (Ext.refl m H) r (Heap.get?_push_size _ rfl) (I.hok.fresh hsz) (off _ hsz) hco oc
  | none =>
    refine PySem.W.kla_makeFunction (mg := X.mg) (c := c) (P := P) (ps := ps) (closure_ok hfree) I.ok.glob (I.mod.glob.keeps I.bk) hcode (TB.code.keeps I.bk) hP' ht hc TB.gP (TB.bm.keeps I.bk) fun c' ctv h' tk hx hge hlt hrec htb => ?_
    obtain ⟨c2, oc, vs, t, e2, hoc, hd, hv⟩ := hrec
    cases e2
    have hsz : s.heap.objs.size ≤ h'.objs.size := Nat.le_trans hge (Nat.le_of_lt hlt)
    have nC : H c' = none := I.hok.fresh hge
    have nPc : P ≠ c' := ne_of_none hP nC
    let T1 : HO := .tbl (ps ++ #[rawInt pos.line, rawInt pos.col, .ref c'])
    let C1 : HO := LamX.CodeO c' (X.env.qual ++ "<lambda>")
    have I1 : Inv X pins σ (upd (upd H P T1) c' C1) _ := LamX.inv_table (t' := tk) (more := #[rawInt pos.line, rawInt pos.col, .ref c']) (h' := h'.push (PySem.W.kla_obj "<lambda>" (X.env.qual ++ "<lambda>") params body scope (cloFrom X.env.cells scope.names []) ((X.mg "__name__").getD .none) c' ctv)) I hP
      (fun b o hb e => Heap.get?_push_of_some _ (hx b o hb e)) (Heap.get?_push_of_some _ htb) hge ⟨oc, vs, t, Heap.get?_push_of_some _ hoc, hd, hv⟩
    have old : ∀ b o, H b = some o → (∀ ps, o ≠ .tbl ps) → upd (upd H P T1) c' C1 b = some o := fun b o e n => by
      rw [upd_ne (ne_of_none e nC), upd_ne (fun z => n ps (Option.some.inj (e.symm.trans (by rw [z]; exact hP))))]
      exact e
    have x1 : Ext m H m (upd (upd H P T1) c' C1) := ⟨List.prefix_refl _, fun b o e _ n => old b o e n, fun _ h1 h2 => absurd h1 h2, fun _ z => .inl z, fun _ z => z, fun b z => tr_upd (tr_upd z), rfl⟩
    have nM : ∀ b ∈ m.m, b ≠ P ∧ b ≠ c' := fun b hb => ⟨fun z => oP.1 (z ▸ hb), fun z => r.tr b hb (z ▸ nC)⟩
    have r1 : Rl X.K m (upd (upd H P T1) c' C1) st := by
      refine ⟨r.nd, r.len, fun n u a h1 h2 => (r.ob n u a h1 h2).ext x1 ?_, fun b hb => tr_upd (tr_upd (r.tr b hb)), fun b hb => tr_upd (tr_upd (r.trx b hb)), r.dj, fun p hp => ?_, r.tk⟩
      · obtain ⟨n1, n2⟩ := nM a (List.mem_of_getElem? h2)
        rw [upd_ne n2, upd_ne n1]
      · obtain ⟨q1, qs, q2, q3, q4⟩ := r.tbs p hp
        have q1' : m.out p.1 := q1
        by_cases hb : p.1 = P
        · have eqs : qs = ps := by
            rw [hb, hP] at q2
            cases q2
            rfl
          subst eqs
          have eL : (qs ++ #[rawInt pos.line, rawInt pos.col, .ref c']).toList = qs.toList ++ [rawInt pos.line, rawInt pos.col, .ref c'] := by simp
          refine ⟨q1, _, by rw [hb, upd_ne nPc, upd_same], by rw [eL]; exact PySem.TriplesOk_snoc _ _ _ _ q3, fun p' cv hcv => ?_⟩
          rw [eL] at hcv
          rcases LamX.among_app _ q3 hcv with z | z
          · obtain ⟨c0, e1, e2, e3⟩ := q4 p' cv z
            exact ⟨c0, e1, old _ _ e2 (fun ps => LamX.codeO_ne ps), e3⟩
          · refine ⟨c', z, ?_, r.fresh nC⟩
            rw [upd_same, hu p (by rw [← r.tk]; exact hp) hb]
        · refine ⟨q1, qs, by rw [upd_ne (ne_of_none q2 nC), upd_ne hb]; exact q2, q3, fun p' cv hcv => ?_⟩
          obtain ⟨c0, e1, e2, e3⟩ := q4 p' cv hcv
          exact ⟨c0, e1, old _ _ e2 (fun ps => LamX.codeO_ne ps), e3⟩
    refine h h'.objs.size c' ((X.mg "__name__").getD .none) ctv _ _ I1 x1 r1 (Heap.get?_push_size _ rfl) ?_ (off _ hsz) upd_same (r.fresh nC)
    have n1 : h'.objs.size ≠ c' := Nat.ne_of_gt hlt
    have n2 : h'.objs.size ≠ P := Nat.ne_of_gt (Nat.lt_of_lt_of_le (Heap.lt_size hP') hsz)
    rw [upd_ne n1, upd_ne n2]
    exact I.hok.fresh hsz
end
/-! ### the def that calls it -/
/-- met(lambda: ..): what the lambda does, caught by the clauses l; nm: how many slots the def has -/
def eMet (l : List Hd) (nm : Nat) (fe : EF) : EF := fun ρ st => match fe ρ st with
  | .ok d st' => .ok d st'
  | .exc c fs st' => match sHands c fs l (List.replicate nm none) st' with
    | .rt d st'' => .ok d st''
    | _ => .bad
  | .bad => .bad
/-- the def x has one parameter, which it calls in a try, and returns what that gives; its clauses are l -/
structure MetOk (P : Program) (w : World) (K : PySem.W.Frag) (mg : Str → Option Value) (base : Heap) (x : Str) (kk : Nat) (g : Bool) (l : List Hd) (nm : Nat) : Prop where
  ex : ∃ (f : Addr) (fd : FuncData) (a : Str) (dst : Stmt) (Ng : List Str) (p1 p2 p3 p4 : Pos) (hds : List ExceptHandler), mg x = some (.ref f) ∧ PySem.W.keepIn K (.ref f) = true ∧ Fun K x x dst f fd ∧ FnScope Ng [a] (defScope dst) ∧ Ng.length = nm ∧ Ng[0]? = some a ∧ Vis (defScope dst) a ∧
    (a == ("__debug__" : Str)) = false ∧ (a == ("__classdict__" : Str)) = false ∧ Binds K fd [a] [] ∧ defBody dst = [.Try [.Return (some (.Call (.Name a p1) [] [] p2)) p3] hds [] [] p4] ∧ hds ≠ [] ∧
    ∀ (cdv : Value) (A : Around) (stack : List Env) (s : Shared) (H : Hp), HdD (cxOf C8.CX0 P w K mg base Ng x (defScope dst) f cdv A stack s H C8.E0).nox kk g hds l
section
variable {X : Cx} {W : WX} {k kk j : Nat} {g gm : Bool} {l : List Hd} {nm : Nat} {x : Str} {fe : EF}
/-- a wish may be had where the slots have their number -/
theorem takes_len {X : Cx} {W : WX} (tk : Takes X W) : Takes X (fun cls d σ H => σ.length = X.N.length → W cls d σ H) := fun u s' ⟨a, B, sI, pins, σ, H, cls, d, e, I, nb, up, sky, na, os, ag, w⟩ =>
  tk u s' ⟨a, B, sI, pins, σ, H, cls, d, e, I, nb, up, sky, na, os, ag, w I.len⟩
theorem se_lam {c P : Addr} {params : Arguments} {body : Expr} {scope : Scope} {p lpos pos : Pos} (M : MetOk X.prog X.w X.K X.mg X.base x kk gm l nm) (cx : Ctx X W k g) (hg : Gl X x) (TB : LamX.TabB X.base X.mg c P) (hcode : X.env.code = .ref c)
    (hm : (P, X.env.qual ++ "<lambda>") ∈ TB0.tb) (hu : ∀ p ∈ TB0.tb, p.1 = P → p.2 = X.env.qual ++ "<lambda>") (L : LamX.LamS X.env.scope scope) (hdef : defaultsOf params X.env = ([], []))
    (hbind : ∀ (q : Str) (cl : List (Str × Addr)) (pm cv ctv : Value), bindArgs (PySem.W.kla_fn "<lambda>" q params body scope cl pm cv ctv) ⟨[], []⟩ = pure [])
    (hbody : ∀ (A : Around) (outer : List Env) (s : Shared) (H : Hp) (E : XK) (f c' : Addr), Ctx (LamX.lamCx X A outer s H E scope f c') (fun cls d _ H' => E cls d H') j false → SE (LamX.lamCx X A outer s H E scope f c') (fun cls d _ H' => E cls d H') body fe)
    (hj : j + 2 ≤ k := by decide) (hk : kk + 1 ≤ k := by decide) (hgg : gm = true → g = true := by decide) (hdb : (x == ("__debug__" : Str)) = false := by decide) :
    SE X W (.Call (.Name x p) [.Lambda params body scope lpos] [] pos) (eMet l nm fe) := by
  obtain ⟨f0, fd, a, dst, Ng, q1, q2, q3, q4, hds, mgx, kp, F, S, hNg, hN0, hva, hd1, hd2, hb, hbo, hne, hdd⟩ := M.ex
  refine ⟨tSE X W (eMet l nm fe), ⟨fun pins s σ H Q I h => ?_⟩, fun σ H ρ st m Q s r h => ?_⟩
  · obtain ⟨ρ, st, m, hs, hr, hpost⟩ := h
    obtain ⟨_, _, _, _, _, _, cdv, _, _, rfl, lk, hcd⟩ := F.ex
    refine wpAny_Call_Name_kw (ld_glob I hg mgx ?_ hdb)
    refine PySem.W.callWith_K (h₀ := X.base) I.ok.mod.kin kp ?_ (by rfl) (by rfl)
    show wpAny _ _ (spliced ((false, eval (.Lambda params body scope lpos) X.env) :: backTo pos (starEach [] X.env))) _ _ s
    refine Calls.spliced_cons (lam3 I hr TB hcode hm hu hdef (L.has I.ok) fun f c' pm ctv H1 s1 I1 e1 r1 hf hfn hfr hco oc => Calls.spliced_nil ⟨I1.kIn, ?_⟩)
    have hs1 := hs.up e1
    have rc : codeAny (model X.prog X.w) X.A (.call (.ref f0) ⟨[.ref f], []⟩) (CR C8.CX0 X.stack X.prog X.w H1 s1 Q C8.E0) s1 := by
      refine LamX.run_ofS (k := kk) (N := Ng) (ps := [a]) (us := [.ref f]) (vs := [.ref f]) lk hcd S (cx.room.mono hk) I1.env0 (hb s1 [.ref f] I1.kIn rfl) (.cons rfl .nil) rfl fun hr' => ?_
      rw [hbo]
      have suk : ∀ (a' : Addr) (pn : List (Addr × Obj)), CxS (Cx.suite (cxOf C8.CX0 X.prog X.w X.K X.mg X.base Ng x (defScope dst) f0 cdv X.A X.stack s1 H1 C8.E0).nox a' pn) kk gm := fun a' pn => ⟨S.nd, hr'.dp, hr'.un, fun z => cx.gd (hgg z)⟩
      obtain ⟨cl, ok, q⟩ := hdd_ok (W := fun _ _ _ _ => False) suk (hdd cdv X.A X.stack s1 H1)
      -- what the lambda's body gives, where E is wished of its exceptions
      let tl : XK → TE := fun E σ' H' Q' => ∃ ρ' st' m', SR X.K H' m' σ' ρ' ∧ Rl X.K m' H' st' ∧ PostF X.K m' H' Q' E (fe ρ' st')
      have inner : ∀ (A : Around) (outer : List Env) (s' : Shared) (H' : Hp) (E : XK), Room j (A.deeper (LamX.lamEnv X scope s'.heap.objs.size f c')) → PE (LamX.lamCx X A outer s' H' E scope f c') body (tl E) := fun A outer s' H' E hr2 => by
        obtain ⟨t, pe, qq⟩ := hbody A outer s' H' E f c' ⟨rfl, cx.nd, takes_of rfl rfl rfl rfl, hr2, fun z => Bool.noConfusion z⟩
        refine ⟨fun pins2 s2 σ2 H2 Q2 I2 h2 => ?_⟩
        obtain ⟨ρ2, st2, m2, y1, y2, y3⟩ := h2
        refine pe.run pins2 s2 σ2 H2 Q2 I2 (qq σ2 H2 ρ2 st2 m2 Q2 y1 y2 ?_)
        cases z : fe ρ2 st2 with
        | ok d st3 => rw [z] at y3; exact y3
        | exc cn fs st3 => rw [z] at y3; exact y3
        | bad => rw [z] at y3; exact y3
      have room2 : Room (j + 1) (X.A.deeper (envOfC x (defScope dst) s1.heap.objs.size f0 cdv)) := (cx.room.mono hj).deeper _
      refine ⟨_, (ps_tryC (X := (cxOf C8.CX0 X.prog X.w X.K X.mg X.base Ng x (defScope dst) f0 cdv X.A X.stack s1 H1 C8.E0).nox) (Wout := fun _ _ _ _ => False) (pos := q4)
        (tb := fun Wx D σ' H' => ∃ Ech : XK, (∀ cls d σ2 H2, Ech cls d H2 → σ2.length = Ng.length → Wx cls d σ2 H2) ∧ σ'[0]? = some (some (.ref f)) ∧ H' c' = some (LamX.CodeO c' (X.env.qual ++ "<lambda>")) ∧ tl Ech σ H' D.rt)
        rfl rfl S.nd takes0 hne (fun Wx pn xe tk _ => ⟨fun pins2 s2 σ2 H2 D I2 h2 => ?_⟩) ok |> pss_one).nox, ?_⟩
      · obtain ⟨Ech, hW, y1, y2, y3⟩ := h2
        have hp := LamX.pe_act (X := X) (CXg := C8.CX0) (Eg := C8.E0) (Ng := Ng) (qg := x) (sg := defScope dst) (g := f0) (cdg := cdv) (i := 0) (pn := pn) (xe := xe) (E := Ech) (p1 := q1) (p2 := q2) I1 L hf hfn hfr (hbind _ _ _ _ _) (takes_len tk) (fun cls d σ' H' ech hl => hW cls d σ' H' ech hl) room2
          (fun A outer s' H' hr2 => inner A outer s' H' Ech hr2) hN0 hva hd1 hd2
        exact (pss_one (ps_ret (pos := q3) hp)).run pins2 s2 σ2 H2 D I2 ⟨y1, y2, y3⟩
      · refine ⟨fun cls d H' => ∃ cn fs st' m', fe ρ st = .exc cn fs st' ∧ Ext m H1 m' H' ∧ Rl X.K m' H' st' ∧ XRep X.K H' m' cls d cn fs, fun cls d σ2 H2 ech hl => ?_, by unfold L2.start; simp, hco, ρ, st, m, hs1, r1, ?_⟩
        · obtain ⟨cn, fs, st', m', e, x1, x2, x3⟩ := ech
          have hp1 := Post.up (m' := m') (H' := H2) hpost (e1.trans x1)
          unfold eMet at hp1
          rw [e] at hp1
          dsimp only at hp1
          refine q cn fs (List.replicate nm none) st' m' H2 σ2 cls d _ ?_ x2 ⟨by rw [hl, hNg, List.length_replicate], fun i d hd => ?_⟩ x3
          · cases z : sHands cn fs l (List.replicate nm none) st' with
            | rt d2 st2 => rw [z] at hp1; exact hp1
            | nx _ _ => rw [z] at hp1; exact hp1.elim
            | bk _ _ => rw [z] at hp1; exact hp1.elim
            | ct _ _ => rw [z] at hp1; exact hp1.elim
            | exc _ _ _ _ => rw [z] at hp1; exact hp1.elim
            | bad => rw [z] at hp1; exact hp1.elim
          · rw [List.getElem?_replicate] at hd
            split at hd <;> cases hd
        · have hp1 := Post.up hpost e1
          unfold eMet at hp1
          cases z : fe ρ st with
          | ok d st' => rw [z] at hp1; exact hp1
          | exc cn fs st' => exact fun cls dc H' m' x1 x2 x3 => ⟨cn, fs, st', m', rfl, x1, x2, x3⟩
          | bad => rw [z] at hp1; exact hp1.elim
    refine wpAny_call (codeAny_mono rc fun r2 s2 hq => ?_)
    cases r2 with
    | error e => exact (show False from hq).elim
    | ok fl =>
      cases fl with
      | ret u => exact I1.after hq
      | next => exact hq.elim
      | brk => exact hq.elim
      | cont => exact hq.elim
  · exact ⟨ρ, st, m, s, r, h⟩
end
end DX

/-! DX B: enumerate of lists and tuples, zip of two lists, of two tuples -/
namespace DX
open PySem PySem.Spec PyProof.Rows L2
/-- enumerate(v) lays two cells: v's iterator, the enumerate -/
theorem enumT_new {v : Value} {o : Obj} {G : Heap → Prop} (B : Begins v o G) :
    Meets (Builtin.«enumerate.__new__» ⟨[.type "enumerate", v], []⟩) (fun _ R s => G s.heap ∧ R (.ok (.ret (.ref (s.heap.push o).objs.size))) { s with heap := (s.heap.push o).push { cls := .type "enumerate", data := .fields #[.none, .bool false, .ref s.heap.objs.size, rawInt 0, .none, .none] } }) :=
  .of_wp fun prog w A R s h => by
    obtain ⟨hp, g, d, tk, os⟩ := s
    obtain ⟨hG, h⟩ := h
    have isE := sub_enumerate
    have iter : ∀ {A' : Around} {E : Value → Shared → Prop} {Q : Value → Shared → Prop}, Q (.ref hp.objs.size) ⟨hp.push o, g, d, tk, os⟩ → wpAny (model prog w) A' (pyIter v) Q E ⟨hp, g, d, tk, os⟩ := fun q => B.iter prog w _ _ ⟨hp, g, d, tk, os⟩ _ hG q
    wp_walk using iter
    refine wpAny_stack_any fun _ => wpAny_pure ?_
    split
    · rename_i c _ _ _ _ _
      cases (c == Value.type "enumerate") <;> (wp_walk using iter; exact ⟨_, rfl, h⟩)
    · wp_walk using iter
      exact ⟨_, rfl, h⟩
theorem enumT_call {prog : Program} {w : World} {A : Around} {E : Value → Shared → Prop} {s : Shared} {v : Value} {o : Obj} {G : Heap → Prop} {Q : Value → Shared → Prop} (B : Begins v o G) (hG : G s.heap)
    (h : ∀ h', IsEnum h' (s.heap.objs.size + 1) s.heap.objs.size 0 .none → h'.get? s.heap.objs.size = some o → (∀ b u, s.heap.get? b = some u → h'.get? b = some u) → Q (.ref (s.heap.objs.size + 1)) { s with heap := h' }) : wpAny (model prog w) A (call (.type "enumerate") [v]) Q E s := by
  refine callType_new F.called_enumerate (by decide) (F.typeCall_enumerate_1 _) (F.newCall_enumerate_1 _) (fun obj => F.args_object_init_2 obj _) F.entry_enumerate_new (enumT_new B) ⟨hG, ?_⟩
  have one : (s.heap.push o).objs.size = s.heap.objs.size + 1 := Heap.size_push ..
  have there := Heap.get?_push_size (s.heap.push o) (o := { cls := .type "enumerate", data := .fields #[.none, .bool false, .ref s.heap.objs.size, rawInt 0, .none, .none] }) rfl
  rw [one] at there
  show _ ∧ _
  rw [one]
  exact ⟨⟨_, there, rfl⟩, h _ there (Heap.get?_push_of_some _ (Heap.get?_push_size _ B.free)) fun b u x => Heap.get?_push_of_some _ (Heap.get?_push_of_some _ x)⟩
/-- the tuple at a, each item in a new pair with its place -/
def IteT (K : PySem.W.Frag) (a : Addr) : It :=
  ⟨fun i H => ∃ (xs : List V) (x : V), SqT K H a xs ∧ xs[i]? = some x, fun i H v H' => ∃ T x, v = .ref T ∧ H T = none ∧ H' = upd H T (.tup [.int (i : Nat), x]) ∧ ∀ xs, SqT K H a xs → xs[i]? = some x, fun i H => ∃ xs : List V, SqT K H a xs ∧ xs.length ≤ i⟩
theorem turn_enumT {P : Program} {w : World} {K : PySem.W.Frag} {elts : List Expr} {kk : Nat} {tpos : Pos} (a e it : Addr) (hae : a ≠ it) (hee : e ≠ it) (hea : e ≠ a) :
    Turn P w K (.Tuple elts kk tpos) (IteT K a) [e, it] e (fun i h => (∃ old, IsEnum h e it ((i : Nat) : Int) old) ∧ h.IsTupleIter it a i) where
  mem := by simp
  obj := fun i h st b hb => by
    obtain ⟨⟨old, he⟩, o, ho, _, hd⟩ := st
    rcases (show b = e ∨ b = it by simpa using hb) with z | z
    · rw [z]
      exact ⟨_, he, fun v q => nomatch q⟩
    · rw [z]
      exact ⟨o, ho, fun v q => by rw [hd] at q; cases q⟩
  keep := fun i h h' st k => by
    obtain ⟨⟨old, he⟩, hi⟩ := st
    exact ⟨⟨old, k e (by simp) _ he⟩, hi.at fun o q => k it (by simp) o q⟩
  item := by
    intro X hP hw hK hc i pins s σ H E I hf st hg
    subst hP hw hK
    obtain ⟨⟨old, he⟩, hit⟩ := st
    obtain ⟨xs, x, hq, hx⟩ := hg
    obtain ⟨its, rv, pl, _⟩ := I.tuple hq
    obtain ⟨u, hu, ru⟩ := rv.get hx
    have hlt : i < its.toArray.size := by
      rw [List.size_toArray]
      exact (List.getElem?_eq_some_iff.mp hu).1
    have elt : e < s.heap.objs.size := Heap.lt_size he
    have ilt : it < s.heap.objs.size := by
      obtain ⟨_, q, _⟩ := hit
      exact Heap.lt_size q
    have D := Draws.tuple (prog := X.prog) (w := X.w) (A := X.A.in1) (I.ok.hd hc) it a hae its.toArray
    refine wpAny_pyNext_enum_itemC D he ⟨hit, pl⟩ hlt hee (by simp [hee, hea]) fun x' h1 tk hx' ho1 hst1 hT1 hsz hk => ⟨_, rfl, wpAny_letOwnedTupleGo_enum (s := { s with heap := h1, toks := tk + 1 }) ho1 fun h2 he2 sb => ?_⟩
    have ux : u = x' := by
      have z : its[i]? = some x' := by simpa using hx'
      rw [hu] at z
      exact Option.some.inj z
    subst ux
    have tup2 : h2.get? s.heap.objs.size = some { cls := .type "tuple", data := .seq #[.int i tk, u] } := (sb.2 _ (Nat.ne_of_gt elt)).trans hT1
    have ok2 : ObjOk X.prog X.w (upd H s.heap.objs.size (.tup [.int (i : Nat), x])) h2 s.heap.objs.size (.tup [.int (i : Nat), x]) :=
      ⟨by show 2 ≤ sizeLine; decide, [.int i tk, u], .cons ⟨_, rfl⟩ (.cons ru .nil), ⟨_, tup2, rfl, _, rfl⟩⟩
    have I2 : Inv X pins σ (upd H s.heap.objs.size (.tup [.int (i : Nat), x])) { s with heap := h2, toks := tk + 1 } :=
      I.turnedNew (ch := [e, it]) (fun b o hb q => (sb.2 b (fun z => hb (by simp [z]))).trans (hk b o (fun z => hb (by simp [z])) (fun z => hb (by simp [z])) q)) hf (Nat.le_refl _) ok2
    refine ⟨.ref s.heap.objs.size, _, I2, rfl, ⟨_, x, rfl, I.hok.fresh (Nat.le_refl _), rfl, fun ys hy => by rw [I.tuple_inj hy hq]; exact hx⟩, ⟨⟨u, ?_⟩, hst1.1.at fun o q => (sb.2 it (Ne.symm hee)).trans q⟩, fun b hb => ?_⟩
    · rw [show ((i + 1 : Nat) : Int) = (i : Int) + 1 by omega]
      exact he2
    · have blt : b < s.heap.objs.size := by
        rcases (show b = e ∨ b = it by simpa using hb) with z | z
        · exact z ▸ elt
        · exact z ▸ ilt
      rw [upd_ne (Nat.ne_of_lt blt)]
      exact (hf b hb).1
  done := by
    intro X hP hw hK hc i pins s σ H E I hf st hg
    subst hP hw hK
    obtain ⟨⟨old, he⟩, hit⟩ := st
    obtain ⟨xs, hq, hx⟩ := hg
    obtain ⟨its, rv, pl, _⟩ := I.tuple hq
    obtain ⟨f0, f1, f2, f3, f4, f5⟩ := hf it (by simp)
    have hl := rv.length
    have out : its.toArray[i]? = none := by
      have z : its[i]? = none := List.getElem?_eq_none (by omega)
      simpa using z
    -- nothing more is drawn
    have D : Draws X.prog X.w X.A.in1 it [it, a] i (fun _ _ => False) (fun j h => j = i ∧ h.IsTupleIter it a i ∧ h.IsTuple a its.toArray) := {
      live := fun _ _ st => let ⟨o, ho, _⟩ := st.2.1; ⟨o, ho⟩
      frame := fun _ _ _ st hk => ⟨st.1, st.2.1.at fun o e => hk it (by simp) o e, st.2.2.at fun o e => hk a (by simp) o e⟩
      item := fun j s Q E hi st _ => absurd hi (by rw [st.1]; exact Nat.lt_irrefl _)
      done := fun s Q E st hE => wpAny_nextOf_tuple_end (I.ok.hd hc) st.2.1 st.2.2 out hE }
    exact wpAny_pyNext_enum_endD D he ⟨rfl, hit, pl⟩ fun h' eb => ⟨rfl, I.turned (t' := s.toks) (fun b o hb q => eb b o hb q) f0 f1 f3 f4 f5⟩
  self := fun A i s Q E st h => by
    obtain ⟨⟨_, he⟩, _⟩ := st
    exact wpAny_pyIter_enum he h
def iEnumT (K : PySem.W.Frag) (ta : TA) : TI := fun σ H R => ta σ H fun vs H1 => ∃ a xs, vs = [.ref a] ∧ SqT K H1 a xs ∧ R (IteT K a) H1
theorem pi_enumT {X : Cx} {e : Expr} {ta : TA} {p pos tpos : Pos} {elts : List Expr} {kk : Nat} (hg : Gl X "enumerate") (hm : X.mg "enumerate" = none) (ha : PA X [e] ta) (hs : starEach [e] X.env = [(false, eval e X.env)] := by rfl) :
    PI X (.Tuple elts kk tpos) (.Call (.Name "enumerate" p) [e] [] pos) (iEnumT X.K ta) :=
  ⟨fun pins s σ H R I h => Call_ (ld_blt I hg hm boot_enumerate (PyProof.Rows.callWith_type1 (thn (ha.run pos pins s σ H _ I h) fun us s1 hu => by
    obtain ⟨vs, H1, I1, r1, a, xs, rfl, hq, q⟩ := hu
    cases r1 with
    | cons r rr =>
      cases rr
      cases r
      obtain ⟨its, rv, pl, _⟩ := I1.tuple hq
      have alt : a < s1.heap.objs.size := by
        obtain ⟨o, ho, _⟩ := pl
        exact Heap.lt_size ho
      refine enumT_call (begins_tuple a its.toArray) pl fun h' he hit hk => wpAny_pyIter_enum he ?_
      have I2 : Inv X pins σ H1 { s1 with heap := h' } := I1.kept (t' := s1.toks) hk
      refine ⟨s1.heap.objs.size + 1, [s1.heap.objs.size + 1, s1.heap.objs.size], _, _, H1, rfl, I2, turn_enumT a (s1.heap.objs.size + 1) s1.heap.objs.size (Nat.ne_of_lt alt) (Nat.succ_ne_self _) (Nat.ne_of_gt (Nat.lt_succ_of_lt alt)), ⟨⟨.none, he⟩, ⟨_, hit, rfl, rfl⟩⟩, fun b hb => ?_, q⟩
      have hle : s1.heap.objs.size ≤ b := by
        rcases (show b = s1.heap.objs.size + 1 ∨ b = s1.heap.objs.size by simpa using hb) with z | z
        · exact z ▸ Nat.le_succ _
        · exact z ▸ Nat.le_refl _
      exact I1.fpOk hle (I1.hok.fresh hle)) hs rfl))⟩
/-! ### as meanings -/
variable [TB0]
/-- the items with their places -/
def enumD (xs : List D) : List D := xs.mapIdx fun i x => .tup [.int i, x]
def zipD (xs ys : List D) : List D := (xs.zip ys).map fun p => .tup [p.1, p.2]
def itEnumT (fe : EF) : AF := fun ρ st => (fe ρ st).bind fun d st1 => match d with
  | .tup xs => .ok (enumD xs) st1
  | _ => .bad
def itEnumL (fe : EF) : AF := fun ρ st => (fe ρ st).bind fun d st1 => match d with
  | .lst xs => .ok (enumD xs) st1
  | .rd xs => .ok (enumD xs) st1
  | _ => .bad
theorem ItOk.pair {K : PySem.W.Frag} {m : Mp} {H H2 : Hp} {T : Addr} {va vb : V} {da db : D} (n : H T = none) (e : H2 = upd H T (.tup [va, vb])) (ra : Rep K H m va da) (rb : Rep K H m vb db) : Ext m H m H2 ∧ ∀ st, Rl K m H st → Rl K m H2 st ∧ Rep K H2 m (.ref T) (.tup [da, db]) := by
  subst e
  have x : Ext m H m (upd H T (.tup [va, vb])) := Ext.laid n
  exact ⟨x, fun st r => ⟨r.laid n, .tup (.inl ⟨.inl upd_same, r.fresh n⟩) (.cons (ra.up x) (.cons (rb.up x) .nil))⟩⟩
theorem enumD_get {xs : List D} {i : Nat} {d : D} (h : (enumD xs)[i]? = some d) : ∃ x, xs[i]? = some x ∧ d = .tup [.int i, x] := by
  unfold enumD at h
  rw [List.getElem?_mapIdx] at h
  cases e : xs[i]? with
  | none => rw [e] at h; cases h
  | some x =>
    rw [e] at h
    cases h
    exact ⟨x, rfl, rfl⟩
theorem enumD_len {xs : List D} : (enumD xs).length = xs.length := by
  unfold enumD
  rw [List.length_mapIdx]
theorem ItOk.enumT {K : PySem.W.Frag} {m : Mp} {H : Hp} {a : Addr} {vs : List V} {ds : List D} (h1 : TupAt K H m a vs) (h2 : RepL K H m vs ds) : ItOk K H m (IteT K a) (enumD ds) := fun m' H' e => by
  have q := h1.ext e
  refine ⟨⟨vs, q.sq, by rw [enumD_len]; exact Nat.le_of_eq h2.length⟩, fun i d hd => ?_⟩
  obtain ⟨x, hx, rfl⟩ := enumD_get hd
  obtain ⟨v, g1, g2⟩ := h2.get hx
  refine ⟨⟨vs, v, q.sq, g1⟩, fun y H2 hy => ?_⟩
  obtain ⟨T, v', rfl, n, eH, hv⟩ := hy
  have z := hv vs q.sq
  rw [g1] at z
  cases z
  exact ItOk.pair n eH (.int _) (g2.up e)
theorem ItOk.enumL {K : PySem.W.Frag} {m : Mp} {H : Hp} {a : Addr} {vs : List V} {ds : List D} (h1 : LstAt K H m a vs) (h2 : RepL K H m vs ds) : ItOk K H m (Ite K a) (enumD ds) := fun m' H' e => by
  have q := h1.ext e
  refine ⟨⟨vs, q.sq, by rw [enumD_len]; exact Nat.le_of_eq h2.length⟩, fun i d hd => ?_⟩
  obtain ⟨x, hx, rfl⟩ := enumD_get hd
  obtain ⟨v, g1, g2⟩ := h2.get hx
  refine ⟨⟨vs, v, q.sq, g1⟩, fun y H2 hy => ?_⟩
  obtain ⟨T, v', rfl, n, eH, hv⟩ := hy
  have z := hv vs q.sq
  rw [g1] at z
  cases z
  exact ItOk.pair n eH (.int _) (g2.up e)
section
variable {X : Cx} {W : WX} {e e2 : Expr} {fe fe2 : EF} {p pos tpos : Pos} {elts : List Expr} {kk : Nat}
theorem si_enumT (hg : Gl X "enumerate") (hm : X.mg "enumerate" = none) (h : SE X W e fe) (hs : starEach [e] X.env = (false, eval e X.env) :: starEach [] X.env := by rfl) (hs2 : starEach [e] X.env = [(false, eval e X.env)] := by rfl) :
    SI X W (.Tuple elts kk tpos) (.Call (.Name "enumerate" p) [e] [] pos) (itEnumT fe) := by
  obtain ⟨t, pe, q⟩ := h
  refine ⟨_, pi_enumT hg hm (pa_cons pe pa_nil hs) hs2, fun σ H ρ st m R s r h => q σ H ρ st m _ s r (h.mp fun d st1 v H1 m1 e1 r1 p1 h1 => ?_)⟩
  cases p1 with
  | tup g1 g2 => exact ⟨_, _, rfl, g1.sq, h1.go r1 (ItOk.enumT g1 g2)⟩
  | _ => exact h1.elim
theorem si_enumL (hg : Gl X "enumerate") (hm : X.mg "enumerate" = none) (h : SE X W e fe) (hs : starEach [e] X.env = (false, eval e X.env) :: starEach [] X.env := by rfl) (hs2 : starEach [e] X.env = [(false, eval e X.env)] := by rfl) :
    SI X W (.Tuple elts kk tpos) (.Call (.Name "enumerate" p) [e] [] pos) (itEnumL fe) := by
  obtain ⟨t, pe, q⟩ := h
  refine ⟨_, pi_enum hg hm (pa_cons pe pa_nil hs) hs2, fun σ H ρ st m R s r h => q σ H ρ st m _ s r (h.mp fun d st1 v H1 m1 e1 r1 p1 h1 => ?_)⟩
  cases p1 with
  | lst g1 gn g2 => exact ⟨_, _, rfl, LstAt.sq (.inl ⟨.inl g1, gn⟩), h1.go r1 (ItOk.enumL (.inl ⟨.inl g1, gn⟩) g2)⟩
  | rd g1 g2 => exact ⟨_, _, rfl, g1.sq, h1.go r1 (ItOk.enumL g1 g2)⟩
  | _ => exact h1.elim
def itZip (fe fe2 : EF) : AF := fun ρ st => (fe ρ st).bind fun x st1 => (fe2 ρ st1).bind fun y st2 => match x, y with
  | .tup xs, .tup ys => .ok (zipD xs ys) st2
  | .lst xs, .lst ys => .ok (zipD xs ys) st2
  | .rd xs, .lst ys => .ok (zipD xs ys) st2
  | .lst xs, .rd ys => .ok (zipD xs ys) st2
  | .rd xs, .rd ys => .ok (zipD xs ys) st2
  | _, _ => .bad
theorem zipD_get {xs ys : List D} {i : Nat} {d : D} (h : (zipD xs ys)[i]? = some d) : ∃ x y, xs[i]? = some x ∧ ys[i]? = some y ∧ d = .tup [x, y] := by
  unfold zipD at h
  rw [List.getElem?_map] at h
  cases e : (xs.zip ys)[i]? with
  | none => rw [e] at h; cases h
  | some p =>
    rw [e] at h
    cases h
    obtain ⟨x, y⟩ := p
    obtain ⟨h1, h2⟩ := List.getElem?_zip_eq_some.mp e
    exact ⟨x, y, h1, h2, rfl⟩
theorem zipD_len {xs ys : List D} : (zipD xs ys).length = min xs.length ys.length := by
  unfold zipD
  rw [List.length_map, List.length_zip]
theorem ItOk.zipL {K : PySem.W.Frag} {m : Mp} {H : Hp} {a b : Addr} {vs ws : List V} {ds es : List D} (h1 : LstAt K H m a vs) (h2 : RepL K H m vs ds) (k1 : LstAt K H m b ws) (k2 : RepL K H m ws es) : ItOk K H m (Itz K a b) (zipD ds es) := fun m' H' e => by
  have q := h1.ext e
  have q' := k1.ext e
  refine ⟨⟨vs, ws, q.sq, q'.sq, by rw [zipD_len, h2.length, k2.length]; omega⟩, fun i d hd => ?_⟩
  obtain ⟨x, y, hx, hy, rfl⟩ := zipD_get hd
  obtain ⟨v, g1, g2⟩ := h2.get hx
  obtain ⟨w, g3, g4⟩ := k2.get hy
  refine ⟨⟨vs, ws, v, w, q.sq, q'.sq, g1, g3⟩, fun z H2 hz => ?_⟩
  obtain ⟨T, v', w', rfl, n, eH, hv, hw⟩ := hz
  have z1 := hv vs q.sq
  have z2 := hw ws q'.sq
  rw [g1] at z1
  rw [g3] at z2
  cases z1
  cases z2
  exact ItOk.pair n eH (g2.up e) (g4.up e)
theorem ItOk.zipT {K : PySem.W.Frag} {m : Mp} {H : Hp} {a b : Addr} {vs ws : List V} {ds es : List D} (h1 : TupAt K H m a vs) (h2 : RepL K H m vs ds) (k1 : TupAt K H m b ws) (k2 : RepL K H m ws es) : ItOk K H m (RZ.ItzT K a b) (zipD ds es) := fun m' H' e => by
  have q := h1.ext e
  have q' := k1.ext e
  refine ⟨⟨vs, ws, q.sq, q'.sq, by rw [zipD_len, h2.length, k2.length]; omega⟩, fun i d hd => ?_⟩
  obtain ⟨x, y, hx, hy, rfl⟩ := zipD_get hd
  obtain ⟨v, g1, g2⟩ := h2.get hx
  obtain ⟨w, g3, g4⟩ := k2.get hy
  refine ⟨⟨vs, ws, v, w, q.sq, q'.sq, g1, g3⟩, fun z H2 hz => ?_⟩
  obtain ⟨T, v', w', rfl, n, eH, hv, hw⟩ := hz
  have z1 := hv vs q.sq
  have z2 := hw ws q'.sq
  rw [g1] at z1
  rw [g3] at z2
  cases z1
  cases z2
  exact ItOk.pair n eH (g2.up e) (g4.up e)
theorem si_zip (hg : Gl X "zip") (hm : X.mg "zip" = none) (h : SE X W e fe) (h' : SE X W e2 fe2) (hs : starEach [e, e2] X.env = (false, eval e X.env) :: starEach [e2] X.env := by rfl) (hs2 : starEach [e2] X.env = (false, eval e2 X.env) :: starEach [] X.env := by rfl) (hpl : (backTo pos (starEach [e2] X.env)).any (·.1) = false := by rfl) :
    SI X W (.Tuple elts kk tpos) (.Call (.Name "zip" p) [e, e2] [] pos) (itZip fe fe2) := by
  obtain ⟨t, pe, q⟩ := h
  obtain ⟨t2, pe2, q2⟩ := h'
  refine ⟨_, RZ.pi_zipA hg hm (pa_cons pe (pa_cons pe2 pa_nil hs2) hs) hs hpl, fun σ H ρ st m R s r h => q σ H ρ st m _ s r (h.mp fun x st1 v H1 m1 e1 r1 p1 h1 => q2 σ H1 ρ st1 m1 _ (s.up e1) r1 (h1.mp fun y st2 w H2 m2 e2 r2 p2 h2 => ?_))⟩
  have p1' := p1.up e2
  have lst : ∀ {v : V} {xs : List D} {H : Hp} {m : Mp}, Rep X.K H m v (.lst xs) ∨ Rep X.K H m v (.rd xs) → ∃ a vs, v = .ref a ∧ LstAt X.K H m a vs ∧ RepL X.K H m vs xs := fun z => by
    rcases z with z | z
    · cases z with | lst g1 gn g2 => exact ⟨_, _, rfl, .inl ⟨.inl g1, gn⟩, g2⟩
    · cases z with | rd g1 g2 => exact ⟨_, _, rfl, g1, g2⟩
  cases x with
  | tup xs =>
    cases y with
    | tup ys =>
      cases p1' with
      | tup g1 g2 =>
        cases p2 with
        | tup k1 k2 => exact ⟨_, _, _, _, rfl, .inr ⟨g1.sq, k1.sq, h2.go r2 (ItOk.zipT g1 g2 k1 k2)⟩⟩
    | _ => exact h2.elim
  | lst xs =>
    obtain ⟨a, vs, rfl, g1, g2⟩ := lst (.inl p1')
    cases y with
    | lst ys =>
      obtain ⟨b, ws, rfl, k1, k2⟩ := lst (.inl p2)
      exact ⟨_, _, _, _, rfl, .inl ⟨g1.sq, k1.sq, h2.go r2 (ItOk.zipL g1 g2 k1 k2)⟩⟩
    | rd ys =>
      obtain ⟨b, ws, rfl, k1, k2⟩ := lst (.inr p2)
      exact ⟨_, _, _, _, rfl, .inl ⟨g1.sq, k1.sq, h2.go r2 (ItOk.zipL g1 g2 k1 k2)⟩⟩
    | _ => exact h2.elim
  | rd xs =>
    obtain ⟨a, vs, rfl, g1, g2⟩ := lst (.inr p1')
    cases y with
    | lst ys =>
      obtain ⟨b, ws, rfl, k1, k2⟩ := lst (.inl p2)
      exact ⟨_, _, _, _, rfl, .inl ⟨g1.sq, k1.sq, h2.go r2 (ItOk.zipL g1 g2 k1 k2)⟩⟩
    | rd ys =>
      obtain ⟨b, ws, rfl, k1, k2⟩ := lst (.inr p2)
      exact ⟨_, _, _, _, rfl, .inl ⟨g1.sq, k1.sq, h2.go r2 (ItOk.zipL g1 g2 k1 k2)⟩⟩
    | _ => exact h2.elim
  | _ => exact h2.elim
end
end DX

/-! DX D: list comprehensions with any number of fors -/
namespace DX
open PySem PySem.Spec PyProof.Rows L2
section
variable {elt : Expr} {gens : List Comprehension} {scope : Scope} {pos : Pos} {n : Nat} {t i t1 i1 : Expr} {ifs ifs1 : List Expr}
/-- a turn of a clause with another one behind it -/
theorem turn_mid (hn : gens[n]? = some ⟨t, i, ifs, 0⟩) (hn1 : gens[n + 1]? = some ⟨t1, i1, ifs1, 0⟩) (it acc : Value) (env : Env) : compTurn (.ListComp elt gens scope pos) n it acc env = (do
      standAt i.pos
      match ← pyNext it with
      | none => pure (.done .next)
      | some v => letOwnedTupleGo t it v; assign t env v; let mut ok := true
                  for c in ifs do if ok then ok ← isTrue c env (eval c env)
                  if ok then
                    let x ← eval i1 env
                    standAt i1.pos
                    let x ← foldedSetIterable i1 env x
                    let _ ← runOwn (.compStart (.ListComp elt gens scope pos) (n + 1) (← holding [x] (pyIter x)) acc env) env
                  again (.compLoop (.ListComp elt gens scope pos) n it acc env)) := by
  unfold compTurn
  simp only [hn, hn1]
  rfl
theorem turn_end (hn : gens[n]? = some ⟨t, i, ifs, 0⟩) (hn1 : gens[n + 1]? = none) (it acc : Value) (env : Env) : compTurn (.ListComp elt gens scope pos) n it acc env = (do
      standAt i.pos
      match ← pyNext it with
      | none => pure (.done .next)
      | some v => letOwnedTupleGo t it v; assign t env v; let mut ok := true
                  for c in ifs do if ok then ok ← isTrue c env (eval c env)
                  if ok then (do let _ ← call (.builtin "list.append") [acc, ← eval elt env])
                  again (.compLoop (.ListComp elt gens scope pos) n it acc env)) := by
  unfold compTurn
  simp only [hn, hn1]
  rfl
end
/-- a clause's tests, one after another -/
abbrev testsS (ifs : List Expr) (env : Env) : Sem Bool := forIn ifs true fun c r => if r = true then (do let ok ← isTrue c env (eval c env); pure (ForInStep.yield ok)) else pure (ForInStep.yield r)
abbrev NoE : Value → Shared → Prop := fun _ _ => False
section
variable {prog : Program} {w : World} {A : Around} {R : Result → Shared → Prop} {s : Shared} {elt : Expr} {gens : List Comprehension} {scope : Scope} {pos : Pos} {n : Nat} {t i t1 i1 : Expr} {ifs ifs1 : List Expr} {it acc : Value} {env : Env}
theorem loop_mid (hn : gens[n]? = some ⟨t, i, ifs, 0⟩) (hn1 : gens[n + 1]? = some ⟨t1, i1, ifs1, 0⟩) (hs : ∀ x, foldedSetIterable i1 env x = pure x) (I : Nat → Shared → Prop)
    (turn : ∀ k s, I k s → wpAny (model prog w) A (pyNext it) (fun r sa => match r with
      | none => R (.ok .next) sa
      | some v => wpAny (model prog w) A (letOwnedTupleGo t it v) (fun _ sb => wpAny (model prog w) A (assign t env v) (fun _ sc => wpAny (model prog w) A (testsS ifs env) (fun ok sd =>
          if ok = true then wpAny (model prog w) A (eval i1 env) (fun x se => wpAny (model prog w) A (pyIter x) (fun it1 sf => codeAny (model prog w) A (.compStart (.ListComp elt gens scope pos) (n + 1) it1 acc env) (fun r s' => match r with
              | .ok _ => ∃ m, m < k ∧ I m s'
              | .error _ => False) sf) NoE se) NoE sd
          else ∃ m, m < k ∧ I m sd) NoE sc) NoE sb) NoE sa) NoE s)
    (k : Nat) (h : I k s) : codeAny (model prog w) A (.compLoop (.ListComp elt gens scope pos) n it acc env) R s := by
  refine codeAny_loop rfl I (fun k s hI => ?_) k h
  show wpAny _ A ((compTurn (.ListComp elt gens scope pos) n it acc env).onRaise (fun x => do noteFrame x env; theTreesLotGoes x)) _ _ s
  rw [turn_mid hn hn1]
  refine wpAny_noted (wpAny_bind (wpAny_standAt (wpAny_bind (thnF (turn k s hI) fun r sa ha => ?_))))
  match r, ha with
  | none, ha => exact wpAny_pure ha
  | some v, ha =>
    refine wpAny_bind (thnF ha fun _ sb hb => wpAny_bind (thnF hb fun _ sc hc => wpAny_bind (thnF hc fun ok sd hd => ?_)))
    cases ok with
    | false => exact wpAny_pure ⟨rfl, hd⟩
    | true =>
      refine wpAny_bind (thnF hd fun x se he => wpAny_bind (wpAny_standAt (wpAny_bind (wpAny_of_eq (hs x) (wpAny_bind (wpAny_holding (thnF he fun it1 sf hf => wpAny_bind (wpAny_runOwn ?_))))))))
      rw [Around.mark_none]
      refine codeAny_mono hf fun r s' hr => ?_
      match r, hr with
      | .ok f, hr =>
        first
          | exact wpAny_pure ⟨rfl, hr⟩
          | exact wpAny_bind (wpAny_pure (wpAny_pure ⟨rfl, hr⟩))
theorem loop_end (hn : gens[n]? = some ⟨t, i, ifs, 0⟩) (hn1 : gens[n + 1]? = none) (I : Nat → Shared → Prop)
    (turn : ∀ k s, I k s → wpAny (model prog w) A (pyNext it) (fun r sa => match r with
      | none => R (.ok .next) sa
      | some v => wpAny (model prog w) A (letOwnedTupleGo t it v) (fun _ sb => wpAny (model prog w) A (assign t env v) (fun _ sc => wpAny (model prog w) A (testsS ifs env) (fun ok sd =>
          if ok = true then wpAny (model prog w) A (eval elt env) (fun x se => wpAny (model prog w) A (call (.builtin "list.append") [acc, x]) (fun _ sf => ∃ m, m < k ∧ I m sf) NoE se) NoE sd
          else ∃ m, m < k ∧ I m sd) NoE sc) NoE sb) NoE sa) NoE s)
    (k : Nat) (h : I k s) : codeAny (model prog w) A (.compLoop (.ListComp elt gens scope pos) n it acc env) R s := by
  refine codeAny_loop rfl I (fun k s hI => ?_) k h
  show wpAny _ A ((compTurn (.ListComp elt gens scope pos) n it acc env).onRaise (fun x => do noteFrame x env; theTreesLotGoes x)) _ _ s
  rw [turn_end hn hn1]
  refine wpAny_noted (wpAny_bind (wpAny_standAt (wpAny_bind (thnF (turn k s hI) fun r sa ha => ?_))))
  match r, ha with
  | none, ha => exact wpAny_pure ha
  | some v, ha =>
    refine wpAny_bind (thnF ha fun _ sb hb => wpAny_bind (thnF hb fun _ sc hc => wpAny_bind (thnF hc fun ok sd hd => ?_)))
    cases ok with
    | false => exact wpAny_pure ⟨rfl, hd⟩
    | true => exact wpAny_bind (wpAny_bind (thnF hd fun x se he => wpAny_bind (thnF he fun _ sf hf => wpAny_pure (wpAny_pure ⟨rfl, hf⟩))))
/-- a later clause begins -/
theorem start_any {i : Expr} {ifs : List Expr} (hn : gens[n]? = some ⟨t, i, ifs, 0⟩) (h0 : codeAny (model prog w) A (.compLoop (.ListComp elt gens scope pos) n it acc env) R s)
    (h : wpAny (model prog w) A (pyIter it) (fun it' s' => codeAny (model prog w) A (.compLoop (.ListComp elt gens scope pos) n it' acc env) R s') NoE s) :
    codeAny (model prog w) A (.compStart (.ListComp elt gens scope pos) n it acc env) R s := by
  refine codeAny_of_tree ?_
  show wpAny _ _ ((compStart (.ListComp elt gens scope pos) n it acc env).onRaise (fun x => do noteFrame x env; standAt theWindowsPlace)) _ _ s
  refine wpAny_notedAt ?_
  unfold compStart
  rw [show clausesOf (.ListComp elt gens scope pos) = gens from rfl]
  simp only [hn]
  show wpAny _ _ (ask >>= _) _ _ s
  refine wpAny_bind (wpAny_askSetting (wpAny_ite ?_))
  split
  · first
      | exact wpAny_pure (And.intro rfl h0)
      | exact wpAny_bind (wpAny_pure (wpAny_pure (And.intro rfl h0)))
  · first
      | exact wpAny_bind (wpAny_rule (wpAny_bind (wpAny_standAt (wpAny_bind (thnF h fun it' s' h' => wpAny_pure (And.intro rfl h'))))))
      | (refine wpAny_bind (wpAny_rule ?_); show wpAny _ _ (standAt i.pos >>= _) _ _ s; exact wpAny_bind (wpAny_standAt (wpAny_bind (thnF h fun it' s' h' => wpAny_pure (And.intro rfl h')))))
end
/-! ### what the loops do -/
/-- a loop over J from the slots σ: g the store into the target, tt the tests, vs the names of this target and of those within; inn: what a turn does; Nx: wished behind the loop -/
def loopR (inn : L2.St → Hp → (Hp → Prop) → Prop) (g : TG) (tt : TT) (vs : List Nat) (σ : L2.St) (J : It) (H : Hp) (Nx : Hp → Prop) : Prop :=
  ∃ W : Nat → Nat → Hp → Prop, (∃ m, W 0 m H) ∧ ∀ i m H, W i m H → (J.stop i H ∧ Nx H) ∨ (J.go i H ∧ ∃ N1 : Hp → Prop, (∀ H', N1 H' → ∃ m', m' < m ∧ W (i + 1) m' H') ∧
    ∀ x H', J.yld i H x H' → g x (wipe σ vs) H' fun σ2 H2 => wipe σ2 vs = wipe σ vs ∧ tt σ2 H2 fun b H3 => if b = true then inn σ2 H3 N1 else N1 H3)
structure ClN where
  wi : TI
  g : TG
  tt : TT
  vs : List Nat
/-- what a turn does, cs the clauses within: the next one's loop, or the item put to the list D -/
def innR (D : Addr) (te : TE) : List ClN → L2.St → Hp → (Hp → Prop) → Prop
  | [], σ, H, Nx => te σ H fun y H1 => ∃ acc, H1 D = some (.lst acc) ∧ acc.length < sizeLine ∧ Nx (upd H1 D (.lst (acc ++ [y])))
  | c :: r, σ, H, Nx => c.wi σ H fun J H1 => loopR (innR D te r) c.g c.tt c.vs σ J H1 Nx
structure ClOkN (X : Cx) (c : ClN) (t i : Expr) (ifs : List Expr) : Prop where
  pi : PI X t i c.wi
  pg : PG X t c.g
  pt : PTs X ifs c.tt
  fs : ∀ x, foldedSetIterable i X.env x = pure x
/-- the clauses behind the first, in their order; vs the names of those ahead -/
inductive ClsN (X : Cx) : List Nat → List Comprehension → List ClN → Prop
  | nil {vs : List Nat} : ClsN X vs [] []
  | cons {vs : List Nat} {c : ClN} {t i : Expr} {ifs : List Expr} {gs : List Comprehension} {cs : List ClN} (h : ClOkN X c t i ifs) (hv : ∀ j ∈ c.vs, j ∈ vs) (r : ClsN X c.vs gs cs) : ClsN X vs (⟨t, i, ifs, 0⟩ :: gs) (c :: cs)
theorem wipe_off {σ : L2.St} {i : Nat} : ∀ {vs : List Nat}, i ∉ vs → (wipe σ vs)[i]? = σ[i]?
  | [], _ => rfl
  | v :: vs, h => by
    unfold wipe
    rw [List.getElem?_set_ne (fun e => h (by rw [e]; exact List.mem_cons_self))]
    exact wipe_off fun m => h (List.mem_cons_of_mem _ m)
section
variable {X : Cx} {elt : Expr} {te : TE} {scope : Scope} {pos : Pos} {D : Addr}
theorem loopN (hc : X.calm = true) (hx : X.xe = NoE) (pe : PE X elt te) : ∀ (cs : List ClN) (gs : List Comprehension) (pre : List Comprehension) (t i : Expr) (ifs : List Expr) (g : TG) (tt : TT) (vs : List Nat), ClsN X vs gs cs → PG X t g → PTs X ifs tt →
    ∀ (pins : List (Addr × Obj)) (σ : L2.St) (H : Hp) (J : It) (it : Addr) (fp : List Addr) (tn : Nat → Heap → Prop) (s : Shared) (Nx : Hp → Prop), Inv X pins σ H s → Turn X.prog X.w X.K t J fp it tn → tn 0 s.heap → (∀ b ∈ fp, FpOk X pins H b) →
      loopR (innR D te cs) g tt vs σ J H Nx → codeAny (model X.prog X.w) X.A (.compLoop (.ListComp elt (pre ++ ⟨t, i, ifs, 0⟩ :: gs) scope pos) pre.length (.ref it) (.ref D) X.env) (fun r s' => match r with
        | .ok _ => ∃ H', Inv X pins (wipe σ vs) H' s' ∧ (∀ b ∈ fp, H' b = none) ∧ Nx H'
        | .error _ => False) s := by
  intro cs
  induction cs with
  | nil =>
    intro gs pre t i ifs g tt vs hcs pg pt pins σ H J it fp tn s Nx I T st hf hl
    cases hcs
    obtain ⟨W, ⟨m0, w0⟩, turn⟩ := hl
    have again : ∀ {H' : Hp}, (∀ b ∈ fp, H' b = none) → ∀ b ∈ fp, FpOk X pins H' b := fun hn b hb => ⟨hn b hb, (hf b hb).2⟩
    refine loop_end (n := pre.length) (t := t) (i := i) (ifs := ifs) (by simp) (by simp) (fun k s' => ∃ i H', Inv X pins (wipe σ vs) H' s' ∧ tn i s'.heap ∧ (∀ b ∈ fp, H' b = none) ∧ W i k H') ?_ m0 ⟨0, H, I.weak (wipe_length _ _) (fun j v e => (wipe_some e).1), st, fun b hb => (hf b hb).1, w0⟩
    rintro k s1 ⟨i1, H1, I1, st1, n1, w1⟩
    rcases turn i1 k H1 w1 with ⟨stop, nx⟩ | ⟨go, N1, back, step⟩
    · refine thnF (T.done X rfl rfl rfl hc i1 pins s1 _ H1 NoE I1 (again n1) st1 stop) fun r s2 ⟨hr, I2⟩ => ?_
      subst hr
      exact ⟨H1, I2, n1, nx⟩
    · refine thnF (T.item X rfl rfl rfl hc i1 pins s1 _ H1 NoE I1 (again n1) st1 go) fun r s2 ⟨u, hr, h2⟩ => ?_
      subst hr
      refine thnF h2 fun _ s3 ⟨x, H3, I3, r3, y3, st3, n3⟩ => ?_
      have I3' := I3.pinned (again n3) (T.obj _ _ st3)
      have g3 := pg.run _ s3 _ H3 x u _ I3' r3 (step x H3 y3)
      rw [hx] at g3
      refine thnF g3 fun _ s4 ⟨σ4, H4, I4, w4, q4⟩ => ?_
      have t4 := pt.run _ s4 σ4 H4 _ I4 q4
      rw [hx] at t4
      refine thnF t4 fun b s5 ⟨H5, I5, q5⟩ => ?_
      have fin : ∀ {s' : Shared} {H' : Hp}, Inv X (pins ++ pinsAt fp s3.heap) σ4 H' s' → N1 H' → ∃ m, m < k ∧ ∃ i H', Inv X pins (wipe σ vs) H' s' ∧ tn i s'.heap ∧ (∀ b ∈ fp, H' b = none) ∧ W i m H' := fun {s' H'} I' nx => by
        obtain ⟨m', hm, w'⟩ := back H' nx
        have held : ∀ b ∈ fp, ∀ o, s3.heap.get? b = some o → s'.heap.get? b = some o ∧ H' b = none := fun b hb o e =>
          let z := I'.pin (b, o) (List.mem_append_right _ (List.mem_append_right _ (mem_pinsAt hb e)))
          ⟨z.1, z.2.1⟩
        refine ⟨m', hm, i1 + 1, H', I'.unpinned.weak (by rw [← w4, wipe_length]) (fun j v e => by rw [← w4] at e; exact (wipe_some e).1), T.keep _ _ _ st3 fun b hb o e => (held b hb o e).1, fun b hb => ?_, w'⟩
        obtain ⟨o, e, _⟩ := T.obj _ _ st3 b hb
        exact (held b hb o e).2
      cases b with
      | false =>
        rw [if_neg Bool.false_ne_true] at q5 ⊢
        exact fin I5 q5
      | true =>
        rw [if_pos rfl] at q5 ⊢
        have e5 := pe.run _ s5 σ4 H5 _ I5 q5
        rw [hx] at e5
        refine thnF e5 fun z s6 ⟨yv, H6, I6, r6, acc, hD6, hz6, nx⟩ => ?_
        exact app_ok I6 hD6 hz6 r6 fun s7 I7 => fin I7 nx
  | cons c cs ih =>
    intro gs pre t i ifs g tt vs hcs pg pt pins σ H J it fp tn s Nx I T st hf hl
    cases hcs with
    | @cons _ _ t1 i1 ifs1 gs1 _ ck hv hcs1 =>
    obtain ⟨W, ⟨m0, w0⟩, turn⟩ := hl
    have again : ∀ {H' : Hp}, (∀ b ∈ fp, H' b = none) → ∀ b ∈ fp, FpOk X pins H' b := fun hn b hb => ⟨hn b hb, (hf b hb).2⟩
    refine loop_mid (n := pre.length) (t := t) (i := i) (ifs := ifs) (t1 := t1) (i1 := i1) (ifs1 := ifs1) (by simp) (by simp) ck.fs (fun k s' => ∃ i H', Inv X pins (wipe σ vs) H' s' ∧ tn i s'.heap ∧ (∀ b ∈ fp, H' b = none) ∧ W i k H') ?_ m0 ⟨0, H, I.weak (wipe_length _ _) (fun j v e => (wipe_some e).1), st, fun b hb => (hf b hb).1, w0⟩
    rintro k s1 ⟨j1, H1, I1, st1, n1, w1⟩
    rcases turn j1 k H1 w1 with ⟨stop, nx⟩ | ⟨go, N1, back, step⟩
    · refine thnF (T.done X rfl rfl rfl hc j1 pins s1 _ H1 NoE I1 (again n1) st1 stop) fun r s2 ⟨hr, I2⟩ => ?_
      subst hr
      exact ⟨H1, I2, n1, nx⟩
    · refine thnF (T.item X rfl rfl rfl hc j1 pins s1 _ H1 NoE I1 (again n1) st1 go) fun r s2 ⟨u, hr, h2⟩ => ?_
      subst hr
      refine thnF h2 fun _ s3 ⟨x, H3, I3, r3, y3, st3, n3⟩ => ?_
      have I3' := I3.pinned (again n3) (T.obj _ _ st3)
      have g3 := pg.run _ s3 _ H3 x u _ I3' r3 (step x H3 y3)
      rw [hx] at g3
      refine thnF g3 fun _ s4 ⟨σ4, H4, I4, w4, q4⟩ => ?_
      have t4 := pt.run _ s4 σ4 H4 _ I4 q4
      rw [hx] at t4
      refine thnF t4 fun b s5 ⟨H5, I5, q5⟩ => ?_
      have fin : ∀ {σ' : L2.St} {s' : Shared} {H' : Hp}, Inv X (pins ++ pinsAt fp s3.heap) σ' H' s' → (wipe σ vs).length = σ'.length → (∀ (j : Nat) v, (wipe σ vs)[j]? = some (some v) → σ'[j]? = some (some v)) → N1 H' →
          ∃ m, m < k ∧ ∃ i H', Inv X pins (wipe σ vs) H' s' ∧ tn i s'.heap ∧ (∀ b ∈ fp, H' b = none) ∧ W i m H' := fun {σ' s' H'} I' hl hk nx => by
        obtain ⟨m', hm, w'⟩ := back H' nx
        have held : ∀ b ∈ fp, ∀ o, s3.heap.get? b = some o → s'.heap.get? b = some o ∧ H' b = none := fun b hb o e =>
          let z := I'.pin (b, o) (List.mem_append_right _ (List.mem_append_right _ (mem_pinsAt hb e)))
          ⟨z.1, z.2.1⟩
        refine ⟨m', hm, j1 + 1, H', I'.unpinned.weak hl hk, T.keep _ _ _ st3 fun b hb o e => (held b hb o e).1, fun b hb => ?_, w'⟩
        obtain ⟨o, e, _⟩ := T.obj _ _ st3 b hb
        exact (held b hb o e).2
      have len4 : (wipe σ vs).length = σ4.length := by rw [← w4, wipe_length]
      cases b with
      | false =>
        rw [if_neg Bool.false_ne_true] at q5 ⊢
        exact fin I5 len4 (fun j v e => by rw [← w4] at e; exact (wipe_some e).1) q5
      | true =>
        rw [if_pos rfl] at q5 ⊢
        have e5 := ck.pi.run _ s5 σ4 H5 _ I5 q5
        rw [hx] at e5
        refine thnF e5 fun xv s6 h6 => thnF h6 fun itv s7 h7 => ?_
        obtain ⟨it1, fp1, tn1, J1, H7, e7, I7, T1, st7, f7, lr⟩ := h7
        subst e7
        have inner := ih gs1 (pre ++ [⟨t, i, ifs, 0⟩]) t1 i1 ifs1 c.g c.tt c.vs hcs1 ck.pg ck.pt _ σ4 H7 J1 it1 fp1 tn1 s7 N1 I7 T1 st7 f7 lr
        rw [List.length_append, List.length_singleton, List.append_assoc, List.singleton_append] at inner
        have inner2 : codeAny (model X.prog X.w) X.A (.compLoop (.ListComp elt (pre ++ ⟨t, i, ifs, 0⟩ :: ⟨t1, i1, ifs1, 0⟩ :: gs1) scope pos) (pre.length + 1) (.ref it1) (.ref D) X.env) (fun r s' => match r with
            | .ok _ => ∃ m, m < k ∧ ∃ i H', Inv X pins (wipe σ vs) H' s' ∧ tn i s'.heap ∧ (∀ b ∈ fp, H' b = none) ∧ W i m H'
            | .error _ => False) s7 := codeAny_mono inner fun r s' hr => by
          match r, hr with
          | .ok f, ⟨H8, I8, _, nx⟩ =>
            refine fin I8 (len4.trans (wipe_length σ4 c.vs).symm) (fun j v e => ?_) nx
            rw [← w4] at e
            obtain ⟨e1, e2⟩ := wipe_some e
            rw [wipe_off fun z => e2 (hv j z)]
            exact e1
        exact start_any (t := t1) (i := i1) (ifs := ifs1) (by simp) inner2 (T1.self X.A 0 _ _ _ st7 inner2)
end
/-! ### the comprehension -/
def tLcN (wi : TI) (g : TG) (tt : TT) (cs : List ClN) (te : TE) (vs : List Nat) : TE := fun σ H Q => wi σ H fun J H1 => ∀ D, H1 D = none → loopR (innR D te cs) g tt vs σ J (upd H1 D (.lst [])) fun H' => Q (.ref D) H'
theorem loopR_wipe {inn : L2.St → Hp → (Hp → Prop) → Prop} {g : TG} {tt : TT} {vs : List Nat} {σ : L2.St} {J : It} {H : Hp} {Nx : Hp → Prop} (h : loopR inn g tt vs σ J H Nx) : loopR inn g tt vs (wipe σ vs) J H Nx := by
  unfold loopR
  simp only [wipe_idem]
  exact h
theorem pe_lcN {X : Cx} {elt tg iter : Expr} {ifs : List Expr} {gs : List Comprehension} {scope : Scope} {own : List (Str × Nat)} {pos : Pos} {wi : TI} {g : TG} {tt : TT} {te : TE} {cs : List ClN} (hc : X.calm = true) (hN : X.N.Nodup) (hi : PI X tg iter wi) (ok : BlkOk X.N X.env.scope scope own)
    (hb : ∀ (s : Shared) (H : Hp) (C : Addr) (cl : List (Str × Addr)) (fp : List Addr), PG (X.blk s H scope (compEnvC scope cl C X.env) fp) tg g ∧ PTs (X.blk s H scope (compEnvC scope cl C X.env) fp) ifs tt ∧ PE (X.blk s H scope (compEnvC scope cl C X.env) fp) elt te ∧ ClsN (X.blk s H scope (compEnvC scope cl C X.env) fp) (own.map (·.2)) gs cs)
    (hs : ∀ x, foldedSetIterable iter X.env x = pure x := by intro _; rfl) : PE X (.ListComp elt (⟨tg, iter, ifs, 0⟩ :: gs) scope pos) (tLcN wi g tt cs te (own.map (·.2))) := by
  refine ⟨fun pins s σ H Q I h => ?_⟩
  rw [eval_ListComp]
  have caught : ∀ y ∈ scope.names, y.2 = .free → ∃ c, X.env.cells.lookup y.1 = some c := fun y hy e => (ok.free y hy e).elim (fun k => I.ok.has _ (.inl k)) fun k => I.ok.has _ (.inr k)
  refine wpAny_comprehension_free (use := none) rfl hs (closure_ok caught) ok.kind (fun y hy e => by rw [ok.uniq y hy, e]) (thn (hi.run pins s σ H _ I h) fun xv s1 h1 => thn h1 fun itv s2 h2 => ?_)
  obtain ⟨it, fp, tn, J, H2, ev, I2, T, st2, f2, lp⟩ := h2
  subst ev
  refine wpAny_newObj_type (newEnv_comp ?_) (by show 0 ≤ sizeLine; decide)
  have nD : H2 s2.heap.objs.size = none := I2.hok.fresh (Nat.le_refl _)
  have lp2 := loopR_wipe (lp s2.heap.objs.size nD)
  generalize hD : s2.heap.objs.size = D at nD lp2 ⊢
  obtain ⟨s3, es3⟩ : ∃ s3 : Shared, s3 = { s2 with heap := s2.heap.push { cls := .type "list", data := .seq ([] : List Value).toArray } } := ⟨_, rfl⟩
  rw [← es3]
  have I3 : Inv X pins σ (upd H2 D (.lst [])) s3 := by
    rw [es3]
    exact I2.laid (t' := s2.toks) (fun b o e => Heap.get?_push_of_some _ e) (Nat.le_of_eq hD) ⟨Nat.zero_le _, [], 0, .nil, by rw [← hD]; exact Heap.get?_push_size _ rfl⟩
  have eh3 : s3.heap = s2.heap.push { cls := .type "list", data := .seq ([] : List Value).toArray } := by rw [es3]
  have f3 : ∀ b ∈ fp, FpOk X pins (upd H2 D (.lst [])) b ∧ b < s3.heap.objs.size := fun b hbb => by
    have lt : b < s2.heap.objs.size := by
      obtain ⟨o, e, _⟩ := T.obj _ _ st2 b hbb
      exact Heap.lt_size e
    exact ⟨⟨by rw [upd_ne (by rw [← hD]; exact Nat.ne_of_lt lt)]; exact (f2 b hbb).1, (f2 b hbb).2⟩, by rw [eh3, Heap.size_push]; exact Nat.lt_succ_of_lt lt⟩
  have st3 : tn 0 s3.heap := T.keep _ _ _ st2 fun b _ o e => by rw [eh3]; exact Heap.get?_push_of_some _ e
  have I4 := block_start I3 ok hN f3
  obtain ⟨pg, pt, pe, pc⟩ := hb s3 (upd H2 D (.lst [])) s3.heap.objs.size (cellsFrom (s3.heap.objs.size + 1) scope.names (cloFrom X.env.cells scope.names [])) fp
  obtain ⟨ce, ece⟩ : ∃ ce, ce = compEnvC scope (cellsFrom (s3.heap.objs.size + 1) scope.names (cloFrom X.env.cells scope.names [])) s3.heap.objs.size X.env := ⟨_, rfl⟩
  have cL : ce.locals = s3.heap.objs.size := by rw [ece] <;> rfl
  show codeAny _ _ (.compStart (.ListComp elt (⟨tg, iter, ifs, 0⟩ :: gs) scope pos) 0 (.ref it) (.ref D) (compEnvC scope (cellsFrom (s3.heap.objs.size + 1) scope.names (cloFrom X.env.cells scope.names [])) s3.heap.objs.size X.env)) (compPost (model X.prog X.w) X.A X.xe none _ (.ref D) s3.heap.objs.size) _
  rw [← ece] at I4 pg pt pe pc ⊢
  obtain ⟨s4, es4⟩ : ∃ s4 : Shared, s4 = { s3 with heap := pushCells (s3.heap.push { cls := .type "dict", data := .dict #[] }) scope.names } := ⟨_, rfl⟩
  rw [← es4] at I4
  have st4 : tn 0 s4.heap := T.keep _ _ _ st3 fun b _ o e => by rw [es4]; exact pushCells_keeps _ _ _ _ (Heap.get?_push_of_some _ e)
  have f4 : ∀ b ∈ fp, FpOk (X.blk s3 (upd H2 D (.lst [])) scope ce fp) [] (upd H2 D (.lst [])) b := fun b hbb => ⟨(f3 b hbb).1.1, (I4.ok.exf b hbb).1, I4.ok.exfs b hbb, .inl hbb, fun x c e => (I4.ok.exf b hbb).2 x c e, fun p hp => absurd (show p ∈ ([] : List (Addr × Obj)) ++ [] from hp) (by simp)⟩
  have loop := loopN (X := X.blk s3 (upd H2 D (.lst [])) scope ce fp) (scope := scope) (pos := pos) (D := D) hc rfl pe cs gs [] tg iter ifs g tt (own.map (·.2)) pc pg pt [] _ _ J it fp tn s4 _ I4 T st4 f4 lp2
  have whole : codeAny (model X.prog X.w) X.A (.compLoop (.ListComp elt (⟨tg, iter, ifs, 0⟩ :: gs) scope pos) 0 (.ref it) (.ref D) ce) (compPost (model X.prog X.w) X.A X.xe none (EP X pins σ Q) (.ref D) s3.heap.objs.size) s4 := codeAny_mono loop fun r s5 hr => by
    match r, hr with
    | .ok f, ⟨H5, I5, _, q5⟩ =>
      have I6 : Inv X pins σ H5 s5 := I3.call' (ch := fp) I5.os I5.base I5.hok I5.bare fun b hbb => ⟨(f3 b hbb).1.2.2.2.1, (f3 b hbb).1.2.1, (f3 b hbb).1.2.2.2.2.1, (f3 b hbb).1.2.2.2.2.2⟩
      have nC : H5 s3.heap.objs.size = none := by
        have z : H5 ce.locals = none := I5.free
        rw [cL] at z
        exact z
      obtain ⟨m, hn, _⟩ := I5.loc
      have hn : s5.heap.Ns ce.locals m := hn
      rw [cL] at hn
      obtain ⟨e0, e1, e2, e3, e4, e5⟩ := I3.fpOk (b := s3.heap.objs.size) (H' := H5) (Nat.le_refl _) nC
      exact ⟨m, hn, fun h' sb => ⟨.ref D, H5, I6.turned (t' := s5.toks) (fun b o hb e => (sb.2 b hb).trans e) e0 e1 e3 e4 e5, rfl, q5⟩⟩
  rw [← es4]
  exact codeAny_compStart_list whole (T.self X.A 0 _ _ _ st4 whole)
/-! ### its meaning: the list has the place k in the store -/
/-- one loop over the items: inn what a turn does -/
def lcLp (inn : Sl → Store → Option Store) (u : GF) (t : TF) (ρ : Sl) : List D → Store → Option Store
  | [], st => some st
  | x :: xs, st => match u x ρ st with
    | none => none
    | some (ρ1, st1) => match t ρ1 st1 with
      | .ok true st2 => match inn ρ1 st2 with
        | some st3 => lcLp inn u t ρ xs st3
        | none => none
      | .ok false st2 => lcLp inn u t ρ xs st2
      | _ => none
/-- a clause behind the first -/
structure GD where
  it : AF
  u : GF
  t : TF
  vs : List Nat
def lcIn (k : Nat) (fe : EF) : List GD → Sl → Store → Option Store
  | [], ρ, st => match fe ρ st with
    | .ok d st3 => match st3[k]? with
      | some (.lst acc) => if acc.length < 100000 then some (st3.set k (.lst (acc ++ [d]))) else none
      | _ => none
    | _ => none
  | g :: r, ρ, st => match g.it ρ st with
    | .ok ys st3 => lcLp (lcIn k fe r) g.u g.t (wipeF ρ g.vs) ys st3
    | _ => none
def lcFN (it : AF) (u : GF) (t : TF) (gs : List GD) (fe : EF) (vs : List Nat) : EF := fun ρ st => (it ρ st).bind fun xs st1 => match lcLp (lcIn st1.length fe gs) u t (wipeF ρ vs) xs (st1 ++ [.lst []]) with
  | some st2 => .ok (.ob st1.length) st2
  | none => .bad
variable [TB0]
section
variable {X : Cx} {W : WX} {fe : EF} {pos : Pos} {k : Nat} {Dp : Addr}
def InOk (K : PySem.W.Frag) (k : Nat) (Dp : Addr) (inD : Sl → Store → Option Store) (inR : L2.St → Hp → (Hp → Prop) → Prop) : Prop :=
  ∀ (σ : L2.St) (ρ : Sl) (H : Hp) (m : Mp) (st st' : Store) (Nx : Hp → Prop), SR K H m σ ρ → Rl K m H st → m.m[k]? = some Dp → inD ρ st = some st' → (∀ H' m', Ext m H m' H' → Rl K m' H' st' → Nx H') → inR σ H Nx
theorem Ext.at_ {m m' : Mp} {H H' : Hp} (e : Ext m H m' H') {k : Nat} {a : Addr} (h : m.m[k]? = some a) : m'.m[k]? = some a := by
  obtain ⟨tl, ht⟩ := e.pre
  rw [← ht, List.getElem?_append_left (List.getElem?_eq_some_iff.mp h).1]
  exact h
theorem lp_ok {u : GF} {own' vs : List Nat} {t : TF} {inD : Sl → Store → Option Store} {inR : L2.St → Hp → (Hp → Prop) → Prop} (hown : ∀ i ∈ own', i ∈ vs) (hin : InOk X.K k Dp inD inR) :
    ∀ (σ : L2.St) (ρ : Sl) (H : Hp) (m : Mp) (J : It) (ds : List D) (st st' : Store) (Nx : Hp → Prop), ItOk X.K H m J ds → SR X.K H m σ ρ → Rl X.K m H st → m.m[k]? = some Dp → lcLp inD u t (wipeF ρ vs) ds st = some st' →
      (∀ H' m', Ext m H m' H' → Rl X.K m' H' st' → Nx H') → loopR inR (tSG X u own') (tST X W0 t) vs σ J H Nx := by
  intro σ ρ H m J ds st st' Nx io s r hk hl nx
  refine ⟨fun i n H2 => n = ds.length - i ∧ i ≤ ds.length ∧ ∃ st2 m2, Ext m H m2 H2 ∧ Rl X.K m2 H2 st2 ∧ lcLp inD u t (wipeF ρ vs) (ds.drop i) st2 = some st', ⟨ds.length, rfl, Nat.zero_le _, st, m, Ext.refl _ _, r, hl⟩, fun i n H2 hW => ?_⟩
  obtain ⟨hn, hi, st2, m2, e2, r2, h2⟩ := hW
  obtain ⟨stop, at_⟩ := io m2 H2 e2
  by_cases hlen : i = ds.length
  · subst hlen
    rw [List.drop_length] at h2
    cases h2
    exact .inl ⟨stop, nx H2 m2 e2 r2⟩
  · have hlt : i < ds.length := by omega
    obtain ⟨go, yld⟩ := at_ i ds[i] (List.getElem?_eq_getElem hlt)
    rw [List.drop_eq_getElem_cons hlt] at h2
    unfold lcLp at h2
    refine .inr ⟨go, fun H3 => ∃ st2 m2, Ext m H m2 H3 ∧ Rl X.K m2 H3 st2 ∧ lcLp inD u t (wipeF ρ vs) (ds.drop (i + 1)) st2 = some st', fun H3 h3 => ⟨ds.length - (i + 1), by omega, rfl, by omega, h3⟩, fun x H3 hy => ?_⟩
    obtain ⟨e3, rl3⟩ := yld x H3 hy
    obtain ⟨r3, p3⟩ := rl3 _ r2
    cases z : u ds[i] (wipeF ρ vs) st2 with
    | none => rw [z] at h2; cases h2
    | some w =>
      obtain ⟨ρ4, st4⟩ := w
      rw [z] at h2
      dsimp only at h2
      refine ⟨ds[i], _, st2, m2, ρ4, st4, ((s.up e2).up e3).wipe _, r3, p3, z, fun σ4 H4 m4 e4 r4 s4 w4 => ⟨(w4 _ hown).trans (wipe_idem σ _), ρ4, st4, m4, s4, r4, ?_⟩⟩
      have e24 := (e2.trans e3).trans e4
      cases z2 : t ρ4 st4 with
      | exc c fs st5 => rw [z2] at h2; cases h2
      | bad => rw [z2] at h2; cases h2
      | ok b st5 =>
        rw [z2] at h2
        intro v5 H5 m5 e5 r5 p5
        obtain rfl : v5 = b := p5
        cases v5 with
        | false =>
          rw [if_neg Bool.false_ne_true]
          exact ⟨st5, m5, e24.trans e5, r5, h2⟩
        | true =>
          rw [if_pos rfl]
          dsimp only at h2
          cases z3 : inD ρ4 st5 with
          | none => rw [z3] at h2; cases h2
          | some st6 =>
            rw [z3] at h2
            exact hin σ4 ρ4 H5 m5 st5 st6 _ (s4.up e5) r5 ((e24.trans e5).at_ hk) z3 fun H6 m6 e6 r6 => ⟨st6, m6, (e24.trans e5).trans e6, r6, h2⟩
theorem in_end : InOk X.K k Dp (lcIn k fe []) (innR Dp (tSE X W0 fe) []) := by
  intro σ ρ H m st st' Nx s r hk h nx
  unfold lcIn at h
  refine ⟨ρ, st, m, s, r, ?_⟩
  cases z : fe ρ st with
  | exc c fs st1 => rw [z] at h; cases h
  | bad => rw [z] at h; cases h
  | ok d st1 =>
    rw [z] at h
    dsimp only at h
    intro v1 H1 m1 e1 r1 p1
    have k1 := e1.at_ hk
    cases y : st1[k]? with
    | none => rw [y] at h; cases h
    | some o =>
      rw [y] at h
      cases o with
      | lst acc =>
        dsimp only at h
        obtain ⟨a', vs, ea, hm2, hH, hv⟩ := store_lst r1 (.ob k1) y
        cases ea
        by_cases hlen : acc.length < 100000
        · rw [if_pos hlen] at h
          cases h
          obtain ⟨x3, r3⟩ := r1.wlst (vs := vs ++ [v1]) hm2 (hv.append (.cons p1 .nil))
          exact ⟨vs, hH, by rw [hv.length]; exact cap_lt hlen, nx _ m1 (e1.trans x3) r3⟩
        · rw [if_neg hlen] at h
          cases h
      | _ => cases h
theorem in_mid {g : GD} {r : List GD} {own' : List Nat} {cs : List ClN} (hown : ∀ i ∈ own', i ∈ g.vs) (hin : InOk X.K k Dp (lcIn k fe r) (innR Dp (tSE X W0 fe) cs)) : InOk X.K k Dp (lcIn k fe (g :: r)) (innR Dp (tSE X W0 fe) (⟨tSI X W0 g.it, tSG X g.u own', tST X W0 g.t, g.vs⟩ :: cs)) := by
  intro σ ρ H m st st' Nx s rl hk h nx
  unfold lcIn at h
  refine ⟨ρ, st, m, s, rl, ?_⟩
  cases z : g.it ρ st with
  | exc c fs st1 => rw [z] at h; cases h
  | bad => rw [z] at h; cases h
  | ok ys st1 =>
    rw [z] at h
    dsimp only at h
    intro J H1 m1 e1 r1 p1
    exact lp_ok (X := X) hown hin σ ρ H1 m1 J ys st1 st' Nx p1 (s.up e1) r1 (e1.at_ hk) h fun H' m' e r => nx H' m' (e1.trans e) r
end
/-- the clauses behind the first mean ds; vs the names of those ahead -/
inductive SCl (X : Cx) (scope : Scope) : List Nat → List Comprehension → List GD → List ClN → Prop
  | nil {vs : List Nat} : SCl X scope vs [] [] []
  | cons {vs own' : List Nat} {g : GD} {t i : Expr} {ifs : List Expr} {gs : List Comprehension} {ds : List GD} {cs : List ClN} (hi : ∀ (s : Shared) (H : Hp) (C : Addr) (cl : List (Str × Addr)) (fp : List Addr), SI (X.blk s H scope (compEnvC scope cl C X.env) fp) W0 t i g.it)
      (hg : ∀ (s : Shared) (H : Hp) (C : Addr) (cl : List (Str × Addr)) (fp : List Addr), SG (X.blk s H scope (compEnvC scope cl C X.env) fp) t g.u own') (ht : ∀ (s : Shared) (H : Hp) (C : Addr) (cl : List (Str × Addr)) (fp : List Addr), SIf (X.blk s H scope (compEnvC scope cl C X.env) fp) W0 ifs g.t)
      (hv : ∀ j ∈ g.vs, j ∈ vs) (ho : ∀ j ∈ own', j ∈ g.vs) (fs : ∀ env x, foldedSetIterable i env x = pure x) (r : SCl X scope g.vs gs ds cs) : SCl X scope vs (⟨t, i, ifs, 0⟩ :: gs) (g :: ds) (⟨tSI X W0 g.it, tSG X g.u own', tST X W0 g.t, g.vs⟩ :: cs)
section
variable {X : Cx} {W : WX} {fe : EF} {pos : Pos} {k : Nat} {Dp : Addr}
theorem SCl.cls {scope : Scope} {vs : List Nat} {gs : List Comprehension} {ds : List GD} {cs : List ClN} (h : SCl X scope vs gs ds cs) (s : Shared) (H : Hp) (C : Addr) (cl : List (Str × Addr)) (fp : List Addr) : ClsN (X.blk s H scope (compEnvC scope cl C X.env) fp) vs gs cs := by
  induction h with
  | nil => exact .nil
  | cons hi hg ht hv ho fs r ih => exact .cons ⟨(hi s H C cl fp).pi, (hg s H C cl fp).pg, (ht s H C cl fp).pts, fun x => fs _ x⟩ hv ih
theorem SCl.inn {scope : Scope} {vs : List Nat} {gs : List Comprehension} {ds : List GD} {cs : List ClN} (h : SCl X scope vs gs ds cs) : InOk X.K k Dp (lcIn k fe ds) (innR Dp (tSE X W0 fe) cs) := by
  induction h with
  | nil => exact in_end
  | cons hi hg ht hv ho fs r ih => exact in_mid ho ih
theorem se_lcN {elt tg iter : Expr} {ifs : List Expr} {gs : List Comprehension} {scope : Scope} {own : List (Str × Nat)} {own' : List Nat} {it : AF} {u : GF} {t : TF} {ds : List GD} {cs : List ClN} (hc : X.calm = true) (hN : X.N.Nodup) (hi : SI X W tg iter it) (ok : BlkOk X.N X.env.scope scope own)
    (hg : ∀ (s : Shared) (H : Hp) (C : Addr) (cl : List (Str × Addr)) (fp : List Addr), SG (X.blk s H scope (compEnvC scope cl C X.env) fp) tg u own') (ht : ∀ (s : Shared) (H : Hp) (C : Addr) (cl : List (Str × Addr)) (fp : List Addr), SIf (X.blk s H scope (compEnvC scope cl C X.env) fp) W0 ifs t)
    (he : ∀ (s : Shared) (H : Hp) (C : Addr) (cl : List (Str × Addr)) (fp : List Addr), SE (X.blk s H scope (compEnvC scope cl C X.env) fp) W0 elt fe) (hr : SCl X scope (own.map (·.2)) gs ds cs) (hown : ∀ i ∈ own', i ∈ own.map (·.2) := by decide) (hs : ∀ x, foldedSetIterable iter X.env x = pure x := by intro _; rfl) :
    SE X W (.ListComp elt (⟨tg, iter, ifs, 0⟩ :: gs) scope pos) (lcFN it u t ds fe (own.map (·.2))) := by
  obtain ⟨wi, pi, qi⟩ := hi
  refine ⟨_, pe_lcN (g := tSG X u own') (tt := tST X W0 t) (te := tSE X W0 fe) (cs := cs) hc hN pi ok (fun s H C cl fp => ⟨(hg s H C cl fp).pg, (ht s H C cl fp).pts, (he s H C cl fp).pe, hr.cls s H C cl fp⟩) hs, fun σ H ρ st m Q s r h => qi σ H ρ st m _ s r (h.mp fun xs st1 J H1 m1 e1 r1 p1 h1 => fun Dp hD => ?_)⟩
  have s1 := s.up e1
  have eP : Ext m1 H1 (m1.push Dp) (upd H1 Dp (.lst [])) := Ext.push hD
  have rP : Rl X.K (m1.push Dp) (upd H1 Dp (.lst [])) (st1 ++ [.lst []]) := r1.push hD ⟨[], upd_same, .nil⟩
  have kP : (m1.push Dp).m[st1.length]? = some Dp := by
    unfold Mp.push
    rw [← r1.len, List.getElem?_append_right (Nat.le_refl _), Nat.sub_self]
    rfl
  cases z : lcLp (lcIn st1.length fe ds) u t (wipeF ρ (own.map (·.2))) xs (st1 ++ [.lst []]) with
  | none => rw [z] at h1; exact h1.elim
  | some st2 =>
    rw [z] at h1
    exact lp_ok (X := X) hown (hr.inn (fe := fe)) σ ρ _ _ J xs _ st2 _ (p1.up eP) (s1.up eP) rP kP z fun H' m' e r => (show PostV X.K m1 H1 Rep Q (.ob st1.length) st2 from h1) (.ref Dp) H' m' (eP.trans e) r (.ob (e.at_ kP))
end
end DX

/-! DX H: exceptions held as values: made, asked for their classes and fields; repr of what holds empty dicts -/
namespace DX
open PySem PySem.Spec PyProof.Rows L2
variable [TB0]
/-- C(e), a class whose objects keep nothing -/
def eMk0 (c : String) (fe : EF) : EF := fun ρ st => (fe ρ st).bind fun _ st1 => .ok (.exc c [] []) st1
section
variable {X : Cx} {W : WX} {c : String} {C : Addr} {e : Expr} {fe : EF} {x : Str} {p pos : Pos} {B newId initId : String}
theorem se_mk0 (hC : ClAt X.K c C) (hq : ∃ bm, ExcBaseFacts B newId initId bm ∧ PySem.W.excIn X.K C bm newId = true) (gC : X.mg x = some (.ref C)) (kC : PySem.W.keepIn X.K (.ref C) = true) (hg : Gl X x) (h : SE X W e fe)
    (hs : starEach [e] X.env = (false, eval e X.env) :: starEach [] X.env := by rfl) (hdb : (x == ("__debug__" : Str)) = false := by decide) : SE X W (.Call (.Name x p) [e] [] pos) (eMk0 c fe) := by
  obtain ⟨bm, F, q⟩ := hq
  obtain ⟨t, pe, hh⟩ := h
  refine ⟨_, pe_exc1 F q gC kC hg pe hs hdb, fun σ H ρ st m Q s r k => hh σ H ρ st m _ s r (k.mp fun d st1 v H1 m1 e1 r1 p1 h1 => fun a na => ?_)⟩
  have x1 : Ext m1 H1 m1 (upd H1 a (ExO (.ref C) a)) := Ext.laid na
  exact h1 _ _ m1 x1 (r1.laid na) (.exc (dx := none) (vs := []) hC upd_same (r1.fresh na) ⟨rfl, rfl⟩ .nil)
end
/-! ### where an exception stands -/
theorem exc_rep {K : PySem.W.Frag} {H : Hp} {m : Mp} {v : V} {c : String} {fs : List Str} {ds : List D} (p : Rep K H m v (.exc c fs ds)) : ∃ (a C : Addr) (dx : Option Addr) (vs : List V), v = .ref a ∧ ClAt K c C ∧ H a = some (ExG (.ref C) dx a) ∧ XdAt H m dx fs vs ∧ RepL K H m vs ds := by
  cases p with
  | exc h1 h2 h3 h4 h5 => exact ⟨_, _, _, _, rfl, h1, h2, h4, h5⟩
/-- its dict, if it has one -/
def XdH (H : Hp) (dx : Option Addr) (fvs : List (Str × V)) : Prop := match dx with
  | none => fvs = []
  | some d => H d = some (.xd fvs)
theorem XdAt.h {H : Hp} {m : Mp} {dx : Option Addr} {fs : List Str} {vs : List V} (x : XdAt H m dx fs vs) : XdH H dx (fs.zip vs) := by
  obtain ⟨h1, h2⟩ := x
  cases dx with
  | none =>
    subst h2
    rfl
  | some d => exact h2.1
section
variable {X : Cx} {pins : List (Addr × Obj)} {σ : L2.St} {H : Hp} {s : Shared} {a C : Addr} {dx : Option Addr} {fvs : List (Str × V)}
theorem exc_inst (I : Inv X pins σ H s) (e : H a = some (ExG (.ref C) dx a)) (x : XdH H dx fvs) : ∃ (ox : Obj) (od : Option Obj), PySem.W.InstAt s.heap a ox C od ∧ ∀ f v, fvs.lookup f = some v → ∃ o u, od = some o ∧ RelV v u ∧ PySem.W.lookIn f o = some (some u) := by
  obtain ⟨ox, vs, ho, ⟨z1, z2⟩, hd, _, _, _⟩ := exg_at I.hok e
  have hn : PySem.W.notCls ox = true := by
    unfold PySem.W.notCls
    rw [hd]
  cases dx with
  | none =>
    have x' : fvs = [] := x
    subst x'
    exact ⟨ox, none, ⟨ho, z1, hn, by rw [z2]; trivial⟩, fun f v l => by cases l⟩
  | some d =>
    have hx : ObjOk X.prog X.w H s.heap d (.xd fvs) := I.hok d _ x
    obtain ⟨mA, hns, hr⟩ := hx
    obtain ⟨o, q, hl⟩ := lookIn_ns hns
    refine ⟨ox, some o, ⟨ho, z1, hn, by rw [z2]; exact q⟩, fun f v l => ?_⟩
    obtain ⟨u, hu, ru⟩ := RelO.some_of (v := v) (o := mA f) (by rw [← l]; exact hr f)
    exact ⟨o, u, rfl, ru, by rw [hl, hu]⟩
end
/-! ### isinstance of exceptions -/
/-- the exception classes ES are as they are to be -/
def ExcT (K : PySem.W.Frag) (ES : List String) : Prop := ∀ c ∈ ES, ∃ C, ClAt K c C ∧ ExcC K C
/-- what isinstance says of the classes ES, asked for tv -/
def IsExc (K : PySem.W.Frag) (ES : List String) (has : String → Bool) (tv : Value) : Prop := ∀ c ∈ ES, ∀ C, ClAt K c C → PySem.W.kitOne K (.ref C) tv = some (has c)
def eIsE (ES : List String) (has : String → Bool) (fe : EF) : EF := fun ρ st => (fe ρ st).bind fun d st1 => match d with
  | .exc c _ _ => if c ∈ ES then .ok (.bl (has c)) st1 else .bad
  | _ => .bad
/-- the reading of the call -/
def rIsX (K : PySem.W.Frag) : List V → Hp → VK → Prop := fun xs H Q => ∃ (a C : Addr) (dx : Option Addr) (fvs : List (Str × V)) (c : V) (cv : Value) (b : Bool), xs = [.ref a, c] ∧ ClsV c cv ∧ H a = some (ExG (.ref C) dx a) ∧ XdH H dx fvs ∧ ExcC K C ∧ PySem.W.kitOne K (.ref C) cv = some b ∧ Q (.bl b) H
theorem call_isX {X : Cx} : CallR X (.builtin "isinstance") (rIsX X.K) := by
  intro pins s σ H xs us Q I r h
  obtain ⟨a, C, dx, fvs, c, cv, b, rfl, k, ea, xd, T, hk, q⟩ := h
  obtain ⟨u1, u2, rfl, r1, r2⟩ := vals2 r
  have e2 := k.eq r2
  subst e2
  cases r1
  obtain ⟨ox, od, J, _⟩ := exc_inst I ea xd
  have hcl : (PySem.W.clsIn X.K C).isSome = true := by
    have z := T.hd
    unfold PySem.W.hasDictIn at z
    cases y : PySem.W.clsIn X.K C with
    | none => rw [y] at z; exact absurd z (by decide)
    | some cd => rfl
  exact PySem.W.kia_one (PySem.W.kitx_exc hcl T.hg T.hk T.hs T.ha T.hn T.ht T.hm) I.kIn J hk (fun z => nomatch z) fun tk => ⟨.bl b, H, I.tok tk, rfl, q⟩
section
variable {X : Cx} {W : WX} {e : Expr} {fe : EF} {ES : List String} {has : String → Bool} {pos : Pos}
theorem se_isE {ce : Expr} {cv : V} {tv : Value} {p : Pos} (T : ExcT X.K ES) (hF : IsExc X.K ES has tv) (hcv : ClsV cv tv) (hce : PE X ce (fun _ H Q => Q cv H)) (hg : Gl X "isinstance") (hm : X.mg "isinstance" = none) (h : SE X W e fe)
    (h3 : starEach [e, ce] X.env = (false, eval e X.env) :: starEach [ce] X.env := by rfl) (h5 : starEach [ce] X.env = (false, eval ce X.env) :: starEach [] X.env := by rfl) (h4 : (backTo pos (starEach [ce] X.env)).any (·.1) = false := by rfl) :
    SE X W (.Call (.Name "isinstance" p) [e, ce] [] pos) (eIsE ES has fe) := by
  obtain ⟨te, pe, q⟩ := h
  refine ⟨_, pe_callB call_isX hg hm (by decide +kernel) (pa_cons pe (pa_cons hce pa_nil h5) h3) (by decide) (by decide) h3 h4, fun σ H ρ st m Q s r h => q σ H ρ st m _ s r (h.mp fun d st1 v H1 m1 e1 r1 p1 h1 => ?_)⟩
  cases d with
  | exc c fs ds =>
    dsimp only at h1
    by_cases hc : c ∈ ES
    · rw [if_pos hc] at h1
      obtain ⟨a, C, dx, vs, rfl, g1, g2, g3, g4⟩ := exc_rep p1
      obtain ⟨C', k1, k2⟩ := T c hc
      obtain rfl := g1.eq k1
      exact ⟨a, C, dx, _, cv, tv, has c, rfl, hcv, g2, g3.h, k2, hF c hc C g1, h1.go r1 (.bl _)⟩
    · rw [if_neg hc] at h1
      exact h1.elim
  | _ => exact h1.elim
theorem se_isEB {t : String} {p p2 : Pos} {x : Str} (T : ExcT X.K ES) (hF : IsExc X.K ES has (.type t)) (hg : Gl X "isinstance") (hm : X.mg "isinstance" = none) (hg2 : Gl X x) (hm2 : X.mg x = none) (hb : bootBuiltins x = some (.type t)) (h : SE X W e fe)
    (hn : x ≠ ("__name__" : Str) := by decide) (hd : (x == ("__debug__" : Str)) = false := by decide) (h3 : starEach [e, .Name x p2] X.env = (false, eval e X.env) :: starEach [.Name x p2] X.env := by rfl) (h5 : starEach [.Name x p2] X.env = (false, eval (.Name x p2) X.env) :: starEach [] X.env := by rfl) (h4 : (backTo pos (starEach [.Name x p2] X.env)).any (·.1) = false := by rfl) :
    SE X W (.Call (.Name "isinstance" p) [e, .Name x p2] [] pos) (eIsE ES has fe) := se_isE (cv := .ty t) T hF (.ty _) (pe_bltn hg2 hm2 hb rfl hn hd) hg hm h h3 h5 h4
theorem se_isEO {C : Addr} {p p2 : Pos} {x : Str} (T : ExcT X.K ES) (hF : IsExc X.K ES has (.ref C)) (hg : Gl X "isinstance") (hm : X.mg "isinstance" = none) (hg2 : Gl X x) (hm2 : X.mg x = some (.ref C)) (h : SE X W e fe)
    (hd : (x == ("__debug__" : Str)) = false := by decide) (h3 : starEach [e, .Name x p2] X.env = (false, eval e X.env) :: starEach [.Name x p2] X.env := by rfl) (h5 : starEach [.Name x p2] X.env = (false, eval (.Name x p2) X.env) :: starEach [] X.env := by rfl) (h4 : (backTo pos (starEach [.Name x p2] X.env)).any (·.1) = false := by rfl) :
    SE X W (.Call (.Name "isinstance" p) [e, .Name x p2] [] pos) (eIsE ES has fe) := se_isE (cv := .ref C) T hF (.own _) (pe_glob (v := .ref C) hg2 hm2 rfl hd) hg hm h h3 h5 h4
/-! ### a field of an exception -/
def eFldE (c : String) (f : Str) (fe : EF) : EF := fun ρ st => (fe ρ st).bind fun d st1 => match d with
  | .exc c' fs ds => if c' = c then (match (fs.zip ds).lookup f with
    | some d' => .ok d' st1
    | none => .bad) else .bad
  | _ => .bad
theorem zip_look {K : PySem.W.Frag} {H : Hp} {m : Mp} {f : Str} : ∀ {fs : List Str} {vs : List V} {ds : List D} {d : D}, RepL K H m vs ds → (fs.zip ds).lookup f = some d → ∃ v, (fs.zip vs).lookup f = some v ∧ Rep K H m v d
  | [], _, _, _, _, e => by cases e
  | _ :: _, [], [], _, _, e => by cases e
  | _ :: _, [], _ :: _, _, r, _ => by cases r
  | _ :: _, _ :: _, [], _, r, _ => by cases r
  | g :: fs, v :: vs, d :: ds, d', r, e => by
    cases r with
    | cons r1 r2 =>
      rw [List.zip_cons_cons, List.lookup_cons] at e ⊢
      by_cases h : f = g
      · subst h
        simp only [beq_self_eq_true] at e ⊢
        cases e
        exact ⟨v, rfl, r1⟩
      · have h' : (f == g) = false := by simpa using h
        simp only [h'] at e ⊢
        exact zip_look r2 e
theorem se_fldE {c : String} {C : Addr} {n : Str} (hC : ClAt X.K c C) (T : XfC X.K C) (hno : PySem.W.findIn X.K (.ref C) n = some none) (h : SE X W e fe) (hb : attributeBase e n X.env (eval e X.env) = eval e X.env := by rfl) : SE X W (.Attribute e n pos) (eFldE c n fe) := by
  obtain ⟨te, pe, q⟩ := h
  refine ⟨fun σ H Q => te σ H fun x H1 => ∃ (a : Addr) (dx : Option Addr) (fvs : List (Str × V)) (v : V), x = .ref a ∧ H1 a = some (ExG (.ref C) dx a) ∧ XdH H1 dx fvs ∧ fvs.lookup n = some v ∧ Q v H1, ⟨fun pins s σ H Q I hh => ?_⟩, fun σ H ρ st m Q s r h => q σ H ρ st m _ s r (h.mp fun d st1 v H1 m1 e1 r1 p1 h1 => ?_)⟩
  · refine attr_of hb (thn (pe.run pins s σ H _ I hh) fun u s1 hu => ?_)
    obtain ⟨x, H1, I1, rx, a, dx, fvs, v, rfl, ea, xd, l, q1⟩ := hu
    cases rx
    obtain ⟨ox, od, J, g⟩ := exc_inst I1 ea xd
    obtain ⟨o, w, rfl, rw1, lk⟩ := g n v l
    exact HandSPX.exc_get I1.kIn J T.ga T.gg T.exC (PySem.W.findObj_own T.hdC hno rfl lk) (handed_of rw1) ⟨v, H1, I1.tok _, rw1, q1⟩
  · cases d with
    | exc c' fs ds =>
      dsimp only at h1
      by_cases hc : c' = c
      · rw [if_pos hc] at h1
        subst hc
        obtain ⟨a, C', dx, vs, rfl, g1, g2, g3, g4⟩ := exc_rep p1
        obtain rfl := g1.eq hC
        cases z : (fs.zip ds).lookup n with
        | none => rw [z] at h1; exact h1.elim
        | some d' =>
          rw [z] at h1
          obtain ⟨v', l, rv⟩ := zip_look g4 z
          exact ⟨a, dx, _, v', rfl, g2, g3.h, l, h1.go r1 rv⟩
      · rw [if_neg hc] at h1
        exact h1.elim
    | _ => exact h1.elim
end
end DX

/-! DX R: repr of a list that holds empty dicts, too -/
namespace DX
open PySem PySem.Spec PyProof.Rows L2
variable [TB0]
mutual
/-- u stands for the datum; dicts: empty ones -/
inductive Rdy (h : Heap) : Value → PyData → Prop
  | non : Rdy h .none .none
  | bl (b : Bool) : Rdy h (.bool b) (.bool b)
  | int (i : Int) (t : Tok) : Rdy h (.int i t) (.int i)
  | str (x : Str) (t : Tok) : Rdy h (.str x t) (.str x)
  | lst {a : Addr} {o : Obj} {its : Array Value} {n : Nat} {ds : List PyData} (q1 : h.get? a = some o) (q2 : o.cls = .type "list") (q3 : o.data = .seq its n) (q4 : RdyL h its.toList ds) : Rdy h (.ref a) (.list ds)
  | tup {a : Addr} {o : Obj} {its : Array Value} {n : Nat} {ds : List PyData} (q1 : h.get? a = some o) (q2 : o.cls = .type "tuple") (q3 : o.data = .seq its n) (q4 : RdyL h its.toList ds) : Rdy h (.ref a) (.tuple ds)
  | d0 {a : Addr} {o : Obj} {n : Nat} (q1 : h.get? a = some o) (q2 : o.cls = .type "dict") (q3 : o.data = .dict #[] n) (q4 : (a == sysModules) = false) : Rdy h (.ref a) (.dict [])
inductive RdyL (h : Heap) : List Value → List PyData → Prop
  | nil : RdyL h [] []
  | cons {u : Value} {us : List Value} {d : PyData} {ds : List PyData} : Rdy h u d → RdyL h us ds → RdyL h (u :: us) (d :: ds)
end
section
variable {prog : Program} {w : World} {h : Heap}
/-- what is read and what is shown of it -/
def Shown (prog : Program) (w : World) (h : Heap) (u : Value) (d : PyData) : Prop := (∃ as, Reads h u d as) ∧ ∃ bs, ReadAtMost h d.depth bs ∧ ReprK prog w bs h d.depth u d.shown
def ShownL (prog : Program) (w : World) (h : Heap) (us : List Value) (ds : List PyData) : Prop := (∃ as, ReadsAll h us ds as) ∧ ∃ bs, ReadAtMost h (PyData.depthAll ds) bs ∧ ReprAllK prog w bs h (PyData.depthAll ds) us (PyData.shownAll ds)
mutual
theorem Rdy.go : ∀ (d : PyData) (u : Value), Rdy h u d → d.showable = true → d.shown.length ≤ sizeLine → Shown prog w h u d
  | .none, _, r, _, _ => by
    cases r
    refine ⟨⟨_, .none⟩, [], fun _ z => (nomatch z), ?_⟩
    unfold PyData.shown
    exact .of_is ReprIs.none _ _ _
  | .bool b, _, r, _, _ => by
    cases r
    refine ⟨⟨_, .bool b⟩, [], fun _ z => (nomatch z), ?_⟩
    unfold PyData.shown
    exact .of_is (ReprIs.bool b) _ _ _
  | .int i, _, r, s, _ => by
    cases r with
    | int i t =>
      have s' := s
      unfold PyData.showable at s'
      refine ⟨⟨_, .int i t⟩, [], fun _ z => (nomatch z), ?_⟩
      unfold PyData.shown
      exact .of_is (ReprIs.int t (by simpa using s')) _ _ _
  | .str x, _, r, _, z => by
    cases r with
    | str x t =>
      have z' := z
      unfold PyData.shown at z'
      refine ⟨⟨_, .str x t⟩, [], fun _ z => (nomatch z), ?_⟩
      unfold PyData.shown
      exact .of_is (ReprIs.str x t z') _ _ _
  | .list ds, _, r, s, z => by
    cases r with
    | @lst a o its n _ q1 q2 q3 q4 =>
      have z' : (listText (PyData.shownAll ds)).length ≤ sizeLine := by have z2 := z; unfold PyData.shown at z2; exact z2
      obtain ⟨⟨as, ra⟩, bs, hb, k⟩ := RdyL.go ds _ q4 (by have s2 := s; unfold PyData.showable at s2; exact s2) fun t ht => Nat.le_trans (listText_mem_le ht) z'
      have rd : Reads h (.ref a) (.list ds) _ := .list q1 q2 q3 ra
      have dp : PyData.depthAll ds < (PyData.list ds).depth := by simp only [PyData.depth]; omega
      have out := not_mem_of_deeper rd dp hb
      refine ⟨⟨_, rd⟩, a :: bs, ReadAtMost.cons rd (Nat.le_of_lt dp) hb, ?_⟩
      simp only [PyData.depth, PyData.shown]
      obtain ⟨l⟩ := its
      cases l with
      | nil =>
        cases q4
        simp only [PyData.shownAll, listText_nil]
        exact ReprK.listEmpty q1 q2 q3
      | cons y l => exact ReprK.list q1 q2 q3 out (by simpa using k.length_eq) fun i v e => k.item i v (by simpa using e)
  | .tuple ds, _, r, s, z => by
    cases r with
    | @tup a o its n _ q1 q2 q3 q4 =>
      have z' : (tupleText (PyData.shownAll ds)).length ≤ sizeLine := by have z2 := z; unfold PyData.shown at z2; exact z2
      obtain ⟨⟨as, ra⟩, bs, hb, k⟩ := RdyL.go ds _ q4 (by have s2 := s; unfold PyData.showable at s2; exact s2) fun t ht => Nat.le_trans (tupleText_mem_le ht) z'
      have rd : Reads h (.ref a) (.tuple ds) _ := .tuple q1 q2 q3 ra
      have dp : PyData.depthAll ds < (PyData.tuple ds).depth := by simp only [PyData.depth]; omega
      refine ⟨⟨_, rd⟩, a :: bs, ReadAtMost.cons rd (Nat.le_of_lt dp) hb, ?_⟩
      simp only [PyData.depth, PyData.shown]
      exact ReprK.tuple q1 q2 q3 (not_mem_of_deeper rd dp hb) k
  | .dict kvs, _, r, s, z => by
    cases r with
    | @d0 a o n q1 q2 q3 q4 =>
      have rd : Reads h (.ref a) (.dict []) _ := .dict q1 q2 q3 (kvs := []) .nil .nil
      refine ⟨⟨_, rd⟩, [a], fun b hb => ?_, ?_⟩
      · obtain rfl : b = a := by simpa using hb
        exact ⟨_, _, rd, Nat.le_refl _⟩
      · simp only [PyData.depth, PyData.shown]
        exact ReprK.dict (as := []) q1 q2 q3 q4 (fun z => nomatch z) (by simp only [PyData.shownKv]; exact .nil)
theorem RdyL.go : ∀ (ds : List PyData) (us : List Value), RdyL h us ds → PyData.showableAll ds = true → (∀ t ∈ PyData.shownAll ds, t.length ≤ sizeLine) → ShownL prog w h us ds
  | [], _, r, _, _ => by
    cases r
    refine ⟨⟨_, .nil⟩, [], fun _ z => (nomatch z), ?_⟩
    unfold PyData.shownAll
    exact .nil
  | d :: ds, _, r, s, z => by
    cases r with
    | cons r1 r2 =>
      have s2 := s
      unfold PyData.showableAll at s2
      obtain ⟨s3, s4⟩ := Bool.and_eq_true_iff.mp s2
      have z2 := z
      unfold PyData.shownAll at z2
      obtain ⟨⟨as, x1⟩, b1, h1, k1⟩ := Rdy.go d _ r1 s3 (z2 _ List.mem_cons_self)
      obtain ⟨⟨bs, x2⟩, b2, h2, k2⟩ := RdyL.go ds _ r2 s4 fun t ht => z2 t (List.mem_cons_of_mem _ ht)
      refine ⟨⟨_, .cons x1 x2⟩, b1 ++ b2, ?_, ?_⟩
      · simp only [PyData.depthAll]
        exact (h1.mono (Nat.le_max_left _ _)).append (h2.mono (Nat.le_max_right _ _))
      · simp only [PyData.depthAll, PyData.shownAll]
        exact .cons ((k1.more fun b hb => List.mem_append_left _ hb).level_le (Nat.le_max_left _ _)) (k2.more_le (fun b hb => List.mem_append_right _ hb) (Nat.le_max_right _ _))
end
/-- repr of such a list -/
theorem repr_rdyL {A : Around} {E : Value → Shared → Prop} {s : Shared} {Q : Value → Shared → Prop} {a : Addr} {o : Obj} {its : Array Value} {n : Nat} {ds : List PyData} (q1 : s.heap.get? a = some o) (q2 : o.cls = .type "list") (q3 : o.data = .seq its n) (q4 : RdyL s.heap its.toList ds) (sh : PyData.showableAll ds = true)
    (z : (listText (PyData.shownAll ds)).length ≤ sizeLine) (hg : A.guards = some []) (hu : A.units + (PyData.depthAll ds + 2) < cLine) (hQ : ∀ h' u tk, (∀ b o, s.heap.get? b = some o → h'.get? b = some o) → Q (.str (listText (PyData.shownAll ds)) u) { s with heap := h', toks := tk }) :
    wpAny (model prog w) A (call (.builtin "repr") [.ref a]) Q E s := by
  obtain ⟨⟨as, ra⟩, bs, hb, k⟩ := RdyL.go (prog := prog) (w := w) ds _ q4 sh fun t ht => Nat.le_trans (listText_mem_le ht) z
  have rd : Reads s.heap (.ref a) (.list ds) _ := .list q1 q2 q3 ra
  have out : a ∉ bs := not_mem_of_deeper rd (show PyData.depthAll ds < (PyData.list ds).depth by simp only [PyData.depth]; omega) hb
  have hu2 : A.in1.units = A.units + 1 := rfl
  refine call_repr_slot (by omega) ⟨o, q1, q2⟩ F.slot_list_repr.toG ?_
  obtain ⟨l⟩ := its
  cases l with
  | nil =>
    cases q4
    refine call_list_repr_empty ⟨o, q1, q2⟩ q1 q3 ⟨_, _, rfl, ?_⟩
    have := hQ s.heap
    simp only [PyData.shownAll, listText_nil] at this
    exact this _ _ fun _ _ e => e
  | cons y l => exact call_list_reprK q1 q2 q3 out (by simpa using k.length_eq) (fun i v e => k.item i v (by simpa using e)) hg (fun b _ => Clear.nil b) (by rw [hu2]; omega) (fun _ _ e => e) (fun h' u tk hk => ⟨_, _, rfl, hQ h' u tk hk⟩) z
end
/-! ### as a meaning -/
mutual
def py1 : D → Option PyData
  | .non => some .none
  | .bl b => some (.bool b)
  | .int i => some (.int i)
  | .str x => some (.str x)
  | .tup xs => (py1L xs).map .tuple
  | .lst xs => (py1L xs).map .list
  | .rd xs => (py1L xs).map .list
  | .dK ks ds => match ks, ds with
    | [], [] => some (.dict [])
    | _, _ => none
  | .dT _ _ => none
  | .ins _ _ _ => none
  | .exc _ _ _ => none
  | .cls _ => none
  | .ob _ => none
def py1L : List D → Option (List PyData)
  | [] => some []
  | x :: xs => match py1 x, py1L xs with
    | some a, some as => some (a :: as)
    | _, _ => none
end
section
variable {X : Cx} {pins : List (Addr × Obj)} {σ : L2.St} {H : Hp} {s : Shared} {m : Mp}
mutual
theorem Rdy.of (I : Inv X pins σ H s) : ∀ (d : D) (v : V) (u : Value) (p : PyData), Rep X.K H m v d → RelV v u → py1 d = some p → Rdy s.heap u p
  | .non, _, _, _, h, r, e => by cases h; cases e; cases r; exact .non
  | .bl b, _, _, _, h, r, e => by cases h; cases e; cases r; exact .bl b
  | .int i, _, _, _, h, r, e => by
    cases h; cases e
    obtain ⟨t, rfl⟩ := r
    exact .int i t
  | .str x, _, _, _, h, r, e => by
    cases h; cases e
    obtain ⟨t, rfl⟩ := r
    exact .str x t
  | .tup ds, _, _, _, h, r, e => by
    cases h with
    | tup h1 h2 =>
      cases r
      unfold py1 at e
      cases z : py1L ds with
      | none => rw [z] at e; cases e
      | some ps =>
        rw [z] at e
        cases e
        obtain ⟨its, rv, ⟨o, ho, hc, n, hd⟩, _⟩ := I.tuple h1.sq
        exact .tup ho hc hd (RdyL.of I ds _ _ ps h2 rv z)
  | .lst ds, _, _, _, h, r, e => by
    cases h with
    | lst h1 hn h2 =>
      cases r
      unfold py1 at e
      cases z : py1L ds with
      | none => rw [z] at e; cases e
      | some ps =>
        rw [z] at e
        cases e
        obtain ⟨its, rv, ⟨o, n, ho, hc, _, hd⟩, _⟩ := I.list (.inl (.inl h1))
        exact .lst ho hc hd (RdyL.of I ds _ _ ps h2 rv z)
  | .rd ds, _, _, _, h, r, e => by
    cases h with
    | rd h1 h2 =>
      cases r
      unfold py1 at e
      cases z : py1L ds with
      | none => rw [z] at e; cases e
      | some ps =>
        rw [z] at e
        cases e
        obtain ⟨its, rv, ⟨o, n, ho, hc, _, hd⟩, _⟩ := I.list h1.sq
        exact .lst ho hc hd (RdyL.of I ds _ _ ps h2 rv z)
  | .dK ks ds, _, _, _, h, r, e => by
    cases ks with
    | nil =>
      cases ds with
      | nil =>
        cases e
        cases h with
        | @dK a _ vs _ h1 hn hl h2 =>
          cases r
          cases h2
          obtain ⟨_, hs, vs, rel, o, es, ep, ho, hx, hd, _, ps, _⟩ := dk_rd I.hok h1
          cases rel
          have e0 : es = #[] := by
            have z := ps.length
            obtain ⟨l⟩ := es
            cases l with
            | nil => rfl
            | cons _ _ => cases z
          subst e0
          exact .d0 ho hx.1 hd hs
      | cons _ _ => cases e
    | cons _ _ => cases e
  | .dT _ _, _, _, _, _, _, e => by cases e
  | .ins _ _ _, _, _, _, _, _, e => by cases e
  | .exc _ _ _, _, _, _, _, _, e => by cases e
  | .cls _, _, _, _, _, _, e => by cases e
  | .ob _, _, _, _, _, _, e => by cases e
theorem RdyL.of (I : Inv X pins σ H s) : ∀ (ds : List D) (vs : List V) (us : List Value) (ps : List PyData), RepL X.K H m vs ds → Vals vs us → py1L ds = some ps → RdyL s.heap us ps
  | [], _, _, _, h, r, e => by cases h; cases e; cases r; exact .nil
  | d :: ds, _, _, _, h, r, e => by
    cases h with
    | cons h1 h2 =>
      cases r with
      | cons r1 r2 =>
        unfold py1L at e
        split at e
        · rename_i a as z1 z2
          cases e
          exact .cons (Rdy.of I d _ _ a h1 r1 z1) (RdyL.of I ds _ _ as h2 r2 z2)
        · cases e
end
end
def reprE (st : Store) (d : D) : Option D := match seqL st d with
  | some xs => (match py1L xs with
    | some ps => if canShow (.list ps) then some (.str (listText (PyData.shownAll ps))) else none
    | none => none)
  | none => none
theorem calld_reprE {X : Cx} (hg : X.A.guards = some []) (hu : X.A.units + 64 < cLine) : CallD X (.builtin "repr") (one reprE) :=
  calld_one (r := fun xs H Q => ∃ (a : Addr) (m : Mp) (vs : List V) (ds : List D) (ps : List PyData), xs = [.ref a] ∧ SqL X.K H a vs ∧ RepL X.K H m vs ds ∧ py1L ds = some ps ∧ canShow (.list ps) = true ∧ Q (.str (listText (PyData.shownAll ps))) H) (by
    intro pins s σ H xs us Q I r h
    obtain ⟨a, m, vs, ds, ps, rfl, h1, h2, h3, hc, q⟩ := h
    obtain ⟨u, rfl, hu1⟩ := vals1 r
    cases hu1
    unfold canShow at hc
    simp only [Bool.and_eq_true, decide_eq_true_eq] at hc
    obtain ⟨⟨hs, hl⟩, hdp⟩ := hc
    simp only [PyData.depth] at hdp
    have hl' : (listText (PyData.shownAll ps)).length ≤ 100000 := by simpa only [PyData.shown] using hl
    obtain ⟨its, rv, ⟨o, n, ho, hc2, _, hd⟩, _⟩ := I.list h1
    exact repr_rdyL ho hc2 hd (RdyL.of I ds _ _ ps h2 rv h3) (by unfold PyData.showable at hs; exact hs) (cap_le hl') hg (by omega) fun h' u tk k => ⟨.str _, H, I.kept k, ⟨_, rfl⟩, q⟩) fun H m st v a d Q r p e k => by
    unfold reprE at e
    split at e
    · rename_i xs hx
      split at e
      · rename_i ps hps
        split at e
        · rename_i hc
          cases e
          obtain ⟨b, vs, rfl, h1, h2⟩ := seqL_at r p hx
          exact ⟨b, m, vs, xs, ps, rfl, h1, h2, hps, hc, k.go r (.str _)⟩
        · cases e
      · cases e
    · cases e
/-- a sum of lists that is changed later: it has a place in the store -/
def eAddM (fa fb : EF) : EF := fun ρ st => (fa ρ st).bind fun x st1 => (fb ρ st1).bind fun y st2 => match seqW st2 x, seqW st2 y with
  | some xs, some ys => if xs.length + ys.length ≤ 100000 then .ok (.ob st2.length) (st2 ++ [.lst (xs ++ ys)]) else .bad
  | _, _ => .bad
theorem se_addM {X : Cx} {W : WX} {a b : Expr} {fa fb : EF} {pos : Pos} (ha : SE X W a fa) (hb : SE X W b fb) : SE X W (.BinOp a .Add b pos) (eAddM fa fb) := by
  obtain ⟨ta, pa, qa⟩ := ha
  obtain ⟨tb, pb, qb⟩ := hb
  refine ⟨_, pe_op op_cat pa pb, fun σ H ρ st m Q s rl h => qa σ H ρ st m _ s rl (h.mp fun x st1 v H1 m1 e1 r1 p1 h1 => qb σ H1 ρ st1 m1 _ (s.up e1) r1 (h1.mp fun y st2 w H2 m2 e2 r2 p2 h2 => ?_))⟩
  cases hx : seqW st2 x with
  | none => rw [hx] at h2; exact h2.elim
  | some xs =>
    cases hy : seqW st2 y with
    | none => rw [hx, hy] at h2; exact h2.elim
    | some ys =>
      rw [hx, hy] at h2
      dsimp only at h2
      split at h2
      · rename_i hl
        obtain ⟨l, vs, rfl, g1, g2⟩ := seqW_at r2 (p1.up e2) hx
        obtain ⟨l2, ws, rfl, k1, k2⟩ := seqW_at r2 p2 hy
        exact ⟨l, l2, vs, ws, rfl, rfl, g1, k1, by rw [g2.length, k2.length]; exact cap_le hl, PostV.pushL (show PostV X.K m2 H2 Rep Q _ _ from h2) r2 (g2.append k2)⟩
      · exact h2.elim
/-- the names of the classes at or below -/
def hasE (cs : List String) (c : String) : Bool := decide (c ∈ cs)
theorem isExc_at {K : PySem.W.Frag} {ES : List String} {cs : List String} {tv : Value} (h : ∀ c, c ∈ ES → ∀ C, ClAt K c C → PySem.W.kitOne K (.ref C) tv = some (hasE cs c)) : IsExc K ES (hasE cs) tv := fun c hc C g => h c hc C g
end DX

namespace DXP
open PySem PySem.Spec PyProof.Rows L2 DX
abbrev CTs : List String := []
abbrev ESs : List String := ["AnswerError", "InvalidProgram", "InvalidMode", "InvalidTable", "InvalidRun", "InvalidFact", "InvalidDerivation", "InvalidOperation", "InvalidCommand", "ParseError", "UnknownName", "UnknownSite", "InvalidNumber", "NothingToUndo", "Refused", "TooMany"]
/-- _law_dip(_law_well_here, _law_size); slots: 0 _law_well_here, 1 _law_size, 2 _law_found, 3 _law_one, 4 _law_two -/
noncomputable def t__law_dip_1 : TF := (tV (eOp bGtA (eOp ixD (eVar 0) (eC (.int 0))) (eC (.int 0))))
noncomputable def x__law_dip_2 : EF := (eOp bMod (aCall (one intD) (aCons (eOp ixD (eVar 0) (eC (.int 0))) aNil)) (eVar 1))
noncomputable def x__law_dip_3 : EF := (eOp bFdiv (eOp ixD (eVar 0) (eC (.int 0))) (eVar 1))
noncomputable def y__law_dip_4 : SF := (sSeq (sAsg x__law_dip_2 (gSet 2))
  (sSeq (sAsg x__law_dip_3 (gSub (eVar 0) (eC (.int 0))))
  (sRet (eVar 2))))
noncomputable def x__law_dip_5 : EF := (eOp bAdd (eOp ixD (eVar 0) (eC (.int 2))) (eC (.int 1)))
noncomputable def x__law_dip_6 : EF := (eOp bMod (aCall (one intD) (aCons (eOp bAdd (eOp ixD (eVar 0) (eC (.int 1))) (eOp bMulA (eC (.int 776531401)) (eOp ixD (eVar 0) (eC (.int 2))))) aNil)) (eC (.int 2305843009213693867)))
noncomputable def x__law_dip_7 : EF := (eOp bAdd (eOp bMulA (eOp bMod (aCall (one intD) (aCons (eOp bMulA (eVar 3) (eVar 3)) aNil)) (eC (.int 1000000000000037))) (eVar 3)) (eOp bMulA (eC (.int 7351)) (eOp ixD (eVar 0) (eC (.int 2)))))
noncomputable def x__law_dip_8 : EF := (eOp bMod (aCall (one intD) (aCons (eOp bFdiv (eOp bMod (aCall (one intD) (aCons (eOp bAdd (eVar 4) (eOp ixD (eVar 0) (eC (.int 1)))) aNil)) (eC (.int 4398046510993))) (eC (.int 32))) aNil)) (eVar 1))
noncomputable def b__law_dip : SF := (sSeq (sIf t__law_dip_1 y__law_dip_4 sNx)
  (sSeq (sAsg x__law_dip_5 (gSub (eVar 0) (eC (.int 2))))
  (sSeq (sAsg x__law_dip_6 (gSet 3))
  (sSeq (sAsg x__law_dip_7 (gSet 4))
  (sRet x__law_dip_8)))))
noncomputable def F__law_dip : FF := (fDef 2 5 b__law_dip)
/-- _law_choose(_law_well_here, _law_items); slots: 0 _law_well_here, 1 _law_items -/
noncomputable def x__law_choose_1 : EF := (eOp ixD (eVar 1) (eCall F__law_dip (aCons (eVar 0) (aCons (aCall (one lenD) (aCons (eVar 1) aNil)) aNil))))
noncomputable def b__law_choose : SF := (sRet x__law_choose_1)
noncomputable def F__law_choose : FF := (fDef 2 2 b__law_choose)
/-- _law_kinds(_law_error); slots: 0 _law_error, 1 _law_found -/
noncomputable def x__law_kinds_1 : EF := (eLst (aCons (eIsE ESs (hasE ["AnswerError", "InvalidProgram", "InvalidMode", "InvalidTable", "InvalidRun", "InvalidFact", "InvalidDerivation", "InvalidOperation", "InvalidCommand", "ParseError"]) (eVar 0)) (aCons (eIsE ESs (hasE ["InvalidProgram"]) (eVar 0)) (aCons (eIsE ESs (hasE ["InvalidMode"]) (eVar 0)) aNil))))
noncomputable def x__law_kinds_2 : EF := (eOp bAdd (eVar 1) (eLst (aCons (eIsE ESs (hasE ["InvalidTable"]) (eVar 0)) (aCons (eIsE ESs (hasE ["InvalidRun"]) (eVar 0)) (aCons (eIsE ESs (hasE ["InvalidFact"]) (eVar 0)) aNil)))))
noncomputable def x__law_kinds_3 : EF := (eOp bAdd (eVar 1) (eLst (aCons (eIsE ESs (hasE ["InvalidDerivation"]) (eVar 0)) (aCons (eIsE ESs (hasE ["InvalidOperation"]) (eVar 0)) aNil))))
noncomputable def x__law_kinds_4 : EF := (eOp bAdd (eVar 1) (eLst (aCons (eIsE ESs (hasE ["InvalidCommand"]) (eVar 0)) (aCons (eIsE ESs (hasE ["ParseError"]) (eVar 0)) (aCons (eIsE ESs (hasE ["AnswerError", "InvalidProgram", "InvalidMode", "InvalidTable", "InvalidRun", "InvalidFact", "InvalidDerivation", "InvalidOperation", "InvalidCommand", "ParseError"]) (eVar 0)) aNil)))))
noncomputable def b__law_kinds : SF := (sSeq (sAsg x__law_kinds_1 (gSet 1))
  (sSeq (sAsg x__law_kinds_2 (gSet 1))
  (sSeq (sAsg x__law_kinds_3 (gSet 1))
  (sRet x__law_kinds_4))))
noncomputable def F__law_kinds : FF := (fDef 1 2 b__law_kinds)
/-- _law_messages(_law_word); slots: 0 _law_word, 1 _law_found -/
noncomputable def x__law_messages_1 : EF := (eLst (aCons (eMk0 "AnswerError" (eVar 0)) (aCons (eMk0 "InvalidProgram" (eVar 0)) (aCons (eMk0 "InvalidMode" (eVar 0)) (aCons (eMk0 "InvalidTable" (eVar 0)) (aCons (eMk0 "InvalidRun" (eVar 0)) aNil))))))
noncomputable def x__law_messages_2 : EF := (eOp bAdd (eVar 1) (eLst (aCons (eMk0 "InvalidFact" (eVar 0)) (aCons (eMk0 "InvalidDerivation" (eVar 0)) (aCons (eMk0 "InvalidOperation" (eVar 0)) (aCons (eMk0 "InvalidCommand" (eVar 0)) aNil))))))
noncomputable def b__law_messages : SF := (sSeq (sAsg x__law_messages_1 (gSet 1))
  (sRet x__law_messages_2))
noncomputable def F__law_messages : FF := (fDef 1 2 b__law_messages)
/-- _law_others(_law_error); slots: 0 _law_error, 1 _law_found -/
noncomputable def x__law_others_1 : EF := (eLst (aCons (eIsE ESs (hasE ["UnknownName"]) (eVar 0)) (aCons (eIsE ESs (hasE ["UnknownSite"]) (eVar 0)) (aCons (eIsE ESs (hasE ["InvalidNumber"]) (eVar 0)) aNil))))
noncomputable def x__law_others_2 : EF := (eOp bAdd (eVar 1) (eLst (aCons (eIsE ESs (hasE ["NothingToUndo"]) (eVar 0)) (aCons (eIsE ESs (hasE ["Refused"]) (eVar 0)) (aCons (eIsE ESs (hasE ["TooMany"]) (eVar 0)) aNil)))))
noncomputable def x__law_others_3 : EF := (eOp bAdd (eVar 1) (eLst (aCons (eIsE ESs (hasE ["UnknownName", "UnknownSite"]) (eVar 0)) (aCons (eIsE ESs (hasE ["InvalidNumber"]) (eVar 0)) (aCons (eIsE ESs (hasE ["UnknownName", "UnknownSite", "InvalidNumber", "NothingToUndo"]) (eVar 0)) aNil)))))
noncomputable def x__law_others_4 : EF := (eOp bAdd (eVar 1) (eLst (aCons (eIsE ESs (hasE ["Refused", "TooMany"]) (eVar 0)) (aCons (eIsE ESs (hasE ["TooMany"]) (eVar 0)) aNil))))
noncomputable def b__law_others : SF := (sSeq (sAsg x__law_others_1 (gSet 1))
  (sSeq (sAsg x__law_others_2 (gSet 1))
  (sSeq (sAsg x__law_others_3 (gSet 1))
  (sRet x__law_others_4))))
noncomputable def F__law_others : FF := (fDef 1 2 b__law_others)
/-- _law_right(_law_well_here); slots: 0 _law_well_here, 1 _law_some, 2 _law_items, 3 _law_turn, 4 _law_word, 5 _law_at, 6 _law_error, 7 _law_due, 8 _law_one, 9 _law_parse, 10 _law_name, 11 _law_site, 12 _law_number, 13 _law_undo, 14 _law_refused, 15 _law_over, 16 _law_told, 17 _law_python -/
noncomputable def x__law_right_1 : EF := (eLst (aCons (eC (.int 0)) (aCons (eC (.int 7)) (aCons (eC (.str "a")) (aCons (eC (.str "")) (aCons (eTup (aCons (eC (.str "p")) (aCons (eC (.int 1)) aNil))) (aCons (eC .non) (aCons (eUn negD (eC (.int 1))) (aCons (eOp bPow (eC (.int 10)) (eC (.int 38))) (aCons (eLst (aCons (eC (.int 0)) aNil)) (aCons eD0 (aCons (eC (.bl false)) (aCons (eTup aNil) (aCons (eC (.str "no name")) (aCons (eTup (aCons (eTup aNil) aNil)) aNil)))))))))))))))
noncomputable def e__law_right_2 : EF := (eCall F__law_choose (aCons (eVar 0) (aCons (eVar 1) aNil)))
noncomputable def x__law_right_3 : EF := (lcF (itRange1 (eC (.int 7))) (gSet 3) tYesF e__law_right_2 [3])
noncomputable def x__law_right_4 : EF := (eCall F__law_choose (aCons (eVar 0) (aCons (eLst (aCons (eC (.str "")) (aCons (eC (.str "why")) (aCons (eC (.str "two words")) aNil)))) aNil)))
noncomputable def x__law_right_5 : EF := (eOp bAdd (eOp bAdd (eLst (aCons (eC (.bl true)) aNil)) (lcF (itRange2 (eC (.int 1)) (eC (.int 9))) (gSet 8) tYesF (eOp (bEqX ownNo 3) (eVar 8) (eVar 5)) [8])) (eLst (aCons (eC (.bl false)) (aCons (eC (.bl true)) aNil))))
noncomputable def t__law_right_6 : TF := (tOrF (tV (eOp (bNeX ownNo 3) (eCall F__law_kinds (aCons (eVar 6) aNil)) (eVar 7))) (tV (eOp (bNeX ownNo 3) (eCall F__law_others (aCons (eVar 6) aNil)) (eOp bMulA (eLst (aCons (eC (.bl false)) aNil)) (eC (.int 11))))))
noncomputable def i__law_right_7 : AF := (itEnumL (eCall F__law_messages (aCons (eVar 4) aNil)))
noncomputable def l__law_right_8 : SF := (sSeq (sAsg x__law_right_5 (gSet 7))
  (sIf t__law_right_6 (sRet (eC (.bl false))) sNx))
noncomputable def x__law_right_9 : EF := (eMkX "ParseError" "line" (eOp ixD (eVar 2) (eC (.int 0))))
noncomputable def t__law_right_10 : TF := (tOrF (tV (eOp (bNeX ownNo 3) (eCall F__law_kinds (aCons (eVar 9) aNil)) (eOp bAdd (eOp bAdd (eLst (aCons (eC (.bl true)) aNil)) (eOp bMulA (eLst (aCons (eC (.bl false)) aNil)) (eC (.int 8)))) (eLst (aCons (eC (.bl true)) (aCons (eC (.bl true)) aNil)))))) (tV (eOp (bNeX ownNo 3) (eCall F__law_others (aCons (eVar 9) aNil)) (eOp bMulA (eLst (aCons (eC (.bl false)) aNil)) (eC (.int 11))))))
noncomputable def a__law_right_11 : AF := (aCons (eMkX "UnknownName" "name" (eOp ixD (eVar 2) (eC (.int 1)))) (aCons (eMkX "UnknownSite" "site" (eOp ixD (eVar 2) (eC (.int 2)))) (aCons (eMkX "InvalidNumber" "value" (eOp ixD (eVar 2) (eC (.int 3)))) aNil)))
noncomputable def a__law_right_12 : AF := (aCons (eMkX "NothingToUndo" "many" (eOp ixD (eVar 2) (eC (.int 4)))) (aCons (eMkX "Refused" "name" (eOp ixD (eVar 2) (eC (.int 5)))) (aCons (eMkX "TooMany" "limit" (eOp ixD (eVar 2) (eC (.int 6)))) aNil)))
noncomputable def x__law_right_13 : EF := (eLst (aCons (eFldE "ParseError" "line" (eVar 9)) (aCons (eFldE "UnknownName" "name" (eVar 10)) (aCons (eFldE "UnknownSite" "site" (eVar 11)) (aCons (eFldE "InvalidNumber" "value" (eVar 12)) (aCons (eFldE "NothingToUndo" "many" (eVar 13)) (aCons (eFldE "Refused" "name" (eVar 14)) (aCons (eFldE "TooMany" "limit" (eVar 15)) aNil))))))))
noncomputable def t__law_right_14 : TF := (tV (eOp (bNeX ownNo 3) (aCall (one reprE) (aCons (eVar 16) aNil)) (aCall (one reprE) (aCons (eVar 2) aNil))))
noncomputable def x__law_right_15 : EF := (eOp bAdd (eOp bMulA (eLst (aCons (eLst (aCons (eC (.bl true)) (aCons (eC (.bl false)) (aCons (eC (.bl true)) (aCons (eC (.bl false)) (aCons (eC (.bl false)) aNil)))))) aNil)) (eC (.int 2))) (eLst (aCons (eLst (aCons (eC (.bl false)) (aCons (eC (.bl true)) (aCons (eC (.bl true)) (aCons (eC (.bl false)) (aCons (eC (.bl false)) aNil)))))) aNil)))
noncomputable def x__law_right_16 : EF := (eAddM (eVar 17) (eLst (aCons (eLst (aCons (eC (.bl false)) (aCons (eC (.bl false)) (aCons (eC (.bl true)) (aCons (eC (.bl false)) (aCons (eC (.bl false)) aNil)))))) (aCons (eLst (aCons (eC (.bl false)) (aCons (eC (.bl false)) (aCons (eC (.bl false)) (aCons (eC (.bl true)) (aCons (eC (.bl false)) aNil)))))) aNil))))
noncomputable def x__law_right_17 : EF := (eWr1 fAppend (eVar 17) (eLst (aCons (eC (.bl false)) (aCons (eC (.bl false)) (aCons (eC (.bl false)) (aCons (eC (.bl true)) (aCons (eC (.bl true)) aNil)))))))
noncomputable def x__law_right_18 : EF := (eOp bAdd (lcF (itRange1 (eC (.int 6))) (gSet 8) tYesF (eOp (bEqX ownNo 3) (eVar 8) (eVar 5)) [8]) (eOp ixD (eVar 17) (eVar 5)))
noncomputable def t__law_right_19 : TF := (tOrF (tV (eOp (bNeX ownNo 3) (eCall F__law_others (aCons (eVar 6) aNil)) (eVar 7))) (tV (eOp (bNeX ownNo 3) (eCall F__law_kinds (aCons (eVar 6) aNil)) (eOp bMulA (eLst (aCons (eC (.bl false)) aNil)) (eC (.int 11))))))
noncomputable def i__law_right_20 : AF := (itEnumL (eLst (aCons (eVar 10) (aCons (eVar 11) (aCons (eVar 12) (aCons (eVar 13) (aCons (eVar 14) (aCons (eVar 15) aNil))))))))
noncomputable def l__law_right_21 : SF := (sSeq (sAsg x__law_right_18 (gSet 7))
  (sIf t__law_right_19 (sRet (eC (.bl false))) sNx))
noncomputable def b__law_right : SF := (sSeq (sAsg x__law_right_1 (gSet 1))
  (sSeq (sAsg x__law_right_3 (gSet 2))
  (sSeq (sAsg x__law_right_4 (gSet 4))
  (sSeq (sFor i__law_right_7 (gOr (gTupF 2 (gsCons (gSet 5) (gsCons (gSet 6) gsNil))) (gLstF 2 (gsCons (gSet 5) (gsCons (gSet 6) gsNil)))) l__law_right_8)
  (sSeq (sAsg x__law_right_9 (gSet 9))
  (sSeq (sIf t__law_right_10 (sRet (eC (.bl false))) sNx)
  (sSeq (sPar3 10 11 12 a__law_right_11)
  (sSeq (sPar3 13 14 15 a__law_right_12)
  (sSeq (sAsg x__law_right_13 (gSet 16))
  (sSeq (sIf t__law_right_14 (sRet (eC (.bl false))) sNx)
  (sSeq (sAsg x__law_right_15 (gSet 17))
  (sSeq (sAsg x__law_right_16 (gSet 17))
  (sSeq (sDrop x__law_right_17)
  (sSeq (sFor i__law_right_20 (gOr (gTupF 2 (gsCons (gSet 5) (gsCons (gSet 6) gsNil))) (gLstF 2 (gsCons (gSet 5) (gsCons (gSet 6) gsNil)))) l__law_right_21)
  (sRet (eC (.bl true)))))))))))))))))
noncomputable def F__law_right : FF := (fDef 1 18 b__law_right)
/-- _law_well(_law_script, _law_spot); slots: 0 _law_script, 1 _law_spot, 2 _law_cell, 3 _law_great, 4 _law_seed -/
noncomputable def x__law_well_1 : EF := (eIf (tV (eOp bLtA (eVar 1) (aCall (one lenD) (aCons (eVar 0) aNil)))) (eOp ixD (eVar 0) (eVar 1)) (eOp bAdd (eOp bMulA (eC (.int 71)) (eVar 1)) (eC (.int 37))))
noncomputable def x__law_well_2 : EF := (eOp bMod (aCall (one intD) (aCons (aCall (one absD) (aCons (eVar 2) aNil)) aNil)) (eOp bPow (eOp bPow (eC (.int 10)) (eC (.int 59))) (eC (.int 10))))
noncomputable def x__law_well_3 : EF := (eOp bMod (aCall (one intD) (aCons (eOp bAdd (eOp bAdd (eOp bAdd (eOp bMulA (eVar 3) (eC (.int 1000253))) (eOp bMulA (eC (.int 8969)) (eVar 1))) (eOp bMulA (eC (.int 47)) (aCall (one intD) (aCons (eOp bLtA (eVar 2) (eC (.int 0))) aNil)))) (eC (.int 19))) aNil)) (eC (.int 1152921504606846803)))
noncomputable def x__law_well_4 : EF := (eLstM (aCons (aCall (two max2D) (aCons (eC (.int 0)) (aCons (eOp bSub (eVar 3) (eOp bPow (eC (.int 10)) (eC (.int 15)))) aNil))) (aCons (eVar 4) (aCons (eC (.int 0)) aNil))))
noncomputable def b__law_well : SF := (sSeq (sAsg x__law_well_1 (gSet 2))
  (sSeq (sAsg x__law_well_2 (gSet 3))
  (sSeq (sAsg x__law_well_3 (gSet 4))
  (sRet x__law_well_4))))
noncomputable def F__law_well : FF := (fDef 2 5 b__law_well)
/-- law(_law_script); slots: 0 _law_script, 1 _law_spot -/
noncomputable def t_law_1 : TF := (tNotF (tV (eCall F__law_right (aCons (eCall F__law_well (aCons (eVar 0) (aCons (eVar 1) aNil))) aNil))))
noncomputable def i_law_2 : AF := (itRange1 (aCall (two max2D) (aCons (eC (.int 1)) (aCons (aCall (two min2D) (aCons (eC (.int 8)) (aCons (aCall (one lenD) (aCons (eVar 0) aNil)) aNil))) aNil))))
noncomputable def l_law_3 : SF := (sIf t_law_1 (sRet (eC (.bl false))) sNx)
noncomputable def b_law : SF := (sSeq (sFor i_law_2 (gSet 1) l_law_3)
  (sRet (eC (.bl true))))
noncomputable def F_law : FF := (fDef 1 2 b_law)
end DXP

set_option maxHeartbeats 4000000
namespace DXP
open PySem PySem.Spec PyProof.Rows L2 DX
variable [TB0]
def topS (i : Nat) : Stmt := PySem.Challenge.pw_answeredabove_k00_errors_and_what_they_k.main.body.getD i (.Pass ⟨0, 0, 0, 0⟩)
structure Txt (w : World) (K : PySem.W.Frag) (mg : Str → Option Value) (C_AnswerError C_InvalidProgram C_InvalidMode C_InvalidTable C_InvalidRun C_InvalidFact C_InvalidDerivation C_InvalidOperation C_InvalidCommand C_ParseError C_UnknownName C_UnknownSite C_InvalidNumber C_NothingToUndo C_Refused C_TooMany f_InvalidNumber___init__ f_NothingToUndo___init__ f_ParseError___init__ f_Refused___init__ f_TooMany___init__ f_UnknownName___init__ f_UnknownSite___init__ : Addr) : Prop where
  n_ArithmeticError : mg "ArithmeticError" = none
  n_IndexError : mg "IndexError" = none
  n_KeyError : mg "KeyError" = none
  n_LookupError : mg "LookupError" = none
  n_OverflowError : mg "OverflowError" = none
  n_ValueError : mg "ValueError" = none
  n_abs : mg "abs" = none
  n_enumerate : mg "enumerate" = none
  n_int : mg "int" = none
  n_isinstance : mg "isinstance" = none
  n_len : mg "len" = none
  n_max : mg "max" = none
  n_min : mg "min" = none
  n_range : mg "range" = none
  n_repr : mg "repr" = none
  at_AnswerError : ClAt K "AnswerError" C_AnswerError
  at_InvalidProgram : ClAt K "InvalidProgram" C_InvalidProgram
  at_InvalidMode : ClAt K "InvalidMode" C_InvalidMode
  at_InvalidTable : ClAt K "InvalidTable" C_InvalidTable
  at_InvalidRun : ClAt K "InvalidRun" C_InvalidRun
  at_InvalidFact : ClAt K "InvalidFact" C_InvalidFact
  at_InvalidDerivation : ClAt K "InvalidDerivation" C_InvalidDerivation
  at_InvalidOperation : ClAt K "InvalidOperation" C_InvalidOperation
  at_InvalidCommand : ClAt K "InvalidCommand" C_InvalidCommand
  at_ParseError : ClAt K "ParseError" C_ParseError
  at_UnknownName : ClAt K "UnknownName" C_UnknownName
  at_UnknownSite : ClAt K "UnknownSite" C_UnknownSite
  at_InvalidNumber : ClAt K "InvalidNumber" C_InvalidNumber
  at_NothingToUndo : ClAt K "NothingToUndo" C_NothingToUndo
  at_Refused : ClAt K "Refused" C_Refused
  at_TooMany : ClAt K "TooMany" C_TooMany
  ie_InvalidMode : IsExc K ESs (hasE ["InvalidMode"]) (.ref C_InvalidMode)
  mg_InvalidMode : mg "InvalidMode" = some (.ref C_InvalidMode)
  ie_InvalidProgram : IsExc K ESs (hasE ["InvalidProgram"]) (.ref C_InvalidProgram)
  mg_InvalidProgram : mg "InvalidProgram" = some (.ref C_InvalidProgram)
  ie_AnswerError : IsExc K ESs (hasE ["AnswerError", "InvalidProgram", "InvalidMode", "InvalidTable", "InvalidRun", "InvalidFact", "InvalidDerivation", "InvalidOperation", "InvalidCommand", "ParseError"]) (.ref C_AnswerError)
  mg_AnswerError : mg "AnswerError" = some (.ref C_AnswerError)
  ie_InvalidFact : IsExc K ESs (hasE ["InvalidFact"]) (.ref C_InvalidFact)
  mg_InvalidFact : mg "InvalidFact" = some (.ref C_InvalidFact)
  ie_InvalidRun : IsExc K ESs (hasE ["InvalidRun"]) (.ref C_InvalidRun)
  mg_InvalidRun : mg "InvalidRun" = some (.ref C_InvalidRun)
  ie_InvalidTable : IsExc K ESs (hasE ["InvalidTable"]) (.ref C_InvalidTable)
  mg_InvalidTable : mg "InvalidTable" = some (.ref C_InvalidTable)
  ie_InvalidOperation : IsExc K ESs (hasE ["InvalidOperation"]) (.ref C_InvalidOperation)
  mg_InvalidOperation : mg "InvalidOperation" = some (.ref C_InvalidOperation)
  ie_InvalidDerivation : IsExc K ESs (hasE ["InvalidDerivation"]) (.ref C_InvalidDerivation)
  mg_InvalidDerivation : mg "InvalidDerivation" = some (.ref C_InvalidDerivation)
  ib_ValueError : IsExc K ESs (hasE ["AnswerError", "InvalidProgram", "InvalidMode", "InvalidTable", "InvalidRun", "InvalidFact", "InvalidDerivation", "InvalidOperation", "InvalidCommand", "ParseError"]) (.type "ValueError")
  ie_ParseError : IsExc K ESs (hasE ["ParseError"]) (.ref C_ParseError)
  mg_ParseError : mg "ParseError" = some (.ref C_ParseError)
  ie_InvalidCommand : IsExc K ESs (hasE ["InvalidCommand"]) (.ref C_InvalidCommand)
  mg_InvalidCommand : mg "InvalidCommand" = some (.ref C_InvalidCommand)
  ie_InvalidNumber : IsExc K ESs (hasE ["InvalidNumber"]) (.ref C_InvalidNumber)
  mg_InvalidNumber : mg "InvalidNumber" = some (.ref C_InvalidNumber)
  ie_UnknownSite : IsExc K ESs (hasE ["UnknownSite"]) (.ref C_UnknownSite)
  mg_UnknownSite : mg "UnknownSite" = some (.ref C_UnknownSite)
  ie_UnknownName : IsExc K ESs (hasE ["UnknownName"]) (.ref C_UnknownName)
  mg_UnknownName : mg "UnknownName" = some (.ref C_UnknownName)
  ie_TooMany : IsExc K ESs (hasE ["TooMany"]) (.ref C_TooMany)
  mg_TooMany : mg "TooMany" = some (.ref C_TooMany)
  ie_Refused : IsExc K ESs (hasE ["Refused"]) (.ref C_Refused)
  mg_Refused : mg "Refused" = some (.ref C_Refused)
  ie_NothingToUndo : IsExc K ESs (hasE ["NothingToUndo"]) (.ref C_NothingToUndo)
  mg_NothingToUndo : mg "NothingToUndo" = some (.ref C_NothingToUndo)
  ib_LookupError : IsExc K ESs (hasE ["UnknownName", "UnknownSite", "InvalidNumber", "NothingToUndo"]) (.type "LookupError")
  ib_IndexError : IsExc K ESs (hasE ["InvalidNumber"]) (.type "IndexError")
  ib_KeyError : IsExc K ESs (hasE ["UnknownName", "UnknownSite"]) (.type "KeyError")
  ib_OverflowError : IsExc K ESs (hasE ["TooMany"]) (.type "OverflowError")
  ib_ArithmeticError : IsExc K ESs (hasE ["Refused", "TooMany"]) (.type "ArithmeticError")
  ex_InvalidRun : ∃ bm, ExcBaseFacts "ValueError" "ValueError.__new__" "ValueError.__init__" bm ∧ PySem.W.excIn K C_InvalidRun bm "ValueError.__new__" = true
  kc_InvalidRun : PySem.W.keepIn K (.ref C_InvalidRun) = true
  ex_InvalidTable : ∃ bm, ExcBaseFacts "ValueError" "ValueError.__new__" "ValueError.__init__" bm ∧ PySem.W.excIn K C_InvalidTable bm "ValueError.__new__" = true
  kc_InvalidTable : PySem.W.keepIn K (.ref C_InvalidTable) = true
  ex_InvalidMode : ∃ bm, ExcBaseFacts "ValueError" "ValueError.__new__" "ValueError.__init__" bm ∧ PySem.W.excIn K C_InvalidMode bm "ValueError.__new__" = true
  kc_InvalidMode : PySem.W.keepIn K (.ref C_InvalidMode) = true
  ex_InvalidProgram : ∃ bm, ExcBaseFacts "ValueError" "ValueError.__new__" "ValueError.__init__" bm ∧ PySem.W.excIn K C_InvalidProgram bm "ValueError.__new__" = true
  kc_InvalidProgram : PySem.W.keepIn K (.ref C_InvalidProgram) = true
  ex_AnswerError : ∃ bm, ExcBaseFacts "ValueError" "ValueError.__new__" "ValueError.__init__" bm ∧ PySem.W.excIn K C_AnswerError bm "ValueError.__new__" = true
  kc_AnswerError : PySem.W.keepIn K (.ref C_AnswerError) = true
  ex_InvalidCommand : ∃ bm, ExcBaseFacts "ValueError" "ValueError.__new__" "ValueError.__init__" bm ∧ PySem.W.excIn K C_InvalidCommand bm "ValueError.__new__" = true
  kc_InvalidCommand : PySem.W.keepIn K (.ref C_InvalidCommand) = true
  ex_InvalidOperation : ∃ bm, ExcBaseFacts "ValueError" "ValueError.__new__" "ValueError.__init__" bm ∧ PySem.W.excIn K C_InvalidOperation bm "ValueError.__new__" = true
  kc_InvalidOperation : PySem.W.keepIn K (.ref C_InvalidOperation) = true
  ex_InvalidDerivation : ∃ bm, ExcBaseFacts "ValueError" "ValueError.__new__" "ValueError.__init__" bm ∧ PySem.W.excIn K C_InvalidDerivation bm "ValueError.__new__" = true
  kc_InvalidDerivation : PySem.W.keepIn K (.ref C_InvalidDerivation) = true
  ex_InvalidFact : ∃ bm, ExcBaseFacts "ValueError" "ValueError.__new__" "ValueError.__init__" bm ∧ PySem.W.excIn K C_InvalidFact bm "ValueError.__new__" = true
  kc_InvalidFact : PySem.W.keepIn K (.ref C_InvalidFact) = true
  xi_ParseError : ExI K C_ParseError f_ParseError___init__ "line"
  xi_InvalidNumber : ExI K C_InvalidNumber f_InvalidNumber___init__ "value"
  xi_UnknownSite : ExI K C_UnknownSite f_UnknownSite___init__ "site"
  xi_UnknownName : ExI K C_UnknownName f_UnknownName___init__ "name"
  xi_TooMany : ExI K C_TooMany f_TooMany___init__ "limit"
  xi_Refused : ExI K C_Refused f_Refused___init__ "name"
  xi_NothingToUndo : ExI K C_NothingToUndo f_NothingToUndo___init__ "many"
  nf_TooMany_limit : PySem.W.findIn K (.ref C_TooMany) "limit" = some none
  xf_TooMany : XfC K C_TooMany
  nf_Refused_name : PySem.W.findIn K (.ref C_Refused) "name" = some none
  xf_Refused : XfC K C_Refused
  nf_NothingToUndo_many : PySem.W.findIn K (.ref C_NothingToUndo) "many" = some none
  xf_NothingToUndo : XfC K C_NothingToUndo
  nf_InvalidNumber_value : PySem.W.findIn K (.ref C_InvalidNumber) "value" = some none
  xf_InvalidNumber : XfC K C_InvalidNumber
  nf_UnknownSite_site : PySem.W.findIn K (.ref C_UnknownSite) "site" = some none
  xf_UnknownSite : XfC K C_UnknownSite
  nf_UnknownName_name : PySem.W.findIn K (.ref C_UnknownName) "name" = some none
  xf_UnknownName : XfC K C_UnknownName
  nf_ParseError_line : PySem.W.findIn K (.ref C_ParseError) "line" = some none
  xf_ParseError : XfC K C_ParseError
  ESok : ExcT K ESs
section
variable {P : Program} {w : World} {K : PySem.W.Frag} {mg : Str → Option Value} {base : Heap} {C_AnswerError C_InvalidProgram C_InvalidMode C_InvalidTable C_InvalidRun C_InvalidFact C_InvalidDerivation C_InvalidOperation C_InvalidCommand C_ParseError C_UnknownName C_UnknownSite C_InvalidNumber C_NothingToUndo C_Refused C_TooMany f_InvalidNumber___init__ f_NothingToUndo___init__ f_ParseError___init__ f_Refused___init__ f_TooMany___init__ f_UnknownName___init__ f_UnknownSite___init__ : Addr} 
abbrev s_InvalidNumber___init__ : Stmt := (inClass (topS 13) 0)
theorem sc_InvalidNumber___init__ : FnScope ["self", "value"] ["self", "value"] (defScope s_InvalidNumber___init__) := ⟨rfl, rfl, rfl, by decide +kernel, rfl, by decide +kernel, by decide +kernel⟩
theorem fn_InvalidNumber___init__ {fd : FuncData} (F : Fun K "__init__" "InvalidNumber.__init__" s_InvalidNumber___init__ f_InvalidNumber___init__ fd) (T : Txt w K mg C_AnswerError C_InvalidProgram C_InvalidMode C_InvalidTable C_InvalidRun C_InvalidFact C_InvalidDerivation C_InvalidOperation C_InvalidCommand C_ParseError C_UnknownName C_UnknownSite C_InvalidNumber C_NothingToUndo C_Refused C_TooMany f_InvalidNumber___init__ f_NothingToUndo___init__ f_ParseError___init__ f_Refused___init__ f_TooMany___init__ f_UnknownName___init__ f_UnknownSite___init__ ) : FnOk P w K mg base (L2.CX P w) 1 f_InvalidNumber___init__ fd ["self", "value"] (spKeep C_InvalidNumber "value") :=
  init_keeps F sc_InvalidNumber___init__ T.xi_InvalidNumber fun cdv A outer s H E => pss_one (ps_keep (pv 0) (pv 1))
abbrev s_NothingToUndo___init__ : Stmt := (inClass (topS 14) 0)
theorem sc_NothingToUndo___init__ : FnScope ["self", "many"] ["self", "many"] (defScope s_NothingToUndo___init__) := ⟨rfl, rfl, rfl, by decide +kernel, rfl, by decide +kernel, by decide +kernel⟩
theorem fn_NothingToUndo___init__ {fd : FuncData} (F : Fun K "__init__" "NothingToUndo.__init__" s_NothingToUndo___init__ f_NothingToUndo___init__ fd) (T : Txt w K mg C_AnswerError C_InvalidProgram C_InvalidMode C_InvalidTable C_InvalidRun C_InvalidFact C_InvalidDerivation C_InvalidOperation C_InvalidCommand C_ParseError C_UnknownName C_UnknownSite C_InvalidNumber C_NothingToUndo C_Refused C_TooMany f_InvalidNumber___init__ f_NothingToUndo___init__ f_ParseError___init__ f_Refused___init__ f_TooMany___init__ f_UnknownName___init__ f_UnknownSite___init__ ) : FnOk P w K mg base (L2.CX P w) 1 f_NothingToUndo___init__ fd ["self", "many"] (spKeep C_NothingToUndo "many") :=
  init_keeps F sc_NothingToUndo___init__ T.xi_NothingToUndo fun cdv A outer s H E => pss_one (ps_keep (pv 0) (pv 1))
abbrev s_ParseError___init__ : Stmt := (inClass (topS 10) 0)
theorem sc_ParseError___init__ : FnScope ["self", "line"] ["self", "line"] (defScope s_ParseError___init__) := ⟨rfl, rfl, rfl, by decide +kernel, rfl, by decide +kernel, by decide +kernel⟩
theorem fn_ParseError___init__ {fd : FuncData} (F : Fun K "__init__" "ParseError.__init__" s_ParseError___init__ f_ParseError___init__ fd) (T : Txt w K mg C_AnswerError C_InvalidProgram C_InvalidMode C_InvalidTable C_InvalidRun C_InvalidFact C_InvalidDerivation C_InvalidOperation C_InvalidCommand C_ParseError C_UnknownName C_UnknownSite C_InvalidNumber C_NothingToUndo C_Refused C_TooMany f_InvalidNumber___init__ f_NothingToUndo___init__ f_ParseError___init__ f_Refused___init__ f_TooMany___init__ f_UnknownName___init__ f_UnknownSite___init__ ) : FnOk P w K mg base (L2.CX P w) 1 f_ParseError___init__ fd ["self", "line"] (spKeep C_ParseError "line") :=
  init_keeps F sc_ParseError___init__ T.xi_ParseError fun cdv A outer s H E => pss_one (ps_keep (pv 0) (pv 1))
abbrev s_Refused___init__ : Stmt := (inClass (topS 15) 0)
theorem sc_Refused___init__ : FnScope ["self", "name"] ["self", "name"] (defScope s_Refused___init__) := ⟨rfl, rfl, rfl, by decide +kernel, rfl, by decide +kernel, by decide +kernel⟩
theorem fn_Refused___init__ {fd : FuncData} (F : Fun K "__init__" "Refused.__init__" s_Refused___init__ f_Refused___init__ fd) (T : Txt w K mg C_AnswerError C_InvalidProgram C_InvalidMode C_InvalidTable C_InvalidRun C_InvalidFact C_InvalidDerivation C_InvalidOperation C_InvalidCommand C_ParseError C_UnknownName C_UnknownSite C_InvalidNumber C_NothingToUndo C_Refused C_TooMany f_InvalidNumber___init__ f_NothingToUndo___init__ f_ParseError___init__ f_Refused___init__ f_TooMany___init__ f_UnknownName___init__ f_UnknownSite___init__ ) : FnOk P w K mg base (L2.CX P w) 1 f_Refused___init__ fd ["self", "name"] (spKeep C_Refused "name") :=
  init_keeps F sc_Refused___init__ T.xi_Refused fun cdv A outer s H E => pss_one (ps_keep (pv 0) (pv 1))
abbrev s_TooMany___init__ : Stmt := (inClass (topS 16) 0)
theorem sc_TooMany___init__ : FnScope ["self", "limit"] ["self", "limit"] (defScope s_TooMany___init__) := ⟨rfl, rfl, rfl, by decide +kernel, rfl, by decide +kernel, by decide +kernel⟩
theorem fn_TooMany___init__ {fd : FuncData} (F : Fun K "__init__" "TooMany.__init__" s_TooMany___init__ f_TooMany___init__ fd) (T : Txt w K mg C_AnswerError C_InvalidProgram C_InvalidMode C_InvalidTable C_InvalidRun C_InvalidFact C_InvalidDerivation C_InvalidOperation C_InvalidCommand C_ParseError C_UnknownName C_UnknownSite C_InvalidNumber C_NothingToUndo C_Refused C_TooMany f_InvalidNumber___init__ f_NothingToUndo___init__ f_ParseError___init__ f_Refused___init__ f_TooMany___init__ f_UnknownName___init__ f_UnknownSite___init__ ) : FnOk P w K mg base (L2.CX P w) 1 f_TooMany___init__ fd ["self", "limit"] (spKeep C_TooMany "limit") :=
  init_keeps F sc_TooMany___init__ T.xi_TooMany fun cdv A outer s H E => pss_one (ps_keep (pv 0) (pv 1))
abbrev s_UnknownName___init__ : Stmt := (inClass (topS 11) 0)
theorem sc_UnknownName___init__ : FnScope ["self", "name"] ["self", "name"] (defScope s_UnknownName___init__) := ⟨rfl, rfl, rfl, by decide +kernel, rfl, by decide +kernel, by decide +kernel⟩
theorem fn_UnknownName___init__ {fd : FuncData} (F : Fun K "__init__" "UnknownName.__init__" s_UnknownName___init__ f_UnknownName___init__ fd) (T : Txt w K mg C_AnswerError C_InvalidProgram C_InvalidMode C_InvalidTable C_InvalidRun C_InvalidFact C_InvalidDerivation C_InvalidOperation C_InvalidCommand C_ParseError C_UnknownName C_UnknownSite C_InvalidNumber C_NothingToUndo C_Refused C_TooMany f_InvalidNumber___init__ f_NothingToUndo___init__ f_ParseError___init__ f_Refused___init__ f_TooMany___init__ f_UnknownName___init__ f_UnknownSite___init__ ) : FnOk P w K mg base (L2.CX P w) 1 f_UnknownName___init__ fd ["self", "name"] (spKeep C_UnknownName "name") :=
  init_keeps F sc_UnknownName___init__ T.xi_UnknownName fun cdv A outer s H E => pss_one (ps_keep (pv 0) (pv 1))
abbrev s_UnknownSite___init__ : Stmt := (inClass (topS 12) 0)
theorem sc_UnknownSite___init__ : FnScope ["self", "site"] ["self", "site"] (defScope s_UnknownSite___init__) := ⟨rfl, rfl, rfl, by decide +kernel, rfl, by decide +kernel, by decide +kernel⟩
theorem fn_UnknownSite___init__ {fd : FuncData} (F : Fun K "__init__" "UnknownSite.__init__" s_UnknownSite___init__ f_UnknownSite___init__ fd) (T : Txt w K mg C_AnswerError C_InvalidProgram C_InvalidMode C_InvalidTable C_InvalidRun C_InvalidFact C_InvalidDerivation C_InvalidOperation C_InvalidCommand C_ParseError C_UnknownName C_UnknownSite C_InvalidNumber C_NothingToUndo C_Refused C_TooMany f_InvalidNumber___init__ f_NothingToUndo___init__ f_ParseError___init__ f_Refused___init__ f_TooMany___init__ f_UnknownName___init__ f_UnknownSite___init__ ) : FnOk P w K mg base (L2.CX P w) 1 f_UnknownSite___init__ fd ["self", "site"] (spKeep C_UnknownSite "site") :=
  init_keeps F sc_UnknownSite___init__ T.xi_UnknownSite fun cdv A outer s H E => pss_one (ps_keep (pv 0) (pv 1))
abbrev s__law_dip : Stmt := (topS 19)
theorem sc__law_dip : FnScope ["_law_well_here", "_law_size", "_law_found", "_law_one", "_law_two"] ["_law_well_here", "_law_size"] (defScope s__law_dip) := ⟨rfl, rfl, rfl, by decide +kernel, rfl, by decide +kernel, by decide +kernel⟩
theorem fn__law_dip {f : Addr} {fd : FuncData} (F : Fun K "_law_dip" "_law_dip" s__law_dip f fd) (T : Txt w K mg C_AnswerError C_InvalidProgram C_InvalidMode C_InvalidTable C_InvalidRun C_InvalidFact C_InvalidDerivation C_InvalidOperation C_InvalidCommand C_ParseError C_UnknownName C_UnknownSite C_InvalidNumber C_NothingToUndo C_Refused C_TooMany f_InvalidNumber___init__ f_NothingToUndo___init__ f_ParseError___init__ f_Refused___init__ f_TooMany___init__ f_UnknownName___init__ f_UnknownSite___init__ )  : FnD P w K mg base 1 false f F__law_dip :=
  fnD_of (def_fn F sc__law_dip fun cdv A outer s H E c =>
    (sss_cons (ss_if (st_cmp (opd_gtA c.toCtx.hu) (se_ix (se_var 0) se_int) se_int) (sss_cons (ss_set (i := 2) c.toCtx.nd (se_op opd_mod (se_callTy calld_int (by rfl) T.n_int bb_int (sa_cons (se_ix (se_var 0) se_int) sa_nil)) (se_var 1)))
    (sss_cons (ss_asg (se_op opd_fdiv (se_ix (se_var 0) se_int) (se_var 1)) (sg_sub (se_var 0) se_int))
    (sss_one (ss_ret (se_var 2))))) sss_nil)
    (sss_cons (ss_asg (se_op opd_add (se_ix (se_var 0) se_int) se_int) (sg_sub (se_var 0) se_int))
    (sss_cons (ss_set (i := 3) c.toCtx.nd (se_op opd_mod (se_callTy calld_int (by rfl) T.n_int bb_int (sa_cons (se_op opd_add (se_ix (se_var 0) se_int) (se_op opd_mulA se_int (se_ix (se_var 0) se_int))) sa_nil)) se_int))
    (sss_cons (ss_set (i := 4) c.toCtx.nd (se_op opd_add (se_op opd_mulA (se_op opd_mod (se_callTy calld_int (by rfl) T.n_int bb_int (sa_cons (se_op opd_mulA (se_var 3) (se_var 3)) sa_nil)) se_int) (se_var 3)) (se_op opd_mulA se_int (se_ix (se_var 0) se_int))))
    (sss_one (ss_ret (se_op opd_mod (se_callTy calld_int (by rfl) T.n_int bb_int (sa_cons (se_op opd_fdiv (se_op opd_mod (se_callTy calld_int (by rfl) T.n_int bb_int (sa_cons (se_op opd_add (se_var 4) (se_ix (se_var 0) se_int)) sa_nil)) se_int) se_int) sa_nil)) (se_var 1))))))))) (F.binds fun _ _ _ _ _ _ us hl => match us, hl with | [_, _], _ => rfl)
abbrev s__law_choose : Stmt := (topS 20)
theorem sc__law_choose : FnScope ["_law_well_here", "_law_items"] ["_law_well_here", "_law_items"] (defScope s__law_choose) := ⟨rfl, rfl, rfl, by decide +kernel, rfl, by decide +kernel, by decide +kernel⟩
theorem fn__law_choose {f : Addr} {fd : FuncData} (F : Fun K "_law_choose" "_law_choose" s__law_choose f fd) (T : Txt w K mg C_AnswerError C_InvalidProgram C_InvalidMode C_InvalidTable C_InvalidRun C_InvalidFact C_InvalidDerivation C_InvalidOperation C_InvalidCommand C_ParseError C_UnknownName C_UnknownSite C_InvalidNumber C_NothingToUndo C_Refused C_TooMany f_InvalidNumber___init__ f_NothingToUndo___init__ f_ParseError___init__ f_Refused___init__ f_TooMany___init__ f_UnknownName___init__ f_UnknownSite___init__ ) (d__law_dip : DefOk P w K mg base 1 false "_law_dip" F__law_dip) : FnD P w K mg base 2 false f F__law_choose :=
  fnD_of (def_fn F sc__law_choose fun cdv A outer s H E c =>
    (sss_one (ss_ret (se_ix (se_var 1) (se_call d__law_dip c.toCtx (by rfl) (sa_cons (se_var 0) (sa_cons (se_callB calld_len (by rfl) T.n_len bb_len (sa_cons (se_var 1) sa_nil)) sa_nil))))))) (F.binds fun _ _ _ _ _ _ us hl => match us, hl with | [_, _], _ => rfl)
abbrev s__law_kinds : Stmt := (topS 21)
theorem sc__law_kinds : FnScope ["_law_error", "_law_found"] ["_law_error"] (defScope s__law_kinds) := ⟨rfl, rfl, rfl, by decide +kernel, rfl, by decide +kernel, by decide +kernel⟩
theorem fn__law_kinds {f : Addr} {fd : FuncData} (F : Fun K "_law_kinds" "_law_kinds" s__law_kinds f fd) (T : Txt w K mg C_AnswerError C_InvalidProgram C_InvalidMode C_InvalidTable C_InvalidRun C_InvalidFact C_InvalidDerivation C_InvalidOperation C_InvalidCommand C_ParseError C_UnknownName C_UnknownSite C_InvalidNumber C_NothingToUndo C_Refused C_TooMany f_InvalidNumber___init__ f_NothingToUndo___init__ f_ParseError___init__ f_Refused___init__ f_TooMany___init__ f_UnknownName___init__ f_UnknownSite___init__ )  : FnD P w K mg base 1 false f F__law_kinds :=
  fnD_of (def_fn F sc__law_kinds fun cdv A outer s H E c =>
    (sss_cons (ss_set (i := 1) c.toCtx.nd (se_lst (sa_cons (se_isEO T.ESok T.ie_AnswerError (by rfl) T.n_isinstance (by rfl) T.mg_AnswerError (se_var 0)) (sa_cons (se_isEO T.ESok T.ie_InvalidProgram (by rfl) T.n_isinstance (by rfl) T.mg_InvalidProgram (se_var 0)) (sa_cons (se_isEO T.ESok T.ie_InvalidMode (by rfl) T.n_isinstance (by rfl) T.mg_InvalidMode (se_var 0)) sa_nil)))))
    (sss_cons (ss_set (i := 1) c.toCtx.nd (se_op opd_add (se_var 1) (se_lst (sa_cons (se_isEO T.ESok T.ie_InvalidTable (by rfl) T.n_isinstance (by rfl) T.mg_InvalidTable (se_var 0)) (sa_cons (se_isEO T.ESok T.ie_InvalidRun (by rfl) T.n_isinstance (by rfl) T.mg_InvalidRun (se_var 0)) (sa_cons (se_isEO T.ESok T.ie_InvalidFact (by rfl) T.n_isinstance (by rfl) T.mg_InvalidFact (se_var 0)) sa_nil))))))
    (sss_cons (ss_set (i := 1) c.toCtx.nd (se_op opd_add (se_var 1) (se_lst (sa_cons (se_isEO T.ESok T.ie_InvalidDerivation (by rfl) T.n_isinstance (by rfl) T.mg_InvalidDerivation (se_var 0)) (sa_cons (se_isEO T.ESok T.ie_InvalidOperation (by rfl) T.n_isinstance (by rfl) T.mg_InvalidOperation (se_var 0)) sa_nil)))))
    (sss_one (ss_ret (se_op opd_add (se_var 1) (se_lst (sa_cons (se_isEO T.ESok T.ie_InvalidCommand (by rfl) T.n_isinstance (by rfl) T.mg_InvalidCommand (se_var 0)) (sa_cons (se_isEO T.ESok T.ie_ParseError (by rfl) T.n_isinstance (by rfl) T.mg_ParseError (se_var 0)) (sa_cons (se_isEB T.ESok T.ib_ValueError (by rfl) T.n_isinstance (by rfl) T.n_ValueError (by decide +kernel) (se_var 0)) sa_nil))))))))))) (F.binds fun _ _ _ _ _ _ us hl => match us, hl with | [_], _ => rfl)
abbrev s__law_messages : Stmt := (topS 23)
theorem sc__law_messages : FnScope ["_law_word", "_law_found"] ["_law_word"] (defScope s__law_messages) := ⟨rfl, rfl, rfl, by decide +kernel, rfl, by decide +kernel, by decide +kernel⟩
theorem fn__law_messages {f : Addr} {fd : FuncData} (F : Fun K "_law_messages" "_law_messages" s__law_messages f fd) (T : Txt w K mg C_AnswerError C_InvalidProgram C_InvalidMode C_InvalidTable C_InvalidRun C_InvalidFact C_InvalidDerivation C_InvalidOperation C_InvalidCommand C_ParseError C_UnknownName C_UnknownSite C_InvalidNumber C_NothingToUndo C_Refused C_TooMany f_InvalidNumber___init__ f_NothingToUndo___init__ f_ParseError___init__ f_Refused___init__ f_TooMany___init__ f_UnknownName___init__ f_UnknownSite___init__ )  : FnD P w K mg base 1 false f F__law_messages :=
  fnD_of (def_fn F sc__law_messages fun cdv A outer s H E c =>
    (sss_cons (ss_set (i := 1) c.toCtx.nd (se_lst (sa_cons (se_mk0 T.at_AnswerError T.ex_AnswerError T.mg_AnswerError T.kc_AnswerError (by rfl) (se_var 0)) (sa_cons (se_mk0 T.at_InvalidProgram T.ex_InvalidProgram T.mg_InvalidProgram T.kc_InvalidProgram (by rfl) (se_var 0)) (sa_cons (se_mk0 T.at_InvalidMode T.ex_InvalidMode T.mg_InvalidMode T.kc_InvalidMode (by rfl) (se_var 0)) (sa_cons (se_mk0 T.at_InvalidTable T.ex_InvalidTable T.mg_InvalidTable T.kc_InvalidTable (by rfl) (se_var 0)) (sa_cons (se_mk0 T.at_InvalidRun T.ex_InvalidRun T.mg_InvalidRun T.kc_InvalidRun (by rfl) (se_var 0)) sa_nil)))))))
    (sss_one (ss_ret (se_op opd_add (se_var 1) (se_lst (sa_cons (se_mk0 T.at_InvalidFact T.ex_InvalidFact T.mg_InvalidFact T.kc_InvalidFact (by rfl) (se_var 0)) (sa_cons (se_mk0 T.at_InvalidDerivation T.ex_InvalidDerivation T.mg_InvalidDerivation T.kc_InvalidDerivation (by rfl) (se_var 0)) (sa_cons (se_mk0 T.at_InvalidOperation T.ex_InvalidOperation T.mg_InvalidOperation T.kc_InvalidOperation (by rfl) (se_var 0)) (sa_cons (se_mk0 T.at_InvalidCommand T.ex_InvalidCommand T.mg_InvalidCommand T.kc_InvalidCommand (by rfl) (se_var 0)) sa_nil)))))))))) (F.binds fun _ _ _ _ _ _ us hl => match us, hl with | [_], _ => rfl)
abbrev s__law_others : Stmt := (topS 22)
theorem sc__law_others : FnScope ["_law_error", "_law_found"] ["_law_error"] (defScope s__law_others) := ⟨rfl, rfl, rfl, by decide +kernel, rfl, by decide +kernel, by decide +kernel⟩
theorem fn__law_others {f : Addr} {fd : FuncData} (F : Fun K "_law_others" "_law_others" s__law_others f fd) (T : Txt w K mg C_AnswerError C_InvalidProgram C_InvalidMode C_InvalidTable C_InvalidRun C_InvalidFact C_InvalidDerivation C_InvalidOperation C_InvalidCommand C_ParseError C_UnknownName C_UnknownSite C_InvalidNumber C_NothingToUndo C_Refused C_TooMany f_InvalidNumber___init__ f_NothingToUndo___init__ f_ParseError___init__ f_Refused___init__ f_TooMany___init__ f_UnknownName___init__ f_UnknownSite___init__ )  : FnD P w K mg base 1 false f F__law_others :=
  fnD_of (def_fn F sc__law_others fun cdv A outer s H E c =>
    (sss_cons (ss_set (i := 1) c.toCtx.nd (se_lst (sa_cons (se_isEO T.ESok T.ie_UnknownName (by rfl) T.n_isinstance (by rfl) T.mg_UnknownName (se_var 0)) (sa_cons (se_isEO T.ESok T.ie_UnknownSite (by rfl) T.n_isinstance (by rfl) T.mg_UnknownSite (se_var 0)) (sa_cons (se_isEO T.ESok T.ie_InvalidNumber (by rfl) T.n_isinstance (by rfl) T.mg_InvalidNumber (se_var 0)) sa_nil)))))
    (sss_cons (ss_set (i := 1) c.toCtx.nd (se_op opd_add (se_var 1) (se_lst (sa_cons (se_isEO T.ESok T.ie_NothingToUndo (by rfl) T.n_isinstance (by rfl) T.mg_NothingToUndo (se_var 0)) (sa_cons (se_isEO T.ESok T.ie_Refused (by rfl) T.n_isinstance (by rfl) T.mg_Refused (se_var 0)) (sa_cons (se_isEO T.ESok T.ie_TooMany (by rfl) T.n_isinstance (by rfl) T.mg_TooMany (se_var 0)) sa_nil))))))
    (sss_cons (ss_set (i := 1) c.toCtx.nd (se_op opd_add (se_var 1) (se_lst (sa_cons (se_isEB T.ESok T.ib_KeyError (by rfl) T.n_isinstance (by rfl) T.n_KeyError (by decide +kernel) (se_var 0)) (sa_cons (se_isEB T.ESok T.ib_IndexError (by rfl) T.n_isinstance (by rfl) T.n_IndexError (by decide +kernel) (se_var 0)) (sa_cons (se_isEB T.ESok T.ib_LookupError (by rfl) T.n_isinstance (by rfl) T.n_LookupError (by decide +kernel) (se_var 0)) sa_nil))))))
    (sss_one (ss_ret (se_op opd_add (se_var 1) (se_lst (sa_cons (se_isEB T.ESok T.ib_ArithmeticError (by rfl) T.n_isinstance (by rfl) T.n_ArithmeticError (by decide +kernel) (se_var 0)) (sa_cons (se_isEB T.ESok T.ib_OverflowError (by rfl) T.n_isinstance (by rfl) T.n_OverflowError (by decide +kernel) (se_var 0)) sa_nil)))))))))) (F.binds fun _ _ _ _ _ _ us hl => match us, hl with | [_], _ => rfl)
abbrev s__law_right : Stmt := (topS 24)
theorem sc__law_right : FnScope ["_law_well_here", "_law_some", "_law_items", "_law_turn", "_law_word", "_law_at", "_law_error", "_law_due", "_law_one", "_law_parse", "_law_name", "_law_site", "_law_number", "_law_undo", "_law_refused", "_law_over", "_law_told", "_law_python"] ["_law_well_here"] (defScope s__law_right) := ⟨rfl, rfl, rfl, by decide +kernel, rfl, by decide +kernel, by decide +kernel⟩
theorem fn__law_right {f : Addr} {fd : FuncData} (F : Fun K "_law_right" "_law_right" s__law_right f fd) (T : Txt w K mg C_AnswerError C_InvalidProgram C_InvalidMode C_InvalidTable C_InvalidRun C_InvalidFact C_InvalidDerivation C_InvalidOperation C_InvalidCommand C_ParseError C_UnknownName C_UnknownSite C_InvalidNumber C_NothingToUndo C_Refused C_TooMany f_InvalidNumber___init__ f_NothingToUndo___init__ f_ParseError___init__ f_Refused___init__ f_TooMany___init__ f_UnknownName___init__ f_UnknownSite___init__ ) {fd_InvalidNumber___init__ : FuncData} (G_InvalidNumber___init__ : FnOk P w K mg base (L2.CX P w) 1 f_InvalidNumber___init__ fd_InvalidNumber___init__ ["self", "value"] (spKeep C_InvalidNumber "value")) (b_InvalidNumber___init__ : Binds K fd_InvalidNumber___init__ ["self", "value"] []) {fd_NothingToUndo___init__ : FuncData} (G_NothingToUndo___init__ : FnOk P w K mg base (L2.CX P w) 1 f_NothingToUndo___init__ fd_NothingToUndo___init__ ["self", "many"] (spKeep C_NothingToUndo "many")) (b_NothingToUndo___init__ : Binds K fd_NothingToUndo___init__ ["self", "many"] []) {fd_ParseError___init__ : FuncData} (G_ParseError___init__ : FnOk P w K mg base (L2.CX P w) 1 f_ParseError___init__ fd_ParseError___init__ ["self", "line"] (spKeep C_ParseError "line")) (b_ParseError___init__ : Binds K fd_ParseError___init__ ["self", "line"] []) {fd_Refused___init__ : FuncData} (G_Refused___init__ : FnOk P w K mg base (L2.CX P w) 1 f_Refused___init__ fd_Refused___init__ ["self", "name"] (spKeep C_Refused "name")) (b_Refused___init__ : Binds K fd_Refused___init__ ["self", "name"] []) {fd_TooMany___init__ : FuncData} (G_TooMany___init__ : FnOk P w K mg base (L2.CX P w) 1 f_TooMany___init__ fd_TooMany___init__ ["self", "limit"] (spKeep C_TooMany "limit")) (b_TooMany___init__ : Binds K fd_TooMany___init__ ["self", "limit"] []) {fd_UnknownName___init__ : FuncData} (G_UnknownName___init__ : FnOk P w K mg base (L2.CX P w) 1 f_UnknownName___init__ fd_UnknownName___init__ ["self", "name"] (spKeep C_UnknownName "name")) (b_UnknownName___init__ : Binds K fd_UnknownName___init__ ["self", "name"] []) {fd_UnknownSite___init__ : FuncData} (G_UnknownSite___init__ : FnOk P w K mg base (L2.CX P w) 1 f_UnknownSite___init__ fd_UnknownSite___init__ ["self", "site"] (spKeep C_UnknownSite "site")) (b_UnknownSite___init__ : Binds K fd_UnknownSite___init__ ["self", "site"] []) (d__law_choose : DefOk P w K mg base 2 false "_law_choose" F__law_choose) (d__law_kinds : DefOk P w K mg base 1 false "_law_kinds" F__law_kinds) (d__law_messages : DefOk P w K mg base 1 false "_law_messages" F__law_messages) (d__law_others : DefOk P w K mg base 1 false "_law_others" F__law_others) : FnD P w K mg base 6 true f F__law_right :=
  def_fnG F sc__law_right (F.binds fun _ _ _ _ _ _ us hl => match us, hl with | [_], _ => rfl) fun cdv A outer s H E c =>
    (sss_cons (ss_set (i := 1) c.toCtx.nd (se_lst (sa_cons se_int (sa_cons se_int (sa_cons se_str (sa_cons se_str (sa_cons (se_tup (sa_cons se_str (sa_cons se_int sa_nil))) (sa_cons se_non (sa_cons (se_neg se_int) (sa_cons (se_op opd_pow se_int se_int) (sa_cons (se_lst (sa_cons se_int sa_nil)) (sa_cons se_d0 (sa_cons se_bl (sa_cons (se_tup sa_nil) (sa_cons se_str (sa_cons (se_tup (sa_cons (se_tup sa_nil) sa_nil)) sa_nil))))))))))))))))
    (sss_cons (ss_setLc (i := 2) (own := [("_law_turn", 3)]) c.toCtx.calm c.toCtx.nd (si_range1 (by rfl) T.n_range se_int) (blkOk_by (N := ["_law_well_here", "_law_some", "_law_items", "_law_turn", "_law_word", "_law_at", "_law_error", "_law_due", "_law_one", "_law_parse", "_law_name", "_law_site", "_law_number", "_law_undo", "_law_refused", "_law_over", "_law_told", "_law_python"]) (sc := defScope s__law_right) (by decide +kernel)) (fun _ _ _ _ _ => (sg_name (i := 3) (c.toCtx.blk _ _ _ _ _).nd)) (fun _ _ _ _ _ => sif_nil) (fun _ _ _ _ _ => (se_call d__law_choose (c.toCtx.blk _ _ _ _ _) (by rfl) (sa_cons (se_var 0) (sa_cons (se_var 1) sa_nil)))))
    (sss_cons (ss_set (i := 4) c.toCtx.nd (se_call d__law_choose c.toCtx (by rfl) (sa_cons (se_var 0) (sa_cons (se_lst (sa_cons se_str (sa_cons se_str (sa_cons se_str sa_nil)))) sa_nil))))
    (sss_cons (ss_for c (si_enumL (by rfl) T.n_enumerate (se_call d__law_messages c.toCtx (by rfl) (sa_cons (se_var 4) sa_nil))) (sg_or (sg_tup (n := 2) c.toCtx.calm (sgs_cons (sg_name (i := 5) c.toCtx.nd) (sgs_cons (sg_name (i := 6) c.toCtx.nd) sgs_nil))) (sg_lst (n := 2) c.toCtx.calm (sgs_cons (sg_name (i := 5) c.toCtx.nd) (sgs_cons (sg_name (i := 6) c.toCtx.nd) sgs_nil)))) (sss_cons (ss_set (i := 7) c.toCtx.nd (se_op opd_add (se_op opd_add (se_lst (sa_cons se_bl sa_nil)) (se_lc (own := [("_law_one", 8)]) c.toCtx.calm c.toCtx.nd (si_range2 (by rfl) T.n_range se_int se_int) (blkOk_by (N := ["_law_well_here", "_law_some", "_law_items", "_law_turn", "_law_word", "_law_at", "_law_error", "_law_due", "_law_one", "_law_parse", "_law_name", "_law_site", "_law_number", "_law_undo", "_law_refused", "_law_over", "_law_told", "_law_python"]) (sc := defScope s__law_right) (by decide +kernel)) (fun _ _ _ _ _ => (sg_name (i := 8) (c.toCtx.blk _ _ _ _ _).nd)) (fun _ _ _ _ _ => sif_nil) (fun _ _ _ _ _ => (se_cmp (opd_eqX (c.toCtx.blk _ _ _ _ _) (ownNo_ok (j := 0))) (se_var 8) (se_var 5))))) (se_lst (sa_cons se_bl (sa_cons se_bl sa_nil)))))
    (sss_one (ss_if (st_w (sw_or (st_cmp (opd_neX c.toCtx (ownNo_ok (j := 0))) (se_call d__law_kinds c.toCtx (by rfl) (sa_cons (se_var 6) sa_nil)) (se_var 7)) (sw_or1 (st_cmp (opd_neX c.toCtx (ownNo_ok (j := 0))) (se_call d__law_others c.toCtx (by rfl) (sa_cons (se_var 6) sa_nil)) (se_op opd_mulA (se_lst (sa_cons se_bl sa_nil)) se_int))))) (sss_one (ss_ret se_bl)) sss_nil))))
    (sss_cons (ss_set (i := 9) c.toCtx.nd (se_mkX T.at_ParseError T.xi_ParseError G_ParseError___init__ b_ParseError___init__ c.toCtx (by rfl) T.mg_ParseError (se_ix (se_var 2) se_int)))
    (sss_cons (ss_if (st_w (sw_or (st_cmp (opd_neX c.toCtx (ownNo_ok (j := 0))) (se_call d__law_kinds c.toCtx (by rfl) (sa_cons (se_var 9) sa_nil)) (se_op opd_add (se_op opd_add (se_lst (sa_cons se_bl sa_nil)) (se_op opd_mulA (se_lst (sa_cons se_bl sa_nil)) se_int)) (se_lst (sa_cons se_bl (sa_cons se_bl sa_nil))))) (sw_or1 (st_cmp (opd_neX c.toCtx (ownNo_ok (j := 0))) (se_call d__law_others c.toCtx (by rfl) (sa_cons (se_var 9) sa_nil)) (se_op opd_mulA (se_lst (sa_cons se_bl sa_nil)) se_int))))) (sss_one (ss_ret se_bl)) sss_nil)
    (sss_cons (ss_par3 (i := 10) (j := 11) (l := 12) c.toCtx.calm c.toCtx.nd (sa_cons (se_mkX T.at_UnknownName T.xi_UnknownName G_UnknownName___init__ b_UnknownName___init__ c.toCtx (by rfl) T.mg_UnknownName (se_ix (se_var 2) se_int)) (sa_cons (se_mkX T.at_UnknownSite T.xi_UnknownSite G_UnknownSite___init__ b_UnknownSite___init__ c.toCtx (by rfl) T.mg_UnknownSite (se_ix (se_var 2) se_int)) (sa_cons (se_mkX T.at_InvalidNumber T.xi_InvalidNumber G_InvalidNumber___init__ b_InvalidNumber___init__ c.toCtx (by rfl) T.mg_InvalidNumber (se_ix (se_var 2) se_int)) sa_nil))))
    (sss_cons (ss_par3 (i := 13) (j := 14) (l := 15) c.toCtx.calm c.toCtx.nd (sa_cons (se_mkX T.at_NothingToUndo T.xi_NothingToUndo G_NothingToUndo___init__ b_NothingToUndo___init__ c.toCtx (by rfl) T.mg_NothingToUndo (se_ix (se_var 2) se_int)) (sa_cons (se_mkX T.at_Refused T.xi_Refused G_Refused___init__ b_Refused___init__ c.toCtx (by rfl) T.mg_Refused (se_ix (se_var 2) se_int)) (sa_cons (se_mkX T.at_TooMany T.xi_TooMany G_TooMany___init__ b_TooMany___init__ c.toCtx (by rfl) T.mg_TooMany (se_ix (se_var 2) se_int)) sa_nil))))
    (sss_cons (ss_set (i := 16) c.toCtx.nd (se_lst (sa_cons (se_fldE T.at_ParseError T.xf_ParseError T.nf_ParseError_line (se_var 9)) (sa_cons (se_fldE T.at_UnknownName T.xf_UnknownName T.nf_UnknownName_name (se_var 10)) (sa_cons (se_fldE T.at_UnknownSite T.xf_UnknownSite T.nf_UnknownSite_site (se_var 11)) (sa_cons (se_fldE T.at_InvalidNumber T.xf_InvalidNumber T.nf_InvalidNumber_value (se_var 12)) (sa_cons (se_fldE T.at_NothingToUndo T.xf_NothingToUndo T.nf_NothingToUndo_many (se_var 13)) (sa_cons (se_fldE T.at_Refused T.xf_Refused T.nf_Refused_name (se_var 14)) (sa_cons (se_fldE T.at_TooMany T.xf_TooMany T.nf_TooMany_limit (se_var 15)) sa_nil)))))))))
    (sss_cons (ss_if (st_cmp (opd_neX c.toCtx (ownNo_ok (j := 0))) (se_callB (calld_reprE (c.toCtx.gd rfl) c.toCtx.hu) (by rfl) T.n_repr bb_repr (sa_cons (se_var 16) sa_nil)) (se_callB (calld_reprE (c.toCtx.gd rfl) c.toCtx.hu) (by rfl) T.n_repr bb_repr (sa_cons (se_var 2) sa_nil))) (sss_one (ss_ret se_bl)) sss_nil)
    (sss_cons (ss_set (i := 17) c.toCtx.nd (se_op opd_add (se_op opd_mulA (se_lst (sa_cons (se_lst (sa_cons se_bl (sa_cons se_bl (sa_cons se_bl (sa_cons se_bl (sa_cons se_bl sa_nil)))))) sa_nil)) se_int) (se_lst (sa_cons (se_lst (sa_cons se_bl (sa_cons se_bl (sa_cons se_bl (sa_cons se_bl (sa_cons se_bl sa_nil)))))) sa_nil))))
    (sss_cons (ss_set (i := 17) c.toCtx.nd (se_addM (se_var 17) (se_lst (sa_cons (se_lst (sa_cons se_bl (sa_cons se_bl (sa_cons se_bl (sa_cons se_bl (sa_cons se_bl sa_nil)))))) (sa_cons (se_lst (sa_cons se_bl (sa_cons se_bl (sa_cons se_bl (sa_cons se_bl (sa_cons se_bl sa_nil)))))) sa_nil)))))
    (sss_cons (ss_expr (se_append (se_var 17) (se_lst (sa_cons se_bl (sa_cons se_bl (sa_cons se_bl (sa_cons se_bl (sa_cons se_bl sa_nil))))))))
    (sss_cons (ss_for c (si_enumL (by rfl) T.n_enumerate (se_lst (sa_cons (se_var 10) (sa_cons (se_var 11) (sa_cons (se_var 12) (sa_cons (se_var 13) (sa_cons (se_var 14) (sa_cons (se_var 15) sa_nil)))))))) (sg_or (sg_tup (n := 2) c.toCtx.calm (sgs_cons (sg_name (i := 5) c.toCtx.nd) (sgs_cons (sg_name (i := 6) c.toCtx.nd) sgs_nil))) (sg_lst (n := 2) c.toCtx.calm (sgs_cons (sg_name (i := 5) c.toCtx.nd) (sgs_cons (sg_name (i := 6) c.toCtx.nd) sgs_nil)))) (sss_cons (ss_set (i := 7) c.toCtx.nd (se_op opd_add (se_lc (own := [("_law_one", 8)]) c.toCtx.calm c.toCtx.nd (si_range1 (by rfl) T.n_range se_int) (blkOk_by (N := ["_law_well_here", "_law_some", "_law_items", "_law_turn", "_law_word", "_law_at", "_law_error", "_law_due", "_law_one", "_law_parse", "_law_name", "_law_site", "_law_number", "_law_undo", "_law_refused", "_law_over", "_law_told", "_law_python"]) (sc := defScope s__law_right) (by decide +kernel)) (fun _ _ _ _ _ => (sg_name (i := 8) (c.toCtx.blk _ _ _ _ _).nd)) (fun _ _ _ _ _ => sif_nil) (fun _ _ _ _ _ => (se_cmp (opd_eqX (c.toCtx.blk _ _ _ _ _) (ownNo_ok (j := 0))) (se_var 8) (se_var 5)))) (se_ix (se_var 17) (se_var 5))))
    (sss_one (ss_if (st_w (sw_or (st_cmp (opd_neX c.toCtx (ownNo_ok (j := 0))) (se_call d__law_others c.toCtx (by rfl) (sa_cons (se_var 6) sa_nil)) (se_var 7)) (sw_or1 (st_cmp (opd_neX c.toCtx (ownNo_ok (j := 0))) (se_call d__law_kinds c.toCtx (by rfl) (sa_cons (se_var 6) sa_nil)) (se_op opd_mulA (se_lst (sa_cons se_bl sa_nil)) se_int))))) (sss_one (ss_ret se_bl)) sss_nil))))
    (sss_one (ss_ret se_bl))))))))))))))))
abbrev s__law_well : Stmt := (topS 18)
theorem sc__law_well : FnScope ["_law_script", "_law_spot", "_law_cell", "_law_great", "_law_seed"] ["_law_script", "_law_spot"] (defScope s__law_well) := ⟨rfl, rfl, rfl, by decide +kernel, rfl, by decide +kernel, by decide +kernel⟩
theorem fn__law_well {f : Addr} {fd : FuncData} (F : Fun K "_law_well" "_law_well" s__law_well f fd) (T : Txt w K mg C_AnswerError C_InvalidProgram C_InvalidMode C_InvalidTable C_InvalidRun C_InvalidFact C_InvalidDerivation C_InvalidOperation C_InvalidCommand C_ParseError C_UnknownName C_UnknownSite C_InvalidNumber C_NothingToUndo C_Refused C_TooMany f_InvalidNumber___init__ f_NothingToUndo___init__ f_ParseError___init__ f_Refused___init__ f_TooMany___init__ f_UnknownName___init__ f_UnknownSite___init__ )  : FnD P w K mg base 1 false f F__law_well :=
  fnD_of (def_fn F sc__law_well fun cdv A outer s H E c =>
    (sss_cons (ss_set (i := 2) c.toCtx.nd (se_if (st_cmp (opd_ltA c.toCtx.hu) (se_var 1) (se_callB calld_len (by rfl) T.n_len bb_len (sa_cons (se_var 0) sa_nil))) (se_ix (se_var 0) (se_var 1)) (se_op opd_add (se_op opd_mulA se_int (se_var 1)) se_int)))
    (sss_cons (ss_set (i := 3) c.toCtx.nd (se_op opd_mod (se_callTy calld_int (by rfl) T.n_int bb_int (sa_cons (se_callB calld_abs (by rfl) T.n_abs bb_abs (sa_cons (se_var 2) sa_nil)) sa_nil)) (se_op opd_pow (se_op opd_pow se_int se_int) se_int)))
    (sss_cons (ss_set (i := 4) c.toCtx.nd (se_op opd_mod (se_callTy calld_int (by rfl) T.n_int bb_int (sa_cons (se_op opd_add (se_op opd_add (se_op opd_add (se_op opd_mulA (se_var 3) se_int) (se_op opd_mulA se_int (se_var 1))) (se_op opd_mulA se_int (se_callTy calld_int (by rfl) T.n_int bb_int (sa_cons (se_cmp (opd_ltA c.toCtx.hu) (se_var 2) se_int) sa_nil)))) se_int) sa_nil)) se_int))
    (sss_one (ss_ret (se_lstM (sa_cons (se_callB (calld_max2 c.toCtx.calm) (by rfl) T.n_max bb_max (sa_cons se_int (sa_cons (se_op opd_sub (se_var 3) (se_op opd_pow se_int se_int)) sa_nil))) (sa_cons (se_var 4) (sa_cons se_int sa_nil)))))))))) (F.binds fun _ _ _ _ _ _ us hl => match us, hl with | [_, _], _ => rfl)
abbrev s_law : Stmt := (topS 25)
theorem sc_law : FnScope ["_law_script", "_law_spot"] ["_law_script"] (defScope s_law) := ⟨rfl, rfl, rfl, by decide +kernel, rfl, by decide +kernel, by decide +kernel⟩
theorem fn_law {f : Addr} {fd : FuncData} (F : Fun K "law" "law" s_law f fd) (T : Txt w K mg C_AnswerError C_InvalidProgram C_InvalidMode C_InvalidTable C_InvalidRun C_InvalidFact C_InvalidDerivation C_InvalidOperation C_InvalidCommand C_ParseError C_UnknownName C_UnknownSite C_InvalidNumber C_NothingToUndo C_Refused C_TooMany f_InvalidNumber___init__ f_NothingToUndo___init__ f_ParseError___init__ f_Refused___init__ f_TooMany___init__ f_UnknownName___init__ f_UnknownSite___init__ ) (d__law_right : DefOk P w K mg base 6 true "_law_right" F__law_right) (d__law_well : DefOk P w K mg base 1 false "_law_well" F__law_well) : FnD P w K mg base 7 true f F_law :=
  def_fnG F sc_law (F.binds fun _ _ _ _ _ _ us hl => match us, hl with | [_], _ => rfl) fun cdv A outer s H E c =>
    (sss_cons (ss_for c (si_range1 (by rfl) T.n_range (se_callB (calld_max2 c.toCtx.calm) (by rfl) T.n_max bb_max (sa_cons se_int (sa_cons (se_callB (calld_min2 c.toCtx.calm) (by rfl) T.n_min bb_min (sa_cons se_int (sa_cons (se_callB calld_len (by rfl) T.n_len bb_len (sa_cons (se_var 0) sa_nil)) sa_nil))) sa_nil)))) (sg_name (i := 1) c.toCtx.nd) (sss_one (ss_if (st_not (st_val (se_call d__law_right c.toCtx (by rfl) (sa_cons (se_call d__law_well c.toCtx (by rfl) (sa_cons (se_var 0) (sa_cons (se_var 1) sa_nil))) sa_nil)))) (sss_one (ss_ret se_bl)) sss_nil)))
    (sss_one (ss_ret se_bl)))
end
end DXP

namespace DXP
open PySem PySem.Spec PyProof.Rows L2 DX
variable [TB0]
theorem all_mk {P : Program} {w : World} {K : PySem.W.Frag} {h : Heap} {mg : Str → Option Value} {fa f__law_dip f__law_choose f__law_kinds f__law_messages f__law_others f__law_right f__law_well f_law C_AnswerError C_InvalidProgram C_InvalidMode C_InvalidTable C_InvalidRun C_InvalidFact C_InvalidDerivation C_InvalidOperation C_InvalidCommand C_ParseError C_UnknownName C_UnknownSite C_InvalidNumber C_NothingToUndo C_Refused C_TooMany f_InvalidNumber___init__ f_NothingToUndo___init__ f_ParseError___init__ f_Refused___init__ f_TooMany___init__ f_UnknownName___init__ f_UnknownSite___init__ : Addr}  (X : K.In h) (G : h.Ns mainGlobals mg) (hfa : mg "law" = some (.ref fa))
    {od_InvalidNumber___init__ an_InvalidNumber___init__ : Option Addr} {sl_InvalidNumber___init__ : Array (Option Value)} {oc_InvalidNumber___init__ kV_InvalidNumber___init__ dc_InvalidNumber___init__ pm_InvalidNumber___init__ cd_InvalidNumber___init__ ct_InvalidNumber___init__ : Value}
    {od_NothingToUndo___init__ an_NothingToUndo___init__ : Option Addr} {sl_NothingToUndo___init__ : Array (Option Value)} {oc_NothingToUndo___init__ kV_NothingToUndo___init__ dc_NothingToUndo___init__ pm_NothingToUndo___init__ cd_NothingToUndo___init__ ct_NothingToUndo___init__ : Value}
    {od_ParseError___init__ an_ParseError___init__ : Option Addr} {sl_ParseError___init__ : Array (Option Value)} {oc_ParseError___init__ kV_ParseError___init__ dc_ParseError___init__ pm_ParseError___init__ cd_ParseError___init__ ct_ParseError___init__ : Value}
    {od_Refused___init__ an_Refused___init__ : Option Addr} {sl_Refused___init__ : Array (Option Value)} {oc_Refused___init__ kV_Refused___init__ dc_Refused___init__ pm_Refused___init__ cd_Refused___init__ ct_Refused___init__ : Value}
    {od_TooMany___init__ an_TooMany___init__ : Option Addr} {sl_TooMany___init__ : Array (Option Value)} {oc_TooMany___init__ kV_TooMany___init__ dc_TooMany___init__ pm_TooMany___init__ cd_TooMany___init__ ct_TooMany___init__ : Value}
    {od_UnknownName___init__ an_UnknownName___init__ : Option Addr} {sl_UnknownName___init__ : Array (Option Value)} {oc_UnknownName___init__ kV_UnknownName___init__ dc_UnknownName___init__ pm_UnknownName___init__ cd_UnknownName___init__ ct_UnknownName___init__ : Value}
    {od_UnknownSite___init__ an_UnknownSite___init__ : Option Addr} {sl_UnknownSite___init__ : Array (Option Value)} {oc_UnknownSite___init__ kV_UnknownSite___init__ dc_UnknownSite___init__ pm_UnknownSite___init__ cd_UnknownSite___init__ ct_UnknownSite___init__ : Value}
    {od__law_dip an__law_dip : Option Addr} {sl__law_dip : Array (Option Value)} {oc__law_dip kV__law_dip dc__law_dip pm__law_dip cd__law_dip ct__law_dip : Value}
    {od__law_choose an__law_choose : Option Addr} {sl__law_choose : Array (Option Value)} {oc__law_choose kV__law_choose dc__law_choose pm__law_choose cd__law_choose ct__law_choose : Value}
    {od__law_kinds an__law_kinds : Option Addr} {sl__law_kinds : Array (Option Value)} {oc__law_kinds kV__law_kinds dc__law_kinds pm__law_kinds cd__law_kinds ct__law_kinds : Value}
    {od__law_messages an__law_messages : Option Addr} {sl__law_messages : Array (Option Value)} {oc__law_messages kV__law_messages dc__law_messages pm__law_messages cd__law_messages ct__law_messages : Value}
    {od__law_others an__law_others : Option Addr} {sl__law_others : Array (Option Value)} {oc__law_others kV__law_others dc__law_others pm__law_others cd__law_others ct__law_others : Value}
    {od__law_right an__law_right : Option Addr} {sl__law_right : Array (Option Value)} {oc__law_right kV__law_right dc__law_right pm__law_right cd__law_right ct__law_right : Value}
    {od__law_well an__law_well : Option Addr} {sl__law_well : Array (Option Value)} {oc__law_well kV__law_well dc__law_well pm__law_well cd__law_well ct__law_well : Value}
    {od_law an_law : Option Addr} {sl_law : Array (Option Value)} {oc_law kV_law dc_law pm_law cd_law ct_law : Value}
    (l_InvalidNumber___init__ : K.lookup f_InvalidNumber___init__ = some ⟨oc_InvalidNumber___init__, od_InvalidNumber___init__, .func (PySem.W.fnOf "__init__" "InvalidNumber.__init__" (defArgs s_InvalidNumber___init__) (defBody s_InvalidNumber___init__) (defScope s_InvalidNumber___init__) .none kV_InvalidNumber___init__ dc_InvalidNumber___init__ pm_InvalidNumber___init__ an_InvalidNumber___init__ cd_InvalidNumber___init__ ct_InvalidNumber___init__), sl_InvalidNumber___init__⟩) (c_InvalidNumber___init__ : PySem.W.codeIn K cd_InvalidNumber___init__ "InvalidNumber.__init__" = true) (k_InvalidNumber___init__ : PySem.W.keepIn K (.ref f_InvalidNumber___init__) = true)
    (l_NothingToUndo___init__ : K.lookup f_NothingToUndo___init__ = some ⟨oc_NothingToUndo___init__, od_NothingToUndo___init__, .func (PySem.W.fnOf "__init__" "NothingToUndo.__init__" (defArgs s_NothingToUndo___init__) (defBody s_NothingToUndo___init__) (defScope s_NothingToUndo___init__) .none kV_NothingToUndo___init__ dc_NothingToUndo___init__ pm_NothingToUndo___init__ an_NothingToUndo___init__ cd_NothingToUndo___init__ ct_NothingToUndo___init__), sl_NothingToUndo___init__⟩) (c_NothingToUndo___init__ : PySem.W.codeIn K cd_NothingToUndo___init__ "NothingToUndo.__init__" = true) (k_NothingToUndo___init__ : PySem.W.keepIn K (.ref f_NothingToUndo___init__) = true)
    (l_ParseError___init__ : K.lookup f_ParseError___init__ = some ⟨oc_ParseError___init__, od_ParseError___init__, .func (PySem.W.fnOf "__init__" "ParseError.__init__" (defArgs s_ParseError___init__) (defBody s_ParseError___init__) (defScope s_ParseError___init__) .none kV_ParseError___init__ dc_ParseError___init__ pm_ParseError___init__ an_ParseError___init__ cd_ParseError___init__ ct_ParseError___init__), sl_ParseError___init__⟩) (c_ParseError___init__ : PySem.W.codeIn K cd_ParseError___init__ "ParseError.__init__" = true) (k_ParseError___init__ : PySem.W.keepIn K (.ref f_ParseError___init__) = true)
    (l_Refused___init__ : K.lookup f_Refused___init__ = some ⟨oc_Refused___init__, od_Refused___init__, .func (PySem.W.fnOf "__init__" "Refused.__init__" (defArgs s_Refused___init__) (defBody s_Refused___init__) (defScope s_Refused___init__) .none kV_Refused___init__ dc_Refused___init__ pm_Refused___init__ an_Refused___init__ cd_Refused___init__ ct_Refused___init__), sl_Refused___init__⟩) (c_Refused___init__ : PySem.W.codeIn K cd_Refused___init__ "Refused.__init__" = true) (k_Refused___init__ : PySem.W.keepIn K (.ref f_Refused___init__) = true)
    (l_TooMany___init__ : K.lookup f_TooMany___init__ = some ⟨oc_TooMany___init__, od_TooMany___init__, .func (PySem.W.fnOf "__init__" "TooMany.__init__" (defArgs s_TooMany___init__) (defBody s_TooMany___init__) (defScope s_TooMany___init__) .none kV_TooMany___init__ dc_TooMany___init__ pm_TooMany___init__ an_TooMany___init__ cd_TooMany___init__ ct_TooMany___init__), sl_TooMany___init__⟩) (c_TooMany___init__ : PySem.W.codeIn K cd_TooMany___init__ "TooMany.__init__" = true) (k_TooMany___init__ : PySem.W.keepIn K (.ref f_TooMany___init__) = true)
    (l_UnknownName___init__ : K.lookup f_UnknownName___init__ = some ⟨oc_UnknownName___init__, od_UnknownName___init__, .func (PySem.W.fnOf "__init__" "UnknownName.__init__" (defArgs s_UnknownName___init__) (defBody s_UnknownName___init__) (defScope s_UnknownName___init__) .none kV_UnknownName___init__ dc_UnknownName___init__ pm_UnknownName___init__ an_UnknownName___init__ cd_UnknownName___init__ ct_UnknownName___init__), sl_UnknownName___init__⟩) (c_UnknownName___init__ : PySem.W.codeIn K cd_UnknownName___init__ "UnknownName.__init__" = true) (k_UnknownName___init__ : PySem.W.keepIn K (.ref f_UnknownName___init__) = true)
    (l_UnknownSite___init__ : K.lookup f_UnknownSite___init__ = some ⟨oc_UnknownSite___init__, od_UnknownSite___init__, .func (PySem.W.fnOf "__init__" "UnknownSite.__init__" (defArgs s_UnknownSite___init__) (defBody s_UnknownSite___init__) (defScope s_UnknownSite___init__) .none kV_UnknownSite___init__ dc_UnknownSite___init__ pm_UnknownSite___init__ an_UnknownSite___init__ cd_UnknownSite___init__ ct_UnknownSite___init__), sl_UnknownSite___init__⟩) (c_UnknownSite___init__ : PySem.W.codeIn K cd_UnknownSite___init__ "UnknownSite.__init__" = true) (k_UnknownSite___init__ : PySem.W.keepIn K (.ref f_UnknownSite___init__) = true)
    (a__law_dip : PySem.W.nsIn K mainGlobals "_law_dip" = some (some (.ref f__law_dip))) (l__law_dip : K.lookup f__law_dip = some ⟨oc__law_dip, od__law_dip, .func (PySem.W.fnOf "_law_dip" "_law_dip" (defArgs s__law_dip) (defBody s__law_dip) (defScope s__law_dip) .none kV__law_dip dc__law_dip pm__law_dip an__law_dip cd__law_dip ct__law_dip), sl__law_dip⟩) (c__law_dip : PySem.W.codeIn K cd__law_dip "_law_dip" = true) (k__law_dip : PySem.W.keepIn K (.ref f__law_dip) = true)
    (a__law_choose : PySem.W.nsIn K mainGlobals "_law_choose" = some (some (.ref f__law_choose))) (l__law_choose : K.lookup f__law_choose = some ⟨oc__law_choose, od__law_choose, .func (PySem.W.fnOf "_law_choose" "_law_choose" (defArgs s__law_choose) (defBody s__law_choose) (defScope s__law_choose) .none kV__law_choose dc__law_choose pm__law_choose an__law_choose cd__law_choose ct__law_choose), sl__law_choose⟩) (c__law_choose : PySem.W.codeIn K cd__law_choose "_law_choose" = true) (k__law_choose : PySem.W.keepIn K (.ref f__law_choose) = true)
    (a__law_kinds : PySem.W.nsIn K mainGlobals "_law_kinds" = some (some (.ref f__law_kinds))) (l__law_kinds : K.lookup f__law_kinds = some ⟨oc__law_kinds, od__law_kinds, .func (PySem.W.fnOf "_law_kinds" "_law_kinds" (defArgs s__law_kinds) (defBody s__law_kinds) (defScope s__law_kinds) .none kV__law_kinds dc__law_kinds pm__law_kinds an__law_kinds cd__law_kinds ct__law_kinds), sl__law_kinds⟩) (c__law_kinds : PySem.W.codeIn K cd__law_kinds "_law_kinds" = true) (k__law_kinds : PySem.W.keepIn K (.ref f__law_kinds) = true)
    (a__law_messages : PySem.W.nsIn K mainGlobals "_law_messages" = some (some (.ref f__law_messages))) (l__law_messages : K.lookup f__law_messages = some ⟨oc__law_messages, od__law_messages, .func (PySem.W.fnOf "_law_messages" "_law_messages" (defArgs s__law_messages) (defBody s__law_messages) (defScope s__law_messages) .none kV__law_messages dc__law_messages pm__law_messages an__law_messages cd__law_messages ct__law_messages), sl__law_messages⟩) (c__law_messages : PySem.W.codeIn K cd__law_messages "_law_messages" = true) (k__law_messages : PySem.W.keepIn K (.ref f__law_messages) = true)
    (a__law_others : PySem.W.nsIn K mainGlobals "_law_others" = some (some (.ref f__law_others))) (l__law_others : K.lookup f__law_others = some ⟨oc__law_others, od__law_others, .func (PySem.W.fnOf "_law_others" "_law_others" (defArgs s__law_others) (defBody s__law_others) (defScope s__law_others) .none kV__law_others dc__law_others pm__law_others an__law_others cd__law_others ct__law_others), sl__law_others⟩) (c__law_others : PySem.W.codeIn K cd__law_others "_law_others" = true) (k__law_others : PySem.W.keepIn K (.ref f__law_others) = true)
    (a__law_right : PySem.W.nsIn K mainGlobals "_law_right" = some (some (.ref f__law_right))) (l__law_right : K.lookup f__law_right = some ⟨oc__law_right, od__law_right, .func (PySem.W.fnOf "_law_right" "_law_right" (defArgs s__law_right) (defBody s__law_right) (defScope s__law_right) .none kV__law_right dc__law_right pm__law_right an__law_right cd__law_right ct__law_right), sl__law_right⟩) (c__law_right : PySem.W.codeIn K cd__law_right "_law_right" = true) (k__law_right : PySem.W.keepIn K (.ref f__law_right) = true)
    (a__law_well : PySem.W.nsIn K mainGlobals "_law_well" = some (some (.ref f__law_well))) (l__law_well : K.lookup f__law_well = some ⟨oc__law_well, od__law_well, .func (PySem.W.fnOf "_law_well" "_law_well" (defArgs s__law_well) (defBody s__law_well) (defScope s__law_well) .none kV__law_well dc__law_well pm__law_well an__law_well cd__law_well ct__law_well), sl__law_well⟩) (c__law_well : PySem.W.codeIn K cd__law_well "_law_well" = true) (k__law_well : PySem.W.keepIn K (.ref f__law_well) = true)
    (a_law : PySem.W.nsIn K mainGlobals "law" = some (some (.ref f_law))) (l_law : K.lookup f_law = some ⟨oc_law, od_law, .func (PySem.W.fnOf "law" "law" (defArgs s_law) (defBody s_law) (defScope s_law) .none kV_law dc_law pm_law an_law cd_law ct_law), sl_law⟩) (c_law : PySem.W.codeIn K cd_law "law" = true) (k_law : PySem.W.keepIn K (.ref f_law) = true)
    (z_ArithmeticError : PySem.W.nsIn K mainGlobals "ArithmeticError" = some none)
    (z_IndexError : PySem.W.nsIn K mainGlobals "IndexError" = some none)
    (z_KeyError : PySem.W.nsIn K mainGlobals "KeyError" = some none)
    (z_LookupError : PySem.W.nsIn K mainGlobals "LookupError" = some none)
    (z_OverflowError : PySem.W.nsIn K mainGlobals "OverflowError" = some none)
    (z_ValueError : PySem.W.nsIn K mainGlobals "ValueError" = some none)
    (z_abs : PySem.W.nsIn K mainGlobals "abs" = some none)
    (z_enumerate : PySem.W.nsIn K mainGlobals "enumerate" = some none)
    (z_int : PySem.W.nsIn K mainGlobals "int" = some none)
    (z_isinstance : PySem.W.nsIn K mainGlobals "isinstance" = some none)
    (z_len : PySem.W.nsIn K mainGlobals "len" = some none)
    (z_max : PySem.W.nsIn K mainGlobals "max" = some none)
    (z_min : PySem.W.nsIn K mainGlobals "min" = some none)
    (z_range : PySem.W.nsIn K mainGlobals "range" = some none)
    (z_repr : PySem.W.nsIn K mainGlobals "repr" = some none)
    (x_AnswerError : PySem.W.nsIn K mainGlobals "AnswerError" = some (some (.ref C_AnswerError)))
    (x_InvalidProgram : PySem.W.nsIn K mainGlobals "InvalidProgram" = some (some (.ref C_InvalidProgram)))
    (x_InvalidMode : PySem.W.nsIn K mainGlobals "InvalidMode" = some (some (.ref C_InvalidMode)))
    (x_InvalidTable : PySem.W.nsIn K mainGlobals "InvalidTable" = some (some (.ref C_InvalidTable)))
    (x_InvalidRun : PySem.W.nsIn K mainGlobals "InvalidRun" = some (some (.ref C_InvalidRun)))
    (x_InvalidFact : PySem.W.nsIn K mainGlobals "InvalidFact" = some (some (.ref C_InvalidFact)))
    (x_InvalidDerivation : PySem.W.nsIn K mainGlobals "InvalidDerivation" = some (some (.ref C_InvalidDerivation)))
    (x_InvalidOperation : PySem.W.nsIn K mainGlobals "InvalidOperation" = some (some (.ref C_InvalidOperation)))
    (x_InvalidCommand : PySem.W.nsIn K mainGlobals "InvalidCommand" = some (some (.ref C_InvalidCommand)))
    (x_ParseError : PySem.W.nsIn K mainGlobals "ParseError" = some (some (.ref C_ParseError)))
    (x_UnknownName : PySem.W.nsIn K mainGlobals "UnknownName" = some (some (.ref C_UnknownName)))
    (x_UnknownSite : PySem.W.nsIn K mainGlobals "UnknownSite" = some (some (.ref C_UnknownSite)))
    (x_InvalidNumber : PySem.W.nsIn K mainGlobals "InvalidNumber" = some (some (.ref C_InvalidNumber)))
    (x_NothingToUndo : PySem.W.nsIn K mainGlobals "NothingToUndo" = some (some (.ref C_NothingToUndo)))
    (x_Refused : PySem.W.nsIn K mainGlobals "Refused" = some (some (.ref C_Refused)))
    (x_TooMany : PySem.W.nsIn K mainGlobals "TooMany" = some (some (.ref C_TooMany)))
    (ie_InvalidMode1 : PySem.W.isClsIn K C_InvalidMode = true)
    (ie_InvalidMode2 : PySem.W.typeIn K (.ref C_InvalidMode) = some (.type "type"))
    (ie_InvalidMode_AnswerError : PySem.W.subIn K (.ref C_AnswerError) (.ref C_InvalidMode) = some false)
    (ne_AnswerError_InvalidMode : ¬ (C_AnswerError = C_InvalidMode))
    (ie_InvalidMode_InvalidProgram : PySem.W.subIn K (.ref C_InvalidProgram) (.ref C_InvalidMode) = some false)
    (ne_InvalidProgram_InvalidMode : ¬ (C_InvalidProgram = C_InvalidMode))
    (ie_InvalidMode_InvalidMode : PySem.W.subIn K (.ref C_InvalidMode) (.ref C_InvalidMode) = some true)
    (ie_InvalidMode_InvalidTable : PySem.W.subIn K (.ref C_InvalidTable) (.ref C_InvalidMode) = some false)
    (ne_InvalidTable_InvalidMode : ¬ (C_InvalidTable = C_InvalidMode))
    (ie_InvalidMode_InvalidRun : PySem.W.subIn K (.ref C_InvalidRun) (.ref C_InvalidMode) = some false)
    (ne_InvalidRun_InvalidMode : ¬ (C_InvalidRun = C_InvalidMode))
    (ie_InvalidMode_InvalidFact : PySem.W.subIn K (.ref C_InvalidFact) (.ref C_InvalidMode) = some false)
    (ne_InvalidFact_InvalidMode : ¬ (C_InvalidFact = C_InvalidMode))
    (ie_InvalidMode_InvalidDerivation : PySem.W.subIn K (.ref C_InvalidDerivation) (.ref C_InvalidMode) = some false)
    (ne_InvalidDerivation_InvalidMode : ¬ (C_InvalidDerivation = C_InvalidMode))
    (ie_InvalidMode_InvalidOperation : PySem.W.subIn K (.ref C_InvalidOperation) (.ref C_InvalidMode) = some false)
    (ne_InvalidOperation_InvalidMode : ¬ (C_InvalidOperation = C_InvalidMode))
    (ie_InvalidMode_InvalidCommand : PySem.W.subIn K (.ref C_InvalidCommand) (.ref C_InvalidMode) = some false)
    (ne_InvalidCommand_InvalidMode : ¬ (C_InvalidCommand = C_InvalidMode))
    (ie_InvalidMode_ParseError : PySem.W.subIn K (.ref C_ParseError) (.ref C_InvalidMode) = some false)
    (ne_ParseError_InvalidMode : ¬ (C_ParseError = C_InvalidMode))
    (ie_InvalidMode_UnknownName : PySem.W.subIn K (.ref C_UnknownName) (.ref C_InvalidMode) = some false)
    (ne_UnknownName_InvalidMode : ¬ (C_UnknownName = C_InvalidMode))
    (ie_InvalidMode_UnknownSite : PySem.W.subIn K (.ref C_UnknownSite) (.ref C_InvalidMode) = some false)
    (ne_UnknownSite_InvalidMode : ¬ (C_UnknownSite = C_InvalidMode))
    (ie_InvalidMode_InvalidNumber : PySem.W.subIn K (.ref C_InvalidNumber) (.ref C_InvalidMode) = some false)
    (ne_InvalidNumber_InvalidMode : ¬ (C_InvalidNumber = C_InvalidMode))
    (ie_InvalidMode_NothingToUndo : PySem.W.subIn K (.ref C_NothingToUndo) (.ref C_InvalidMode) = some false)
    (ne_NothingToUndo_InvalidMode : ¬ (C_NothingToUndo = C_InvalidMode))
    (ie_InvalidMode_Refused : PySem.W.subIn K (.ref C_Refused) (.ref C_InvalidMode) = some false)
    (ne_Refused_InvalidMode : ¬ (C_Refused = C_InvalidMode))
    (ie_InvalidMode_TooMany : PySem.W.subIn K (.ref C_TooMany) (.ref C_InvalidMode) = some false)
    (ne_TooMany_InvalidMode : ¬ (C_TooMany = C_InvalidMode))
    (ie_InvalidProgram1 : PySem.W.isClsIn K C_InvalidProgram = true)
    (ie_InvalidProgram2 : PySem.W.typeIn K (.ref C_InvalidProgram) = some (.type "type"))
    (ie_InvalidProgram_AnswerError : PySem.W.subIn K (.ref C_AnswerError) (.ref C_InvalidProgram) = some false)
    (ne_AnswerError_InvalidProgram : ¬ (C_AnswerError = C_InvalidProgram))
    (ie_InvalidProgram_InvalidProgram : PySem.W.subIn K (.ref C_InvalidProgram) (.ref C_InvalidProgram) = some true)
    (ie_InvalidProgram_InvalidMode : PySem.W.subIn K (.ref C_InvalidMode) (.ref C_InvalidProgram) = some false)
    (ne_InvalidMode_InvalidProgram : ¬ (C_InvalidMode = C_InvalidProgram))
    (ie_InvalidProgram_InvalidTable : PySem.W.subIn K (.ref C_InvalidTable) (.ref C_InvalidProgram) = some false)
    (ne_InvalidTable_InvalidProgram : ¬ (C_InvalidTable = C_InvalidProgram))
    (ie_InvalidProgram_InvalidRun : PySem.W.subIn K (.ref C_InvalidRun) (.ref C_InvalidProgram) = some false)
    (ne_InvalidRun_InvalidProgram : ¬ (C_InvalidRun = C_InvalidProgram))
    (ie_InvalidProgram_InvalidFact : PySem.W.subIn K (.ref C_InvalidFact) (.ref C_InvalidProgram) = some false)
    (ne_InvalidFact_InvalidProgram : ¬ (C_InvalidFact = C_InvalidProgram))
    (ie_InvalidProgram_InvalidDerivation : PySem.W.subIn K (.ref C_InvalidDerivation) (.ref C_InvalidProgram) = some false)
    (ne_InvalidDerivation_InvalidProgram : ¬ (C_InvalidDerivation = C_InvalidProgram))
    (ie_InvalidProgram_InvalidOperation : PySem.W.subIn K (.ref C_InvalidOperation) (.ref C_InvalidProgram) = some false)
    (ne_InvalidOperation_InvalidProgram : ¬ (C_InvalidOperation = C_InvalidProgram))
    (ie_InvalidProgram_InvalidCommand : PySem.W.subIn K (.ref C_InvalidCommand) (.ref C_InvalidProgram) = some false)
    (ne_InvalidCommand_InvalidProgram : ¬ (C_InvalidCommand = C_InvalidProgram))
    (ie_InvalidProgram_ParseError : PySem.W.subIn K (.ref C_ParseError) (.ref C_InvalidProgram) = some false)
    (ne_ParseError_InvalidProgram : ¬ (C_ParseError = C_InvalidProgram))
    (ie_InvalidProgram_UnknownName : PySem.W.subIn K (.ref C_UnknownName) (.ref C_InvalidProgram) = some false)
    (ne_UnknownName_InvalidProgram : ¬ (C_UnknownName = C_InvalidProgram))
    (ie_InvalidProgram_UnknownSite : PySem.W.subIn K (.ref C_UnknownSite) (.ref C_InvalidProgram) = some false)
    (ne_UnknownSite_InvalidProgram : ¬ (C_UnknownSite = C_InvalidProgram))
    (ie_InvalidProgram_InvalidNumber : PySem.W.subIn K (.ref C_InvalidNumber) (.ref C_InvalidProgram) = some false)
    (ne_InvalidNumber_InvalidProgram : ¬ (C_InvalidNumber = C_InvalidProgram))
    (ie_InvalidProgram_NothingToUndo : PySem.W.subIn K (.ref C_NothingToUndo) (.ref C_InvalidProgram) = some false)
    (ne_NothingToUndo_InvalidProgram : ¬ (C_NothingToUndo = C_InvalidProgram))
    (ie_InvalidProgram_Refused : PySem.W.subIn K (.ref C_Refused) (.ref C_InvalidProgram) = some false)
    (ne_Refused_InvalidProgram : ¬ (C_Refused = C_InvalidProgram))
    (ie_InvalidProgram_TooMany : PySem.W.subIn K (.ref C_TooMany) (.ref C_InvalidProgram) = some false)
    (ne_TooMany_InvalidProgram : ¬ (C_TooMany = C_InvalidProgram))
    (ie_AnswerError1 : PySem.W.isClsIn K C_AnswerError = true)
    (ie_AnswerError2 : PySem.W.typeIn K (.ref C_AnswerError) = some (.type "type"))
    (ie_AnswerError_AnswerError : PySem.W.subIn K (.ref C_AnswerError) (.ref C_AnswerError) = some true)
    (ie_AnswerError_InvalidProgram : PySem.W.subIn K (.ref C_InvalidProgram) (.ref C_AnswerError) = some true)
    (ie_AnswerError_InvalidMode : PySem.W.subIn K (.ref C_InvalidMode) (.ref C_AnswerError) = some true)
    (ie_AnswerError_InvalidTable : PySem.W.subIn K (.ref C_InvalidTable) (.ref C_AnswerError) = some true)
    (ie_AnswerError_InvalidRun : PySem.W.subIn K (.ref C_InvalidRun) (.ref C_AnswerError) = some true)
    (ie_AnswerError_InvalidFact : PySem.W.subIn K (.ref C_InvalidFact) (.ref C_AnswerError) = some true)
    (ie_AnswerError_InvalidDerivation : PySem.W.subIn K (.ref C_InvalidDerivation) (.ref C_AnswerError) = some true)
    (ie_AnswerError_InvalidOperation : PySem.W.subIn K (.ref C_InvalidOperation) (.ref C_AnswerError) = some true)
    (ie_AnswerError_InvalidCommand : PySem.W.subIn K (.ref C_InvalidCommand) (.ref C_AnswerError) = some true)
    (ie_AnswerError_ParseError : PySem.W.subIn K (.ref C_ParseError) (.ref C_AnswerError) = some true)
    (ie_AnswerError_UnknownName : PySem.W.subIn K (.ref C_UnknownName) (.ref C_AnswerError) = some false)
    (ne_UnknownName_AnswerError : ¬ (C_UnknownName = C_AnswerError))
    (ie_AnswerError_UnknownSite : PySem.W.subIn K (.ref C_UnknownSite) (.ref C_AnswerError) = some false)
    (ne_UnknownSite_AnswerError : ¬ (C_UnknownSite = C_AnswerError))
    (ie_AnswerError_InvalidNumber : PySem.W.subIn K (.ref C_InvalidNumber) (.ref C_AnswerError) = some false)
    (ne_InvalidNumber_AnswerError : ¬ (C_InvalidNumber = C_AnswerError))
    (ie_AnswerError_NothingToUndo : PySem.W.subIn K (.ref C_NothingToUndo) (.ref C_AnswerError) = some false)
    (ne_NothingToUndo_AnswerError : ¬ (C_NothingToUndo = C_AnswerError))
    (ie_AnswerError_Refused : PySem.W.subIn K (.ref C_Refused) (.ref C_AnswerError) = some false)
    (ne_Refused_AnswerError : ¬ (C_Refused = C_AnswerError))
    (ie_AnswerError_TooMany : PySem.W.subIn K (.ref C_TooMany) (.ref C_AnswerError) = some false)
    (ne_TooMany_AnswerError : ¬ (C_TooMany = C_AnswerError))
    (ie_InvalidFact1 : PySem.W.isClsIn K C_InvalidFact = true)
    (ie_InvalidFact2 : PySem.W.typeIn K (.ref C_InvalidFact) = some (.type "type"))
    (ie_InvalidFact_AnswerError : PySem.W.subIn K (.ref C_AnswerError) (.ref C_InvalidFact) = some false)
    (ne_AnswerError_InvalidFact : ¬ (C_AnswerError = C_InvalidFact))
    (ie_InvalidFact_InvalidProgram : PySem.W.subIn K (.ref C_InvalidProgram) (.ref C_InvalidFact) = some false)
    (ne_InvalidProgram_InvalidFact : ¬ (C_InvalidProgram = C_InvalidFact))
    (ie_InvalidFact_InvalidMode : PySem.W.subIn K (.ref C_InvalidMode) (.ref C_InvalidFact) = some false)
    (ne_InvalidMode_InvalidFact : ¬ (C_InvalidMode = C_InvalidFact))
    (ie_InvalidFact_InvalidTable : PySem.W.subIn K (.ref C_InvalidTable) (.ref C_InvalidFact) = some false)
    (ne_InvalidTable_InvalidFact : ¬ (C_InvalidTable = C_InvalidFact))
    (ie_InvalidFact_InvalidRun : PySem.W.subIn K (.ref C_InvalidRun) (.ref C_InvalidFact) = some false)
    (ne_InvalidRun_InvalidFact : ¬ (C_InvalidRun = C_InvalidFact))
    (ie_InvalidFact_InvalidFact : PySem.W.subIn K (.ref C_InvalidFact) (.ref C_InvalidFact) = some true)
    (ie_InvalidFact_InvalidDerivation : PySem.W.subIn K (.ref C_InvalidDerivation) (.ref C_InvalidFact) = some false)
    (ne_InvalidDerivation_InvalidFact : ¬ (C_InvalidDerivation = C_InvalidFact))
    (ie_InvalidFact_InvalidOperation : PySem.W.subIn K (.ref C_InvalidOperation) (.ref C_InvalidFact) = some false)
    (ne_InvalidOperation_InvalidFact : ¬ (C_InvalidOperation = C_InvalidFact))
    (ie_InvalidFact_InvalidCommand : PySem.W.subIn K (.ref C_InvalidCommand) (.ref C_InvalidFact) = some false)
    (ne_InvalidCommand_InvalidFact : ¬ (C_InvalidCommand = C_InvalidFact))
    (ie_InvalidFact_ParseError : PySem.W.subIn K (.ref C_ParseError) (.ref C_InvalidFact) = some false)
    (ne_ParseError_InvalidFact : ¬ (C_ParseError = C_InvalidFact))
    (ie_InvalidFact_UnknownName : PySem.W.subIn K (.ref C_UnknownName) (.ref C_InvalidFact) = some false)
    (ne_UnknownName_InvalidFact : ¬ (C_UnknownName = C_InvalidFact))
    (ie_InvalidFact_UnknownSite : PySem.W.subIn K (.ref C_UnknownSite) (.ref C_InvalidFact) = some false)
    (ne_UnknownSite_InvalidFact : ¬ (C_UnknownSite = C_InvalidFact))
    (ie_InvalidFact_InvalidNumber : PySem.W.subIn K (.ref C_InvalidNumber) (.ref C_InvalidFact) = some false)
    (ne_InvalidNumber_InvalidFact : ¬ (C_InvalidNumber = C_InvalidFact))
    (ie_InvalidFact_NothingToUndo : PySem.W.subIn K (.ref C_NothingToUndo) (.ref C_InvalidFact) = some false)
    (ne_NothingToUndo_InvalidFact : ¬ (C_NothingToUndo = C_InvalidFact))
    (ie_InvalidFact_Refused : PySem.W.subIn K (.ref C_Refused) (.ref C_InvalidFact) = some false)
    (ne_Refused_InvalidFact : ¬ (C_Refused = C_InvalidFact))
    (ie_InvalidFact_TooMany : PySem.W.subIn K (.ref C_TooMany) (.ref C_InvalidFact) = some false)
    (ne_TooMany_InvalidFact : ¬ (C_TooMany = C_InvalidFact))
    (ie_InvalidRun1 : PySem.W.isClsIn K C_InvalidRun = true)
    (ie_InvalidRun2 : PySem.W.typeIn K (.ref C_InvalidRun) = some (.type "type"))
    (ie_InvalidRun_AnswerError : PySem.W.subIn K (.ref C_AnswerError) (.ref C_InvalidRun) = some false)
    (ne_AnswerError_InvalidRun : ¬ (C_AnswerError = C_InvalidRun))
    (ie_InvalidRun_InvalidProgram : PySem.W.subIn K (.ref C_InvalidProgram) (.ref C_InvalidRun) = some false)
    (ne_InvalidProgram_InvalidRun : ¬ (C_InvalidProgram = C_InvalidRun))
    (ie_InvalidRun_InvalidMode : PySem.W.subIn K (.ref C_InvalidMode) (.ref C_InvalidRun) = some false)
    (ne_InvalidMode_InvalidRun : ¬ (C_InvalidMode = C_InvalidRun))
    (ie_InvalidRun_InvalidTable : PySem.W.subIn K (.ref C_InvalidTable) (.ref C_InvalidRun) = some false)
    (ne_InvalidTable_InvalidRun : ¬ (C_InvalidTable = C_InvalidRun))
    (ie_InvalidRun_InvalidRun : PySem.W.subIn K (.ref C_InvalidRun) (.ref C_InvalidRun) = some true)
    (ie_InvalidRun_InvalidFact : PySem.W.subIn K (.ref C_InvalidFact) (.ref C_InvalidRun) = some false)
    (ne_InvalidFact_InvalidRun : ¬ (C_InvalidFact = C_InvalidRun))
    (ie_InvalidRun_InvalidDerivation : PySem.W.subIn K (.ref C_InvalidDerivation) (.ref C_InvalidRun) = some false)
    (ne_InvalidDerivation_InvalidRun : ¬ (C_InvalidDerivation = C_InvalidRun))
    (ie_InvalidRun_InvalidOperation : PySem.W.subIn K (.ref C_InvalidOperation) (.ref C_InvalidRun) = some false)
    (ne_InvalidOperation_InvalidRun : ¬ (C_InvalidOperation = C_InvalidRun))
    (ie_InvalidRun_InvalidCommand : PySem.W.subIn K (.ref C_InvalidCommand) (.ref C_InvalidRun) = some false)
    (ne_InvalidCommand_InvalidRun : ¬ (C_InvalidCommand = C_InvalidRun))
    (ie_InvalidRun_ParseError : PySem.W.subIn K (.ref C_ParseError) (.ref C_InvalidRun) = some false)
    (ne_ParseError_InvalidRun : ¬ (C_ParseError = C_InvalidRun))
    (ie_InvalidRun_UnknownName : PySem.W.subIn K (.ref C_UnknownName) (.ref C_InvalidRun) = some false)
    (ne_UnknownName_InvalidRun : ¬ (C_UnknownName = C_InvalidRun))
    (ie_InvalidRun_UnknownSite : PySem.W.subIn K (.ref C_UnknownSite) (.ref C_InvalidRun) = some false)
    (ne_UnknownSite_InvalidRun : ¬ (C_UnknownSite = C_InvalidRun))
    (ie_InvalidRun_InvalidNumber : PySem.W.subIn K (.ref C_InvalidNumber) (.ref C_InvalidRun) = some false)
    (ne_InvalidNumber_InvalidRun : ¬ (C_InvalidNumber = C_InvalidRun))
    (ie_InvalidRun_NothingToUndo : PySem.W.subIn K (.ref C_NothingToUndo) (.ref C_InvalidRun) = some false)
    (ne_NothingToUndo_InvalidRun : ¬ (C_NothingToUndo = C_InvalidRun))
    (ie_InvalidRun_Refused : PySem.W.subIn K (.ref C_Refused) (.ref C_InvalidRun) = some false)
    (ne_Refused_InvalidRun : ¬ (C_Refused = C_InvalidRun))
    (ie_InvalidRun_TooMany : PySem.W.subIn K (.ref C_TooMany) (.ref C_InvalidRun) = some false)
    (ne_TooMany_InvalidRun : ¬ (C_TooMany = C_InvalidRun))
    (ie_InvalidTable1 : PySem.W.isClsIn K C_InvalidTable = true)
    (ie_InvalidTable2 : PySem.W.typeIn K (.ref C_InvalidTable) = some (.type "type"))
    (ie_InvalidTable_AnswerError : PySem.W.subIn K (.ref C_AnswerError) (.ref C_InvalidTable) = some false)
    (ne_AnswerError_InvalidTable : ¬ (C_AnswerError = C_InvalidTable))
    (ie_InvalidTable_InvalidProgram : PySem.W.subIn K (.ref C_InvalidProgram) (.ref C_InvalidTable) = some false)
    (ne_InvalidProgram_InvalidTable : ¬ (C_InvalidProgram = C_InvalidTable))
    (ie_InvalidTable_InvalidMode : PySem.W.subIn K (.ref C_InvalidMode) (.ref C_InvalidTable) = some false)
    (ne_InvalidMode_InvalidTable : ¬ (C_InvalidMode = C_InvalidTable))
    (ie_InvalidTable_InvalidTable : PySem.W.subIn K (.ref C_InvalidTable) (.ref C_InvalidTable) = some true)
    (ie_InvalidTable_InvalidRun : PySem.W.subIn K (.ref C_InvalidRun) (.ref C_InvalidTable) = some false)
    (ne_InvalidRun_InvalidTable : ¬ (C_InvalidRun = C_InvalidTable))
    (ie_InvalidTable_InvalidFact : PySem.W.subIn K (.ref C_InvalidFact) (.ref C_InvalidTable) = some false)
    (ne_InvalidFact_InvalidTable : ¬ (C_InvalidFact = C_InvalidTable))
    (ie_InvalidTable_InvalidDerivation : PySem.W.subIn K (.ref C_InvalidDerivation) (.ref C_InvalidTable) = some false)
    (ne_InvalidDerivation_InvalidTable : ¬ (C_InvalidDerivation = C_InvalidTable))
    (ie_InvalidTable_InvalidOperation : PySem.W.subIn K (.ref C_InvalidOperation) (.ref C_InvalidTable) = some false)
    (ne_InvalidOperation_InvalidTable : ¬ (C_InvalidOperation = C_InvalidTable))
    (ie_InvalidTable_InvalidCommand : PySem.W.subIn K (.ref C_InvalidCommand) (.ref C_InvalidTable) = some false)
    (ne_InvalidCommand_InvalidTable : ¬ (C_InvalidCommand = C_InvalidTable))
    (ie_InvalidTable_ParseError : PySem.W.subIn K (.ref C_ParseError) (.ref C_InvalidTable) = some false)
    (ne_ParseError_InvalidTable : ¬ (C_ParseError = C_InvalidTable))
    (ie_InvalidTable_UnknownName : PySem.W.subIn K (.ref C_UnknownName) (.ref C_InvalidTable) = some false)
    (ne_UnknownName_InvalidTable : ¬ (C_UnknownName = C_InvalidTable))
    (ie_InvalidTable_UnknownSite : PySem.W.subIn K (.ref C_UnknownSite) (.ref C_InvalidTable) = some false)
    (ne_UnknownSite_InvalidTable : ¬ (C_UnknownSite = C_InvalidTable))
    (ie_InvalidTable_InvalidNumber : PySem.W.subIn K (.ref C_InvalidNumber) (.ref C_InvalidTable) = some false)
    (ne_InvalidNumber_InvalidTable : ¬ (C_InvalidNumber = C_InvalidTable))
    (ie_InvalidTable_NothingToUndo : PySem.W.subIn K (.ref C_NothingToUndo) (.ref C_InvalidTable) = some false)
    (ne_NothingToUndo_InvalidTable : ¬ (C_NothingToUndo = C_InvalidTable))
    (ie_InvalidTable_Refused : PySem.W.subIn K (.ref C_Refused) (.ref C_InvalidTable) = some false)
    (ne_Refused_InvalidTable : ¬ (C_Refused = C_InvalidTable))
    (ie_InvalidTable_TooMany : PySem.W.subIn K (.ref C_TooMany) (.ref C_InvalidTable) = some false)
    (ne_TooMany_InvalidTable : ¬ (C_TooMany = C_InvalidTable))
    (ie_InvalidOperation1 : PySem.W.isClsIn K C_InvalidOperation = true)
    (ie_InvalidOperation2 : PySem.W.typeIn K (.ref C_InvalidOperation) = some (.type "type"))
    (ie_InvalidOperation_AnswerError : PySem.W.subIn K (.ref C_AnswerError) (.ref C_InvalidOperation) = some false)
    (ne_AnswerError_InvalidOperation : ¬ (C_AnswerError = C_InvalidOperation))
    (ie_InvalidOperation_InvalidProgram : PySem.W.subIn K (.ref C_InvalidProgram) (.ref C_InvalidOperation) = some false)
    (ne_InvalidProgram_InvalidOperation : ¬ (C_InvalidProgram = C_InvalidOperation))
    (ie_InvalidOperation_InvalidMode : PySem.W.subIn K (.ref C_InvalidMode) (.ref C_InvalidOperation) = some false)
    (ne_InvalidMode_InvalidOperation : ¬ (C_InvalidMode = C_InvalidOperation))
    (ie_InvalidOperation_InvalidTable : PySem.W.subIn K (.ref C_InvalidTable) (.ref C_InvalidOperation) = some false)
    (ne_InvalidTable_InvalidOperation : ¬ (C_InvalidTable = C_InvalidOperation))
    (ie_InvalidOperation_InvalidRun : PySem.W.subIn K (.ref C_InvalidRun) (.ref C_InvalidOperation) = some false)
    (ne_InvalidRun_InvalidOperation : ¬ (C_InvalidRun = C_InvalidOperation))
    (ie_InvalidOperation_InvalidFact : PySem.W.subIn K (.ref C_InvalidFact) (.ref C_InvalidOperation) = some false)
    (ne_InvalidFact_InvalidOperation : ¬ (C_InvalidFact = C_InvalidOperation))
    (ie_InvalidOperation_InvalidDerivation : PySem.W.subIn K (.ref C_InvalidDerivation) (.ref C_InvalidOperation) = some false)
    (ne_InvalidDerivation_InvalidOperation : ¬ (C_InvalidDerivation = C_InvalidOperation))
    (ie_InvalidOperation_InvalidOperation : PySem.W.subIn K (.ref C_InvalidOperation) (.ref C_InvalidOperation) = some true)
    (ie_InvalidOperation_InvalidCommand : PySem.W.subIn K (.ref C_InvalidCommand) (.ref C_InvalidOperation) = some false)
    (ne_InvalidCommand_InvalidOperation : ¬ (C_InvalidCommand = C_InvalidOperation))
    (ie_InvalidOperation_ParseError : PySem.W.subIn K (.ref C_ParseError) (.ref C_InvalidOperation) = some false)
    (ne_ParseError_InvalidOperation : ¬ (C_ParseError = C_InvalidOperation))
    (ie_InvalidOperation_UnknownName : PySem.W.subIn K (.ref C_UnknownName) (.ref C_InvalidOperation) = some false)
    (ne_UnknownName_InvalidOperation : ¬ (C_UnknownName = C_InvalidOperation))
    (ie_InvalidOperation_UnknownSite : PySem.W.subIn K (.ref C_UnknownSite) (.ref C_InvalidOperation) = some false)
    (ne_UnknownSite_InvalidOperation : ¬ (C_UnknownSite = C_InvalidOperation))
    (ie_InvalidOperation_InvalidNumber : PySem.W.subIn K (.ref C_InvalidNumber) (.ref C_InvalidOperation) = some false)
    (ne_InvalidNumber_InvalidOperation : ¬ (C_InvalidNumber = C_InvalidOperation))
    (ie_InvalidOperation_NothingToUndo : PySem.W.subIn K (.ref C_NothingToUndo) (.ref C_InvalidOperation) = some false)
    (ne_NothingToUndo_InvalidOperation : ¬ (C_NothingToUndo = C_InvalidOperation))
    (ie_InvalidOperation_Refused : PySem.W.subIn K (.ref C_Refused) (.ref C_InvalidOperation) = some false)
    (ne_Refused_InvalidOperation : ¬ (C_Refused = C_InvalidOperation))
    (ie_InvalidOperation_TooMany : PySem.W.subIn K (.ref C_TooMany) (.ref C_InvalidOperation) = some false)
    (ne_TooMany_InvalidOperation : ¬ (C_TooMany = C_InvalidOperation))
    (ie_InvalidDerivation1 : PySem.W.isClsIn K C_InvalidDerivation = true)
    (ie_InvalidDerivation2 : PySem.W.typeIn K (.ref C_InvalidDerivation) = some (.type "type"))
    (ie_InvalidDerivation_AnswerError : PySem.W.subIn K (.ref C_AnswerError) (.ref C_InvalidDerivation) = some false)
    (ne_AnswerError_InvalidDerivation : ¬ (C_AnswerError = C_InvalidDerivation))
    (ie_InvalidDerivation_InvalidProgram : PySem.W.subIn K (.ref C_InvalidProgram) (.ref C_InvalidDerivation) = some false)
    (ne_InvalidProgram_InvalidDerivation : ¬ (C_InvalidProgram = C_InvalidDerivation))
    (ie_InvalidDerivation_InvalidMode : PySem.W.subIn K (.ref C_InvalidMode) (.ref C_InvalidDerivation) = some false)
    (ne_InvalidMode_InvalidDerivation : ¬ (C_InvalidMode = C_InvalidDerivation))
    (ie_InvalidDerivation_InvalidTable : PySem.W.subIn K (.ref C_InvalidTable) (.ref C_InvalidDerivation) = some false)
    (ne_InvalidTable_InvalidDerivation : ¬ (C_InvalidTable = C_InvalidDerivation))
    (ie_InvalidDerivation_InvalidRun : PySem.W.subIn K (.ref C_InvalidRun) (.ref C_InvalidDerivation) = some false)
    (ne_InvalidRun_InvalidDerivation : ¬ (C_InvalidRun = C_InvalidDerivation))
    (ie_InvalidDerivation_InvalidFact : PySem.W.subIn K (.ref C_InvalidFact) (.ref C_InvalidDerivation) = some false)
    (ne_InvalidFact_InvalidDerivation : ¬ (C_InvalidFact = C_InvalidDerivation))
    (ie_InvalidDerivation_InvalidDerivation : PySem.W.subIn K (.ref C_InvalidDerivation) (.ref C_InvalidDerivation) = some true)
    (ie_InvalidDerivation_InvalidOperation : PySem.W.subIn K (.ref C_InvalidOperation) (.ref C_InvalidDerivation) = some false)
    (ne_InvalidOperation_InvalidDerivation : ¬ (C_InvalidOperation = C_InvalidDerivation))
    (ie_InvalidDerivation_InvalidCommand : PySem.W.subIn K (.ref C_InvalidCommand) (.ref C_InvalidDerivation) = some false)
    (ne_InvalidCommand_InvalidDerivation : ¬ (C_InvalidCommand = C_InvalidDerivation))
    (ie_InvalidDerivation_ParseError : PySem.W.subIn K (.ref C_ParseError) (.ref C_InvalidDerivation) = some false)
    (ne_ParseError_InvalidDerivation : ¬ (C_ParseError = C_InvalidDerivation))
    (ie_InvalidDerivation_UnknownName : PySem.W.subIn K (.ref C_UnknownName) (.ref C_InvalidDerivation) = some false)
    (ne_UnknownName_InvalidDerivation : ¬ (C_UnknownName = C_InvalidDerivation))
    (ie_InvalidDerivation_UnknownSite : PySem.W.subIn K (.ref C_UnknownSite) (.ref C_InvalidDerivation) = some false)
    (ne_UnknownSite_InvalidDerivation : ¬ (C_UnknownSite = C_InvalidDerivation))
    (ie_InvalidDerivation_InvalidNumber : PySem.W.subIn K (.ref C_InvalidNumber) (.ref C_InvalidDerivation) = some false)
    (ne_InvalidNumber_InvalidDerivation : ¬ (C_InvalidNumber = C_InvalidDerivation))
    (ie_InvalidDerivation_NothingToUndo : PySem.W.subIn K (.ref C_NothingToUndo) (.ref C_InvalidDerivation) = some false)
    (ne_NothingToUndo_InvalidDerivation : ¬ (C_NothingToUndo = C_InvalidDerivation))
    (ie_InvalidDerivation_Refused : PySem.W.subIn K (.ref C_Refused) (.ref C_InvalidDerivation) = some false)
    (ne_Refused_InvalidDerivation : ¬ (C_Refused = C_InvalidDerivation))
    (ie_InvalidDerivation_TooMany : PySem.W.subIn K (.ref C_TooMany) (.ref C_InvalidDerivation) = some false)
    (ne_TooMany_InvalidDerivation : ¬ (C_TooMany = C_InvalidDerivation))
    (ib_ValueError_AnswerError : PySem.W.subIn K (.ref C_AnswerError) (.type "ValueError") = some true)
    (ib_ValueError_InvalidProgram : PySem.W.subIn K (.ref C_InvalidProgram) (.type "ValueError") = some true)
    (ib_ValueError_InvalidMode : PySem.W.subIn K (.ref C_InvalidMode) (.type "ValueError") = some true)
    (ib_ValueError_InvalidTable : PySem.W.subIn K (.ref C_InvalidTable) (.type "ValueError") = some true)
    (ib_ValueError_InvalidRun : PySem.W.subIn K (.ref C_InvalidRun) (.type "ValueError") = some true)
    (ib_ValueError_InvalidFact : PySem.W.subIn K (.ref C_InvalidFact) (.type "ValueError") = some true)
    (ib_ValueError_InvalidDerivation : PySem.W.subIn K (.ref C_InvalidDerivation) (.type "ValueError") = some true)
    (ib_ValueError_InvalidOperation : PySem.W.subIn K (.ref C_InvalidOperation) (.type "ValueError") = some true)
    (ib_ValueError_InvalidCommand : PySem.W.subIn K (.ref C_InvalidCommand) (.type "ValueError") = some true)
    (ib_ValueError_ParseError : PySem.W.subIn K (.ref C_ParseError) (.type "ValueError") = some true)
    (ib_ValueError_UnknownName : PySem.W.subIn K (.ref C_UnknownName) (.type "ValueError") = some false)
    (ib_ValueError_UnknownSite : PySem.W.subIn K (.ref C_UnknownSite) (.type "ValueError") = some false)
    (ib_ValueError_InvalidNumber : PySem.W.subIn K (.ref C_InvalidNumber) (.type "ValueError") = some false)
    (ib_ValueError_NothingToUndo : PySem.W.subIn K (.ref C_NothingToUndo) (.type "ValueError") = some false)
    (ib_ValueError_Refused : PySem.W.subIn K (.ref C_Refused) (.type "ValueError") = some false)
    (ib_ValueError_TooMany : PySem.W.subIn K (.ref C_TooMany) (.type "ValueError") = some false)
    (ie_ParseError1 : PySem.W.isClsIn K C_ParseError = true)
    (ie_ParseError2 : PySem.W.typeIn K (.ref C_ParseError) = some (.type "type"))
    (ie_ParseError_AnswerError : PySem.W.subIn K (.ref C_AnswerError) (.ref C_ParseError) = some false)
    (ne_AnswerError_ParseError : ¬ (C_AnswerError = C_ParseError))
    (ie_ParseError_InvalidProgram : PySem.W.subIn K (.ref C_InvalidProgram) (.ref C_ParseError) = some false)
    (ne_InvalidProgram_ParseError : ¬ (C_InvalidProgram = C_ParseError))
    (ie_ParseError_InvalidMode : PySem.W.subIn K (.ref C_InvalidMode) (.ref C_ParseError) = some false)
    (ne_InvalidMode_ParseError : ¬ (C_InvalidMode = C_ParseError))
    (ie_ParseError_InvalidTable : PySem.W.subIn K (.ref C_InvalidTable) (.ref C_ParseError) = some false)
    (ne_InvalidTable_ParseError : ¬ (C_InvalidTable = C_ParseError))
    (ie_ParseError_InvalidRun : PySem.W.subIn K (.ref C_InvalidRun) (.ref C_ParseError) = some false)
    (ne_InvalidRun_ParseError : ¬ (C_InvalidRun = C_ParseError))
    (ie_ParseError_InvalidFact : PySem.W.subIn K (.ref C_InvalidFact) (.ref C_ParseError) = some false)
    (ne_InvalidFact_ParseError : ¬ (C_InvalidFact = C_ParseError))
    (ie_ParseError_InvalidDerivation : PySem.W.subIn K (.ref C_InvalidDerivation) (.ref C_ParseError) = some false)
    (ne_InvalidDerivation_ParseError : ¬ (C_InvalidDerivation = C_ParseError))
    (ie_ParseError_InvalidOperation : PySem.W.subIn K (.ref C_InvalidOperation) (.ref C_ParseError) = some false)
    (ne_InvalidOperation_ParseError : ¬ (C_InvalidOperation = C_ParseError))
    (ie_ParseError_InvalidCommand : PySem.W.subIn K (.ref C_InvalidCommand) (.ref C_ParseError) = some false)
    (ne_InvalidCommand_ParseError : ¬ (C_InvalidCommand = C_ParseError))
    (ie_ParseError_ParseError : PySem.W.subIn K (.ref C_ParseError) (.ref C_ParseError) = some true)
    (ie_ParseError_UnknownName : PySem.W.subIn K (.ref C_UnknownName) (.ref C_ParseError) = some false)
    (ne_UnknownName_ParseError : ¬ (C_UnknownName = C_ParseError))
    (ie_ParseError_UnknownSite : PySem.W.subIn K (.ref C_UnknownSite) (.ref C_ParseError) = some false)
    (ne_UnknownSite_ParseError : ¬ (C_UnknownSite = C_ParseError))
    (ie_ParseError_InvalidNumber : PySem.W.subIn K (.ref C_InvalidNumber) (.ref C_ParseError) = some false)
    (ne_InvalidNumber_ParseError : ¬ (C_InvalidNumber = C_ParseError))
    (ie_ParseError_NothingToUndo : PySem.W.subIn K (.ref C_NothingToUndo) (.ref C_ParseError) = some false)
    (ne_NothingToUndo_ParseError : ¬ (C_NothingToUndo = C_ParseError))
    (ie_ParseError_Refused : PySem.W.subIn K (.ref C_Refused) (.ref C_ParseError) = some false)
    (ne_Refused_ParseError : ¬ (C_Refused = C_ParseError))
    (ie_ParseError_TooMany : PySem.W.subIn K (.ref C_TooMany) (.ref C_ParseError) = some false)
    (ne_TooMany_ParseError : ¬ (C_TooMany = C_ParseError))
    (ie_InvalidCommand1 : PySem.W.isClsIn K C_InvalidCommand = true)
    (ie_InvalidCommand2 : PySem.W.typeIn K (.ref C_InvalidCommand) = some (.type "type"))
    (ie_InvalidCommand_AnswerError : PySem.W.subIn K (.ref C_AnswerError) (.ref C_InvalidCommand) = some false)
    (ne_AnswerError_InvalidCommand : ¬ (C_AnswerError = C_InvalidCommand))
    (ie_InvalidCommand_InvalidProgram : PySem.W.subIn K (.ref C_InvalidProgram) (.ref C_InvalidCommand) = some false)
    (ne_InvalidProgram_InvalidCommand : ¬ (C_InvalidProgram = C_InvalidCommand))
    (ie_InvalidCommand_InvalidMode : PySem.W.subIn K (.ref C_InvalidMode) (.ref C_InvalidCommand) = some false)
    (ne_InvalidMode_InvalidCommand : ¬ (C_InvalidMode = C_InvalidCommand))
    (ie_InvalidCommand_InvalidTable : PySem.W.subIn K (.ref C_InvalidTable) (.ref C_InvalidCommand) = some false)
    (ne_InvalidTable_InvalidCommand : ¬ (C_InvalidTable = C_InvalidCommand))
    (ie_InvalidCommand_InvalidRun : PySem.W.subIn K (.ref C_InvalidRun) (.ref C_InvalidCommand) = some false)
    (ne_InvalidRun_InvalidCommand : ¬ (C_InvalidRun = C_InvalidCommand))
    (ie_InvalidCommand_InvalidFact : PySem.W.subIn K (.ref C_InvalidFact) (.ref C_InvalidCommand) = some false)
    (ne_InvalidFact_InvalidCommand : ¬ (C_InvalidFact = C_InvalidCommand))
    (ie_InvalidCommand_InvalidDerivation : PySem.W.subIn K (.ref C_InvalidDerivation) (.ref C_InvalidCommand) = some false)
    (ne_InvalidDerivation_InvalidCommand : ¬ (C_InvalidDerivation = C_InvalidCommand))
    (ie_InvalidCommand_InvalidOperation : PySem.W.subIn K (.ref C_InvalidOperation) (.ref C_InvalidCommand) = some false)
    (ne_InvalidOperation_InvalidCommand : ¬ (C_InvalidOperation = C_InvalidCommand))
    (ie_InvalidCommand_InvalidCommand : PySem.W.subIn K (.ref C_InvalidCommand) (.ref C_InvalidCommand) = some true)
    (ie_InvalidCommand_ParseError : PySem.W.subIn K (.ref C_ParseError) (.ref C_InvalidCommand) = some false)
    (ne_ParseError_InvalidCommand : ¬ (C_ParseError = C_InvalidCommand))
    (ie_InvalidCommand_UnknownName : PySem.W.subIn K (.ref C_UnknownName) (.ref C_InvalidCommand) = some false)
    (ne_UnknownName_InvalidCommand : ¬ (C_UnknownName = C_InvalidCommand))
    (ie_InvalidCommand_UnknownSite : PySem.W.subIn K (.ref C_UnknownSite) (.ref C_InvalidCommand) = some false)
    (ne_UnknownSite_InvalidCommand : ¬ (C_UnknownSite = C_InvalidCommand))
    (ie_InvalidCommand_InvalidNumber : PySem.W.subIn K (.ref C_InvalidNumber) (.ref C_InvalidCommand) = some false)
    (ne_InvalidNumber_InvalidCommand : ¬ (C_InvalidNumber = C_InvalidCommand))
    (ie_InvalidCommand_NothingToUndo : PySem.W.subIn K (.ref C_NothingToUndo) (.ref C_InvalidCommand) = some false)
    (ne_NothingToUndo_InvalidCommand : ¬ (C_NothingToUndo = C_InvalidCommand))
    (ie_InvalidCommand_Refused : PySem.W.subIn K (.ref C_Refused) (.ref C_InvalidCommand) = some false)
    (ne_Refused_InvalidCommand : ¬ (C_Refused = C_InvalidCommand))
    (ie_InvalidCommand_TooMany : PySem.W.subIn K (.ref C_TooMany) (.ref C_InvalidCommand) = some false)
    (ne_TooMany_InvalidCommand : ¬ (C_TooMany = C_InvalidCommand))
    (ie_InvalidNumber1 : PySem.W.isClsIn K C_InvalidNumber = true)
    (ie_InvalidNumber2 : PySem.W.typeIn K (.ref C_InvalidNumber) = some (.type "type"))
    (ie_InvalidNumber_AnswerError : PySem.W.subIn K (.ref C_AnswerError) (.ref C_InvalidNumber) = some false)
    (ne_AnswerError_InvalidNumber : ¬ (C_AnswerError = C_InvalidNumber))
    (ie_InvalidNumber_InvalidProgram : PySem.W.subIn K (.ref C_InvalidProgram) (.ref C_InvalidNumber) = some false)
    (ne_InvalidProgram_InvalidNumber : ¬ (C_InvalidProgram = C_InvalidNumber))
    (ie_InvalidNumber_InvalidMode : PySem.W.subIn K (.ref C_InvalidMode) (.ref C_InvalidNumber) = some false)
    (ne_InvalidMode_InvalidNumber : ¬ (C_InvalidMode = C_InvalidNumber))
    (ie_InvalidNumber_InvalidTable : PySem.W.subIn K (.ref C_InvalidTable) (.ref C_InvalidNumber) = some false)
    (ne_InvalidTable_InvalidNumber : ¬ (C_InvalidTable = C_InvalidNumber))
    (ie_InvalidNumber_InvalidRun : PySem.W.subIn K (.ref C_InvalidRun) (.ref C_InvalidNumber) = some false)
    (ne_InvalidRun_InvalidNumber : ¬ (C_InvalidRun = C_InvalidNumber))
    (ie_InvalidNumber_InvalidFact : PySem.W.subIn K (.ref C_InvalidFact) (.ref C_InvalidNumber) = some false)
    (ne_InvalidFact_InvalidNumber : ¬ (C_InvalidFact = C_InvalidNumber))
    (ie_InvalidNumber_InvalidDerivation : PySem.W.subIn K (.ref C_InvalidDerivation) (.ref C_InvalidNumber) = some false)
    (ne_InvalidDerivation_InvalidNumber : ¬ (C_InvalidDerivation = C_InvalidNumber))
    (ie_InvalidNumber_InvalidOperation : PySem.W.subIn K (.ref C_InvalidOperation) (.ref C_InvalidNumber) = some false)
    (ne_InvalidOperation_InvalidNumber : ¬ (C_InvalidOperation = C_InvalidNumber))
    (ie_InvalidNumber_InvalidCommand : PySem.W.subIn K (.ref C_InvalidCommand) (.ref C_InvalidNumber) = some false)
    (ne_InvalidCommand_InvalidNumber : ¬ (C_InvalidCommand = C_InvalidNumber))
    (ie_InvalidNumber_ParseError : PySem.W.subIn K (.ref C_ParseError) (.ref C_InvalidNumber) = some false)
    (ne_ParseError_InvalidNumber : ¬ (C_ParseError = C_InvalidNumber))
    (ie_InvalidNumber_UnknownName : PySem.W.subIn K (.ref C_UnknownName) (.ref C_InvalidNumber) = some false)
    (ne_UnknownName_InvalidNumber : ¬ (C_UnknownName = C_InvalidNumber))
    (ie_InvalidNumber_UnknownSite : PySem.W.subIn K (.ref C_UnknownSite) (.ref C_InvalidNumber) = some false)
    (ne_UnknownSite_InvalidNumber : ¬ (C_UnknownSite = C_InvalidNumber))
    (ie_InvalidNumber_InvalidNumber : PySem.W.subIn K (.ref C_InvalidNumber) (.ref C_InvalidNumber) = some true)
    (ie_InvalidNumber_NothingToUndo : PySem.W.subIn K (.ref C_NothingToUndo) (.ref C_InvalidNumber) = some false)
    (ne_NothingToUndo_InvalidNumber : ¬ (C_NothingToUndo = C_InvalidNumber))
    (ie_InvalidNumber_Refused : PySem.W.subIn K (.ref C_Refused) (.ref C_InvalidNumber) = some false)
    (ne_Refused_InvalidNumber : ¬ (C_Refused = C_InvalidNumber))
    (ie_InvalidNumber_TooMany : PySem.W.subIn K (.ref C_TooMany) (.ref C_InvalidNumber) = some false)
    (ne_TooMany_InvalidNumber : ¬ (C_TooMany = C_InvalidNumber))
    (ie_UnknownSite1 : PySem.W.isClsIn K C_UnknownSite = true)
    (ie_UnknownSite2 : PySem.W.typeIn K (.ref C_UnknownSite) = some (.type "type"))
    (ie_UnknownSite_AnswerError : PySem.W.subIn K (.ref C_AnswerError) (.ref C_UnknownSite) = some false)
    (ne_AnswerError_UnknownSite : ¬ (C_AnswerError = C_UnknownSite))
    (ie_UnknownSite_InvalidProgram : PySem.W.subIn K (.ref C_InvalidProgram) (.ref C_UnknownSite) = some false)
    (ne_InvalidProgram_UnknownSite : ¬ (C_InvalidProgram = C_UnknownSite))
    (ie_UnknownSite_InvalidMode : PySem.W.subIn K (.ref C_InvalidMode) (.ref C_UnknownSite) = some false)
    (ne_InvalidMode_UnknownSite : ¬ (C_InvalidMode = C_UnknownSite))
    (ie_UnknownSite_InvalidTable : PySem.W.subIn K (.ref C_InvalidTable) (.ref C_UnknownSite) = some false)
    (ne_InvalidTable_UnknownSite : ¬ (C_InvalidTable = C_UnknownSite))
    (ie_UnknownSite_InvalidRun : PySem.W.subIn K (.ref C_InvalidRun) (.ref C_UnknownSite) = some false)
    (ne_InvalidRun_UnknownSite : ¬ (C_InvalidRun = C_UnknownSite))
    (ie_UnknownSite_InvalidFact : PySem.W.subIn K (.ref C_InvalidFact) (.ref C_UnknownSite) = some false)
    (ne_InvalidFact_UnknownSite : ¬ (C_InvalidFact = C_UnknownSite))
    (ie_UnknownSite_InvalidDerivation : PySem.W.subIn K (.ref C_InvalidDerivation) (.ref C_UnknownSite) = some false)
    (ne_InvalidDerivation_UnknownSite : ¬ (C_InvalidDerivation = C_UnknownSite))
    (ie_UnknownSite_InvalidOperation : PySem.W.subIn K (.ref C_InvalidOperation) (.ref C_UnknownSite) = some false)
    (ne_InvalidOperation_UnknownSite : ¬ (C_InvalidOperation = C_UnknownSite))
    (ie_UnknownSite_InvalidCommand : PySem.W.subIn K (.ref C_InvalidCommand) (.ref C_UnknownSite) = some false)
    (ne_InvalidCommand_UnknownSite : ¬ (C_InvalidCommand = C_UnknownSite))
    (ie_UnknownSite_ParseError : PySem.W.subIn K (.ref C_ParseError) (.ref C_UnknownSite) = some false)
    (ne_ParseError_UnknownSite : ¬ (C_ParseError = C_UnknownSite))
    (ie_UnknownSite_UnknownName : PySem.W.subIn K (.ref C_UnknownName) (.ref C_UnknownSite) = some false)
    (ne_UnknownName_UnknownSite : ¬ (C_UnknownName = C_UnknownSite))
    (ie_UnknownSite_UnknownSite : PySem.W.subIn K (.ref C_UnknownSite) (.ref C_UnknownSite) = some true)
    (ie_UnknownSite_InvalidNumber : PySem.W.subIn K (.ref C_InvalidNumber) (.ref C_UnknownSite) = some false)
    (ne_InvalidNumber_UnknownSite : ¬ (C_InvalidNumber = C_UnknownSite))
    (ie_UnknownSite_NothingToUndo : PySem.W.subIn K (.ref C_NothingToUndo) (.ref C_UnknownSite) = some false)
    (ne_NothingToUndo_UnknownSite : ¬ (C_NothingToUndo = C_UnknownSite))
    (ie_UnknownSite_Refused : PySem.W.subIn K (.ref C_Refused) (.ref C_UnknownSite) = some false)
    (ne_Refused_UnknownSite : ¬ (C_Refused = C_UnknownSite))
    (ie_UnknownSite_TooMany : PySem.W.subIn K (.ref C_TooMany) (.ref C_UnknownSite) = some false)
    (ne_TooMany_UnknownSite : ¬ (C_TooMany = C_UnknownSite))
    (ie_UnknownName1 : PySem.W.isClsIn K C_UnknownName = true)
    (ie_UnknownName2 : PySem.W.typeIn K (.ref C_UnknownName) = some (.type "type"))
    (ie_UnknownName_AnswerError : PySem.W.subIn K (.ref C_AnswerError) (.ref C_UnknownName) = some false)
    (ne_AnswerError_UnknownName : ¬ (C_AnswerError = C_UnknownName))
    (ie_UnknownName_InvalidProgram : PySem.W.subIn K (.ref C_InvalidProgram) (.ref C_UnknownName) = some false)
    (ne_InvalidProgram_UnknownName : ¬ (C_InvalidProgram = C_UnknownName))
    (ie_UnknownName_InvalidMode : PySem.W.subIn K (.ref C_InvalidMode) (.ref C_UnknownName) = some false)
    (ne_InvalidMode_UnknownName : ¬ (C_InvalidMode = C_UnknownName))
    (ie_UnknownName_InvalidTable : PySem.W.subIn K (.ref C_InvalidTable) (.ref C_UnknownName) = some false)
    (ne_InvalidTable_UnknownName : ¬ (C_InvalidTable = C_UnknownName))
    (ie_UnknownName_InvalidRun : PySem.W.subIn K (.ref C_InvalidRun) (.ref C_UnknownName) = some false)
    (ne_InvalidRun_UnknownName : ¬ (C_InvalidRun = C_UnknownName))
    (ie_UnknownName_InvalidFact : PySem.W.subIn K (.ref C_InvalidFact) (.ref C_UnknownName) = some false)
    (ne_InvalidFact_UnknownName : ¬ (C_InvalidFact = C_UnknownName))
    (ie_UnknownName_InvalidDerivation : PySem.W.subIn K (.ref C_InvalidDerivation) (.ref C_UnknownName) = some false)
    (ne_InvalidDerivation_UnknownName : ¬ (C_InvalidDerivation = C_UnknownName))
    (ie_UnknownName_InvalidOperation : PySem.W.subIn K (.ref C_InvalidOperation) (.ref C_UnknownName) = some false)
    (ne_InvalidOperation_UnknownName : ¬ (C_InvalidOperation = C_UnknownName))
    (ie_UnknownName_InvalidCommand : PySem.W.subIn K (.ref C_InvalidCommand) (.ref C_UnknownName) = some false)
    (ne_InvalidCommand_UnknownName : ¬ (C_InvalidCommand = C_UnknownName))
    (ie_UnknownName_ParseError : PySem.W.subIn K (.ref C_ParseError) (.ref C_UnknownName) = some false)
    (ne_ParseError_UnknownName : ¬ (C_ParseError = C_UnknownName))
    (ie_UnknownName_UnknownName : PySem.W.subIn K (.ref C_UnknownName) (.ref C_UnknownName) = some true)
    (ie_UnknownName_UnknownSite : PySem.W.subIn K (.ref C_UnknownSite) (.ref C_UnknownName) = some false)
    (ne_UnknownSite_UnknownName : ¬ (C_UnknownSite = C_UnknownName))
    (ie_UnknownName_InvalidNumber : PySem.W.subIn K (.ref C_InvalidNumber) (.ref C_UnknownName) = some false)
    (ne_InvalidNumber_UnknownName : ¬ (C_InvalidNumber = C_UnknownName))
    (ie_UnknownName_NothingToUndo : PySem.W.subIn K (.ref C_NothingToUndo) (.ref C_UnknownName) = some false)
    (ne_NothingToUndo_UnknownName : ¬ (C_NothingToUndo = C_UnknownName))
    (ie_UnknownName_Refused : PySem.W.subIn K (.ref C_Refused) (.ref C_UnknownName) = some false)
    (ne_Refused_UnknownName : ¬ (C_Refused = C_UnknownName))
    (ie_UnknownName_TooMany : PySem.W.subIn K (.ref C_TooMany) (.ref C_UnknownName) = some false)
    (ne_TooMany_UnknownName : ¬ (C_TooMany = C_UnknownName))
    (ie_TooMany1 : PySem.W.isClsIn K C_TooMany = true)
    (ie_TooMany2 : PySem.W.typeIn K (.ref C_TooMany) = some (.type "type"))
    (ie_TooMany_AnswerError : PySem.W.subIn K (.ref C_AnswerError) (.ref C_TooMany) = some false)
    (ne_AnswerError_TooMany : ¬ (C_AnswerError = C_TooMany))
    (ie_TooMany_InvalidProgram : PySem.W.subIn K (.ref C_InvalidProgram) (.ref C_TooMany) = some false)
    (ne_InvalidProgram_TooMany : ¬ (C_InvalidProgram = C_TooMany))
    (ie_TooMany_InvalidMode : PySem.W.subIn K (.ref C_InvalidMode) (.ref C_TooMany) = some false)
    (ne_InvalidMode_TooMany : ¬ (C_InvalidMode = C_TooMany))
    (ie_TooMany_InvalidTable : PySem.W.subIn K (.ref C_InvalidTable) (.ref C_TooMany) = some false)
    (ne_InvalidTable_TooMany : ¬ (C_InvalidTable = C_TooMany))
    (ie_TooMany_InvalidRun : PySem.W.subIn K (.ref C_InvalidRun) (.ref C_TooMany) = some false)
    (ne_InvalidRun_TooMany : ¬ (C_InvalidRun = C_TooMany))
    (ie_TooMany_InvalidFact : PySem.W.subIn K (.ref C_InvalidFact) (.ref C_TooMany) = some false)
    (ne_InvalidFact_TooMany : ¬ (C_InvalidFact = C_TooMany))
    (ie_TooMany_InvalidDerivation : PySem.W.subIn K (.ref C_InvalidDerivation) (.ref C_TooMany) = some false)
    (ne_InvalidDerivation_TooMany : ¬ (C_InvalidDerivation = C_TooMany))
    (ie_TooMany_InvalidOperation : PySem.W.subIn K (.ref C_InvalidOperation) (.ref C_TooMany) = some false)
    (ne_InvalidOperation_TooMany : ¬ (C_InvalidOperation = C_TooMany))
    (ie_TooMany_InvalidCommand : PySem.W.subIn K (.ref C_InvalidCommand) (.ref C_TooMany) = some false)
    (ne_InvalidCommand_TooMany : ¬ (C_InvalidCommand = C_TooMany))
    (ie_TooMany_ParseError : PySem.W.subIn K (.ref C_ParseError) (.ref C_TooMany) = some false)
    (ne_ParseError_TooMany : ¬ (C_ParseError = C_TooMany))
    (ie_TooMany_UnknownName : PySem.W.subIn K (.ref C_UnknownName) (.ref C_TooMany) = some false)
    (ne_UnknownName_TooMany : ¬ (C_UnknownName = C_TooMany))
    (ie_TooMany_UnknownSite : PySem.W.subIn K (.ref C_UnknownSite) (.ref C_TooMany) = some false)
    (ne_UnknownSite_TooMany : ¬ (C_UnknownSite = C_TooMany))
    (ie_TooMany_InvalidNumber : PySem.W.subIn K (.ref C_InvalidNumber) (.ref C_TooMany) = some false)
    (ne_InvalidNumber_TooMany : ¬ (C_InvalidNumber = C_TooMany))
    (ie_TooMany_NothingToUndo : PySem.W.subIn K (.ref C_NothingToUndo) (.ref C_TooMany) = some false)
    (ne_NothingToUndo_TooMany : ¬ (C_NothingToUndo = C_TooMany))
    (ie_TooMany_Refused : PySem.W.subIn K (.ref C_Refused) (.ref C_TooMany) = some false)
    (ne_Refused_TooMany : ¬ (C_Refused = C_TooMany))
    (ie_TooMany_TooMany : PySem.W.subIn K (.ref C_TooMany) (.ref C_TooMany) = some true)
    (ie_Refused1 : PySem.W.isClsIn K C_Refused = true)
    (ie_Refused2 : PySem.W.typeIn K (.ref C_Refused) = some (.type "type"))
    (ie_Refused_AnswerError : PySem.W.subIn K (.ref C_AnswerError) (.ref C_Refused) = some false)
    (ne_AnswerError_Refused : ¬ (C_AnswerError = C_Refused))
    (ie_Refused_InvalidProgram : PySem.W.subIn K (.ref C_InvalidProgram) (.ref C_Refused) = some false)
    (ne_InvalidProgram_Refused : ¬ (C_InvalidProgram = C_Refused))
    (ie_Refused_InvalidMode : PySem.W.subIn K (.ref C_InvalidMode) (.ref C_Refused) = some false)
    (ne_InvalidMode_Refused : ¬ (C_InvalidMode = C_Refused))
    (ie_Refused_InvalidTable : PySem.W.subIn K (.ref C_InvalidTable) (.ref C_Refused) = some false)
    (ne_InvalidTable_Refused : ¬ (C_InvalidTable = C_Refused))
    (ie_Refused_InvalidRun : PySem.W.subIn K (.ref C_InvalidRun) (.ref C_Refused) = some false)
    (ne_InvalidRun_Refused : ¬ (C_InvalidRun = C_Refused))
    (ie_Refused_InvalidFact : PySem.W.subIn K (.ref C_InvalidFact) (.ref C_Refused) = some false)
    (ne_InvalidFact_Refused : ¬ (C_InvalidFact = C_Refused))
    (ie_Refused_InvalidDerivation : PySem.W.subIn K (.ref C_InvalidDerivation) (.ref C_Refused) = some false)
    (ne_InvalidDerivation_Refused : ¬ (C_InvalidDerivation = C_Refused))
    (ie_Refused_InvalidOperation : PySem.W.subIn K (.ref C_InvalidOperation) (.ref C_Refused) = some false)
    (ne_InvalidOperation_Refused : ¬ (C_InvalidOperation = C_Refused))
    (ie_Refused_InvalidCommand : PySem.W.subIn K (.ref C_InvalidCommand) (.ref C_Refused) = some false)
    (ne_InvalidCommand_Refused : ¬ (C_InvalidCommand = C_Refused))
    (ie_Refused_ParseError : PySem.W.subIn K (.ref C_ParseError) (.ref C_Refused) = some false)
    (ne_ParseError_Refused : ¬ (C_ParseError = C_Refused))
    (ie_Refused_UnknownName : PySem.W.subIn K (.ref C_UnknownName) (.ref C_Refused) = some false)
    (ne_UnknownName_Refused : ¬ (C_UnknownName = C_Refused))
    (ie_Refused_UnknownSite : PySem.W.subIn K (.ref C_UnknownSite) (.ref C_Refused) = some false)
    (ne_UnknownSite_Refused : ¬ (C_UnknownSite = C_Refused))
    (ie_Refused_InvalidNumber : PySem.W.subIn K (.ref C_InvalidNumber) (.ref C_Refused) = some false)
    (ne_InvalidNumber_Refused : ¬ (C_InvalidNumber = C_Refused))
    (ie_Refused_NothingToUndo : PySem.W.subIn K (.ref C_NothingToUndo) (.ref C_Refused) = some false)
    (ne_NothingToUndo_Refused : ¬ (C_NothingToUndo = C_Refused))
    (ie_Refused_Refused : PySem.W.subIn K (.ref C_Refused) (.ref C_Refused) = some true)
    (ie_Refused_TooMany : PySem.W.subIn K (.ref C_TooMany) (.ref C_Refused) = some false)
    (ne_TooMany_Refused : ¬ (C_TooMany = C_Refused))
    (ie_NothingToUndo1 : PySem.W.isClsIn K C_NothingToUndo = true)
    (ie_NothingToUndo2 : PySem.W.typeIn K (.ref C_NothingToUndo) = some (.type "type"))
    (ie_NothingToUndo_AnswerError : PySem.W.subIn K (.ref C_AnswerError) (.ref C_NothingToUndo) = some false)
    (ne_AnswerError_NothingToUndo : ¬ (C_AnswerError = C_NothingToUndo))
    (ie_NothingToUndo_InvalidProgram : PySem.W.subIn K (.ref C_InvalidProgram) (.ref C_NothingToUndo) = some false)
    (ne_InvalidProgram_NothingToUndo : ¬ (C_InvalidProgram = C_NothingToUndo))
    (ie_NothingToUndo_InvalidMode : PySem.W.subIn K (.ref C_InvalidMode) (.ref C_NothingToUndo) = some false)
    (ne_InvalidMode_NothingToUndo : ¬ (C_InvalidMode = C_NothingToUndo))
    (ie_NothingToUndo_InvalidTable : PySem.W.subIn K (.ref C_InvalidTable) (.ref C_NothingToUndo) = some false)
    (ne_InvalidTable_NothingToUndo : ¬ (C_InvalidTable = C_NothingToUndo))
    (ie_NothingToUndo_InvalidRun : PySem.W.subIn K (.ref C_InvalidRun) (.ref C_NothingToUndo) = some false)
    (ne_InvalidRun_NothingToUndo : ¬ (C_InvalidRun = C_NothingToUndo))
    (ie_NothingToUndo_InvalidFact : PySem.W.subIn K (.ref C_InvalidFact) (.ref C_NothingToUndo) = some false)
    (ne_InvalidFact_NothingToUndo : ¬ (C_InvalidFact = C_NothingToUndo))
    (ie_NothingToUndo_InvalidDerivation : PySem.W.subIn K (.ref C_InvalidDerivation) (.ref C_NothingToUndo) = some false)
    (ne_InvalidDerivation_NothingToUndo : ¬ (C_InvalidDerivation = C_NothingToUndo))
    (ie_NothingToUndo_InvalidOperation : PySem.W.subIn K (.ref C_InvalidOperation) (.ref C_NothingToUndo) = some false)
    (ne_InvalidOperation_NothingToUndo : ¬ (C_InvalidOperation = C_NothingToUndo))
    (ie_NothingToUndo_InvalidCommand : PySem.W.subIn K (.ref C_InvalidCommand) (.ref C_NothingToUndo) = some false)
    (ne_InvalidCommand_NothingToUndo : ¬ (C_InvalidCommand = C_NothingToUndo))
    (ie_NothingToUndo_ParseError : PySem.W.subIn K (.ref C_ParseError) (.ref C_NothingToUndo) = some false)
    (ne_ParseError_NothingToUndo : ¬ (C_ParseError = C_NothingToUndo))
    (ie_NothingToUndo_UnknownName : PySem.W.subIn K (.ref C_UnknownName) (.ref C_NothingToUndo) = some false)
    (ne_UnknownName_NothingToUndo : ¬ (C_UnknownName = C_NothingToUndo))
    (ie_NothingToUndo_UnknownSite : PySem.W.subIn K (.ref C_UnknownSite) (.ref C_NothingToUndo) = some false)
    (ne_UnknownSite_NothingToUndo : ¬ (C_UnknownSite = C_NothingToUndo))
    (ie_NothingToUndo_InvalidNumber : PySem.W.subIn K (.ref C_InvalidNumber) (.ref C_NothingToUndo) = some false)
    (ne_InvalidNumber_NothingToUndo : ¬ (C_InvalidNumber = C_NothingToUndo))
    (ie_NothingToUndo_NothingToUndo : PySem.W.subIn K (.ref C_NothingToUndo) (.ref C_NothingToUndo) = some true)
    (ie_NothingToUndo_Refused : PySem.W.subIn K (.ref C_Refused) (.ref C_NothingToUndo) = some false)
    (ne_Refused_NothingToUndo : ¬ (C_Refused = C_NothingToUndo))
    (ie_NothingToUndo_TooMany : PySem.W.subIn K (.ref C_TooMany) (.ref C_NothingToUndo) = some false)
    (ne_TooMany_NothingToUndo : ¬ (C_TooMany = C_NothingToUndo))
    (ib_LookupError_AnswerError : PySem.W.subIn K (.ref C_AnswerError) (.type "LookupError") = some false)
    (ib_LookupError_InvalidProgram : PySem.W.subIn K (.ref C_InvalidProgram) (.type "LookupError") = some false)
    (ib_LookupError_InvalidMode : PySem.W.subIn K (.ref C_InvalidMode) (.type "LookupError") = some false)
    (ib_LookupError_InvalidTable : PySem.W.subIn K (.ref C_InvalidTable) (.type "LookupError") = some false)
    (ib_LookupError_InvalidRun : PySem.W.subIn K (.ref C_InvalidRun) (.type "LookupError") = some false)
    (ib_LookupError_InvalidFact : PySem.W.subIn K (.ref C_InvalidFact) (.type "LookupError") = some false)
    (ib_LookupError_InvalidDerivation : PySem.W.subIn K (.ref C_InvalidDerivation) (.type "LookupError") = some false)
    (ib_LookupError_InvalidOperation : PySem.W.subIn K (.ref C_InvalidOperation) (.type "LookupError") = some false)
    (ib_LookupError_InvalidCommand : PySem.W.subIn K (.ref C_InvalidCommand) (.type "LookupError") = some false)
    (ib_LookupError_ParseError : PySem.W.subIn K (.ref C_ParseError) (.type "LookupError") = some false)
    (ib_LookupError_UnknownName : PySem.W.subIn K (.ref C_UnknownName) (.type "LookupError") = some true)
    (ib_LookupError_UnknownSite : PySem.W.subIn K (.ref C_UnknownSite) (.type "LookupError") = some true)
    (ib_LookupError_InvalidNumber : PySem.W.subIn K (.ref C_InvalidNumber) (.type "LookupError") = some true)
    (ib_LookupError_NothingToUndo : PySem.W.subIn K (.ref C_NothingToUndo) (.type "LookupError") = some true)
    (ib_LookupError_Refused : PySem.W.subIn K (.ref C_Refused) (.type "LookupError") = some false)
    (ib_LookupError_TooMany : PySem.W.subIn K (.ref C_TooMany) (.type "LookupError") = some false)
    (ib_IndexError_AnswerError : PySem.W.subIn K (.ref C_AnswerError) (.type "IndexError") = some false)
    (ib_IndexError_InvalidProgram : PySem.W.subIn K (.ref C_InvalidProgram) (.type "IndexError") = some false)
    (ib_IndexError_InvalidMode : PySem.W.subIn K (.ref C_InvalidMode) (.type "IndexError") = some false)
    (ib_IndexError_InvalidTable : PySem.W.subIn K (.ref C_InvalidTable) (.type "IndexError") = some false)
    (ib_IndexError_InvalidRun : PySem.W.subIn K (.ref C_InvalidRun) (.type "IndexError") = some false)
    (ib_IndexError_InvalidFact : PySem.W.subIn K (.ref C_InvalidFact) (.type "IndexError") = some false)
    (ib_IndexError_InvalidDerivation : PySem.W.subIn K (.ref C_InvalidDerivation) (.type "IndexError") = some false)
    (ib_IndexError_InvalidOperation : PySem.W.subIn K (.ref C_InvalidOperation) (.type "IndexError") = some false)
    (ib_IndexError_InvalidCommand : PySem.W.subIn K (.ref C_InvalidCommand) (.type "IndexError") = some false)
    (ib_IndexError_ParseError : PySem.W.subIn K (.ref C_ParseError) (.type "IndexError") = some false)
    (ib_IndexError_UnknownName : PySem.W.subIn K (.ref C_UnknownName) (.type "IndexError") = some false)
    (ib_IndexError_UnknownSite : PySem.W.subIn K (.ref C_UnknownSite) (.type "IndexError") = some false)
    (ib_IndexError_InvalidNumber : PySem.W.subIn K (.ref C_InvalidNumber) (.type "IndexError") = some true)
    (ib_IndexError_NothingToUndo : PySem.W.subIn K (.ref C_NothingToUndo) (.type "IndexError") = some false)
    (ib_IndexError_Refused : PySem.W.subIn K (.ref C_Refused) (.type "IndexError") = some false)
    (ib_IndexError_TooMany : PySem.W.subIn K (.ref C_TooMany) (.type "IndexError") = some false)
    (ib_KeyError_AnswerError : PySem.W.subIn K (.ref C_AnswerError) (.type "KeyError") = some false)
    (ib_KeyError_InvalidProgram : PySem.W.subIn K (.ref C_InvalidProgram) (.type "KeyError") = some false)
    (ib_KeyError_InvalidMode : PySem.W.subIn K (.ref C_InvalidMode) (.type "KeyError") = some false)
    (ib_KeyError_InvalidTable : PySem.W.subIn K (.ref C_InvalidTable) (.type "KeyError") = some false)
    (ib_KeyError_InvalidRun : PySem.W.subIn K (.ref C_InvalidRun) (.type "KeyError") = some false)
    (ib_KeyError_InvalidFact : PySem.W.subIn K (.ref C_InvalidFact) (.type "KeyError") = some false)
    (ib_KeyError_InvalidDerivation : PySem.W.subIn K (.ref C_InvalidDerivation) (.type "KeyError") = some false)
    (ib_KeyError_InvalidOperation : PySem.W.subIn K (.ref C_InvalidOperation) (.type "KeyError") = some false)
    (ib_KeyError_InvalidCommand : PySem.W.subIn K (.ref C_InvalidCommand) (.type "KeyError") = some false)
    (ib_KeyError_ParseError : PySem.W.subIn K (.ref C_ParseError) (.type "KeyError") = some false)
    (ib_KeyError_UnknownName : PySem.W.subIn K (.ref C_UnknownName) (.type "KeyError") = some true)
    (ib_KeyError_UnknownSite : PySem.W.subIn K (.ref C_UnknownSite) (.type "KeyError") = some true)
    (ib_KeyError_InvalidNumber : PySem.W.subIn K (.ref C_InvalidNumber) (.type "KeyError") = some false)
    (ib_KeyError_NothingToUndo : PySem.W.subIn K (.ref C_NothingToUndo) (.type "KeyError") = some false)
    (ib_KeyError_Refused : PySem.W.subIn K (.ref C_Refused) (.type "KeyError") = some false)
    (ib_KeyError_TooMany : PySem.W.subIn K (.ref C_TooMany) (.type "KeyError") = some false)
    (ib_OverflowError_AnswerError : PySem.W.subIn K (.ref C_AnswerError) (.type "OverflowError") = some false)
    (ib_OverflowError_InvalidProgram : PySem.W.subIn K (.ref C_InvalidProgram) (.type "OverflowError") = some false)
    (ib_OverflowError_InvalidMode : PySem.W.subIn K (.ref C_InvalidMode) (.type "OverflowError") = some false)
    (ib_OverflowError_InvalidTable : PySem.W.subIn K (.ref C_InvalidTable) (.type "OverflowError") = some false)
    (ib_OverflowError_InvalidRun : PySem.W.subIn K (.ref C_InvalidRun) (.type "OverflowError") = some false)
    (ib_OverflowError_InvalidFact : PySem.W.subIn K (.ref C_InvalidFact) (.type "OverflowError") = some false)
    (ib_OverflowError_InvalidDerivation : PySem.W.subIn K (.ref C_InvalidDerivation) (.type "OverflowError") = some false)
    (ib_OverflowError_InvalidOperation : PySem.W.subIn K (.ref C_InvalidOperation) (.type "OverflowError") = some false)
    (ib_OverflowError_InvalidCommand : PySem.W.subIn K (.ref C_InvalidCommand) (.type "OverflowError") = some false)
    (ib_OverflowError_ParseError : PySem.W.subIn K (.ref C_ParseError) (.type "OverflowError") = some false)
    (ib_OverflowError_UnknownName : PySem.W.subIn K (.ref C_UnknownName) (.type "OverflowError") = some false)
    (ib_OverflowError_UnknownSite : PySem.W.subIn K (.ref C_UnknownSite) (.type "OverflowError") = some false)
    (ib_OverflowError_InvalidNumber : PySem.W.subIn K (.ref C_InvalidNumber) (.type "OverflowError") = some false)
    (ib_OverflowError_NothingToUndo : PySem.W.subIn K (.ref C_NothingToUndo) (.type "OverflowError") = some false)
    (ib_OverflowError_Refused : PySem.W.subIn K (.ref C_Refused) (.type "OverflowError") = some false)
    (ib_OverflowError_TooMany : PySem.W.subIn K (.ref C_TooMany) (.type "OverflowError") = some true)
    (ib_ArithmeticError_AnswerError : PySem.W.subIn K (.ref C_AnswerError) (.type "ArithmeticError") = some false)
    (ib_ArithmeticError_InvalidProgram : PySem.W.subIn K (.ref C_InvalidProgram) (.type "ArithmeticError") = some false)
    (ib_ArithmeticError_InvalidMode : PySem.W.subIn K (.ref C_InvalidMode) (.type "ArithmeticError") = some false)
    (ib_ArithmeticError_InvalidTable : PySem.W.subIn K (.ref C_InvalidTable) (.type "ArithmeticError") = some false)
    (ib_ArithmeticError_InvalidRun : PySem.W.subIn K (.ref C_InvalidRun) (.type "ArithmeticError") = some false)
    (ib_ArithmeticError_InvalidFact : PySem.W.subIn K (.ref C_InvalidFact) (.type "ArithmeticError") = some false)
    (ib_ArithmeticError_InvalidDerivation : PySem.W.subIn K (.ref C_InvalidDerivation) (.type "ArithmeticError") = some false)
    (ib_ArithmeticError_InvalidOperation : PySem.W.subIn K (.ref C_InvalidOperation) (.type "ArithmeticError") = some false)
    (ib_ArithmeticError_InvalidCommand : PySem.W.subIn K (.ref C_InvalidCommand) (.type "ArithmeticError") = some false)
    (ib_ArithmeticError_ParseError : PySem.W.subIn K (.ref C_ParseError) (.type "ArithmeticError") = some false)
    (ib_ArithmeticError_UnknownName : PySem.W.subIn K (.ref C_UnknownName) (.type "ArithmeticError") = some false)
    (ib_ArithmeticError_UnknownSite : PySem.W.subIn K (.ref C_UnknownSite) (.type "ArithmeticError") = some false)
    (ib_ArithmeticError_InvalidNumber : PySem.W.subIn K (.ref C_InvalidNumber) (.type "ArithmeticError") = some false)
    (ib_ArithmeticError_NothingToUndo : PySem.W.subIn K (.ref C_NothingToUndo) (.type "ArithmeticError") = some false)
    (ib_ArithmeticError_Refused : PySem.W.subIn K (.ref C_Refused) (.type "ArithmeticError") = some true)
    (ib_ArithmeticError_TooMany : PySem.W.subIn K (.ref C_TooMany) (.type "ArithmeticError") = some true)
    (ex_InvalidRun1 : PySem.W.excIn K C_InvalidRun [.type "ValueError", .type "Exception", .type "BaseException", .type "object"] "ValueError.__new__" = true)
    (kc_InvalidRun1 : PySem.W.keepIn K (.ref C_InvalidRun) = true)
    (ex_InvalidTable1 : PySem.W.excIn K C_InvalidTable [.type "ValueError", .type "Exception", .type "BaseException", .type "object"] "ValueError.__new__" = true)
    (kc_InvalidTable1 : PySem.W.keepIn K (.ref C_InvalidTable) = true)
    (ex_InvalidMode1 : PySem.W.excIn K C_InvalidMode [.type "ValueError", .type "Exception", .type "BaseException", .type "object"] "ValueError.__new__" = true)
    (kc_InvalidMode1 : PySem.W.keepIn K (.ref C_InvalidMode) = true)
    (ex_InvalidProgram1 : PySem.W.excIn K C_InvalidProgram [.type "ValueError", .type "Exception", .type "BaseException", .type "object"] "ValueError.__new__" = true)
    (kc_InvalidProgram1 : PySem.W.keepIn K (.ref C_InvalidProgram) = true)
    (ex_AnswerError1 : PySem.W.excIn K C_AnswerError [.type "ValueError", .type "Exception", .type "BaseException", .type "object"] "ValueError.__new__" = true)
    (kc_AnswerError1 : PySem.W.keepIn K (.ref C_AnswerError) = true)
    (ex_InvalidCommand1 : PySem.W.excIn K C_InvalidCommand [.type "ValueError", .type "Exception", .type "BaseException", .type "object"] "ValueError.__new__" = true)
    (kc_InvalidCommand1 : PySem.W.keepIn K (.ref C_InvalidCommand) = true)
    (ex_InvalidOperation1 : PySem.W.excIn K C_InvalidOperation [.type "ValueError", .type "Exception", .type "BaseException", .type "object"] "ValueError.__new__" = true)
    (kc_InvalidOperation1 : PySem.W.keepIn K (.ref C_InvalidOperation) = true)
    (ex_InvalidDerivation1 : PySem.W.excIn K C_InvalidDerivation [.type "ValueError", .type "Exception", .type "BaseException", .type "object"] "ValueError.__new__" = true)
    (kc_InvalidDerivation1 : PySem.W.keepIn K (.ref C_InvalidDerivation) = true)
    (ex_InvalidFact1 : PySem.W.excIn K C_InvalidFact [.type "ValueError", .type "Exception", .type "BaseException", .type "object"] "ValueError.__new__" = true)
    (kc_InvalidFact1 : PySem.W.keepIn K (.ref C_InvalidFact) = true)
    (xi_ParseError1 : PySem.W.excInitIn K C_ParseError [.type "ValueError", .type "Exception", .type "BaseException", .type "object"] "ValueError.__new__" = true)
    (xi_ParseError2 : PySem.W.excOver K C_ParseError [.type "ValueError", .type "Exception", .type "BaseException", .type "object"] = true)
    (xi_ParseError3 : PySem.W.findIn K (.ref C_ParseError) "__init__" = some (some (.ref f_ParseError___init__)))
    (xi_ParseError4 : PySem.W.isFn K (.ref f_ParseError___init__) = true)
    (xi_ParseError5 : PySem.W.keepIn K (.ref C_ParseError) = true)
    (xi_ParseError6 : PySem.W.hasDictIn K C_ParseError = true)
    (xi_ParseError7 : PySem.W.findIn K (.ref C_ParseError) "__setattr__" = some (some (.builtin "object.__setattr__")))
    (xi_ParseError8 : PySem.W.takerIn K C_ParseError "line" = some none)
    (xi_InvalidNumber1 : PySem.W.excInitIn K C_InvalidNumber [.type "IndexError", .type "LookupError", .type "Exception", .type "BaseException", .type "object"] "IndexError.__new__" = true)
    (xi_InvalidNumber2 : PySem.W.excOver K C_InvalidNumber [.type "IndexError", .type "LookupError", .type "Exception", .type "BaseException", .type "object"] = true)
    (xi_InvalidNumber3 : PySem.W.findIn K (.ref C_InvalidNumber) "__init__" = some (some (.ref f_InvalidNumber___init__)))
    (xi_InvalidNumber4 : PySem.W.isFn K (.ref f_InvalidNumber___init__) = true)
    (xi_InvalidNumber5 : PySem.W.keepIn K (.ref C_InvalidNumber) = true)
    (xi_InvalidNumber6 : PySem.W.hasDictIn K C_InvalidNumber = true)
    (xi_InvalidNumber7 : PySem.W.findIn K (.ref C_InvalidNumber) "__setattr__" = some (some (.builtin "object.__setattr__")))
    (xi_InvalidNumber8 : PySem.W.takerIn K C_InvalidNumber "value" = some none)
    (xi_UnknownSite1 : PySem.W.excInitIn K C_UnknownSite [.type "KeyError", .type "LookupError", .type "Exception", .type "BaseException", .type "object"] "LookupError.__new__" = true)
    (xi_UnknownSite2 : PySem.W.excOver K C_UnknownSite [.type "KeyError", .type "LookupError", .type "Exception", .type "BaseException", .type "object"] = true)
    (xi_UnknownSite3 : PySem.W.findIn K (.ref C_UnknownSite) "__init__" = some (some (.ref f_UnknownSite___init__)))
    (xi_UnknownSite4 : PySem.W.isFn K (.ref f_UnknownSite___init__) = true)
    (xi_UnknownSite5 : PySem.W.keepIn K (.ref C_UnknownSite) = true)
    (xi_UnknownSite6 : PySem.W.hasDictIn K C_UnknownSite = true)
    (xi_UnknownSite7 : PySem.W.findIn K (.ref C_UnknownSite) "__setattr__" = some (some (.builtin "object.__setattr__")))
    (xi_UnknownSite8 : PySem.W.takerIn K C_UnknownSite "site" = some none)
    (xi_UnknownName1 : PySem.W.excInitIn K C_UnknownName [.type "KeyError", .type "LookupError", .type "Exception", .type "BaseException", .type "object"] "LookupError.__new__" = true)
    (xi_UnknownName2 : PySem.W.excOver K C_UnknownName [.type "KeyError", .type "LookupError", .type "Exception", .type "BaseException", .type "object"] = true)
    (xi_UnknownName3 : PySem.W.findIn K (.ref C_UnknownName) "__init__" = some (some (.ref f_UnknownName___init__)))
    (xi_UnknownName4 : PySem.W.isFn K (.ref f_UnknownName___init__) = true)
    (xi_UnknownName5 : PySem.W.keepIn K (.ref C_UnknownName) = true)
    (xi_UnknownName6 : PySem.W.hasDictIn K C_UnknownName = true)
    (xi_UnknownName7 : PySem.W.findIn K (.ref C_UnknownName) "__setattr__" = some (some (.builtin "object.__setattr__")))
    (xi_UnknownName8 : PySem.W.takerIn K C_UnknownName "name" = some none)
    (xi_TooMany1 : PySem.W.excInitIn K C_TooMany [.type "OverflowError", .type "ArithmeticError", .type "Exception", .type "BaseException", .type "object"] "OverflowError.__new__" = true)
    (xi_TooMany2 : PySem.W.excOver K C_TooMany [.type "OverflowError", .type "ArithmeticError", .type "Exception", .type "BaseException", .type "object"] = true)
    (xi_TooMany3 : PySem.W.findIn K (.ref C_TooMany) "__init__" = some (some (.ref f_TooMany___init__)))
    (xi_TooMany4 : PySem.W.isFn K (.ref f_TooMany___init__) = true)
    (xi_TooMany5 : PySem.W.keepIn K (.ref C_TooMany) = true)
    (xi_TooMany6 : PySem.W.hasDictIn K C_TooMany = true)
    (xi_TooMany7 : PySem.W.findIn K (.ref C_TooMany) "__setattr__" = some (some (.builtin "object.__setattr__")))
    (xi_TooMany8 : PySem.W.takerIn K C_TooMany "limit" = some none)
    (xi_Refused1 : PySem.W.excInitIn K C_Refused [.type "ArithmeticError", .type "Exception", .type "BaseException", .type "object"] "ArithmeticError.__new__" = true)
    (xi_Refused2 : PySem.W.excOver K C_Refused [.type "ArithmeticError", .type "Exception", .type "BaseException", .type "object"] = true)
    (xi_Refused3 : PySem.W.findIn K (.ref C_Refused) "__init__" = some (some (.ref f_Refused___init__)))
    (xi_Refused4 : PySem.W.isFn K (.ref f_Refused___init__) = true)
    (xi_Refused5 : PySem.W.keepIn K (.ref C_Refused) = true)
    (xi_Refused6 : PySem.W.hasDictIn K C_Refused = true)
    (xi_Refused7 : PySem.W.findIn K (.ref C_Refused) "__setattr__" = some (some (.builtin "object.__setattr__")))
    (xi_Refused8 : PySem.W.takerIn K C_Refused "name" = some none)
    (xi_NothingToUndo1 : PySem.W.excInitIn K C_NothingToUndo [.type "LookupError", .type "Exception", .type "BaseException", .type "object"] "LookupError.__new__" = true)
    (xi_NothingToUndo2 : PySem.W.excOver K C_NothingToUndo [.type "LookupError", .type "Exception", .type "BaseException", .type "object"] = true)
    (xi_NothingToUndo3 : PySem.W.findIn K (.ref C_NothingToUndo) "__init__" = some (some (.ref f_NothingToUndo___init__)))
    (xi_NothingToUndo4 : PySem.W.isFn K (.ref f_NothingToUndo___init__) = true)
    (xi_NothingToUndo5 : PySem.W.keepIn K (.ref C_NothingToUndo) = true)
    (xi_NothingToUndo6 : PySem.W.hasDictIn K C_NothingToUndo = true)
    (xi_NothingToUndo7 : PySem.W.findIn K (.ref C_NothingToUndo) "__setattr__" = some (some (.builtin "object.__setattr__")))
    (xi_NothingToUndo8 : PySem.W.takerIn K C_NothingToUndo "many" = some none)
    (nf_TooMany_limit1 : PySem.W.findIn K (.ref C_TooMany) "limit" = some none)
    (ec_TooMany1 : PySem.W.findIn K (.ref C_TooMany) "__getattribute__" = some (some (.builtin "BaseException.__getattribute__")))
    (ec_TooMany2 : PySem.W.findIn K (.ref C_TooMany) "__getattr__" = some none)
    (ec_TooMany3 : PySem.W.subIn K (.ref C_TooMany) (.type "BaseException") = some true)
    (ec_TooMany4 : PySem.W.hasDictIn K C_TooMany = true)
    (ec_TooMany5 : PySem.W.findIn K (.ref C_TooMany) "__class__" = some (some (.builtin "object.__class__")))
    (tyn1 : PySem.W.specialIn K (.builtin "object.__class__") "__get__" = some (some (.builtin "getset_descriptor.__get__")))
    (tyn2 : PySem.W.takesIn K (.builtin "object.__class__") = some true)
    (ec_TooMany6 : PySem.W.mroIn K C_TooMany (.type "object") = some true)
    (nf_Refused_name1 : PySem.W.findIn K (.ref C_Refused) "name" = some none)
    (ec_Refused1 : PySem.W.findIn K (.ref C_Refused) "__getattribute__" = some (some (.builtin "BaseException.__getattribute__")))
    (ec_Refused2 : PySem.W.findIn K (.ref C_Refused) "__getattr__" = some none)
    (ec_Refused3 : PySem.W.subIn K (.ref C_Refused) (.type "BaseException") = some true)
    (ec_Refused4 : PySem.W.hasDictIn K C_Refused = true)
    (ec_Refused5 : PySem.W.findIn K (.ref C_Refused) "__class__" = some (some (.builtin "object.__class__")))
    (ec_Refused6 : PySem.W.mroIn K C_Refused (.type "object") = some true)
    (nf_NothingToUndo_many1 : PySem.W.findIn K (.ref C_NothingToUndo) "many" = some none)
    (ec_NothingToUndo1 : PySem.W.findIn K (.ref C_NothingToUndo) "__getattribute__" = some (some (.builtin "BaseException.__getattribute__")))
    (ec_NothingToUndo2 : PySem.W.findIn K (.ref C_NothingToUndo) "__getattr__" = some none)
    (ec_NothingToUndo3 : PySem.W.subIn K (.ref C_NothingToUndo) (.type "BaseException") = some true)
    (ec_NothingToUndo4 : PySem.W.hasDictIn K C_NothingToUndo = true)
    (ec_NothingToUndo5 : PySem.W.findIn K (.ref C_NothingToUndo) "__class__" = some (some (.builtin "object.__class__")))
    (ec_NothingToUndo6 : PySem.W.mroIn K C_NothingToUndo (.type "object") = some true)
    (nf_InvalidNumber_value1 : PySem.W.findIn K (.ref C_InvalidNumber) "value" = some none)
    (ec_InvalidNumber1 : PySem.W.findIn K (.ref C_InvalidNumber) "__getattribute__" = some (some (.builtin "BaseException.__getattribute__")))
    (ec_InvalidNumber2 : PySem.W.findIn K (.ref C_InvalidNumber) "__getattr__" = some none)
    (ec_InvalidNumber3 : PySem.W.subIn K (.ref C_InvalidNumber) (.type "BaseException") = some true)
    (ec_InvalidNumber4 : PySem.W.hasDictIn K C_InvalidNumber = true)
    (ec_InvalidNumber5 : PySem.W.findIn K (.ref C_InvalidNumber) "__class__" = some (some (.builtin "object.__class__")))
    (ec_InvalidNumber6 : PySem.W.mroIn K C_InvalidNumber (.type "object") = some true)
    (nf_UnknownSite_site1 : PySem.W.findIn K (.ref C_UnknownSite) "site" = some none)
    (ec_UnknownSite1 : PySem.W.findIn K (.ref C_UnknownSite) "__getattribute__" = some (some (.builtin "BaseException.__getattribute__")))
    (ec_UnknownSite2 : PySem.W.findIn K (.ref C_UnknownSite) "__getattr__" = some none)
    (ec_UnknownSite3 : PySem.W.subIn K (.ref C_UnknownSite) (.type "BaseException") = some true)
    (ec_UnknownSite4 : PySem.W.hasDictIn K C_UnknownSite = true)
    (ec_UnknownSite5 : PySem.W.findIn K (.ref C_UnknownSite) "__class__" = some (some (.builtin "object.__class__")))
    (ec_UnknownSite6 : PySem.W.mroIn K C_UnknownSite (.type "object") = some true)
    (nf_UnknownName_name1 : PySem.W.findIn K (.ref C_UnknownName) "name" = some none)
    (ec_UnknownName1 : PySem.W.findIn K (.ref C_UnknownName) "__getattribute__" = some (some (.builtin "BaseException.__getattribute__")))
    (ec_UnknownName2 : PySem.W.findIn K (.ref C_UnknownName) "__getattr__" = some none)
    (ec_UnknownName3 : PySem.W.subIn K (.ref C_UnknownName) (.type "BaseException") = some true)
    (ec_UnknownName4 : PySem.W.hasDictIn K C_UnknownName = true)
    (ec_UnknownName5 : PySem.W.findIn K (.ref C_UnknownName) "__class__" = some (some (.builtin "object.__class__")))
    (ec_UnknownName6 : PySem.W.mroIn K C_UnknownName (.type "object") = some true)
    (nf_ParseError_line1 : PySem.W.findIn K (.ref C_ParseError) "line" = some none)
    (ec_ParseError1 : PySem.W.findIn K (.ref C_ParseError) "__getattribute__" = some (some (.builtin "BaseException.__getattribute__")))
    (ec_ParseError2 : PySem.W.findIn K (.ref C_ParseError) "__getattr__" = some none)
    (ec_ParseError3 : PySem.W.subIn K (.ref C_ParseError) (.type "BaseException") = some true)
    (ec_ParseError4 : PySem.W.hasDictIn K C_ParseError = true)
    (ec_ParseError5 : PySem.W.findIn K (.ref C_ParseError) "__class__" = some (some (.builtin "object.__class__")))
    (ec_ParseError6 : PySem.W.mroIn K C_ParseError (.type "object") = some true)
    (ec_AnswerError1 : PySem.W.findIn K (.ref C_AnswerError) "__getattribute__" = some (some (.builtin "BaseException.__getattribute__")))
    (ec_AnswerError2 : PySem.W.findIn K (.ref C_AnswerError) "__getattr__" = some none)
    (ec_AnswerError3 : PySem.W.subIn K (.ref C_AnswerError) (.type "BaseException") = some true)
    (ec_AnswerError4 : PySem.W.hasDictIn K C_AnswerError = true)
    (ec_AnswerError5 : PySem.W.findIn K (.ref C_AnswerError) "__class__" = some (some (.builtin "object.__class__")))
    (ec_AnswerError6 : PySem.W.mroIn K C_AnswerError (.type "object") = some true)
    (ec_InvalidProgram1 : PySem.W.findIn K (.ref C_InvalidProgram) "__getattribute__" = some (some (.builtin "BaseException.__getattribute__")))
    (ec_InvalidProgram2 : PySem.W.findIn K (.ref C_InvalidProgram) "__getattr__" = some none)
    (ec_InvalidProgram3 : PySem.W.subIn K (.ref C_InvalidProgram) (.type "BaseException") = some true)
    (ec_InvalidProgram4 : PySem.W.hasDictIn K C_InvalidProgram = true)
    (ec_InvalidProgram5 : PySem.W.findIn K (.ref C_InvalidProgram) "__class__" = some (some (.builtin "object.__class__")))
    (ec_InvalidProgram6 : PySem.W.mroIn K C_InvalidProgram (.type "object") = some true)
    (ec_InvalidMode1 : PySem.W.findIn K (.ref C_InvalidMode) "__getattribute__" = some (some (.builtin "BaseException.__getattribute__")))
    (ec_InvalidMode2 : PySem.W.findIn K (.ref C_InvalidMode) "__getattr__" = some none)
    (ec_InvalidMode3 : PySem.W.subIn K (.ref C_InvalidMode) (.type "BaseException") = some true)
    (ec_InvalidMode4 : PySem.W.hasDictIn K C_InvalidMode = true)
    (ec_InvalidMode5 : PySem.W.findIn K (.ref C_InvalidMode) "__class__" = some (some (.builtin "object.__class__")))
    (ec_InvalidMode6 : PySem.W.mroIn K C_InvalidMode (.type "object") = some true)
    (ec_InvalidTable1 : PySem.W.findIn K (.ref C_InvalidTable) "__getattribute__" = some (some (.builtin "BaseException.__getattribute__")))
    (ec_InvalidTable2 : PySem.W.findIn K (.ref C_InvalidTable) "__getattr__" = some none)
    (ec_InvalidTable3 : PySem.W.subIn K (.ref C_InvalidTable) (.type "BaseException") = some true)
    (ec_InvalidTable4 : PySem.W.hasDictIn K C_InvalidTable = true)
    (ec_InvalidTable5 : PySem.W.findIn K (.ref C_InvalidTable) "__class__" = some (some (.builtin "object.__class__")))
    (ec_InvalidTable6 : PySem.W.mroIn K C_InvalidTable (.type "object") = some true)
    (ec_InvalidRun1 : PySem.W.findIn K (.ref C_InvalidRun) "__getattribute__" = some (some (.builtin "BaseException.__getattribute__")))
    (ec_InvalidRun2 : PySem.W.findIn K (.ref C_InvalidRun) "__getattr__" = some none)
    (ec_InvalidRun3 : PySem.W.subIn K (.ref C_InvalidRun) (.type "BaseException") = some true)
    (ec_InvalidRun4 : PySem.W.hasDictIn K C_InvalidRun = true)
    (ec_InvalidRun5 : PySem.W.findIn K (.ref C_InvalidRun) "__class__" = some (some (.builtin "object.__class__")))
    (ec_InvalidRun6 : PySem.W.mroIn K C_InvalidRun (.type "object") = some true)
    (ec_InvalidFact1 : PySem.W.findIn K (.ref C_InvalidFact) "__getattribute__" = some (some (.builtin "BaseException.__getattribute__")))
    (ec_InvalidFact2 : PySem.W.findIn K (.ref C_InvalidFact) "__getattr__" = some none)
    (ec_InvalidFact3 : PySem.W.subIn K (.ref C_InvalidFact) (.type "BaseException") = some true)
    (ec_InvalidFact4 : PySem.W.hasDictIn K C_InvalidFact = true)
    (ec_InvalidFact5 : PySem.W.findIn K (.ref C_InvalidFact) "__class__" = some (some (.builtin "object.__class__")))
    (ec_InvalidFact6 : PySem.W.mroIn K C_InvalidFact (.type "object") = some true)
    (ec_InvalidDerivation1 : PySem.W.findIn K (.ref C_InvalidDerivation) "__getattribute__" = some (some (.builtin "BaseException.__getattribute__")))
    (ec_InvalidDerivation2 : PySem.W.findIn K (.ref C_InvalidDerivation) "__getattr__" = some none)
    (ec_InvalidDerivation3 : PySem.W.subIn K (.ref C_InvalidDerivation) (.type "BaseException") = some true)
    (ec_InvalidDerivation4 : PySem.W.hasDictIn K C_InvalidDerivation = true)
    (ec_InvalidDerivation5 : PySem.W.findIn K (.ref C_InvalidDerivation) "__class__" = some (some (.builtin "object.__class__")))
    (ec_InvalidDerivation6 : PySem.W.mroIn K C_InvalidDerivation (.type "object") = some true)
    (ec_InvalidOperation1 : PySem.W.findIn K (.ref C_InvalidOperation) "__getattribute__" = some (some (.builtin "BaseException.__getattribute__")))
    (ec_InvalidOperation2 : PySem.W.findIn K (.ref C_InvalidOperation) "__getattr__" = some none)
    (ec_InvalidOperation3 : PySem.W.subIn K (.ref C_InvalidOperation) (.type "BaseException") = some true)
    (ec_InvalidOperation4 : PySem.W.hasDictIn K C_InvalidOperation = true)
    (ec_InvalidOperation5 : PySem.W.findIn K (.ref C_InvalidOperation) "__class__" = some (some (.builtin "object.__class__")))
    (ec_InvalidOperation6 : PySem.W.mroIn K C_InvalidOperation (.type "object") = some true)
    (ec_InvalidCommand1 : PySem.W.findIn K (.ref C_InvalidCommand) "__getattribute__" = some (some (.builtin "BaseException.__getattribute__")))
    (ec_InvalidCommand2 : PySem.W.findIn K (.ref C_InvalidCommand) "__getattr__" = some none)
    (ec_InvalidCommand3 : PySem.W.subIn K (.ref C_InvalidCommand) (.type "BaseException") = some true)
    (ec_InvalidCommand4 : PySem.W.hasDictIn K C_InvalidCommand = true)
    (ec_InvalidCommand5 : PySem.W.findIn K (.ref C_InvalidCommand) "__class__" = some (some (.builtin "object.__class__")))
    (ec_InvalidCommand6 : PySem.W.mroIn K C_InvalidCommand (.type "object") = some true) :
    ∀ base : Heap, K.In base → base.Ns mainGlobals mg → FnD P w K mg base 7 true fa F_law := by
  have e := hfa.symm.trans (PySem.W.mg_of X G a_law)
  cases e
  have T : Txt w K mg C_AnswerError C_InvalidProgram C_InvalidMode C_InvalidTable C_InvalidRun C_InvalidFact C_InvalidDerivation C_InvalidOperation C_InvalidCommand C_ParseError C_UnknownName C_UnknownSite C_InvalidNumber C_NothingToUndo C_Refused C_TooMany f_InvalidNumber___init__ f_NothingToUndo___init__ f_ParseError___init__ f_Refused___init__ f_TooMany___init__ f_UnknownName___init__ f_UnknownSite___init__  := {
    n_ArithmeticError := PySem.W.mg_none_of X G z_ArithmeticError
    n_IndexError := PySem.W.mg_none_of X G z_IndexError
    n_KeyError := PySem.W.mg_none_of X G z_KeyError
    n_LookupError := PySem.W.mg_none_of X G z_LookupError
    n_OverflowError := PySem.W.mg_none_of X G z_OverflowError
    n_ValueError := PySem.W.mg_none_of X G z_ValueError
    n_abs := PySem.W.mg_none_of X G z_abs
    n_enumerate := PySem.W.mg_none_of X G z_enumerate
    n_int := PySem.W.mg_none_of X G z_int
    n_isinstance := PySem.W.mg_none_of X G z_isinstance
    n_len := PySem.W.mg_none_of X G z_len
    n_max := PySem.W.mg_none_of X G z_max
    n_min := PySem.W.mg_none_of X G z_min
    n_range := PySem.W.mg_none_of X G z_range
    n_repr := PySem.W.mg_none_of X G z_repr
    at_AnswerError := x_AnswerError
    at_InvalidProgram := x_InvalidProgram
    at_InvalidMode := x_InvalidMode
    at_InvalidTable := x_InvalidTable
    at_InvalidRun := x_InvalidRun
    at_InvalidFact := x_InvalidFact
    at_InvalidDerivation := x_InvalidDerivation
    at_InvalidOperation := x_InvalidOperation
    at_InvalidCommand := x_InvalidCommand
    at_ParseError := x_ParseError
    at_UnknownName := x_UnknownName
    at_UnknownSite := x_UnknownSite
    at_InvalidNumber := x_InvalidNumber
    at_NothingToUndo := x_NothingToUndo
    at_Refused := x_Refused
    at_TooMany := x_TooMany
    ie_InvalidMode := isExc_at fun c hc C h => by
      simp only [ESs, List.mem_cons, List.mem_nil_iff, List.not_mem_nil, or_false] at hc
      rcases hc with rfl | rfl | rfl | rfl | rfl | rfl | rfl | rfl | rfl | rfl | rfl | rfl | rfl | rfl | rfl | rfl
      · have z := ClAt.eq h x_AnswerError; subst z; exact kit_own ie_InvalidMode1 ie_InvalidMode2 ie_InvalidMode_AnswerError (fun y => absurd (Value.ref.inj y) ne_AnswerError_InvalidMode)
      · have z := ClAt.eq h x_InvalidProgram; subst z; exact kit_own ie_InvalidMode1 ie_InvalidMode2 ie_InvalidMode_InvalidProgram (fun y => absurd (Value.ref.inj y) ne_InvalidProgram_InvalidMode)
      · have z := ClAt.eq h x_InvalidMode; subst z; exact kit_own ie_InvalidMode1 ie_InvalidMode2 ie_InvalidMode_InvalidMode (fun _ => rfl)
      · have z := ClAt.eq h x_InvalidTable; subst z; exact kit_own ie_InvalidMode1 ie_InvalidMode2 ie_InvalidMode_InvalidTable (fun y => absurd (Value.ref.inj y) ne_InvalidTable_InvalidMode)
      · have z := ClAt.eq h x_InvalidRun; subst z; exact kit_own ie_InvalidMode1 ie_InvalidMode2 ie_InvalidMode_InvalidRun (fun y => absurd (Value.ref.inj y) ne_InvalidRun_InvalidMode)
      · have z := ClAt.eq h x_InvalidFact; subst z; exact kit_own ie_InvalidMode1 ie_InvalidMode2 ie_InvalidMode_InvalidFact (fun y => absurd (Value.ref.inj y) ne_InvalidFact_InvalidMode)
      · have z := ClAt.eq h x_InvalidDerivation; subst z; exact kit_own ie_InvalidMode1 ie_InvalidMode2 ie_InvalidMode_InvalidDerivation (fun y => absurd (Value.ref.inj y) ne_InvalidDerivation_InvalidMode)
      · have z := ClAt.eq h x_InvalidOperation; subst z; exact kit_own ie_InvalidMode1 ie_InvalidMode2 ie_InvalidMode_InvalidOperation (fun y => absurd (Value.ref.inj y) ne_InvalidOperation_InvalidMode)
      · have z := ClAt.eq h x_InvalidCommand; subst z; exact kit_own ie_InvalidMode1 ie_InvalidMode2 ie_InvalidMode_InvalidCommand (fun y => absurd (Value.ref.inj y) ne_InvalidCommand_InvalidMode)
      · have z := ClAt.eq h x_ParseError; subst z; exact kit_own ie_InvalidMode1 ie_InvalidMode2 ie_InvalidMode_ParseError (fun y => absurd (Value.ref.inj y) ne_ParseError_InvalidMode)
      · have z := ClAt.eq h x_UnknownName; subst z; exact kit_own ie_InvalidMode1 ie_InvalidMode2 ie_InvalidMode_UnknownName (fun y => absurd (Value.ref.inj y) ne_UnknownName_InvalidMode)
      · have z := ClAt.eq h x_UnknownSite; subst z; exact kit_own ie_InvalidMode1 ie_InvalidMode2 ie_InvalidMode_UnknownSite (fun y => absurd (Value.ref.inj y) ne_UnknownSite_InvalidMode)
      · have z := ClAt.eq h x_InvalidNumber; subst z; exact kit_own ie_InvalidMode1 ie_InvalidMode2 ie_InvalidMode_InvalidNumber (fun y => absurd (Value.ref.inj y) ne_InvalidNumber_InvalidMode)
      · have z := ClAt.eq h x_NothingToUndo; subst z; exact kit_own ie_InvalidMode1 ie_InvalidMode2 ie_InvalidMode_NothingToUndo (fun y => absurd (Value.ref.inj y) ne_NothingToUndo_InvalidMode)
      · have z := ClAt.eq h x_Refused; subst z; exact kit_own ie_InvalidMode1 ie_InvalidMode2 ie_InvalidMode_Refused (fun y => absurd (Value.ref.inj y) ne_Refused_InvalidMode)
      · have z := ClAt.eq h x_TooMany; subst z; exact kit_own ie_InvalidMode1 ie_InvalidMode2 ie_InvalidMode_TooMany (fun y => absurd (Value.ref.inj y) ne_TooMany_InvalidMode)
    mg_InvalidMode := PySem.W.mg_of X G x_InvalidMode
    ie_InvalidProgram := isExc_at fun c hc C h => by
      simp only [ESs, List.mem_cons, List.mem_nil_iff, List.not_mem_nil, or_false] at hc
      rcases hc with rfl | rfl | rfl | rfl | rfl | rfl | rfl | rfl | rfl | rfl | rfl | rfl | rfl | rfl | rfl | rfl
      · have z := ClAt.eq h x_AnswerError; subst z; exact kit_own ie_InvalidProgram1 ie_InvalidProgram2 ie_InvalidProgram_AnswerError (fun y => absurd (Value.ref.inj y) ne_AnswerError_InvalidProgram)
      · have z := ClAt.eq h x_InvalidProgram; subst z; exact kit_own ie_InvalidProgram1 ie_InvalidProgram2 ie_InvalidProgram_InvalidProgram (fun _ => rfl)
      · have z := ClAt.eq h x_InvalidMode; subst z; exact kit_own ie_InvalidProgram1 ie_InvalidProgram2 ie_InvalidProgram_InvalidMode (fun y => absurd (Value.ref.inj y) ne_InvalidMode_InvalidProgram)
      · have z := ClAt.eq h x_InvalidTable; subst z; exact kit_own ie_InvalidProgram1 ie_InvalidProgram2 ie_InvalidProgram_InvalidTable (fun y => absurd (Value.ref.inj y) ne_InvalidTable_InvalidProgram)
      · have z := ClAt.eq h x_InvalidRun; subst z; exact kit_own ie_InvalidProgram1 ie_InvalidProgram2 ie_InvalidProgram_InvalidRun (fun y => absurd (Value.ref.inj y) ne_InvalidRun_InvalidProgram)
      · have z := ClAt.eq h x_InvalidFact; subst z; exact kit_own ie_InvalidProgram1 ie_InvalidProgram2 ie_InvalidProgram_InvalidFact (fun y => absurd (Value.ref.inj y) ne_InvalidFact_InvalidProgram)
      · have z := ClAt.eq h x_InvalidDerivation; subst z; exact kit_own ie_InvalidProgram1 ie_InvalidProgram2 ie_InvalidProgram_InvalidDerivation (fun y => absurd (Value.ref.inj y) ne_InvalidDerivation_InvalidProgram)
      · have z := ClAt.eq h x_InvalidOperation; subst z; exact kit_own ie_InvalidProgram1 ie_InvalidProgram2 ie_InvalidProgram_InvalidOperation (fun y => absurd (Value.ref.inj y) ne_InvalidOperation_InvalidProgram)
      · have z := ClAt.eq h x_InvalidCommand; subst z; exact kit_own ie_InvalidProgram1 ie_InvalidProgram2 ie_InvalidProgram_InvalidCommand (fun y => absurd (Value.ref.inj y) ne_InvalidCommand_InvalidProgram)
      · have z := ClAt.eq h x_ParseError; subst z; exact kit_own ie_InvalidProgram1 ie_InvalidProgram2 ie_InvalidProgram_ParseError (fun y => absurd (Value.ref.inj y) ne_ParseError_InvalidProgram)
      · have z := ClAt.eq h x_UnknownName; subst z; exact kit_own ie_InvalidProgram1 ie_InvalidProgram2 ie_InvalidProgram_UnknownName (fun y => absurd (Value.ref.inj y) ne_UnknownName_InvalidProgram)
      · have z := ClAt.eq h x_UnknownSite; subst z; exact kit_own ie_InvalidProgram1 ie_InvalidProgram2 ie_InvalidProgram_UnknownSite (fun y => absurd (Value.ref.inj y) ne_UnknownSite_InvalidProgram)
      · have z := ClAt.eq h x_InvalidNumber; subst z; exact kit_own ie_InvalidProgram1 ie_InvalidProgram2 ie_InvalidProgram_InvalidNumber (fun y => absurd (Value.ref.inj y) ne_InvalidNumber_InvalidProgram)
      · have z := ClAt.eq h x_NothingToUndo; subst z; exact kit_own ie_InvalidProgram1 ie_InvalidProgram2 ie_InvalidProgram_NothingToUndo (fun y => absurd (Value.ref.inj y) ne_NothingToUndo_InvalidProgram)
      · have z := ClAt.eq h x_Refused; subst z; exact kit_own ie_InvalidProgram1 ie_InvalidProgram2 ie_InvalidProgram_Refused (fun y => absurd (Value.ref.inj y) ne_Refused_InvalidProgram)
      · have z := ClAt.eq h x_TooMany; subst z; exact kit_own ie_InvalidProgram1 ie_InvalidProgram2 ie_InvalidProgram_TooMany (fun y => absurd (Value.ref.inj y) ne_TooMany_InvalidProgram)
    mg_InvalidProgram := PySem.W.mg_of X G x_InvalidProgram
    ie_AnswerError := isExc_at fun c hc C h => by
      simp only [ESs, List.mem_cons, List.mem_nil_iff, List.not_mem_nil, or_false] at hc
      rcases hc with rfl | rfl | rfl | rfl | rfl | rfl | rfl | rfl | rfl | rfl | rfl | rfl | rfl | rfl | rfl | rfl
      · have z := ClAt.eq h x_AnswerError; subst z; exact kit_own ie_AnswerError1 ie_AnswerError2 ie_AnswerError_AnswerError (fun _ => rfl)
      · have z := ClAt.eq h x_InvalidProgram; subst z; exact kit_own ie_AnswerError1 ie_AnswerError2 ie_AnswerError_InvalidProgram (fun _ => rfl)
      · have z := ClAt.eq h x_InvalidMode; subst z; exact kit_own ie_AnswerError1 ie_AnswerError2 ie_AnswerError_InvalidMode (fun _ => rfl)
      · have z := ClAt.eq h x_InvalidTable; subst z; exact kit_own ie_AnswerError1 ie_AnswerError2 ie_AnswerError_InvalidTable (fun _ => rfl)
      · have z := ClAt.eq h x_InvalidRun; subst z; exact kit_own ie_AnswerError1 ie_AnswerError2 ie_AnswerError_InvalidRun (fun _ => rfl)
      · have z := ClAt.eq h x_InvalidFact; subst z; exact kit_own ie_AnswerError1 ie_AnswerError2 ie_AnswerError_InvalidFact (fun _ => rfl)
      · have z := ClAt.eq h x_InvalidDerivation; subst z; exact kit_own ie_AnswerError1 ie_AnswerError2 ie_AnswerError_InvalidDerivation (fun _ => rfl)
      · have z := ClAt.eq h x_InvalidOperation; subst z; exact kit_own ie_AnswerError1 ie_AnswerError2 ie_AnswerError_InvalidOperation (fun _ => rfl)
      · have z := ClAt.eq h x_InvalidCommand; subst z; exact kit_own ie_AnswerError1 ie_AnswerError2 ie_AnswerError_InvalidCommand (fun _ => rfl)
      · have z := ClAt.eq h x_ParseError; subst z; exact kit_own ie_AnswerError1 ie_AnswerError2 ie_AnswerError_ParseError (fun _ => rfl)
      · have z := ClAt.eq h x_UnknownName; subst z; exact kit_own ie_AnswerError1 ie_AnswerError2 ie_AnswerError_UnknownName (fun y => absurd (Value.ref.inj y) ne_UnknownName_AnswerError)
      · have z := ClAt.eq h x_UnknownSite; subst z; exact kit_own ie_AnswerError1 ie_AnswerError2 ie_AnswerError_UnknownSite (fun y => absurd (Value.ref.inj y) ne_UnknownSite_AnswerError)
      · have z := ClAt.eq h x_InvalidNumber; subst z; exact kit_own ie_AnswerError1 ie_AnswerError2 ie_AnswerError_InvalidNumber (fun y => absurd (Value.ref.inj y) ne_InvalidNumber_AnswerError)
      · have z := ClAt.eq h x_NothingToUndo; subst z; exact kit_own ie_AnswerError1 ie_AnswerError2 ie_AnswerError_NothingToUndo (fun y => absurd (Value.ref.inj y) ne_NothingToUndo_AnswerError)
      · have z := ClAt.eq h x_Refused; subst z; exact kit_own ie_AnswerError1 ie_AnswerError2 ie_AnswerError_Refused (fun y => absurd (Value.ref.inj y) ne_Refused_AnswerError)
      · have z := ClAt.eq h x_TooMany; subst z; exact kit_own ie_AnswerError1 ie_AnswerError2 ie_AnswerError_TooMany (fun y => absurd (Value.ref.inj y) ne_TooMany_AnswerError)
    mg_AnswerError := PySem.W.mg_of X G x_AnswerError
    ie_InvalidFact := isExc_at fun c hc C h => by
      simp only [ESs, List.mem_cons, List.mem_nil_iff, List.not_mem_nil, or_false] at hc
      rcases hc with rfl | rfl | rfl | rfl | rfl | rfl | rfl | rfl | rfl | rfl | rfl | rfl | rfl | rfl | rfl | rfl
      · have z := ClAt.eq h x_AnswerError; subst z; exact kit_own ie_InvalidFact1 ie_InvalidFact2 ie_InvalidFact_AnswerError (fun y => absurd (Value.ref.inj y) ne_AnswerError_InvalidFact)
      · have z := ClAt.eq h x_InvalidProgram; subst z; exact kit_own ie_InvalidFact1 ie_InvalidFact2 ie_InvalidFact_InvalidProgram (fun y => absurd (Value.ref.inj y) ne_InvalidProgram_InvalidFact)
      · have z := ClAt.eq h x_InvalidMode; subst z; exact kit_own ie_InvalidFact1 ie_InvalidFact2 ie_InvalidFact_InvalidMode (fun y => absurd (Value.ref.inj y) ne_InvalidMode_InvalidFact)
      · have z := ClAt.eq h x_InvalidTable; subst z; exact kit_own ie_InvalidFact1 ie_InvalidFact2 ie_InvalidFact_InvalidTable (fun y => absurd (Value.ref.inj y) ne_InvalidTable_InvalidFact)
      · have z := ClAt.eq h x_InvalidRun; subst z; exact kit_own ie_InvalidFact1 ie_InvalidFact2 ie_InvalidFact_InvalidRun (fun y => absurd (Value.ref.inj y) ne_InvalidRun_InvalidFact)
      · have z := ClAt.eq h x_InvalidFact; subst z; exact kit_own ie_InvalidFact1 ie_InvalidFact2 ie_InvalidFact_InvalidFact (fun _ => rfl)
      · have z := ClAt.eq h x_InvalidDerivation; subst z; exact kit_own ie_InvalidFact1 ie_InvalidFact2 ie_InvalidFact_InvalidDerivation (fun y => absurd (Value.ref.inj y) ne_InvalidDerivation_InvalidFact)
      · have z := ClAt.eq h x_InvalidOperation; subst z; exact kit_own ie_InvalidFact1 ie_InvalidFact2 ie_InvalidFact_InvalidOperation (fun y => absurd (Value.ref.inj y) ne_InvalidOperation_InvalidFact)
      · have z := ClAt.eq h x_InvalidCommand; subst z; exact kit_own ie_InvalidFact1 ie_InvalidFact2 ie_InvalidFact_InvalidCommand (fun y => absurd (Value.ref.inj y) ne_InvalidCommand_InvalidFact)
      · have z := ClAt.eq h x_ParseError; subst z; exact kit_own ie_InvalidFact1 ie_InvalidFact2 ie_InvalidFact_ParseError (fun y => absurd (Value.ref.inj y) ne_ParseError_InvalidFact)
      · have z := ClAt.eq h x_UnknownName; subst z; exact kit_own ie_InvalidFact1 ie_InvalidFact2 ie_InvalidFact_UnknownName (fun y => absurd (Value.ref.inj y) ne_UnknownName_InvalidFact)
      · have z := ClAt.eq h x_UnknownSite; subst z; exact kit_own ie_InvalidFact1 ie_InvalidFact2 ie_InvalidFact_UnknownSite (fun y => absurd (Value.ref.inj y) ne_UnknownSite_InvalidFact)
      · have z := ClAt.eq h x_InvalidNumber; subst z; exact kit_own ie_InvalidFact1 ie_InvalidFact2 ie_InvalidFact_InvalidNumber (fun y => absurd (Value.ref.inj y) ne_InvalidNumber_InvalidFact)
      · have z := ClAt.eq h x_NothingToUndo; subst z; exact kit_own ie_InvalidFact1 ie_InvalidFact2 ie_InvalidFact_NothingToUndo (fun y => absurd (Value.ref.inj y) ne_NothingToUndo_InvalidFact)
      · have z := ClAt.eq h x_Refused; subst z; exact kit_own ie_InvalidFact1 ie_InvalidFact2 ie_InvalidFact_Refused (fun y => absurd (Value.ref.inj y) ne_Refused_InvalidFact)
      · have z := ClAt.eq h x_TooMany; subst z; exact kit_own ie_InvalidFact1 ie_InvalidFact2 ie_InvalidFact_TooMany (fun y => absurd (Value.ref.inj y) ne_TooMany_InvalidFact)
    mg_InvalidFact := PySem.W.mg_of X G x_InvalidFact
    ie_InvalidRun := isExc_at fun c hc C h => by
      simp only [ESs, List.mem_cons, List.mem_nil_iff, List.not_mem_nil, or_false] at hc
      rcases hc with rfl | rfl | rfl | rfl | rfl | rfl | rfl | rfl | rfl | rfl | rfl | rfl | rfl | rfl | rfl | rfl
      · have z := ClAt.eq h x_AnswerError; subst z; exact kit_own ie_InvalidRun1 ie_InvalidRun2 ie_InvalidRun_AnswerError (fun y => absurd (Value.ref.inj y) ne_AnswerError_InvalidRun)
      · have z := ClAt.eq h x_InvalidProgram; subst z; exact kit_own ie_InvalidRun1 ie_InvalidRun2 ie_InvalidRun_InvalidProgram (fun y => absurd (Value.ref.inj y) ne_InvalidProgram_InvalidRun)
      · have z := ClAt.eq h x_InvalidMode; subst z; exact kit_own ie_InvalidRun1 ie_InvalidRun2 ie_InvalidRun_InvalidMode (fun y => absurd (Value.ref.inj y) ne_InvalidMode_InvalidRun)
      · have z := ClAt.eq h x_InvalidTable; subst z; exact kit_own ie_InvalidRun1 ie_InvalidRun2 ie_InvalidRun_InvalidTable (fun y => absurd (Value.ref.inj y) ne_InvalidTable_InvalidRun)
      · have z := ClAt.eq h x_InvalidRun; subst z; exact kit_own ie_InvalidRun1 ie_InvalidRun2 ie_InvalidRun_InvalidRun (fun _ => rfl)
      · have z := ClAt.eq h x_InvalidFact; subst z; exact kit_own ie_InvalidRun1 ie_InvalidRun2 ie_InvalidRun_InvalidFact (fun y => absurd (Value.ref.inj y) ne_InvalidFact_InvalidRun)
      · have z := ClAt.eq h x_InvalidDerivation; subst z; exact kit_own ie_InvalidRun1 ie_InvalidRun2 ie_InvalidRun_InvalidDerivation (fun y => absurd (Value.ref.inj y) ne_InvalidDerivation_InvalidRun)
      · have z := ClAt.eq h x_InvalidOperation; subst z; exact kit_own ie_InvalidRun1 ie_InvalidRun2 ie_InvalidRun_InvalidOperation (fun y => absurd (Value.ref.inj y) ne_InvalidOperation_InvalidRun)
      · have z := ClAt.eq h x_InvalidCommand; subst z; exact kit_own ie_InvalidRun1 ie_InvalidRun2 ie_InvalidRun_InvalidCommand (fun y => absurd (Value.ref.inj y) ne_InvalidCommand_InvalidRun)
      · have z := ClAt.eq h x_ParseError; subst z; exact kit_own ie_InvalidRun1 ie_InvalidRun2 ie_InvalidRun_ParseError (fun y => absurd (Value.ref.inj y) ne_ParseError_InvalidRun)
      · have z := ClAt.eq h x_UnknownName; subst z; exact kit_own ie_InvalidRun1 ie_InvalidRun2 ie_InvalidRun_UnknownName (fun y => absurd (Value.ref.inj y) ne_UnknownName_InvalidRun)
      · have z := ClAt.eq h x_UnknownSite; subst z; exact kit_own ie_InvalidRun1 ie_InvalidRun2 ie_InvalidRun_UnknownSite (fun y => absurd (Value.ref.inj y) ne_UnknownSite_InvalidRun)
      · have z := ClAt.eq h x_InvalidNumber; subst z; exact kit_own ie_InvalidRun1 ie_InvalidRun2 ie_InvalidRun_InvalidNumber (fun y => absurd (Value.ref.inj y) ne_InvalidNumber_InvalidRun)
      · have z := ClAt.eq h x_NothingToUndo; subst z; exact kit_own ie_InvalidRun1 ie_InvalidRun2 ie_InvalidRun_NothingToUndo (fun y => absurd (Value.ref.inj y) ne_NothingToUndo_InvalidRun)
      · have z := ClAt.eq h x_Refused; subst z; exact kit_own ie_InvalidRun1 ie_InvalidRun2 ie_InvalidRun_Refused (fun y => absurd (Value.ref.inj y) ne_Refused_InvalidRun)
      · have z := ClAt.eq h x_TooMany; subst z; exact kit_own ie_InvalidRun1 ie_InvalidRun2 ie_InvalidRun_TooMany (fun y => absurd (Value.ref.inj y) ne_TooMany_InvalidRun)
    mg_InvalidRun := PySem.W.mg_of X G x_InvalidRun
    ie_InvalidTable := isExc_at fun c hc C h => by
      simp only [ESs, List.mem_cons, List.mem_nil_iff, List.not_mem_nil, or_false] at hc
      rcases hc with rfl | rfl | rfl | rfl | rfl | rfl | rfl | rfl | rfl | rfl | rfl | rfl | rfl | rfl | rfl | rfl
      · have z := ClAt.eq h x_AnswerError; subst z; exact kit_own ie_InvalidTable1 ie_InvalidTable2 ie_InvalidTable_AnswerError (fun y => absurd (Value.ref.inj y) ne_AnswerError_InvalidTable)
      · have z := ClAt.eq h x_InvalidProgram; subst z; exact kit_own ie_InvalidTable1 ie_InvalidTable2 ie_InvalidTable_InvalidProgram (fun y => absurd (Value.ref.inj y) ne_InvalidProgram_InvalidTable)
      · have z := ClAt.eq h x_InvalidMode; subst z; exact kit_own ie_InvalidTable1 ie_InvalidTable2 ie_InvalidTable_InvalidMode (fun y => absurd (Value.ref.inj y) ne_InvalidMode_InvalidTable)
      · have z := ClAt.eq h x_InvalidTable; subst z; exact kit_own ie_InvalidTable1 ie_InvalidTable2 ie_InvalidTable_InvalidTable (fun _ => rfl)
      · have z := ClAt.eq h x_InvalidRun; subst z; exact kit_own ie_InvalidTable1 ie_InvalidTable2 ie_InvalidTable_InvalidRun (fun y => absurd (Value.ref.inj y) ne_InvalidRun_InvalidTable)
      · have z := ClAt.eq h x_InvalidFact; subst z; exact kit_own ie_InvalidTable1 ie_InvalidTable2 ie_InvalidTable_InvalidFact (fun y => absurd (Value.ref.inj y) ne_InvalidFact_InvalidTable)
      · have z := ClAt.eq h x_InvalidDerivation; subst z; exact kit_own ie_InvalidTable1 ie_InvalidTable2 ie_InvalidTable_InvalidDerivation (fun y => absurd (Value.ref.inj y) ne_InvalidDerivation_InvalidTable)
      · have z := ClAt.eq h x_InvalidOperation; subst z; exact kit_own ie_InvalidTable1 ie_InvalidTable2 ie_InvalidTable_InvalidOperation (fun y => absurd (Value.ref.inj y) ne_InvalidOperation_InvalidTable)
      · have z := ClAt.eq h x_InvalidCommand; subst z; exact kit_own ie_InvalidTable1 ie_InvalidTable2 ie_InvalidTable_InvalidCommand (fun y => absurd (Value.ref.inj y) ne_InvalidCommand_InvalidTable)
      · have z := ClAt.eq h x_ParseError; subst z; exact kit_own ie_InvalidTable1 ie_InvalidTable2 ie_InvalidTable_ParseError (fun y => absurd (Value.ref.inj y) ne_ParseError_InvalidTable)
      · have z := ClAt.eq h x_UnknownName; subst z; exact kit_own ie_InvalidTable1 ie_InvalidTable2 ie_InvalidTable_UnknownName (fun y => absurd (Value.ref.inj y) ne_UnknownName_InvalidTable)
      · have z := ClAt.eq h x_UnknownSite; subst z; exact kit_own ie_InvalidTable1 ie_InvalidTable2 ie_InvalidTable_UnknownSite (fun y => absurd (Value.ref.inj y) ne_UnknownSite_InvalidTable)
      · have z := ClAt.eq h x_InvalidNumber; subst z; exact kit_own ie_InvalidTable1 ie_InvalidTable2 ie_InvalidTable_InvalidNumber (fun y => absurd (Value.ref.inj y) ne_InvalidNumber_InvalidTable)
      · have z := ClAt.eq h x_NothingToUndo; subst z; exact kit_own ie_InvalidTable1 ie_InvalidTable2 ie_InvalidTable_NothingToUndo (fun y => absurd (Value.ref.inj y) ne_NothingToUndo_InvalidTable)
      · have z := ClAt.eq h x_Refused; subst z; exact kit_own ie_InvalidTable1 ie_InvalidTable2 ie_InvalidTable_Refused (fun y => absurd (Value.ref.inj y) ne_Refused_InvalidTable)
      · have z := ClAt.eq h x_TooMany; subst z; exact kit_own ie_InvalidTable1 ie_InvalidTable2 ie_InvalidTable_TooMany (fun y => absurd (Value.ref.inj y) ne_TooMany_InvalidTable)
    mg_InvalidTable := PySem.W.mg_of X G x_InvalidTable
    ie_InvalidOperation := isExc_at fun c hc C h => by
      simp only [ESs, List.mem_cons, List.mem_nil_iff, List.not_mem_nil, or_false] at hc
      rcases hc with rfl | rfl | rfl | rfl | rfl | rfl | rfl | rfl | rfl | rfl | rfl | rfl | rfl | rfl | rfl | rfl
      · have z := ClAt.eq h x_AnswerError; subst z; exact kit_own ie_InvalidOperation1 ie_InvalidOperation2 ie_InvalidOperation_AnswerError (fun y => absurd (Value.ref.inj y) ne_AnswerError_InvalidOperation)
      · have z := ClAt.eq h x_InvalidProgram; subst z; exact kit_own ie_InvalidOperation1 ie_InvalidOperation2 ie_InvalidOperation_InvalidProgram (fun y => absurd (Value.ref.inj y) ne_InvalidProgram_InvalidOperation)
      · have z := ClAt.eq h x_InvalidMode; subst z; exact kit_own ie_InvalidOperation1 ie_InvalidOperation2 ie_InvalidOperation_InvalidMode (fun y => absurd (Value.ref.inj y) ne_InvalidMode_InvalidOperation)
      · have z := ClAt.eq h x_InvalidTable; subst z; exact kit_own ie_InvalidOperation1 ie_InvalidOperation2 ie_InvalidOperation_InvalidTable (fun y => absurd (Value.ref.inj y) ne_InvalidTable_InvalidOperation)
      · have z := ClAt.eq h x_InvalidRun; subst z; exact kit_own ie_InvalidOperation1 ie_InvalidOperation2 ie_InvalidOperation_InvalidRun (fun y => absurd (Value.ref.inj y) ne_InvalidRun_InvalidOperation)
      · have z := ClAt.eq h x_InvalidFact; subst z; exact kit_own ie_InvalidOperation1 ie_InvalidOperation2 ie_InvalidOperation_InvalidFact (fun y => absurd (Value.ref.inj y) ne_InvalidFact_InvalidOperation)
      · have z := ClAt.eq h x_InvalidDerivation; subst z; exact kit_own ie_InvalidOperation1 ie_InvalidOperation2 ie_InvalidOperation_InvalidDerivation (fun y => absurd (Value.ref.inj y) ne_InvalidDerivation_InvalidOperation)
      · have z := ClAt.eq h x_InvalidOperation; subst z; exact kit_own ie_InvalidOperation1 ie_InvalidOperation2 ie_InvalidOperation_InvalidOperation (fun _ => rfl)
      · have z := ClAt.eq h x_InvalidCommand; subst z; exact kit_own ie_InvalidOperation1 ie_InvalidOperation2 ie_InvalidOperation_InvalidCommand (fun y => absurd (Value.ref.inj y) ne_InvalidCommand_InvalidOperation)
      · have z := ClAt.eq h x_ParseError; subst z; exact kit_own ie_InvalidOperation1 ie_InvalidOperation2 ie_InvalidOperation_ParseError (fun y => absurd (Value.ref.inj y) ne_ParseError_InvalidOperation)
      · have z := ClAt.eq h x_UnknownName; subst z; exact kit_own ie_InvalidOperation1 ie_InvalidOperation2 ie_InvalidOperation_UnknownName (fun y => absurd (Value.ref.inj y) ne_UnknownName_InvalidOperation)
      · have z := ClAt.eq h x_UnknownSite; subst z; exact kit_own ie_InvalidOperation1 ie_InvalidOperation2 ie_InvalidOperation_UnknownSite (fun y => absurd (Value.ref.inj y) ne_UnknownSite_InvalidOperation)
      · have z := ClAt.eq h x_InvalidNumber; subst z; exact kit_own ie_InvalidOperation1 ie_InvalidOperation2 ie_InvalidOperation_InvalidNumber (fun y => absurd (Value.ref.inj y) ne_InvalidNumber_InvalidOperation)
      · have z := ClAt.eq h x_NothingToUndo; subst z; exact kit_own ie_InvalidOperation1 ie_InvalidOperation2 ie_InvalidOperation_NothingToUndo (fun y => absurd (Value.ref.inj y) ne_NothingToUndo_InvalidOperation)
      · have z := ClAt.eq h x_Refused; subst z; exact kit_own ie_InvalidOperation1 ie_InvalidOperation2 ie_InvalidOperation_Refused (fun y => absurd (Value.ref.inj y) ne_Refused_InvalidOperation)
      · have z := ClAt.eq h x_TooMany; subst z; exact kit_own ie_InvalidOperation1 ie_InvalidOperation2 ie_InvalidOperation_TooMany (fun y => absurd (Value.ref.inj y) ne_TooMany_InvalidOperation)
    mg_InvalidOperation := PySem.W.mg_of X G x_InvalidOperation
    ie_InvalidDerivation := isExc_at fun c hc C h => by
      simp only [ESs, List.mem_cons, List.mem_nil_iff, List.not_mem_nil, or_false] at hc
      rcases hc with rfl | rfl | rfl | rfl | rfl | rfl | rfl | rfl | rfl | rfl | rfl | rfl | rfl | rfl | rfl | rfl
      · have z := ClAt.eq h x_AnswerError; subst z; exact kit_own ie_InvalidDerivation1 ie_InvalidDerivation2 ie_InvalidDerivation_AnswerError (fun y => absurd (Value.ref.inj y) ne_AnswerError_InvalidDerivation)
      · have z := ClAt.eq h x_InvalidProgram; subst z; exact kit_own ie_InvalidDerivation1 ie_InvalidDerivation2 ie_InvalidDerivation_InvalidProgram (fun y => absurd (Value.ref.inj y) ne_InvalidProgram_InvalidDerivation)
      · have z := ClAt.eq h x_InvalidMode; subst z; exact kit_own ie_InvalidDerivation1 ie_InvalidDerivation2 ie_InvalidDerivation_InvalidMode (fun y => absurd (Value.ref.inj y) ne_InvalidMode_InvalidDerivation)
      · have z := ClAt.eq h x_InvalidTable; subst z; exact kit_own ie_InvalidDerivation1 ie_InvalidDerivation2 ie_InvalidDerivation_InvalidTable (fun y => absurd (Value.ref.inj y) ne_InvalidTable_InvalidDerivation)
      · have z := ClAt.eq h x_InvalidRun; subst z; exact kit_own ie_InvalidDerivation1 ie_InvalidDerivation2 ie_InvalidDerivation_InvalidRun (fun y => absurd (Value.ref.inj y) ne_InvalidRun_InvalidDerivation)
      · have z := ClAt.eq h x_InvalidFact; subst z; exact kit_own ie_InvalidDerivation1 ie_InvalidDerivation2 ie_InvalidDerivation_InvalidFact (fun y => absurd (Value.ref.inj y) ne_InvalidFact_InvalidDerivation)
      · have z := ClAt.eq h x_InvalidDerivation; subst z; exact kit_own ie_InvalidDerivation1 ie_InvalidDerivation2 ie_InvalidDerivation_InvalidDerivation (fun _ => rfl)
      · have z := ClAt.eq h x_InvalidOperation; subst z; exact kit_own ie_InvalidDerivation1 ie_InvalidDerivation2 ie_InvalidDerivation_InvalidOperation (fun y => absurd (Value.ref.inj y) ne_InvalidOperation_InvalidDerivation)
      · have z := ClAt.eq h x_InvalidCommand; subst z; exact kit_own ie_InvalidDerivation1 ie_InvalidDerivation2 ie_InvalidDerivation_InvalidCommand (fun y => absurd (Value.ref.inj y) ne_InvalidCommand_InvalidDerivation)
      · have z := ClAt.eq h x_ParseError; subst z; exact kit_own ie_InvalidDerivation1 ie_InvalidDerivation2 ie_InvalidDerivation_ParseError (fun y => absurd (Value.ref.inj y) ne_ParseError_InvalidDerivation)
      · have z := ClAt.eq h x_UnknownName; subst z; exact kit_own ie_InvalidDerivation1 ie_InvalidDerivation2 ie_InvalidDerivation_UnknownName (fun y => absurd (Value.ref.inj y) ne_UnknownName_InvalidDerivation)
      · have z := ClAt.eq h x_UnknownSite; subst z; exact kit_own ie_InvalidDerivation1 ie_InvalidDerivation2 ie_InvalidDerivation_UnknownSite (fun y => absurd (Value.ref.inj y) ne_UnknownSite_InvalidDerivation)
      · have z := ClAt.eq h x_InvalidNumber; subst z; exact kit_own ie_InvalidDerivation1 ie_InvalidDerivation2 ie_InvalidDerivation_InvalidNumber (fun y => absurd (Value.ref.inj y) ne_InvalidNumber_InvalidDerivation)
      · have z := ClAt.eq h x_NothingToUndo; subst z; exact kit_own ie_InvalidDerivation1 ie_InvalidDerivation2 ie_InvalidDerivation_NothingToUndo (fun y => absurd (Value.ref.inj y) ne_NothingToUndo_InvalidDerivation)
      · have z := ClAt.eq h x_Refused; subst z; exact kit_own ie_InvalidDerivation1 ie_InvalidDerivation2 ie_InvalidDerivation_Refused (fun y => absurd (Value.ref.inj y) ne_Refused_InvalidDerivation)
      · have z := ClAt.eq h x_TooMany; subst z; exact kit_own ie_InvalidDerivation1 ie_InvalidDerivation2 ie_InvalidDerivation_TooMany (fun y => absurd (Value.ref.inj y) ne_TooMany_InvalidDerivation)
    mg_InvalidDerivation := PySem.W.mg_of X G x_InvalidDerivation
    ib_ValueError := isExc_at fun c hc C h => by
      simp only [ESs, List.mem_cons, List.mem_nil_iff, List.not_mem_nil, or_false] at hc
      rcases hc with rfl | rfl | rfl | rfl | rfl | rfl | rfl | rfl | rfl | rfl | rfl | rfl | rfl | rfl | rfl | rfl
      · have z := ClAt.eq h x_AnswerError; subst z; exact kit_bi (by decide +kernel) ib_ValueError_AnswerError
      · have z := ClAt.eq h x_InvalidProgram; subst z; exact kit_bi (by decide +kernel) ib_ValueError_InvalidProgram
      · have z := ClAt.eq h x_InvalidMode; subst z; exact kit_bi (by decide +kernel) ib_ValueError_InvalidMode
      · have z := ClAt.eq h x_InvalidTable; subst z; exact kit_bi (by decide +kernel) ib_ValueError_InvalidTable
      · have z := ClAt.eq h x_InvalidRun; subst z; exact kit_bi (by decide +kernel) ib_ValueError_InvalidRun
      · have z := ClAt.eq h x_InvalidFact; subst z; exact kit_bi (by decide +kernel) ib_ValueError_InvalidFact
      · have z := ClAt.eq h x_InvalidDerivation; subst z; exact kit_bi (by decide +kernel) ib_ValueError_InvalidDerivation
      · have z := ClAt.eq h x_InvalidOperation; subst z; exact kit_bi (by decide +kernel) ib_ValueError_InvalidOperation
      · have z := ClAt.eq h x_InvalidCommand; subst z; exact kit_bi (by decide +kernel) ib_ValueError_InvalidCommand
      · have z := ClAt.eq h x_ParseError; subst z; exact kit_bi (by decide +kernel) ib_ValueError_ParseError
      · have z := ClAt.eq h x_UnknownName; subst z; exact kit_bi (by decide +kernel) ib_ValueError_UnknownName
      · have z := ClAt.eq h x_UnknownSite; subst z; exact kit_bi (by decide +kernel) ib_ValueError_UnknownSite
      · have z := ClAt.eq h x_InvalidNumber; subst z; exact kit_bi (by decide +kernel) ib_ValueError_InvalidNumber
      · have z := ClAt.eq h x_NothingToUndo; subst z; exact kit_bi (by decide +kernel) ib_ValueError_NothingToUndo
      · have z := ClAt.eq h x_Refused; subst z; exact kit_bi (by decide +kernel) ib_ValueError_Refused
      · have z := ClAt.eq h x_TooMany; subst z; exact kit_bi (by decide +kernel) ib_ValueError_TooMany
    ie_ParseError := isExc_at fun c hc C h => by
      simp only [ESs, List.mem_cons, List.mem_nil_iff, List.not_mem_nil, or_false] at hc
      rcases hc with rfl | rfl | rfl | rfl | rfl | rfl | rfl | rfl | rfl | rfl | rfl | rfl | rfl | rfl | rfl | rfl
      · have z := ClAt.eq h x_AnswerError; subst z; exact kit_own ie_ParseError1 ie_ParseError2 ie_ParseError_AnswerError (fun y => absurd (Value.ref.inj y) ne_AnswerError_ParseError)
      · have z := ClAt.eq h x_InvalidProgram; subst z; exact kit_own ie_ParseError1 ie_ParseError2 ie_ParseError_InvalidProgram (fun y => absurd (Value.ref.inj y) ne_InvalidProgram_ParseError)
      · have z := ClAt.eq h x_InvalidMode; subst z; exact kit_own ie_ParseError1 ie_ParseError2 ie_ParseError_InvalidMode (fun y => absurd (Value.ref.inj y) ne_InvalidMode_ParseError)
      · have z := ClAt.eq h x_InvalidTable; subst z; exact kit_own ie_ParseError1 ie_ParseError2 ie_ParseError_InvalidTable (fun y => absurd (Value.ref.inj y) ne_InvalidTable_ParseError)
      · have z := ClAt.eq h x_InvalidRun; subst z; exact kit_own ie_ParseError1 ie_ParseError2 ie_ParseError_InvalidRun (fun y => absurd (Value.ref.inj y) ne_InvalidRun_ParseError)
      · have z := ClAt.eq h x_InvalidFact; subst z; exact kit_own ie_ParseError1 ie_ParseError2 ie_ParseError_InvalidFact (fun y => absurd (Value.ref.inj y) ne_InvalidFact_ParseError)
      · have z := ClAt.eq h x_InvalidDerivation; subst z; exact kit_own ie_ParseError1 ie_ParseError2 ie_ParseError_InvalidDerivation (fun y => absurd (Value.ref.inj y) ne_InvalidDerivation_ParseError)
      · have z := ClAt.eq h x_InvalidOperation; subst z; exact kit_own ie_ParseError1 ie_ParseError2 ie_ParseError_InvalidOperation (fun y => absurd (Value.ref.inj y) ne_InvalidOperation_ParseError)
      · have z := ClAt.eq h x_InvalidCommand; subst z; exact kit_own ie_ParseError1 ie_ParseError2 ie_ParseError_InvalidCommand (fun y => absurd (Value.ref.inj y) ne_InvalidCommand_ParseError)
      · have z := ClAt.eq h x_ParseError; subst z; exact kit_own ie_ParseError1 ie_ParseError2 ie_ParseError_ParseError (fun _ => rfl)
      · have z := ClAt.eq h x_UnknownName; subst z; exact kit_own ie_ParseError1 ie_ParseError2 ie_ParseError_UnknownName (fun y => absurd (Value.ref.inj y) ne_UnknownName_ParseError)
      · have z := ClAt.eq h x_UnknownSite; subst z; exact kit_own ie_ParseError1 ie_ParseError2 ie_ParseError_UnknownSite (fun y => absurd (Value.ref.inj y) ne_UnknownSite_ParseError)
      · have z := ClAt.eq h x_InvalidNumber; subst z; exact kit_own ie_ParseError1 ie_ParseError2 ie_ParseError_InvalidNumber (fun y => absurd (Value.ref.inj y) ne_InvalidNumber_ParseError)
      · have z := ClAt.eq h x_NothingToUndo; subst z; exact kit_own ie_ParseError1 ie_ParseError2 ie_ParseError_NothingToUndo (fun y => absurd (Value.ref.inj y) ne_NothingToUndo_ParseError)
      · have z := ClAt.eq h x_Refused; subst z; exact kit_own ie_ParseError1 ie_ParseError2 ie_ParseError_Refused (fun y => absurd (Value.ref.inj y) ne_Refused_ParseError)
      · have z := ClAt.eq h x_TooMany; subst z; exact kit_own ie_ParseError1 ie_ParseError2 ie_ParseError_TooMany (fun y => absurd (Value.ref.inj y) ne_TooMany_ParseError)
    mg_ParseError := PySem.W.mg_of X G x_ParseError
    ie_InvalidCommand := isExc_at fun c hc C h => by
      simp only [ESs, List.mem_cons, List.mem_nil_iff, List.not_mem_nil, or_false] at hc
      rcases hc with rfl | rfl | rfl | rfl | rfl | rfl | rfl | rfl | rfl | rfl | rfl | rfl | rfl | rfl | rfl | rfl
      · have z := ClAt.eq h x_AnswerError; subst z; exact kit_own ie_InvalidCommand1 ie_InvalidCommand2 ie_InvalidCommand_AnswerError (fun y => absurd (Value.ref.inj y) ne_AnswerError_InvalidCommand)
      · have z := ClAt.eq h x_InvalidProgram; subst z; exact kit_own ie_InvalidCommand1 ie_InvalidCommand2 ie_InvalidCommand_InvalidProgram (fun y => absurd (Value.ref.inj y) ne_InvalidProgram_InvalidCommand)
      · have z := ClAt.eq h x_InvalidMode; subst z; exact kit_own ie_InvalidCommand1 ie_InvalidCommand2 ie_InvalidCommand_InvalidMode (fun y => absurd (Value.ref.inj y) ne_InvalidMode_InvalidCommand)
      · have z := ClAt.eq h x_InvalidTable; subst z; exact kit_own ie_InvalidCommand1 ie_InvalidCommand2 ie_InvalidCommand_InvalidTable (fun y => absurd (Value.ref.inj y) ne_InvalidTable_InvalidCommand)
      · have z := ClAt.eq h x_InvalidRun; subst z; exact kit_own ie_InvalidCommand1 ie_InvalidCommand2 ie_InvalidCommand_InvalidRun (fun y => absurd (Value.ref.inj y) ne_InvalidRun_InvalidCommand)
      · have z := ClAt.eq h x_InvalidFact; subst z; exact kit_own ie_InvalidCommand1 ie_InvalidCommand2 ie_InvalidCommand_InvalidFact (fun y => absurd (Value.ref.inj y) ne_InvalidFact_InvalidCommand)
      · have z := ClAt.eq h x_InvalidDerivation; subst z; exact kit_own ie_InvalidCommand1 ie_InvalidCommand2 ie_InvalidCommand_InvalidDerivation (fun y => absurd (Value.ref.inj y) ne_InvalidDerivation_InvalidCommand)
      · have z := ClAt.eq h x_InvalidOperation; subst z; exact kit_own ie_InvalidCommand1 ie_InvalidCommand2 ie_InvalidCommand_InvalidOperation (fun y => absurd (Value.ref.inj y) ne_InvalidOperation_InvalidCommand)
      · have z := ClAt.eq h x_InvalidCommand; subst z; exact kit_own ie_InvalidCommand1 ie_InvalidCommand2 ie_InvalidCommand_InvalidCommand (fun _ => rfl)
      · have z := ClAt.eq h x_ParseError; subst z; exact kit_own ie_InvalidCommand1 ie_InvalidCommand2 ie_InvalidCommand_ParseError (fun y => absurd (Value.ref.inj y) ne_ParseError_InvalidCommand)
      · have z := ClAt.eq h x_UnknownName; subst z; exact kit_own ie_InvalidCommand1 ie_InvalidCommand2 ie_InvalidCommand_UnknownName (fun y => absurd (Value.ref.inj y) ne_UnknownName_InvalidCommand)
      · have z := ClAt.eq h x_UnknownSite; subst z; exact kit_own ie_InvalidCommand1 ie_InvalidCommand2 ie_InvalidCommand_UnknownSite (fun y => absurd (Value.ref.inj y) ne_UnknownSite_InvalidCommand)
      · have z := ClAt.eq h x_InvalidNumber; subst z; exact kit_own ie_InvalidCommand1 ie_InvalidCommand2 ie_InvalidCommand_InvalidNumber (fun y => absurd (Value.ref.inj y) ne_InvalidNumber_InvalidCommand)
      · have z := ClAt.eq h x_NothingToUndo; subst z; exact kit_own ie_InvalidCommand1 ie_InvalidCommand2 ie_InvalidCommand_NothingToUndo (fun y => absurd (Value.ref.inj y) ne_NothingToUndo_InvalidCommand)
      · have z := ClAt.eq h x_Refused; subst z; exact kit_own ie_InvalidCommand1 ie_InvalidCommand2 ie_InvalidCommand_Refused (fun y => absurd (Value.ref.inj y) ne_Refused_InvalidCommand)
      · have z := ClAt.eq h x_TooMany; subst z; exact kit_own ie_InvalidCommand1 ie_InvalidCommand2 ie_InvalidCommand_TooMany (fun y => absurd (Value.ref.inj y) ne_TooMany_InvalidCommand)
    mg_InvalidCommand := PySem.W.mg_of X G x_InvalidCommand
    ie_InvalidNumber := isExc_at fun c hc C h => by
      simp only [ESs, List.mem_cons, List.mem_nil_iff, List.not_mem_nil, or_false] at hc
      rcases hc with rfl | rfl | rfl | rfl | rfl | rfl | rfl | rfl | rfl | rfl | rfl | rfl | rfl | rfl | rfl | rfl
      · have z := ClAt.eq h x_AnswerError; subst z; exact kit_own ie_InvalidNumber1 ie_InvalidNumber2 ie_InvalidNumber_AnswerError (fun y => absurd (Value.ref.inj y) ne_AnswerError_InvalidNumber)
      · have z := ClAt.eq h x_InvalidProgram; subst z; exact kit_own ie_InvalidNumber1 ie_InvalidNumber2 ie_InvalidNumber_InvalidProgram (fun y => absurd (Value.ref.inj y) ne_InvalidProgram_InvalidNumber)
      · have z := ClAt.eq h x_InvalidMode; subst z; exact kit_own ie_InvalidNumber1 ie_InvalidNumber2 ie_InvalidNumber_InvalidMode (fun y => absurd (Value.ref.inj y) ne_InvalidMode_InvalidNumber)
      · have z := ClAt.eq h x_InvalidTable; subst z; exact kit_own ie_InvalidNumber1 ie_InvalidNumber2 ie_InvalidNumber_InvalidTable (fun y => absurd (Value.ref.inj y) ne_InvalidTable_InvalidNumber)
      · have z := ClAt.eq h x_InvalidRun; subst z; exact kit_own ie_InvalidNumber1 ie_InvalidNumber2 ie_InvalidNumber_InvalidRun (fun y => absurd (Value.ref.inj y) ne_InvalidRun_InvalidNumber)
      · have z := ClAt.eq h x_InvalidFact; subst z; exact kit_own ie_InvalidNumber1 ie_InvalidNumber2 ie_InvalidNumber_InvalidFact (fun y => absurd (Value.ref.inj y) ne_InvalidFact_InvalidNumber)
      · have z := ClAt.eq h x_InvalidDerivation; subst z; exact kit_own ie_InvalidNumber1 ie_InvalidNumber2 ie_InvalidNumber_InvalidDerivation (fun y => absurd (Value.ref.inj y) ne_InvalidDerivation_InvalidNumber)
      · have z := ClAt.eq h x_InvalidOperation; subst z; exact kit_own ie_InvalidNumber1 ie_InvalidNumber2 ie_InvalidNumber_InvalidOperation (fun y => absurd (Value.ref.inj y) ne_InvalidOperation_InvalidNumber)
      · have z := ClAt.eq h x_InvalidCommand; subst z; exact kit_own ie_InvalidNumber1 ie_InvalidNumber2 ie_InvalidNumber_InvalidCommand (fun y => absurd (Value.ref.inj y) ne_InvalidCommand_InvalidNumber)
      · have z := ClAt.eq h x_ParseError; subst z; exact kit_own ie_InvalidNumber1 ie_InvalidNumber2 ie_InvalidNumber_ParseError (fun y => absurd (Value.ref.inj y) ne_ParseError_InvalidNumber)
      · have z := ClAt.eq h x_UnknownName; subst z; exact kit_own ie_InvalidNumber1 ie_InvalidNumber2 ie_InvalidNumber_UnknownName (fun y => absurd (Value.ref.inj y) ne_UnknownName_InvalidNumber)
      · have z := ClAt.eq h x_UnknownSite; subst z; exact kit_own ie_InvalidNumber1 ie_InvalidNumber2 ie_InvalidNumber_UnknownSite (fun y => absurd (Value.ref.inj y) ne_UnknownSite_InvalidNumber)
      · have z := ClAt.eq h x_InvalidNumber; subst z; exact kit_own ie_InvalidNumber1 ie_InvalidNumber2 ie_InvalidNumber_InvalidNumber (fun _ => rfl)
      · have z := ClAt.eq h x_NothingToUndo; subst z; exact kit_own ie_InvalidNumber1 ie_InvalidNumber2 ie_InvalidNumber_NothingToUndo (fun y => absurd (Value.ref.inj y) ne_NothingToUndo_InvalidNumber)
      · have z := ClAt.eq h x_Refused; subst z; exact kit_own ie_InvalidNumber1 ie_InvalidNumber2 ie_InvalidNumber_Refused (fun y => absurd (Value.ref.inj y) ne_Refused_InvalidNumber)
      · have z := ClAt.eq h x_TooMany; subst z; exact kit_own ie_InvalidNumber1 ie_InvalidNumber2 ie_InvalidNumber_TooMany (fun y => absurd (Value.ref.inj y) ne_TooMany_InvalidNumber)
    mg_InvalidNumber := PySem.W.mg_of X G x_InvalidNumber
    ie_UnknownSite := isExc_at fun c hc C h => by
      simp only [ESs, List.mem_cons, List.mem_nil_iff, List.not_mem_nil, or_false] at hc
      rcases hc with rfl | rfl | rfl | rfl | rfl | rfl | rfl | rfl | rfl | rfl | rfl | rfl | rfl | rfl | rfl | rfl
      · have z := ClAt.eq h x_AnswerError; subst z; exact kit_own ie_UnknownSite1 ie_UnknownSite2 ie_UnknownSite_AnswerError (fun y => absurd (Value.ref.inj y) ne_AnswerError_UnknownSite)
      · have z := ClAt.eq h x_InvalidProgram; subst z; exact kit_own ie_UnknownSite1 ie_UnknownSite2 ie_UnknownSite_InvalidProgram (fun y => absurd (Value.ref.inj y) ne_InvalidProgram_UnknownSite)
      · have z := ClAt.eq h x_InvalidMode; subst z; exact kit_own ie_UnknownSite1 ie_UnknownSite2 ie_UnknownSite_InvalidMode (fun y => absurd (Value.ref.inj y) ne_InvalidMode_UnknownSite)
      · have z := ClAt.eq h x_InvalidTable; subst z; exact kit_own ie_UnknownSite1 ie_UnknownSite2 ie_UnknownSite_InvalidTable (fun y => absurd (Value.ref.inj y) ne_InvalidTable_UnknownSite)
      · have z := ClAt.eq h x_InvalidRun; subst z; exact kit_own ie_UnknownSite1 ie_UnknownSite2 ie_UnknownSite_InvalidRun (fun y => absurd (Value.ref.inj y) ne_InvalidRun_UnknownSite)
      · have z := ClAt.eq h x_InvalidFact; subst z; exact kit_own ie_UnknownSite1 ie_UnknownSite2 ie_UnknownSite_InvalidFact (fun y => absurd (Value.ref.inj y) ne_InvalidFact_UnknownSite)
      · have z := ClAt.eq h x_InvalidDerivation; subst z; exact kit_own ie_UnknownSite1 ie_UnknownSite2 ie_UnknownSite_InvalidDerivation (fun y => absurd (Value.ref.inj y) ne_InvalidDerivation_UnknownSite)
      · have z := ClAt.eq h x_InvalidOperation; subst z; exact kit_own ie_UnknownSite1 ie_UnknownSite2 ie_UnknownSite_InvalidOperation (fun y => absurd (Value.ref.inj y) ne_InvalidOperation_UnknownSite)
      · have z := ClAt.eq h x_InvalidCommand; subst z; exact kit_own ie_UnknownSite1 ie_UnknownSite2 ie_UnknownSite_InvalidCommand (fun y => absurd (Value.ref.inj y) ne_InvalidCommand_UnknownSite)
      · have z := ClAt.eq h x_ParseError; subst z; exact kit_own ie_UnknownSite1 ie_UnknownSite2 ie_UnknownSite_ParseError (fun y => absurd (Value.ref.inj y) ne_ParseError_UnknownSite)
      · have z := ClAt.eq h x_UnknownName; subst z; exact kit_own ie_UnknownSite1 ie_UnknownSite2 ie_UnknownSite_UnknownName (fun y => absurd (Value.ref.inj y) ne_UnknownName_UnknownSite)
      · have z := ClAt.eq h x_UnknownSite; subst z; exact kit_own ie_UnknownSite1 ie_UnknownSite2 ie_UnknownSite_UnknownSite (fun _ => rfl)
      · have z := ClAt.eq h x_InvalidNumber; subst z; exact kit_own ie_UnknownSite1 ie_UnknownSite2 ie_UnknownSite_InvalidNumber (fun y => absurd (Value.ref.inj y) ne_InvalidNumber_UnknownSite)
      · have z := ClAt.eq h x_NothingToUndo; subst z; exact kit_own ie_UnknownSite1 ie_UnknownSite2 ie_UnknownSite_NothingToUndo (fun y => absurd (Value.ref.inj y) ne_NothingToUndo_UnknownSite)
      · have z := ClAt.eq h x_Refused; subst z; exact kit_own ie_UnknownSite1 ie_UnknownSite2 ie_UnknownSite_Refused (fun y => absurd (Value.ref.inj y) ne_Refused_UnknownSite)
      · have z := ClAt.eq h x_TooMany; subst z; exact kit_own ie_UnknownSite1 ie_UnknownSite2 ie_UnknownSite_TooMany (fun y => absurd (Value.ref.inj y) ne_TooMany_UnknownSite)
    mg_UnknownSite := PySem.W.mg_of X G x_UnknownSite
    ie_UnknownName := isExc_at fun c hc C h => by
      simp only [ESs, List.mem_cons, List.mem_nil_iff, List.not_mem_nil, or_false] at hc
      rcases hc with rfl | rfl | rfl | rfl | rfl | rfl | rfl | rfl | rfl | rfl | rfl | rfl | rfl | rfl | rfl | rfl
      · have z := ClAt.eq h x_AnswerError; subst z; exact kit_own ie_UnknownName1 ie_UnknownName2 ie_UnknownName_AnswerError (fun y => absurd (Value.ref.inj y) ne_AnswerError_UnknownName)
      · have z := ClAt.eq h x_InvalidProgram; subst z; exact kit_own ie_UnknownName1 ie_UnknownName2 ie_UnknownName_InvalidProgram (fun y => absurd (Value.ref.inj y) ne_InvalidProgram_UnknownName)
      · have z := ClAt.eq h x_InvalidMode; subst z; exact kit_own ie_UnknownName1 ie_UnknownName2 ie_UnknownName_InvalidMode (fun y => absurd (Value.ref.inj y) ne_InvalidMode_UnknownName)
      · have z := ClAt.eq h x_InvalidTable; subst z; exact kit_own ie_UnknownName1 ie_UnknownName2 ie_UnknownName_InvalidTable (fun y => absurd (Value.ref.inj y) ne_InvalidTable_UnknownName)
      · have z := ClAt.eq h x_InvalidRun; subst z; exact kit_own ie_UnknownName1 ie_UnknownName2 ie_UnknownName_InvalidRun (fun y => absurd (Value.ref.inj y) ne_InvalidRun_UnknownName)
      · have z := ClAt.eq h x_InvalidFact; subst z; exact kit_own ie_UnknownName1 ie_UnknownName2 ie_UnknownName_InvalidFact (fun y => absurd (Value.ref.inj y) ne_InvalidFact_UnknownName)
      · have z := ClAt.eq h x_InvalidDerivation; subst z; exact kit_own ie_UnknownName1 ie_UnknownName2 ie_UnknownName_InvalidDerivation (fun y => absurd (Value.ref.inj y) ne_InvalidDerivation_UnknownName)
      · have z := ClAt.eq h x_InvalidOperation; subst z; exact kit_own ie_UnknownName1 ie_UnknownName2 ie_UnknownName_InvalidOperation (fun y => absurd (Value.ref.inj y) ne_InvalidOperation_UnknownName)
      · have z := ClAt.eq h x_InvalidCommand; subst z; exact kit_own ie_UnknownName1 ie_UnknownName2 ie_UnknownName_InvalidCommand (fun y => absurd (Value.ref.inj y) ne_InvalidCommand_UnknownName)
      · have z := ClAt.eq h x_ParseError; subst z; exact kit_own ie_UnknownName1 ie_UnknownName2 ie_UnknownName_ParseError (fun y => absurd (Value.ref.inj y) ne_ParseError_UnknownName)
      · have z := ClAt.eq h x_UnknownName; subst z; exact kit_own ie_UnknownName1 ie_UnknownName2 ie_UnknownName_UnknownName (fun _ => rfl)
      · have z := ClAt.eq h x_UnknownSite; subst z; exact kit_own ie_UnknownName1 ie_UnknownName2 ie_UnknownName_UnknownSite (fun y => absurd (Value.ref.inj y) ne_UnknownSite_UnknownName)
      · have z := ClAt.eq h x_InvalidNumber; subst z; exact kit_own ie_UnknownName1 ie_UnknownName2 ie_UnknownName_InvalidNumber (fun y => absurd (Value.ref.inj y) ne_InvalidNumber_UnknownName)
      · have z := ClAt.eq h x_NothingToUndo; subst z; exact kit_own ie_UnknownName1 ie_UnknownName2 ie_UnknownName_NothingToUndo (fun y => absurd (Value.ref.inj y) ne_NothingToUndo_UnknownName)
      · have z := ClAt.eq h x_Refused; subst z; exact kit_own ie_UnknownName1 ie_UnknownName2 ie_UnknownName_Refused (fun y => absurd (Value.ref.inj y) ne_Refused_UnknownName)
      · have z := ClAt.eq h x_TooMany; subst z; exact kit_own ie_UnknownName1 ie_UnknownName2 ie_UnknownName_TooMany (fun y => absurd (Value.ref.inj y) ne_TooMany_UnknownName)
    mg_UnknownName := PySem.W.mg_of X G x_UnknownName
    ie_TooMany := isExc_at fun c hc C h => by
      simp only [ESs, List.mem_cons, List.mem_nil_iff, List.not_mem_nil, or_false] at hc
      rcases hc with rfl | rfl | rfl | rfl | rfl | rfl | rfl | rfl | rfl | rfl | rfl | rfl | rfl | rfl | rfl | rfl
      · have z := ClAt.eq h x_AnswerError; subst z; exact kit_own ie_TooMany1 ie_TooMany2 ie_TooMany_AnswerError (fun y => absurd (Value.ref.inj y) ne_AnswerError_TooMany)
      · have z := ClAt.eq h x_InvalidProgram; subst z; exact kit_own ie_TooMany1 ie_TooMany2 ie_TooMany_InvalidProgram (fun y => absurd (Value.ref.inj y) ne_InvalidProgram_TooMany)
      · have z := ClAt.eq h x_InvalidMode; subst z; exact kit_own ie_TooMany1 ie_TooMany2 ie_TooMany_InvalidMode (fun y => absurd (Value.ref.inj y) ne_InvalidMode_TooMany)
      · have z := ClAt.eq h x_InvalidTable; subst z; exact kit_own ie_TooMany1 ie_TooMany2 ie_TooMany_InvalidTable (fun y => absurd (Value.ref.inj y) ne_InvalidTable_TooMany)
      · have z := ClAt.eq h x_InvalidRun; subst z; exact kit_own ie_TooMany1 ie_TooMany2 ie_TooMany_InvalidRun (fun y => absurd (Value.ref.inj y) ne_InvalidRun_TooMany)
      · have z := ClAt.eq h x_InvalidFact; subst z; exact kit_own ie_TooMany1 ie_TooMany2 ie_TooMany_InvalidFact (fun y => absurd (Value.ref.inj y) ne_InvalidFact_TooMany)
      · have z := ClAt.eq h x_InvalidDerivation; subst z; exact kit_own ie_TooMany1 ie_TooMany2 ie_TooMany_InvalidDerivation (fun y => absurd (Value.ref.inj y) ne_InvalidDerivation_TooMany)
      · have z := ClAt.eq h x_InvalidOperation; subst z; exact kit_own ie_TooMany1 ie_TooMany2 ie_TooMany_InvalidOperation (fun y => absurd (Value.ref.inj y) ne_InvalidOperation_TooMany)
      · have z := ClAt.eq h x_InvalidCommand; subst z; exact kit_own ie_TooMany1 ie_TooMany2 ie_TooMany_InvalidCommand (fun y => absurd (Value.ref.inj y) ne_InvalidCommand_TooMany)
      · have z := ClAt.eq h x_ParseError; subst z; exact kit_own ie_TooMany1 ie_TooMany2 ie_TooMany_ParseError (fun y => absurd (Value.ref.inj y) ne_ParseError_TooMany)
      · have z := ClAt.eq h x_UnknownName; subst z; exact kit_own ie_TooMany1 ie_TooMany2 ie_TooMany_UnknownName (fun y => absurd (Value.ref.inj y) ne_UnknownName_TooMany)
      · have z := ClAt.eq h x_UnknownSite; subst z; exact kit_own ie_TooMany1 ie_TooMany2 ie_TooMany_UnknownSite (fun y => absurd (Value.ref.inj y) ne_UnknownSite_TooMany)
      · have z := ClAt.eq h x_InvalidNumber; subst z; exact kit_own ie_TooMany1 ie_TooMany2 ie_TooMany_InvalidNumber (fun y => absurd (Value.ref.inj y) ne_InvalidNumber_TooMany)
      · have z := ClAt.eq h x_NothingToUndo; subst z; exact kit_own ie_TooMany1 ie_TooMany2 ie_TooMany_NothingToUndo (fun y => absurd (Value.ref.inj y) ne_NothingToUndo_TooMany)
      · have z := ClAt.eq h x_Refused; subst z; exact kit_own ie_TooMany1 ie_TooMany2 ie_TooMany_Refused (fun y => absurd (Value.ref.inj y) ne_Refused_TooMany)
      · have z := ClAt.eq h x_TooMany; subst z; exact kit_own ie_TooMany1 ie_TooMany2 ie_TooMany_TooMany (fun _ => rfl)
    mg_TooMany := PySem.W.mg_of X G x_TooMany
    ie_Refused := isExc_at fun c hc C h => by
      simp only [ESs, List.mem_cons, List.mem_nil_iff, List.not_mem_nil, or_false] at hc
      rcases hc with rfl | rfl | rfl | rfl | rfl | rfl | rfl | rfl | rfl | rfl | rfl | rfl | rfl | rfl | rfl | rfl
      · have z := ClAt.eq h x_AnswerError; subst z; exact kit_own ie_Refused1 ie_Refused2 ie_Refused_AnswerError (fun y => absurd (Value.ref.inj y) ne_AnswerError_Refused)
      · have z := ClAt.eq h x_InvalidProgram; subst z; exact kit_own ie_Refused1 ie_Refused2 ie_Refused_InvalidProgram (fun y => absurd (Value.ref.inj y) ne_InvalidProgram_Refused)
      · have z := ClAt.eq h x_InvalidMode; subst z; exact kit_own ie_Refused1 ie_Refused2 ie_Refused_InvalidMode (fun y => absurd (Value.ref.inj y) ne_InvalidMode_Refused)
      · have z := ClAt.eq h x_InvalidTable; subst z; exact kit_own ie_Refused1 ie_Refused2 ie_Refused_InvalidTable (fun y => absurd (Value.ref.inj y) ne_InvalidTable_Refused)
      · have z := ClAt.eq h x_InvalidRun; subst z; exact kit_own ie_Refused1 ie_Refused2 ie_Refused_InvalidRun (fun y => absurd (Value.ref.inj y) ne_InvalidRun_Refused)
      · have z := ClAt.eq h x_InvalidFact; subst z; exact kit_own ie_Refused1 ie_Refused2 ie_Refused_InvalidFact (fun y => absurd (Value.ref.inj y) ne_InvalidFact_Refused)
      · have z := ClAt.eq h x_InvalidDerivation; subst z; exact kit_own ie_Refused1 ie_Refused2 ie_Refused_InvalidDerivation (fun y => absurd (Value.ref.inj y) ne_InvalidDerivation_Refused)
      · have z := ClAt.eq h x_InvalidOperation; subst z; exact kit_own ie_Refused1 ie_Refused2 ie_Refused_InvalidOperation (fun y => absurd (Value.ref.inj y) ne_InvalidOperation_Refused)
      · have z := ClAt.eq h x_InvalidCommand; subst z; exact kit_own ie_Refused1 ie_Refused2 ie_Refused_InvalidCommand (fun y => absurd (Value.ref.inj y) ne_InvalidCommand_Refused)
      · have z := ClAt.eq h x_ParseError; subst z; exact kit_own ie_Refused1 ie_Refused2 ie_Refused_ParseError (fun y => absurd (Value.ref.inj y) ne_ParseError_Refused)
      · have z := ClAt.eq h x_UnknownName; subst z; exact kit_own ie_Refused1 ie_Refused2 ie_Refused_UnknownName (fun y => absurd (Value.ref.inj y) ne_UnknownName_Refused)
      · have z := ClAt.eq h x_UnknownSite; subst z; exact kit_own ie_Refused1 ie_Refused2 ie_Refused_UnknownSite (fun y => absurd (Value.ref.inj y) ne_UnknownSite_Refused)
      · have z := ClAt.eq h x_InvalidNumber; subst z; exact kit_own ie_Refused1 ie_Refused2 ie_Refused_InvalidNumber (fun y => absurd (Value.ref.inj y) ne_InvalidNumber_Refused)
      · have z := ClAt.eq h x_NothingToUndo; subst z; exact kit_own ie_Refused1 ie_Refused2 ie_Refused_NothingToUndo (fun y => absurd (Value.ref.inj y) ne_NothingToUndo_Refused)
      · have z := ClAt.eq h x_Refused; subst z; exact kit_own ie_Refused1 ie_Refused2 ie_Refused_Refused (fun _ => rfl)
      · have z := ClAt.eq h x_TooMany; subst z; exact kit_own ie_Refused1 ie_Refused2 ie_Refused_TooMany (fun y => absurd (Value.ref.inj y) ne_TooMany_Refused)
    mg_Refused := PySem.W.mg_of X G x_Refused
    ie_NothingToUndo := isExc_at fun c hc C h => by
      simp only [ESs, List.mem_cons, List.mem_nil_iff, List.not_mem_nil, or_false] at hc
      rcases hc with rfl | rfl | rfl | rfl | rfl | rfl | rfl | rfl | rfl | rfl | rfl | rfl | rfl | rfl | rfl | rfl
      · have z := ClAt.eq h x_AnswerError; subst z; exact kit_own ie_NothingToUndo1 ie_NothingToUndo2 ie_NothingToUndo_AnswerError (fun y => absurd (Value.ref.inj y) ne_AnswerError_NothingToUndo)
      · have z := ClAt.eq h x_InvalidProgram; subst z; exact kit_own ie_NothingToUndo1 ie_NothingToUndo2 ie_NothingToUndo_InvalidProgram (fun y => absurd (Value.ref.inj y) ne_InvalidProgram_NothingToUndo)
      · have z := ClAt.eq h x_InvalidMode; subst z; exact kit_own ie_NothingToUndo1 ie_NothingToUndo2 ie_NothingToUndo_InvalidMode (fun y => absurd (Value.ref.inj y) ne_InvalidMode_NothingToUndo)
      · have z := ClAt.eq h x_InvalidTable; subst z; exact kit_own ie_NothingToUndo1 ie_NothingToUndo2 ie_NothingToUndo_InvalidTable (fun y => absurd (Value.ref.inj y) ne_InvalidTable_NothingToUndo)
      · have z := ClAt.eq h x_InvalidRun; subst z; exact kit_own ie_NothingToUndo1 ie_NothingToUndo2 ie_NothingToUndo_InvalidRun (fun y => absurd (Value.ref.inj y) ne_InvalidRun_NothingToUndo)
      · have z := ClAt.eq h x_InvalidFact; subst z; exact kit_own ie_NothingToUndo1 ie_NothingToUndo2 ie_NothingToUndo_InvalidFact (fun y => absurd (Value.ref.inj y) ne_InvalidFact_NothingToUndo)
      · have z := ClAt.eq h x_InvalidDerivation; subst z; exact kit_own ie_NothingToUndo1 ie_NothingToUndo2 ie_NothingToUndo_InvalidDerivation (fun y => absurd (Value.ref.inj y) ne_InvalidDerivation_NothingToUndo)
      · have z := ClAt.eq h x_InvalidOperation; subst z; exact kit_own ie_NothingToUndo1 ie_NothingToUndo2 ie_NothingToUndo_InvalidOperation (fun y => absurd (Value.ref.inj y) ne_InvalidOperation_NothingToUndo)
      · have z := ClAt.eq h x_InvalidCommand; subst z; exact kit_own ie_NothingToUndo1 ie_NothingToUndo2 ie_NothingToUndo_InvalidCommand (fun y => absurd (Value.ref.inj y) ne_InvalidCommand_NothingToUndo)
      · have z := ClAt.eq h x_ParseError; subst z; exact kit_own ie_NothingToUndo1 ie_NothingToUndo2 ie_NothingToUndo_ParseError (fun y => absurd (Value.ref.inj y) ne_ParseError_NothingToUndo)
      · have z := ClAt.eq h x_UnknownName; subst z; exact kit_own ie_NothingToUndo1 ie_NothingToUndo2 ie_NothingToUndo_UnknownName (fun y => absurd (Value.ref.inj y) ne_UnknownName_NothingToUndo)
      · have z := ClAt.eq h x_UnknownSite; subst z; exact kit_own ie_NothingToUndo1 ie_NothingToUndo2 ie_NothingToUndo_UnknownSite (fun y => absurd (Value.ref.inj y) ne_UnknownSite_NothingToUndo)
      · have z := ClAt.eq h x_InvalidNumber; subst z; exact kit_own ie_NothingToUndo1 ie_NothingToUndo2 ie_NothingToUndo_InvalidNumber (fun y => absurd (Value.ref.inj y) ne_InvalidNumber_NothingToUndo)
      · have z := ClAt.eq h x_NothingToUndo; subst z; exact kit_own ie_NothingToUndo1 ie_NothingToUndo2 ie_NothingToUndo_NothingToUndo (fun _ => rfl)
      · have z := ClAt.eq h x_Refused; subst z; exact kit_own ie_NothingToUndo1 ie_NothingToUndo2 ie_NothingToUndo_Refused (fun y => absurd (Value.ref.inj y) ne_Refused_NothingToUndo)
      · have z := ClAt.eq h x_TooMany; subst z; exact kit_own ie_NothingToUndo1 ie_NothingToUndo2 ie_NothingToUndo_TooMany (fun y => absurd (Value.ref.inj y) ne_TooMany_NothingToUndo)
    mg_NothingToUndo := PySem.W.mg_of X G x_NothingToUndo
    ib_LookupError := isExc_at fun c hc C h => by
      simp only [ESs, List.mem_cons, List.mem_nil_iff, List.not_mem_nil, or_false] at hc
      rcases hc with rfl | rfl | rfl | rfl | rfl | rfl | rfl | rfl | rfl | rfl | rfl | rfl | rfl | rfl | rfl | rfl
      · have z := ClAt.eq h x_AnswerError; subst z; exact kit_bi (by decide +kernel) ib_LookupError_AnswerError
      · have z := ClAt.eq h x_InvalidProgram; subst z; exact kit_bi (by decide +kernel) ib_LookupError_InvalidProgram
      · have z := ClAt.eq h x_InvalidMode; subst z; exact kit_bi (by decide +kernel) ib_LookupError_InvalidMode
      · have z := ClAt.eq h x_InvalidTable; subst z; exact kit_bi (by decide +kernel) ib_LookupError_InvalidTable
      · have z := ClAt.eq h x_InvalidRun; subst z; exact kit_bi (by decide +kernel) ib_LookupError_InvalidRun
      · have z := ClAt.eq h x_InvalidFact; subst z; exact kit_bi (by decide +kernel) ib_LookupError_InvalidFact
      · have z := ClAt.eq h x_InvalidDerivation; subst z; exact kit_bi (by decide +kernel) ib_LookupError_InvalidDerivation
      · have z := ClAt.eq h x_InvalidOperation; subst z; exact kit_bi (by decide +kernel) ib_LookupError_InvalidOperation
      · have z := ClAt.eq h x_InvalidCommand; subst z; exact kit_bi (by decide +kernel) ib_LookupError_InvalidCommand
      · have z := ClAt.eq h x_ParseError; subst z; exact kit_bi (by decide +kernel) ib_LookupError_ParseError
      · have z := ClAt.eq h x_UnknownName; subst z; exact kit_bi (by decide +kernel) ib_LookupError_UnknownName
      · have z := ClAt.eq h x_UnknownSite; subst z; exact kit_bi (by decide +kernel) ib_LookupError_UnknownSite
      · have z := ClAt.eq h x_InvalidNumber; subst z; exact kit_bi (by decide +kernel) ib_LookupError_InvalidNumber
      · have z := ClAt.eq h x_NothingToUndo; subst z; exact kit_bi (by decide +kernel) ib_LookupError_NothingToUndo
      · have z := ClAt.eq h x_Refused; subst z; exact kit_bi (by decide +kernel) ib_LookupError_Refused
      · have z := ClAt.eq h x_TooMany; subst z; exact kit_bi (by decide +kernel) ib_LookupError_TooMany
    ib_IndexError := isExc_at fun c hc C h => by
      simp only [ESs, List.mem_cons, List.mem_nil_iff, List.not_mem_nil, or_false] at hc
      rcases hc with rfl | rfl | rfl | rfl | rfl | rfl | rfl | rfl | rfl | rfl | rfl | rfl | rfl | rfl | rfl | rfl
      · have z := ClAt.eq h x_AnswerError; subst z; exact kit_bi (by decide +kernel) ib_IndexError_AnswerError
      · have z := ClAt.eq h x_InvalidProgram; subst z; exact kit_bi (by decide +kernel) ib_IndexError_InvalidProgram
      · have z := ClAt.eq h x_InvalidMode; subst z; exact kit_bi (by decide +kernel) ib_IndexError_InvalidMode
      · have z := ClAt.eq h x_InvalidTable; subst z; exact kit_bi (by decide +kernel) ib_IndexError_InvalidTable
      · have z := ClAt.eq h x_InvalidRun; subst z; exact kit_bi (by decide +kernel) ib_IndexError_InvalidRun
      · have z := ClAt.eq h x_InvalidFact; subst z; exact kit_bi (by decide +kernel) ib_IndexError_InvalidFact
      · have z := ClAt.eq h x_InvalidDerivation; subst z; exact kit_bi (by decide +kernel) ib_IndexError_InvalidDerivation
      · have z := ClAt.eq h x_InvalidOperation; subst z; exact kit_bi (by decide +kernel) ib_IndexError_InvalidOperation
      · have z := ClAt.eq h x_InvalidCommand; subst z; exact kit_bi (by decide +kernel) ib_IndexError_InvalidCommand
      · have z := ClAt.eq h x_ParseError; subst z; exact kit_bi (by decide +kernel) ib_IndexError_ParseError
      · have z := ClAt.eq h x_UnknownName; subst z; exact kit_bi (by decide +kernel) ib_IndexError_UnknownName
      · have z := ClAt.eq h x_UnknownSite; subst z; exact kit_bi (by decide +kernel) ib_IndexError_UnknownSite
      · have z := ClAt.eq h x_InvalidNumber; subst z; exact kit_bi (by decide +kernel) ib_IndexError_InvalidNumber
      · have z := ClAt.eq h x_NothingToUndo; subst z; exact kit_bi (by decide +kernel) ib_IndexError_NothingToUndo
      · have z := ClAt.eq h x_Refused; subst z; exact kit_bi (by decide +kernel) ib_IndexError_Refused
      · have z := ClAt.eq h x_TooMany; subst z; exact kit_bi (by decide +kernel) ib_IndexError_TooMany
    ib_KeyError := isExc_at fun c hc C h => by
      simp only [ESs, List.mem_cons, List.mem_nil_iff, List.not_mem_nil, or_false] at hc
      rcases hc with rfl | rfl | rfl | rfl | rfl | rfl | rfl | rfl | rfl | rfl | rfl | rfl | rfl | rfl | rfl | rfl
      · have z := ClAt.eq h x_AnswerError; subst z; exact kit_bi (by decide +kernel) ib_KeyError_AnswerError
      · have z := ClAt.eq h x_InvalidProgram; subst z; exact kit_bi (by decide +kernel) ib_KeyError_InvalidProgram
      · have z := ClAt.eq h x_InvalidMode; subst z; exact kit_bi (by decide +kernel) ib_KeyError_InvalidMode
      · have z := ClAt.eq h x_InvalidTable; subst z; exact kit_bi (by decide +kernel) ib_KeyError_InvalidTable
      · have z := ClAt.eq h x_InvalidRun; subst z; exact kit_bi (by decide +kernel) ib_KeyError_InvalidRun
      · have z := ClAt.eq h x_InvalidFact; subst z; exact kit_bi (by decide +kernel) ib_KeyError_InvalidFact
      · have z := ClAt.eq h x_InvalidDerivation; subst z; exact kit_bi (by decide +kernel) ib_KeyError_InvalidDerivation
      · have z := ClAt.eq h x_InvalidOperation; subst z; exact kit_bi (by decide +kernel) ib_KeyError_InvalidOperation
      · have z := ClAt.eq h x_InvalidCommand; subst z; exact kit_bi (by decide +kernel) ib_KeyError_InvalidCommand
      · have z := ClAt.eq h x_ParseError; subst z; exact kit_bi (by decide +kernel) ib_KeyError_ParseError
      · have z := ClAt.eq h x_UnknownName; subst z; exact kit_bi (by decide +kernel) ib_KeyError_UnknownName
      · have z := ClAt.eq h x_UnknownSite; subst z; exact kit_bi (by decide +kernel) ib_KeyError_UnknownSite
      · have z := ClAt.eq h x_InvalidNumber; subst z; exact kit_bi (by decide +kernel) ib_KeyError_InvalidNumber
      · have z := ClAt.eq h x_NothingToUndo; subst z; exact kit_bi (by decide +kernel) ib_KeyError_NothingToUndo
      · have z := ClAt.eq h x_Refused; subst z; exact kit_bi (by decide +kernel) ib_KeyError_Refused
      · have z := ClAt.eq h x_TooMany; subst z; exact kit_bi (by decide +kernel) ib_KeyError_TooMany
    ib_OverflowError := isExc_at fun c hc C h => by
      simp only [ESs, List.mem_cons, List.mem_nil_iff, List.not_mem_nil, or_false] at hc
      rcases hc with rfl | rfl | rfl | rfl | rfl | rfl | rfl | rfl | rfl | rfl | rfl | rfl | rfl | rfl | rfl | rfl
      · have z := ClAt.eq h x_AnswerError; subst z; exact kit_bi (by decide +kernel) ib_OverflowError_AnswerError
      · have z := ClAt.eq h x_InvalidProgram; subst z; exact kit_bi (by decide +kernel) ib_OverflowError_InvalidProgram
      · have z := ClAt.eq h x_InvalidMode; subst z; exact kit_bi (by decide +kernel) ib_OverflowError_InvalidMode
      · have z := ClAt.eq h x_InvalidTable; subst z; exact kit_bi (by decide +kernel) ib_OverflowError_InvalidTable
      · have z := ClAt.eq h x_InvalidRun; subst z; exact kit_bi (by decide +kernel) ib_OverflowError_InvalidRun
      · have z := ClAt.eq h x_InvalidFact; subst z; exact kit_bi (by decide +kernel) ib_OverflowError_InvalidFact
      · have z := ClAt.eq h x_InvalidDerivation; subst z; exact kit_bi (by decide +kernel) ib_OverflowError_InvalidDerivation
      · have z := ClAt.eq h x_InvalidOperation; subst z; exact kit_bi (by decide +kernel) ib_OverflowError_InvalidOperation
      · have z := ClAt.eq h x_InvalidCommand; subst z; exact kit_bi (by decide +kernel) ib_OverflowError_InvalidCommand
      · have z := ClAt.eq h x_ParseError; subst z; exact kit_bi (by decide +kernel) ib_OverflowError_ParseError
      · have z := ClAt.eq h x_UnknownName; subst z; exact kit_bi (by decide +kernel) ib_OverflowError_UnknownName
      · have z := ClAt.eq h x_UnknownSite; subst z; exact kit_bi (by decide +kernel) ib_OverflowError_UnknownSite
      · have z := ClAt.eq h x_InvalidNumber; subst z; exact kit_bi (by decide +kernel) ib_OverflowError_InvalidNumber
      · have z := ClAt.eq h x_NothingToUndo; subst z; exact kit_bi (by decide +kernel) ib_OverflowError_NothingToUndo
      · have z := ClAt.eq h x_Refused; subst z; exact kit_bi (by decide +kernel) ib_OverflowError_Refused
      · have z := ClAt.eq h x_TooMany; subst z; exact kit_bi (by decide +kernel) ib_OverflowError_TooMany
    ib_ArithmeticError := isExc_at fun c hc C h => by
      simp only [ESs, List.mem_cons, List.mem_nil_iff, List.not_mem_nil, or_false] at hc
      rcases hc with rfl | rfl | rfl | rfl | rfl | rfl | rfl | rfl | rfl | rfl | rfl | rfl | rfl | rfl | rfl | rfl
      · have z := ClAt.eq h x_AnswerError; subst z; exact kit_bi (by decide +kernel) ib_ArithmeticError_AnswerError
      · have z := ClAt.eq h x_InvalidProgram; subst z; exact kit_bi (by decide +kernel) ib_ArithmeticError_InvalidProgram
      · have z := ClAt.eq h x_InvalidMode; subst z; exact kit_bi (by decide +kernel) ib_ArithmeticError_InvalidMode
      · have z := ClAt.eq h x_InvalidTable; subst z; exact kit_bi (by decide +kernel) ib_ArithmeticError_InvalidTable
      · have z := ClAt.eq h x_InvalidRun; subst z; exact kit_bi (by decide +kernel) ib_ArithmeticError_InvalidRun
      · have z := ClAt.eq h x_InvalidFact; subst z; exact kit_bi (by decide +kernel) ib_ArithmeticError_InvalidFact
      · have z := ClAt.eq h x_InvalidDerivation; subst z; exact kit_bi (by decide +kernel) ib_ArithmeticError_InvalidDerivation
      · have z := ClAt.eq h x_InvalidOperation; subst z; exact kit_bi (by decide +kernel) ib_ArithmeticError_InvalidOperation
      · have z := ClAt.eq h x_InvalidCommand; subst z; exact kit_bi (by decide +kernel) ib_ArithmeticError_InvalidCommand
      · have z := ClAt.eq h x_ParseError; subst z; exact kit_bi (by decide +kernel) ib_ArithmeticError_ParseError
      · have z := ClAt.eq h x_UnknownName; subst z; exact kit_bi (by decide +kernel) ib_ArithmeticError_UnknownName
      · have z := ClAt.eq h x_UnknownSite; subst z; exact kit_bi (by decide +kernel) ib_ArithmeticError_UnknownSite
      · have z := ClAt.eq h x_InvalidNumber; subst z; exact kit_bi (by decide +kernel) ib_ArithmeticError_InvalidNumber
      · have z := ClAt.eq h x_NothingToUndo; subst z; exact kit_bi (by decide +kernel) ib_ArithmeticError_NothingToUndo
      · have z := ClAt.eq h x_Refused; subst z; exact kit_bi (by decide +kernel) ib_ArithmeticError_Refused
      · have z := ClAt.eq h x_TooMany; subst z; exact kit_bi (by decide +kernel) ib_ArithmeticError_TooMany
    ex_InvalidRun := ⟨_, PySem.F.excBase_ValueError, ex_InvalidRun1⟩
    kc_InvalidRun := kc_InvalidRun1
    ex_InvalidTable := ⟨_, PySem.F.excBase_ValueError, ex_InvalidTable1⟩
    kc_InvalidTable := kc_InvalidTable1
    ex_InvalidMode := ⟨_, PySem.F.excBase_ValueError, ex_InvalidMode1⟩
    kc_InvalidMode := kc_InvalidMode1
    ex_InvalidProgram := ⟨_, PySem.F.excBase_ValueError, ex_InvalidProgram1⟩
    kc_InvalidProgram := kc_InvalidProgram1
    ex_AnswerError := ⟨_, PySem.F.excBase_ValueError, ex_AnswerError1⟩
    kc_AnswerError := kc_AnswerError1
    ex_InvalidCommand := ⟨_, PySem.F.excBase_ValueError, ex_InvalidCommand1⟩
    kc_InvalidCommand := kc_InvalidCommand1
    ex_InvalidOperation := ⟨_, PySem.F.excBase_ValueError, ex_InvalidOperation1⟩
    kc_InvalidOperation := kc_InvalidOperation1
    ex_InvalidDerivation := ⟨_, PySem.F.excBase_ValueError, ex_InvalidDerivation1⟩
    kc_InvalidDerivation := kc_InvalidDerivation1
    ex_InvalidFact := ⟨_, PySem.F.excBase_ValueError, ex_InvalidFact1⟩
    kc_InvalidFact := kc_InvalidFact1
    xi_ParseError := ⟨⟨_, _, _, _, _, _, PySem.F.excBase_ValueError, ⟨by decide +kernel, by decide +kernel, by decide +kernel⟩, PySem.F.store_ValueError, xi_ParseError1, xi_ParseError2⟩, xi_ParseError3, xi_ParseError4, xi_ParseError5, xi_ParseError6, xi_ParseError7, xi_ParseError8⟩
    xi_InvalidNumber := ⟨⟨_, _, _, _, _, _, PySem.F.excBase_IndexError, ⟨by decide +kernel, by decide +kernel, by decide +kernel⟩, PySem.F.store_IndexError, xi_InvalidNumber1, xi_InvalidNumber2⟩, xi_InvalidNumber3, xi_InvalidNumber4, xi_InvalidNumber5, xi_InvalidNumber6, xi_InvalidNumber7, xi_InvalidNumber8⟩
    xi_UnknownSite := ⟨⟨_, _, _, _, _, _, PySem.F.excBase_LookupError, ⟨by decide +kernel, by decide +kernel, by decide +kernel⟩, keepsKey, xi_UnknownSite1, xi_UnknownSite2⟩, xi_UnknownSite3, xi_UnknownSite4, xi_UnknownSite5, xi_UnknownSite6, xi_UnknownSite7, xi_UnknownSite8⟩
    xi_UnknownName := ⟨⟨_, _, _, _, _, _, PySem.F.excBase_LookupError, ⟨by decide +kernel, by decide +kernel, by decide +kernel⟩, keepsKey, xi_UnknownName1, xi_UnknownName2⟩, xi_UnknownName3, xi_UnknownName4, xi_UnknownName5, xi_UnknownName6, xi_UnknownName7, xi_UnknownName8⟩
    xi_TooMany := ⟨⟨_, _, _, _, _, _, PySem.F.excBase_OverflowError, ⟨by decide +kernel, by decide +kernel, by decide +kernel⟩, PySem.F.store_OverflowError, xi_TooMany1, xi_TooMany2⟩, xi_TooMany3, xi_TooMany4, xi_TooMany5, xi_TooMany6, xi_TooMany7, xi_TooMany8⟩
    xi_Refused := ⟨⟨_, _, _, _, _, _, PySem.F.excBase_ArithmeticError, ⟨by decide +kernel, by decide +kernel, by decide +kernel⟩, PySem.F.store_ArithmeticError, xi_Refused1, xi_Refused2⟩, xi_Refused3, xi_Refused4, xi_Refused5, xi_Refused6, xi_Refused7, xi_Refused8⟩
    xi_NothingToUndo := ⟨⟨_, _, _, _, _, _, PySem.F.excBase_LookupError, ⟨by decide +kernel, by decide +kernel, by decide +kernel⟩, PySem.F.store_LookupError, xi_NothingToUndo1, xi_NothingToUndo2⟩, xi_NothingToUndo3, xi_NothingToUndo4, xi_NothingToUndo5, xi_NothingToUndo6, xi_NothingToUndo7, xi_NothingToUndo8⟩
    nf_TooMany_limit := nf_TooMany_limit1
    xf_TooMany := ⟨ec_TooMany1, ec_TooMany2, ec_TooMany3, ec_TooMany4⟩
    nf_Refused_name := nf_Refused_name1
    xf_Refused := ⟨ec_Refused1, ec_Refused2, ec_Refused3, ec_Refused4⟩
    nf_NothingToUndo_many := nf_NothingToUndo_many1
    xf_NothingToUndo := ⟨ec_NothingToUndo1, ec_NothingToUndo2, ec_NothingToUndo3, ec_NothingToUndo4⟩
    nf_InvalidNumber_value := nf_InvalidNumber_value1
    xf_InvalidNumber := ⟨ec_InvalidNumber1, ec_InvalidNumber2, ec_InvalidNumber3, ec_InvalidNumber4⟩
    nf_UnknownSite_site := nf_UnknownSite_site1
    xf_UnknownSite := ⟨ec_UnknownSite1, ec_UnknownSite2, ec_UnknownSite3, ec_UnknownSite4⟩
    nf_UnknownName_name := nf_UnknownName_name1
    xf_UnknownName := ⟨ec_UnknownName1, ec_UnknownName2, ec_UnknownName3, ec_UnknownName4⟩
    nf_ParseError_line := nf_ParseError_line1
    xf_ParseError := ⟨ec_ParseError1, ec_ParseError2, ec_ParseError3, ec_ParseError4⟩
    ESok := fun c hc => by
      simp only [ESs, List.mem_cons, List.mem_nil_iff, List.not_mem_nil, or_false] at hc
      rcases hc with rfl | rfl | rfl | rfl | rfl | rfl | rfl | rfl | rfl | rfl | rfl | rfl | rfl | rfl | rfl | rfl
      · exact ⟨C_AnswerError, x_AnswerError, ⟨ec_AnswerError1, ec_AnswerError2, ec_AnswerError3, ec_AnswerError4, ec_AnswerError5, tyn1, tyn2, ec_AnswerError6⟩⟩
      · exact ⟨C_InvalidProgram, x_InvalidProgram, ⟨ec_InvalidProgram1, ec_InvalidProgram2, ec_InvalidProgram3, ec_InvalidProgram4, ec_InvalidProgram5, tyn1, tyn2, ec_InvalidProgram6⟩⟩
      · exact ⟨C_InvalidMode, x_InvalidMode, ⟨ec_InvalidMode1, ec_InvalidMode2, ec_InvalidMode3, ec_InvalidMode4, ec_InvalidMode5, tyn1, tyn2, ec_InvalidMode6⟩⟩
      · exact ⟨C_InvalidTable, x_InvalidTable, ⟨ec_InvalidTable1, ec_InvalidTable2, ec_InvalidTable3, ec_InvalidTable4, ec_InvalidTable5, tyn1, tyn2, ec_InvalidTable6⟩⟩
      · exact ⟨C_InvalidRun, x_InvalidRun, ⟨ec_InvalidRun1, ec_InvalidRun2, ec_InvalidRun3, ec_InvalidRun4, ec_InvalidRun5, tyn1, tyn2, ec_InvalidRun6⟩⟩
      · exact ⟨C_InvalidFact, x_InvalidFact, ⟨ec_InvalidFact1, ec_InvalidFact2, ec_InvalidFact3, ec_InvalidFact4, ec_InvalidFact5, tyn1, tyn2, ec_InvalidFact6⟩⟩
      · exact ⟨C_InvalidDerivation, x_InvalidDerivation, ⟨ec_InvalidDerivation1, ec_InvalidDerivation2, ec_InvalidDerivation3, ec_InvalidDerivation4, ec_InvalidDerivation5, tyn1, tyn2, ec_InvalidDerivation6⟩⟩
      · exact ⟨C_InvalidOperation, x_InvalidOperation, ⟨ec_InvalidOperation1, ec_InvalidOperation2, ec_InvalidOperation3, ec_InvalidOperation4, ec_InvalidOperation5, tyn1, tyn2, ec_InvalidOperation6⟩⟩
      · exact ⟨C_InvalidCommand, x_InvalidCommand, ⟨ec_InvalidCommand1, ec_InvalidCommand2, ec_InvalidCommand3, ec_InvalidCommand4, ec_InvalidCommand5, tyn1, tyn2, ec_InvalidCommand6⟩⟩
      · exact ⟨C_ParseError, x_ParseError, ⟨ec_ParseError1, ec_ParseError2, ec_ParseError3, ec_ParseError4, ec_ParseError5, tyn1, tyn2, ec_ParseError6⟩⟩
      · exact ⟨C_UnknownName, x_UnknownName, ⟨ec_UnknownName1, ec_UnknownName2, ec_UnknownName3, ec_UnknownName4, ec_UnknownName5, tyn1, tyn2, ec_UnknownName6⟩⟩
      · exact ⟨C_UnknownSite, x_UnknownSite, ⟨ec_UnknownSite1, ec_UnknownSite2, ec_UnknownSite3, ec_UnknownSite4, ec_UnknownSite5, tyn1, tyn2, ec_UnknownSite6⟩⟩
      · exact ⟨C_InvalidNumber, x_InvalidNumber, ⟨ec_InvalidNumber1, ec_InvalidNumber2, ec_InvalidNumber3, ec_InvalidNumber4, ec_InvalidNumber5, tyn1, tyn2, ec_InvalidNumber6⟩⟩
      · exact ⟨C_NothingToUndo, x_NothingToUndo, ⟨ec_NothingToUndo1, ec_NothingToUndo2, ec_NothingToUndo3, ec_NothingToUndo4, ec_NothingToUndo5, tyn1, tyn2, ec_NothingToUndo6⟩⟩
      · exact ⟨C_Refused, x_Refused, ⟨ec_Refused1, ec_Refused2, ec_Refused3, ec_Refused4, ec_Refused5, tyn1, tyn2, ec_Refused6⟩⟩
      · exact ⟨C_TooMany, x_TooMany, ⟨ec_TooMany1, ec_TooMany2, ec_TooMany3, ec_TooMany4, ec_TooMany5, tyn1, tyn2, ec_TooMany6⟩⟩ }
  intro base _ _
  have F_InvalidNumber___init__ := fun_mk (st := s_InvalidNumber___init__) l_InvalidNumber___init__ c_InvalidNumber___init__ k_InvalidNumber___init__
  have F_NothingToUndo___init__ := fun_mk (st := s_NothingToUndo___init__) l_NothingToUndo___init__ c_NothingToUndo___init__ k_NothingToUndo___init__
  have F_ParseError___init__ := fun_mk (st := s_ParseError___init__) l_ParseError___init__ c_ParseError___init__ k_ParseError___init__
  have F_Refused___init__ := fun_mk (st := s_Refused___init__) l_Refused___init__ c_Refused___init__ k_Refused___init__
  have F_TooMany___init__ := fun_mk (st := s_TooMany___init__) l_TooMany___init__ c_TooMany___init__ k_TooMany___init__
  have F_UnknownName___init__ := fun_mk (st := s_UnknownName___init__) l_UnknownName___init__ c_UnknownName___init__ k_UnknownName___init__
  have F_UnknownSite___init__ := fun_mk (st := s_UnknownSite___init__) l_UnknownSite___init__ c_UnknownSite___init__ k_UnknownSite___init__
  have F__law_dip := fun_mk (st := s__law_dip) l__law_dip c__law_dip k__law_dip
  have F__law_choose := fun_mk (st := s__law_choose) l__law_choose c__law_choose k__law_choose
  have F__law_kinds := fun_mk (st := s__law_kinds) l__law_kinds c__law_kinds k__law_kinds
  have F__law_messages := fun_mk (st := s__law_messages) l__law_messages c__law_messages k__law_messages
  have F__law_others := fun_mk (st := s__law_others) l__law_others c__law_others k__law_others
  have F__law_right := fun_mk (st := s__law_right) l__law_right c__law_right k__law_right
  have F__law_well := fun_mk (st := s__law_well) l__law_well c__law_well k__law_well
  have F_law := fun_mk (st := s_law) l_law c_law k_law
  have G_InvalidNumber___init__ := fn_InvalidNumber___init__ (P := P) (w := w) (K := K) (mg := mg) (base := base) F_InvalidNumber___init__ T
  have b_InvalidNumber___init__ := F_InvalidNumber___init__.binds (ps := ["self", "value"]) fun _ _ _ _ _ _ us hl => match us, hl with | [_, _], _ => rfl
  have G_NothingToUndo___init__ := fn_NothingToUndo___init__ (P := P) (w := w) (K := K) (mg := mg) (base := base) F_NothingToUndo___init__ T
  have b_NothingToUndo___init__ := F_NothingToUndo___init__.binds (ps := ["self", "many"]) fun _ _ _ _ _ _ us hl => match us, hl with | [_, _], _ => rfl
  have G_ParseError___init__ := fn_ParseError___init__ (P := P) (w := w) (K := K) (mg := mg) (base := base) F_ParseError___init__ T
  have b_ParseError___init__ := F_ParseError___init__.binds (ps := ["self", "line"]) fun _ _ _ _ _ _ us hl => match us, hl with | [_, _], _ => rfl
  have G_Refused___init__ := fn_Refused___init__ (P := P) (w := w) (K := K) (mg := mg) (base := base) F_Refused___init__ T
  have b_Refused___init__ := F_Refused___init__.binds (ps := ["self", "name"]) fun _ _ _ _ _ _ us hl => match us, hl with | [_, _], _ => rfl
  have G_TooMany___init__ := fn_TooMany___init__ (P := P) (w := w) (K := K) (mg := mg) (base := base) F_TooMany___init__ T
  have b_TooMany___init__ := F_TooMany___init__.binds (ps := ["self", "limit"]) fun _ _ _ _ _ _ us hl => match us, hl with | [_, _], _ => rfl
  have G_UnknownName___init__ := fn_UnknownName___init__ (P := P) (w := w) (K := K) (mg := mg) (base := base) F_UnknownName___init__ T
  have b_UnknownName___init__ := F_UnknownName___init__.binds (ps := ["self", "name"]) fun _ _ _ _ _ _ us hl => match us, hl with | [_, _], _ => rfl
  have G_UnknownSite___init__ := fn_UnknownSite___init__ (P := P) (w := w) (K := K) (mg := mg) (base := base) F_UnknownSite___init__ T
  have b_UnknownSite___init__ := F_UnknownSite___init__.binds (ps := ["self", "site"]) fun _ _ _ _ _ _ us hl => match us, hl with | [_, _], _ => rfl
  have d__law_dip : DefOk P w K mg base 1 false "_law_dip" DXP.F__law_dip := def_ok (PySem.W.mg_of X G a__law_dip) k__law_dip (fn__law_dip F__law_dip T )
  have d__law_choose : DefOk P w K mg base 2 false "_law_choose" DXP.F__law_choose := def_ok (PySem.W.mg_of X G a__law_choose) k__law_choose (fn__law_choose F__law_choose T d__law_dip)
  have d__law_kinds : DefOk P w K mg base 1 false "_law_kinds" DXP.F__law_kinds := def_ok (PySem.W.mg_of X G a__law_kinds) k__law_kinds (fn__law_kinds F__law_kinds T )
  have d__law_messages : DefOk P w K mg base 1 false "_law_messages" DXP.F__law_messages := def_ok (PySem.W.mg_of X G a__law_messages) k__law_messages (fn__law_messages F__law_messages T )
  have d__law_others : DefOk P w K mg base 1 false "_law_others" DXP.F__law_others := def_ok (PySem.W.mg_of X G a__law_others) k__law_others (fn__law_others F__law_others T )
  have d__law_right : DefOk P w K mg base 6 true "_law_right" DXP.F__law_right := def_ok (PySem.W.mg_of X G a__law_right) k__law_right (fn__law_right F__law_right T G_InvalidNumber___init__ b_InvalidNumber___init__ G_NothingToUndo___init__ b_NothingToUndo___init__ G_ParseError___init__ b_ParseError___init__ G_Refused___init__ b_Refused___init__ G_TooMany___init__ b_TooMany___init__ G_UnknownName___init__ b_UnknownName___init__ G_UnknownSite___init__ b_UnknownSite___init__ d__law_choose d__law_kinds d__law_messages d__law_others)
  have d__law_well : DefOk P w K mg base 1 false "_law_well" DXP.F__law_well := def_ok (PySem.W.mg_of X G a__law_well) k__law_well (fn__law_well F__law_well T )
  exact fn_law F_law T d__law_right d__law_well
end DXP

/-! DX 9: reckoning with meanings -/
namespace DX
open PySem
section
variable {α β : Type} {a : α} {st : Store} {ρ : Sl} {c : String} {fs : List (Str × D)}
@[simp] theorem bind_ok {f : α → Store → Res β} : (Res.ok a st).bind f = f a st := rfl
@[simp] theorem bind_exc {f : α → Store → Res β} : (Res.exc c fs st : Res α).bind f = .exc c fs st := rfl
@[simp] theorem bind_bad {f : α → Store → Res β} : (Res.bad : Res α).bind f = .bad := rfl
@[simp] theorem of_some : Res.of (some a) st = .ok a st := rfl
@[simp] theorem of_none : (Res.of none st : Res α) = .bad := rfl
@[simp] theorem bindS_ok {f : α → Store → SRes} : bindS (.ok a st) ρ f = f a st := rfl
@[simp] theorem bindS_exc {f : α → Store → SRes} : bindS (.exc c fs st) ρ f = .exc c fs ρ st := rfl
@[simp] theorem bindS_bad {f : α → Store → SRes} : bindS .bad ρ f = .bad := rfl
@[simp] theorem sbind_nx {f : Sl → Store → SRes} : (SRes.nx ρ st).bind f = f ρ st := rfl
@[simp] theorem sbind_rt {f : Sl → Store → SRes} {d : D} : (SRes.rt d st).bind f = .rt d st := rfl
@[simp] theorem sbind_bk {f : Sl → Store → SRes} : (SRes.bk ρ st).bind f = .bk ρ st := rfl
@[simp] theorem sbind_ct {f : Sl → Store → SRes} : (SRes.ct ρ st).bind f = .ct ρ st := rfl
@[simp] theorem sbind_exc {f : Sl → Store → SRes} : (SRes.exc c fs ρ st).bind f = .exc c fs ρ st := rfl
@[simp] theorem sbind_bad {f : Sl → Store → SRes} : SRes.bad.bind f = .bad := rfl
end
section
variable {st : Store} {ρ : Sl} {fa fb fc fe fo : EF} {f g : SF} {t u : TF} {k : Nat} {d : D}
theorem ap_var {i : Nat} (h : ρ[i]? = some (some d)) : eVar i ρ st = .ok d st := by unfold eVar; rw [h]
@[simp] theorem ap_var0 : eVar 0 (some d :: ρ) st = .ok d st := rfl
@[simp] theorem ap_varS {i : Nat} {x : Option D} : eVar (i + 1) (x :: ρ) st = eVar i ρ st := rfl
@[simp] theorem ap_c : eC d ρ st = .ok d st := rfl
@[simp] theorem ap_op {b : B2} : eOp b fa fb ρ st = (fa ρ st).bind fun x st1 => (fb ρ st1).bind fun y st2 => Res.of (b st2 x y) st2 := rfl
@[simp] theorem ap_un {b : Store → D → Option D} : eUn b fa ρ st = (fa ρ st).bind fun x st1 => Res.of (b st1 x) st1 := rfl
@[simp] theorem ap_if : eIf t fa fb ρ st = (t ρ st).bind fun b st1 => match b with | true => fa ρ st1 | false => fb ρ st1 := rfl
@[simp] theorem ap_and : eAnd fa fb ρ st = (fa ρ st).bind fun x st1 => match x with | .bl true => fb ρ st1 | .bl false => .ok (.bl false) st1 | _ => .bad := rfl
@[simp] theorem ap_or : eOr fa fb ρ st = (fa ρ st).bind fun x st1 => match x with | .bl true => .ok (.bl true) st1 | .bl false => fb ρ st1 | _ => .bad := rfl
@[simp] theorem ap_not : eNot fa ρ st = (fa ρ st).bind fun x st1 => match x with | .bl b => .ok (.bl !b) st1 | _ => .bad := rfl
@[simp] theorem ap_tV : tV fa ρ st = (fa ρ st).bind fun x st1 => match x with | .bl b => .ok b st1 | _ => .bad := rfl
@[simp] theorem ap_tAnd : tAndF t u ρ st = (t ρ st).bind fun b st1 => match b with | true => u ρ st1 | false => .ok false st1 := rfl
@[simp] theorem ap_tOr : tOrF t u ρ st = (t ρ st).bind fun b st1 => match b with | true => .ok true st1 | false => u ρ st1 := rfl
@[simp] theorem ap_tNot : tNotF t ρ st = (t ρ st).bind fun b st1 => .ok (!b) st1 := rfl
@[simp] theorem ap_aNil : aNil ρ st = .ok [] st := rfl
@[simp] theorem ap_aCons {r : AF} : aCons fa r ρ st = (fa ρ st).bind fun x st1 => (r ρ st1).bind fun xs st2 => .ok (x :: xs) st2 := rfl
@[simp] theorem ap_aCall {b : Store → List D → Option D} {r : AF} : aCall b r ρ st = (r ρ st).bind fun xs st1 => Res.of (b st1 xs) st1 := rfl
@[simp] theorem ap_eCall {F : FF} {r : AF} : eCall F r ρ st = (r ρ st).bind F := rfl
@[simp] theorem ap_tup {r : AF} : eTup r ρ st = (r ρ st).bind fun xs st1 => if xs.length ≤ 100000 then .ok (.tup xs) st1 else .bad := rfl
@[simp] theorem ap_lst {r : AF} : eLst r ρ st = (r ρ st).bind fun xs st1 => if xs.length ≤ 100000 then .ok (.lst xs) st1 else .bad := rfl
@[simp] theorem ap_lstM {r : AF} : eLstM r ρ st = (r ρ st).bind fun xs st1 => if xs.length ≤ 100000 then .ok (.ob st1.length) (st1 ++ [.lst xs]) else .bad := rfl
@[simp] theorem ap_is {ty : Ty} : eIs ty fe ρ st = (fe ρ st).bind fun d st1 => Res.of (isD ty st1 d) st1 := rfl
@[simp] theorem ap_pNo : pNo ρ st = .ok none st := rfl
@[simp] theorem ap_pAt : pAt fe ρ st = (fe ρ st).bind fun d st1 => match d with | .int i => .ok (some i) st1 | _ => .bad := rfl
@[simp] theorem ap_sl {lo hi : PF} : eSl fe lo hi ρ st = (fe ρ st).bind fun x st1 => (lo ρ st1).bind fun i st2 => (hi ρ st2).bind fun j st3 => Res.of (slD st3 x i j) st3 := rfl
@[simp] theorem ap_join : eJoin fo fe ρ st = (fo ρ st).bind fun x st1 => match x with | .str z => (fe ρ st1).bind fun y st2 => Res.of (joinD st2 z y) st2 | _ => .bad := rfl
@[simp] theorem ap_d0 : eD0 ρ st = .ok (.dK [] []) st := rfl
@[simp] theorem ap_d1 : eD1 fa fb ρ st = (fa ρ st).bind fun k st1 => (fb ρ st1).bind fun v st2 => match keyOf k with | some key => .ok (.dK [key] [v]) st2 | none => .bad := rfl
@[simp] theorem ap_chain {b b' : B2} : eChain b b' fa fb fc ρ st = (fa ρ st).bind fun x st1 => (fb ρ st1).bind fun y st2 => match b st2 x y with
  | some (.bl true) => (fc ρ st2).bind fun z st3 => Res.of (b' st3 y z) st3
  | some (.bl false) => .ok (.bl false) st2
  | _ => .bad := rfl
@[simp] theorem ap_nx : sNx ρ st = .nx ρ st := rfl
@[simp] theorem ap_bk : sBk ρ st = .bk ρ st := rfl
@[simp] theorem ap_ct : sCt ρ st = .ct ρ st := rfl
@[simp] theorem ap_seq : sSeq f g ρ st = (f ρ st).bind g := rfl
@[simp] theorem ap_drop : sDrop fe ρ st = bindS (fe ρ st) ρ fun _ st1 => .nx ρ st1 := rfl
@[simp] theorem ap_ret : sRet fe ρ st = bindS (fe ρ st) ρ fun d st1 => .rt d st1 := rfl
@[simp] theorem ap_retN : sRetN ρ st = .rt .non st := rfl
@[simp] theorem ap_sif : sIf t f g ρ st = bindS (t ρ st) ρ fun b st1 => match b with | true => f ρ st1 | false => g ρ st1 := rfl
@[simp] theorem ap_asg {u : GF} : sAsg fe u ρ st = bindS (fe ρ st) ρ fun d st1 => match u d ρ st1 with | some (ρ', st') => .nx ρ' st' | none => .bad := rfl
@[simp] theorem ap_set {i : Nat} : gSet i d ρ st = some (ρ.set i (some d), st) := rfl
@[simp] theorem ap_par {i j : Nat} {r : AF} : sPar i j r ρ st = bindS (r ρ st) ρ fun ds st1 => match ds with | [x, y] => .nx ((ρ.set i (some x)).set j (some y)) st1 | _ => .bad := rfl
@[simp] theorem ap_for {it : AF} {u : GF} : sFor it u f ρ st = bindS (it ρ st) ρ fun xs st1 => sForL u f xs ρ st1 := rfl
@[simp] theorem ap_itAny : itAny fe ρ st = (fe ρ st).bind fun d st1 => match d with | .lst xs => .ok xs st1 | .rd xs => .ok xs st1 | .tup xs => .ok xs st1 | .str x => .ok (signs x) st1 | _ => .bad := rfl
@[simp] theorem ap_itRange1 : itRange1 fe ρ st = (fe ρ st).bind fun d st1 => match d with | .int n => if small n then .ok (rng 0 n.toNat) st1 else .bad | _ => .bad := rfl
@[simp] theorem ap_itRange2 : itRange2 fa fb ρ st = (fa ρ st).bind fun x st1 => (fb ρ st1).bind fun y st2 => match x, y with
  | .int a, .int b => if small a && small b then .ok (rng a (b - a).toNat) st2 else .bad
  | _, _ => .bad := rfl
@[simp] theorem ap_lc {it : AF} {u : GF} {vs : List Nat} : lcF it u t fe vs ρ st = (it ρ st).bind fun xs st1 => lcL u t fe (wipeF ρ vs) xs [] st1 := rfl
@[simp] theorem ap_yes : tYesF ρ st = .ok true st := rfl
@[simp] theorem forL_nil {u : GF} : sForL u f [] ρ st = .nx ρ st := rfl
theorem forL_cons {u : GF} {x : D} {xs : List D} : sForL u f (x :: xs) ρ st = match u x ρ st with
    | none => .bad
    | some (ρ1, st1) => match f ρ1 st1 with
      | .nx ρ2 st2 => sForL u f xs ρ2 st2
      | .ct ρ2 st2 => sForL u f xs ρ2 st2
      | .bk ρ2 st2 => .nx ρ2 st2
      | .rt d st2 => .rt d st2
      | .exc c fs ρ2 st2 => .exc c fs ρ2 st2
      | .bad => .bad := rfl
@[simp] theorem wipe_nil : wipeF ρ [] = ρ := rfl
@[simp] theorem wipe_cons {v : Nat} {vs : List Nat} : wipeF ρ (v :: vs) = (wipeF ρ vs).set v none := rfl
end
theorem fDef_rt {n N : Nat} {b : SF} {ds : List D} {st st' : Store} {ρ : Sl} {d : D} (hl : ds.length = n) (hρ : ds.map some ++ List.replicate (N - ds.length) none = ρ) (h : b ρ st = .rt d st') : fDef n N b ds st = .ok d st' := by
  unfold fDef fBody
  rw [if_pos hl, hρ, h]
/-! operators, by kinds -/
/-- powers are not reckoned out -/
def ipow (i : Int) (n : Nat) : Int := i ^ n
def powOk (i : Int) : Prop := i.natAbs < 2 ^ 256
instance : Decidable (powOk i) := inferInstanceAs (Decidable (_ < _))
theorem powOk_10 : powOk 10 := by unfold powOk; decide
theorem powOk_59 : powOk (ipow 10 59) := by unfold powOk ipow; decide
theorem ipow_pos {i : Int} (h : 0 < i) (n : Nat) : 0 < ipow i n := Int.pow_pos h
section
variable {st : Store} {i j : Int} {x y : Str} {b : Bool} {xs ys : List D} {d : D} {n : Nat}
@[simp] theorem add_II : bAdd st (.int i) (.int j) = some (.int (i + j)) := rfl
@[simp] theorem add_SS : bAdd st (.str x) (.str y) = if x.length + y.length ≤ 100000 then some (.str (x ++ y)) else none := by
  show ((if x.length + y.length ≤ 100000 then some (D.str (x ++ y)) else none).orElse fun _ => none) = _
  split <;> rfl
@[simp] theorem add_LL : bAdd st (.lst xs) (.lst ys) = if xs.length + ys.length ≤ 100000 then some (.lst (xs ++ ys)) else none := by
  show ((if xs.length + ys.length ≤ 100000 then some (D.lst (xs ++ ys)) else none).orElse fun _ => none) = _
  split <;> rfl
@[simp] theorem add_TT : bAdd st (.tup xs) (.tup ys) = if xs.length + ys.length ≤ 100000 then some (.tup (xs ++ ys)) else none := rfl
@[simp] theorem sub_II : bSub st (.int i) (.int j) = some (.int (i - j)) := rfl
@[simp] theorem mul_II : bMul st (.int i) (.int j) = if narrow i || narrow j then some (.int (i * j)) else none := by
  show ((if narrow i || narrow j then some (D.int (i * j)) else none).orElse fun _ => none) = _
  split <;> rfl
@[simp] theorem mul_SI : bMul st (.str x) (.int i) = bMulS st (.str x) (.int i) := rfl
@[simp] theorem mod_II : bMod st (.int i) (.int j) = if 0 < j then some (.int (i % j)) else none := rfl
@[simp] theorem fdiv_II : bFdiv st (.int i) (.int j) = if 0 < j ∧ j < 1073741824 then some (.int (i / j)) else none := rfl
@[simp] theorem pow_II : bPow st (.int i) (.int j) = if 0 ≤ j ∧ j ≤ 1000 ∧ powOk i then some (.int (ipow i j.toNat)) else none := rfl
@[simp] theorem lt_II : bLt st (.int i) (.int j) = some (.bl (decide (i < j))) := rfl
@[simp] theorem le_II : bLe st (.int i) (.int j) = some (.bl (decide (i ≤ j))) := rfl
@[simp] theorem gt_II : bGt st (.int i) (.int j) = some (.bl (decide (j < i))) := rfl
@[simp] theorem ge_II : bGe st (.int i) (.int j) = some (.bl (decide (j ≤ i))) := rfl
@[simp] theorem lt_SS : bLt st (.str x) (.str y) = some (.bl (decide (x.cps.toList < y.cps.toList))) := rfl
@[simp] theorem le_SS : bLe st (.str x) (.str y) = some (.bl (!decide (y.cps.toList < x.cps.toList))) := rfl
@[simp] theorem gt_SS : bGt st (.str x) (.str y) = some (.bl (decide (y.cps.toList < x.cps.toList))) := rfl
@[simp] theorem ge_SS : bGe st (.str x) (.str y) = some (.bl (!decide (x.cps.toList < y.cps.toList))) := rfl
@[simp] theorem one_1 {f : Store → D → Option D} : one f st [d] = f st d := rfl
@[simp] theorem two_2 {f : Store → D → D → Option D} {d' : D} : two f st [d, d'] = f st d d' := rfl
@[simp] theorem int_I : intD st (.int i) = some (.int i) := rfl
@[simp] theorem int_B : intD st (.bl b) = some (.int (if b = true then 1 else 0)) := rfl
@[simp] theorem abs_I : absD st (.int i) = some (.int (if i < 0 then -i else i)) := rfl
@[simp] theorem max_II : max2D st (.int i) (.int j) = some (.int (if j > i then j else i)) := rfl
@[simp] theorem min_II : min2D st (.int i) (.int j) = some (.int (if j < i then j else i)) := rfl
@[simp] theorem rep_B : repB st (.bl b) = some (.str (if b then "True" else "False")) := rfl
@[simp] theorem len_S : lenD st (.str x) = if x.length ≤ 100000 then some (.int x.length) else none := rfl
@[simp] theorem len_T : lenD st (.tup xs) = some (.int xs.length) := rfl
@[simp] theorem len_L : lenD st (.lst xs) = some (.int xs.length) := rfl
@[simp] theorem len_R : lenD st (.rd xs) = some (.int xs.length) := rfl
@[simp] theorem ix_T : ixD st (.tup xs) (.int i) = L2.atI xs i := rfl
@[simp] theorem ix_L : ixD st (.lst xs) (.int i) = L2.atI xs i := rfl
@[simp] theorem ix_R : ixD st (.rd xs) (.int i) = L2.atI xs i := rfl
@[simp] theorem ix_S : ixD st (.str x) (.int i) = if x.length ≤ 100000 then (L2.atI x.cps.toList i).map fun c => .str ⟨#[c]⟩ else none := rfl
theorem ix_O (h : st[n]? = some (.lst xs)) : ixD st (.ob n) (.int i) = L2.atI xs i := by
  show (match seqL st (.ob n) with | some xs => L2.atI xs i | none => none) = _
  unfold seqL
  simp [h]
@[simp] theorem sl_T {lo hi : Option Int} : slD st (.tup xs) lo hi = some (.tup (cutD xs lo hi)) := rfl
@[simp] theorem sl_L {lo hi : Option Int} : slD st (.lst xs) lo hi = some (.lst (cutD xs lo hi)) := rfl
@[simp] theorem sl_S {lo hi : Option Int} : slD st (.str x) lo hi = if x.length ≤ 100000 then some (.str (L2.cutS x lo hi)) else none := rfl
@[simp] theorem all_L : allD st (.lst xs) = (boolsOf xs).map fun bs => .bl (bs.all id) := rfl
@[simp] theorem any_L : anyD st (.lst xs) = (boolsOf xs).map fun bs => .bl (bs.any id) := rfl
@[simp] theorem upper_S : upperD st (.str x) = if x.length ≤ 100000 then some (.str (Txt.upper x)) else none := rfl
theorem bools_map {α : Type} (f : α → Bool) : ∀ l : List α, boolsOf (l.map fun a => D.bl (f a)) = some (l.map f)
  | [] => rfl
  | a :: r => by
    show (boolsOf (r.map fun a => D.bl (f a))).map (f a :: ·) = _
    rw [bools_map f r]
    rfl
end
/-! == -/
section
variable {st : Store} {i j : Int} {x y : Str} {b c : Bool} {xs ys : List D} {d : D}
theorem eqD_of {d e : D} {p q : PyData} (h1 : pyS st d = some p) (h2 : pyS st e = some q) (h : min p.depth q.depth ≤ 60) : eqD st d e = some (PyData.eqv p q) := by
  unfold eqD
  rw [h1, h2]
  exact if_pos h
@[simp] theorem eq_SS : bEq st (.str x) (.str y) = some (.bl (x == y)) := by
  unfold bEq
  rw [eqD_of (p := .str x) (q := .str y) rfl rfl (by simp [PyData.depth])]
  simp [PyData.eqv]
@[simp] theorem eq_II : bEq st (.int i) (.int j) = some (.bl (i == j)) := by
  unfold bEq
  rw [eqD_of (p := .int i) (q := .int j) rfl rfl (by simp [PyData.depth])]
  simp [PyData.eqv]
@[simp] theorem eq_BB : bEq st (.bl b) (.bl c) = some (.bl (b == c)) := by
  unfold bEq
  rw [eqD_of (p := .bool b) (q := .bool c) rfl rfl (by simp [PyData.depth])]
  simp [PyData.eqv]
@[simp] theorem ne_SS : bNe st (.str x) (.str y) = some (.bl (!(x == y))) := by
  unfold bNe
  rw [eqD_of (p := .str x) (q := .str y) rfl rfl (by simp [PyData.depth])]
  simp [PyData.eqv]
@[simp] theorem ne_II : bNe st (.int i) (.int j) = some (.bl (!(i == j))) := by
  unfold bNe
  rw [eqD_of (p := .int i) (q := .int j) rfl rfl (by simp [PyData.depth])]
  simp [PyData.eqv]
@[simp] theorem ne_BB : bNe st (.bl b) (.bl c) = some (.bl (!(b == c))) := by
  unfold bNe
  rw [eqD_of (p := .bool b) (q := .bool c) rfl rfl (by simp [PyData.depth])]
  simp [PyData.eqv]
/-- xs == [] -/
theorem eq_L0 {ps : List PyData} (h : py0L xs = some ps) : bEq st (.lst xs) (.lst []) = some (.bl xs.isEmpty) := by
  unfold bEq
  rw [eqD_of (p := .list ps) (q := .list []) (by simp [pyS, seqL, h]) rfl (by simp [PyData.depth, PyData.depthAll])]
  cases xs with
  | nil => cases h; rfl
  | cons a r =>
    unfold py0L at h
    split at h
    · cases h
      simp [PyData.eqv, PyData.eqvAll]
    · cases h
theorem py_strs : ∀ l : List Str, py0L (l.map .str) = some (l.map .str)
  | [] => rfl
  | a :: r => by
    show (match py0 (.str a), py0L (r.map .str) with | some a, some as => some (a :: as) | _, _ => none) = _
    rw [py_strs r]
    rfl
end
/-! comprehensions whose turns keep the store -/
theorem lcL_pure {u : GF} {t : TF} {fe : EF} {ρ : Sl} {st : Store} (p : D → Bool) (g : D → D) : ∀ (xs acc : List D), acc.length + xs.length ≤ 100000 →
    (∀ x ∈ xs, ∃ ρ1, u x ρ st = some (ρ1, st) ∧ t ρ1 st = .ok (p x) st ∧ (p x = true → fe ρ1 st = .ok (g x) st)) → lcL u t fe ρ xs acc st = .ok (.lst (acc ++ (xs.filter p).map g)) st
  | [], acc, _, _ => by simp [lcL]
  | x :: xs, acc, hl, h => by
    have hl' : acc.length + (xs.length + 1) ≤ 100000 := hl
    obtain ⟨ρ1, h1, h2, h3⟩ := h x (by simp)
    have ih := fun acc' (q : acc'.length + xs.length ≤ 100000) => lcL_pure p g xs acc' q fun y hy => h y (List.mem_cons_of_mem _ hy)
    unfold lcL
    rw [h1]
    dsimp only
    rw [h2]
    cases hp : p x with
    | true =>
      dsimp only
      rw [h3 hp]
      dsimp only
      rw [if_pos (by omega), ih _ (by simp; omega)]
      simp [hp]
    | false =>
      dsimp only
      rw [ih _ (by omega)]
      simp [hp]
/-- .. whose turns keep a word of the store -/
theorem lcL_inv {u : GF} {fe : EF} {ρ : Sl} (Inv : Store → Prop) (Q : D → Prop) : ∀ (xs acc : List D) (st : Store), acc.length + xs.length ≤ 100000 → Inv st →
    (∀ x ∈ xs, ∀ st, Inv st → ∃ ρ1 d st', u x ρ st = some (ρ1, st) ∧ fe ρ1 st = .ok d st' ∧ Inv st' ∧ Q d) →
    ∃ ds st', lcL u tYesF fe ρ xs acc st = .ok (.lst (acc ++ ds)) st' ∧ Inv st' ∧ (∀ d ∈ ds, Q d) ∧ ds.length = xs.length
  | [], acc, st, _, hi, _ => ⟨[], st, by simp [lcL], hi, fun d h => by simp at h, rfl⟩
  | x :: xs, acc, st, hl, hi, h => by
    have hl' : acc.length + (xs.length + 1) ≤ 100000 := hl
    obtain ⟨ρ1, d, st', h1, h2, h3, h4⟩ := h x (by simp) st hi
    obtain ⟨ds, st2, e, i2, q, l⟩ := lcL_inv Inv Q xs (acc ++ [d]) st' (by simp; omega) h3 fun y hy => h y (List.mem_cons_of_mem _ hy)
    refine ⟨d :: ds, st2, ?_, i2, fun z hz => ?_, by simp [l]⟩
    · unfold lcL
      rw [h1]
      dsimp only [ap_yes]
      rw [h2]
      dsimp only
      rw [if_pos (by omega), e]
      simp
    · rcases List.mem_cons.mp hz with rfl | hz
      · exact h4
      · exact q z hz
/-- a for whose turns keep a word and go on -/
theorem forL_inv {u : GF} {f : SF} (Inv : Sl → Store → Prop) : ∀ (xs : List D) (ρ : Sl) (st : Store), Inv ρ st →
    (∀ x ∈ xs, ∀ ρ st, Inv ρ st → ∃ ρ1 st1 ρ2 st2, u x ρ st = some (ρ1, st1) ∧ (f ρ1 st1 = .nx ρ2 st2 ∨ f ρ1 st1 = .ct ρ2 st2) ∧ Inv ρ2 st2) → ∃ ρ' st', sForL u f xs ρ st = .nx ρ' st' ∧ Inv ρ' st'
  | [], ρ, st, hi, _ => ⟨ρ, st, rfl, hi⟩
  | x :: xs, ρ, st, hi, h => by
    obtain ⟨ρ1, st1, ρ2, st2, h1, h2, h3⟩ := h x (by simp) ρ st hi
    obtain ⟨ρ', st', e, q⟩ := forL_inv Inv xs ρ2 st2 h3 fun y hy => h y (List.mem_cons_of_mem _ hy)
    refine ⟨ρ', st', ?_, q⟩
    rw [forL_cons, h1]
    dsimp only
    rcases h2 with h2 | h2 <;> rw [h2] <;> exact e
theorem run_asg {fe : EF} {i : Nat} {g : SF} {ρ : Sl} {st st1 : Store} {d : D} (h : fe ρ st = .ok d st1) : sSeq (sAsg fe (gSet i)) g ρ st = g (ρ.set i (some d)) st1 := by
  rw [ap_seq, ap_asg, h]
  rfl
theorem run_ret {fe : EF} {ρ : Sl} {st st1 : Store} {d : D} (h : fe ρ st = .ok d st1) : sRet fe ρ st = .rt d st1 := by
  rw [ap_ret, h]
  rfl
theorem run_for {it : AF} {u : GF} {f g : SF} {ρ ρ' : Sl} {st st1 st' : Store} {xs : List D} (h : it ρ st = .ok xs st1) (h2 : sForL u f xs ρ st1 = .nx ρ' st') : sSeq (sFor it u f) g ρ st = g ρ' st' := by
  rw [ap_seq, ap_for, h]
  show (sForL u f xs ρ st1).bind g = _
  rw [h2]
  rfl
theorem run_if_f {t : TF} {f g h : SF} {ρ : Sl} {st st1 : Store} (e : t ρ st = .ok false st1) : sSeq (sIf t f g) h ρ st = sSeq g h ρ st1 := by
  rw [ap_seq, ap_sif, e, ap_seq]
  rfl
theorem run_if_t {t : TF} {f g h : SF} {ρ : Sl} {st st1 : Store} (e : t ρ st = .ok true st1) : sSeq (sIf t f g) h ρ st = sSeq f h ρ st1 := by
  rw [ap_seq, ap_sif, e, ap_seq]
  rfl
/-- without a test, the element of any kind -/
theorem lcL_map {α : Type} {u : GF} {fe : EF} {ρ : Sl} {st : Store} (e : α → D) (g : α → D) : ∀ (xs : List α) (acc : List D), acc.length + xs.length ≤ 100000 →
    (∀ x ∈ xs, ∃ ρ1, u (e x) ρ st = some (ρ1, st) ∧ fe ρ1 st = .ok (g x) st) → lcL u tYesF fe ρ (xs.map e) acc st = .ok (.lst (acc ++ xs.map g)) st
  | [], acc, _, _ => by simp [lcL]
  | x :: xs, acc, hl, h => by
    have hl' : acc.length + (xs.length + 1) ≤ 100000 := hl
    obtain ⟨ρ1, h1, h2⟩ := h x (by simp)
    show lcL u tYesF fe ρ (e x :: xs.map e) acc st = _
    unfold lcL
    rw [h1]
    dsimp only [ap_yes]
    rw [h2]
    dsimp only
    rw [if_pos (by omega), lcL_map e g xs _ (by simp; omega) fun y hy => h y (List.mem_cons_of_mem _ hy)]
    simp
theorem lcL_filt {α : Type} {u : GF} {t : TF} {fe : EF} {ρ : Sl} {st : Store} (e : α → D) (p : α → Bool) (g : α → D) : ∀ (xs : List α) (acc : List D), acc.length + xs.length ≤ 100000 →
    (∀ x ∈ xs, ∃ ρ1, u (e x) ρ st = some (ρ1, st) ∧ t ρ1 st = .ok (p x) st ∧ (p x = true → fe ρ1 st = .ok (g x) st)) → lcL u t fe ρ (xs.map e) acc st = .ok (.lst (acc ++ (xs.filter p).map g)) st
  | [], acc, _, _ => by simp [lcL]
  | x :: xs, acc, hl, h => by
    have hl' : acc.length + (xs.length + 1) ≤ 100000 := hl
    obtain ⟨ρ1, h1, h2, h3⟩ := h x (by simp)
    have ih := fun acc' (q : acc'.length + xs.length ≤ 100000) => lcL_filt e p g xs acc' q fun y hy => h y (List.mem_cons_of_mem _ hy)
    show lcL u t fe ρ (e x :: xs.map e) acc st = _
    unfold lcL
    rw [h1]
    dsimp only
    rw [h2]
    cases hp : p x with
    | true =>
      dsimp only
      rw [h3 hp]
      dsimp only
      rw [if_pos (by omega), ih _ (by simp; omega)]
      simp [hp]
    | false =>
      dsimp only
      rw [ih _ (by omega)]
      simp [hp]
end DX

/-! DX F: reckoning with meanings, second part -/
namespace DX
open PySem
section
variable {st : Store} {i j : Int} {x y : Str} {b : Bool} {xs ys : List D} {d : D} {n : Nat} {ρ : Sl} {fa fb fc fe fo : EF}
/-! order, times -/
@[simp] theorem ltA_II : bLtA st (.int i) (.int j) = some (.bl (decide (i < j))) := rfl
@[simp] theorem leA_II : bLeA st (.int i) (.int j) = some (.bl (decide (i ≤ j))) := rfl
@[simp] theorem gtA_II : bGtA st (.int i) (.int j) = some (.bl (decide (j < i))) := rfl
@[simp] theorem geA_II : bGeA st (.int i) (.int j) = some (.bl (decide (j ≤ i))) := rfl
@[simp] theorem ltA_SS : bLtA st (.str x) (.str y) = some (.bl (decide (x.cps.toList < y.cps.toList))) := rfl
@[simp] theorem leA_SS : bLeA st (.str x) (.str y) = some (.bl (!decide (y.cps.toList < x.cps.toList))) := rfl
@[simp] theorem gtA_SS : bGtA st (.str x) (.str y) = some (.bl (decide (y.cps.toList < x.cps.toList))) := rfl
@[simp] theorem geA_SS : bGeA st (.str x) (.str y) = some (.bl (!decide (x.cps.toList < y.cps.toList))) := rfl
def pairP (p : Int × Int) : PyData := .tuple [.int p.1, .int p.2]
theorem lt_pairP (p q : Int × Int) : PySem.W.dataLt (pairP p) (pairP q) = pairLt p q := PySem.W.dataLt_ii p.1 p.2 q.1 q.2
theorem ltP_pair (p q : Int × Int) : ltP st (pairD p) (pairD q) = some (pairP p, pairP q) := by
  have hd : (pairP p).depth ≤ 60 := by
    show PyData.depth (.tuple [.int p.1, .int p.2]) ≤ 60
    simp [PyData.depth, PyData.depthAll]
  unfold ltP
  show (match some (pairP p), some (pairP q) with | some a, some b => if PySem.W.alike a b = true ∧ isNonP a = false ∧ min a.depth b.depth ≤ 60 then some (a, b) else none | _, _ => none) = _
  dsimp only
  rw [if_pos ⟨rfl, rfl, by omega⟩]
theorem ltA_pp (p q : Int × Int) : bLtA st (pairD p) (pairD q) = some (.bl (pairLt p q)) := by
  show ((none : Option D).orElse fun _ => (none : Option D).orElse fun _ => bLtP st (pairD p) (pairD q)) = _
  show bLtP st (pairD p) (pairD q) = _
  unfold bLtP
  rw [ltP_pair]
  show some (D.bl (PySem.W.dataLt (pairP p) (pairP q))) = _
  rw [lt_pairP]
theorem geA_pp (p q : Int × Int) : bGeA st (pairD p) (pairD q) = some (.bl (!pairLt p q)) := by
  show bGeP st (pairD p) (pairD q) = _
  unfold bGeP
  rw [ltP_pair]
  show some (D.bl (!PySem.W.dataLt (pairP p) (pairP q))) = _
  rw [lt_pairP]
@[simp] theorem mulA_II : bMulA st (.int i) (.int j) = if narrow i || narrow j then some (.int (i * j)) else none := by
  show ((bMul st (.int i) (.int j)).orElse fun _ => (none : Option D).orElse fun _ => none) = _
  rw [mul_II]
  split <;> rfl
/-! == -/
theorem eqX_D {own : Own} {x y : D} {r : Bool} (h : eqD st x y = some r) : ∀ n, eqX own st n x y = some r
  | 0 => h
  | n + 1 => by unfold eqX; rw [h]
@[simp] theorem eqD_II : eqD st (.int i) (.int j) = some (i == j) := by rw [eqD_of (p := .int i) (q := .int j) rfl rfl (by simp [PyData.depth])]; rfl
@[simp] theorem eqD_SS : eqD st (.str x) (.str y) = some (x == y) := by rw [eqD_of (p := .str x) (q := .str y) rfl rfl (by simp [PyData.depth])]; rfl
@[simp] theorem eqD_BB {b c : Bool} : eqD st (.bl b) (.bl c) = some (b == c) := by
  rw [eqD_of (p := .bool b) (q := .bool c) rfl rfl (by simp [PyData.depth])]
  cases b <;> cases c <;> rfl
@[simp] theorem eqX_II {own : Own} : bEqX own n st (.int i) (.int j) = some (.bl (i == j)) := by unfold bEqX; rw [eqX_D eqD_II]; rfl
@[simp] theorem eqX_SS {own : Own} : bEqX own n st (.str x) (.str y) = some (.bl (x == y)) := by unfold bEqX; rw [eqX_D eqD_SS]; rfl
@[simp] theorem eqX_BB {own : Own} {b c : Bool} : bEqX own n st (.bl b) (.bl c) = some (.bl (b == c)) := by unfold bEqX; rw [eqX_D eqD_BB]; rfl
@[simp] theorem neX_II {own : Own} : bNeX own n st (.int i) (.int j) = some (.bl (!(i == j))) := by unfold bNeX; rw [eqX_D eqD_II]; rfl
@[simp] theorem neX_SS {own : Own} : bNeX own n st (.str x) (.str y) = some (.bl (!(x == y))) := by unfold bNeX; rw [eqX_D eqD_SS]; rfl
@[simp] theorem neX_BB {own : Own} {b c : Bool} : bNeX own n st (.bl b) (.bl c) = some (.bl (!(b == c))) := by unfold bNeX; rw [eqX_D eqD_BB]; rfl
/-- a tuple, a list against an empty one -/
theorem eqX_T0 {own : Own} : eqX own st (n + 1) (.tup xs) (.tup []) = some xs.isEmpty := by
  unfold eqX
  cases z : eqD st (.tup xs) (.tup []) with
  | some r =>
    have hr : r = xs.isEmpty := by
      unfold eqD at z
      split at z
      · rename_i a c ha hc
        split at z
        · cases z
          have hc' : c = .tuple [] := by
            have : pyS st (.tup []) = some (.tuple []) := rfl
            rw [this] at hc
            exact (Option.some.inj hc).symm
          subst hc'
          have ha' : (py0L xs).map PyData.tuple = some a := ha
          obtain ⟨ps, h1, rfl⟩ := Option.map_eq_some_iff.mp ha'
          cases xs with
          | nil => cases h1; rfl
          | cons u us =>
            unfold py0L at h1
            split at h1
            · cases h1
              rfl
            · cases h1
        · cases z
      · cases z
    rw [hr]
  | none =>
    cases xs with
    | nil =>
      have : eqD st (.tup []) (.tup []) = some true := rfl
      rw [this] at z
      cases z
    | cons u us => rfl
theorem eqX_L0 {own : Own} : eqX own st (n + 1) (.lst xs) (.lst []) = some xs.isEmpty := by
  unfold eqX
  cases z : eqD st (.lst xs) (.lst []) with
  | some r =>
    have hr : r = xs.isEmpty := by
      unfold eqD at z
      split at z
      · rename_i a c ha hc
        split at z
        · cases z
          have hc' : c = .list [] := by
            have : pyS st (.lst []) = some (.list []) := rfl
            rw [this] at hc
            exact (Option.some.inj hc).symm
          subst hc'
          have ha' : (py0L xs).map PyData.list = some a := ha
          obtain ⟨ps, h1, rfl⟩ := Option.map_eq_some_iff.mp ha'
          cases xs with
          | nil => cases h1; rfl
          | cons u us =>
            unfold py0L at h1
            split at h1
            · cases h1
              rfl
            · cases h1
        · cases z
      · cases z
    rw [hr]
  | none =>
    cases xs with
    | nil =>
      have : eqD st (.lst []) (.lst []) = some true := rfl
      rw [this] at z
      cases z
    | cons u us => rfl
@[simp] theorem bEqX_T0 {own : Own} : bEqX own (n + 1) st (.tup xs) (.tup []) = some (.bl xs.isEmpty) := by unfold bEqX; rw [eqX_T0]; rfl
@[simp] theorem bNeX_T0 {own : Own} : bNeX own (n + 1) st (.tup xs) (.tup []) = some (.bl !xs.isEmpty) := by unfold bNeX; rw [eqX_T0]; rfl
@[simp] theorem bEqX_L0 {own : Own} : bEqX own (n + 1) st (.lst xs) (.lst []) = some (.bl xs.isEmpty) := by unfold bEqX; rw [eqX_L0]; rfl
@[simp] theorem bNeX_L0 {own : Own} : bNeX own (n + 1) st (.lst xs) (.lst []) = some (.bl !xs.isEmpty) := by unfold bNeX; rw [eqX_L0]; rfl
/-! combinators -/
@[simp] theorem ap_isX {CT : List String} {has : Tag → Bool} : eIsX CT has fe ρ st = (fe ρ st).bind fun d st1 => match tagX CT st1 d with | some t => .ok (.bl (has t)) st1 | none => .bad := rfl
@[simp] theorem ap_alt {f g : EF} : eAlt f g ρ st = match f ρ st with | .bad => g ρ st | r => r := rfl
@[simp] theorem ap_fld {c : String} {f : Str} : eFld c f fe ρ st = (fe ρ st).bind fun d st1 => match insIs c st1 d with | some (fs, ds) => Res.of ((fs.zip ds).lookup f) st1 | none => .bad := rfl
@[simp] theorem ap_prop {c : String} {F : FF} : eProp c F fe ρ st = (fe ρ st).bind fun d st1 => match insIs c st1 d with | some _ => (match F [d] st1 with | .ok r st2 => .ok r st2 | _ => .bad) | none => .bad := rfl
@[simp] theorem ap_cmeth {c : String} {F : FF} {fr : AF} : eCMeth c F fr ρ st = (fr ρ st).bind fun xs st1 => F (.cls c :: xs) st1 := rfl
@[simp] theorem ap_callCls {c : String} {i : Nat} {F : FF} {fr : AF} : eCallCls c i F fr ρ st = match ρ[i]? with | some (some (.cls c')) => if c' = c then (fr ρ st).bind F else .bad | _ => .bad := rfl
@[simp] theorem ap_star {fr : AF} : aStar fe fr ρ st = (fe ρ st).bind fun d st1 => match itemsOf st1 d with | some xs => (fr ρ st1).bind fun ys st2 => .ok (xs ++ ys) st2 | none => .bad := rfl
@[simp] theorem ap_own1 {c : String} {F : FF} {back : D → Option D} : eOwn1 c F back fe ρ st = (fe ρ st).bind fun d st1 => match insIs c st1 d with | some _ => (F [d] st1).bind fun r st2 => Res.of (back r) st2 | none => .bad := rfl
@[simp] theorem ap_js {fs : List EF} : eJs fs ρ st = jsL fs Str.empty ρ st := rfl
@[simp] theorem js_nil {acc : Str} : jsL [] acc ρ st = .ok (.str acc) st := rfl
@[simp] theorem js_cons {f : EF} {fs : List EF} {acc : Str} : jsL (f :: fs) acc ρ st = (f ρ st).bind fun d st1 => match d with | .str y => if (acc ++ y).length ≤ 100000 then jsL fs (acc ++ y) ρ st1 else .bad | _ => .bad := rfl
@[simp] theorem ap_wr1 {f : List D → D → Option (D × List D)} : eWr1 f fo fe ρ st = (fo ρ st).bind fun o st1 => match o with
  | .ob n => if isLst st1 n = true then (fe ρ st1).bind fun d st2 => match st2[n]? with
    | some (.lst xs) => match f xs d with
      | some (r, ys) => .ok r (st2.set n (.lst ys))
      | none => .bad
    | _ => .bad else .bad
  | _ => .bad := rfl
@[simp] theorem ap_listM {fr : AF} : eListM fr ρ st = (fr ρ st).bind fun xs st1 => match xs with
  | [d] => match itemsOf st1 d with
    | some ys => .ok (.ob st1.length) (st1 ++ [.lst ys])
    | none => .bad
  | _ => .bad := rfl
@[simp] theorem ap_getW {tab : List (Str × Int)} : eGetW tab fa fe ρ st = (fa ρ st).bind fun k st1 => (fe ρ st1).bind fun d st2 => match k with
  | .str y => .ok (match tab.lookup y with | some i => .int i | none => d) st2
  | _ => .bad := rfl
@[simp] theorem ap_par3 {i j l : Nat} {r : AF} : sPar3 i j l r ρ st = bindS (r ρ st) ρ fun ds st1 => match ds with | [x, y, z] => .nx (((ρ.set i (some x)).set j (some y)).set l (some z)) st1 | _ => .bad := rfl
@[simp] theorem ap_raise {c : String} : sRaiseT c ρ st = .exc c [] ρ st := rfl
@[simp] theorem ap_fldS {c : String} {f : Str} : sFldS c f fo fe ρ st = bindS (fe ρ st) ρ fun d st1 => bindS (fo ρ st1) ρ fun o st2 => match o with
  | .ob n => match st2[n]? with
    | some (.ins c' fs ds) => if c' = c ∧ fs.length < 900 then .nx ρ (st2.set n (.ins c (putP f d fs ds).1 (putP f d fs ds).2)) else .bad
    | _ => .bad
  | _ => .bad := rfl
@[simp] theorem bind_rr {α β γ : Type} {r : Res α} {f : α → Store → Res β} {g : β → Store → Res γ} : (r.bind f).bind g = r.bind fun a st => (f a st).bind g := by
  cases r <;> rfl
/-! tags -/
@[simp] theorem tagX_non {CT : List String} : tagX CT st .non = some (.b .none) := rfl
@[simp] theorem tagX_bl {CT : List String} {b : Bool} : tagX CT st (.bl b) = some (.b .bool) := rfl
@[simp] theorem tagX_int {CT : List String} : tagX CT st (.int i) = some (.b .int) := rfl
@[simp] theorem tagX_str {CT : List String} : tagX CT st (.str x) = some (.b .str) := rfl
@[simp] theorem tagX_tup {CT : List String} : tagX CT st (.tup xs) = some (.b .tuple) := rfl
@[simp] theorem tagX_lst {CT : List String} : tagX CT st (.lst xs) = some (.b .list) := rfl
@[simp] theorem tagX_dK {CT : List String} {ks : List L2.Key} : tagX CT st (.dK ks xs) = some (.b .dict) := rfl
/-! what is frozen -/
theorem okOld_refl {st : Store} : OkOld st st := fun _ _ _ h => .inl h
/-- .. where the store has not grown -/
theorem frz_same {F : FF} {ds : List D} {st' : Store} (h : F ds st = .ok d st') (hl : st'.length = st.length) (ok : OkOld st st') (hp : d.pure = true) : frz F ds st = .ok d st' := by
  unfold frz frzR
  rw [h]
  dsimp only
  rw [if_pos ok, fz_pure _ _ hp]
  dsimp only
  rw [← hl, List.take_length]
end
end DX

namespace DXP
open PySem DX
/-! ### draws -/
abbrev wellO (a b c : Int) : O := .lst [.int a, .int b, .int c]
theorem dip_great {st : Store} {n : Nat} {a b c size : Int} (h : st[n]? = some (wellO a b c)) (ha : 0 < a) (hs : 0 < size) (hs2 : size < 1073741824) :
    F__law_dip [.ob n, .int size] st = .ok (.int (a % size)) (st.set n (wellO (a / size) b c)) := by
  simp [F__law_dip, fDef, fBody, b__law_dip, t__law_dip_1, x__law_dip_2, x__law_dip_3, y__law_dip_4, ix_O h, L2.atI, L2.ixN, ha, hs, hs2, gSub, h]
theorem narrow1 : narrow 776531401 = true := by decide
theorem narrow2 : narrow 7351 = true := by decide
theorem narrow3 (x : Int) : narrow (x % 2305843009213693867) = true := by unfold narrow; exact decide_eq_true (by omega)
theorem narrow4 (x : Int) : narrow (x % 1000000000000037) = true := by unfold narrow; exact decide_eq_true (by omega)
theorem dip_small {st : Store} {n : Nat} {a b c size : Int} (h : st[n]? = some (wellO a b c)) (ha : ¬ 0 < a) (hs : 0 < size) (hs2 : size < 1073741824) :
    ∃ k, F__law_dip [.ob n, .int size] st = .ok (.int k) (st.set n (wellO a b (c + 1))) ∧ 0 ≤ k ∧ k < size := by
  have hl : n < st.length := (List.getElem?_eq_some_iff.mp h).1
  have h' : (st.set n (wellO a b (c + 1)))[n]? = some (wellO a b (c + 1)) := by simp [hl]
  simp [F__law_dip, fDef, fBody, b__law_dip, t__law_dip_1, x__law_dip_2, x__law_dip_3, y__law_dip_4, x__law_dip_5, x__law_dip_6, x__law_dip_7, x__law_dip_8, ix_O h, ix_O h', L2.atI, L2.ixN, ha, hs, hs2, gSub, h, narrow1, narrow2, narrow3, narrow4]
  exact ⟨Int.emod_nonneg _ (by omega), Int.emod_lt_of_pos _ hs⟩
/-- a well stands at n; what draws do to the store -/
def WellAt (st : Store) (n : Nat) : Prop := ∃ a b c, st[n]? = some (wellO a b c) ∧ 0 ≤ a
structure Drawn (n : Nat) (st st' : Store) : Prop where
  at' : WellAt st' n
  len : st'.length = st.length
  old : ∀ j, j ≠ n → st'[j]? = st[j]?
theorem Drawn.refl {n : Nat} {st : Store} (h : WellAt st n) : Drawn n st st := ⟨h, rfl, fun _ _ => rfl⟩
theorem Drawn.trans {n : Nat} {a b c : Store} (h : Drawn n a b) (h2 : Drawn n b c) : Drawn n a c := ⟨h2.at', h2.len.trans h.len, fun j hj => (h2.old j hj).trans (h.old j hj)⟩
theorem drawn_set {st : Store} {n : Nat} {a b c : Int} (hl : n < st.length) (ha : 0 ≤ a) : Drawn n st (st.set n (wellO a b c)) :=
  ⟨⟨a, b, c, by simp [hl], ha⟩, by simp, fun j hj => List.getElem?_set_ne (fun e => hj e.symm)⟩
theorem dip {st : Store} {n : Nat} {size : Int} (h : WellAt st n) (hs : 0 < size) (hs2 : size < 1073741824) :
    ∃ k st', F__law_dip [.ob n, .int size] st = .ok (.int k) st' ∧ 0 ≤ k ∧ k < size ∧ Drawn n st st' := by
  obtain ⟨a, b, c, h, ha⟩ := h
  have hl : n < st.length := (List.getElem?_eq_some_iff.mp h).1
  by_cases h0 : 0 < a
  · exact ⟨_, _, dip_great h h0 hs hs2, Int.emod_nonneg _ (by omega), Int.emod_lt_of_pos _ hs, drawn_set hl (Int.ediv_nonneg ha (by omega))⟩
  · obtain ⟨k, e, h1, h2⟩ := dip_small h h0 hs hs2
    exact ⟨k, _, e, h1, h2, drawn_set hl ha⟩
/-- a draw as a number -/
theorem dipN {st : Store} {n : Nat} {size : Nat} (h : WellAt st n) (hs : 0 < size) (hs2 : size < 1073741824) :
    ∃ (k : Nat) (st' : Store), F__law_dip [.ob n, .int (size : Int)] st = .ok (.int (k : Int)) st' ∧ k < size ∧ Drawn n st st' := by
  obtain ⟨k, st', e, h0, h1, d⟩ := dip (size := size) h (by omega) (by omega)
  obtain ⟨j, rfl⟩ : ∃ j : Nat, k = (j : Int) := ⟨k.toNat, by omega⟩
  exact ⟨j, st', e, by omega, d⟩
theorem narrow5 : narrow 1000253 = true := by decide
theorem narrow6 : narrow 8969 = true := by decide
theorem narrow7 : narrow 47 = true := by decide
theorem narrow8 : narrow 71 = true := by decide
theorem big2 : 0 < ipow (ipow 10 59) 10 := ipow_pos (ipow_pos (by decide) _) _
theorem max0 (x : Int) : 0 ≤ (if x > 0 then x else 0) := by split <;> omega
theorem well_body (x : Int) (ns : List Int) (i : Nat) (st : Store) (h1 : (i < ns.length ∧ L2.atI (ns.map D.int) (i : Int) = some (.int x)) ∨ (¬ i < ns.length ∧ x = 71 * i + 37)) : b__law_well [some (.rd (ns.map .int)), some (.int i), none, none, none] st =
    .rt (.ob st.length) (st ++ [.lst [.int (if (if x < 0 then -x else x) % ipow (ipow 10 59) 10 - ipow 10 15 > 0 then (if x < 0 then -x else x) % ipow (ipow 10 59) 10 - ipow 10 15 else 0), .int ((((if x < 0 then -x else x) % ipow (ipow 10 59) 10) * 1000253 + 8969 * i + 47 * (if decide (x < 0) = true then 1 else 0) + 19) % 1152921504606846803), .int 0]]) := by
  rcases h1 with ⟨h, h2⟩ | ⟨h, hx⟩
  · simp only [b__law_well, x__law_well_1, x__law_well_2, x__law_well_3, x__law_well_4, decide_true, h2, ap_seq, ap_asg, ap_if, ap_tV, ap_op, ap_aCall, ap_aCons, ap_aNil, one_1, two_2, bind_ok, bindS_ok, sbind_nx, sbind_rt, of_some, ap_set, len_R, lt_II, List.length_map, ap_var0, ap_varS, List.set_cons_zero, List.set_cons_succ, Int.ofNat_lt, h, ix_R, abs_I, int_I, int_B, pow_II, ap_c,
    powOk_10, powOk_59, show (0:Int) ≤ 59 from by decide, show (59:Int) ≤ 1000 from by decide, show (0:Int) ≤ 10 from by decide, show (10:Int) ≤ 1000 from by decide, show (0:Int) ≤ 15 from by decide, show (15:Int) ≤ 1000 from by decide, and_self, if_true, mod_II,
    show Int.toNat 59 = 59 from rfl, show Int.toNat 10 = 10 from rfl, show Int.toNat 15 = 15 from rfl, big2, mul_II, narrow5, narrow6, narrow7, narrow8, Bool.or_true, Bool.true_or, add_II, show (0:Int) < 1152921504606846803 from by decide, ap_ret, ap_lstM, sub_II, max_II, ltA_II, gtA_II, mulA_II, List.length_cons, List.length_nil, show 0 + 1 + 1 + 1 ≤ 100000 from by decide]
  · simp only [b__law_well, x__law_well_1, x__law_well_2, x__law_well_3, x__law_well_4, decide_false, ← hx, ap_seq, ap_asg, ap_if, ap_tV, ap_op, ap_aCall, ap_aCons, ap_aNil, one_1, two_2, bind_ok, bindS_ok, sbind_nx, sbind_rt, of_some, ap_set, len_R, lt_II, List.length_map, ap_var0, ap_varS, List.set_cons_zero, List.set_cons_succ, Int.ofNat_lt, h, ix_R, abs_I, int_I, int_B, pow_II, ap_c,
    powOk_10, powOk_59, show (0:Int) ≤ 59 from by decide, show (59:Int) ≤ 1000 from by decide, show (0:Int) ≤ 10 from by decide, show (10:Int) ≤ 1000 from by decide, show (0:Int) ≤ 15 from by decide, show (15:Int) ≤ 1000 from by decide, and_self, if_true, mod_II,
    show Int.toNat 59 = 59 from rfl, show Int.toNat 10 = 10 from rfl, show Int.toNat 15 = 15 from rfl, big2, mul_II, narrow5, narrow6, narrow7, narrow8, Bool.or_true, Bool.true_or, add_II, show (0:Int) < 1152921504606846803 from by decide, ap_ret, ap_lstM, sub_II, max_II, ltA_II, gtA_II, mulA_II, List.length_cons, List.length_nil, show 0 + 1 + 1 + 1 ≤ 100000 from by decide]
theorem well (ns : List Int) (i : Nat) (st : Store) : ∃ a b c, F__law_well [.rd (ns.map .int), .int i] st = .ok (.ob st.length) (st ++ [wellO a b c]) ∧ 0 ≤ a := by
  by_cases h : i < ns.length
  · exact ⟨_, _, _, fDef_rt rfl rfl (well_body ns[i] ns i st (.inl ⟨h, by simp [L2.atI, L2.ixN, h]⟩)), max0 _⟩
  · exact ⟨_, _, _, fDef_rt rfl rfl (well_body _ ns i st (.inr ⟨h, rfl⟩)), max0 _⟩
/-- an item is drawn -/
theorem choose_at {st : Store} {n : Nat} {items : D} {L : Nat} {g : Nat → D} (h : WellAt st n) (hl : lenD st items = some (.int L)) (h0 : 0 < L) (h1 : L < 1073741824) (hi : ∀ k st', k < L → Drawn n st st' → ixD st' items (.int (k : Nat)) = some (g k)) :
    ∃ k st', k < L ∧ F__law_choose [.ob n, items] st = .ok (g k) st' ∧ Drawn n st st' := by
  obtain ⟨k, st', e, hk, hd⟩ := dipN h h0 h1
  refine ⟨k, st', hk, ?_, hd⟩
  simp [F__law_choose, fDef, fBody, b__law_choose, x__law_choose_1, hl, e, hi k st' hk hd]
theorem atI_nat {α : Type} {xs : List α} {k : Nat} : L2.atI xs (k : Int) = xs[k]? := by
  unfold L2.atI L2.ixN
  by_cases h : k < xs.length
  · simp [h]
  · simp [h]
theorem choose_L {st : Store} {n : Nat} {xs : List D} (h : WellAt st n) (h0 : 0 < xs.length) (h1 : xs.length < 1073741824) :
    ∃ x st', x ∈ xs ∧ F__law_choose [.ob n, .lst xs] st = .ok x st' ∧ Drawn n st st' := by
  obtain ⟨k, st', hk, e, hd⟩ := choose_at (items := .lst xs) (g := fun k => xs.getD k .non) h rfl h0 h1 fun k st' hk _ => by
    simp [atI_nat, List.getElem?_eq_getElem hk]
  refine ⟨_, st', ?_, e, hd⟩
  simp [List.getD_eq_getElem?_getD, List.getElem?_eq_getElem hk]
theorem choose_T {st : Store} {n : Nat} {xs : List D} (h : WellAt st n) (h0 : 0 < xs.length) (h1 : xs.length < 1073741824) :
    ∃ x st', x ∈ xs ∧ F__law_choose [.ob n, .tup xs] st = .ok x st' ∧ Drawn n st st' := by
  obtain ⟨k, st', hk, e, hd⟩ := choose_at (items := .tup xs) (g := fun k => xs.getD k .non) h rfl h0 h1 fun k st' hk _ => by
    simp [atI_nat, List.getElem?_eq_getElem hk]
  refine ⟨_, st', ?_, e, hd⟩
  simp [List.getD_eq_getElem?_getD, List.getElem?_eq_getElem hk]
theorem choose_S {st : Store} {n : Nat} {x : Str} (h : WellAt st n) (h0 : 0 < x.length) (h1 : x.length ≤ 100000) :
    ∃ c st', F__law_choose [.ob n, .str x] st = .ok (.str ⟨#[c]⟩) st' ∧ Drawn n st st' := by
  obtain ⟨k, st', hk, e, hd⟩ := choose_at (items := .str x) (g := fun k => .str ⟨#[x.cps.toList.getD k 0]⟩) h (by simp [h1]) h0 (by omega) fun k st' hk _ => by
    have hk' : k < x.cps.size := hk
    simp [atI_nat, h1, hk']
  exact ⟨_, st', e, hd⟩
end DXP

namespace DXP
open PySem DX
section
variable {st : Store} {n : Nat}
/-! ### runs -/
theorem seq_nx {f g : SF} {ρ ρ' : Sl} {st st' : Store} (h : f ρ st = .nx ρ' st') : sSeq f g ρ st = g ρ' st' := by
  rw [ap_seq, h]
  rfl
theorem asg_run {fe : EF} {u : GF} {ρ ρ' : Sl} {st st1 st' : Store} {d : D} (h : fe ρ st = .ok d st1) (h2 : u d ρ st1 = some (ρ', st')) : sAsg fe u ρ st = .nx ρ' st' := by
  rw [ap_asg, h, bindS_ok, h2]
theorem if_f {t : TF} {f : SF} {ρ : Sl} {st st1 : Store} (h : t ρ st = .ok false st1) : sIf t f sNx ρ st = .nx ρ st1 := by
  rw [ap_sif, h]
  rfl
theorem for_run {it : AF} {u : GF} {f : SF} {ρ ρ' : Sl} {st st1 st' : Store} {xs : List D} (h : it ρ st = .ok xs st1) (h2 : sForL u f xs ρ st1 = .nx ρ' st') : sFor it u f ρ st = .nx ρ' st' := by
  unfold sFor
  rw [h, bindS_ok]
  exact h2
theorem call2 {F : FF} {f1 f2 : EF} {ρ : Sl} {a b r : D} {st' : Store} (h1 : f1 ρ st = .ok a st) (h2 : f2 ρ st = .ok b st) (hF : F [a, b] st = .ok r st') : eCall F (aCons f1 (aCons f2 aNil)) ρ st = .ok r st' := by
  simp only [ap_eCall, ap_aCons, ap_aNil, h1, h2, bind_ok, hF]
/-- a comprehension without a test whose items draw -/
theorem lcL_all {u : GF} {fe : EF} {ρ : Sl} (Inv : Store → Prop) (R : D → Prop) : ∀ (xs acc : List D) (st : Store), acc.length + xs.length ≤ 100000 → Inv st →
    (∀ x ∈ xs, ∀ st, Inv st → ∃ ρ1 d st2, u x ρ st = some (ρ1, st) ∧ fe ρ1 st = .ok d st2 ∧ Inv st2 ∧ R d) →
    ∃ ds st', lcL u tYesF fe ρ xs acc st = .ok (.lst (acc ++ ds)) st' ∧ Inv st' ∧ ds.length = xs.length ∧ ∀ d ∈ ds, R d
  | [], acc, st, _, hi, _ => ⟨[], st, by simp [lcL], hi, rfl, fun d hd => absurd hd (by simp)⟩
  | x :: xs, acc, st, hl, hi, h => by
    have hl' : acc.length + (xs.length + 1) ≤ 100000 := hl
    obtain ⟨ρ1, d, st2, h1, h2, h3, h4⟩ := h x (by simp) st hi
    obtain ⟨ds, st', e, i2, s, r⟩ := lcL_all Inv R xs (acc ++ [d]) st2 (by simp; omega) h3 fun y hy => h y (List.mem_cons_of_mem _ hy)
    refine ⟨d :: ds, st', ?_, i2, by simp [s], fun y hy => ?_⟩
    · unfold lcL
      rw [h1]
      dsimp only
      rw [show tYesF ρ1 st = .ok true st from rfl]
      dsimp only
      rw [h2]
      dsimp only
      rw [if_pos (by omega), e]
      simp
    · rcases List.mem_cons.mp hy with rfl | hy
      · exact h4
      · exact r y hy
/-! ### what is kept -/
def SOME : List D := [.int 0, .int 7, .str "a", .str "", .tup [.str "p", .int 1], .non, .int (-1), .int (10 ^ 38), .lst [.int 0], .dK [] [], .bl false, .tup [], .str "no name", .tup [.tup []]]
theorem some_run {ρ : Sl} : x__law_right_1 ρ st = .ok (.lst SOME) st := rfl
theorem items (h : WellAt st n) {y1 y2 : Option D} : ∃ ds st', x__law_right_3 (some (.ob n) :: some (.lst SOME) :: y1 :: y2 :: List.replicate 14 none) st = .ok (.lst ds) st' ∧ Drawn n st st' ∧ ds.length = 7 ∧ ∀ d ∈ ds, d ∈ SOME := by
  obtain ⟨ds, st', e, i, l, r⟩ := lcL_all (u := gSet 3) (fe := e__law_right_2) (ρ := some (.ob n) :: some (.lst SOME) :: y1 :: none :: List.replicate 14 none) (Drawn n st) (fun d => d ∈ SOME) (rng 0 7) [] st (by simp [rng]) (Drawn.refl h) fun x hx s1 hs => by
    obtain ⟨d, s2, hd, e2, w⟩ := choose_L (n := n) (xs := SOME) hs.at' (by decide) (by decide)
    exact ⟨_, d, s2, rfl, call2 rfl rfl e2, hs.trans w, hd⟩
  exact ⟨ds, st', e, i, by rw [l]; rfl, r⟩
theorem word (h : WellAt st n) {ρ : Sl} : ∃ w st', x__law_right_4 (some (.ob n) :: ρ) st = .ok w st' ∧ Drawn n st st' := by
  obtain ⟨d, s2, _, e2, w⟩ := choose_L (st := st) (n := n) (xs := [.str "", .str "why", .str "two words"]) h (by decide) (by decide)
  exact ⟨d, s2, call2 rfl rfl e2, w⟩
/-! ### what is shown -/
def Neat (d : D) : Prop := ∃ p, py1 d = some p ∧ p.showable = true ∧ p.shown.length ≤ 45 ∧ p.depth ≤ 3
theorem neat : ∀ d ∈ SOME, Neat d := by
  have key : SOME.all (fun d => match py1 d with | some p => p.showable && decide (p.shown.length ≤ 45) && decide (p.depth ≤ 3) | none => false) = true := by decide +kernel
  intro d hd
  have := List.all_eq_true.mp key d hd
  cases e : py1 d with
  | none => rw [e] at this; cases this
  | some p =>
    rw [e] at this
    simp only [Bool.and_eq_true, decide_eq_true_eq] at this
    exact ⟨p, e, this.1.1, this.1.2, this.2⟩
theorem neatL : ∀ (ds : List D), (∀ d ∈ ds, d ∈ SOME) → ∃ ps, py1L ds = some ps ∧ PyData.showableAll ps = true ∧ piled (PyData.shownAll ps) ≤ ds.length * 47 ∧ PyData.depthAll ps ≤ 3
  | [], _ => ⟨[], rfl, rfl, by show piled (PyData.shownAll []) ≤ _; unfold PyData.shownAll; exact Nat.le_refl _, by unfold PyData.depthAll; omega⟩
  | d :: ds, h => by
    obtain ⟨p, a1, a2, a3, a4⟩ := neat d (h d (by simp))
    obtain ⟨ps, b1, b2, b3, b4⟩ := neatL ds fun x hx => h x (List.mem_cons_of_mem _ hx)
    refine ⟨p :: ps, ?_, ?_, ?_, ?_⟩
    · unfold py1L
      rw [a1, b1]
    · rw [PyData.showableAll.eq_2, a2, b2]
      rfl
    · rw [PyData.shownAll.eq_2, piled_cons, List.length_cons]
      omega
    · rw [PyData.depthAll.eq_2]
      omega
theorem listText_most : ∀ ts : List Str, (listText ts).length ≤ piled ts + 2
  | [] => by
    rw [show listText [] = ("[]" : Str) from by decide +kernel]
    decide +kernel
  | t :: ts => by
    show (textFrom 1 (("[" : Str) ++ (if (0 : Nat) > 0 then ", " else "" : String) ++ t) ts ++ ("]" : Str)).length ≤ _
    rw [strLen_append, textFrom_length_pos _ _ _ (by omega), strLen_append, strLen_append, piled_cons]
    have e1 : (("[" : Str)).length = 1 := rfl
    have e2 : ((("" : String) : Str)).length = 0 := rfl
    have e3 : (("]" : Str)).length = 1 := rfl
    rw [if_neg (by decide), e1, e2, e3]
    omega
theorem repr_run {ds : List D} (h : ∀ d ∈ ds, d ∈ SOME) (hl : ds.length = 7) : ∃ z, reprE st (.lst ds) = some (.str z) := by
  obtain ⟨ps, a, b, c, e⟩ := neatL ds h
  have hc : canShow (.list ps) = true := by
    unfold canShow
    rw [Bool.and_eq_true, Bool.and_eq_true]
    refine ⟨⟨?_, decide_eq_true ?_⟩, decide_eq_true ?_⟩
    · rw [PyData.showable.eq_5]
      exact b
    · rw [PyData.shown.eq_5]
      have := listText_most (PyData.shownAll ps)
      omega
    · simp only [PyData.depth]
      omega
  refine ⟨listText (PyData.shownAll ps), ?_⟩
  unfold reprE
  rw [show seqL st (.lst ds) = some ds from rfl]
  dsimp only
  rw [a]
  dsimp only
  rw [if_pos hc]
theorem ne_str (z : Str) : bNeX ownNo 3 st (.str z) (.str z) = some (.bl false) := by
  unfold bNeX
  rw [eqX_D (eqD_of (p := .str z) (q := .str z) rfl rfl (by simp only [PyData.depth]; omega)), show PyData.eqv (.str z) (.str z) = true by simp [PyData.eqv]]
  rfl
/-! ### the parts of the law -/
abbrev E0 (c : String) : D := .exc c [] []
abbrev MSG : List D := [E0 "AnswerError", E0 "InvalidProgram", E0 "InvalidMode", E0 "InvalidTable", E0 "InvalidRun", E0 "InvalidFact", E0 "InvalidDerivation", E0 "InvalidOperation", E0 "InvalidCommand"]
abbrev TG : GF := gOr (gTupF 2 (gsCons (gSet 5) (gsCons (gSet 6) gsNil))) (gLstF 2 (gsCons (gSet 5) (gsCons (gSet 6) gsNil)))
/-- what stands in the slots behind the first loop -/
abbrev R1 (n : Nat) (ds : List D) (w : D) (y5 y6 y7 : Option D) (r : Sl) : Sl := some (.ob n) :: some (.lst SOME) :: some (.lst ds) :: none :: some w :: y5 :: y6 :: y7 :: none :: r
theorem loop1 {ds : List D} {w : D} : sFor i__law_right_7 TG l__law_right_8 (R1 n ds w none none none (List.replicate 9 none)) st = .nx (R1 n ds w (some (.int 8)) (some (E0 "InvalidCommand")) (some (.lst [.bl true, .bl false, .bl false, .bl false, .bl false, .bl false, .bl false, .bl false, .bl true, .bl false, .bl true])) (List.replicate 9 none)) st := by kernel_rfl
abbrev E1 (c : String) (f : Str) (d : D) : D := .exc c [f] [d]
/-- .. behind the making of the seven -/
abbrev R2 (n : Nat) (w y5 y6 y7 : Option D) (d0 d1 d2 d3 d4 d5 d6 : D) (r : Sl) : Sl := some (.ob n) :: some (.lst SOME) :: some (.lst [d0, d1, d2, d3, d4, d5, d6]) :: none :: w :: y5 :: y6 :: y7 :: none :: some (E1 "ParseError" "line" d0) :: some (E1 "UnknownName" "name" d1) :: some (E1 "UnknownSite" "site" d2) :: some (E1 "InvalidNumber" "value" d3) :: some (E1 "NothingToUndo" "many" d4) :: some (E1 "Refused" "name" d5) :: some (E1 "TooMany" "limit" d6) :: r
section
variable {w y5 y6 y7 : Option D} {d0 d1 d2 d3 d4 d5 d6 : D}
theorem parse_run {r : Sl} : sAsg x__law_right_9 (gSet 9) (some (.ob n) :: some (.lst SOME) :: some (.lst [d0, d1, d2, d3, d4, d5, d6]) :: none :: w :: y5 :: y6 :: y7 :: none :: none :: r) st = .nx (some (.ob n) :: some (.lst SOME) :: some (.lst [d0, d1, d2, d3, d4, d5, d6]) :: none :: w :: y5 :: y6 :: y7 :: none :: some (E1 "ParseError" "line" d0) :: r) st := by kernel_rfl
theorem parse_is {r : Sl} : t__law_right_10 (some (.ob n) :: some (.lst SOME) :: some (.lst [d0, d1, d2, d3, d4, d5, d6]) :: none :: w :: y5 :: y6 :: y7 :: none :: some (E1 "ParseError" "line" d0) :: r) st = .ok false st := by kernel_rfl
theorem three1 {r : Sl} : sPar3 10 11 12 a__law_right_11 (some (.ob n) :: some (.lst SOME) :: some (.lst [d0, d1, d2, d3, d4, d5, d6]) :: none :: w :: y5 :: y6 :: y7 :: none :: some (E1 "ParseError" "line" d0) :: none :: none :: none :: r) st = .nx (some (.ob n) :: some (.lst SOME) :: some (.lst [d0, d1, d2, d3, d4, d5, d6]) :: none :: w :: y5 :: y6 :: y7 :: none :: some (E1 "ParseError" "line" d0) :: some (E1 "UnknownName" "name" d1) :: some (E1 "UnknownSite" "site" d2) :: some (E1 "InvalidNumber" "value" d3) :: r) st := by kernel_rfl
theorem three2 {y16 y17 : Option D} : sPar3 13 14 15 a__law_right_12 [some (.ob n), some (.lst SOME), some (.lst [d0, d1, d2, d3, d4, d5, d6]), none, w, y5, y6, y7, none, some (E1 "ParseError" "line" d0), some (E1 "UnknownName" "name" d1), some (E1 "UnknownSite" "site" d2), some (E1 "InvalidNumber" "value" d3), none, none, none, y16, y17] st = .nx (R2 n w y5 y6 y7 d0 d1 d2 d3 d4 d5 d6 [y16, y17]) st := by kernel_rfl
theorem told_run {y16 y17 : Option D} : x__law_right_13 (R2 n w y5 y6 y7 d0 d1 d2 d3 d4 d5 d6 [y16, y17]) st = .ok (.lst [d0, d1, d2, d3, d4, d5, d6]) st := by kernel_rfl
theorem told_is {y17 : Option D} (h : ∀ d ∈ [d0, d1, d2, d3, d4, d5, d6], d ∈ SOME) : t__law_right_14 (R2 n w y5 y6 y7 d0 d1 d2 d3 d4 d5 d6 [some (.lst [d0, d1, d2, d3, d4, d5, d6]), y17]) st = .ok false st := by
  obtain ⟨z, e⟩ := repr_run (st := st) h rfl
  have a16 : aCall (one reprE) (aCons (eVar 16) aNil) (R2 n w y5 y6 y7 d0 d1 d2 d3 d4 d5 d6 [some (.lst [d0, d1, d2, d3, d4, d5, d6]), y17]) st = .ok (.str z) st := by
    show Res.of (reprE st (.lst [d0, d1, d2, d3, d4, d5, d6])) st = _
    rw [e]
    rfl
  have a2 : aCall (one reprE) (aCons (eVar 2) aNil) (R2 n w y5 y6 y7 d0 d1 d2 d3 d4 d5 d6 [some (.lst [d0, d1, d2, d3, d4, d5, d6]), y17]) st = .ok (.str z) st := by
    show Res.of (reprE st (.lst [d0, d1, d2, d3, d4, d5, d6])) st = _
    rw [e]
    rfl
  unfold t__law_right_14
  rw [ap_tV, ap_op, a16, bind_ok, a2, bind_ok, ne_str]
  rfl
def PY : List D := [.lst [.bl true, .bl false, .bl true, .bl false, .bl false], .lst [.bl true, .bl false, .bl true, .bl false, .bl false], .lst [.bl false, .bl true, .bl true, .bl false, .bl false], .lst [.bl false, .bl false, .bl true, .bl false, .bl false], .lst [.bl false, .bl false, .bl false, .bl true, .bl false], .lst [.bl false, .bl false, .bl false, .bl true, .bl true]]
theorem py1_run {y16 y17 : Option D} : x__law_right_15 (R2 n w y5 y6 y7 d0 d1 d2 d3 d4 d5 d6 [y16, y17]) st = .ok (.lst (PY.take 3)) st := by kernel_rfl
theorem py2_run {y16 : Option D} : x__law_right_16 (R2 n w y5 y6 y7 d0 d1 d2 d3 d4 d5 d6 [y16, some (.lst (PY.take 3))]) st = .ok (.ob st.length) (st ++ [.lst (PY.take 5)]) := by kernel_rfl
theorem py3_run {y16 : Option D} {k : Nat} (h : st[k]? = some (.lst (PY.take 5))) : sDrop x__law_right_17 (R2 n w y5 y6 y7 d0 d1 d2 d3 d4 d5 d6 [y16, some (.ob k)]) st = .nx (R2 n w y5 y6 y7 d0 d1 d2 d3 d4 d5 d6 [y16, some (.ob k)]) (st.set k (.lst PY)) := by
  have e : x__law_right_17 (R2 n w y5 y6 y7 d0 d1 d2 d3 d4 d5 d6 [y16, some (.ob k)]) st = .ok .non (st.set k (.lst PY)) := by
    unfold x__law_right_17
    rw [ap_wr1]
    show (Res.ok (D.ob k) st).bind _ = _
    rw [bind_ok]
    have e2 : eLst (aCons (eC (.bl false)) (aCons (eC (.bl false)) (aCons (eC (.bl false)) (aCons (eC (.bl true)) (aCons (eC (.bl true)) aNil))))) (R2 n w y5 y6 y7 d0 d1 d2 d3 d4 d5 d6 [y16, some (.ob k)]) st = .ok (PY.getD 5 .non) st := by kernel_rfl
    have il : isLst st k = true := by
      unfold isLst
      rw [h]
    dsimp only
    rw [e2, if_pos il, bind_ok, h]
    rfl
  unfold sDrop
  rw [e]
  rfl
theorem turn0 {y16 : Option D} {k : Nat} (h : st[k]? = some (.lst PY)) : l__law_right_21 (R2 n w (some (.int 0)) (some (E1 "UnknownName" "name" d1)) y7 d0 d1 d2 d3 d4 d5 d6 [y16, some (.ob k)]) st = .nx (R2 n w (some (.int 0)) (some (E1 "UnknownName" "name" d1)) (some (.lst [.bl true, .bl false, .bl false, .bl false, .bl false, .bl false, .bl true, .bl false, .bl true, .bl false, .bl false])) d0 d1 d2 d3 d4 d5 d6 [y16, some (.ob k)]) st := by
  have e : x__law_right_18 (R2 n w (some (.int 0)) (some (E1 "UnknownName" "name" d1)) y7 d0 d1 d2 d3 d4 d5 d6 [y16, some (.ob k)]) st = .ok (.lst [.bl true, .bl false, .bl false, .bl false, .bl false, .bl false, .bl true, .bl false, .bl true, .bl false, .bl false]) st := by
    unfold x__law_right_18
    have e1 : lcF (itRange1 (eC (.int 6))) (gSet 8) tYesF (eOp (bEqX ownNo 3) (eVar 8) (eVar 5)) [8] (R2 n w (some (.int 0)) (some (E1 "UnknownName" "name" d1)) y7 d0 d1 d2 d3 d4 d5 d6 [y16, some (.ob k)]) st = .ok (.lst [.bl true, .bl false, .bl false, .bl false, .bl false, .bl false]) st := by kernel_rfl
    have e2 : eOp ixD (eVar 17) (eVar 5) (R2 n w (some (.int 0)) (some (E1 "UnknownName" "name" d1)) y7 d0 d1 d2 d3 d4 d5 d6 [y16, some (.ob k)]) st = .ok (.lst [.bl true, .bl false, .bl true, .bl false, .bl false]) st := by
      show Res.of (ixD st (.ob k) (.int 0)) st = _
      rw [ix_O h]
      kernel_rfl
    rw [ap_op, e1, bind_ok, e2, bind_ok]
    kernel_rfl
  exact (seq_nx (asg_run e rfl)).trans (if_f (by kernel_rfl))
theorem turn1 {y16 : Option D} {k : Nat} (h : st[k]? = some (.lst PY)) : l__law_right_21 (R2 n w (some (.int 1)) (some (E1 "UnknownSite" "site" d2)) y7 d0 d1 d2 d3 d4 d5 d6 [y16, some (.ob k)]) st = .nx (R2 n w (some (.int 1)) (some (E1 "UnknownSite" "site" d2)) (some (.lst [.bl false, .bl true, .bl false, .bl false, .bl false, .bl false, .bl true, .bl false, .bl true, .bl false, .bl false])) d0 d1 d2 d3 d4 d5 d6 [y16, some (.ob k)]) st := by
  have e : x__law_right_18 (R2 n w (some (.int 1)) (some (E1 "UnknownSite" "site" d2)) y7 d0 d1 d2 d3 d4 d5 d6 [y16, some (.ob k)]) st = .ok (.lst [.bl false, .bl true, .bl false, .bl false, .bl false, .bl false, .bl true, .bl false, .bl true, .bl false, .bl false]) st := by
    unfold x__law_right_18
    have e1 : lcF (itRange1 (eC (.int 6))) (gSet 8) tYesF (eOp (bEqX ownNo 3) (eVar 8) (eVar 5)) [8] (R2 n w (some (.int 1)) (some (E1 "UnknownSite" "site" d2)) y7 d0 d1 d2 d3 d4 d5 d6 [y16, some (.ob k)]) st = .ok (.lst [.bl false, .bl true, .bl false, .bl false, .bl false, .bl false]) st := by kernel_rfl
    have e2 : eOp ixD (eVar 17) (eVar 5) (R2 n w (some (.int 1)) (some (E1 "UnknownSite" "site" d2)) y7 d0 d1 d2 d3 d4 d5 d6 [y16, some (.ob k)]) st = .ok (.lst [.bl true, .bl false, .bl true, .bl false, .bl false]) st := by
      show Res.of (ixD st (.ob k) (.int 1)) st = _
      rw [ix_O h]
      kernel_rfl
    rw [ap_op, e1, bind_ok, e2, bind_ok]
    kernel_rfl
  exact (seq_nx (asg_run e rfl)).trans (if_f (by kernel_rfl))
theorem turn2 {y16 : Option D} {k : Nat} (h : st[k]? = some (.lst PY)) : l__law_right_21 (R2 n w (some (.int 2)) (some (E1 "InvalidNumber" "value" d3)) y7 d0 d1 d2 d3 d4 d5 d6 [y16, some (.ob k)]) st = .nx (R2 n w (some (.int 2)) (some (E1 "InvalidNumber" "value" d3)) (some (.lst [.bl false, .bl false, .bl true, .bl false, .bl false, .bl false, .bl false, .bl true, .bl true, .bl false, .bl false])) d0 d1 d2 d3 d4 d5 d6 [y16, some (.ob k)]) st := by
  have e : x__law_right_18 (R2 n w (some (.int 2)) (some (E1 "InvalidNumber" "value" d3)) y7 d0 d1 d2 d3 d4 d5 d6 [y16, some (.ob k)]) st = .ok (.lst [.bl false, .bl false, .bl true, .bl false, .bl false, .bl false, .bl false, .bl true, .bl true, .bl false, .bl false]) st := by
    unfold x__law_right_18
    have e1 : lcF (itRange1 (eC (.int 6))) (gSet 8) tYesF (eOp (bEqX ownNo 3) (eVar 8) (eVar 5)) [8] (R2 n w (some (.int 2)) (some (E1 "InvalidNumber" "value" d3)) y7 d0 d1 d2 d3 d4 d5 d6 [y16, some (.ob k)]) st = .ok (.lst [.bl false, .bl false, .bl true, .bl false, .bl false, .bl false]) st := by kernel_rfl
    have e2 : eOp ixD (eVar 17) (eVar 5) (R2 n w (some (.int 2)) (some (E1 "InvalidNumber" "value" d3)) y7 d0 d1 d2 d3 d4 d5 d6 [y16, some (.ob k)]) st = .ok (.lst [.bl false, .bl true, .bl true, .bl false, .bl false]) st := by
      show Res.of (ixD st (.ob k) (.int 2)) st = _
      rw [ix_O h]
      kernel_rfl
    rw [ap_op, e1, bind_ok, e2, bind_ok]
    kernel_rfl
  exact (seq_nx (asg_run e rfl)).trans (if_f (by kernel_rfl))
theorem turn3 {y16 : Option D} {k : Nat} (h : st[k]? = some (.lst PY)) : l__law_right_21 (R2 n w (some (.int 3)) (some (E1 "NothingToUndo" "many" d4)) y7 d0 d1 d2 d3 d4 d5 d6 [y16, some (.ob k)]) st = .nx (R2 n w (some (.int 3)) (some (E1 "NothingToUndo" "many" d4)) (some (.lst [.bl false, .bl false, .bl false, .bl true, .bl false, .bl false, .bl false, .bl false, .bl true, .bl false, .bl false])) d0 d1 d2 d3 d4 d5 d6 [y16, some (.ob k)]) st := by
  have e : x__law_right_18 (R2 n w (some (.int 3)) (some (E1 "NothingToUndo" "many" d4)) y7 d0 d1 d2 d3 d4 d5 d6 [y16, some (.ob k)]) st = .ok (.lst [.bl false, .bl false, .bl false, .bl true, .bl false, .bl false, .bl false, .bl false, .bl true, .bl false, .bl false]) st := by
    unfold x__law_right_18
    have e1 : lcF (itRange1 (eC (.int 6))) (gSet 8) tYesF (eOp (bEqX ownNo 3) (eVar 8) (eVar 5)) [8] (R2 n w (some (.int 3)) (some (E1 "NothingToUndo" "many" d4)) y7 d0 d1 d2 d3 d4 d5 d6 [y16, some (.ob k)]) st = .ok (.lst [.bl false, .bl false, .bl false, .bl true, .bl false, .bl false]) st := by kernel_rfl
    have e2 : eOp ixD (eVar 17) (eVar 5) (R2 n w (some (.int 3)) (some (E1 "NothingToUndo" "many" d4)) y7 d0 d1 d2 d3 d4 d5 d6 [y16, some (.ob k)]) st = .ok (.lst [.bl false, .bl false, .bl true, .bl false, .bl false]) st := by
      show Res.of (ixD st (.ob k) (.int 3)) st = _
      rw [ix_O h]
      kernel_rfl
    rw [ap_op, e1, bind_ok, e2, bind_ok]
    kernel_rfl
  exact (seq_nx (asg_run e rfl)).trans (if_f (by kernel_rfl))
theorem turn4 {y16 : Option D} {k : Nat} (h : st[k]? = some (.lst PY)) : l__law_right_21 (R2 n w (some (.int 4)) (some (E1 "Refused" "name" d5)) y7 d0 d1 d2 d3 d4 d5 d6 [y16, some (.ob k)]) st = .nx (R2 n w (some (.int 4)) (some (E1 "Refused" "name" d5)) (some (.lst [.bl false, .bl false, .bl false, .bl false, .bl true, .bl false, .bl false, .bl false, .bl false, .bl true, .bl false])) d0 d1 d2 d3 d4 d5 d6 [y16, some (.ob k)]) st := by
  have e : x__law_right_18 (R2 n w (some (.int 4)) (some (E1 "Refused" "name" d5)) y7 d0 d1 d2 d3 d4 d5 d6 [y16, some (.ob k)]) st = .ok (.lst [.bl false, .bl false, .bl false, .bl false, .bl true, .bl false, .bl false, .bl false, .bl false, .bl true, .bl false]) st := by
    unfold x__law_right_18
    have e1 : lcF (itRange1 (eC (.int 6))) (gSet 8) tYesF (eOp (bEqX ownNo 3) (eVar 8) (eVar 5)) [8] (R2 n w (some (.int 4)) (some (E1 "Refused" "name" d5)) y7 d0 d1 d2 d3 d4 d5 d6 [y16, some (.ob k)]) st = .ok (.lst [.bl false, .bl false, .bl false, .bl false, .bl true, .bl false]) st := by kernel_rfl
    have e2 : eOp ixD (eVar 17) (eVar 5) (R2 n w (some (.int 4)) (some (E1 "Refused" "name" d5)) y7 d0 d1 d2 d3 d4 d5 d6 [y16, some (.ob k)]) st = .ok (.lst [.bl false, .bl false, .bl false, .bl true, .bl false]) st := by
      show Res.of (ixD st (.ob k) (.int 4)) st = _
      rw [ix_O h]
      kernel_rfl
    rw [ap_op, e1, bind_ok, e2, bind_ok]
    kernel_rfl
  exact (seq_nx (asg_run e rfl)).trans (if_f (by kernel_rfl))
theorem turn5 {y16 : Option D} {k : Nat} (h : st[k]? = some (.lst PY)) : l__law_right_21 (R2 n w (some (.int 5)) (some (E1 "TooMany" "limit" d6)) y7 d0 d1 d2 d3 d4 d5 d6 [y16, some (.ob k)]) st = .nx (R2 n w (some (.int 5)) (some (E1 "TooMany" "limit" d6)) (some (.lst [.bl false, .bl false, .bl false, .bl false, .bl false, .bl true, .bl false, .bl false, .bl false, .bl true, .bl true])) d0 d1 d2 d3 d4 d5 d6 [y16, some (.ob k)]) st := by
  have e : x__law_right_18 (R2 n w (some (.int 5)) (some (E1 "TooMany" "limit" d6)) y7 d0 d1 d2 d3 d4 d5 d6 [y16, some (.ob k)]) st = .ok (.lst [.bl false, .bl false, .bl false, .bl false, .bl false, .bl true, .bl false, .bl false, .bl false, .bl true, .bl true]) st := by
    unfold x__law_right_18
    have e1 : lcF (itRange1 (eC (.int 6))) (gSet 8) tYesF (eOp (bEqX ownNo 3) (eVar 8) (eVar 5)) [8] (R2 n w (some (.int 5)) (some (E1 "TooMany" "limit" d6)) y7 d0 d1 d2 d3 d4 d5 d6 [y16, some (.ob k)]) st = .ok (.lst [.bl false, .bl false, .bl false, .bl false, .bl false, .bl true]) st := by kernel_rfl
    have e2 : eOp ixD (eVar 17) (eVar 5) (R2 n w (some (.int 5)) (some (E1 "TooMany" "limit" d6)) y7 d0 d1 d2 d3 d4 d5 d6 [y16, some (.ob k)]) st = .ok (.lst [.bl false, .bl false, .bl false, .bl true, .bl true]) st := by
      show Res.of (ixD st (.ob k) (.int 5)) st = _
      rw [ix_O h]
      kernel_rfl
    rw [ap_op, e1, bind_ok, e2, bind_ok]
    kernel_rfl
  exact (seq_nx (asg_run e rfl)).trans (if_f (by kernel_rfl))
theorem loop2 {y16 : Option D} {k : Nat} (h : st[k]? = some (.lst PY)) : ∃ y5' y6' y7', sFor i__law_right_20 TG l__law_right_21 (R2 n w y5 y6 y7 d0 d1 d2 d3 d4 d5 d6 [y16, some (.ob k)]) st = .nx (R2 n w y5' y6' y7' d0 d1 d2 d3 d4 d5 d6 [y16, some (.ob k)]) st := by
  refine ⟨some (.int 5), some (E1 "TooMany" "limit" d6), some (.lst [.bl false, .bl false, .bl false, .bl false, .bl false, .bl true, .bl false, .bl false, .bl false, .bl true, .bl true]), for_run (st1 := st) (xs := enumD [E1 "UnknownName" "name" d1, E1 "UnknownSite" "site" d2, E1 "InvalidNumber" "value" d3, E1 "NothingToUndo" "many" d4, E1 "Refused" "name" d5, E1 "TooMany" "limit" d6]) (by kernel_rfl) ?_⟩
  have step : ∀ {x : D} {xs : List D} {ρ ρ1 ρ2 : Sl}, TG x ρ st = some (ρ1, st) → l__law_right_21 ρ1 st = .nx ρ2 st → sForL TG l__law_right_21 (x :: xs) ρ st = sForL TG l__law_right_21 xs ρ2 st := fun h1 h2 => by
    rw [forL_cons, h1]
    dsimp only
    rw [h2]
  exact (step rfl (turn0 h)).trans ((step rfl (turn1 h)).trans ((step rfl (turn2 h)).trans ((step rfl (turn3 h)).trans ((step rfl (turn4 h)).trans (step rfl (turn5 h))))))
end
theorem right_run (h : WellAt st n) : ∃ st', F__law_right [.ob n] st = .ok (.bl true) st' := by
  obtain ⟨ds, s1, e1, w1, l, hd⟩ := items (y1 := none) (y2 := none) h
  obtain ⟨w, s2, e2, w2⟩ := word (ρ := some (.lst SOME) :: some (.lst ds) :: List.replicate 15 none) w1.at'
  match ds, l, hd with
  | [d0, d1, d2, d3, d4, d5, d6], _, hd =>
  have at2 : (s2 ++ [O.lst (PY.take 5)])[s2.length]? = some (.lst (PY.take 5)) := by simp
  have at3 : ((s2 ++ [O.lst (PY.take 5)]).set s2.length (.lst PY))[s2.length]? = some (.lst PY) := by simp
  obtain ⟨y5, y6, y7, e3⟩ := loop2 (n := n) (w := some w) (y5 := some (.int 8)) (y6 := some (E0 "InvalidCommand")) (y7 := some (.lst [.bl true, .bl false, .bl false, .bl false, .bl false, .bl false, .bl false, .bl false, .bl true, .bl false, .bl true])) (d0 := d0) (d1 := d1) (d2 := d2) (d3 := d3) (d4 := d4) (d5 := d5) (d6 := d6) (y16 := some (.lst [d0, d1, d2, d3, d4, d5, d6])) at3
  refine ⟨(s2 ++ [O.lst (PY.take 5)]).set s2.length (.lst PY), fDef_rt (ρ := some (.ob n) :: List.replicate 17 none) rfl rfl ?_⟩
  unfold b__law_right
  refine (seq_nx (asg_run some_run rfl)).trans ?_
  refine (seq_nx (asg_run e1 rfl)).trans ?_
  refine (seq_nx (asg_run e2 rfl)).trans ?_
  refine (seq_nx loop1).trans ?_
  refine (seq_nx parse_run).trans ?_
  refine (seq_nx (if_f parse_is)).trans ?_
  refine (seq_nx three1).trans ?_
  refine (seq_nx three2).trans ?_
  refine (seq_nx (asg_run told_run rfl)).trans ?_
  refine (seq_nx (if_f (told_is hd))).trans ?_
  refine (seq_nx (asg_run py1_run rfl)).trans ?_
  refine (seq_nx (asg_run py2_run rfl)).trans ?_
  refine (seq_nx (py3_run at2)).trans ?_
  refine (seq_nx e3).trans ?_
  rfl
theorem law_turn (ns : List Int) (i : Nat) : ∃ st', l_law_3 [some (.rd (ns.map .int)), some (.int (i : Int))] st = .nx [some (.rd (ns.map .int)), some (.int (i : Int))] st' := by
  obtain ⟨a, b, c, e, ha⟩ := well ns i st
  have w : WellAt (st ++ [wellO a b c]) st.length := ⟨a, b, c, by simp, ha⟩
  obtain ⟨s2, e2⟩ := right_run w
  refine ⟨s2, if_f ?_⟩
  simp only [t_law_1, ap_tNot, ap_tV, ap_eCall, ap_aCons, ap_aNil, ap_varS, ap_var0, bind_ok, e, e2, Bool.not_true]
theorem law_range (ns : List Int) (hl : ns.length ≤ 63) {ρ : Sl} : ∃ k : Nat, i_law_2 (some (.rd (ns.map .int)) :: ρ) st = .ok (rng 0 k) st := by
  have e : ∃ v : Int, v ≤ 100 ∧ 0 ≤ v ∧ aCall (two max2D) (aCons (eC (.int 1)) (aCons (aCall (two min2D) (aCons (eC (.int 8)) (aCons (aCall (one lenD) (aCons (eVar 0) aNil)) aNil))) aNil)) (some (.rd (ns.map .int)) :: ρ) st = .ok (.int v) st := by
    refine ⟨if (if ((ns.map D.int).length : Int) < 8 then ((ns.map D.int).length : Int) else 8) > 1 then (if ((ns.map D.int).length : Int) < 8 then ((ns.map D.int).length : Int) else 8) else 1, ?_, ?_, by simp only [ap_aCall, ap_aCons, ap_aNil, ap_c, ap_var0, bind_ok, one_1, len_R, two_2, min_II, max_II, of_some]⟩
    · rw [List.length_map]
      split <;> split <;> omega
    · rw [List.length_map]
      split <;> split <;> omega
  obtain ⟨v, h1, h2, e⟩ := e
  refine ⟨v.toNat, ?_⟩
  unfold i_law_2
  rw [ap_itRange1, e, bind_ok]
  dsimp only
  have : small v = true := by
    unfold small
    exact decide_eq_true (by omega)
  rw [if_pos this]
theorem rng_is (t : Nat) : rng 0 t = (List.range t).map fun i : Nat => D.int (i : Int) := by
  unfold rng
  refine List.map_congr_left fun i _ => ?_
  rw [Int.zero_add]
theorem law_holds (ns : List Int) (hl : ns.length ≤ 63) : ∃ st, F_law [.rd (ns.map .int)] [] = .ok (.bl true) st := by
  obtain ⟨k, e⟩ := law_range (st := []) ns hl (ρ := [none])
  obtain ⟨ρ', s', e2, y1, hρ⟩ := forL_inv (u := gSet 1) (f := l_law_3) (fun ρ _ => ∃ y1, ρ = [some (.rd (ns.map .int)), y1]) (rng 0 k) [some (.rd (ns.map .int)), none] [] ⟨_, rfl⟩ fun x hx ρ s hi => by
    obtain ⟨y1, rfl⟩ := hi
    rw [rng_is] at hx
    obtain ⟨i, _, rfl⟩ := List.mem_map.mp hx
    obtain ⟨s2, e2⟩ := law_turn (st := s) ns i
    exact ⟨_, s, _, s2, rfl, .inl e2, _, rfl⟩
  refine ⟨s', fDef_rt (ρ := [some (.rd (ns.map .int)), none]) rfl rfl ?_⟩
  unfold b_law
  exact (seq_nx (for_run e e2)).trans rfl
end
end DXP

open PySem PySem.W PyProof.Rows DX
set_option maxRecDepth 100000 in
set_option maxHeartbeats 0 in
theorem PySem.Challenge.cw_answeredabove_k00_errors_and_what_they_k_holds : PySem.Challenge.rw_answeredabove_k00_errors_and_what_they_k.Holds := by
  w_on; o_law; k_head; (case hw => w_witness2)
  k_fill
  refine DX.walk_D (l := PySem.Challenge.rw_answeredabove_k00_errors_and_what_they_k) (k := 7) (F := DXP.F_law) rfl rfl ⟨rfl, by decide, by decide⟩ (fun w h Y => PySem.W.kIn_of Y) ?F DXP.law_holds
  case F =>
    intro _ w mg fa h KX G hmg
    refine' DXP.all_mk KX G hmg ?l_InvalidNumber___init__ ?c_InvalidNumber___init__ ?k_InvalidNumber___init__ ?l_NothingToUndo___init__ ?c_NothingToUndo___init__ ?k_NothingToUndo___init__ ?l_ParseError___init__ ?c_ParseError___init__ ?k_ParseError___init__ ?l_Refused___init__ ?c_Refused___init__ ?k_Refused___init__ ?l_TooMany___init__ ?c_TooMany___init__ ?k_TooMany___init__ ?l_UnknownName___init__ ?c_UnknownName___init__ ?k_UnknownName___init__ ?l_UnknownSite___init__ ?c_UnknownSite___init__ ?k_UnknownSite___init__ ?a__law_dip ?l__law_dip ?c__law_dip ?k__law_dip ?a__law_choose ?l__law_choose ?c__law_choose ?k__law_choose ?a__law_kinds ?l__law_kinds ?c__law_kinds ?k__law_kinds ?a__law_messages ?l__law_messages ?c__law_messages ?k__law_messages ?a__law_others ?l__law_others ?c__law_others ?k__law_others ?a__law_right ?l__law_right ?c__law_right ?k__law_right ?a__law_well ?l__law_well ?c__law_well ?k__law_well ?a_law ?l_law ?c_law ?k_law ?z_ArithmeticError ?z_IndexError ?z_KeyError ?z_LookupError ?z_OverflowError ?z_ValueError ?z_abs ?z_enumerate ?z_int ?z_isinstance ?z_len ?z_max ?z_min ?z_range ?z_repr ?x_AnswerError ?x_InvalidProgram ?x_InvalidMode ?x_InvalidTable ?x_InvalidRun ?x_InvalidFact ?x_InvalidDerivation ?x_InvalidOperation ?x_InvalidCommand ?x_ParseError ?x_UnknownName ?x_UnknownSite ?x_InvalidNumber ?x_NothingToUndo ?x_Refused ?x_TooMany ?ie_InvalidMode1 ?ie_InvalidMode2 ?ie_InvalidMode_AnswerError ?ne_AnswerError_InvalidMode ?ie_InvalidMode_InvalidProgram ?ne_InvalidProgram_InvalidMode ?ie_InvalidMode_InvalidMode ?ie_InvalidMode_InvalidTable ?ne_InvalidTable_InvalidMode ?ie_InvalidMode_InvalidRun ?ne_InvalidRun_InvalidMode ?ie_InvalidMode_InvalidFact ?ne_InvalidFact_InvalidMode ?ie_InvalidMode_InvalidDerivation ?ne_InvalidDerivation_InvalidMode ?ie_InvalidMode_InvalidOperation ?ne_InvalidOperation_InvalidMode ?ie_InvalidMode_InvalidCommand ?ne_InvalidCommand_InvalidMode ?ie_InvalidMode_ParseError ?ne_ParseError_InvalidMode ?ie_InvalidMode_UnknownName ?ne_UnknownName_InvalidMode ?ie_InvalidMode_UnknownSite ?ne_UnknownSite_InvalidMode ?ie_InvalidMode_InvalidNumber ?ne_InvalidNumber_InvalidMode ?ie_InvalidMode_NothingToUndo ?ne_NothingToUndo_InvalidMode ?ie_InvalidMode_Refused ?ne_Refused_InvalidMode ?ie_InvalidMode_TooMany ?ne_TooMany_InvalidMode ?ie_InvalidProgram1 ?ie_InvalidProgram2 ?ie_InvalidProgram_AnswerError ?ne_AnswerError_InvalidProgram ?ie_InvalidProgram_InvalidProgram ?ie_InvalidProgram_InvalidMode ?ne_InvalidMode_InvalidProgram ?ie_InvalidProgram_InvalidTable ?ne_InvalidTable_InvalidProgram ?ie_InvalidProgram_InvalidRun ?ne_InvalidRun_InvalidProgram ?ie_InvalidProgram_InvalidFact ?ne_InvalidFact_InvalidProgram ?ie_InvalidProgram_InvalidDerivation ?ne_InvalidDerivation_InvalidProgram ?ie_InvalidProgram_InvalidOperation ?ne_InvalidOperation_InvalidProgram ?ie_InvalidProgram_InvalidCommand ?ne_InvalidCommand_InvalidProgram ?ie_InvalidProgram_ParseError ?ne_ParseError_InvalidProgram ?ie_InvalidProgram_UnknownName ?ne_UnknownName_InvalidProgram ?ie_InvalidProgram_UnknownSite ?ne_UnknownSite_InvalidProgram ?ie_InvalidProgram_InvalidNumber ?ne_InvalidNumber_InvalidProgram ?ie_InvalidProgram_NothingToUndo ?ne_NothingToUndo_InvalidProgram ?ie_InvalidProgram_Refused ?ne_Refused_InvalidProgram ?ie_InvalidProgram_TooMany ?ne_TooMany_InvalidProgram ?ie_AnswerError1 ?ie_AnswerError2 ?ie_AnswerError_AnswerError ?ie_AnswerError_InvalidProgram ?ie_AnswerError_InvalidMode ?ie_AnswerError_InvalidTable ?ie_AnswerError_InvalidRun ?ie_AnswerError_InvalidFact ?ie_AnswerError_InvalidDerivation ?ie_AnswerError_InvalidOperation ?ie_AnswerError_InvalidCommand ?ie_AnswerError_ParseError ?ie_AnswerError_UnknownName ?ne_UnknownName_AnswerError ?ie_AnswerError_UnknownSite ?ne_UnknownSite_AnswerError ?ie_AnswerError_InvalidNumber ?ne_InvalidNumber_AnswerError ?ie_AnswerError_NothingToUndo ?ne_NothingToUndo_AnswerError ?ie_AnswerError_Refused ?ne_Refused_AnswerError ?ie_AnswerError_TooMany ?ne_TooMany_AnswerError ?ie_InvalidFact1 ?ie_InvalidFact2 ?ie_InvalidFact_AnswerError ?ne_AnswerError_InvalidFact ?ie_InvalidFact_InvalidProgram ?ne_InvalidProgram_InvalidFact ?ie_InvalidFact_InvalidMode ?ne_InvalidMode_InvalidFact ?ie_InvalidFact_InvalidTable ?ne_InvalidTable_InvalidFact ?ie_InvalidFact_InvalidRun ?ne_InvalidRun_InvalidFact ?ie_InvalidFact_InvalidFact ?ie_InvalidFact_InvalidDerivation ?ne_InvalidDerivation_InvalidFact ?ie_InvalidFact_InvalidOperation ?ne_InvalidOperation_InvalidFact ?ie_InvalidFact_InvalidCommand ?ne_InvalidCommand_InvalidFact ?ie_InvalidFact_ParseError ?ne_ParseError_InvalidFact ?ie_InvalidFact_UnknownName ?ne_UnknownName_InvalidFact ?ie_InvalidFact_UnknownSite ?ne_UnknownSite_InvalidFact ?ie_InvalidFact_InvalidNumber ?ne_InvalidNumber_InvalidFact ?ie_InvalidFact_NothingToUndo ?ne_NothingToUndo_InvalidFact ?ie_InvalidFact_Refused ?ne_Refused_InvalidFact ?ie_InvalidFact_TooMany ?ne_TooMany_InvalidFact ?ie_InvalidRun1 ?ie_InvalidRun2 ?ie_InvalidRun_AnswerError ?ne_AnswerError_InvalidRun ?ie_InvalidRun_InvalidProgram ?ne_InvalidProgram_InvalidRun ?ie_InvalidRun_InvalidMode ?ne_InvalidMode_InvalidRun ?ie_InvalidRun_InvalidTable ?ne_InvalidTable_InvalidRun ?ie_InvalidRun_InvalidRun ?ie_InvalidRun_InvalidFact ?ne_InvalidFact_InvalidRun ?ie_InvalidRun_InvalidDerivation ?ne_InvalidDerivation_InvalidRun ?ie_InvalidRun_InvalidOperation ?ne_InvalidOperation_InvalidRun ?ie_InvalidRun_InvalidCommand ?ne_InvalidCommand_InvalidRun ?ie_InvalidRun_ParseError ?ne_ParseError_InvalidRun ?ie_InvalidRun_UnknownName ?ne_UnknownName_InvalidRun ?ie_InvalidRun_UnknownSite ?ne_UnknownSite_InvalidRun ?ie_InvalidRun_InvalidNumber ?ne_InvalidNumber_InvalidRun ?ie_InvalidRun_NothingToUndo ?ne_NothingToUndo_InvalidRun ?ie_InvalidRun_Refused ?ne_Refused_InvalidRun ?ie_InvalidRun_TooMany ?ne_TooMany_InvalidRun ?ie_InvalidTable1 ?ie_InvalidTable2 ?ie_InvalidTable_AnswerError ?ne_AnswerError_InvalidTable ?ie_InvalidTable_InvalidProgram ?ne_InvalidProgram_InvalidTable ?ie_InvalidTable_InvalidMode ?ne_InvalidMode_InvalidTable ?ie_InvalidTable_InvalidTable ?ie_InvalidTable_InvalidRun ?ne_InvalidRun_InvalidTable ?ie_InvalidTable_InvalidFact ?ne_InvalidFact_InvalidTable ?ie_InvalidTable_InvalidDerivation ?ne_InvalidDerivation_InvalidTable ?ie_InvalidTable_InvalidOperation ?ne_InvalidOperation_InvalidTable ?ie_InvalidTable_InvalidCommand ?ne_InvalidCommand_InvalidTable ?ie_InvalidTable_ParseError ?ne_ParseError_InvalidTable ?ie_InvalidTable_UnknownName ?ne_UnknownName_InvalidTable ?ie_InvalidTable_UnknownSite ?ne_UnknownSite_InvalidTable ?ie_InvalidTable_InvalidNumber ?ne_InvalidNumber_InvalidTable ?ie_InvalidTable_NothingToUndo ?ne_NothingToUndo_InvalidTable ?ie_InvalidTable_Refused ?ne_Refused_InvalidTable ?ie_InvalidTable_TooMany ?ne_TooMany_InvalidTable ?ie_InvalidOperation1 ?ie_InvalidOperation2 ?ie_InvalidOperation_AnswerError ?ne_AnswerError_InvalidOperation ?ie_InvalidOperation_InvalidProgram ?ne_InvalidProgram_InvalidOperation ?ie_InvalidOperation_InvalidMode ?ne_InvalidMode_InvalidOperation ?ie_InvalidOperation_InvalidTable ?ne_InvalidTable_InvalidOperation ?ie_InvalidOperation_InvalidRun ?ne_InvalidRun_InvalidOperation ?ie_InvalidOperation_InvalidFact ?ne_InvalidFact_InvalidOperation ?ie_InvalidOperation_InvalidDerivation ?ne_InvalidDerivation_InvalidOperation ?ie_InvalidOperation_InvalidOperation ?ie_InvalidOperation_InvalidCommand ?ne_InvalidCommand_InvalidOperation ?ie_InvalidOperation_ParseError ?ne_ParseError_InvalidOperation ?ie_InvalidOperation_UnknownName ?ne_UnknownName_InvalidOperation ?ie_InvalidOperation_UnknownSite ?ne_UnknownSite_InvalidOperation ?ie_InvalidOperation_InvalidNumber ?ne_InvalidNumber_InvalidOperation ?ie_InvalidOperation_NothingToUndo ?ne_NothingToUndo_InvalidOperation ?ie_InvalidOperation_Refused ?ne_Refused_InvalidOperation ?ie_InvalidOperation_TooMany ?ne_TooMany_InvalidOperation ?ie_InvalidDerivation1 ?ie_InvalidDerivation2 ?ie_InvalidDerivation_AnswerError ?ne_AnswerError_InvalidDerivation ?ie_InvalidDerivation_InvalidProgram ?ne_InvalidProgram_InvalidDerivation ?ie_InvalidDerivation_InvalidMode ?ne_InvalidMode_InvalidDerivation ?ie_InvalidDerivation_InvalidTable ?ne_InvalidTable_InvalidDerivation ?ie_InvalidDerivation_InvalidRun ?ne_InvalidRun_InvalidDerivation ?ie_InvalidDerivation_InvalidFact ?ne_InvalidFact_InvalidDerivation ?ie_InvalidDerivation_InvalidDerivation ?ie_InvalidDerivation_InvalidOperation ?ne_InvalidOperation_InvalidDerivation ?ie_InvalidDerivation_InvalidCommand ?ne_InvalidCommand_InvalidDerivation ?ie_InvalidDerivation_ParseError ?ne_ParseError_InvalidDerivation ?ie_InvalidDerivation_UnknownName ?ne_UnknownName_InvalidDerivation ?ie_InvalidDerivation_UnknownSite ?ne_UnknownSite_InvalidDerivation ?ie_InvalidDerivation_InvalidNumber ?ne_InvalidNumber_InvalidDerivation ?ie_InvalidDerivation_NothingToUndo ?ne_NothingToUndo_InvalidDerivation ?ie_InvalidDerivation_Refused ?ne_Refused_InvalidDerivation ?ie_InvalidDerivation_TooMany ?ne_TooMany_InvalidDerivation ?ib_ValueError_AnswerError ?ib_ValueError_InvalidProgram ?ib_ValueError_InvalidMode ?ib_ValueError_InvalidTable ?ib_ValueError_InvalidRun ?ib_ValueError_InvalidFact ?ib_ValueError_InvalidDerivation ?ib_ValueError_InvalidOperation ?ib_ValueError_InvalidCommand ?ib_ValueError_ParseError ?ib_ValueError_UnknownName ?ib_ValueError_UnknownSite ?ib_ValueError_InvalidNumber ?ib_ValueError_NothingToUndo ?ib_ValueError_Refused ?ib_ValueError_TooMany ?ie_ParseError1 ?ie_ParseError2 ?ie_ParseError_AnswerError ?ne_AnswerError_ParseError ?ie_ParseError_InvalidProgram ?ne_InvalidProgram_ParseError ?ie_ParseError_InvalidMode ?ne_InvalidMode_ParseError ?ie_ParseError_InvalidTable ?ne_InvalidTable_ParseError ?ie_ParseError_InvalidRun ?ne_InvalidRun_ParseError ?ie_ParseError_InvalidFact ?ne_InvalidFact_ParseError ?ie_ParseError_InvalidDerivation ?ne_InvalidDerivation_ParseError ?ie_ParseError_InvalidOperation ?ne_InvalidOperation_ParseError ?ie_ParseError_InvalidCommand ?ne_InvalidCommand_ParseError ?ie_ParseError_ParseError ?ie_ParseError_UnknownName ?ne_UnknownName_ParseError ?ie_ParseError_UnknownSite ?ne_UnknownSite_ParseError ?ie_ParseError_InvalidNumber ?ne_InvalidNumber_ParseError ?ie_ParseError_NothingToUndo ?ne_NothingToUndo_ParseError ?ie_ParseError_Refused ?ne_Refused_ParseError ?ie_ParseError_TooMany ?ne_TooMany_ParseError ?ie_InvalidCommand1 ?ie_InvalidCommand2 ?ie_InvalidCommand_AnswerError ?ne_AnswerError_InvalidCommand ?ie_InvalidCommand_InvalidProgram ?ne_InvalidProgram_InvalidCommand ?ie_InvalidCommand_InvalidMode ?ne_InvalidMode_InvalidCommand ?ie_InvalidCommand_InvalidTable ?ne_InvalidTable_InvalidCommand ?ie_InvalidCommand_InvalidRun ?ne_InvalidRun_InvalidCommand ?ie_InvalidCommand_InvalidFact ?ne_InvalidFact_InvalidCommand ?ie_InvalidCommand_InvalidDerivation ?ne_InvalidDerivation_InvalidCommand ?ie_InvalidCommand_InvalidOperation ?ne_InvalidOperation_InvalidCommand ?ie_InvalidCommand_InvalidCommand ?ie_InvalidCommand_ParseError ?ne_ParseError_InvalidCommand ?ie_InvalidCommand_UnknownName ?ne_UnknownName_InvalidCommand ?ie_InvalidCommand_UnknownSite ?ne_UnknownSite_InvalidCommand ?ie_InvalidCommand_InvalidNumber ?ne_InvalidNumber_InvalidCommand ?ie_InvalidCommand_NothingToUndo ?ne_NothingToUndo_InvalidCommand ?ie_InvalidCommand_Refused ?ne_Refused_InvalidCommand ?ie_InvalidCommand_TooMany ?ne_TooMany_InvalidCommand ?ie_InvalidNumber1 ?ie_InvalidNumber2 ?ie_InvalidNumber_AnswerError ?ne_AnswerError_InvalidNumber ?ie_InvalidNumber_InvalidProgram ?ne_InvalidProgram_InvalidNumber ?ie_InvalidNumber_InvalidMode ?ne_InvalidMode_InvalidNumber ?ie_InvalidNumber_InvalidTable ?ne_InvalidTable_InvalidNumber ?ie_InvalidNumber_InvalidRun ?ne_InvalidRun_InvalidNumber ?ie_InvalidNumber_InvalidFact ?ne_InvalidFact_InvalidNumber ?ie_InvalidNumber_InvalidDerivation ?ne_InvalidDerivation_InvalidNumber ?ie_InvalidNumber_InvalidOperation ?ne_InvalidOperation_InvalidNumber ?ie_InvalidNumber_InvalidCommand ?ne_InvalidCommand_InvalidNumber ?ie_InvalidNumber_ParseError ?ne_ParseError_InvalidNumber ?ie_InvalidNumber_UnknownName ?ne_UnknownName_InvalidNumber ?ie_InvalidNumber_UnknownSite ?ne_UnknownSite_InvalidNumber ?ie_InvalidNumber_InvalidNumber ?ie_InvalidNumber_NothingToUndo ?ne_NothingToUndo_InvalidNumber ?ie_InvalidNumber_Refused ?ne_Refused_InvalidNumber ?ie_InvalidNumber_TooMany ?ne_TooMany_InvalidNumber ?ie_UnknownSite1 ?ie_UnknownSite2 ?ie_UnknownSite_AnswerError ?ne_AnswerError_UnknownSite ?ie_UnknownSite_InvalidProgram ?ne_InvalidProgram_UnknownSite ?ie_UnknownSite_InvalidMode ?ne_InvalidMode_UnknownSite ?ie_UnknownSite_InvalidTable ?ne_InvalidTable_UnknownSite ?ie_UnknownSite_InvalidRun ?ne_InvalidRun_UnknownSite ?ie_UnknownSite_InvalidFact ?ne_InvalidFact_UnknownSite ?ie_UnknownSite_InvalidDerivation ?ne_InvalidDerivation_UnknownSite ?ie_UnknownSite_InvalidOperation ?ne_InvalidOperation_UnknownSite ?ie_UnknownSite_InvalidCommand ?ne_InvalidCommand_UnknownSite ?ie_UnknownSite_ParseError ?ne_ParseError_UnknownSite ?ie_UnknownSite_UnknownName ?ne_UnknownName_UnknownSite ?ie_UnknownSite_UnknownSite ?ie_UnknownSite_InvalidNumber ?ne_InvalidNumber_UnknownSite ?ie_UnknownSite_NothingToUndo ?ne_NothingToUndo_UnknownSite ?ie_UnknownSite_Refused ?ne_Refused_UnknownSite ?ie_UnknownSite_TooMany ?ne_TooMany_UnknownSite ?ie_UnknownName1 ?ie_UnknownName2 ?ie_UnknownName_AnswerError ?ne_AnswerError_UnknownName ?ie_UnknownName_InvalidProgram ?ne_InvalidProgram_UnknownName ?ie_UnknownName_InvalidMode ?ne_InvalidMode_UnknownName ?ie_UnknownName_InvalidTable ?ne_InvalidTable_UnknownName ?ie_UnknownName_InvalidRun ?ne_InvalidRun_UnknownName ?ie_UnknownName_InvalidFact ?ne_InvalidFact_UnknownName ?ie_UnknownName_InvalidDerivation ?ne_InvalidDerivation_UnknownName ?ie_UnknownName_InvalidOperation ?ne_InvalidOperation_UnknownName ?ie_UnknownName_InvalidCommand ?ne_InvalidCommand_UnknownName ?ie_UnknownName_ParseError ?ne_ParseError_UnknownName ?ie_UnknownName_UnknownName ?ie_UnknownName_UnknownSite ?ne_UnknownSite_UnknownName ?ie_UnknownName_InvalidNumber ?ne_InvalidNumber_UnknownName ?ie_UnknownName_NothingToUndo ?ne_NothingToUndo_UnknownName ?ie_UnknownName_Refused ?ne_Refused_UnknownName ?ie_UnknownName_TooMany ?ne_TooMany_UnknownName ?ie_TooMany1 ?ie_TooMany2 ?ie_TooMany_AnswerError ?ne_AnswerError_TooMany ?ie_TooMany_InvalidProgram ?ne_InvalidProgram_TooMany ?ie_TooMany_InvalidMode ?ne_InvalidMode_TooMany ?ie_TooMany_InvalidTable ?ne_InvalidTable_TooMany ?ie_TooMany_InvalidRun ?ne_InvalidRun_TooMany ?ie_TooMany_InvalidFact ?ne_InvalidFact_TooMany ?ie_TooMany_InvalidDerivation ?ne_InvalidDerivation_TooMany ?ie_TooMany_InvalidOperation ?ne_InvalidOperation_TooMany ?ie_TooMany_InvalidCommand ?ne_InvalidCommand_TooMany ?ie_TooMany_ParseError ?ne_ParseError_TooMany ?ie_TooMany_UnknownName ?ne_UnknownName_TooMany ?ie_TooMany_UnknownSite ?ne_UnknownSite_TooMany ?ie_TooMany_InvalidNumber ?ne_InvalidNumber_TooMany ?ie_TooMany_NothingToUndo ?ne_NothingToUndo_TooMany ?ie_TooMany_Refused ?ne_Refused_TooMany ?ie_TooMany_TooMany ?ie_Refused1 ?ie_Refused2 ?ie_Refused_AnswerError ?ne_AnswerError_Refused ?ie_Refused_InvalidProgram ?ne_InvalidProgram_Refused ?ie_Refused_InvalidMode ?ne_InvalidMode_Refused ?ie_Refused_InvalidTable ?ne_InvalidTable_Refused ?ie_Refused_InvalidRun ?ne_InvalidRun_Refused ?ie_Refused_InvalidFact ?ne_InvalidFact_Refused ?ie_Refused_InvalidDerivation ?ne_InvalidDerivation_Refused ?ie_Refused_InvalidOperation ?ne_InvalidOperation_Refused ?ie_Refused_InvalidCommand ?ne_InvalidCommand_Refused ?ie_Refused_ParseError ?ne_ParseError_Refused ?ie_Refused_UnknownName ?ne_UnknownName_Refused ?ie_Refused_UnknownSite ?ne_UnknownSite_Refused ?ie_Refused_InvalidNumber ?ne_InvalidNumber_Refused ?ie_Refused_NothingToUndo ?ne_NothingToUndo_Refused ?ie_Refused_Refused ?ie_Refused_TooMany ?ne_TooMany_Refused ?ie_NothingToUndo1 ?ie_NothingToUndo2 ?ie_NothingToUndo_AnswerError ?ne_AnswerError_NothingToUndo ?ie_NothingToUndo_InvalidProgram ?ne_InvalidProgram_NothingToUndo ?ie_NothingToUndo_InvalidMode ?ne_InvalidMode_NothingToUndo ?ie_NothingToUndo_InvalidTable ?ne_InvalidTable_NothingToUndo ?ie_NothingToUndo_InvalidRun ?ne_InvalidRun_NothingToUndo ?ie_NothingToUndo_InvalidFact ?ne_InvalidFact_NothingToUndo ?ie_NothingToUndo_InvalidDerivation ?ne_InvalidDerivation_NothingToUndo ?ie_NothingToUndo_InvalidOperation ?ne_InvalidOperation_NothingToUndo ?ie_NothingToUndo_InvalidCommand ?ne_InvalidCommand_NothingToUndo ?ie_NothingToUndo_ParseError ?ne_ParseError_NothingToUndo ?ie_NothingToUndo_UnknownName ?ne_UnknownName_NothingToUndo ?ie_NothingToUndo_UnknownSite ?ne_UnknownSite_NothingToUndo ?ie_NothingToUndo_InvalidNumber ?ne_InvalidNumber_NothingToUndo ?ie_NothingToUndo_NothingToUndo ?ie_NothingToUndo_Refused ?ne_Refused_NothingToUndo ?ie_NothingToUndo_TooMany ?ne_TooMany_NothingToUndo ?ib_LookupError_AnswerError ?ib_LookupError_InvalidProgram ?ib_LookupError_InvalidMode ?ib_LookupError_InvalidTable ?ib_LookupError_InvalidRun ?ib_LookupError_InvalidFact ?ib_LookupError_InvalidDerivation ?ib_LookupError_InvalidOperation ?ib_LookupError_InvalidCommand ?ib_LookupError_ParseError ?ib_LookupError_UnknownName ?ib_LookupError_UnknownSite ?ib_LookupError_InvalidNumber ?ib_LookupError_NothingToUndo ?ib_LookupError_Refused ?ib_LookupError_TooMany ?ib_IndexError_AnswerError ?ib_IndexError_InvalidProgram ?ib_IndexError_InvalidMode ?ib_IndexError_InvalidTable ?ib_IndexError_InvalidRun ?ib_IndexError_InvalidFact ?ib_IndexError_InvalidDerivation ?ib_IndexError_InvalidOperation ?ib_IndexError_InvalidCommand ?ib_IndexError_ParseError ?ib_IndexError_UnknownName ?ib_IndexError_UnknownSite ?ib_IndexError_InvalidNumber ?ib_IndexError_NothingToUndo ?ib_IndexError_Refused ?ib_IndexError_TooMany ?ib_KeyError_AnswerError ?ib_KeyError_InvalidProgram ?ib_KeyError_InvalidMode ?ib_KeyError_InvalidTable ?ib_KeyError_InvalidRun ?ib_KeyError_InvalidFact ?ib_KeyError_InvalidDerivation ?ib_KeyError_InvalidOperation ?ib_KeyError_InvalidCommand ?ib_KeyError_ParseError ?ib_KeyError_UnknownName ?ib_KeyError_UnknownSite ?ib_KeyError_InvalidNumber ?ib_KeyError_NothingToUndo ?ib_KeyError_Refused ?ib_KeyError_TooMany ?ib_OverflowError_AnswerError ?ib_OverflowError_InvalidProgram ?ib_OverflowError_InvalidMode ?ib_OverflowError_InvalidTable ?ib_OverflowError_InvalidRun ?ib_OverflowError_InvalidFact ?ib_OverflowError_InvalidDerivation ?ib_OverflowError_InvalidOperation ?ib_OverflowError_InvalidCommand ?ib_OverflowError_ParseError ?ib_OverflowError_UnknownName ?ib_OverflowError_UnknownSite ?ib_OverflowError_InvalidNumber ?ib_OverflowError_NothingToUndo ?ib_OverflowError_Refused ?ib_OverflowError_TooMany ?ib_ArithmeticError_AnswerError ?ib_ArithmeticError_InvalidProgram ?ib_ArithmeticError_InvalidMode ?ib_ArithmeticError_InvalidTable ?ib_ArithmeticError_InvalidRun ?ib_ArithmeticError_InvalidFact ?ib_ArithmeticError_InvalidDerivation ?ib_ArithmeticError_InvalidOperation ?ib_ArithmeticError_InvalidCommand ?ib_ArithmeticError_ParseError ?ib_ArithmeticError_UnknownName ?ib_ArithmeticError_UnknownSite ?ib_ArithmeticError_InvalidNumber ?ib_ArithmeticError_NothingToUndo ?ib_ArithmeticError_Refused ?ib_ArithmeticError_TooMany ?ex_InvalidRun1 ?kc_InvalidRun1 ?ex_InvalidTable1 ?kc_InvalidTable1 ?ex_InvalidMode1 ?kc_InvalidMode1 ?ex_InvalidProgram1 ?kc_InvalidProgram1 ?ex_AnswerError1 ?kc_AnswerError1 ?ex_InvalidCommand1 ?kc_InvalidCommand1 ?ex_InvalidOperation1 ?kc_InvalidOperation1 ?ex_InvalidDerivation1 ?kc_InvalidDerivation1 ?ex_InvalidFact1 ?kc_InvalidFact1 ?xi_ParseError1 ?xi_ParseError2 ?xi_ParseError3 ?xi_ParseError4 ?xi_ParseError5 ?xi_ParseError6 ?xi_ParseError7 ?xi_ParseError8 ?xi_InvalidNumber1 ?xi_InvalidNumber2 ?xi_InvalidNumber3 ?xi_InvalidNumber4 ?xi_InvalidNumber5 ?xi_InvalidNumber6 ?xi_InvalidNumber7 ?xi_InvalidNumber8 ?xi_UnknownSite1 ?xi_UnknownSite2 ?xi_UnknownSite3 ?xi_UnknownSite4 ?xi_UnknownSite5 ?xi_UnknownSite6 ?xi_UnknownSite7 ?xi_UnknownSite8 ?xi_UnknownName1 ?xi_UnknownName2 ?xi_UnknownName3 ?xi_UnknownName4 ?xi_UnknownName5 ?xi_UnknownName6 ?xi_UnknownName7 ?xi_UnknownName8 ?xi_TooMany1 ?xi_TooMany2 ?xi_TooMany3 ?xi_TooMany4 ?xi_TooMany5 ?xi_TooMany6 ?xi_TooMany7 ?xi_TooMany8 ?xi_Refused1 ?xi_Refused2 ?xi_Refused3 ?xi_Refused4 ?xi_Refused5 ?xi_Refused6 ?xi_Refused7 ?xi_Refused8 ?xi_NothingToUndo1 ?xi_NothingToUndo2 ?xi_NothingToUndo3 ?xi_NothingToUndo4 ?xi_NothingToUndo5 ?xi_NothingToUndo6 ?xi_NothingToUndo7 ?xi_NothingToUndo8 ?nf_TooMany_limit1 ?ec_TooMany1 ?ec_TooMany2 ?ec_TooMany3 ?ec_TooMany4 ?ec_TooMany5 ?tyn1 ?tyn2 ?ec_TooMany6 ?nf_Refused_name1 ?ec_Refused1 ?ec_Refused2 ?ec_Refused3 ?ec_Refused4 ?ec_Refused5 ?ec_Refused6 ?nf_NothingToUndo_many1 ?ec_NothingToUndo1 ?ec_NothingToUndo2 ?ec_NothingToUndo3 ?ec_NothingToUndo4 ?ec_NothingToUndo5 ?ec_NothingToUndo6 ?nf_InvalidNumber_value1 ?ec_InvalidNumber1 ?ec_InvalidNumber2 ?ec_InvalidNumber3 ?ec_InvalidNumber4 ?ec_InvalidNumber5 ?ec_InvalidNumber6 ?nf_UnknownSite_site1 ?ec_UnknownSite1 ?ec_UnknownSite2 ?ec_UnknownSite3 ?ec_UnknownSite4 ?ec_UnknownSite5 ?ec_UnknownSite6 ?nf_UnknownName_name1 ?ec_UnknownName1 ?ec_UnknownName2 ?ec_UnknownName3 ?ec_UnknownName4 ?ec_UnknownName5 ?ec_UnknownName6 ?nf_ParseError_line1 ?ec_ParseError1 ?ec_ParseError2 ?ec_ParseError3 ?ec_ParseError4 ?ec_ParseError5 ?ec_ParseError6 ?ec_AnswerError1 ?ec_AnswerError2 ?ec_AnswerError3 ?ec_AnswerError4 ?ec_AnswerError5 ?ec_AnswerError6 ?ec_InvalidProgram1 ?ec_InvalidProgram2 ?ec_InvalidProgram3 ?ec_InvalidProgram4 ?ec_InvalidProgram5 ?ec_InvalidProgram6 ?ec_InvalidMode1 ?ec_InvalidMode2 ?ec_InvalidMode3 ?ec_InvalidMode4 ?ec_InvalidMode5 ?ec_InvalidMode6 ?ec_InvalidTable1 ?ec_InvalidTable2 ?ec_InvalidTable3 ?ec_InvalidTable4 ?ec_InvalidTable5 ?ec_InvalidTable6 ?ec_InvalidRun1 ?ec_InvalidRun2 ?ec_InvalidRun3 ?ec_InvalidRun4 ?ec_InvalidRun5 ?ec_InvalidRun6 ?ec_InvalidFact1 ?ec_InvalidFact2 ?ec_InvalidFact3 ?ec_InvalidFact4 ?ec_InvalidFact5 ?ec_InvalidFact6 ?ec_InvalidDerivation1 ?ec_InvalidDerivation2 ?ec_InvalidDerivation3 ?ec_InvalidDerivation4 ?ec_InvalidDerivation5 ?ec_InvalidDerivation6 ?ec_InvalidOperation1 ?ec_InvalidOperation2 ?ec_InvalidOperation3 ?ec_InvalidOperation4 ?ec_InvalidOperation5 ?ec_InvalidOperation6 ?ec_InvalidCommand1 ?ec_InvalidCommand2 ?ec_InvalidCommand3 ?ec_InvalidCommand4 ?ec_InvalidCommand5 ?ec_InvalidCommand6
    (case a__law_dip => k_is)
    (case a__law_choose => k_is)
    (case a__law_kinds => k_is)
    (case a__law_messages => k_is)
    (case a__law_others => k_is)
    (case a__law_right => k_is)
    (case a__law_well => k_is)
    (case a_law => k_is)
    (case x_AnswerError => k_is)
    (case x_InvalidProgram => k_is)
    (case x_InvalidMode => k_is)
    (case x_InvalidTable => k_is)
    (case x_InvalidRun => k_is)
    (case x_InvalidFact => k_is)
    (case x_InvalidDerivation => k_is)
    (case x_InvalidOperation => k_is)
    (case x_InvalidCommand => k_is)
    (case x_ParseError => k_is)
    (case x_UnknownName => k_is)
    (case x_UnknownSite => k_is)
    (case x_InvalidNumber => k_is)
    (case x_NothingToUndo => k_is)
    (case x_Refused => k_is)
    (case x_TooMany => k_is)
    (case l__law_dip => k_is)
    (case c__law_dip => k_is)
    (case k__law_dip => k_is)
    (case l__law_choose => k_is)
    (case c__law_choose => k_is)
    (case k__law_choose => k_is)
    (case l__law_kinds => k_is)
    (case c__law_kinds => k_is)
    (case k__law_kinds => k_is)
    (case l__law_messages => k_is)
    (case c__law_messages => k_is)
    (case k__law_messages => k_is)
    (case l__law_others => k_is)
    (case c__law_others => k_is)
    (case k__law_others => k_is)
    (case l__law_right => k_is)
    (case c__law_right => k_is)
    (case k__law_right => k_is)
    (case l__law_well => k_is)
    (case c__law_well => k_is)
    (case k__law_well => k_is)
    (case l_law => k_is)
    (case c_law => k_is)
    (case k_law => k_is)
    (case z_ArithmeticError => k_is)
    (case z_IndexError => k_is)
    (case z_KeyError => k_is)
    (case z_LookupError => k_is)
    (case z_OverflowError => k_is)
    (case z_ValueError => k_is)
    (case z_abs => k_is)
    (case z_enumerate => k_is)
    (case z_int => k_is)
    (case z_isinstance => k_is)
    (case z_len => k_is)
    (case z_max => k_is)
    (case z_min => k_is)
    (case z_range => k_is)
    (case z_repr => k_is)
    (case ie_InvalidMode1 => k_is)
    (case ie_InvalidMode2 => k_is)
    (case ie_InvalidMode_AnswerError => first | rfl | k_is)
    (case ie_InvalidMode_InvalidProgram => first | rfl | k_is)
    (case ie_InvalidMode_InvalidMode => first | rfl | k_is)
    (case ie_InvalidMode_InvalidTable => first | rfl | k_is)
    (case ie_InvalidMode_InvalidRun => first | rfl | k_is)
    (case ie_InvalidMode_InvalidFact => first | rfl | k_is)
    (case ie_InvalidMode_InvalidDerivation => first | rfl | k_is)
    (case ie_InvalidMode_InvalidOperation => first | rfl | k_is)
    (case ie_InvalidMode_InvalidCommand => first | rfl | k_is)
    (case ie_InvalidMode_ParseError => first | rfl | k_is)
    (case ie_InvalidMode_UnknownName => first | rfl | k_is)
    (case ie_InvalidMode_UnknownSite => first | rfl | k_is)
    (case ie_InvalidMode_InvalidNumber => first | rfl | k_is)
    (case ie_InvalidMode_NothingToUndo => first | rfl | k_is)
    (case ie_InvalidMode_Refused => first | rfl | k_is)
    (case ie_InvalidMode_TooMany => first | rfl | k_is)
    (case ie_InvalidProgram1 => k_is)
    (case ie_InvalidProgram2 => k_is)
    (case ie_InvalidProgram_AnswerError => first | rfl | k_is)
    (case ie_InvalidProgram_InvalidProgram => first | rfl | k_is)
    (case ie_InvalidProgram_InvalidMode => first | rfl | k_is)
    (case ie_InvalidProgram_InvalidTable => first | rfl | k_is)
    (case ie_InvalidProgram_InvalidRun => first | rfl | k_is)
    (case ie_InvalidProgram_InvalidFact => first | rfl | k_is)
    (case ie_InvalidProgram_InvalidDerivation => first | rfl | k_is)
    (case ie_InvalidProgram_InvalidOperation => first | rfl | k_is)
    (case ie_InvalidProgram_InvalidCommand => first | rfl | k_is)
    (case ie_InvalidProgram_ParseError => first | rfl | k_is)
    (case ie_InvalidProgram_UnknownName => first | rfl | k_is)
    (case ie_InvalidProgram_UnknownSite => first | rfl | k_is)
    (case ie_InvalidProgram_InvalidNumber => first | rfl | k_is)
    (case ie_InvalidProgram_NothingToUndo => first | rfl | k_is)
    (case ie_InvalidProgram_Refused => first | rfl | k_is)
    (case ie_InvalidProgram_TooMany => first | rfl | k_is)
    (case ie_AnswerError1 => k_is)
    (case ie_AnswerError2 => k_is)
    (case ie_AnswerError_AnswerError => first | rfl | k_is)
    (case ie_AnswerError_InvalidProgram => first | rfl | k_is)
    (case ie_AnswerError_InvalidMode => first | rfl | k_is)
    (case ie_AnswerError_InvalidTable => first | rfl | k_is)
    (case ie_AnswerError_InvalidRun => first | rfl | k_is)
    (case ie_AnswerError_InvalidFact => first | rfl | k_is)
    (case ie_AnswerError_InvalidDerivation => first | rfl | k_is)
    (case ie_AnswerError_InvalidOperation => first | rfl | k_is)
    (case ie_AnswerError_InvalidCommand => first | rfl | k_is)
    (case ie_AnswerError_ParseError => first | rfl | k_is)
    (case ie_AnswerError_UnknownName => first | rfl | k_is)
    (case ie_AnswerError_UnknownSite => first | rfl | k_is)
    (case ie_AnswerError_InvalidNumber => first | rfl | k_is)
    (case ie_AnswerError_NothingToUndo => first | rfl | k_is)
    (case ie_AnswerError_Refused => first | rfl | k_is)
    (case ie_AnswerError_TooMany => first | rfl | k_is)
    (case ie_InvalidFact1 => k_is)
    (case ie_InvalidFact2 => k_is)
    (case ie_InvalidFact_AnswerError => first | rfl | k_is)
    (case ie_InvalidFact_InvalidProgram => first | rfl | k_is)
    (case ie_InvalidFact_InvalidMode => first | rfl | k_is)
    (case ie_InvalidFact_InvalidTable => first | rfl | k_is)
    (case ie_InvalidFact_InvalidRun => first | rfl | k_is)
    (case ie_InvalidFact_InvalidFact => first | rfl | k_is)
    (case ie_InvalidFact_InvalidDerivation => first | rfl | k_is)
    (case ie_InvalidFact_InvalidOperation => first | rfl | k_is)
    (case ie_InvalidFact_InvalidCommand => first | rfl | k_is)
    (case ie_InvalidFact_ParseError => first | rfl | k_is)
    (case ie_InvalidFact_UnknownName => first | rfl | k_is)
    (case ie_InvalidFact_UnknownSite => first | rfl | k_is)
    (case ie_InvalidFact_InvalidNumber => first | rfl | k_is)
    (case ie_InvalidFact_NothingToUndo => first | rfl | k_is)
    (case ie_InvalidFact_Refused => first | rfl | k_is)
    (case ie_InvalidFact_TooMany => first | rfl | k_is)
    (case ie_InvalidRun1 => k_is)
    (case ie_InvalidRun2 => k_is)
    (case ie_InvalidRun_AnswerError => first | rfl | k_is)
    (case ie_InvalidRun_InvalidProgram => first | rfl | k_is)
    (case ie_InvalidRun_InvalidMode => first | rfl | k_is)
    (case ie_InvalidRun_InvalidTable => first | rfl | k_is)
    (case ie_InvalidRun_InvalidRun => first | rfl | k_is)
    (case ie_InvalidRun_InvalidFact => first | rfl | k_is)
    (case ie_InvalidRun_InvalidDerivation => first | rfl | k_is)
    (case ie_InvalidRun_InvalidOperation => first | rfl | k_is)
    (case ie_InvalidRun_InvalidCommand => first | rfl | k_is)
    (case ie_InvalidRun_ParseError => first | rfl | k_is)
    (case ie_InvalidRun_UnknownName => first | rfl | k_is)
    (case ie_InvalidRun_UnknownSite => first | rfl | k_is)
    (case ie_InvalidRun_InvalidNumber => first | rfl | k_is)
    (case ie_InvalidRun_NothingToUndo => first | rfl | k_is)
    (case ie_InvalidRun_Refused => first | rfl | k_is)
    (case ie_InvalidRun_TooMany => first | rfl | k_is)
    (case ie_InvalidTable1 => k_is)
    (case ie_InvalidTable2 => k_is)
    (case ie_InvalidTable_AnswerError => first | rfl | k_is)
    (case ie_InvalidTable_InvalidProgram => first | rfl | k_is)
    (case ie_InvalidTable_InvalidMode => first | rfl | k_is)
    (case ie_InvalidTable_InvalidTable => first | rfl | k_is)
    (case ie_InvalidTable_InvalidRun => first | rfl | k_is)
    (case ie_InvalidTable_InvalidFact => first | rfl | k_is)
    (case ie_InvalidTable_InvalidDerivation => first | rfl | k_is)
    (case ie_InvalidTable_InvalidOperation => first | rfl | k_is)
    (case ie_InvalidTable_InvalidCommand => first | rfl | k_is)
    (case ie_InvalidTable_ParseError => first | rfl | k_is)
    (case ie_InvalidTable_UnknownName => first | rfl | k_is)
    (case ie_InvalidTable_UnknownSite => first | rfl | k_is)
    (case ie_InvalidTable_InvalidNumber => first | rfl | k_is)
    (case ie_InvalidTable_NothingToUndo => first | rfl | k_is)
    (case ie_InvalidTable_Refused => first | rfl | k_is)
    (case ie_InvalidTable_TooMany => first | rfl | k_is)
    (case ie_InvalidOperation1 => k_is)
    (case ie_InvalidOperation2 => k_is)
    (case ie_InvalidOperation_AnswerError => first | rfl | k_is)
    (case ie_InvalidOperation_InvalidProgram => first | rfl | k_is)
    (case ie_InvalidOperation_InvalidMode => first | rfl | k_is)
    (case ie_InvalidOperation_InvalidTable => first | rfl | k_is)
    (case ie_InvalidOperation_InvalidRun => first | rfl | k_is)
    (case ie_InvalidOperation_InvalidFact => first | rfl | k_is)
    (case ie_InvalidOperation_InvalidDerivation => first | rfl | k_is)
    (case ie_InvalidOperation_InvalidOperation => first | rfl | k_is)
    (case ie_InvalidOperation_InvalidCommand => first | rfl | k_is)
    (case ie_InvalidOperation_ParseError => first | rfl | k_is)
    (case ie_InvalidOperation_UnknownName => first | rfl | k_is)
    (case ie_InvalidOperation_UnknownSite => first | rfl | k_is)
    (case ie_InvalidOperation_InvalidNumber => first | rfl | k_is)
    (case ie_InvalidOperation_NothingToUndo => first | rfl | k_is)
    (case ie_InvalidOperation_Refused => first | rfl | k_is)
    (case ie_InvalidOperation_TooMany => first | rfl | k_is)
    (case ie_InvalidDerivation1 => k_is)
    (case ie_InvalidDerivation2 => k_is)
    (case ie_InvalidDerivation_AnswerError => first | rfl | k_is)
    (case ie_InvalidDerivation_InvalidProgram => first | rfl | k_is)
    (case ie_InvalidDerivation_InvalidMode => first | rfl | k_is)
    (case ie_InvalidDerivation_InvalidTable => first | rfl | k_is)
    (case ie_InvalidDerivation_InvalidRun => first | rfl | k_is)
    (case ie_InvalidDerivation_InvalidFact => first | rfl | k_is)
    (case ie_InvalidDerivation_InvalidDerivation => first | rfl | k_is)
    (case ie_InvalidDerivation_InvalidOperation => first | rfl | k_is)
    (case ie_InvalidDerivation_InvalidCommand => first | rfl | k_is)
    (case ie_InvalidDerivation_ParseError => first | rfl | k_is)
    (case ie_InvalidDerivation_UnknownName => first | rfl | k_is)
    (case ie_InvalidDerivation_UnknownSite => first | rfl | k_is)
    (case ie_InvalidDerivation_InvalidNumber => first | rfl | k_is)
    (case ie_InvalidDerivation_NothingToUndo => first | rfl | k_is)
    (case ie_InvalidDerivation_Refused => first | rfl | k_is)
    (case ie_InvalidDerivation_TooMany => first | rfl | k_is)
    (case ib_ValueError_AnswerError => k_is)
    (case ib_ValueError_InvalidProgram => k_is)
    (case ib_ValueError_InvalidMode => k_is)
    (case ib_ValueError_InvalidTable => k_is)
    (case ib_ValueError_InvalidRun => k_is)
    (case ib_ValueError_InvalidFact => k_is)
    (case ib_ValueError_InvalidDerivation => k_is)
    (case ib_ValueError_InvalidOperation => k_is)
    (case ib_ValueError_InvalidCommand => k_is)
    (case ib_ValueError_ParseError => k_is)
    (case ib_ValueError_UnknownName => k_is)
    (case ib_ValueError_UnknownSite => k_is)
    (case ib_ValueError_InvalidNumber => k_is)
    (case ib_ValueError_NothingToUndo => k_is)
    (case ib_ValueError_Refused => k_is)
    (case ib_ValueError_TooMany => k_is)
    (case ie_ParseError1 => k_is)
    (case ie_ParseError2 => k_is)
    (case ie_ParseError_AnswerError => first | rfl | k_is)
    (case ie_ParseError_InvalidProgram => first | rfl | k_is)
    (case ie_ParseError_InvalidMode => first | rfl | k_is)
    (case ie_ParseError_InvalidTable => first | rfl | k_is)
    (case ie_ParseError_InvalidRun => first | rfl | k_is)
    (case ie_ParseError_InvalidFact => first | rfl | k_is)
    (case ie_ParseError_InvalidDerivation => first | rfl | k_is)
    (case ie_ParseError_InvalidOperation => first | rfl | k_is)
    (case ie_ParseError_InvalidCommand => first | rfl | k_is)
    (case ie_ParseError_ParseError => first | rfl | k_is)
    (case ie_ParseError_UnknownName => first | rfl | k_is)
    (case ie_ParseError_UnknownSite => first | rfl | k_is)
    (case ie_ParseError_InvalidNumber => first | rfl | k_is)
    (case ie_ParseError_NothingToUndo => first | rfl | k_is)
    (case ie_ParseError_Refused => first | rfl | k_is)
    (case ie_ParseError_TooMany => first | rfl | k_is)
    (case ie_InvalidCommand1 => k_is)
    (case ie_InvalidCommand2 => k_is)
    (case ie_InvalidCommand_AnswerError => first | rfl | k_is)
    (case ie_InvalidCommand_InvalidProgram => first | rfl | k_is)
    (case ie_InvalidCommand_InvalidMode => first | rfl | k_is)
    (case ie_InvalidCommand_InvalidTable => first | rfl | k_is)
    (case ie_InvalidCommand_InvalidRun => first | rfl | k_is)
    (case ie_InvalidCommand_InvalidFact => first | rfl | k_is)
    (case ie_InvalidCommand_InvalidDerivation => first | rfl | k_is)
    (case ie_InvalidCommand_InvalidOperation => first | rfl | k_is)
    (case ie_InvalidCommand_InvalidCommand => first | rfl | k_is)
    (case ie_InvalidCommand_ParseError => first | rfl | k_is)
    (case ie_InvalidCommand_UnknownName => first | rfl | k_is)
    (case ie_InvalidCommand_UnknownSite => first | rfl | k_is)
    (case ie_InvalidCommand_InvalidNumber => first | rfl | k_is)
    (case ie_InvalidCommand_NothingToUndo => first | rfl | k_is)
    (case ie_InvalidCommand_Refused => first | rfl | k_is)
    (case ie_InvalidCommand_TooMany => first | rfl | k_is)
    (case ie_InvalidNumber1 => k_is)
    (case ie_InvalidNumber2 => k_is)
    (case ie_InvalidNumber_AnswerError => first | rfl | k_is)
    (case ie_InvalidNumber_InvalidProgram => first | rfl | k_is)
    (case ie_InvalidNumber_InvalidMode => first | rfl | k_is)
    (case ie_InvalidNumber_InvalidTable => first | rfl | k_is)
    (case ie_InvalidNumber_InvalidRun => first | rfl | k_is)
    (case ie_InvalidNumber_InvalidFact => first | rfl | k_is)
    (case ie_InvalidNumber_InvalidDerivation => first | rfl | k_is)
    (case ie_InvalidNumber_InvalidOperation => first | rfl | k_is)
    (case ie_InvalidNumber_InvalidCommand => first | rfl | k_is)
    (case ie_InvalidNumber_ParseError => first | rfl | k_is)
    (case ie_InvalidNumber_UnknownName => first | rfl | k_is)
    (case ie_InvalidNumber_UnknownSite => first | rfl | k_is)
    (case ie_InvalidNumber_InvalidNumber => first | rfl | k_is)
    (case ie_InvalidNumber_NothingToUndo => first | rfl | k_is)
    (case ie_InvalidNumber_Refused => first | rfl | k_is)
    (case ie_InvalidNumber_TooMany => first | rfl | k_is)
    (case ie_UnknownSite1 => k_is)
    (case ie_UnknownSite2 => k_is)
    (case ie_UnknownSite_AnswerError => first | rfl | k_is)
    (case ie_UnknownSite_InvalidProgram => first | rfl | k_is)
    (case ie_UnknownSite_InvalidMode => first | rfl | k_is)
    (case ie_UnknownSite_InvalidTable => first | rfl | k_is)
    (case ie_UnknownSite_InvalidRun => first | rfl | k_is)
    (case ie_UnknownSite_InvalidFact => first | rfl | k_is)
    (case ie_UnknownSite_InvalidDerivation => first | rfl | k_is)
    (case ie_UnknownSite_InvalidOperation => first | rfl | k_is)
    (case ie_UnknownSite_InvalidCommand => first | rfl | k_is)
    (case ie_UnknownSite_ParseError => first | rfl | k_is)
    (case ie_UnknownSite_UnknownName => first | rfl | k_is)
    (case ie_UnknownSite_UnknownSite => first | rfl | k_is)
    (case ie_UnknownSite_InvalidNumber => first | rfl | k_is)
    (case ie_UnknownSite_NothingToUndo => first | rfl | k_is)
    (case ie_UnknownSite_Refused => first | rfl | k_is)
    (case ie_UnknownSite_TooMany => first | rfl | k_is)
    (case ie_UnknownName1 => k_is)
    (case ie_UnknownName2 => k_is)
    (case ie_UnknownName_AnswerError => first | rfl | k_is)
    (case ie_UnknownName_InvalidProgram => first | rfl | k_is)
    (case ie_UnknownName_InvalidMode => first | rfl | k_is)
    (case ie_UnknownName_InvalidTable => first | rfl | k_is)
    (case ie_UnknownName_InvalidRun => first | rfl | k_is)
    (case ie_UnknownName_InvalidFact => first | rfl | k_is)
    (case ie_UnknownName_InvalidDerivation => first | rfl | k_is)
    (case ie_UnknownName_InvalidOperation => first | rfl | k_is)
    (case ie_UnknownName_InvalidCommand => first | rfl | k_is)
    (case ie_UnknownName_ParseError => first | rfl | k_is)
    (case ie_UnknownName_UnknownName => first | rfl | k_is)
    (case ie_UnknownName_UnknownSite => first | rfl | k_is)
    (case ie_UnknownName_InvalidNumber => first | rfl | k_is)
    (case ie_UnknownName_NothingToUndo => first | rfl | k_is)
    (case ie_UnknownName_Refused => first | rfl | k_is)
    (case ie_UnknownName_TooMany => first | rfl | k_is)
    (case ie_TooMany1 => k_is)
    (case ie_TooMany2 => k_is)
    (case ie_TooMany_AnswerError => first | rfl | k_is)
    (case ie_TooMany_InvalidProgram => first | rfl | k_is)
    (case ie_TooMany_InvalidMode => first | rfl | k_is)
    (case ie_TooMany_InvalidTable => first | rfl | k_is)
    (case ie_TooMany_InvalidRun => first | rfl | k_is)
    (case ie_TooMany_InvalidFact => first | rfl | k_is)
    (case ie_TooMany_InvalidDerivation => first | rfl | k_is)
    (case ie_TooMany_InvalidOperation => first | rfl | k_is)
    (case ie_TooMany_InvalidCommand => first | rfl | k_is)
    (case ie_TooMany_ParseError => first | rfl | k_is)
    (case ie_TooMany_UnknownName => first | rfl | k_is)
    (case ie_TooMany_UnknownSite => first | rfl | k_is)
    (case ie_TooMany_InvalidNumber => first | rfl | k_is)
    (case ie_TooMany_NothingToUndo => first | rfl | k_is)
    (case ie_TooMany_Refused => first | rfl | k_is)
    (case ie_TooMany_TooMany => first | rfl | k_is)
    (case ie_Refused1 => k_is)
    (case ie_Refused2 => k_is)
    (case ie_Refused_AnswerError => first | rfl | k_is)
    (case ie_Refused_InvalidProgram => first | rfl | k_is)
    (case ie_Refused_InvalidMode => first | rfl | k_is)
    (case ie_Refused_InvalidTable => first | rfl | k_is)
    (case ie_Refused_InvalidRun => first | rfl | k_is)
    (case ie_Refused_InvalidFact => first | rfl | k_is)
    (case ie_Refused_InvalidDerivation => first | rfl | k_is)
    (case ie_Refused_InvalidOperation => first | rfl | k_is)
    (case ie_Refused_InvalidCommand => first | rfl | k_is)
    (case ie_Refused_ParseError => first | rfl | k_is)
    (case ie_Refused_UnknownName => first | rfl | k_is)
    (case ie_Refused_UnknownSite => first | rfl | k_is)
    (case ie_Refused_InvalidNumber => first | rfl | k_is)
    (case ie_Refused_NothingToUndo => first | rfl | k_is)
    (case ie_Refused_Refused => first | rfl | k_is)
    (case ie_Refused_TooMany => first | rfl | k_is)
    (case ie_NothingToUndo1 => k_is)
    (case ie_NothingToUndo2 => k_is)
    (case ie_NothingToUndo_AnswerError => first | rfl | k_is)
    (case ie_NothingToUndo_InvalidProgram => first | rfl | k_is)
    (case ie_NothingToUndo_InvalidMode => first | rfl | k_is)
    (case ie_NothingToUndo_InvalidTable => first | rfl | k_is)
    (case ie_NothingToUndo_InvalidRun => first | rfl | k_is)
    (case ie_NothingToUndo_InvalidFact => first | rfl | k_is)
    (case ie_NothingToUndo_InvalidDerivation => first | rfl | k_is)
    (case ie_NothingToUndo_InvalidOperation => first | rfl | k_is)
    (case ie_NothingToUndo_InvalidCommand => first | rfl | k_is)
    (case ie_NothingToUndo_ParseError => first | rfl | k_is)
    (case ie_NothingToUndo_UnknownName => first | rfl | k_is)
    (case ie_NothingToUndo_UnknownSite => first | rfl | k_is)
    (case ie_NothingToUndo_InvalidNumber => first | rfl | k_is)
    (case ie_NothingToUndo_NothingToUndo => first | rfl | k_is)
    (case ie_NothingToUndo_Refused => first | rfl | k_is)
    (case ie_NothingToUndo_TooMany => first | rfl | k_is)
    (case ib_LookupError_AnswerError => k_is)
    (case ib_LookupError_InvalidProgram => k_is)
    (case ib_LookupError_InvalidMode => k_is)
    (case ib_LookupError_InvalidTable => k_is)
    (case ib_LookupError_InvalidRun => k_is)
    (case ib_LookupError_InvalidFact => k_is)
    (case ib_LookupError_InvalidDerivation => k_is)
    (case ib_LookupError_InvalidOperation => k_is)
    (case ib_LookupError_InvalidCommand => k_is)
    (case ib_LookupError_ParseError => k_is)
    (case ib_LookupError_UnknownName => k_is)
    (case ib_LookupError_UnknownSite => k_is)
    (case ib_LookupError_InvalidNumber => k_is)
    (case ib_LookupError_NothingToUndo => k_is)
    (case ib_LookupError_Refused => k_is)
    (case ib_LookupError_TooMany => k_is)
    (case ib_IndexError_AnswerError => k_is)
    (case ib_IndexError_InvalidProgram => k_is)
    (case ib_IndexError_InvalidMode => k_is)
    (case ib_IndexError_InvalidTable => k_is)
    (case ib_IndexError_InvalidRun => k_is)
    (case ib_IndexError_InvalidFact => k_is)
    (case ib_IndexError_InvalidDerivation => k_is)
    (case ib_IndexError_InvalidOperation => k_is)
    (case ib_IndexError_InvalidCommand => k_is)
    (case ib_IndexError_ParseError => k_is)
    (case ib_IndexError_UnknownName => k_is)
    (case ib_IndexError_UnknownSite => k_is)
    (case ib_IndexError_InvalidNumber => k_is)
    (case ib_IndexError_NothingToUndo => k_is)
    (case ib_IndexError_Refused => k_is)
    (case ib_IndexError_TooMany => k_is)
    (case ib_KeyError_AnswerError => k_is)
    (case ib_KeyError_InvalidProgram => k_is)
    (case ib_KeyError_InvalidMode => k_is)
    (case ib_KeyError_InvalidTable => k_is)
    (case ib_KeyError_InvalidRun => k_is)
    (case ib_KeyError_InvalidFact => k_is)
    (case ib_KeyError_InvalidDerivation => k_is)
    (case ib_KeyError_InvalidOperation => k_is)
    (case ib_KeyError_InvalidCommand => k_is)
    (case ib_KeyError_ParseError => k_is)
    (case ib_KeyError_UnknownName => k_is)
    (case ib_KeyError_UnknownSite => k_is)
    (case ib_KeyError_InvalidNumber => k_is)
    (case ib_KeyError_NothingToUndo => k_is)
    (case ib_KeyError_Refused => k_is)
    (case ib_KeyError_TooMany => k_is)
    (case ib_OverflowError_AnswerError => k_is)
    (case ib_OverflowError_InvalidProgram => k_is)
    (case ib_OverflowError_InvalidMode => k_is)
    (case ib_OverflowError_InvalidTable => k_is)
    (case ib_OverflowError_InvalidRun => k_is)
    (case ib_OverflowError_InvalidFact => k_is)
    (case ib_OverflowError_InvalidDerivation => k_is)
    (case ib_OverflowError_InvalidOperation => k_is)
    (case ib_OverflowError_InvalidCommand => k_is)
    (case ib_OverflowError_ParseError => k_is)
    (case ib_OverflowError_UnknownName => k_is)
    (case ib_OverflowError_UnknownSite => k_is)
    (case ib_OverflowError_InvalidNumber => k_is)
    (case ib_OverflowError_NothingToUndo => k_is)
    (case ib_OverflowError_Refused => k_is)
    (case ib_OverflowError_TooMany => k_is)
    (case ib_ArithmeticError_AnswerError => k_is)
    (case ib_ArithmeticError_InvalidProgram => k_is)
    (case ib_ArithmeticError_InvalidMode => k_is)
    (case ib_ArithmeticError_InvalidTable => k_is)
    (case ib_ArithmeticError_InvalidRun => k_is)
    (case ib_ArithmeticError_InvalidFact => k_is)
    (case ib_ArithmeticError_InvalidDerivation => k_is)
    (case ib_ArithmeticError_InvalidOperation => k_is)
    (case ib_ArithmeticError_InvalidCommand => k_is)
    (case ib_ArithmeticError_ParseError => k_is)
    (case ib_ArithmeticError_UnknownName => k_is)
    (case ib_ArithmeticError_UnknownSite => k_is)
    (case ib_ArithmeticError_InvalidNumber => k_is)
    (case ib_ArithmeticError_NothingToUndo => k_is)
    (case ib_ArithmeticError_Refused => k_is)
    (case ib_ArithmeticError_TooMany => k_is)
    (case ex_InvalidRun1 => k_exc)
    (case kc_InvalidRun1 => k_is)
    (case ex_InvalidTable1 => k_exc)
    (case kc_InvalidTable1 => k_is)
    (case ex_InvalidMode1 => k_exc)
    (case kc_InvalidMode1 => k_is)
    (case ex_InvalidProgram1 => k_exc)
    (case kc_InvalidProgram1 => k_is)
    (case ex_AnswerError1 => k_exc)
    (case kc_AnswerError1 => k_is)
    (case ex_InvalidCommand1 => k_exc)
    (case kc_InvalidCommand1 => k_is)
    (case ex_InvalidOperation1 => k_exc)
    (case kc_InvalidOperation1 => k_is)
    (case ex_InvalidDerivation1 => k_exc)
    (case kc_InvalidDerivation1 => k_is)
    (case ex_InvalidFact1 => k_exc)
    (case kc_InvalidFact1 => k_is)
    (case xi_ParseError1 => kx_is)
    (case xi_ParseError2 => kx_is)
    (case xi_ParseError3 => k_is)
    (case xi_ParseError4 => k_is)
    (case xi_ParseError5 => k_is)
    (case xi_ParseError6 => k_is)
    (case xi_ParseError7 => k_is)
    (case xi_ParseError8 => k_is)
    (case xi_InvalidNumber1 => kx_is)
    (case xi_InvalidNumber2 => kx_is)
    (case xi_InvalidNumber3 => k_is)
    (case xi_InvalidNumber4 => k_is)
    (case xi_InvalidNumber5 => k_is)
    (case xi_InvalidNumber6 => k_is)
    (case xi_InvalidNumber7 => k_is)
    (case xi_InvalidNumber8 => k_is)
    (case xi_UnknownSite1 => kx_is)
    (case xi_UnknownSite2 => kx_is)
    (case xi_UnknownSite3 => k_is)
    (case xi_UnknownSite4 => k_is)
    (case xi_UnknownSite5 => k_is)
    (case xi_UnknownSite6 => k_is)
    (case xi_UnknownSite7 => k_is)
    (case xi_UnknownSite8 => k_is)
    (case xi_UnknownName1 => kx_is)
    (case xi_UnknownName2 => kx_is)
    (case xi_UnknownName3 => k_is)
    (case xi_UnknownName4 => k_is)
    (case xi_UnknownName5 => k_is)
    (case xi_UnknownName6 => k_is)
    (case xi_UnknownName7 => k_is)
    (case xi_UnknownName8 => k_is)
    (case xi_TooMany1 => kx_is)
    (case xi_TooMany2 => kx_is)
    (case xi_TooMany3 => k_is)
    (case xi_TooMany4 => k_is)
    (case xi_TooMany5 => k_is)
    (case xi_TooMany6 => k_is)
    (case xi_TooMany7 => k_is)
    (case xi_TooMany8 => k_is)
    (case xi_Refused1 => kx_is)
    (case xi_Refused2 => kx_is)
    (case xi_Refused3 => k_is)
    (case xi_Refused4 => k_is)
    (case xi_Refused5 => k_is)
    (case xi_Refused6 => k_is)
    (case xi_Refused7 => k_is)
    (case xi_Refused8 => k_is)
    (case xi_NothingToUndo1 => kx_is)
    (case xi_NothingToUndo2 => kx_is)
    (case xi_NothingToUndo3 => k_is)
    (case xi_NothingToUndo4 => k_is)
    (case xi_NothingToUndo5 => k_is)
    (case xi_NothingToUndo6 => k_is)
    (case xi_NothingToUndo7 => k_is)
    (case xi_NothingToUndo8 => k_is)
    (case nf_TooMany_limit1 => k_is)
    (case ec_TooMany1 => k_is)
    (case ec_TooMany2 => k_is)
    (case ec_TooMany3 => k_is)
    (case ec_TooMany4 => k_is)
    (case ec_TooMany5 => k_is)
    (case tyn1 => k_is)
    (case tyn2 => k_is)
    (case ec_TooMany6 => k_is)
    (case nf_Refused_name1 => k_is)
    (case ec_Refused1 => k_is)
    (case ec_Refused2 => k_is)
    (case ec_Refused3 => k_is)
    (case ec_Refused4 => k_is)
    (case ec_Refused5 => k_is)
    (case ec_Refused6 => k_is)
    (case nf_NothingToUndo_many1 => k_is)
    (case ec_NothingToUndo1 => k_is)
    (case ec_NothingToUndo2 => k_is)
    (case ec_NothingToUndo3 => k_is)
    (case ec_NothingToUndo4 => k_is)
    (case ec_NothingToUndo5 => k_is)
    (case ec_NothingToUndo6 => k_is)
    (case nf_InvalidNumber_value1 => k_is)
    (case ec_InvalidNumber1 => k_is)
    (case ec_InvalidNumber2 => k_is)
    (case ec_InvalidNumber3 => k_is)
    (case ec_InvalidNumber4 => k_is)
    (case ec_InvalidNumber5 => k_is)
    (case ec_InvalidNumber6 => k_is)
    (case nf_UnknownSite_site1 => k_is)
    (case ec_UnknownSite1 => k_is)
    (case ec_UnknownSite2 => k_is)
    (case ec_UnknownSite3 => k_is)
    (case ec_UnknownSite4 => k_is)
    (case ec_UnknownSite5 => k_is)
    (case ec_UnknownSite6 => k_is)
    (case nf_UnknownName_name1 => k_is)
    (case ec_UnknownName1 => k_is)
    (case ec_UnknownName2 => k_is)
    (case ec_UnknownName3 => k_is)
    (case ec_UnknownName4 => k_is)
    (case ec_UnknownName5 => k_is)
    (case ec_UnknownName6 => k_is)
    (case nf_ParseError_line1 => k_is)
    (case ec_ParseError1 => k_is)
    (case ec_ParseError2 => k_is)
    (case ec_ParseError3 => k_is)
    (case ec_ParseError4 => k_is)
    (case ec_ParseError5 => k_is)
    (case ec_ParseError6 => k_is)
    (case ec_AnswerError1 => k_is)
    (case ec_AnswerError2 => k_is)
    (case ec_AnswerError3 => k_is)
    (case ec_AnswerError4 => k_is)
    (case ec_AnswerError5 => k_is)
    (case ec_AnswerError6 => k_is)
    (case ec_InvalidProgram1 => k_is)
    (case ec_InvalidProgram2 => k_is)
    (case ec_InvalidProgram3 => k_is)
    (case ec_InvalidProgram4 => k_is)
    (case ec_InvalidProgram5 => k_is)
    (case ec_InvalidProgram6 => k_is)
    (case ec_InvalidMode1 => k_is)
    (case ec_InvalidMode2 => k_is)
    (case ec_InvalidMode3 => k_is)
    (case ec_InvalidMode4 => k_is)
    (case ec_InvalidMode5 => k_is)
    (case ec_InvalidMode6 => k_is)
    (case ec_InvalidTable1 => k_is)
    (case ec_InvalidTable2 => k_is)
    (case ec_InvalidTable3 => k_is)
    (case ec_InvalidTable4 => k_is)
    (case ec_InvalidTable5 => k_is)
    (case ec_InvalidTable6 => k_is)
    (case ec_InvalidRun1 => k_is)
    (case ec_InvalidRun2 => k_is)
    (case ec_InvalidRun3 => k_is)
    (case ec_InvalidRun4 => k_is)
    (case ec_InvalidRun5 => k_is)
    (case ec_InvalidRun6 => k_is)
    (case ec_InvalidFact1 => k_is)
    (case ec_InvalidFact2 => k_is)
    (case ec_InvalidFact3 => k_is)
    (case ec_InvalidFact4 => k_is)
    (case ec_InvalidFact5 => k_is)
    (case ec_InvalidFact6 => k_is)
    (case ec_InvalidDerivation1 => k_is)
    (case ec_InvalidDerivation2 => k_is)
    (case ec_InvalidDerivation3 => k_is)
    (case ec_InvalidDerivation4 => k_is)
    (case ec_InvalidDerivation5 => k_is)
    (case ec_InvalidDerivation6 => k_is)
    (case ec_InvalidOperation1 => k_is)
    (case ec_InvalidOperation2 => k_is)
    (case ec_InvalidOperation3 => k_is)
    (case ec_InvalidOperation4 => k_is)
    (case ec_InvalidOperation5 => k_is)
    (case ec_InvalidOperation6 => k_is)
    (case ec_InvalidCommand1 => k_is)
    (case ec_InvalidCommand2 => k_is)
    (case ec_InvalidCommand3 => k_is)
    (case ec_InvalidCommand4 => k_is)
    (case ec_InvalidCommand5 => k_is)
    (case ec_InvalidCommand6 => k_is)
    (case l_InvalidNumber___init__ => k_is)
    (case c_InvalidNumber___init__ => k_is)
    (case k_InvalidNumber___init__ => k_is)
    (case l_NothingToUndo___init__ => k_is)
    (case c_NothingToUndo___init__ => k_is)
    (case k_NothingToUndo___init__ => k_is)
    (case l_ParseError___init__ => k_is)
    (case c_ParseError___init__ => k_is)
    (case k_ParseError___init__ => k_is)
    (case l_Refused___init__ => k_is)
    (case c_Refused___init__ => k_is)
    (case k_Refused___init__ => k_is)
    (case l_TooMany___init__ => k_is)
    (case c_TooMany___init__ => k_is)
    (case k_TooMany___init__ => k_is)
    (case l_UnknownName___init__ => k_is)
    (case c_UnknownName___init__ => k_is)
    (case k_UnknownName___init__ => k_is)
    (case l_UnknownSite___init__ => k_is)
    (case c_UnknownSite___init__ => k_is)
    (case k_UnknownSite___init__ => k_is)
    (case ne_AnswerError_InvalidMode => decide)
    (case ne_InvalidProgram_InvalidMode => decide)
    (case ne_InvalidTable_InvalidMode => decide)
    (case ne_InvalidRun_InvalidMode => decide)
    (case ne_InvalidFact_InvalidMode => decide)
    (case ne_InvalidDerivation_InvalidMode => decide)
    (case ne_InvalidOperation_InvalidMode => decide)
    (case ne_InvalidCommand_InvalidMode => decide)
    (case ne_ParseError_InvalidMode => decide)
    (case ne_UnknownName_InvalidMode => decide)
    (case ne_UnknownSite_InvalidMode => decide)
    (case ne_InvalidNumber_InvalidMode => decide)
    (case ne_NothingToUndo_InvalidMode => decide)
    (case ne_Refused_InvalidMode => decide)
    (case ne_TooMany_InvalidMode => decide)
    (case ne_AnswerError_InvalidProgram => decide)
    (case ne_InvalidMode_InvalidProgram => decide)
    (case ne_InvalidTable_InvalidProgram => decide)
    (case ne_InvalidRun_InvalidProgram => decide)
    (case ne_InvalidFact_InvalidProgram => decide)
    (case ne_InvalidDerivation_InvalidProgram => decide)
    (case ne_InvalidOperation_InvalidProgram => decide)
    (case ne_InvalidCommand_InvalidProgram => decide)
    (case ne_ParseError_InvalidProgram => decide)
    (case ne_UnknownName_InvalidProgram => decide)
    (case ne_UnknownSite_InvalidProgram => decide)
    (case ne_InvalidNumber_InvalidProgram => decide)
    (case ne_NothingToUndo_InvalidProgram => decide)
    (case ne_Refused_InvalidProgram => decide)
    (case ne_TooMany_InvalidProgram => decide)
    (case ne_UnknownName_AnswerError => decide)
    (case ne_UnknownSite_AnswerError => decide)
    (case ne_InvalidNumber_AnswerError => decide)
    (case ne_NothingToUndo_AnswerError => decide)
    (case ne_Refused_AnswerError => decide)
    (case ne_TooMany_AnswerError => decide)
    (case ne_AnswerError_InvalidFact => decide)
    (case ne_InvalidProgram_InvalidFact => decide)
    (case ne_InvalidMode_InvalidFact => decide)
    (case ne_InvalidTable_InvalidFact => decide)
    (case ne_InvalidRun_InvalidFact => decide)
    (case ne_InvalidDerivation_InvalidFact => decide)
    (case ne_InvalidOperation_InvalidFact => decide)
    (case ne_InvalidCommand_InvalidFact => decide)
    (case ne_ParseError_InvalidFact => decide)
    (case ne_UnknownName_InvalidFact => decide)
    (case ne_UnknownSite_InvalidFact => decide)
    (case ne_InvalidNumber_InvalidFact => decide)
    (case ne_NothingToUndo_InvalidFact => decide)
    (case ne_Refused_InvalidFact => decide)
    (case ne_TooMany_InvalidFact => decide)
    (case ne_AnswerError_InvalidRun => decide)
    (case ne_InvalidProgram_InvalidRun => decide)
    (case ne_InvalidMode_InvalidRun => decide)
    (case ne_InvalidTable_InvalidRun => decide)
    (case ne_InvalidFact_InvalidRun => decide)
    (case ne_InvalidDerivation_InvalidRun => decide)
    (case ne_InvalidOperation_InvalidRun => decide)
    (case ne_InvalidCommand_InvalidRun => decide)
    (case ne_ParseError_InvalidRun => decide)
    (case ne_UnknownName_InvalidRun => decide)
    (case ne_UnknownSite_InvalidRun => decide)
    (case ne_InvalidNumber_InvalidRun => decide)
    (case ne_NothingToUndo_InvalidRun => decide)
    (case ne_Refused_InvalidRun => decide)
    (case ne_TooMany_InvalidRun => decide)
    (case ne_AnswerError_InvalidTable => decide)
    (case ne_InvalidProgram_InvalidTable => decide)
    (case ne_InvalidMode_InvalidTable => decide)
    (case ne_InvalidRun_InvalidTable => decide)
    (case ne_InvalidFact_InvalidTable => decide)
    (case ne_InvalidDerivation_InvalidTable => decide)
    (case ne_InvalidOperation_InvalidTable => decide)
    (case ne_InvalidCommand_InvalidTable => decide)
    (case ne_ParseError_InvalidTable => decide)
    (case ne_UnknownName_InvalidTable => decide)
    (case ne_UnknownSite_InvalidTable => decide)
    (case ne_InvalidNumber_InvalidTable => decide)
    (case ne_NothingToUndo_InvalidTable => decide)
    (case ne_Refused_InvalidTable => decide)
    (case ne_TooMany_InvalidTable => decide)
    (case ne_AnswerError_InvalidOperation => decide)
    (case ne_InvalidProgram_InvalidOperation => decide)
    (case ne_InvalidMode_InvalidOperation => decide)
    (case ne_InvalidTable_InvalidOperation => decide)
    (case ne_InvalidRun_InvalidOperation => decide)
    (case ne_InvalidFact_InvalidOperation => decide)
    (case ne_InvalidDerivation_InvalidOperation => decide)
    (case ne_InvalidCommand_InvalidOperation => decide)
    (case ne_ParseError_InvalidOperation => decide)
    (case ne_UnknownName_InvalidOperation => decide)
    (case ne_UnknownSite_InvalidOperation => decide)
    (case ne_InvalidNumber_InvalidOperation => decide)
    (case ne_NothingToUndo_InvalidOperation => decide)
    (case ne_Refused_InvalidOperation => decide)
    (case ne_TooMany_InvalidOperation => decide)
    (case ne_AnswerError_InvalidDerivation => decide)
    (case ne_InvalidProgram_InvalidDerivation => decide)
    (case ne_InvalidMode_InvalidDerivation => decide)
    (case ne_InvalidTable_InvalidDerivation => decide)
    (case ne_InvalidRun_InvalidDerivation => decide)
    (case ne_InvalidFact_InvalidDerivation => decide)
    (case ne_InvalidOperation_InvalidDerivation => decide)
    (case ne_InvalidCommand_InvalidDerivation => decide)
    (case ne_ParseError_InvalidDerivation => decide)
    (case ne_UnknownName_InvalidDerivation => decide)
    (case ne_UnknownSite_InvalidDerivation => decide)
    (case ne_InvalidNumber_InvalidDerivation => decide)
    (case ne_NothingToUndo_InvalidDerivation => decide)
    (case ne_Refused_InvalidDerivation => decide)
    (case ne_TooMany_InvalidDerivation => decide)
    (case ne_AnswerError_ParseError => decide)
    (case ne_InvalidProgram_ParseError => decide)
    (case ne_InvalidMode_ParseError => decide)
    (case ne_InvalidTable_ParseError => decide)
    (case ne_InvalidRun_ParseError => decide)
    (case ne_InvalidFact_ParseError => decide)
    (case ne_InvalidDerivation_ParseError => decide)
    (case ne_InvalidOperation_ParseError => decide)
    (case ne_InvalidCommand_ParseError => decide)
    (case ne_UnknownName_ParseError => decide)
    (case ne_UnknownSite_ParseError => decide)
    (case ne_InvalidNumber_ParseError => decide)
    (case ne_NothingToUndo_ParseError => decide)
    (case ne_Refused_ParseError => decide)
    (case ne_TooMany_ParseError => decide)
    (case ne_AnswerError_InvalidCommand => decide)
    (case ne_InvalidProgram_InvalidCommand => decide)
    (case ne_InvalidMode_InvalidCommand => decide)
    (case ne_InvalidTable_InvalidCommand => decide)
    (case ne_InvalidRun_InvalidCommand => decide)
    (case ne_InvalidFact_InvalidCommand => decide)
    (case ne_InvalidDerivation_InvalidCommand => decide)
    (case ne_InvalidOperation_InvalidCommand => decide)
    (case ne_ParseError_InvalidCommand => decide)
    (case ne_UnknownName_InvalidCommand => decide)
    (case ne_UnknownSite_InvalidCommand => decide)
    (case ne_InvalidNumber_InvalidCommand => decide)
    (case ne_NothingToUndo_InvalidCommand => decide)
    (case ne_Refused_InvalidCommand => decide)
    (case ne_TooMany_InvalidCommand => decide)
    (case ne_AnswerError_InvalidNumber => decide)
    (case ne_InvalidProgram_InvalidNumber => decide)
    (case ne_InvalidMode_InvalidNumber => decide)
    (case ne_InvalidTable_InvalidNumber => decide)
    (case ne_InvalidRun_InvalidNumber => decide)
    (case ne_InvalidFact_InvalidNumber => decide)
    (case ne_InvalidDerivation_InvalidNumber => decide)
    (case ne_InvalidOperation_InvalidNumber => decide)
    (case ne_InvalidCommand_InvalidNumber => decide)
    (case ne_ParseError_InvalidNumber => decide)
    (case ne_UnknownName_InvalidNumber => decide)
    (case ne_UnknownSite_InvalidNumber => decide)
    (case ne_NothingToUndo_InvalidNumber => decide)
    (case ne_Refused_InvalidNumber => decide)
    (case ne_TooMany_InvalidNumber => decide)
    (case ne_AnswerError_UnknownSite => decide)
    (case ne_InvalidProgram_UnknownSite => decide)
    (case ne_InvalidMode_UnknownSite => decide)
    (case ne_InvalidTable_UnknownSite => decide)
    (case ne_InvalidRun_UnknownSite => decide)
    (case ne_InvalidFact_UnknownSite => decide)
    (case ne_InvalidDerivation_UnknownSite => decide)
    (case ne_InvalidOperation_UnknownSite => decide)
    (case ne_InvalidCommand_UnknownSite => decide)
    (case ne_ParseError_UnknownSite => decide)
    (case ne_UnknownName_UnknownSite => decide)
    (case ne_InvalidNumber_UnknownSite => decide)
    (case ne_NothingToUndo_UnknownSite => decide)
    (case ne_Refused_UnknownSite => decide)
    (case ne_TooMany_UnknownSite => decide)
    (case ne_AnswerError_UnknownName => decide)
    (case ne_InvalidProgram_UnknownName => decide)
    (case ne_InvalidMode_UnknownName => decide)
    (case ne_InvalidTable_UnknownName => decide)
    (case ne_InvalidRun_UnknownName => decide)
    (case ne_InvalidFact_UnknownName => decide)
    (case ne_InvalidDerivation_UnknownName => decide)
    (case ne_InvalidOperation_UnknownName => decide)
    (case ne_InvalidCommand_UnknownName => decide)
    (case ne_ParseError_UnknownName => decide)
    (case ne_UnknownSite_UnknownName => decide)
    (case ne_InvalidNumber_UnknownName => decide)
    (case ne_NothingToUndo_UnknownName => decide)
    (case ne_Refused_UnknownName => decide)
    (case ne_TooMany_UnknownName => decide)
    (case ne_AnswerError_TooMany => decide)
    (case ne_InvalidProgram_TooMany => decide)
    (case ne_InvalidMode_TooMany => decide)
    (case ne_InvalidTable_TooMany => decide)
    (case ne_InvalidRun_TooMany => decide)
    (case ne_InvalidFact_TooMany => decide)
    (case ne_InvalidDerivation_TooMany => decide)
    (case ne_InvalidOperation_TooMany => decide)
    (case ne_InvalidCommand_TooMany => decide)
    (case ne_ParseError_TooMany => decide)
    (case ne_UnknownName_TooMany => decide)
    (case ne_UnknownSite_TooMany => decide)
    (case ne_InvalidNumber_TooMany => decide)
    (case ne_NothingToUndo_TooMany => decide)
    (case ne_Refused_TooMany => decide)
    (case ne_AnswerError_Refused => decide)
    (case ne_InvalidProgram_Refused => decide)
    (case ne_InvalidMode_Refused => decide)
    (case ne_InvalidTable_Refused => decide)
    (case ne_InvalidRun_Refused => decide)
    (case ne_InvalidFact_Refused => decide)
    (case ne_InvalidDerivation_Refused => decide)
    (case ne_InvalidOperation_Refused => decide)
    (case ne_InvalidCommand_Refused => decide)
    (case ne_ParseError_Refused => decide)
    (case ne_UnknownName_Refused => decide)
    (case ne_UnknownSite_Refused => decide)
    (case ne_InvalidNumber_Refused => decide)
    (case ne_NothingToUndo_Refused => decide)
    (case ne_TooMany_Refused => decide)
    (case ne_AnswerError_NothingToUndo => decide)
    (case ne_InvalidProgram_NothingToUndo => decide)
    (case ne_InvalidMode_NothingToUndo => decide)
    (case ne_InvalidTable_NothingToUndo => decide)
    (case ne_InvalidRun_NothingToUndo => decide)
    (case ne_InvalidFact_NothingToUndo => decide)
    (case ne_InvalidDerivation_NothingToUndo => decide)
    (case ne_InvalidOperation_NothingToUndo => decide)
    (case ne_InvalidCommand_NothingToUndo => decide)
    (case ne_ParseError_NothingToUndo => decide)
    (case ne_UnknownName_NothingToUndo => decide)
    (case ne_UnknownSite_NothingToUndo => decide)
    (case ne_InvalidNumber_NothingToUndo => decide)
    (case ne_Refused_NothingToUndo => decide)
    (case ne_TooMany_NothingToUndo => decide)
