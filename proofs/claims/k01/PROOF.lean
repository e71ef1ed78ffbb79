import PyProof.Rows.All
import Wide.All
import OpenK.AllK
import Wide.FinOn
import HandS.ForMost
import HandS.ForExc
import HandS.NoneIn
import HandS.TupAny
import HandS.TupMul
import HandS.IsInst
import HandS.RaiseMore
import HandS.Wide
import KE.DataEq
import PySem.Challenge.RW_answeredabove_k01_names
set_option Elab.async false
set_option linter.all false
set_option maxRecDepth 100000
/-! DX: a def's meaning as a function over plain data, and what makes it so. 1: data, the store, what stands for what -/
namespace DX
open PySem PySem.Spec PyProof.Rows L2

/-- data: lst, dK stand for lists and dicts that nobody changes any more (rd: a list that is locked); ob n for the n-th thing of the store -/
inductive D where
  | non | bl (b : Bool) | int (i : Int) | str (x : Str)
  | tup (xs : List D) | lst (xs : List D) | rd (xs : List D) | dK (kvs : List (Key × D)) | ob (n : Nat)
  deriving Inhabited
/-- what may change -/
inductive O where
  | lst (xs : List D) | gone
abbrev Store := List O
inductive Res (α : Type) where
  | ok (a : α) (st : Store) | exc (c : String) (fs : List (Str × D)) (st : Store) | bad
def Res.bind {α β : Type} (r : Res α) (f : α → Store → Res β) : Res β :=
  match r with
  | .ok a st => f a st
  | .exc c fs st => .exc c fs st
  | .bad => .bad
abbrev Sl := List (Option D)
abbrev EF := Sl → Store → Res D
abbrev TF := Sl → Store → Res Bool
abbrev AF := Sl → Store → Res (List D)
abbrev FF := List D → Store → Res D
inductive SRes where
  | nx (ρ : Sl) (st : Store) | rt (d : D) (st : Store) | bk (ρ : Sl) (st : Store) | ct (ρ : Sl) (st : Store)
  | exc (c : String) (fs : List (Str × D)) (ρ : Sl) (st : Store) | bad
abbrev SF := Sl → Store → SRes

/-! ### what stands for what -/
/-- where the store's things stand; what no datum may stand for -/
structure Mp where
  m : List Addr
  x : List Addr
def Mp.out (M : Mp) (a : Addr) : Prop := a ∉ M.m ∧ a ∉ M.x
def WrT (K : PySem.W.Frag) (a : Addr) (xs : List V) : Prop :=
  ∃ o its n, List.lookup a K = some o ∧ o.cls = Value.type "tuple" ∧ o.data = Data.seq its n ∧ its.size ≤ sizeLine ∧ Vals xs its.toList
def WrL (K : PySem.W.Frag) (a : Addr) (xs : List V) : Prop :=
  ∃ o its n, List.lookup a K = some o ∧ o.cls = Value.type "list" ∧ o.dict = none ∧ o.data = Data.seq its n ∧ its.size ≤ sizeLine ∧ Vals xs its.toList
def TupAt (K : PySem.W.Frag) (H : Hp) (m : Mp) (a : Addr) (xs : List V) : Prop := (Rd H a (.tup xs) ∧ m.out a) ∨ WrT K a xs
def LstAt (K : PySem.W.Frag) (H : Hp) (m : Mp) (a : Addr) (xs : List V) : Prop := (Rd H a (.lst xs) ∧ m.out a) ∨ WrL K a xs
mutual
inductive Rep (K : PySem.W.Frag) (H : Hp) (m : Mp) : V → D → Prop
  | non : Rep K H m .non .non
  | bl (b : Bool) : Rep K H m (.bl b) (.bl b)
  | int (i : Int) : Rep K H m (.int i) (.int i)
  | str (x : Str) : Rep K H m (.str x) (.str x)
  | tup {a : Addr} {vs : List V} {ds : List D} : TupAt K H m a vs → RepL K H m vs ds → Rep K H m (.ref a) (.tup ds)
  | lst {a : Addr} {vs : List V} {ds : List D} : H a = some (.lst vs) → m.out a → RepL K H m vs ds → Rep K H m (.ref a) (.lst ds)
  | rd {a : Addr} {vs : List V} {ds : List D} : LstAt K H m a vs → RepL K H m vs ds → Rep K H m (.ref a) (.rd ds)
  | dK {a : Addr} {vs : List (Key × V)} {ds : List (Key × D)} : Rd H a (.dK vs) → m.out a → RepK K H m vs ds → Rep K H m (.ref a) (.dK ds)
  | ob {a : Addr} {n : Nat} : m.m[n]? = some a → Rep K H m (.ref a) (.ob n)
inductive RepL (K : PySem.W.Frag) (H : Hp) (m : Mp) : List V → List D → Prop
  | nil : RepL K H m [] []
  | cons {v : V} {vs : List V} {d : D} {ds : List D} : Rep K H m v d → RepL K H m vs ds → RepL K H m (v :: vs) (d :: ds)
inductive RepK (K : PySem.W.Frag) (H : Hp) (m : Mp) : List (Key × V) → List (Key × D) → Prop
  | nil : RepK K H m [] []
  | cons {k : Key} {v : V} {vs : List (Key × V)} {d : D} {ds : List (Key × D)} : Rep K H m v d → RepK K H m vs ds → RepK K H m ((k, v) :: vs) ((k, d) :: ds)
end
structure Ext (m : Mp) (H : Hp) (m' : Mp) (H' : Hp) : Prop where
  pre : m.m <+: m'.m
  old : ∀ a o, H a = some o → a ∉ m.m → H' a = some o
  new : ∀ a, a ∈ m'.m → a ∉ m.m → H a = none
  ex : ∀ a ∈ m'.x, a ∈ m.x ∨ H a = none
  exs : ∀ a ∈ m.x, a ∈ m'.x
  tr : ∀ a, H a ≠ none → H' a ≠ none
theorem Ext.refl (m : Mp) (H : Hp) : Ext m H m H := ⟨List.prefix_refl _, fun _ _ h _ => h, fun _ h1 h2 => absurd h1 h2, fun _ h => .inl h, fun _ h => h, fun _ h => h⟩
theorem Ext.trans {m m1 m2 : Mp} {H H1 H2 : Hp} (a : Ext m H m1 H1) (b : Ext m1 H1 m2 H2) : Ext m H m2 H2 where
  pre := a.pre.trans b.pre
  old := fun c o h hn => b.old c o (a.old c o h hn) fun h1 => by
    rw [a.new c h1 hn] at h
    cases h
  new := fun c h2 hn => by
    by_cases h1 : c ∈ m1.m
    · exact a.new c h1 hn
    · have q := b.new c h2 h1
      cases e : H c with
      | none => rfl
      | some o =>
        rw [a.old c o e hn] at q
        cases q
  ex := fun c h => (b.ex c h).elim (fun q => a.ex c q) fun q => .inr (by
    cases e : H c with
    | none => rfl
    | some o => exact absurd q (a.tr c (by rw [e]; simp)))
  exs := fun c h => b.exs c (a.exs c h)
  tr := fun c h => b.tr c (a.tr c h)
theorem Ext.mem {m m' : Mp} {H H' : Hp} (e : Ext m H m' H') {a : Addr} (h : a ∈ m.m) : a ∈ m'.m := e.pre.subset h
theorem Ext.laid {m : Mp} {H : Hp} {p : Addr} {o : HO} (h : H p = none) : Ext m H m (upd H p o) where
  pre := List.prefix_refl _
  old := fun a u e _ => by
    rw [upd_ne (ne_of_none e h)]
    exact e
  new := fun _ h1 h2 => absurd h1 h2
  ex := fun _ h => .inl h
  exs := fun _ h => h
  tr := fun a h => by
    by_cases e : a = p
    · rw [e, upd_same]; simp
    · rw [upd_ne e]; exact h
/-- what was not there may change -/
theorem Ext.mut {m m' : Mp} {H H' : Hp} {p : Addr} {o : HO} (e : Ext m H m' H') (h : H p = none) : Ext m H m' (upd H' p o) :=
  ⟨e.pre, fun a u ha hn => by rw [upd_ne (ne_of_none ha h)]; exact e.old a u ha hn, e.new, e.ex, e.exs, fun a ha => by
    have q := e.tr a ha
    by_cases z : a = p
    · rw [z, upd_same]; simp
    · rw [upd_ne z]; exact q⟩
theorem Ext.notin {m m' : Mp} {H H' : Hp} (e : Ext m H m' H') {a : Addr} {o : HO} (h : H a = some o) (hn : a ∉ m.m) : a ∉ m'.m := fun h1 => by
  rw [e.new a h1 hn] at h
  cases h
theorem tr_upd {H : Hp} {p : Addr} {o : HO} {a : Addr} (h : H a ≠ none) : upd H p o a ≠ none := by
  by_cases e : a = p
  · rw [e, upd_same]; simp
  · rw [upd_ne e]; exact h
theorem Ext.out {m m' : Mp} {H H' : Hp} (e : Ext m H m' H') {a : Addr} {o : HO} (h : H a = some o) (hn : m.out a) : m'.out a := ⟨e.notin h hn.1, fun z => (e.ex a z).elim hn.2 fun q => by rw [h] at q; cases q⟩
theorem rd_ext {m m' : Mp} {H H' : Hp} (e : Ext m H m' H') {a : Addr} {u : HO} (h : Rd H a u) (hn : m.out a) : Rd H' a u ∧ m'.out a := by
  rcases h with h | ⟨o, h⟩
  · exact ⟨.inl (e.old a _ h hn.1), e.out h hn⟩
  · exact ⟨.inr ⟨o, e.old a _ h hn.1⟩, e.out h hn⟩
section
variable {K : PySem.W.Frag} {m m' : Mp} {H H' : Hp}
theorem TupAt.ext (e : Ext m H m' H') {a : Addr} {xs : List V} (h : TupAt K H m a xs) : TupAt K H' m' a xs := by
  rcases h with ⟨h, hn⟩ | h
  · exact .inl (rd_ext e h hn)
  · exact .inr h
theorem LstAt.ext (e : Ext m H m' H') {a : Addr} {xs : List V} (h : LstAt K H m a xs) : LstAt K H' m' a xs := by
  rcases h with ⟨h, hn⟩ | h
  · exact .inl (rd_ext e h hn)
  · exact .inr h
theorem TupAt.sq {a : Addr} {xs : List V} (h : TupAt K H m a xs) : SqT K H a xs := by
  rcases h with ⟨h, _⟩ | h
  · exact .inl h
  · exact .inr h
theorem LstAt.sq {a : Addr} {xs : List V} (h : LstAt K H m a xs) : SqL K H a xs := by
  rcases h with ⟨h, _⟩ | h
  · exact .inl h
  · exact .inr h
mutual
theorem Rep.ext (e : Ext m H m' H') : ∀ (d : D) (v : V), Rep K H m v d → Rep K H' m' v d
  | .non, _, h => by cases h; exact .non
  | .bl b, _, h => by cases h; exact .bl b
  | .int i, _, h => by cases h; exact .int i
  | .str x, _, h => by cases h; exact .str x
  | .tup ds, _, h => by
    cases h with
    | tup h1 h2 => exact .tup (h1.ext e) (RepL.ext e ds _ h2)
  | .lst ds, _, h => by
    cases h with
    | lst h1 hn h2 => exact .lst (e.old _ _ h1 hn.1) (e.out h1 hn) (RepL.ext e ds _ h2)
  | .rd ds, _, h => by
    cases h with
    | rd h1 h2 => exact .rd (h1.ext e) (RepL.ext e ds _ h2)
  | .dK ds, _, h => by
    cases h with
    | dK h1 hn h2 => exact .dK (rd_ext e h1 hn).1 (rd_ext e h1 hn).2 (RepK.ext e ds _ h2)
  | .ob n, _, h => by
    cases h with
    | ob h1 =>
      obtain ⟨t, ht⟩ := e.pre
      refine .ob ?_
      rw [← ht, List.getElem?_append_left (List.getElem?_eq_some_iff.mp h1).1]
      exact h1
theorem RepL.ext (e : Ext m H m' H') : ∀ (ds : List D) (vs : List V), RepL K H m vs ds → RepL K H' m' vs ds
  | [], _, h => by cases h; exact .nil
  | d :: ds, _, h => by
    cases h with
    | cons h1 h2 => exact .cons (Rep.ext e d _ h1) (RepL.ext e ds _ h2)
theorem RepK.ext (e : Ext m H m' H') : ∀ (ds : List (Key × D)) (vs : List (Key × V)), RepK K H m vs ds → RepK K H' m' vs ds
  | [], _, h => by cases h; exact .nil
  | (k, d) :: ds, _, h => by
    cases h with
    | cons h1 h2 => exact .cons (Rep.ext e d _ h1) (RepK.ext e ds _ h2)
end
theorem Rep.up (e : Ext m H m' H') {d : D} {v : V} (h : Rep K H m v d) : Rep K H' m' v d := Rep.ext e d v h
theorem RepL.up (e : Ext m H m' H') {ds : List D} {vs : List V} (h : RepL K H m vs ds) : RepL K H' m' vs ds := RepL.ext e ds vs h
theorem RepL.length : ∀ {vs : List V} {ds : List D}, RepL K H m vs ds → vs.length = ds.length
  | [], [], _ => rfl
  | [], _ :: _, h => by cases h
  | _ :: _, [], h => by cases h
  | v :: vs, d :: ds, h => by
    cases h with
    | cons h1 h2 => exact congrArg Nat.succ (RepL.length h2)
theorem RepL.get : ∀ {vs : List V} {ds : List D} {i : Nat} {d : D}, RepL K H m vs ds → ds[i]? = some d → ∃ v, vs[i]? = some v ∧ Rep K H m v d
  | [], [], i, d, _, e => by simp at e
  | [], _ :: _, _, _, h, _ => by cases h
  | _ :: _, [], _, _, h, _ => by cases h
  | v :: vs, d :: ds, 0, d', h, e => by
    cases h with
    | cons h1 h2 =>
      have e' : d = d' := by simpa using e
      subst e'
      exact ⟨v, rfl, h1⟩
  | v :: vs, d :: ds, i + 1, d', h, e => by
    cases h with
    | cons h1 h2 =>
      obtain ⟨w, q1, q2⟩ := RepL.get (i := i) (d := d') h2 (by simpa using e)
      exact ⟨w, by simpa using q1, q2⟩
theorem RepL.get' : ∀ {vs : List V} {ds : List D} {i : Nat} {v : V}, RepL K H m vs ds → vs[i]? = some v → ∃ d, ds[i]? = some d ∧ Rep K H m v d
  | [], [], i, d, _, e => by simp at e
  | [], _ :: _, _, _, h, _ => by cases h
  | _ :: _, [], _, _, h, _ => by cases h
  | v :: vs, d :: ds, 0, v', h, e => by
    cases h with
    | cons h1 h2 =>
      have e' : v = v' := by simpa using e
      subst e'
      exact ⟨d, rfl, h1⟩
  | v :: vs, d :: ds, i + 1, v', h, e => by
    cases h with
    | cons h1 h2 =>
      obtain ⟨w, q1, q2⟩ := RepL.get' (i := i) (v := v') h2 (by simpa using e)
      exact ⟨w, by simpa using q1, q2⟩
theorem RepL.append : ∀ {vs ws : List V} {ds es : List D}, RepL K H m vs ds → RepL K H m ws es → RepL K H m (vs ++ ws) (ds ++ es)
  | [], _, [], _, _, h => h
  | [], _, _ :: _, _, h, _ => by cases h
  | _ :: _, _, [], _, h, _ => by cases h
  | v :: vs, _, d :: ds, _, h, g => by
    cases h with
    | cons h1 h2 => exact .cons h1 (RepL.append h2 g)
theorem RepL.take : ∀ {vs : List V} {ds : List D} (n : Nat), RepL K H m vs ds → RepL K H m (vs.take n) (ds.take n)
  | [], [], n, _ => by simp; exact .nil
  | [], _ :: _, _, h => by cases h
  | _ :: _, [], _, h => by cases h
  | v :: vs, d :: ds, 0, h => .nil
  | v :: vs, d :: ds, n + 1, h => by
    cases h with
    | cons h1 h2 => exact .cons h1 (RepL.take n h2)
theorem RepL.drop : ∀ {vs : List V} {ds : List D} (n : Nat), RepL K H m vs ds → RepL K H m (vs.drop n) (ds.drop n)
  | [], [], n, _ => by simp; exact .nil
  | [], _ :: _, _, h => by cases h
  | _ :: _, [], _, h => by cases h
  | v :: vs, d :: ds, 0, h => h
  | v :: vs, d :: ds, n + 1, h => by
    cases h with
    | cons h1 h2 => exact RepL.drop n h2
theorem RepL.reverse : ∀ {vs : List V} {ds : List D}, RepL K H m vs ds → RepL K H m vs.reverse ds.reverse
  | [], [], _ => .nil
  | [], _ :: _, h => by cases h
  | _ :: _, [], h => by cases h
  | v :: vs, d :: ds, h => by
    cases h with
    | cons h1 h2 =>
      rw [List.reverse_cons, List.reverse_cons]
      exact (RepL.reverse h2).append (.cons h1 .nil)
theorem RepL.set : ∀ {vs : List V} {ds : List D} {v : V} {d : D} (i : Nat), RepL K H m vs ds → Rep K H m v d → RepL K H m (vs.set i v) (ds.set i d)
  | [], [], _, _, i, _, _ => by simp; exact .nil
  | [], _ :: _, _, _, _, h, _ => by cases h
  | _ :: _, [], _, _, _, h, _ => by cases h
  | v :: vs, d :: ds, _, _, 0, h, g => by
    cases h with
    | cons h1 h2 => exact .cons g h2
  | v :: vs, d :: ds, _, _, i + 1, h, g => by
    cases h with
    | cons h1 h2 => exact .cons h1 (RepL.set i h2 g)
theorem RepL.ints {ns : List Int} : RepL K H m (ns.map V.int) (ns.map D.int) := by
  induction ns with
  | nil => exact .nil
  | cons n r ih => exact .cons (.int n) ih
end
/-- the store and what stands for it -/
def ORep (K : PySem.W.Frag) (H : Hp) (m : Mp) (a : Addr) : O → Prop
  | .lst ds => ∃ vs, H a = some (.lst vs) ∧ RepL K H m vs ds
  | .gone => True
structure Rl (K : PySem.W.Frag) (m : Mp) (H : Hp) (st : Store) : Prop where
  nd : m.m.Nodup
  len : m.m.length = st.length
  ob : ∀ (n : Nat) (o : O) (a : Addr), st[n]? = some o → m.m[n]? = some a → ORep K H m a o
  tr : ∀ a ∈ m.m, H a ≠ none
  trx : ∀ a ∈ m.x, H a ≠ none
/-- the slots -/
structure SR (K : PySem.W.Frag) (H : Hp) (m : Mp) (σ : L2.St) (ρ : Sl) : Prop where
  len : σ.length = ρ.length
  get : ∀ (i : Nat) (d : D), ρ[i]? = some (some d) → ∃ v, σ[i]? = some (some v) ∧ Rep K H m v d
section
variable {K : PySem.W.Frag} {m m' : Mp} {H H' : Hp} {σ : L2.St} {ρ : Sl} {st : Store}
theorem SR.up (e : Ext m H m' H') (s : SR K H m σ ρ) : SR K H' m' σ ρ := ⟨s.len, fun i d h => by
  obtain ⟨v, h1, h2⟩ := s.get i d h
  exact ⟨v, h1, h2.up e⟩⟩
theorem SR.set (s : SR K H m σ ρ) {v : V} {d : D} (r : Rep K H m v d) (i : Nat) : SR K H m (σ.set i (some v)) (ρ.set i (some d)) := ⟨by simp [s.len], fun j d' h => by
  by_cases e : i = j
  · subst e
    rw [List.getElem?_set] at h
    by_cases hl : i < ρ.length
    · simp [hl] at h
      subst h
      refine ⟨v, ?_, r⟩
      rw [List.getElem?_set]
      simp [s.len, hl]
    · simp [hl] at h
  · rw [List.getElem?_set_ne e] at h
    obtain ⟨w, h1, h2⟩ := s.get j d' h
    exact ⟨w, by rw [List.getElem?_set_ne e]; exact h1, h2⟩⟩
theorem ORep.ext (e : Ext m H m' H') {a : Addr} {o : O} (h : ORep K H m a o) (hs : H' a = H a) : ORep K H' m' a o := by
  cases o with
  | lst ds =>
    obtain ⟨vs, h1, h2⟩ := h
    exact ⟨vs, hs.trans h1, h2.up e⟩
  | gone => trivial
/-- a new thing outside of the store -/
theorem Rl.laid (r : Rl K m H st) {p : Addr} {o : HO} (h : H p = none) : Rl K m (upd H p o) st :=
  ⟨r.nd, r.len, fun n u a h1 h2 => (r.ob n u a h1 h2).ext (Ext.laid h) (upd_ne fun z => r.tr a (List.mem_of_getElem? h2) (z ▸ h)), fun a ha => by
    exact tr_upd (r.tr a ha), fun a ha => tr_upd (r.trx a ha)⟩
theorem Rl.free (r : Rl K m H st) {p : Addr} (h : H p = none) : p ∉ m.m := fun z => r.tr p z h
/-- a new thing of the store -/
theorem Rl.push (r : Rl K m H st) {p : Addr} {o : HO} {u : O} (h : H p = none) (ho : ORep K (upd H p o) ⟨m.m ++ [p], m.x⟩ p u) :
    Ext m H ⟨m.m ++ [p], m.x⟩ (upd H p o) ∧ Rl K ⟨m.m ++ [p], m.x⟩ (upd H p o) (st ++ [u]) := by
  have hp := r.free h
  have e : Ext m H ⟨m.m ++ [p], m.x⟩ (upd H p o) := ⟨List.prefix_append _ _, (Ext.laid (m := m) h).old, fun a h1 h2 => by
    rcases List.mem_append.mp h1 with z | z
    · exact absurd z h2
    · have : a = p := by simpa using z
      rw [this]
      exact h, fun _ h => .inl h, fun _ h => h, fun _ h => tr_upd h⟩
  refine ⟨e, ?_, by simp [r.len], fun n u' a h1 h2 => ?_, fun a ha => ?_, fun a ha => tr_upd (r.trx a ha)⟩
  · refine List.nodup_append.mpr ⟨r.nd, by simp, fun a ha b hb z => ?_⟩
    have : b = p := by simpa using hb
    subst this
    exact hp (z ▸ ha)
  · by_cases hn : n < st.length
    · rw [List.getElem?_append_left hn] at h1
      rw [List.getElem?_append_left (by rw [r.len]; exact hn)] at h2
      exact (r.ob n u' a h1 h2).ext e (upd_ne fun z => hp (z ▸ List.mem_of_getElem? h2))
    · have hl := (List.getElem?_eq_some_iff.mp h1).1
      rw [List.length_append] at hl
      have en : n = st.length := by
        have : ([u] : List O).length = 1 := rfl
        omega
      subst en
      rw [List.getElem?_append_right (Nat.le_refl _), Nat.sub_self] at h1
      rw [List.getElem?_append_right (by rw [r.len]; exact Nat.le_refl _), r.len, Nat.sub_self] at h2
      have e1 : u = u' := by simpa using h1
      have e2 : p = a := by simpa using h2
      subst e1
      subst e2
      exact ho
  · rcases List.mem_append.mp ha with z | z
    · rw [upd_ne (show a ≠ p from fun q => hp (by rw [← q]; exact z))]
      exact r.tr a z
    · have : a = p := by simpa using z
      rw [this, upd_same]
      simp
/-- a thing of the store is changed -/
theorem Rl.write (r : Rl K m H st) {p : Addr} {n : Nat} {o : HO} {u : O} (hm : m.m[n]? = some p) (ho : Ext m H m (upd H p o) → ORep K (upd H p o) m p u) :
    Ext m H m (upd H p o) ∧ Rl K m (upd H p o) (st.set n u) := by
  have e : Ext m H m (upd H p o) := ⟨List.prefix_refl _, fun a q h hn => by
    rw [upd_ne (show a ≠ p from fun z => hn (by rw [z]; exact List.mem_of_getElem? hm))]
    exact h, fun _ h1 h2 => absurd h1 h2, fun _ h => .inl h, fun _ h => h, fun _ h => tr_upd h⟩
  refine ⟨e, r.nd, by simp [r.len], fun k u' a h1 h2 => ?_, fun a ha => ?_, fun a ha => tr_upd (r.trx a ha)⟩
  · by_cases hk : n = k
    · subst hk
      have hl : n < st.length := by
        rw [← r.len]
        exact (List.getElem?_eq_some_iff.mp hm).1
      rw [List.getElem?_set_self hl] at h1
      have e1 : u = u' := by simpa using h1
      rw [hm] at h2
      cases h2
      subst e1
      exact ho e
    · rw [List.getElem?_set_ne hk] at h1
      refine (r.ob k u' a h1 h2).ext e (upd_ne ?_)
      intro z
      subst z
      obtain ⟨l1, e1⟩ := List.getElem?_eq_some_iff.mp hm
      obtain ⟨l2, e2⟩ := List.getElem?_eq_some_iff.mp h2
      exact hk ((List.getElem_inj r.nd).mp (e1.trans e2.symm))
  · by_cases q : a = p
    · subst q
      rw [upd_same]
      simp
    · rw [upd_ne q]
      exact r.tr a ha
end
end DX

/-! DX 2: what it is for an expression to mean a function; the plain expressions -/
namespace DX
open PySem PySem.Spec PyProof.Rows L2

/-- an exception in the air: its class's name, its fields -/
def XRep (mg : Str → Option Value) (K : PySem.W.Frag) (H : Hp) (m : Mp) (cls : Value) (dc : Option Addr) (c : String) (fs : List (Str × D)) : Prop :=
  ∃ C, mg (Str.ofString c) = some (.ref C) ∧ cls = .ref C ∧
    (fs = [] ∨ ∃ d vs, dc = some d ∧ H d = some (.xd vs) ∧ m.out d ∧ vs.map (·.1) = fs.map (·.1) ∧ RepL K H m (vs.map (·.2)) (fs.map (·.2)))
def PostV (K : PySem.W.Frag) (m : Mp) (H : Hp) {α β : Type} (R : PySem.W.Frag → Hp → Mp → β → α → Prop) (Q : β → Hp → Prop) (a : α) (st : Store) : Prop :=
  ∀ v H' m', Ext m H m' H' → Rl K m' H' st → R K H' m' v a → Q v H'
def Post {α β : Type} (X : Cx) (W : WX) (m : Mp) (H : Hp) (σ : L2.St) (R : PySem.W.Frag → Hp → Mp → β → α → Prop) (Q : β → Hp → Prop) : Res α → Prop
  | .ok a st => PostV X.K m H R Q a st
  | .exc c fs st => ∀ cls dc H' m', Ext m H m' H' → Rl X.K m' H' st → XRep X.mg X.K H' m' cls dc c fs → W cls dc σ H'
  | .bad => False
section
variable {α α' β β' : Type} {X : Cx} {W : WX} {m m' : Mp} {H H' : Hp} {σ : L2.St} {R : PySem.W.Frag → Hp → Mp → β → α → Prop} {R' : PySem.W.Frag → Hp → Mp → β' → α' → Prop} {Q : β → Hp → Prop} {Q' : β' → Hp → Prop}
theorem Post.up {r : Res α} (h : Post X W m H σ R Q r) (e : Ext m H m' H') : Post X W m' H' σ R Q r := by
  cases r with
  | ok a st => exact fun v H2 m2 e2 => h v H2 m2 (e.trans e2)
  | exc c fs st => exact fun cls dc H2 m2 e2 => h cls dc H2 m2 (e.trans e2)
  | bad => exact h
theorem Post.mp {r : Res α'} {f : α' → Store → Res α} (h : Post X W m H σ R Q (r.bind f))
    (k : ∀ a st v H1 m1, Ext m H m1 H1 → Rl X.K m1 H1 st → R' X.K H1 m1 v a → Post X W m1 H1 σ R Q (f a st) → Q' v H1) : Post X W m H σ R' Q' r := by
  cases r with
  | ok a st =>
    intro v H1 m1 e r1 rp
    exact k a st v H1 m1 e r1 rp (Post.up (show Post X W m H σ R Q (f a st) from h) e)
  | exc c fs st => exact h
  | bad => exact h
theorem Post.go {a : α} {st : Store} {v : β} (h : Post X W m H σ R Q (.ok a st)) (r : Rl X.K m H st) (rp : R X.K H m v a) : Q v H := h v H m (Ext.refl m H) r rp
end
def RB : PySem.W.Frag → Hp → Mp → Bool → Bool → Prop := fun _ _ _ v a => v = a
/-- an expression, a test, arguments mean .. -/
structure SE (X : Cx) (W : WX) (e : Expr) (f : EF) : Prop where
  ex : ∃ t : TE, PE X e t ∧ ∀ σ H ρ st m Q, SR X.K H m σ ρ → Rl X.K m H st → Post X W m H σ Rep Q (f ρ st) → t σ H Q
structure STt (X : Cx) (W : WX) (e : Expr) (f : TF) : Prop where
  ex : ∃ t : TT, PT X e t ∧ ∀ σ H ρ st m Q, SR X.K H m σ ρ → Rl X.K m H st → Post X W m H σ RB Q (f ρ st) → t σ H Q
structure STw (X : Cx) (W : WX) (e : Expr) (f : TF) : Prop where
  ex : ∃ t : TT, PW X e t ∧ ∀ σ H ρ st m Q, SR X.K H m σ ρ → Rl X.K m H st → Post X W m H σ RB Q (f ρ st) → t σ H Q
structure SA (X : Cx) (W : WX) (es : List Expr) (f : AF) : Prop where
  ex : ∃ t : TA, PA X es t ∧ ∀ σ H ρ st m Q, SR X.K H m σ ρ → Rl X.K m H st → Post X W m H σ RepL Q (f ρ st) → t σ H Q
/-- what a body has around it -/
structure Ctx (X : Cx) (W : WX) (k : Nat) : Prop where
  calm : X.calm = true
  nd : X.N.Nodup
  tk : Takes X W
  room : Room k X.A

/-! ### the functions -/
def eVar (i : Nat) : EF := fun ρ st => match ρ[i]? with
  | some (some d) => .ok d st
  | _ => .bad
def eC (d : D) : EF := fun _ st => .ok d st
def Res.of {α : Type} (o : Option α) (st : Store) : Res α := match o with
  | some a => .ok a st
  | none => .bad
abbrev B2 := Store → D → D → Option D
def eOp (b : B2) (fa fb : EF) : EF := fun ρ st => (fa ρ st).bind fun x st1 => (fb ρ st1).bind fun y st2 => Res.of (b st2 x y) st2
def eUn (b : Store → D → Option D) (fa : EF) : EF := fun ρ st => (fa ρ st).bind fun x st1 => Res.of (b st1 x) st1
def eChain (b b' : B2) (fa fb fc : EF) : EF := fun ρ st => (fa ρ st).bind fun x st1 => (fb ρ st1).bind fun y st2 => match b st2 x y with
  | some (.bl true) => (fc ρ st2).bind fun z st3 => Res.of (b' st3 y z) st3
  | some (.bl false) => .ok (.bl false) st2
  | _ => .bad
def eAnd (fa fb : EF) : EF := fun ρ st => (fa ρ st).bind fun x st1 => match x with
  | .bl true => fb ρ st1
  | .bl false => .ok (.bl false) st1
  | _ => .bad
def eOr (fa fb : EF) : EF := fun ρ st => (fa ρ st).bind fun x st1 => match x with
  | .bl true => .ok (.bl true) st1
  | .bl false => fb ρ st1
  | _ => .bad
def eNot (fa : EF) : EF := fun ρ st => (fa ρ st).bind fun x st1 => match x with
  | .bl b => .ok (.bl !b) st1
  | _ => .bad
def eIf (c : TF) (fa fb : EF) : EF := fun ρ st => (c ρ st).bind fun b st1 => match b with
  | true => fa ρ st1
  | false => fb ρ st1
def tV (fa : EF) : TF := fun ρ st => (fa ρ st).bind fun x st1 => match x with
  | .bl b => .ok b st1
  | _ => .bad
def tAndF (c d : TF) : TF := fun ρ st => (c ρ st).bind fun b st1 => match b with
  | true => d ρ st1
  | false => .ok false st1
def tOrF (c d : TF) : TF := fun ρ st => (c ρ st).bind fun b st1 => match b with
  | true => .ok true st1
  | false => d ρ st1
def tNotF (c : TF) : TF := fun ρ st => (c ρ st).bind fun b st1 => .ok (!b) st1
def aNil : AF := fun _ st => .ok [] st
def aCons (fa : EF) (r : AF) : AF := fun ρ st => (fa ρ st).bind fun x st1 => (r ρ st1).bind fun xs st2 => .ok (x :: xs) st2
def aCall (b : Store → List D → Option D) (fa : AF) : EF := fun ρ st => (fa ρ st).bind fun xs st1 => Res.of (b st1 xs) st1

section
variable {X : Cx} {W : WX} {a b c e : Expr} {fa fb fc : EF} {pos : Pos}
theorem se_var (i : Nat) {x : Str} (hN : X.N[i]? = some x := by rfl) (hv : Vis X.env.scope x := by first | exact Or.inl rfl | exact Or.inr (Or.inl rfl) | exact Or.inr (Or.inr rfl)) (hd : (x == ("__debug__" : Str)) = false := by decide)
    (hcd : (x == ("__classdict__" : Str)) = false := by decide) : SE X W (.Name x pos) (eVar i) :=
  ⟨_, pe_var hN hv hd hcd, fun σ H ρ st m Q s r h => by
    unfold eVar at h
    split at h
    · rename_i d e
      obtain ⟨v, h1, h2⟩ := s.get i d e
      exact ⟨v, h1, h.go r h2⟩
    · exact h.elim⟩
theorem se_c {t : TE} {d : D} {v : V} (h : PE X e (fun _ H Q => Q v H)) (r : ∀ K H m, Rep K H m v d) : SE X W e (eC d) :=
  ⟨_, h, fun σ H ρ st m Q s rl h => h.go rl (r _ _ _)⟩
theorem se_int {i : Int} {j} : SE X W (.Constant (.int i) j pos) (eC (.int i)) := ⟨_, pe_int, fun σ H ρ st m Q s r h => h.go r (.int i)⟩
theorem se_bl {i : Bool} {j} : SE X W (.Constant (.bool i) j pos) (eC (.bl i)) := ⟨_, pe_bl, fun σ H ρ st m Q s r h => h.go r (.bl i)⟩
theorem se_str {i : Str} {j} : SE X W (.Constant (.str i) j pos) (eC (.str i)) := ⟨_, pe_str, fun σ H ρ st m Q s r h => h.go r (.str i)⟩
theorem se_non {j} : SE X W (.Constant .none j pos) (eC .non) := ⟨_, pe_non, fun σ H ρ st m Q s r h => h.go r .non⟩
/-- an operator on data -/
def OpD (X : Cx) (f : Value → Value → Sem Value) (b : B2) : Prop :=
  ∃ r : R2, OpR X f r ∧ ∀ (H : Hp) (m : Mp) (st : Store) (x y : V) (dx dy d : D) (Q : VK), Rl X.K m H st → Rep X.K H m x dx → Rep X.K H m y dy → b st dx dy = some d → PostV X.K m H Rep Q d st → r x y H Q
theorem PostV.go {K : PySem.W.Frag} {m : Mp} {H : Hp} {α β : Type} {R : PySem.W.Frag → Hp → Mp → β → α → Prop} {Q : β → Hp → Prop} {a : α} {st : Store} {v : β} (h : PostV K m H R Q a st) (r : Rl K m H st) (rp : R K H m v a) : Q v H := h v H m (Ext.refl m H) r rp
theorem se_op {op : Operator} {o : B2} (ho : OpD X (binaryOp op) o) (ha : SE X W a fa) (hb : SE X W b fb) : SE X W (.BinOp a op b pos) (eOp o fa fb) := by
  obtain ⟨r, hr, hro⟩ := ho
  obtain ⟨ta, pa, qa⟩ := ha
  obtain ⟨tb, pb, qb⟩ := hb
  refine ⟨_, pe_op hr pa pb, fun σ H ρ st m Q s rl h => qa σ H ρ st m _ s rl (h.mp fun x st1 v H1 m1 e1 r1 p1 h1 => qb σ H1 ρ st1 m1 _ (s.up e1) r1 (h1.mp fun y st2 w H2 m2 e2 r2 p2 h2 => ?_))⟩
  cases q : o st2 x y with
  | none => rw [q] at h2; exact h2.elim
  | some d => rw [q] at h2; exact hro H2 m2 st2 v w x y d Q r2 (p1.up e2) p2 q h2
theorem se_cmp {op : CmpOp} {o : B2} (ho : OpD X (compareOp op) o) (ha : SE X W a fa) (hb : SE X W b fb) (hm : behindInMarks op b = false := by exact nomark _) : SE X W (.Compare a [op] [b] pos) (eOp o fa fb) := by
  obtain ⟨r, hr, hro⟩ := ho
  obtain ⟨ta, pa, qa⟩ := ha
  obtain ⟨tb, pb, qb⟩ := hb
  refine ⟨_, pe_cmpR hr pa pb hm, fun σ H ρ st m Q s rl h => qa σ H ρ st m _ s rl (h.mp fun x st1 v H1 m1 e1 r1 p1 h1 => qb σ H1 ρ st1 m1 _ (s.up e1) r1 (h1.mp fun y st2 w H2 m2 e2 r2 p2 h2 => ?_))⟩
  cases q : o st2 x y with
  | none => rw [q] at h2; exact h2.elim
  | some d => rw [q] at h2; exact hro H2 m2 st2 v w x y d Q r2 (p1.up e2) p2 q h2
theorem se_chain {op op' : CmpOp} {o o' : B2} (ho : OpD X (compareOp op) o) (ho' : OpD X (compareOp op') o') (ha : SE X W a fa) (hb : SE X W b fb) (hc : SE X W c fc) (hm : lastMarks [op, op'] [b, c] = false := by rfl) :
    SE X W (.Compare a [op, op'] [b, c] pos) (eChain o o' fa fb fc) := by
  obtain ⟨r, hr, hro⟩ := ho
  obtain ⟨r', hr', hro'⟩ := ho'
  obtain ⟨ta, pa, qa⟩ := ha
  obtain ⟨tb, pb, qb⟩ := hb
  obtain ⟨tc, pc, qc⟩ := hc
  refine ⟨_, pe_chain hr hr' pa pb pc hm, fun σ H ρ st m Q s rl h => qa σ H ρ st m _ s rl (h.mp fun x st1 v H1 m1 e1 r1 p1 h1 => qb σ H1 ρ st1 m1 _ (s.up e1) r1 (h1.mp fun y st2 w H2 m2 e2 r2 p2 h2 => ?_))⟩
  cases q : o st2 x y with
  | none => rw [q] at h2; exact h2.elim
  | some d =>
    rw [q] at h2
    refine hro H2 m2 st2 v w x y d _ r2 (p1.up e2) p2 q fun z H3 m3 e3 r3 p3 => ?_
    cases d with
    | bl k =>
      cases p3
      refine ⟨k, rfl, ?_⟩
      cases k with
      | true =>
        rw [if_pos rfl]
        refine qc σ H3 ρ st2 m3 _ (((s.up e1).up e2).up e3) r3 ((h2.up e3).mp fun y' st4 w' H4 m4 e4 r4 p4 h4 => ?_)
        cases q' : o' st4 y y' with
        | none => rw [q'] at h4; exact h4.elim
        | some d' => rw [q'] at h4; exact hro' H4 m4 st4 w w' y y' d' Q r4 ((p2.up e3).up e4) p4 q' h4
      | false =>
        rw [if_neg Bool.false_ne_true]
        exact (h2.up e3).go r3 (.bl false)
    | _ => exact h2.elim
theorem se_and {rest : List Expr} (ha : SE X W a fa) (hb : SE X W (.BoolOp .And (b :: rest) pos) fb) : SE X W (.BoolOp .And (a :: b :: rest) pos) (eAnd fa fb) := by
  obtain ⟨ta, pa, qa⟩ := ha
  obtain ⟨tb, pb, qb⟩ := hb
  refine ⟨_, pe_and pa pb, fun σ H ρ st m Q s rl h => qa σ H ρ st m _ s rl (h.mp fun x st1 v H1 m1 e1 r1 p1 h1 => ?_)⟩
  cases x with
  | bl k =>
    cases p1
    refine ⟨k, rfl, ?_⟩
    cases k with
    | true =>
      rw [if_pos rfl]
      exact qb σ H1 ρ st1 m1 _ (s.up e1) r1 h1
    | false =>
      rw [if_neg Bool.false_ne_true]
      exact h1.go r1 (.bl false)
  | _ => exact h1.elim
theorem se_or {rest : List Expr} (ha : SE X W a fa) (hb : SE X W (.BoolOp .Or (b :: rest) pos) fb) : SE X W (.BoolOp .Or (a :: b :: rest) pos) (eOr fa fb) := by
  obtain ⟨ta, pa, qa⟩ := ha
  obtain ⟨tb, pb, qb⟩ := hb
  refine ⟨_, pe_or pa pb, fun σ H ρ st m Q s rl h => qa σ H ρ st m _ s rl (h.mp fun x st1 v H1 m1 e1 r1 p1 h1 => ?_)⟩
  cases x with
  | bl k =>
    cases p1
    refine ⟨k, rfl, ?_⟩
    cases k with
    | true =>
      rw [if_pos rfl]
      exact h1.go r1 (.bl true)
    | false =>
      rw [if_neg Bool.false_ne_true]
      exact qb σ H1 ρ st1 m1 _ (s.up e1) r1 h1
  | _ => exact h1.elim
theorem se_one {op : BoolOp} (ha : SE X W a fa) : SE X W (.BoolOp op [a] pos) fa := by
  obtain ⟨ta, pa, qa⟩ := ha
  exact ⟨_, pe_one pa, qa⟩
theorem se_not (ha : SE X W a fa) : SE X W (.UnaryOp .Not a pos) (eNot fa) := by
  obtain ⟨ta, pa, qa⟩ := ha
  refine ⟨_, pe_not pa, fun σ H ρ st m Q s rl h => qa σ H ρ st m _ s rl (h.mp fun x st1 v H1 m1 e1 r1 p1 h1 => ?_)⟩
  cases x with
  | bl k =>
    cases p1
    exact ⟨k, rfl, h1.go r1 (.bl _)⟩
  | _ => exact h1.elim
theorem se_if {fc : TF} (hc : STt X W c fc) (ha : SE X W a fa) (hb : SE X W b fb) : SE X W (.IfExp c a b pos) (eIf fc fa fb) := by
  obtain ⟨tc, pc, qc⟩ := hc
  obtain ⟨ta, pa, qa⟩ := ha
  obtain ⟨tb, pb, qb⟩ := hb
  refine ⟨_, pe_ifExp pc pa pb, fun σ H ρ st m Q s rl h => qc σ H ρ st m _ s rl (h.mp fun x st1 v H1 m1 e1 r1 p1 h1 => ?_)⟩
  obtain rfl : v = x := p1
  cases v with
  | true =>
    rw [if_pos rfl]
    exact qa σ H1 ρ st1 m1 _ (s.up e1) r1 h1
  | false =>
    rw [if_neg Bool.false_ne_true]
    exact qb σ H1 ρ st1 m1 _ (s.up e1) r1 h1
/-! tests -/
theorem st_val (ha : SE X W a fa) (hw : ∀ whole : Sem Value, PySem.isTrue a X.env whole = (do
            let v ← whole
            standAt (Expr.pos a)
            holding [v] (truthy v)) := by intro _; rfl) : STt X W a (tV fa) := by
  obtain ⟨ta, pa, qa⟩ := ha
  refine ⟨_, pt_val pa hw, fun σ H ρ st m Q s rl h => qa σ H ρ st m _ s rl (h.mp fun x st1 v H1 m1 e1 r1 p1 h1 => ?_)⟩
  cases x with
  | bl k =>
    cases p1
    exact ⟨k, rfl, h1.go r1 rfl⟩
  | _ => exact h1.elim
theorem st_w {fc : TF} (h : STw X W c fc) : STt X W c fc := by
  obtain ⟨t, p, q⟩ := h
  exact ⟨t, p.pt, q⟩
theorem sw_and1 {fc : TF} (h : STt X W a fc) : STw X W (.BoolOp .And [a] pos) fc := by
  obtain ⟨t, p, q⟩ := h
  exact ⟨t, pw_and1 p, q⟩
theorem sw_or1 {fc : TF} (h : STt X W a fc) : STw X W (.BoolOp .Or [a] pos) fc := by
  obtain ⟨t, p, q⟩ := h
  exact ⟨t, pw_or1 p, q⟩
theorem sw_and {fc fd : TF} {rest : List Expr} (ha : STt X W a fc) (hb : STw X W (.BoolOp .And (b :: rest) pos) fd) : STw X W (.BoolOp .And (a :: b :: rest) pos) (tAndF fc fd) := by
  obtain ⟨ta, pa, qa⟩ := ha
  obtain ⟨tb, pb, qb⟩ := hb
  refine ⟨_, pw_and pa pb, fun σ H ρ st m Q s rl h => qa σ H ρ st m _ s rl (h.mp fun x st1 v H1 m1 e1 r1 p1 h1 => ?_)⟩
  obtain rfl : v = x := p1
  cases v with
  | true =>
    rw [if_pos rfl]
    exact qb σ H1 ρ st1 m1 _ (s.up e1) r1 h1
  | false =>
    rw [if_neg Bool.false_ne_true]
    exact h1.go r1 rfl
theorem sw_or {fc fd : TF} {rest : List Expr} (ha : STt X W a fc) (hb : STw X W (.BoolOp .Or (b :: rest) pos) fd) : STw X W (.BoolOp .Or (a :: b :: rest) pos) (tOrF fc fd) := by
  obtain ⟨ta, pa, qa⟩ := ha
  obtain ⟨tb, pb, qb⟩ := hb
  refine ⟨_, pw_or pa pb, fun σ H ρ st m Q s rl h => qa σ H ρ st m _ s rl (h.mp fun x st1 v H1 m1 e1 r1 p1 h1 => ?_)⟩
  obtain rfl : v = x := p1
  cases v with
  | true =>
    rw [if_pos rfl]
    exact h1.go r1 rfl
  | false =>
    rw [if_neg Bool.false_ne_true]
    exact qb σ H1 ρ st1 m1 _ (s.up e1) r1 h1
theorem st_not {fc : TF} (h : STt X W a fc) : STt X W (.UnaryOp .Not a pos) (tNotF fc) := by
  obtain ⟨ta, pa, qa⟩ := h
  refine ⟨_, pt_not pa, fun σ H ρ st m Q s rl h => qa σ H ρ st m _ s rl (h.mp fun x st1 v H1 m1 e1 r1 p1 h1 => ?_)⟩
  obtain rfl : v = x := p1
  exact h1.go r1 rfl
/-! arguments -/
theorem sa_nil : SA X W [] aNil := ⟨_, pa_nil, fun σ H ρ st m Q s rl h => h.go rl .nil⟩
theorem sa_cons {es : List Expr} {r : AF} (ha : SE X W a fa) (hr : SA X W es r) (he : starEach (a :: es) X.env = (false, eval a X.env) :: starEach es X.env := by rfl) : SA X W (a :: es) (aCons fa r) := by
  obtain ⟨ta, pa, qa⟩ := ha
  obtain ⟨tb, pb, qb⟩ := hr
  refine ⟨_, pa_cons pa pb he, fun σ H ρ st m Q s rl h => qa σ H ρ st m _ s rl (h.mp fun x st1 v H1 m1 e1 r1 p1 h1 => qb σ H1 ρ st1 m1 _ (s.up e1) r1 (h1.mp fun xs st2 vs H2 m2 e2 r2 p2 h2 => ?_))⟩
  exact h2.go r2 (.cons (p1.up e2) p2)
/-- a call of a built-in on data -/
def CallD (X : Cx) (f : Value) (b : Store → List D → Option D) : Prop :=
  ∃ r : List V → Hp → VK → Prop, CallR X f r ∧ ∀ (H : Hp) (m : Mp) (st : Store) (vs : List V) (ds : List D) (d : D) (Q : VK), Rl X.K m H st → RepL X.K H m vs ds → b st ds = some d → PostV X.K m H Rep Q d st → r vs H Q
theorem se_callB {x : Str} {p : Pos} {es : List Expr} {id : String} {o : Store → List D → Option D} {f : AF} (hc : CallD X (.builtin id) o) (hg : Gl X x) (hm : X.mg x = none) (hb : bootBuiltins x = some (.builtin id)) (ha : SA X W (e :: es) f)
    (h1 : x ≠ ("__name__" : Str) := by decide) (h2 : (x == ("__debug__" : Str)) = false := by decide) (h3 : starEach (e :: es) X.env = (false, eval e X.env) :: starEach es X.env := by rfl) (h4 : (backTo pos (starEach es X.env)).any (·.1) = false := by rfl) :
    SE X W (.Call (.Name x p) (e :: es) [] pos) (aCall o f) := by
  obtain ⟨r, hr, hro⟩ := hc
  obtain ⟨ta, pa, qa⟩ := ha
  refine ⟨_, pe_callB hr hg hm hb pa h1 h2 h3 h4, fun σ H ρ st m Q s rl h => qa σ H ρ st m _ s rl (h.mp fun xs st1 vs H1 m1 e1 r1 p1 h1 => ?_)⟩
  cases q : o st1 xs with
  | none => rw [q] at h1; exact h1.elim
  | some d => rw [q] at h1; exact hro H1 m1 st1 vs xs d Q r1 p1 q h1
theorem se_callTy {x : Str} {p : Pos} {es : List Expr} {T : String} {o : Store → List D → Option D} {f : AF} (hc : CallD X (.type T) o) (hg : Gl X x) (hm : X.mg x = none) (hb : bootBuiltins x = some (.type T)) (ha : SA X W (e :: es) f)
    (h1 : x ≠ ("__name__" : Str) := by decide) (h2 : (x == ("__debug__" : Str)) = false := by decide) (h3 : starEach (e :: es) X.env = (false, eval e X.env) :: starEach es X.env := by rfl) (h4 : (backTo pos (starEach es X.env)).any (·.1) = false := by rfl) :
    SE X W (.Call (.Name x p) (e :: es) [] pos) (aCall o f) := by
  obtain ⟨r, hr, hro⟩ := hc
  obtain ⟨ta, pa, qa⟩ := ha
  refine ⟨_, pe_callTy hr hg hm hb pa h1 h2 h3 h4, fun σ H ρ st m Q s rl h => qa σ H ρ st m _ s rl (h.mp fun xs st1 vs H1 m1 e1 r1 p1 h1 => ?_)⟩
  cases q : o st1 xs with
  | none => rw [q] at h1; exact h1.elim
  | some d => rw [q] at h1; exact hro H1 m1 st1 vs xs d Q r1 p1 q h1
end
end DX

/-! DX 3: statements, targets, what is walked, loops -/
namespace DX
open PySem PySem.Spec PyProof.Rows L2

/-- Ctx with what loops ask -/
structure Cxt (X : Cx) (W : WX) (k : Nat) : Prop extends Ctx X W k where
  own : PassesOwn (model X.prog X.w) X.A X.env X.xe
def PostS (X : Cx) (W : WX) (m : Mp) (H : Hp) (E : Ends) : SRes → Prop
  | .nx ρ st => ∀ σ' H' m', Ext m H m' H' → Rl X.K m' H' st → SR X.K H' m' σ' ρ → E.nx σ' H'
  | .bk ρ st => ∀ σ' H' m', Ext m H m' H' → Rl X.K m' H' st → SR X.K H' m' σ' ρ → E.bk σ' H'
  | .ct ρ st => ∀ σ' H' m', Ext m H m' H' → Rl X.K m' H' st → SR X.K H' m' σ' ρ → E.ct σ' H'
  | .rt d st => PostV X.K m H Rep E.rt d st
  | .exc c fs ρ st => ∀ cls dc σ' H' m', Ext m H m' H' → Rl X.K m' H' st → SR X.K H' m' σ' ρ → XRep X.mg X.K H' m' cls dc c fs → W cls dc σ' H'
  | .bad => False
def bindS {α : Type} (r : Res α) (ρ : Sl) (f : α → Store → SRes) : SRes := match r with
  | .ok a st => f a st
  | .exc c fs st => .exc c fs ρ st
  | .bad => .bad
def SRes.bind (r : SRes) (f : Sl → Store → SRes) : SRes := match r with
  | .nx ρ st => f ρ st
  | .bk ρ st => .bk ρ st
  | .ct ρ st => .ct ρ st
  | .rt d st => .rt d st
  | .exc c fs ρ st => .exc c fs ρ st
  | .bad => .bad
section
variable {α β : Type} {X : Cx} {W : WX} {m m' : Mp} {H H' : Hp} {σ : L2.St} {ρ : Sl} {E : Ends} {R : PySem.W.Frag → Hp → Mp → β → α → Prop} {Q : β → Hp → Prop}
theorem PostS.up {r : SRes} (h : PostS X W m H E r) (e : Ext m H m' H') : PostS X W m' H' E r := by
  cases r with
  | nx ρ st => exact fun σ2 H2 m2 e2 => h σ2 H2 m2 (e.trans e2)
  | bk ρ st => exact fun σ2 H2 m2 e2 => h σ2 H2 m2 (e.trans e2)
  | ct ρ st => exact fun σ2 H2 m2 e2 => h σ2 H2 m2 (e.trans e2)
  | rt d st => exact fun v H2 m2 e2 => h v H2 m2 (e.trans e2)
  | exc c fs ρ st => exact fun cls dc σ2 H2 m2 e2 => h cls dc σ2 H2 m2 (e.trans e2)
  | bad => exact h
theorem PostS.mp {r : Res α} {f : α → Store → SRes} (h : PostS X W m H E (bindS r ρ f)) (s : SR X.K H m σ ρ)
    (k : ∀ a st v H1 m1, Ext m H m1 H1 → Rl X.K m1 H1 st → R X.K H1 m1 v a → PostS X W m1 H1 E (f a st) → Q v H1) : Post X W m H σ R Q r := by
  cases r with
  | ok a st =>
    intro v H1 m1 e r1 rp
    exact k a st v H1 m1 e r1 rp (PostS.up (show PostS X W m H E (f a st) from h) e)
  | exc c fs st => exact fun cls dc H1 m1 e1 r1 x1 => h cls dc σ H1 m1 e1 r1 (s.up e1) x1
  | bad => exact h
theorem PostS.nxt {st : Store} (h : PostS X W m H E (.nx ρ st)) (r : Rl X.K m H st) (s : SR X.K H m σ ρ) : E.nx σ H := h σ H m (Ext.refl m H) r s
end
structure SS (X : Cx) (W : WX) (s : Stmt) (f : SF) : Prop where
  ex : ∃ t : TS, PS X s t ∧ ∀ σ H ρ st m E, SR X.K H m σ ρ → Rl X.K m H st → PostS X W m H E (f ρ st) → t E σ H
structure SSs (X : Cx) (W : WX) (s : List Stmt) (f : SF) : Prop where
  ex : ∃ t : TS, PSs X s t ∧ ∀ σ H ρ st m E, SR X.K H m σ ρ → Rl X.K m H st → PostS X W m H E (f ρ st) → t E σ H
/-- a target: what is stored, by data -/
abbrev GF := D → Sl → Store → Option (Sl × Store)
theorem wipe_sets (σ : L2.St) (i : Nat) (x : Option V) : ∀ vs : List Nat, wipe (σ.set i x) vs = if i ∈ vs then wipe σ vs else (wipe σ vs).set i x := by
  intro vs
  induction vs with
  | nil => simp [wipe]
  | cons v vs ih =>
    unfold wipe
    rw [ih]
    by_cases h : i ∈ vs
    · simp [h]
    · by_cases e : i = v
      · subst e
        simp [h, List.set_set]
      · simp [h, e, List.set_comm _ _ e]
theorem wipe_set (σ : L2.St) (i : Nat) (x : Option V) (vs : List Nat) (h : i ∈ vs) : wipe (σ.set i x) vs = wipe σ vs := by
  rw [wipe_sets, if_pos h]
theorem wipe_idem (σ : L2.St) : ∀ vs : List Nat, wipe (wipe σ vs) vs = wipe σ vs
  | [] => rfl
  | v :: vs => by
    show (wipe ((wipe σ vs).set v none) vs).set v none = (wipe σ vs).set v none
    rw [wipe_sets, wipe_idem σ vs]
    by_cases h : v ∈ vs
    · rw [if_pos h]
    · rw [if_neg h, List.set_set]
structure SG (X : Cx) (tg : Expr) (u : GF) (own : List Nat) : Prop where
  ex : ∃ g : TG, PG X tg g ∧ ∀ v d σ H ρ st m Q ρ' st', SR X.K H m σ ρ → Rl X.K m H st → Rep X.K H m v d → u d ρ st = some (ρ', st') →
    (∀ σ' H' m', Ext m H m' H' → Rl X.K m' H' st' → SR X.K H' m' σ' ρ' → (∀ vs, (∀ i ∈ own, i ∈ vs) → wipe σ' vs = wipe σ vs) → Q σ' H') → g v σ H Q
abbrev GFs := List D → Sl → Store → Option (Sl × Store)
structure SGs (X : Cx) (ts : List Expr) (u : GFs) (own : List Nat) : Prop where
  ex : ∃ g : TGs, PGs X ts g ∧ ∀ vs ds σ H ρ st m Q ρ' st', SR X.K H m σ ρ → Rl X.K m H st → RepL X.K H m vs ds → u ds ρ st = some (ρ', st') →
    (∀ σ' H' m', Ext m H m' H' → Rl X.K m' H' st' → SR X.K H' m' σ' ρ' → (∀ vs, (∀ i ∈ own, i ∈ vs) → wipe σ' vs = wipe σ vs) → Q σ' H') → g vs σ H Q
/-! ### the functions -/
def sNx : SF := fun ρ st => .nx ρ st
def sBk : SF := fun ρ st => .bk ρ st
def sCt : SF := fun ρ st => .ct ρ st
def sSeq (f g : SF) : SF := fun ρ st => (f ρ st).bind g
def sDrop (fe : EF) : SF := fun ρ st => bindS (fe ρ st) ρ fun _ st1 => .nx ρ st1
def sRet (fe : EF) : SF := fun ρ st => bindS (fe ρ st) ρ fun d st1 => .rt d st1
def sRetN : SF := fun _ st => .rt .non st
def sIf (c : TF) (f g : SF) : SF := fun ρ st => bindS (c ρ st) ρ fun b st1 => match b with
  | true => f ρ st1
  | false => g ρ st1
def sAsg (fe : EF) (u : GF) : SF := fun ρ st => bindS (fe ρ st) ρ fun d st1 => match u d ρ st1 with
  | some (ρ', st') => .nx ρ' st'
  | none => .bad
def gSet (i : Nat) : GF := fun d ρ st => some (ρ.set i (some d), st)
def gsNil : GFs := fun ds ρ st => match ds with
  | [] => some (ρ, st)
  | _ => none
def gsCons (u : GF) (us : GFs) : GFs := fun ds ρ st => match ds with
  | d :: r => (u d ρ st).bind fun p => us r p.1 p.2
  | [] => none
def gTupF (n : Nat) (us : GFs) : GF := fun d ρ st => match d with
  | .tup xs => if xs.length = n then us xs ρ st else none
  | _ => none
/-- a list's items: of one that stands, of one of the store -/
def seqL (st : Store) : D → Option (List D)
  | .lst xs => some xs
  | .rd xs => some xs
  | .ob n => match st[n]? with
    | some (.lst xs) => some xs
    | _ => none
  | _ => none
def gLstF (n : Nat) (us : GFs) : GF := fun d ρ st => match seqL st d with
  | some xs => if xs.length = n then us xs ρ st else none
  | none => none
def gOr (u u' : GF) : GF := fun d ρ st => (u d ρ st).orElse fun _ => u' d ρ st
/-- o[i] = d, o a list of the store -/
def gSub (fo fi : EF) : GF := fun d ρ st => match fo ρ st with
  | .ok (.ob n) st1 => match fi ρ st1 with
    | .ok (.int i) st2 => match st2[n]? with
      | some (.lst xs) => if 0 ≤ i ∧ i.toNat < xs.length then some (ρ, st2.set n (.lst (xs.set i.toNat d))) else none
      | _ => none
    | _ => none
  | _ => none
/-- a walk over data -/
def sForL (u : GF) (body : SF) : List D → SF
  | [], ρ, st => .nx ρ st
  | x :: xs, ρ, st => match u x ρ st with
    | none => .bad
    | some (ρ1, st1) => match body ρ1 st1 with
      | .nx ρ2 st2 => sForL u body xs ρ2 st2
      | .ct ρ2 st2 => sForL u body xs ρ2 st2
      | .bk ρ2 st2 => .nx ρ2 st2
      | .rt d st2 => .rt d st2
      | .exc c fs ρ2 st2 => .exc c fs ρ2 st2
      | .bad => .bad
def sFor (it : AF) (u : GF) (body : SF) : SF := fun ρ st => bindS (it ρ st) ρ fun xs st1 => sForL u body xs ρ st1
def sWhileN (c : TF) (body : SF) : Nat → SF
  | 0, _, _ => .bad
  | n + 1, ρ, st => bindS (c ρ st) ρ fun b st1 => match b with
    | false => .nx ρ st1
    | true => match body ρ st1 with
      | .nx ρ2 st2 => sWhileN c body n ρ2 st2
      | .ct ρ2 st2 => sWhileN c body n ρ2 st2
      | .bk ρ2 st2 => .nx ρ2 st2
      | .rt d st2 => .rt d st2
      | .exc c fs ρ2 st2 => .exc c fs ρ2 st2
      | .bad => .bad
def sAug (i : Nat) (b : B2) (fe : EF) : SF := fun ρ st => match ρ[i]? with
  | some (some x) => bindS (fe ρ st) ρ fun y st1 => match b st1 x y with
    | some z => .nx (ρ.set i (some z)) st1
    | none => .bad
  | _ => .bad
section
variable {X : Cx} {W : WX} {a b c e tg : Expr} {fa fb fc fe : EF} {pos : Pos} {k : Nat}
theorem sss_nil : SSs X W [] sNx := ⟨_, pss_nil, fun σ H ρ st m E s r h => h.nxt r s⟩
theorem sss_one {s : Stmt} {f : SF} (h : SS X W s f) : SSs X W [s] f := by
  obtain ⟨t, p, q⟩ := h
  exact ⟨t, pss_one p, q⟩
theorem sss_cons {s : Stmt} {rest : List Stmt} {f g : SF} (h : SS X W s f) (hr : SSs X W rest g) : SSs X W (s :: rest) (sSeq f g) := by
  obtain ⟨t, p, q⟩ := h
  obtain ⟨u, pu, qu⟩ := hr
  refine ⟨_, pss_cons p pu, fun σ H ρ st m E s r h => q σ H ρ st m _ s r ?_⟩
  unfold sSeq at h
  cases e : f ρ st with
  | nx ρ1 st1 =>
    rw [e] at h
    exact fun σ1 H1 m1 e1 r1 s1 => qu σ1 H1 ρ1 st1 m1 E s1 r1 (PostS.up (show PostS X W m H E (g ρ1 st1) from h) e1)
  | _ => rw [e] at h; exact h
theorem ss_pass : SS X W (.Pass pos) sNx := ⟨_, ps_pass, fun σ H ρ st m E s r h => h.nxt r s⟩
theorem ss_break : SS X W (.Break pos) sBk := ⟨_, ps_break, fun σ H ρ st m E s r h => h σ H m (Ext.refl m H) r s⟩
theorem ss_continue : SS X W (.Continue pos) sCt := ⟨_, ps_continue, fun σ H ρ st m E s r h => h σ H m (Ext.refl m H) r s⟩
theorem ss_expr (h : SE X W e fe) (h1 : swapsWith e none pos.line X.env = pure false := by rfl) : SS X W (.Expr e pos) (sDrop fe) := by
  obtain ⟨t, p, q⟩ := h
  exact ⟨_, ps_expr p h1, fun σ H ρ st m E s r h => q σ H ρ st m _ s r (PostS.mp h s fun d st1 v H1 m1 e1 r1 p1 h1 => h1.nxt r1 (s.up e1))⟩
theorem ss_ret (h : SE X W e fe) : SS X W (.Return (some e) pos) (sRet fe) := by
  obtain ⟨t, p, q⟩ := h
  exact ⟨_, ps_ret p, fun σ H ρ st m E s r h => q σ H ρ st m _ s r (PostS.mp h s fun d st1 v H1 m1 e1 r1 p1 h1 => PostV.go (show PostV X.K m1 H1 Rep E.rt d st1 from h1) r1 p1)⟩
theorem ss_retN : SS X W (.Return none pos) sRetN := ⟨_, ps_retN, fun σ H ρ st m E s r h => (show PostV X.K m H Rep E.rt D.non st from h) .non H m (Ext.refl m H) r .non⟩
theorem ss_if {fc : TF} {f g : SF} {x y : List Stmt} (hc : STt X W c fc) (hx : SSs X W x f) (hy : SSs X W y g) : SS X W (.If c x y pos) (sIf fc f g) := by
  obtain ⟨t, p, q⟩ := hc
  obtain ⟨tx, px, qx⟩ := hx
  obtain ⟨ty, py, qy⟩ := hy
  refine ⟨_, ps_if p px py, fun σ H ρ st m E s r h => q σ H ρ st m _ s r (PostS.mp h s fun b st1 v H1 m1 e1 r1 p1 h1 => ?_)⟩
  obtain rfl : v = b := p1
  cases v with
  | true =>
    rw [if_pos rfl]
    exact qx σ H1 ρ st1 m1 E (s.up e1) r1 h1
  | false =>
    rw [if_neg Bool.false_ne_true]
    exact qy σ H1 ρ st1 m1 E (s.up e1) r1 h1
theorem sg_name {i : Nat} {x : Str} (hN : X.N.Nodup) (hi : X.N[i]? = some x := by rfl) (hx : Loc X.env.scope x := by first | exact Or.inl rfl | exact Or.inr rfl)
    (hf : X.fn x = true ∨ X.env.scope.names.lookup x = some .local := by first | exact Or.inl rfl | exact Or.inr rfl) : SG X (.Name x pos) (gSet i) [i] :=
  ⟨_, pg_name hN hi hx hf, fun v d σ H ρ st m Q ρ' st' s r p e k => by
    cases e
    exact k _ H m (Ext.refl m H) r (s.set p i) fun vs h => wipe_set σ i _ vs (h i (by simp))⟩
theorem ss_asg {u : GF} {own : List Nat} (h : SE X W e fe) (hg : SG X tg u own) (h1 : swapsWithSole [tg] e pos.line X.env = pure false := by rfl) (h2 : swappedStores [tg] e X.env = pure none := by rfl) (h3 : (assignEach [tg] X.env).map (·.2) = [assign tg X.env] := by rfl) :
    SS X W (.Assign [tg] e pos) (sAsg fe u) := by
  obtain ⟨t, p, q⟩ := h
  obtain ⟨g, pg, qg⟩ := hg
  refine ⟨_, ps_asg p pg h1 h2 h3, fun σ H ρ st m E s r h => q σ H ρ st m _ s r (PostS.mp h s fun d st1 v H1 m1 e1 r1 p1 h1 => ?_)⟩
  cases z : u d ρ st1 with
  | none => rw [z] at h1; exact h1.elim
  | some w =>
    obtain ⟨ρ', st'⟩ := w
    rw [z] at h1
    exact qg v d σ H1 ρ st1 m1 _ ρ' st' (s.up e1) r1 p1 z fun σ' H' m' e' r' s' _ => (PostS.up h1 e').nxt r' s'
/-- x = e, x in slot i -/
theorem ss_set {i : Nat} {x : Str} {pos' : Pos} (hN : X.N.Nodup) (h : SE X W e fe) (hi : X.N[i]? = some x := by rfl) (hx : Loc X.env.scope x := by first | exact Or.inl rfl | exact Or.inr rfl) (h1 : swapsWith e (some (.Name x pos')) pos.line X.env = pure false := by rfl)
    (hf : X.fn x = true ∨ X.env.scope.names.lookup x = some .local := by first | exact Or.inl rfl | exact Or.inr rfl) : SS X W (.Assign [.Name x pos'] e pos) (sAsg fe (gSet i)) := by
  obtain ⟨t, p, q⟩ := h
  refine ⟨_, ps_set hN hi hx p h1 hf, fun σ H ρ st m E s r h => q σ H ρ st m _ s r (PostS.mp h s fun d st1 v H1 m1 e1 r1 p1 h1 => ?_)⟩
  exact h1.nxt r1 ((s.up e1).set p1 i)
def sPar (i j : Nat) (fa : AF) : SF := fun ρ st => bindS (fa ρ st) ρ fun ds st1 => match ds with
  | [x, y] => .nx ((ρ.set i (some x)).set j (some y)) st1
  | _ => .bad
theorem ss_par {i j : Nat} {x y : Str} {px py pt pt2 : Pos} {kt k2 : Nat} {f : AF} (hc : X.calm = true) (hN : X.N.Nodup) (h : SA X W [a, b] f) (hi : X.N[i]? = some x := by rfl) (hj : X.N[j]? = some y := by rfl) (hij : i ≠ j := by decide)
    (hx : X.env.scope.names.lookup x = some .local := by rfl) (hy : X.env.scope.names.lookup y = some .local := by rfl)
    (hw : swappedStores [.Tuple [.Name x px, .Name y py] kt pt] (.Tuple [a, b] k2 pt2) X.env = pure (some [x, y]) := by rfl) (h1 : swapsWithSole [.Tuple [.Name x px, .Name y py] kt pt] (.Tuple [a, b] k2 pt2) pos.line X.env = pure false := by rfl) :
    SS X W (.Assign [.Tuple [.Name x px, .Name y py] kt pt] (.Tuple [a, b] k2 pt2) pos) (sPar i j f) := by
  obtain ⟨t, p, q⟩ := h
  refine ⟨_, ps_par hc hN hi hj hij hx hy p hw h1, fun σ H ρ st m E s r h => q σ H ρ st m _ s r (PostS.mp h s fun ds st1 vs H1 m1 e1 r1 p1 h1 => ?_)⟩
  cases p1 with
  | nil => exact h1.elim
  | cons q1 p1 =>
    cases p1 with
    | nil => exact h1.elim
    | cons q2 p1 =>
      cases p1 with
      | nil => exact ⟨_, _, rfl, h1.nxt r1 (((s.up e1).set q1 i).set q2 j)⟩
      | cons _ _ => exact h1.elim
theorem ss_aug {i : Nat} {x : Str} {op : Operator} {pos' : Pos} {o : B2} (hN : X.N.Nodup) (ho : OpD X (inplaceOp op) o) (h : SE X W e fe) (hi : X.N[i]? = some x := by rfl) (hx : Loc X.env.scope x := by first | exact Or.inl rfl | exact Or.inr rfl)
    (hf : X.fn x = true ∨ X.env.scope.names.lookup x = some .local := by first | exact Or.inl rfl | exact Or.inr rfl) : SS X W (.AugAssign (.Name x pos') op e pos) (sAug i o fe) := by
  obtain ⟨r, hr, hro⟩ := ho
  obtain ⟨t, p, q⟩ := h
  refine ⟨_, ps_aug hN hi hx p (show PIp X op r from hr) hf, fun σ H ρ st m E s rl h => ?_⟩
  unfold sAug at h
  split at h
  · rename_i x' ex
    obtain ⟨vx, hv, px⟩ := s.get i x' ex
    refine ⟨vx, hv, q σ H ρ st m _ s rl (PostS.mp h s fun d st1 v H1 m1 e1 r1 p1 h1 => ?_)⟩
    cases z : o st1 x' d with
    | none => rw [z] at h1; exact h1.elim
    | some w =>
      rw [z] at h1
      exact hro H1 m1 st1 vx v x' d w _ r1 (px.up e1) p1 z fun v2 H2 m2 e2 r2 p2 => (PostS.up h1 e2).nxt r2 (((s.up e1).up e2).set p2 i)
  · exact h.elim
/-! targets -/
theorem sgs_nil : SGs X [] gsNil [] := ⟨_, pgs_nil, fun vs ds σ H ρ st m Q ρ' st' s r p e k => by
  cases p with
  | nil =>
    cases e
    exact ⟨rfl, k σ H m (Ext.refl m H) r s fun _ _ => rfl⟩
  | cons _ _ => cases e⟩
theorem sgs_cons {u : GF} {us : GFs} {es : List Expr} {own own' : List Nat} (h : SG X e u own) (hr : SGs X es us own') (he : (assignEach (e :: es) X.env).map (·.2) = assign e X.env :: (assignEach es X.env).map (·.2) := by rfl) : SGs X (e :: es) (gsCons u us) (own ++ own') := by
  obtain ⟨g, p, q⟩ := h
  obtain ⟨gs, ps, qs⟩ := hr
  refine ⟨_, pgs_cons p ps he, fun vs ds σ H ρ st m Q ρ' st' s r p e k => ?_⟩
  cases p with
  | nil => cases e
  | @cons v vs d ds p1 p2 =>
    refine ⟨v, vs, rfl, ?_⟩
    unfold gsCons at e
    dsimp only at e
    cases z : u d ρ st with
    | none => rw [z] at e; cases e
    | some w =>
      obtain ⟨ρ1, st1⟩ := w
      rw [z] at e
      exact q v d σ H ρ st m _ ρ1 st1 s r p1 z fun σ1 H1 m1 e1 r1 s1 w1 => qs vs ds σ1 H1 ρ1 st1 m1 Q ρ' st' s1 r1 (p2.up e1) e fun σ2 H2 m2 e2 r2 s2 w2 => k σ2 H2 m2 (e1.trans e2) r2 s2 fun vs h => (w2 vs fun i q => h i (List.mem_append_right _ q)).trans (w1 vs fun i q => h i (List.mem_append_left _ q))
theorem sg_tup {us : GFs} {es : List Expr} {n : Nat} {kk : Nat} {own : List Nat} (hc : X.calm = true) (h : SGs X es us own) (hn : (assignEach es X.env).length = n := by rfl) (hf : (assignEach es X.env).findIdx? (·.1) = none := by rfl) : SG X (.Tuple es kk pos) (gTupF n us) own := by
  obtain ⟨g, p, q⟩ := h
  refine ⟨_, pg_tup hc p hn hf, fun v d σ H ρ st m Q ρ' st' s r p e k => ?_⟩
  cases p with
  | @tup a vs ds h1 h2 =>
    unfold gTupF at e
    dsimp only at e
    split at e
    · rename_i hl
      exact ⟨a, vs, rfl, h1.sq, h2.length.trans hl, q vs ds σ H ρ st m Q ρ' st' s r h2 e k⟩
    · cases e
  | _ => cases e
theorem seqL_at {K : PySem.W.Frag} {m : Mp} {H : Hp} {st : Store} {v : V} {d : D} {xs : List D} (r : Rl K m H st) (p : Rep K H m v d) (e : seqL st d = some xs) : ∃ a vs, v = .ref a ∧ SqL K H a vs ∧ RepL K H m vs xs := by
  cases p with
  | @lst a vs ds h1 hn h2 =>
    cases e
    exact ⟨a, vs, rfl, .inl (.inl h1), h2⟩
  | @rd a vs ds h1 h2 =>
    cases e
    exact ⟨a, vs, rfl, h1.sq, h2⟩
  | @ob a n h1 =>
    unfold seqL at e
    dsimp only at e
    split at e
    · rename_i ys hy
      cases e
      obtain ⟨vs, q1, q2⟩ := r.ob n _ a hy h1
      exact ⟨a, vs, rfl, .inl (.inl q1), q2⟩
    · cases e
  | _ => cases e
theorem sg_lst {us : GFs} {es : List Expr} {n : Nat} {kk : Nat} {own : List Nat} (hc : X.calm = true) (h : SGs X es us own) (hn : (assignEach es X.env).length = n := by rfl) (hf : (assignEach es X.env).findIdx? (·.1) = none := by rfl) : SG X (.Tuple es kk pos) (gLstF n us) own := by
  obtain ⟨g, p, q⟩ := h
  refine ⟨_, pg_unl hc p hn hf, fun v d σ H ρ st m Q ρ' st' s r p e k => ?_⟩
  unfold gLstF at e
  split at e
  · rename_i xs hx
    obtain ⟨a, vs, rfl, q1, q2⟩ := seqL_at r p hx
    split at e
    · rename_i hl
      exact ⟨a, vs, rfl, q1, q2.length.trans hl, q vs xs σ H ρ st m Q ρ' st' s r q2 e k⟩
    · cases e
  · cases e
theorem sg_or {u u' : GF} {own : List Nat} (h : SG X tg u own) (h' : SG X tg u' own) : SG X tg (gOr u u') own := by
  obtain ⟨g, p, q⟩ := h
  obtain ⟨g', p', q'⟩ := h'
  refine ⟨fun v σ H Q => g v σ H Q ∨ g' v σ H Q, ⟨fun pins s σ H v w Q I r h => h.elim (p.run pins s σ H v w Q I r) (p'.run pins s σ H v w Q I r)⟩, fun v d σ H ρ st m Q ρ' st' s r p e k => ?_⟩
  unfold gOr at e
  cases z : u d ρ st with
  | none =>
    rw [z] at e
    exact .inr (q' v d σ H ρ st m Q ρ' st' s r p e k)
  | some w =>
    rw [z] at e
    cases e
    exact .inl (q v d σ H ρ st m Q ρ' st' s r p z k)
theorem ixN_nat {n : Nat} {i : Int} (h : 0 ≤ i ∧ i.toNat < n) : ixN n i = some i.toNat := by
  unfold ixN
  rw [if_pos (by omega), if_pos (by omega)]
theorem sg_sub {o i : Expr} {fo fi : EF} (ho : SE X (fun _ _ _ _ => False) o fo) (hi : SE X (fun _ _ _ _ => False) i fi)
    (hw : ∀ v : Value, assign (o.Subscript i pos) X.env v = (do
                let ov ← holding [v] (eval o X.env)
                let iv ← holding [v, ov] (eval i X.env)
                standAt pos
                holding [v, ov, iv] (setItem ov iv v)
                release [v, ov, iv] []) := by intro _; rfl) : SG X (.Subscript o i pos) (gSub fo fi) [] := by
  obtain ⟨t, p, q⟩ := ho
  obtain ⟨t', p', q'⟩ := hi
  refine ⟨_, pg_sub p p' set_list hw, fun v d σ H ρ st m Q ρ' st' s r pd e k => ?_⟩
  unfold gSub at e
  split at e
  · rename_i n st1 e1
    split at e
    · rename_i i st2 e2
      split at e
      · rename_i xs e3
        split at e
        · rename_i hi
          cases e
          refine q σ H ρ st m _ s r ?_
          rw [e1]
          intro vo H1 m1 x1 r1 p1
          refine q' σ H1 ρ st1 m1 _ (s.up x1) r1 ?_
          rw [e2]
          intro vi H2 m2 x2 r2 p2
          have p1' := p1.up x2
          cases p1' with
          | @ob a _ hm =>
            cases p2
            obtain ⟨vs, hH, hv⟩ := r2.ob n _ a e3 hm
            have hl : i.toNat < vs.length := by rw [hv.length]; exact hi.2
            have pd' := (pd.up x1).up x2
            obtain ⟨x3, r3⟩ := r2.write (o := .lst (vs.set i.toNat v)) (u := .lst (xs.set i.toNat d)) hm fun x3 => ⟨_, upd_same, (hv.up x3).set i.toNat (pd'.up x3)⟩
            exact ⟨a, vs, i, i.toNat, rfl, rfl, hH, ixN_nat ⟨hi.1, hl⟩, k _ _ m2 ((x1.trans x2).trans x3) r3 (((s.up x1).up x2).up x3) fun _ _ => rfl⟩
        · cases e
      · cases e
    · cases e
  · cases e
end
end DX

/-! DX 4: what is walked; for, while, list comprehensions -/
namespace DX
open PySem PySem.Spec PyProof.Rows L2

/-- J gives the data ds, as long as nothing but the store's things changes -/
def ItOk (K : PySem.W.Frag) (H : Hp) (m : Mp) (J : It) (ds : List D) : Prop := ∀ m' H', Ext m H m' H' → J.stop ds.length H' ∧
  ∀ i d, ds[i]? = some d → J.go i H' ∧ ∀ x H2, J.yld i H' x H2 → Ext m' H' m' H2 ∧ (∀ st, Rl K m' H' st → Rl K m' H2 st) ∧ Rep K H2 m' x d
structure SI (X : Cx) (W : WX) (tg iter : Expr) (f : AF) : Prop where
  ex : ∃ wi : TI, PI X tg iter wi ∧ ∀ σ H ρ st m R, SR X.K H m σ ρ → Rl X.K m H st → Post X W m H σ ItOk R (f ρ st) → wi σ H R
theorem ItOk.up {K : PySem.W.Frag} {m m' : Mp} {H H' : Hp} {J : It} {ds : List D} (h : ItOk K H m J ds) (e : Ext m H m' H') : ItOk K H' m' J ds := fun m2 H2 e2 => h m2 H2 (e.trans e2)
def signs (x : Str) : List D := x.cps.toList.map fun c => .str ⟨#[c]⟩
def itAny (fe : EF) : AF := fun ρ st => (fe ρ st).bind fun d st1 => match d with
  | .lst xs => .ok xs st1
  | .rd xs => .ok xs st1
  | .tup xs => .ok xs st1
  | .str x => .ok (signs x) st1
  | _ => .bad
def rng (lo : Int) (n : Nat) : List D := (List.range n).map fun (i : Nat) => D.int (lo + (i : Int))
def small (i : Int) : Bool := decide (-1000000000000 ≤ i ∧ i ≤ 1000000000000)
def itRange1 (fe : EF) : AF := fun ρ st => (fe ρ st).bind fun d st1 => match d with
  | .int n => if small n then .ok (rng 0 n.toNat) st1 else .bad
  | _ => .bad
def itRange2 (fa fb : EF) : AF := fun ρ st => (fa ρ st).bind fun x st1 => (fb ρ st1).bind fun y st2 => match x, y with
  | .int a, .int b => if small a && small b then .ok (rng a (b - a).toNat) st2 else .bad
  | _, _ => .bad
section
variable {X : Cx} {W : WX} {e tg : Expr} {fe : EF} {pos : Pos} {k : Nat}
theorem ItOk.lst {K : PySem.W.Frag} {m : Mp} {H : Hp} {a : Addr} {vs : List V} {ds : List D} (h1 : LstAt K H m a vs) (h2 : RepL K H m vs ds) : ItOk K H m (Itl K a) ds := fun m' H' e => by
  have q := h1.ext e
  refine ⟨⟨vs, q.sq, Nat.le_of_eq h2.length⟩, fun i d hd => ?_⟩
  obtain ⟨v, g1, g2⟩ := h2.get hd
  refine ⟨⟨vs, v, q.sq, g1⟩, fun x H2 y => ?_⟩
  obtain ⟨rfl, hx⟩ := y
  have := hx vs q.sq
  rw [g1] at this
  cases this
  exact ⟨Ext.refl m' H2, fun st r => r, g2.up e⟩
theorem ItOk.tup {K : PySem.W.Frag} {m : Mp} {H : Hp} {a : Addr} {vs : List V} {ds : List D} (h1 : TupAt K H m a vs) (h2 : RepL K H m vs ds) : ItOk K H m (Itt K a) ds := fun m' H' e => by
  have q := h1.ext e
  refine ⟨⟨vs, q.sq, Nat.le_of_eq h2.length⟩, fun i d hd => ?_⟩
  obtain ⟨v, g1, g2⟩ := h2.get hd
  refine ⟨⟨vs, v, q.sq, g1⟩, fun x H2 y => ?_⟩
  obtain ⟨rfl, hx⟩ := y
  have := hx vs q.sq
  rw [g1] at this
  cases this
  exact ⟨Ext.refl m' H2, fun st r => r, g2.up e⟩
theorem ItOk.str {K : PySem.W.Frag} {m : Mp} {H : Hp} {x : Str} : ItOk K H m (Its x) (signs x) := fun m' H' e => by
  refine ⟨?_, fun i d hd => ?_⟩
  · show x.cps.size ≤ (signs x).length
    unfold signs
    rw [List.length_map, Array.length_toList]
    exact Nat.le_refl _
  · unfold signs at hd
    rw [List.getElem?_map] at hd
    cases q : x.cps.toList[i]? with
    | none => rw [q] at hd; cases hd
    | some c =>
      rw [q] at hd
      have hd' : D.str ⟨#[c]⟩ = d := by simpa using hd
      have q' : x.cps[i]? = some c := by rw [← Array.getElem?_toList]; exact q
      refine ⟨(Array.getElem?_eq_some_iff.mp q').1, fun v H2 y => ?_⟩
      obtain ⟨rfl, c', h1, rfl⟩ := y
      rw [q'] at h1
      cases h1
      rw [← hd']
      exact ⟨Ext.refl m' H2, fun st r => r, .str _⟩
theorem ItOk.rng {K : PySem.W.Frag} {m : Mp} {H : Hp} {lo : Int} {n : Nat} : ItOk K H m (Itr lo n) (rng lo n) := fun m' H' e => by
  refine ⟨?_, fun i d hd => ?_⟩
  · show n ≤ (DX.rng lo n).length
    simp [DX.rng]
  · unfold DX.rng at hd
    rw [List.getElem?_map] at hd
    by_cases h : i < n
    · rw [List.getElem?_range h] at hd
      have hd' : D.int (lo + (i : Int)) = d := by simpa using hd
      refine ⟨h, fun v H2 y => ?_⟩
      obtain ⟨rfl, rfl⟩ := y
      rw [← hd']
      exact ⟨Ext.refl m' H2, fun st r => r, .int _⟩
    · rw [List.getElem?_eq_none (by simp; omega)] at hd
      cases hd
theorem PI.or {wi wi' : TI} {it : Expr} (h : PI X tg it wi) (h' : PI X tg it wi') : PI X tg it (fun σ H R => wi σ H R ∨ wi' σ H R) :=
  ⟨fun pins s σ H R I h1 => h1.elim (h.run pins s σ H R I) (h'.run pins s σ H R I)⟩
theorem si_any (h : SE X W e fe) : SI X W tg e (itAny fe) := by
  obtain ⟨t, p, q⟩ := h
  refine ⟨_, PI.or (pi_list p) (PI.or (pi_tup p) (pi_str p)), fun σ H ρ st m R s r h => ?_⟩
  have key : ∀ (Q : VK), (∀ d st1 v H1 m1, fe ρ st = .ok d st1 → Ext m H m1 H1 → Rl X.K m1 H1 st1 → Rep X.K H1 m1 v d → Q v H1) → t σ H Q := fun Q hk => by
    refine q σ H ρ st m Q s r ?_
    cases z : fe ρ st with
    | ok d st1 => exact fun v H1 m1 e1 r1 p1 => hk d st1 v H1 m1 z e1 r1 p1
    | exc c fs st1 =>
      unfold itAny at h
      rw [z] at h
      exact h
    | bad =>
      unfold itAny at h
      rw [z] at h
      exact h
  cases z : fe ρ st with
  | ok d st1 =>
    unfold itAny at h
    rw [z] at h
    cases d with
    | lst xs =>
      refine .inl (key _ fun d st2 v H1 m1 z2 e1 r1 p1 => ?_)
      rw [z] at z2
      cases z2
      cases p1 with
      | @lst a vs _ g1 gn g2 => exact ⟨a, rfl, ⟨vs, .inl (.inl g1)⟩, h _ H1 m1 e1 r1 (ItOk.lst (.inl ⟨.inl g1, gn⟩) g2)⟩
    | rd xs =>
      refine .inl (key _ fun d st2 v H1 m1 z2 e1 r1 p1 => ?_)
      rw [z] at z2
      cases z2
      cases p1 with
      | @rd a vs _ g1 g2 => exact ⟨a, rfl, ⟨vs, g1.sq⟩, h _ H1 m1 e1 r1 (ItOk.lst g1 g2)⟩
    | tup xs =>
      refine .inr (.inl (key _ fun d st2 v H1 m1 z2 e1 r1 p1 => ?_))
      rw [z] at z2
      cases z2
      cases p1 with
      | @tup a vs _ g1 g2 => exact ⟨a, rfl, ⟨vs, g1.sq⟩, h _ H1 m1 e1 r1 (ItOk.tup g1 g2)⟩
    | str x =>
      refine .inr (.inr (key _ fun d st2 v H1 m1 z2 e1 r1 p1 => ?_))
      rw [z] at z2
      cases z2
      cases p1
      exact ⟨x, rfl, h _ H1 m1 e1 r1 ItOk.str⟩
    | _ => exact h.elim
  | exc c fs st1 =>
    refine .inl (q σ H ρ st m _ s r ?_)
    unfold itAny at h
    rw [z] at h ⊢
    exact h
  | bad =>
    unfold itAny at h
    rw [z] at h
    exact h.elim
theorem si_range1 {p : Pos} (hg : Gl X "range") (hm : X.mg "range" = none) (h : SE X W e fe) (he : starEach [e] X.env = [(false, eval e X.env)] := by rfl) : SI X W tg (.Call (.Name "range" p) [e] [] pos) (itRange1 fe) := by
  obtain ⟨t, pa, q⟩ := h
  refine ⟨_, pi_range1 hg hm (pa_cons pa pa_nil he) he, fun σ H ρ st m R s r h => q σ H ρ st m _ s r (h.mp fun d st1 v H1 m1 e1 r1 p1 h1 => ?_)⟩
  cases p1 with
  | int n =>
    dsimp only at h1
    split at h1
    · rename_i hs
      have hs' : -1000000000000 ≤ n ∧ n ≤ 1000000000000 := of_decide_eq_true hs
      exact ⟨n, rfl, by omega, by omega, h1.go r1 ItOk.rng⟩
    · exact h1.elim
  | _ => exact h1.elim
theorem si_range2 {p : Pos} {a b : Expr} {fa fb : EF} (hg : Gl X "range") (hm : X.mg "range" = none) (ha : SE X W a fa) (hb : SE X W b fb) (he : starEach [a, b] X.env = [(false, eval a X.env), (false, eval b X.env)] := by rfl) (he' : starEach [b] X.env = [(false, eval b X.env)] := by rfl) :
    SI X W tg (.Call (.Name "range" p) [a, b] [] pos) (itRange2 fa fb) := by
  obtain ⟨t, pa, q⟩ := ha
  obtain ⟨t', pb, q'⟩ := hb
  refine ⟨_, pi_range2 hg hm (pa_cons pa (pa_cons pb pa_nil he') (by rw [he, he'])) he he', fun σ H ρ st m R s r h => q σ H ρ st m _ s r (h.mp fun d st1 v H1 m1 e1 r1 p1 h1 => q' σ H1 ρ st1 m1 _ (s.up e1) r1 (h1.mp fun d2 st2 v2 H2 m2 e2 r2 p2 h2 => ?_))⟩
  cases p1 with
  | int i =>
    cases p2 with
    | int j =>
      dsimp only at h2
      split at h2
      · rename_i hs
        have hs' := Bool.and_eq_true_iff.mp hs
        have h3 : -1000000000000 ≤ i ∧ i ≤ 1000000000000 := of_decide_eq_true hs'.1
        have h4 : -1000000000000 ≤ j ∧ j ≤ 1000000000000 := of_decide_eq_true hs'.2
        exact ⟨i, j, rfl, ⟨by omega, by omega, by omega, by omega⟩, h2.go r2 ItOk.rng⟩
      · exact h2.elim
    | _ => exact h2.elim
  | _ => cases p2 <;> exact h2.elim
/-! ### for -/
theorem ss_for {it : AF} {u : GF} {own : List Nat} {f : SF} {body : List Stmt} (c : Cxt X W k) (hi : SI X W tg e it) (hg : SG X tg u own) (hb : SSs X W body f) (hs : ∀ x, foldedSetIterable e X.env x = pure x := by intro _; rfl) :
    SS X W (.For tg e body [] pos) (sFor it u f) := by
  obtain ⟨wi, pi, qi⟩ := hi
  obtain ⟨g, pg, qg⟩ := hg
  obtain ⟨t, pb, qb⟩ := hb
  refine ⟨_, ps_for c.own c.calm pi pg pb hs, fun σ H ρ st m E s r h => qi σ H ρ st m _ s r (PostS.mp h s fun ds st1 J H1 m1 e1 r1 p1 h1 => ?_)⟩
  refine ⟨fun i n σ2 H2 => n = ds.length - i ∧ i ≤ ds.length ∧ ∃ ρ2 st2 m2, Ext m1 H1 m2 H2 ∧ Rl X.K m2 H2 st2 ∧ SR X.K H2 m2 σ2 ρ2 ∧ PostS X W m2 H2 E (sForL u f (ds.drop i) ρ2 st2),
    ⟨ds.length, rfl, Nat.zero_le _, ρ, st1, m1, Ext.refl m1 H1, r1, s.up e1, h1⟩, fun i n σ2 H2 hW => ?_⟩
  obtain ⟨hn, hi, ρ2, st2, m2, e2, r2, s2, h2⟩ := hW
  obtain ⟨stop, at_⟩ := p1 m2 H2 e2
  by_cases hl : i = ds.length
  · subst hl
    rw [List.drop_length] at h2
    exact .inl ⟨stop, h2.nxt r2 s2⟩
  · have hlt : i < ds.length := by omega
    obtain ⟨go, yld⟩ := at_ i ds[i] (List.getElem?_eq_getElem hlt)
    rw [List.drop_eq_getElem_cons hlt] at h2
    unfold sForL at h2
    refine .inr ⟨go, fun σ3 H3 => ∃ ρ3 st3 m3, Ext m1 H1 m3 H3 ∧ Rl X.K m3 H3 st3 ∧ SR X.K H3 m3 σ3 ρ3 ∧ PostS X W m3 H3 E (sForL u f (ds.drop (i + 1)) ρ3 st3),
      fun σ3 H3 ⟨ρ3, st3, m3, e3, r3, s3, h3⟩ => ⟨ds.length - (i + 1), by omega, rfl, by omega, ρ3, st3, m3, e3, r3, s3, h3⟩, fun x H3 hy => ?_⟩
    obtain ⟨e3, rl3, p3⟩ := yld x H3 hy
    cases z : u ds[i] ρ2 st2 with
    | none => rw [z] at h2; exact h2.elim
    | some w =>
      obtain ⟨ρ4, st4⟩ := w
      rw [z] at h2
      refine qg x ds[i] σ2 H3 ρ2 st2 m2 _ ρ4 st4 (s2.up e3) (rl3 _ r2) p3 z fun σ4 H4 m4 e4 r4 s4 _ => qb σ4 H4 ρ4 st4 m4 _ s4 r4 ?_
      have e24 := e3.trans e4
      dsimp only at h2
      cases z2 : f ρ4 st4 with
      | nx ρ5 st5 =>
        rw [z2] at h2
        exact fun σ5 H5 m5 e5 r5 s5 => ⟨ρ5, st5, m5, (e2.trans e24).trans e5, r5, s5, PostS.up h2 (e24.trans e5)⟩
      | ct ρ5 st5 =>
        rw [z2] at h2
        exact fun σ5 H5 m5 e5 r5 s5 => ⟨ρ5, st5, m5, (e2.trans e24).trans e5, r5, s5, PostS.up h2 (e24.trans e5)⟩
      | bk ρ5 st5 =>
        rw [z2] at h2
        exact fun σ5 H5 m5 e5 r5 s5 => h2 σ5 H5 m5 (e24.trans e5) r5 s5
      | rt d st5 =>
        rw [z2] at h2
        exact fun v H5 m5 e5 => h2 v H5 m5 (e24.trans e5)
      | exc cn fs ρ5 st5 =>
        rw [z2] at h2
        exact fun cls dc σ5 H5 m5 e5 => h2 cls dc σ5 H5 m5 (e24.trans e5)
      | bad => rw [z2] at h2; exact h2.elim
theorem ss_while {fc : TF} {f : SF} {body : List Stmt} (n : Nat) (c : Cxt X W k) (hc : STt X W e fc) (hb : SSs X W body f) : SS X W (.While e body [] pos) (sWhileN fc f n) := by
  obtain ⟨t, p, q⟩ := hc
  obtain ⟨tb, pb, qb⟩ := hb
  refine ⟨_, ps_while c.own p pb, fun σ H ρ st m E s r h => ?_⟩
  refine ⟨fun i σ2 H2 => ∃ ρ2 st2 m2, Rl X.K m2 H2 st2 ∧ SR X.K H2 m2 σ2 ρ2 ∧ PostS X W m2 H2 E (sWhileN fc f i ρ2 st2), ⟨n, ρ, st, m, r, s, h⟩, fun i σ2 H2 hW => ?_⟩
  obtain ⟨ρ2, st2, m2, r2, s2, h2⟩ := hW
  cases i with
  | zero => exact h2.elim
  | succ i =>
    unfold sWhileN at h2
    refine q σ2 H2 ρ2 st2 m2 _ s2 r2 (PostS.mp h2 s2 fun b st3 v H3 m3 e3 r3 p3 h3 => ?_)
    obtain rfl : v = b := p3
    cases v with
    | false =>
      rw [if_neg Bool.false_ne_true]
      exact h3.nxt r3 (s2.up e3)
    | true =>
      rw [if_pos rfl]
      dsimp only at h3
      refine ⟨fun σ4 H4 => ∃ ρ4 st4 m4, Rl X.K m4 H4 st4 ∧ SR X.K H4 m4 σ4 ρ4 ∧ PostS X W m4 H4 E (sWhileN fc f i ρ4 st4), fun σ4 H4 h4 => ⟨i, Nat.lt_succ_self i, h4⟩, qb σ2 H3 ρ2 st3 m3 _ (s2.up e3) r3 ?_⟩
      cases z2 : f ρ2 st3 with
      | nx ρ5 st5 =>
        rw [z2] at h3
        exact fun σ5 H5 m5 e5 r5 s5 => ⟨ρ5, st5, m5, r5, s5, PostS.up h3 e5⟩
      | ct ρ5 st5 =>
        rw [z2] at h3
        exact fun σ5 H5 m5 e5 r5 s5 => ⟨ρ5, st5, m5, r5, s5, PostS.up h3 e5⟩
      | bk ρ5 st5 =>
        rw [z2] at h3
        exact fun σ5 H5 m5 e5 r5 s5 => h3 σ5 H5 m5 e5 r5 s5
      | rt d st5 =>
        rw [z2] at h3
        exact h3
      | exc cn fs ρ5 st5 =>
        rw [z2] at h3
        exact h3
      | bad => rw [z2] at h3; exact h3.elim
/-! ### [e for x in xs if t] -/
/-- the tests of a comprehension -/
structure SIf (X : Cx) (W : WX) (es : List Expr) (f : TF) : Prop where
  ex : ∃ t : TT, PTs X es t ∧ ∀ σ H ρ st m Q, SR X.K H m σ ρ → Rl X.K m H st → Post X W m H σ RB Q (f ρ st) → t σ H Q
def tYesF : TF := fun _ st => .ok true st
theorem sif_nil : SIf X W [] tYesF := ⟨_, pts_nil, fun σ H ρ st m Q s r h => h.go r rfl⟩
theorem sif_one {f : TF} (h : STt X W e f) : SIf X W [e] f := by
  obtain ⟨t, p, q⟩ := h
  exact ⟨_, pts_one p, q⟩
def wipeF (ρ : Sl) : List Nat → Sl
  | [] => ρ
  | v :: vs => (wipeF ρ vs).set v none
theorem SR.wipe {K : PySem.W.Frag} {H : Hp} {m : Mp} {σ : L2.St} {ρ : Sl} (s : SR K H m σ ρ) : ∀ vs : List Nat, SR K H m (L2.wipe σ vs) (wipeF ρ vs)
  | [] => s
  | v :: vs => by
    have ih := s.wipe vs
    refine ⟨by simp [L2.wipe, wipeF, ih.len], fun i d h => ?_⟩
    unfold wipeF at h
    by_cases e : v = i
    · subst e
      rw [List.getElem?_set] at h
      split at h
      · split at h <;> cases h
      · exact absurd rfl ‹_›
    · rw [List.getElem?_set_ne e] at h
      unfold L2.wipe
      rw [List.getElem?_set_ne e]
      exact ih.get i d h
def lcL (u : GF) (t : TF) (fe : EF) (ρ : Sl) : List D → List D → Store → Res D
  | [], acc, st => .ok (.lst acc) st
  | x :: xs, acc, st => match u x ρ st with
    | none => .bad
    | some (ρ1, st1) => match t ρ1 st1 with
      | .ok true st2 => match fe ρ1 st2 with
        | .ok d st3 => if acc.length < 100000 then lcL u t fe ρ xs (acc ++ [d]) st3 else .bad
        | _ => .bad
      | .ok false st2 => lcL u t fe ρ xs acc st2
      | _ => .bad
def lcF (it : AF) (u : GF) (t : TF) (fe : EF) (vs : List Nat) : EF := fun ρ st => (it ρ st).bind fun xs st1 => lcL u t fe (wipeF ρ vs) xs [] st1
abbrev W0 : WX := fun _ _ _ _ => False
/-- the readings in one form -/
def tSE (X : Cx) (W : WX) (f : EF) : TE := fun σ H Q => ∃ ρ st m, SR X.K H m σ ρ ∧ Rl X.K m H st ∧ Post X W m H σ Rep Q (f ρ st)
def tST (X : Cx) (W : WX) (f : TF) : TT := fun σ H Q => ∃ ρ st m, SR X.K H m σ ρ ∧ Rl X.K m H st ∧ Post X W m H σ RB Q (f ρ st)
def tSG (X : Cx) (u : GF) (own : List Nat) : TG := fun v σ H Q => ∃ d ρ st m ρ' st', SR X.K H m σ ρ ∧ Rl X.K m H st ∧ Rep X.K H m v d ∧ u d ρ st = some (ρ', st') ∧
  (∀ σ' H' m', Ext m H m' H' → Rl X.K m' H' st' → SR X.K H' m' σ' ρ' → (∀ vs, (∀ i ∈ own, i ∈ vs) → wipe σ' vs = wipe σ vs) → Q σ' H')
theorem SE.pe (h : SE X W e fe) : PE X e (tSE X W fe) := by
  obtain ⟨t, p, q⟩ := h
  exact ⟨fun pins s σ H Q I ⟨ρ, st, m, h1, h2, h3⟩ => p.run pins s σ H Q I (q σ H ρ st m Q h1 h2 h3)⟩
theorem SIf.pts {es : List Expr} {f : TF} (h : SIf X W es f) : PTs X es (tST X W f) := by
  obtain ⟨t, p, q⟩ := h
  exact ⟨fun pins s σ H Q I ⟨ρ, st, m, h1, h2, h3⟩ => p.run pins s σ H Q I (q σ H ρ st m Q h1 h2 h3)⟩
theorem SG.pg {u : GF} {own : List Nat} (h : SG X tg u own) : PG X tg (tSG X u own) := by
  obtain ⟨t, p, q⟩ := h
  exact ⟨fun pins s σ H v w Q I r ⟨d, ρ, st, m, ρ', st', h1, h2, h3, h4, h5⟩ => p.run pins s σ H v w Q I r (q v d σ H ρ st m Q ρ' st' h1 h2 h3 h4 h5)⟩
/-- no datum stands for p -/
def Mp.hide (M : Mp) (p : Addr) : Mp := ⟨M.m, p :: M.x⟩
theorem Ext.hide {M : Mp} {H : Hp} {p : Addr} {o : HO} (h : H p = none) : Ext M H (M.hide p) (upd H p o) :=
  ⟨List.prefix_refl _, (Ext.laid (m := M) (o := o) h).old, fun _ h1 h2 => absurd h1 h2, fun a ha => (List.mem_cons.mp ha).elim (fun z => .inr (z ▸ h)) .inl, fun _ h => List.mem_cons_of_mem _ h, fun _ => tr_upd⟩
theorem Rl.hide {K : PySem.W.Frag} {M : Mp} {H : Hp} {st : Store} {p : Addr} {o : HO} (r : Rl K M H st) (h : H p = none) : Rl K (M.hide p) (upd H p o) st :=
  ⟨r.nd, r.len, fun n u a h1 h2 => (r.ob n u a h1 h2).ext (Ext.hide h) (upd_ne fun z => r.tr a (List.mem_of_getElem? h2) (z ▸ h)), fun a ha => tr_upd (r.tr a ha), fun a ha => (List.mem_cons.mp ha).elim (fun z => by rw [z, upd_same]; simp) fun z => tr_upd (r.trx a z)⟩
/-- what is hidden changes -/
theorem out_upd {H : Hp} {m : Mp} {p a : Addr} {o u : HO} (hp : p ∈ m.x) (h : Rd H a u) (ho : m.out a) : Rd (upd H p o) a u := by
  have ne : a ≠ p := fun z => ho.2 (z ▸ hp)
  rcases h with h | ⟨q, h⟩
  · exact .inl (by rw [upd_ne ne]; exact h)
  · exact .inr ⟨q, by rw [upd_ne ne]; exact h⟩
theorem hid_at {H : Hp} {m : Mp} {p a : Addr} {o : HO} (hp : p ∈ m.x) (hn : m.out a) : upd H p o a = H a := upd_ne fun z => hn.2 (by rw [z]; exact hp)
section
variable {K : PySem.W.Frag} {H : Hp} {m : Mp} {p : Addr} {o : HO}
mutual
theorem Rep.hid (hp : p ∈ m.x) : ∀ (d : D) (v : V), Rep K H m v d → Rep K (upd H p o) m v d
  | .non, _, h => by cases h; exact .non
  | .bl b, _, h => by cases h; exact .bl b
  | .int i, _, h => by cases h; exact .int i
  | .str x, _, h => by cases h; exact .str x
  | .tup ds, _, h => by
    cases h with
    | tup h1 h2 => exact .tup (h1.elim (fun q => .inl ⟨out_upd hp q.1 q.2, q.2⟩) .inr) (RepL.hid hp ds _ h2)
  | .lst ds, _, h => by
    cases h with
    | lst h1 hn h2 => exact .lst ((hid_at hp hn).trans h1) hn (RepL.hid hp ds _ h2)
  | .rd ds, _, h => by
    cases h with
    | rd h1 h2 => exact .rd (h1.elim (fun q => .inl ⟨out_upd hp q.1 q.2, q.2⟩) .inr) (RepL.hid hp ds _ h2)
  | .dK ds, _, h => by
    cases h with
    | dK h1 hn h2 => exact .dK (out_upd hp h1 hn) hn (RepK.hid hp ds _ h2)
  | .ob n, _, h => by
    cases h with
    | ob h1 => exact .ob h1
theorem RepL.hid (hp : p ∈ m.x) : ∀ (ds : List D) (vs : List V), RepL K H m vs ds → RepL K (upd H p o) m vs ds
  | [], _, h => by cases h; exact .nil
  | d :: ds, _, h => by
    cases h with
    | cons h1 h2 => exact .cons (Rep.hid hp d _ h1) (RepL.hid hp ds _ h2)
theorem RepK.hid (hp : p ∈ m.x) : ∀ (ds : List (Key × D)) (vs : List (Key × V)), RepK K H m vs ds → RepK K (upd H p o) m vs ds
  | [], _, h => by cases h; exact .nil
  | (k, d) :: ds, _, h => by
    cases h with
    | cons h1 h2 => exact .cons (Rep.hid hp d _ h1) (RepK.hid hp ds _ h2)
end
/-! less is hidden -/
mutual
theorem Rep.less {m' : Mp} (hm : m'.m = m.m) (hx : ∀ a ∈ m'.x, a ∈ m.x) : ∀ (d : D) (v : V), Rep K H m v d → Rep K H m' v d
  | .non, _, h => by cases h; exact .non
  | .bl b, _, h => by cases h; exact .bl b
  | .int i, _, h => by cases h; exact .int i
  | .str x, _, h => by cases h; exact .str x
  | .tup ds, _, h => by
    cases h with
    | tup h1 h2 => exact .tup (h1.elim (fun q => .inl ⟨q.1, by rw [hm]; exact q.2.1, fun z => q.2.2 (hx _ z)⟩) .inr) (RepL.less hm hx ds _ h2)
  | .lst ds, _, h => by
    cases h with
    | lst h1 hn h2 => exact .lst h1 ⟨by rw [hm]; exact hn.1, fun z => hn.2 (hx _ z)⟩ (RepL.less hm hx ds _ h2)
  | .rd ds, _, h => by
    cases h with
    | rd h1 h2 => exact .rd (h1.elim (fun q => .inl ⟨q.1, by rw [hm]; exact q.2.1, fun z => q.2.2 (hx _ z)⟩) .inr) (RepL.less hm hx ds _ h2)
  | .dK ds, _, h => by
    cases h with
    | dK h1 hn h2 => exact .dK h1 ⟨by rw [hm]; exact hn.1, fun z => hn.2 (hx _ z)⟩ (RepK.less hm hx ds _ h2)
  | .ob n, _, h => by
    cases h with
    | ob h1 => exact .ob (by rw [hm]; exact h1)
theorem RepL.less {m' : Mp} (hm : m'.m = m.m) (hx : ∀ a ∈ m'.x, a ∈ m.x) : ∀ (ds : List D) (vs : List V), RepL K H m vs ds → RepL K H m' vs ds
  | [], _, h => by cases h; exact .nil
  | d :: ds, _, h => by
    cases h with
    | cons h1 h2 => exact .cons (Rep.less hm hx d _ h1) (RepL.less hm hx ds _ h2)
theorem RepK.less {m' : Mp} (hm : m'.m = m.m) (hx : ∀ a ∈ m'.x, a ∈ m.x) : ∀ (ds : List (Key × D)) (vs : List (Key × V)), RepK K H m vs ds → RepK K H m' vs ds
  | [], _, h => by cases h; exact .nil
  | (k, d) :: ds, _, h => by
    cases h with
    | cons h1 h2 => exact .cons (Rep.less hm hx d _ h1) (RepK.less hm hx ds _ h2)
end
theorem Rl.hid {st : Store} (hp : p ∈ m.x) (hm : p ∉ m.m) (r : Rl K m H st) : Rl K m (upd H p o) st :=
  ⟨r.nd, r.len, fun n u a h1 h2 => by
    have ne : a ≠ p := fun z => hm (z ▸ List.mem_of_getElem? h2)
    have q := r.ob n u a h1 h2
    cases u with
    | lst ds =>
      obtain ⟨vs, q1, q2⟩ := q
      exact ⟨vs, by rw [upd_ne ne]; exact q1, RepL.hid hp ds vs q2⟩
    | gone => trivial, fun a ha => tr_upd (r.tr a ha), fun a ha => tr_upd (r.trx a ha)⟩
theorem Rl.less {st : Store} {m' : Mp} (hm : m'.m = m.m) (hx : ∀ a ∈ m'.x, a ∈ m.x) (r : Rl K m H st) : Rl K m' H st :=
  ⟨by rw [hm]; exact r.nd, by rw [hm]; exact r.len, fun n u a h1 h2 => by
    rw [hm] at h2
    have q := r.ob n u a h1 h2
    cases u with
    | lst ds =>
      obtain ⟨vs, q1, q2⟩ := q
      exact ⟨vs, q1, RepL.less hm hx ds vs q2⟩
    | gone => trivial, fun a ha => r.tr a (by rw [← hm]; exact ha), fun a ha => r.trx a (hx a ha)⟩
end
theorem cap_lt {n : Nat} (h : n < 100000) : n < sizeLine := Nat.lt_of_lt_of_le h (by decide)
theorem cap_le {n : Nat} (h : n ≤ 100000) : n ≤ sizeLine := Nat.le_trans h (by decide)
theorem lc_read {iter : Expr} {own : List (Str × Nat)} {own' : List Nat} {it : AF} {u : GF} {t : TF} {wi : TI} (qi : ∀ σ H ρ st m R, SR X.K H m σ ρ → Rl X.K m H st → Post X W m H σ ItOk R (it ρ st) → wi σ H R) (hown : ∀ i ∈ own', i ∈ own.map (·.2)) :
    ∀ σ H ρ st m Q, SR X.K H m σ ρ → Rl X.K m H st → Post X W m H σ Rep Q (lcF it u t fe (own.map (·.2)) ρ st) → tLc wi (tSG X u own') (tST X W0 t) (tSE X W0 fe) (own.map (·.2)) σ H Q := by
  refine fun σ H ρ st m Q s r h => qi σ H ρ st m _ s r (h.mp fun ds st1 J H1 m1 e1 r1 p1 h1 => ?_)
  intro Dp hD
  have s1 := s.up e1
  refine ⟨fun i n H2 => n = ds.length - i ∧ i ≤ ds.length ∧ ∃ acc vs st2 m2, Ext m1 H1 m2 H2 ∧ Rl X.K m2 H2 st2 ∧ Dp ∈ m2.x ∧ Dp ∉ m2.m ∧ H2 Dp = some (.lst vs) ∧ RepL X.K H2 m2 vs acc ∧ Post X W m1 H1 σ Rep Q (lcL u t fe (wipeF ρ (own.map (·.2))) (ds.drop i) acc st2),
    ⟨ds.length, rfl, Nat.zero_le _, [], [], st1, m1.hide Dp, Ext.hide hD, r1.hide hD, List.mem_cons_self, r1.free hD, upd_same, .nil, h1⟩, fun i n H2 hW => ?_⟩
  obtain ⟨hn, hi, acc, vs, st2, m2, e2, r2, hx, hm, hH, ha, h2⟩ := hW
  obtain ⟨stop, at_⟩ := p1 m2 H2 e2
  by_cases hl : i = ds.length
  · subst hl
    rw [List.drop_length] at h2
    have hxs : ∀ a ∈ m1.x, a ∈ m2.x := e2.exs
    have hout : Dp ∉ m1.x := fun z => r1.trx Dp z hD
    exact .inl ⟨stop, h2 (.ref Dp) H2 ⟨m2.m, m1.x⟩ ⟨e2.pre, e2.old, e2.new, fun _ z => .inl z, fun _ z => z, e2.tr⟩ (Rl.less (m := m2) rfl hxs r2) (.lst hH ⟨hm, hout⟩ (RepL.less (m := m2) (m' := ⟨m2.m, m1.x⟩) rfl hxs _ _ ha))⟩
  · have hlt : i < ds.length := by omega
    obtain ⟨go, yld⟩ := at_ i ds[i] (List.getElem?_eq_getElem hlt)
    rw [List.drop_eq_getElem_cons hlt] at h2
    unfold lcL at h2
    refine .inr ⟨go, fun H3 => ∃ acc vs st2 m2, Ext m1 H1 m2 H3 ∧ Rl X.K m2 H3 st2 ∧ Dp ∈ m2.x ∧ Dp ∉ m2.m ∧ H3 Dp = some (.lst vs) ∧ RepL X.K H3 m2 vs acc ∧ Post X W m1 H1 σ Rep Q (lcL u t fe (wipeF ρ (own.map (·.2))) (ds.drop (i + 1)) acc st2),
      fun H3 h3 => ⟨ds.length - (i + 1), by omega, rfl, by omega, h3⟩, fun x H3 hy => ?_⟩
    obtain ⟨e3, rl3, p3⟩ := yld x H3 hy
    cases z : u ds[i] (wipeF ρ (own.map (·.2))) st2 with
    | none => rw [z] at h2; exact h2.elim
    | some w =>
      obtain ⟨ρ4, st4⟩ := w
      rw [z] at h2
      refine ⟨ds[i], _, st2, m2, ρ4, st4, ((s1.up e2).up e3).wipe _, rl3 _ r2, p3, z, fun σ4 H4 m4 e4 r4 s4 w4 => ⟨(w4 _ hown).trans (wipe_idem σ _), ?_⟩⟩
      dsimp only at h2
      refine ⟨ρ4, st4, m4, s4, r4, ?_⟩
      have e34 := e3.trans e4
      cases z2 : t ρ4 st4 with
      | ok b st5 =>
        rw [z2] at h2
        intro v5 H5 m5 e5 r5 p5
        obtain rfl : v5 = b := p5
        have e35 := e34.trans e5
        have hm5 : Dp ∉ m5.m := e35.notin hH hm
        have hH5 : H5 Dp = some (.lst vs) := e35.old Dp _ hH hm
        have hx5 : Dp ∈ m5.x := e35.exs Dp hx
        cases v5 with
        | true =>
          rw [if_pos rfl]
          refine ⟨ρ4, st5, m5, s4.up e5, r5, ?_⟩
          dsimp only at h2
          cases z3 : fe ρ4 st5 with
          | ok d st6 =>
            rw [z3] at h2
            dsimp only at h2
            split at h2
            · rename_i hlen
              intro v6 H6 m6 e6 r6 p6
              have hx6 := e6.exs Dp hx5
              have hm6 := e6.notin hH5 hm5
              have hH6 := e6.old Dp _ hH5 hm5
              refine ⟨vs, hH6, ?_, acc ++ [d], vs ++ [v6], st6, m6, ((e2.trans e35).trans e6).mut hD, r6.hid hx6 hm6, hx6, hm6, upd_same, ?_, h2⟩
              · rw [ha.length]
                exact cap_lt hlen
              · exact RepL.hid hx6 _ _ (((ha.up e35).up e6).append (.cons p6 .nil))
            · exact h2.elim
          | exc c fs st6 => rw [z3] at h2; exact h2.elim
          | bad => rw [z3] at h2; exact h2.elim
        | false =>
          rw [if_neg Bool.false_ne_true]
          exact ⟨acc, vs, st5, m5, e2.trans e35, r5, hx5, hm5, hH5, ha.up e35, h2⟩
      | exc c fs st5 => rw [z2] at h2; exact h2.elim
      | bad => rw [z2] at h2; exact h2.elim
theorem se_lc {elt iter : Expr} {ifs : List Expr} {scope : Scope} {own : List (Str × Nat)} {own' : List Nat} {it : AF} {u : GF} {t : TF} (hc : X.calm = true) (hN : X.N.Nodup) (hi : SI X W tg iter it) (ok : BlkOk X.N X.env.scope scope own)
    (hg : ∀ (s : Shared) (H : Hp) (C : Addr) (cl : List (Str × Addr)) (fp : List Addr), SG (X.blk s H scope (compEnvC scope cl C X.env) fp) tg u own')
    (ht : ∀ (s : Shared) (H : Hp) (C : Addr) (cl : List (Str × Addr)) (fp : List Addr), SIf (X.blk s H scope (compEnvC scope cl C X.env) fp) W0 ifs t)
    (he : ∀ (s : Shared) (H : Hp) (C : Addr) (cl : List (Str × Addr)) (fp : List Addr), SE (X.blk s H scope (compEnvC scope cl C X.env) fp) W0 elt fe)
    (hown : ∀ i ∈ own', i ∈ own.map (·.2) := by decide) (hs : ∀ x, foldedSetIterable iter X.env x = pure x := by intro _; rfl) :
    SE X W (.ListComp elt [⟨tg, iter, ifs, 0⟩] scope pos) (lcF it u t fe (own.map (·.2))) := by
  obtain ⟨wi, pi, qi⟩ := hi
  exact ⟨_, pe_lc (g := tSG X u own') (tt := tST X W0 t) (te := tSE X W0 fe) hc hN pi ok (fun s H C cl fp => (hg s H C cl fp).pg) (fun s H C cl fp => (ht s H C cl fp).pts) (fun s H C cl fp => (he s H C cl fp).pe) hs, lc_read (iter := iter) qi hown⟩
/-- x = [e for ..] on one line -/
theorem ss_setLc {i : Nat} {y : Str} {py spos : Pos} {elt iter : Expr} {ifs : List Expr} {scope : Scope} {own : List (Str × Nat)} {own' : List Nat} {it : AF} {u : GF} {t : TF} (hc : X.calm = true) (hN : X.N.Nodup) (hi : SI X W tg iter it) (ok : BlkOk X.N X.env.scope scope own)
    (hg : ∀ (s : Shared) (H : Hp) (C : Addr) (cl : List (Str × Addr)) (fp : List Addr), SG (X.blk s H scope (compEnvC scope cl C X.env) fp) tg u own')
    (ht : ∀ (s : Shared) (H : Hp) (C : Addr) (cl : List (Str × Addr)) (fp : List Addr), SIf (X.blk s H scope (compEnvC scope cl C X.env) fp) W0 ifs t)
    (he : ∀ (s : Shared) (H : Hp) (C : Addr) (cl : List (Str × Addr)) (fp : List Addr), SE (X.blk s H scope (compEnvC scope cl C X.env) fp) W0 elt fe)
    (hy : X.N[i]? = some y := by rfl) (hyl : X.env.scope.names.lookup y = some .local := by rfl) (hsw : swapsWith (.ListComp elt [⟨tg, iter, ifs, 0⟩] scope pos) (some (.Name y py)) spos.line X.env = pure true := by exact sw_true rfl rfl rfl (by decide +kernel))
    (hown : ∀ i ∈ own', i ∈ own.map (·.2) := by decide) (hs : ∀ x, foldedSetIterable iter X.env x = pure x := by intro _; rfl) :
    SS X W (.Assign [.Name y py] (.ListComp elt [⟨tg, iter, ifs, 0⟩] scope pos) spos) (sAsg (lcF it u t fe (own.map (·.2))) (gSet i)) := by
  obtain ⟨wi, pi, qi⟩ := hi
  refine ⟨_, ps_setLc (i := i) (g := tSG X u own') (tt := tST X W0 t) (te := tSE X W0 fe) hc hN hy hyl hsw pi ok (fun s H C cl fp => (hg s H C cl fp).pg) (fun s H C cl fp => (ht s H C cl fp).pts) (fun s H C cl fp => (he s H C cl fp).pe) hs, fun σ H ρ st m E s r h =>
    lc_read (iter := iter) qi hown σ H ρ st m _ s r (PostS.mp h s fun d st1 v H1 m1 e1 r1 p1 h1 => h1.nxt r1 ((s.up e1).set p1 i))⟩
end
end DX

/-! DX 5: defs, their calls, the law's end -/
namespace DX
open PySem PySem.Spec PyProof.Rows L2

def PostF (K : PySem.W.Frag) (mg : Str → Option Value) (m : Mp) (H : Hp) (Q : VK) (E : XK) : Res D → Prop
  | .ok d st => PostV K m H Rep Q d st
  | .exc c fs st => ∀ cls dc H' m', Ext m H m' H' → Rl K m' H' st → XRep mg K H' m' cls dc c fs → E cls dc H'
  | .bad => False
def spOf (K : PySem.W.Frag) (mg : Str → Option Value) (n : Nat) (F : FF) : Sp := fun vs H Q E => vs.length = n ∧ ∃ ds st m, RepL K H m vs ds ∧ Rl K m H st ∧ PostF K mg m H Q E (F ds st)
/-- the def x of the module means F -/
structure DefOk (P : Program) (w : World) (K : PySem.W.Frag) (mg : Str → Option Value) (base : Heap) (k : Nat) (x : Str) (ps : List Str) (F : FF) : Prop where
  ex : ∃ f fd, mg x = some (.ref f) ∧ PySem.W.keepIn K (.ref f) = true ∧ Binds K fd ps [] ∧ FnOk P w K mg base (L2.CX P w) k f fd ps (spOf K mg ps.length F)
def eCall (n : Nat) (F : FF) (fa : AF) : EF := fun ρ st => (fa ρ st).bind fun xs st1 => if xs.length = n then F xs st1 else .bad
def fDef (N : Nat) (b : SF) : FF := fun ds st => match b (ds.map some ++ List.replicate (N - ds.length) none) st with
  | .rt d st' => .ok d st'
  | .nx _ st' => .ok .non st'
  | .exc c fs _ st' => .exc c fs st'
  | _ => .bad
theorem Ctx.mono {X : Cx} {W : WX} {k j : Nat} (c : Ctx X W k) (h : j ≤ k) : Ctx X W j := ⟨c.calm, c.nd, c.tk, c.room.mono h⟩
theorem Ctx.blk {X : Cx} {W : WX} {k : Nat} (c : Ctx X W k) (s : Shared) (H : Hp) (sc : Scope) (env : Env) (fp : List Addr) : Ctx (X.blk s H sc env fp) W0 k := ⟨c.calm, c.nd, takes0, c.room⟩
section
variable {X : Cx} {W : WX} {e : Expr} {pos : Pos} {k j : Nat}
theorem SA.pa {es : List Expr} {f : AF} (h : SA X W es f) : PA X es (fun σ H Q => ∃ ρ st m, SR X.K H m σ ρ ∧ Rl X.K m H st ∧ Post X W m H σ RepL Q (f ρ st)) := by
  obtain ⟨t, p, q⟩ := h
  exact ⟨fun pos pins s σ H Q I ⟨ρ, st, m, h1, h2, h3⟩ => p.run pos pins s σ H Q I (q σ H ρ st m Q h1 h2 h3)⟩
theorem se_call {x : Str} {p : Pos} {es : List Expr} {ps : List Str} {F : FF} {f : AF} (d : DefOk X.prog X.w X.K X.mg X.base j x ps F) (c : Ctx X W k) (hg : Gl X x) (ha : SA X W (e :: es) f) (hj : j ≤ k := by decide)
    (h2 : (x == ("__debug__" : Str)) = false := by decide) (h3 : starEach (e :: es) X.env = (false, eval e X.env) :: starEach es X.env := by rfl) (h4 : (backTo pos (starEach es X.env)).any (·.1) = false := by rfl) :
    SE X W (.Call (.Name x p) (e :: es) [] pos) (eCall ps.length F f) := by
  obtain ⟨fa, fd, hm, hk, hb, G⟩ := d.ex
  obtain ⟨t, pa, q⟩ := ha
  refine ⟨_, pe_callS G (c.room.mono hj) hg hm hk hb (fun σ => passAt c.tk σ) pa h2 h3 h4, fun σ H ρ st m Q s r h => q σ H ρ st m _ s r (h.mp fun ds st1 vs H1 m1 e1 r1 p1 h1 => ?_)⟩
  split at h1
  · rename_i hl
    refine ⟨p1.length.trans hl, ds, st1, m1, p1, r1, ?_⟩
    cases z : F ds st1 with
    | ok d st2 => rw [z] at h1; exact h1
    | exc cn fs st2 => rw [z] at h1; exact h1
    | bad => rw [z] at h1; exact h1
  · exact h1.elim
theorem se_call0 {x : Str} {p : Pos} {F : FF} (d : DefOk X.prog X.w X.K X.mg X.base j x [] F) (c : Ctx X W k) (hg : Gl X x) (hj : j ≤ k := by decide) (h2 : (x == ("__debug__" : Str)) = false := by decide)
    (hF : ∀ st c fs st', F [] st ≠ .exc c fs st') : SE X W (.Call (.Name x p) [] [] pos) (fun _ st => F [] st) := by
  obtain ⟨fa, fd, hm, hk, hb, G⟩ := d.ex
  refine ⟨_, pe_call0 G (c.room.mono hj) hg hm hk hb .nil passL h2, fun σ H ρ st m Q s r h => ⟨rfl, [], st, m, .nil, r, ?_⟩⟩
  cases z : F [] st with
  | ok d st2 => rw [z] at h; exact h
  | exc cn fs st2 => exact absurd z (hF _ _ _ _)
  | bad => rw [z] at h; exact h
end
theorem sr_start {K : PySem.W.Frag} {H : Hp} {m : Mp} {vs : List V} {ds : List D} {N : List Str} (h : RepL K H m vs ds) : SR K H m (L2.start N vs) (ds.map some ++ List.replicate (N.length - ds.length) none) := by
  have hl := h.length
  refine ⟨by simp [L2.start, hl], fun i d hd => ?_⟩
  by_cases hi : i < ds.length
  · rw [List.getElem?_append_left (by simpa using hi), List.getElem?_map] at hd
    cases q : ds[i]? with
    | none => rw [q] at hd; cases hd
    | some d' =>
      rw [q] at hd
      have : d' = d := by simpa using hd
      subst this
      obtain ⟨v, h1, h2⟩ := h.get q
      refine ⟨v, ?_, h2⟩
      unfold L2.start
      rw [List.getElem?_append_left (by rw [List.length_map, hl]; exact hi), List.getElem?_map, h1]
      rfl
  · rw [List.getElem?_append_right (by simpa using Nat.le_of_not_lt hi), List.getElem?_replicate] at hd
    split at hd <;> cases hd
section
variable {P : Program} {w : World} {K : PySem.W.Frag} {mg : Str → Option Value} {base : Heap}
/-- a def by its body -/
theorem def_fn {x : Str} {st : Stmt} {f : Addr} {fd : FuncData} {N ps : List Str} {k : Nat} {b : SF} (F : Fun K x x st f fd) (S : FnScope N ps (defScope st))
    (hbody : ∀ (cdv : Value) (A : Around) (outer : List Env) (s : Shared) (H : Hp) (E : XK), Cxt (cxOf (L2.CX P w) P w K mg base N x (defScope st) f cdv A outer s H E) (fun cls d _ H => E cls d H) k →
      SSs (cxOf (L2.CX P w) P w K mg base N x (defScope st) f cdv A outer s H E) (fun cls d _ H => E cls d H) (defBody st) b) : FnOk P w K mg base (L2.CX P w) (k + 1) f fd ps (spOf K mg ps.length (fDef N.length b)) := by
  refine F.okX S (fun vs H Q E h => h.1) fun cdv A outer s H vs Q E hr h => ?_
  obtain ⟨hl, ds, st0, m, hv, hr0, hp⟩ := h
  obtain ⟨t, p, q⟩ := hbody cdv A outer s H E ⟨⟨rfl, S.nd, takes_of rfl rfl rfl rfl, hr⟩, passes_of rfl⟩
  refine ⟨t, p, q _ H _ st0 m _ (sr_start hv) hr0 ?_⟩
  unfold fDef at hp
  split at hp
  · rename_i d st' e
    rw [e]
    exact hp
  · rename_i ρ' st' e
    rw [e]
    exact fun σ' H' m' e' r' s' => hp .non H' m' e' r' .non
  · rename_i c fs ρ' st' e
    rw [e]
    exact fun cls dc σ' H' m' e' r' s' x' => hp cls dc H' m' e' r' x'
  · exact hp.elim
theorem def_ok {x : Str} {st : Stmt} {f : Addr} {fd : FuncData} {ps : List Str} {k : Nat} {F : FF} (Fn : Fun K x x st f fd) (hm : mg x = some (.ref f)) (hb : Binds K fd ps []) (G : FnOk P w K mg base (L2.CX P w) k f fd ps (spOf K mg ps.length F)) :
    DefOk P w K mg base k x ps F := ⟨f, fd, hm, Fn.kp, hb, G⟩
def spLaw (K : PySem.W.Frag) : Sp := fun vs H Q _ => ∃ (a : Addr) (ns : List Int), vs = [.ref a] ∧ SqL K H a (ns.map V.int) ∧ ns.length ≤ 63 ∧ ∀ H', Q (.bl true) H'
/-- the law's own promise -/
theorem law_imp {k : Nat} {p : Str} {F : FF} {f : Addr} {fd : FuncData} (G : FnOk P w K mg base (L2.CX P w) k f fd [p] (spOf K mg 1 F)) (h : ∀ ns : List Int, ns.length ≤ 63 → ∃ st, F [.rd (ns.map .int)] [] = .ok (.bl true) st) :
    FnOk P w K mg base (L2.CX P w) k f fd [p] (spLaw K) := by
  refine G.imp fun vs H Q E ⟨a, ns, hv, hS, hl, q⟩ => ?_
  obtain ⟨st, e⟩ := h ns hl
  subst hv
  refine ⟨rfl, [.rd (ns.map .int)], [], ⟨[], []⟩, .cons (.rd ?_ RepL.ints) .nil, ⟨.nil, rfl, fun n o a h => by simp at h, fun a h => by simp at h, fun a h => by simp at h⟩, ?_⟩
  · rcases hS with hS | hS
    · exact .inl ⟨hS, by simp, by simp⟩
    · exact .inr hS
  · rw [e]
    intro v H' m' _ _ rp
    cases rp
    exact q H'
end
end DX


/-! DX 6: operators and built-ins on data -/
namespace DX
open PySem PySem.Spec PyProof.Rows L2

def bOr (b1 b2 : B2) : B2 := fun st x y => (b1 st x y).orElse fun _ => b2 st x y
theorem OpD.or {X : Cx} {f : Value → Value → Sem Value} {b1 b2 : B2} (h1 : OpD X f b1) (h2 : OpD X f b2) : OpD X f (bOr b1 b2) := by
  obtain ⟨r1, p1, q1⟩ := h1
  obtain ⟨r2, p2, q2⟩ := h2
  refine ⟨fun x y H Q => r1 x y H Q ∨ r2 x y H Q, fun pins s σ H x y v u Q I rx ry h => h.elim (p1 pins s σ H x y v u Q I rx ry) (p2 pins s σ H x y v u Q I rx ry), fun H m st x y dx dy d Q r px py e h => ?_⟩
  unfold bOr at e
  cases z : b1 st dx dy with
  | none =>
    rw [z] at e
    exact .inr (q2 H m st x y dx dy d Q r px py e h)
  | some w =>
    rw [z] at e
    have e' : w = d := by simpa using e
    subst e'
    exact .inl (q1 H m st x y dx dy w Q r px py z h)
def bI (g : Int → Int → Option D) : B2 := fun _ x y => match x, y with
  | .int i, .int j => g i j
  | _, _ => none
theorem opd_I {X : Cx} {f : Value → Value → Sem Value} {C : Int → Int → Prop} {gv : Int → Int → V} {g : Int → Int → Option D} (h : OpR X f (rI C gv)) (hg : ∀ i j d, g i j = some d → C i j ∧ ∀ K H m, Rep K H m (gv i j) d) : OpD X f (bI g) :=
  ⟨_, h, fun H m st x y dx dy d Q r px py e k => by
    cases px with
    | int i =>
      cases py with
      | int j =>
        obtain ⟨c, p⟩ := hg i j d e
        exact ⟨i, j, rfl, rfl, c, k.go r (p _ _ _)⟩
      | _ => cases e
    | _ => cases py <;> cases e⟩
theorem opd_I0 {X : Cx} {f : Value → Value → Sem Value} {gv : Int → Int → V} {g : Int → Int → Option D} (h : OpR X f (rI0 gv)) (hg : ∀ i j d, g i j = some d → ∀ K H m, Rep K H m (gv i j) d) : OpD X f (bI g) :=
  ⟨_, h, fun H m st x y dx dy d Q r px py e k => by
    cases px with
    | int i =>
      cases py with
      | int j => exact ⟨i, j, rfl, rfl, k.go r (hg i j d e _ _ _)⟩
      | _ => cases e
    | _ => cases py <;> cases e⟩
def bAddI : B2 := bI fun i j => some (.int (i + j))
def bSub : B2 := bI fun i j => some (.int (i - j))
def narrow (i : Int) : Bool := decide (-(2 ^ 64) < i ∧ i < 2 ^ 64)
def bMulI : B2 := bI fun i j => if narrow i || narrow j then some (.int (i * j)) else none
def bMod : B2 := bI fun i j => if 0 < j then some (.int (i % j)) else none
def bFdiv : B2 := bI fun i j => if 0 < j ∧ j < 1073741824 then some (.int (i / j)) else none
def bPow : B2 := bI fun i j => if 0 ≤ j ∧ j ≤ 1000 ∧ i.natAbs < 2 ^ 256 then some (.int (i ^ j.toNat)) else none
section
variable {X : Cx}
theorem opd_addI : OpD X (binaryOp .Add) bAddI := opd_I0 op_add fun i j d e _ _ _ => by cases e; exact .int _
theorem opd_sub : OpD X (binaryOp .Sub) bSub := opd_I0 op_sub fun i j d e _ _ _ => by cases e; exact .int _
theorem opd_mulI : OpD X (binaryOp .Mult) bMulI := opd_I op_mul fun i j d e => by
  split at e
  · rename_i h
    cases e
    refine ⟨?_, fun _ _ _ => .int _⟩
    rcases Bool.or_eq_true_iff.mp h with h | h
    · exact .inl (of_decide_eq_true h)
    · exact .inr (of_decide_eq_true h)
  · cases e
theorem opd_mod : OpD X (binaryOp .Mod) bMod := opd_I op_mod fun i j d e => by
  split at e
  · rename_i h
    cases e
    exact ⟨h, fun _ _ _ => .int _⟩
  · cases e
theorem opd_fdiv : OpD X (binaryOp .FloorDiv) bFdiv := opd_I op_fdiv fun i j d e => by
  split at e
  · rename_i h
    cases e
    exact ⟨h, fun _ _ _ => .int _⟩
  · cases e
theorem op_powW : OpR X (binaryOp .Pow) (rI (fun i j => 0 ≤ j ∧ j ≤ 1000 ∧ i.natAbs < 2 ^ 256) fun i j => .int (i ^ j.toNat)) := by
  intro pins s σ H x y v u Q I rx ry h
  obtain ⟨i, j, rfl, rfl, hc, q⟩ := h
  obtain ⟨t, rfl⟩ := rx
  obtain ⟨t', rfl⟩ := ry
  refine PyProof.Rows.pow_int hc.1 ?_ ⟨.int (i ^ j.toNat), H, I.tok _, ⟨_, rfl⟩, q⟩
  have h1 : Builtin.Int.intBits i ≤ 256 := by
    unfold Builtin.Int.intBits
    split
    · omega
    · rename_i h0
      have hn : i.natAbs ≠ 0 := by
        intro z
        have : i = 0 := by omega
        subst this
        exact h0 rfl
      have := (Nat.log2_lt hn).mpr hc.2.2
      omega
  have h2 : ((Builtin.Int.intBits i : Nat) : Int) ≤ 256 := by omega
  have h3 := Int.mul_le_mul h2 hc.2.1 hc.1 (by decide)
  have h4 : (256 : Int) * 1000 ≤ 2 ^ 27 := by decide
  omega
theorem opd_pow : OpD X (binaryOp .Pow) bPow := opd_I op_powW fun i j d e => by
  split at e
  · rename_i h
    cases e
    exact ⟨h, fun _ _ _ => .int _⟩
  · cases e
def bLtI : B2 := bI fun i j => some (.bl (decide (i < j)))
def bLeI : B2 := bI fun i j => some (.bl (decide (i ≤ j)))
def bGtI : B2 := bI fun i j => some (.bl (decide (j < i)))
def bGeI : B2 := bI fun i j => some (.bl (decide (j ≤ i)))
theorem opd_ltI : OpD X (compareOp .Lt) bLtI := opd_I0 op_lt fun i j d e _ _ _ => by cases e; exact .bl _
theorem opd_leI : OpD X (compareOp .LtE) bLeI := opd_I0 op_le fun i j d e _ _ _ => by cases e; exact .bl _
theorem opd_gtI : OpD X (compareOp .Gt) bGtI := opd_I0 op_gt fun i j d e _ _ _ => by cases e; exact .bl _
theorem opd_geI : OpD X (compareOp .GtE) bGeI := opd_I0 op_ge fun i j d e _ _ _ => by cases e; exact .bl _
/-! texts -/
def bS (g : Str → Str → Option D) : B2 := fun _ x y => match x, y with
  | .str i, .str j => g i j
  | _, _ => none
theorem opd_S {f : Value → Value → Sem Value} {C : Str → Str → Prop} {gv : Str → Str → V} {g : Str → Str → Option D} (h : OpR X f (fun x y H Q => ∃ i j, x = .str i ∧ y = .str j ∧ C i j ∧ Q (gv i j) H)) (hg : ∀ i j d, g i j = some d → C i j ∧ ∀ K H m, Rep K H m (gv i j) d) : OpD X f (bS g) :=
  ⟨_, h, fun H m st x y dx dy d Q r px py e k => by
    cases px with
    | str i =>
      cases py with
      | str j =>
        obtain ⟨c, p⟩ := hg i j d e
        exact ⟨i, j, rfl, rfl, c, k.go r (p _ _ _)⟩
      | _ => cases e
    | _ => cases py <;> cases e⟩
theorem opd_S0 {f : Value → Value → Sem Value} {gv : Str → Str → V} {g : Str → Str → Option D} (h : OpR X f (fun x y H Q => ∃ i j, x = .str i ∧ y = .str j ∧ Q (gv i j) H)) (hg : ∀ i j d, g i j = some d → ∀ K H m, Rep K H m (gv i j) d) : OpD X f (bS g) :=
  ⟨_, h, fun H m st x y dx dy d Q r px py e k => by
    cases px with
    | str i =>
      cases py with
      | str j => exact ⟨i, j, rfl, rfl, k.go r (hg i j d e _ _ _)⟩
      | _ => cases e
    | _ => cases py <;> cases e⟩
def bAddS : B2 := bS fun i j => if i.length + j.length ≤ 100000 then some (.str (i ++ j)) else none
theorem opd_addS : OpD X (binaryOp .Add) bAddS := opd_S op_add_str fun i j d e => by
  split at e
  · rename_i h
    cases e
    exact ⟨cap_le h, fun _ _ _ => .str _⟩
  · cases e
def bLtS : B2 := bS fun i j => some (.bl (decide (i.cps.toList < j.cps.toList)))
def bLeS : B2 := bS fun i j => some (.bl (!decide (j.cps.toList < i.cps.toList)))
def bGtS : B2 := bS fun i j => some (.bl (decide (j.cps.toList < i.cps.toList)))
def bGeS : B2 := bS fun i j => some (.bl (!decide (i.cps.toList < j.cps.toList)))
theorem opd_ltS : OpD X (compareOp .Lt) bLtS := opd_S0 op_lt_str fun i j d e _ _ _ => by cases e; exact .bl _
theorem opd_leS : OpD X (compareOp .LtE) bLeS := opd_S0 op_le_str fun i j d e _ _ _ => by cases e; exact .bl _
theorem opd_gtS : OpD X (compareOp .Gt) bGtS := opd_S0 op_gt_str fun i j d e _ _ _ => by cases e; exact .bl _
theorem opd_geS : OpD X (compareOp .GtE) bGeS := opd_S0 op_ge_str fun i j d e _ _ _ => by cases e; exact .bl _
/-- text * number -/
def timesS (x : Str) (n : Int) : Str := ⟨(List.replicate n.toNat x.cps).foldl (· ++ ·) #[]⟩
theorem timesS_len (x : Str) (n : Int) : (timesS x n).length = n.toNat * x.length := by
  have key : ∀ (k : Nat) (b : Array Nat), ((List.replicate k x.cps).foldl (· ++ ·) b).size = b.size + k * x.cps.size := by
    intro k
    induction k with
    | zero => intro b; simp
    | succ k ih =>
      intro b
      rw [List.replicate_succ, List.foldl_cons, ih, Array.size_append, Nat.succ_mul]
      omega
  show ((List.replicate n.toNat x.cps).foldl (· ++ ·) #[]).size = n.toNat * x.cps.size
  rw [key]
  simp
def bMulS : B2 := fun _ x y => match x, y with
  | .str a, .int n => if 2 ≤ n ∧ n ≤ 100 ∧ 1 ≤ a.length ∧ a.length ≤ 100 then some (.str (timesS a n)) else if 0 ≤ n ∧ n ≤ 100 ∧ a.length = 0 then some (.str a) else none
  | _, _ => none
theorem op_mulS : OpR X (binaryOp .Mult) (fun x y H Q => ∃ a n, x = .str a ∧ y = .int n ∧ ((2 ≤ n ∧ n ≤ 100 ∧ 1 ≤ a.length ∧ a.length ≤ 100 ∧ Q (.str (timesS a n)) H) ∨ (0 ≤ n ∧ n ≤ 100 ∧ a.length = 0 ∧ Q (.str a) H))) := by
  intro pins s σ H x y v u Q I rx ry h
  obtain ⟨a, n, rfl, rfl, h⟩ := h
  obtain ⟨t, rfl⟩ := rx
  obtain ⟨t', rfl⟩ := ry
  have two : (2 : Int) ^ 63 = 9223372036854775808 := by decide
  rcases h with ⟨h1, h2, h3, h4, q⟩ | ⟨h1, h2, h3, q⟩
  · have hmul : a.length * n.toNat ≤ 100 * 100 := Nat.mul_le_mul h4 (by omega)
    have hlen : (timesS a n).length ≤ sizeLine := by
      rw [timesS_len]
      exact cap_le (by rw [Nat.mul_comm]; omega)
    refine PySem.P.mul_str (by rw [decide_eq_false (by omega), decide_eq_false (by omega)]; rfl) (fun _ _ hb => ?_) (fun _ _ => ?_) ?_
    · have hd : (100 : Int) ≤ (2 ^ 63 - 1) / n := (Int.le_ediv_iff_mul_le (by omega)).mpr (by omega)
      omega
    · unfold Builtin.Str.tooLong
      exact decide_eq_false (Nat.not_lt.mpr (cap_le (by omega)))
    · rw [if_neg (by omega), if_neg (by
        intro z
        rcases Bool.or_eq_true_iff.mp z with z | z
        · have := eq_of_beq z
          omega
        · have := eq_of_beq z
          omega)]
      exact ⟨hlen, .str (timesS a n), H, I.tok _, ⟨_, rfl⟩, q⟩
  · by_cases hn : n < 1
    · refine PySem.P.mul_str_none hn (by omega) ⟨.str a, H, I.tok _, ⟨s.toks, ?_⟩, q⟩
      have : a = Str.empty := by
        cases a with
        | mk c =>
          have hc : c.size = 0 := h3
          have : c = #[] := Array.eq_empty_of_size_eq_zero hc
          rw [this]
          rfl
      rw [this]
    · refine PySem.P.mul_str (by rw [decide_eq_false (by omega), decide_eq_false (by omega)]; rfl) (fun _ hz => ?_) (fun _ hz => ?_) ?_
      · rw [h3] at hz
        simp at hz
      · rw [h3] at hz
        simp at hz
      · rw [if_neg hn, if_pos (by rw [h3]; simp)]
        exact ⟨.str a, H, I, ⟨_, rfl⟩, q⟩
theorem opd_mulS : OpD X (binaryOp .Mult) bMulS := ⟨_, op_mulS, fun H m st x y dx dy d Q r px py e k => by
  cases px with
  | str a =>
    cases py with
    | int n =>
      unfold bMulS at e
      dsimp only at e
      refine ⟨a, n, rfl, rfl, ?_⟩
      split at e
      · rename_i h
        cases e
        exact .inl ⟨h.1, h.2.1, h.2.2.1, h.2.2.2, k.go r (.str _)⟩
      · split at e
        · rename_i h
          cases e
          exact .inr ⟨h.1, h.2.1, h.2.2, k.go r (.str _)⟩
        · cases e
    | _ => cases e
  | _ => cases py <;> cases e⟩
/-! lists, tuples -/
/-- a list that is no locked one -/
def seqW (st : Store) : D → Option (List D)
  | .lst xs => some xs
  | .ob n => match st[n]? with
    | some (.lst xs) => some xs
    | _ => none
  | _ => none
theorem seqW_at {K : PySem.W.Frag} {m : Mp} {H : Hp} {st : Store} {v : V} {d : D} {xs : List D} (r : Rl K m H st) (p : Rep K H m v d) (e : seqW st d = some xs) : ∃ a vs, v = .ref a ∧ H a = some (.lst vs) ∧ RepL K H m vs xs := by
  cases p with
  | @lst a vs ds h1 hn h2 =>
    cases e
    exact ⟨a, vs, rfl, h1, h2⟩
  | @ob a n h1 =>
    unfold seqW at e
    dsimp only at e
    split at e
    · rename_i ys hy
      cases e
      obtain ⟨vs, q1, q2⟩ := r.ob n _ a hy h1
      exact ⟨a, vs, rfl, q1, q2⟩
    · cases e
  | _ => cases e
/-- a new list, a new tuple, that nobody changes -/
theorem PostV.newL {K : PySem.W.Frag} {m : Mp} {H : Hp} {Q : VK} {xs : List D} {st : Store} {vs : List V} (k : PostV K m H Rep Q (.lst xs) st) (r : Rl K m H st) (h : RepL K H m vs xs) : ∀ p, H p = none → Q (.ref p) (upd H p (.lst vs)) := fun p hp =>
  k _ _ m (Ext.laid hp) (r.laid hp) (.lst upd_same ⟨r.free hp, fun z => r.trx p z hp⟩ (h.up (Ext.laid hp)))
theorem PostV.newT {K : PySem.W.Frag} {m : Mp} {H : Hp} {Q : VK} {xs : List D} {st : Store} {vs : List V} (k : PostV K m H Rep Q (.tup xs) st) (r : Rl K m H st) (h : RepL K H m vs xs) : ∀ p, H p = none → Q (.ref p) (upd H p (.tup vs)) := fun p hp =>
  k _ _ m (Ext.laid hp) (r.laid hp) (.tup (.inl ⟨.inl upd_same, r.free hp, fun z => r.trx p z hp⟩) (h.up (Ext.laid hp)))
def bAddL : B2 := fun st x y => match seqW st x, seqW st y with
  | some xs, some ys => if xs.length + ys.length ≤ 100000 then some (.lst (xs ++ ys)) else none
  | _, _ => none
theorem opd_addL : OpD X (binaryOp .Add) bAddL := ⟨_, op_cat, fun H m st x y dx dy d Q r px py e k => by
  unfold bAddL at e
  split at e
  · rename_i xs ys hx hy
    split at e
    · rename_i hl
      cases e
      obtain ⟨a, vs, rfl, h1, h2⟩ := seqW_at r px hx
      obtain ⟨b, ws, rfl, g1, g2⟩ := seqW_at r py hy
      exact ⟨a, b, vs, ws, rfl, rfl, h1, g1, by rw [h2.length, g2.length]; exact cap_le hl, k.newL r (h2.append g2)⟩
    · cases e
  · cases e⟩
def bAddT : B2 := fun _ x y => match x, y with
  | .tup xs, .tup ys => if xs.length + ys.length ≤ 100000 then some (.tup (xs ++ ys)) else none
  | _, _ => none
theorem opd_addT : OpD X (binaryOp .Add) bAddT := ⟨_, op_catA, fun H m st x y dx dy d Q r px py e k => by
  cases px with
  | @tup a vs xs h1 h2 =>
    cases py with
    | @tup b ws ys g1 g2 =>
      unfold bAddT at e
      dsimp only at e
      split at e
      · rename_i hl
        cases e
        have key : RepL X.K H m (vs ++ ws) (xs ++ ys) := h2.append g2
        refine ⟨a, b, vs, ws, rfl, rfl, h1.sq, g1.sq, by rw [h2.length, g2.length]; exact cap_le hl, fun z => ?_, fun _ z => ?_, fun _ _ => k.newT r key⟩
        · subst z
          exact k.go r (.tup g1 key)
        · subst z
          rw [List.append_nil] at key
          exact k.go r (.tup h1 key)
      · cases e
    | _ => cases e
  | _ => cases py <;> cases e⟩
def bAdd : B2 := bOr bAddI (bOr bAddS (bOr bAddL bAddT))
theorem opd_add : OpD X (binaryOp .Add) bAdd := opd_addI.or (opd_addS.or (opd_addL.or opd_addT))
def bLt : B2 := bOr bLtI bLtS
def bLe : B2 := bOr bLeI bLeS
def bGt : B2 := bOr bGtI bGtS
def bGe : B2 := bOr bGeI bGeS
theorem opd_lt : OpD X (compareOp .Lt) bLt := opd_ltI.or opd_ltS
theorem opd_le : OpD X (compareOp .LtE) bLe := opd_leI.or opd_leS
theorem opd_gt : OpD X (compareOp .Gt) bGt := opd_gtI.or opd_gtS
theorem opd_ge : OpD X (compareOp .GtE) bGe := opd_geI.or opd_geS
/-! ### == -/
mutual
def py0 : D → Option PyData
  | .non => some .none
  | .bl b => some (.bool b)
  | .int i => some (.int i)
  | .str x => some (.str x)
  | .tup xs => (py0L xs).map .tuple
  | .lst xs => (py0L xs).map .list
  | .rd xs => (py0L xs).map .list
  | .dK _ => none
  | .ob _ => none
def py0L : List D → Option (List PyData)
  | [] => some []
  | x :: xs => match py0 x, py0L xs with
    | some a, some as => some (a :: as)
    | _, _ => none
end
/-- .. of a list of the store too -/
def pyS (st : Store) (d : D) : Option PyData := match seqL st d with
  | some xs => (py0L xs).map .list
  | none => py0 d
mutual
theorem Dp.of {K : PySem.W.Frag} {H : Hp} {m : Mp} : ∀ (d : D) (v : V) (p : PyData), Rep K H m v d → py0 d = some p → Dp K H v p ∧ p.plain = true
  | .non, _, _, h, e => by cases h; cases e; exact ⟨.non, rfl⟩
  | .bl b, _, _, h, e => by cases h; cases e; exact ⟨.bl b, rfl⟩
  | .int i, _, _, h, e => by cases h; cases e; exact ⟨.int i, rfl⟩
  | .str x, _, _, h, e => by cases h; cases e; exact ⟨.str x, rfl⟩
  | .tup ds, _, _, h, e => by
    cases h with
    | tup h1 h2 =>
      unfold py0 at e
      cases z : py0L ds with
      | none => rw [z] at e; cases e
      | some ps =>
        rw [z] at e
        cases e
        obtain ⟨q1, q2⟩ := DpAll.of ds _ ps h2 z
        exact ⟨.tup h1.sq q1, q2⟩
  | .lst ds, _, _, h, e => by
    cases h with
    | lst h1 hn h2 =>
      unfold py0 at e
      cases z : py0L ds with
      | none => rw [z] at e; cases e
      | some ps =>
        rw [z] at e
        cases e
        obtain ⟨q1, q2⟩ := DpAll.of ds _ ps h2 z
        exact ⟨.lst (.inl (.inl h1)) q1, q2⟩
  | .rd ds, _, _, h, e => by
    cases h with
    | rd h1 h2 =>
      unfold py0 at e
      cases z : py0L ds with
      | none => rw [z] at e; cases e
      | some ps =>
        rw [z] at e
        cases e
        obtain ⟨q1, q2⟩ := DpAll.of ds _ ps h2 z
        exact ⟨.lst h1.sq q1, q2⟩
  | .dK _, _, _, _, e => by cases e
  | .ob _, _, _, _, e => by cases e
theorem DpAll.of {K : PySem.W.Frag} {H : Hp} {m : Mp} : ∀ (ds : List D) (vs : List V) (ps : List PyData), RepL K H m vs ds → py0L ds = some ps → DpAll K H vs ps ∧ PyData.plainAll ps = true
  | [], _, _, h, e => by cases h; cases e; exact ⟨.nil, rfl⟩
  | d :: ds, _, _, h, e => by
    cases h with
    | cons h1 h2 =>
      unfold py0L at e
      split at e
      · rename_i a as z1 z2
        cases e
        obtain ⟨q1, q2⟩ := Dp.of d _ a h1 z1
        obtain ⟨q3, q4⟩ := DpAll.of ds _ as h2 z2
        refine ⟨.cons q1 q3, ?_⟩
        unfold PyData.plainAll
        rw [q2, q4]
        rfl
      · cases e
end
theorem Dp.ofS {K : PySem.W.Frag} {H : Hp} {m : Mp} {st : Store} {d : D} {v : V} {p : PyData} (r : Rl K m H st) (h : Rep K H m v d) (e : pyS st d = some p) : Dp K H v p ∧ p.plain = true := by
  unfold pyS at e
  split at e
  · rename_i xs hx
    cases z : py0L xs with
    | none => rw [z] at e; cases e
    | some ps =>
      rw [z] at e
      cases e
      obtain ⟨a, vs, rfl, h1, h2⟩ := seqL_at r h hx
      obtain ⟨q1, q2⟩ := DpAll.of xs vs ps h2 z
      exact ⟨.lst h1 q1, q2⟩
  · exact Dp.of d v p h e
def rEqP (K : PySem.W.Frag) (neg : Bool) : R2 := fun x y H Q => ∃ d e, Dp K H x d ∧ Dp K H y e ∧ d.plain = true ∧ e.plain = true ∧ min d.depth e.depth ≤ 60 ∧ Q (.bl (if neg then !PyData.eqv d e else PyData.eqv d e)) H
theorem op_eqP (hu : X.A.units + 64 < cLine) : OpR X (compareOp .Eq) (rEqP X.K false) := by
  intro pins s σ H x y v u Q I rx ry h
  obtain ⟨d, e, hd, he, sd, se, hm, q⟩ := h
  obtain ⟨as, r1⟩ := Dp.reads I d x v hd rx
  obtain ⟨bs, r2⟩ := Dp.reads I e y u he ry
  exact SeqAt.eq_plain r1 r2 sd se (by omega) ⟨.bl _, H, I, rfl, q⟩
theorem op_neP (hu : X.A.units + 64 < cLine) : OpR X (compareOp .NotEq) (rEqP X.K true) := by
  intro pins s σ H x y v u Q I rx ry h
  obtain ⟨d, e, hd, he, sd, se, hm, q⟩ := h
  obtain ⟨as, r1⟩ := Dp.reads I d x v hd rx
  obtain ⟨bs, r2⟩ := Dp.reads I e y u he ry
  exact SeqAt.ne_plain r1 r2 sd se (by omega) ⟨.bl _, H, I, rfl, q⟩
def eqD (st : Store) (x y : D) : Option Bool := match pyS st x, pyS st y with
  | some a, some b => if min a.depth b.depth ≤ 60 then some (PyData.eqv a b) else none
  | _, _ => none
def bEq : B2 := fun st x y => (eqD st x y).map .bl
def bNe : B2 := fun st x y => (eqD st x y).map fun b => .bl !b
theorem opd_eq (hu : X.A.units + 64 < cLine) : OpD X (compareOp .Eq) bEq := ⟨_, op_eqP hu, fun H m st x y dx dy d Q r px py e k => by
  unfold bEq eqD at e
  split at e
  · rename_i a b ha hb
    split at e
    · rename_i hm
      cases e
      obtain ⟨q1, q2⟩ := Dp.ofS r px ha
      obtain ⟨q3, q4⟩ := Dp.ofS r py hb
      exact ⟨a, b, q1, q3, q2, q4, hm, k.go r (.bl _)⟩
    · cases e
  · cases e⟩
theorem opd_ne (hu : X.A.units + 64 < cLine) : OpD X (compareOp .NotEq) bNe := ⟨_, op_neP hu, fun H m st x y dx dy d Q r px py e k => by
  unfold bNe eqD at e
  split at e
  · rename_i a b ha hb
    split at e
    · rename_i hm
      cases e
      obtain ⟨q1, q2⟩ := Dp.ofS r px ha
      obtain ⟨q3, q4⟩ := Dp.ofS r py hb
      exact ⟨a, b, q1, q3, q2, q4, hm, k.go r (.bl _)⟩
    · cases e
  · cases e⟩
theorem Ctx.hu {X : Cx} {W : WX} {k : Nat} (c : Ctx X W k) : X.A.units + 64 < cLine := by have := c.room.un; omega
end
end DX

/-! DX 7: subscripts, slices, displays, built-ins -/
namespace DX
open PySem PySem.Spec PyProof.Rows L2

section
variable {X : Cx} {W : WX} {a b e o : Expr} {fa fb fe fo : EF} {pos : Pos}
/-! ### o[i] -/
theorem RepL.atI {K : PySem.W.Frag} {H : Hp} {m : Mp} {vs : List V} {ds : List D} {i : Int} {d : D} (h : RepL K H m vs ds) (e : L2.atI ds i = some d) : ∃ v, L2.atI vs i = some v ∧ Rep K H m v d := by
  unfold L2.atI at e ⊢
  rw [h.length]
  cases z : L2.ixN ds.length i with
  | none => rw [z] at e; cases e
  | some j =>
    rw [z] at e
    exact h.get e
def ixD : B2 := fun st x y => match y with
  | .int i => match x with
    | .tup xs => L2.atI xs i
    | .str z => if z.length ≤ 100000 then (L2.atI z.cps.toList i).map fun c => .str ⟨#[c]⟩ else none
    | _ => match seqL st x with
      | some xs => L2.atI xs i
      | none => none
  | _ => none
theorem IxR.or {r1 r2 : R2} (h1 : IxR X r1) (h2 : IxR X r2) : IxR X (fun x y H Q => r1 x y H Q ∨ r2 x y H Q) :=
  fun _ _ _ _ _ _ _ _ _ _ _ I rx ry h hs => h.elim (fun z => h1 _ _ _ _ _ _ _ _ _ _ _ I rx ry z hs) (fun z => h2 _ _ _ _ _ _ _ _ _ _ _ I rx ry z hs)
theorem se_ix (ha : SE X W a fa) (hb : SE X W b fb) (hp : PlainIx b := by exact fun _ _ => rfl) : SE X W (.Subscript a b pos) (eOp ixD fa fb) := by
  obtain ⟨ta, pa, qa⟩ := ha
  obtain ⟨tb, pb, qb⟩ := hb
  refine ⟨_, pe_ix (IxR.or ix_list (IxR.or ix_tup ix_str)) pa pb hp, fun σ H ρ st m Q s rl h => qa σ H ρ st m _ s rl (h.mp fun x st1 v H1 m1 e1 r1 p1 h1 => qb σ H1 ρ st1 m1 _ (s.up e1) r1 (h1.mp fun y st2 w H2 m2 e2 r2 p2 h2 => ?_))⟩
  cases q : ixD st2 x y with
  | none => rw [q] at h2; exact h2.elim
  | some d =>
    rw [q] at h2
    have p1' := p1.up e2
    cases y with
    | int i =>
      cases p2
      unfold ixD at q
      dsimp only at q
      split at q
      · rename_i xs
        cases p1' with
        | @tup a vs _ g1 g2 =>
          obtain ⟨v, g3, g4⟩ := g2.atI q
          exact .inr (.inl ⟨a, vs, i, v, rfl, rfl, g1.sq, g3, h2.go r2 g4⟩)
      · rename_i z
        cases p1'
        split at q
        · rename_i hl
          cases g : L2.atI z.cps.toList i with
          | none => rw [g] at q; cases q
          | some c =>
            rw [g] at q
            cases q
            exact .inr (.inr ⟨z, i, c, rfl, rfl, cap_le hl, g, h2.go r2 (.str _)⟩)
        · cases q
      · split at q
        · rename_i xs hx
          obtain ⟨a, vs, rfl, g1, g2⟩ := seqL_at r2 p1' hx
          obtain ⟨v, g3, g4⟩ := g2.atI q
          exact .inl ⟨a, vs, i, v, rfl, rfl, g1, g3, h2.go r2 g4⟩
        · cases q
    | _ => cases q
/-! ### o[a:b] -/
abbrev PF := Sl → Store → Res (Option Int)
def RO : PySem.W.Frag → Hp → Mp → Option Int → Option Int → Prop := fun _ _ _ v a => v = a
structure SP (X : Cx) (W : WX) (e : Option Expr) (f : PF) : Prop where
  ex : ∃ t : TO, PO X e t ∧ ∀ σ H ρ st m Q, SR X.K H m σ ρ → Rl X.K m H st → Post X W m H σ RO Q (f ρ st) → t σ H Q
def pNo : PF := fun _ st => .ok none st
def pAt (fe : EF) : PF := fun ρ st => (fe ρ st).bind fun d st1 => match d with
  | .int i => .ok (some i) st1
  | _ => .bad
theorem sp_none : SP X W none pNo := ⟨_, po_none, fun σ H ρ st m Q s r h => h.go r rfl⟩
theorem sp_some (h : SE X W e fe) : SP X W (some e) (pAt fe) := by
  obtain ⟨t, p, q⟩ := h
  refine ⟨_, po_some p, fun σ H ρ st m Q s r h => q σ H ρ st m _ s r (h.mp fun d st1 v H1 m1 e1 r1 p1 h1 => ?_)⟩
  cases p1 with
  | int i => exact ⟨i, rfl, h1.go r1 rfl⟩
  | _ => exact h1.elim
def cutD (xs : List D) (lo hi : Option Int) : List D := (xs.drop (HT.sIx xs.length 0 lo)).take (HT.sIx xs.length xs.length hi - HT.sIx xs.length 0 lo)
def slD (st : Store) (x : D) (lo hi : Option Int) : Option D := match x with
  | .tup xs => some (.tup (cutD xs lo hi))
  | .str z => if z.length ≤ 100000 then some (.str (cutS z lo hi)) else none
  | _ => (seqL st x).map fun xs => .lst (cutD xs lo hi)
def eSl (fe : EF) (lo hi : PF) : EF := fun ρ st => (fe ρ st).bind fun x st1 => (lo ρ st1).bind fun i st2 => (hi ρ st2).bind fun j st3 => Res.of (slD st3 x i j) st3
theorem SlR.or {r1 r2 : V → Option Int → Option Int → Hp → VK → Prop} (h1 : SlR X r1) (h2 : SlR X r2) : SlR X (fun x lo hi H Q => r1 x lo hi H Q ∨ r2 x lo hi H Q) :=
  fun pins s σ H x v vl vu lo hi sl Q I rx hs pl pu h => h.elim (h1 pins s σ H x v vl vu lo hi sl Q I rx hs pl pu) (h2 pins s σ H x v vl vu lo hi sl Q I rx hs pl pu)
theorem RepL.cut {K : PySem.W.Frag} {H : Hp} {m : Mp} {vs : List V} {ds : List D} (h : RepL K H m vs ds) (lo hi : Option Int) : RepL K H m (cutV vs lo hi) (cutD ds lo hi) := by
  unfold cutV cutD
  rw [h.length]
  exact (h.drop _).take _
theorem se_sl {lo hi : Option Expr} {fl fh : PF} {p2 : Pos} (h : SE X W e fe) (hl : SP X W lo fl) (hh : SP X W hi fh) : SE X W (.Subscript e (.Slice lo hi none p2) pos) (eSl fe fl fh) := by
  obtain ⟨t, p, q⟩ := h
  obtain ⟨tl, pl, ql⟩ := hl
  obtain ⟨th, ph, qh⟩ := hh
  refine ⟨_, pe_slice (SlR.or sl_list (SlR.or sl_tupA sl_str)) p pl ph, fun σ H ρ st m Q s r h => q σ H ρ st m _ s r (h.mp fun x st1 v H1 m1 e1 r1 p1 h1 => ql σ H1 ρ st1 m1 _ (s.up e1) r1 (h1.mp fun i st2 vi H2 m2 e2 r2 p2 h2 => qh σ H2 ρ st2 m2 _ ((s.up e1).up e2) r2 (h2.mp fun j st3 vj H3 m3 e3 r3 p3 h3 => ?_)))⟩
  obtain rfl : vi = i := p2
  obtain rfl : vj = j := p3
  cases z : slD st3 x vi vj with
  | none => rw [z] at h3; exact h3.elim
  | some d =>
    rw [z] at h3
    have p1' := (p1.up e2).up e3
    unfold slD at z
    split at z
    · rename_i xs
      cases z
      cases p1' with
      | @tup a vs _ g1 g2 =>
        refine .inr (.inl ⟨a, vs, rfl, g1.sq, fun hw => ?_, fun _ => PostV.newT (show PostV X.K m3 H3 Rep Q _ st3 from h3) r3 (g2.cut vi vj)⟩)
        have hc : cutD xs vi vj = xs := by
          unfold cutD
          rw [← g2.length, hw.1, hw.2]
          simp [g2.length]
        rw [hc] at h3
        exact h3.go r3 (.tup g1 g2)
    · rename_i zz
      cases p1'
      split at z
      · rename_i hl
        cases z
        exact .inr (.inr ⟨zz, rfl, cap_le hl, h3.go r3 (.str _)⟩)
      · cases z
    · cases y : seqL st3 x with
      | none => rw [y] at z; cases z
      | some xs =>
        rw [y] at z
        cases z
        obtain ⟨a, vs, rfl, g1, g2⟩ := seqL_at r3 p1' y
        exact .inl ⟨a, vs, rfl, g1, PostV.newL (show PostV X.K m3 H3 Rep Q _ st3 from h3) r3 (g2.cut vi vj)⟩
/-! ### displays -/
def eTup (fa : AF) : EF := fun ρ st => (fa ρ st).bind fun xs st1 => if xs.length ≤ 100000 then .ok (.tup xs) st1 else .bad
def eLst (fa : AF) : EF := fun ρ st => (fa ρ st).bind fun xs st1 => if xs.length ≤ 100000 then .ok (.lst xs) st1 else .bad
/-- a list that will change: a new thing of the store -/
def eLstM (fa : AF) : EF := fun ρ st => (fa ρ st).bind fun xs st1 => if xs.length ≤ 100000 then .ok (.ob st1.length) (st1 ++ [.lst xs]) else .bad
theorem se_tup {es : List Expr} {f : AF} {x1 : Nat} (h : SA X W es f) : SE X W (.Tuple es x1 pos) (eTup f) := by
  obtain ⟨t, p, q⟩ := h
  refine ⟨_, pe_tup p, fun σ H ρ st m Q s r h => q σ H ρ st m _ s r (h.mp fun xs st1 vs H1 m1 e1 r1 p1 h1 => ?_)⟩
  split at h1
  · rename_i hl
    exact ⟨by rw [p1.length]; exact cap_le hl, PostV.newT (show PostV X.K m1 H1 Rep Q _ st1 from h1) r1 p1⟩
  · exact h1.elim
theorem se_lst {es : List Expr} {f : AF} (h : SA X W es f) : SE X W (.List es pos) (eLst f) := by
  obtain ⟨t, p, q⟩ := h
  refine ⟨_, pe_lst p, fun σ H ρ st m Q s r h => q σ H ρ st m _ s r (h.mp fun xs st1 vs H1 m1 e1 r1 p1 h1 => ?_)⟩
  split at h1
  · rename_i hl
    exact ⟨by rw [p1.length]; exact cap_le hl, PostV.newL (show PostV X.K m1 H1 Rep Q _ st1 from h1) r1 p1⟩
  · exact h1.elim
/-- a new list of the store -/
theorem PostV.pushL {K : PySem.W.Frag} {m : Mp} {H : Hp} {Q : VK} {xs : List D} {st : Store} {vs : List V} (k : PostV K m H Rep Q (.ob st.length) (st ++ [.lst xs])) (r : Rl K m H st) (h : RepL K H m vs xs) : ∀ p, H p = none → Q (.ref p) (upd H p (.lst vs)) := fun p hp => by
  have e : Ext m H ⟨m.m ++ [p], m.x⟩ (upd H p (.lst vs)) := ⟨List.prefix_append _ _, (Ext.laid (m := m) hp).old, fun a h1 h2 => by
    rcases List.mem_append.mp h1 with z | z
    · exact absurd z h2
    · have : a = p := by simpa using z
      rw [this]
      exact hp, fun _ h => .inl h, fun _ h => h, fun _ h => tr_upd h⟩
  obtain ⟨e', r'⟩ := r.push (o := .lst vs) (u := .lst xs) hp ⟨vs, upd_same, h.up e⟩
  exact k _ _ _ e' r' (.ob (by rw [← r.len, List.getElem?_append_right (Nat.le_refl _), Nat.sub_self]; rfl))
theorem se_lstM {es : List Expr} {f : AF} (h : SA X W es f) : SE X W (.List es pos) (eLstM f) := by
  obtain ⟨t, p, q⟩ := h
  refine ⟨_, pe_lst p, fun σ H ρ st m Q s r h => q σ H ρ st m _ s r (h.mp fun xs st1 vs H1 m1 e1 r1 p1 h1 => ?_)⟩
  split at h1
  · rename_i hl
    exact ⟨by rw [p1.length]; exact cap_le hl, PostV.pushL (show PostV X.K m1 H1 Rep Q _ _ from h1) r1 p1⟩
  · exact h1.elim
def keyOf : D → Option Key
  | .int i => some (.inl i)
  | .str x => some (.inr x)
  | _ => none
/-- {} ; {k: v} -/
def eD0 : EF := fun _ st => .ok (.dK []) st
def eD1 (fk fv : EF) : EF := fun ρ st => (fk ρ st).bind fun k st1 => (fv ρ st1).bind fun v st2 => match keyOf k with
  | some key => .ok (.dK [(key, v)]) st2
  | none => .bad
theorem se_d0 : SE X W (.Dict [] [] pos) eD0 := ⟨_, pe_dnewK, fun σ H ρ st m Q s r h p hp =>
  h _ _ m (Ext.laid hp) (r.laid hp) (.dK (.inl upd_same) ⟨r.free hp, fun z => r.trx p z hp⟩ .nil)⟩
theorem Post.mpb {α α' β β' : Type} {m m0 : Mp} {H H0 : Hp} {σ : L2.St} {R : PySem.W.Frag → Hp → Mp → β → α → Prop} {R' : PySem.W.Frag → Hp → Mp → β' → α' → Prop} {Q : β → Hp → Prop} {Q' : β' → Hp → Prop} {r : Res α'} {f : α' → Store → Res α}
    (e0 : Ext m0 H0 m H) (h : Post X W m0 H0 σ R Q (r.bind f)) (k : ∀ a st v H1 m1, Ext m H m1 H1 → Rl X.K m1 H1 st → R' X.K H1 m1 v a → Post X W m0 H0 σ R Q (f a st) → Q' v H1) : Post X W m H σ R' Q' r := by
  cases r with
  | ok a st => exact fun v H1 m1 e r1 rp => k a st v H1 m1 e r1 rp h
  | exc c fs st => exact fun cls dc H1 m1 e => h cls dc H1 m1 (e0.trans e)
  | bad => exact h
theorem se_d1 (hk : SE X W a fa) (hv : SE X W b fb) : SE X W (.Dict [some a] [b] pos) (eD1 fa fb) := by
  obtain ⟨tk, pk, qk⟩ := hk
  obtain ⟨tv, pv, qv⟩ := hv
  refine ⟨_, pe_disp (pps_cons pk pv pps_nil) (by rfl) (by rfl) (fun z => by cases z) (by simp), fun σ H ρ st m Q s r h p hp => ?_⟩
  have r0 := r.hide (o := .dK []) hp
  have e0 : Ext m H (m.hide p) (upd H p (.dK [])) := Ext.hide hp
  have s0 := s.up e0
  show tk σ (upd H p (.dK [])) fun x H1 => tv σ H1 fun y H2 => _
  refine qk σ _ ρ st (m.hide p) _ s0 r0 (Post.mpb e0 h fun x st1 vx H1 m1 e1 r1 p1 h1 => qv σ H1 ρ st1 m1 _ (s0.up e1) r1 (Post.mpb (e0.trans e1) h1 fun y st2 vy H2 m2 e2 r2 p2 h2 => ?_))
  have e12 := e1.trans e2
  have e02 := e0.trans e12
  have hx : p ∈ m2.x := e12.exs p List.mem_cons_self
  have hm : p ∉ m2.m := e12.notin upd_same (r.free hp)
  have hH : H2 p = some (.dK []) := e12.old p _ upd_same (r.free hp)
  have hxs : ∀ a ∈ m.x, a ∈ m2.x := e02.exs
  cases z : keyOf x with
  | none => rw [z] at h2; exact h2.elim
  | some key =>
    rw [z] at h2
    refine ⟨hH, [(key, vy)], ?_, by simp, ?_⟩
    · cases x <;> first | cases z | skip
      · cases p1; rfl
      · cases p1; rfl
    · refine h2 (.ref p) _ ⟨m2.m, m.x⟩ ⟨e02.pre, (e02.mut hp).old, e02.new, fun _ z => .inl z, fun _ z => z, (e02.mut hp).tr⟩ (Rl.less (m := m2) rfl hxs (r2.hid hx hm)) (.dK (.inl upd_same) ⟨hm, fun z => r.trx p z hp⟩ (.cons (Rep.less (m := m2) (m' := ⟨m2.m, m.x⟩) rfl hxs _ _ (Rep.hid hx _ _ p2)) .nil))
/-! ### built-ins -/
inductive Ty where
  | str | int | bool | tuple | list | dict
  deriving DecidableEq
def Ty.name : Ty → String
  | .str => "str" | .int => "int" | .bool => "bool" | .tuple => "tuple" | .list => "list" | .dict => "dict"
inductive Tg where
  | none | bool | int | str | tuple | list | dict
def Tg.name : Tg → String
  | .none => "NoneType" | .bool => "bool" | .int => "int" | .str => "str" | .tuple => "tuple" | .list => "list" | .dict => "dict"
def Ty.has : Ty → Tg → Bool
  | .str, .str => true
  | .int, .int => true
  | .int, .bool => true
  | .bool, .bool => true
  | .tuple, .tuple => true
  | .list, .list => true
  | .dict, .dict => true
  | _, _ => false
theorem kit_tab : ∀ (a : Tg) (t : Ty), kitB a.name t.name = some (t.has a) := by
  intro a t
  cases a <;> cases t <;> decide +kernel
def tagOf (st : Store) : D → Option Tg
  | .non => some .none
  | .bl _ => some .bool
  | .int _ => some .int
  | .str _ => some .str
  | .tup _ => some .tuple
  | .lst _ => some .list
  | .rd _ => some .list
  | .dK _ => some .dict
  | .ob n => match st[n]? with
    | some (.lst _) => some .list
    | _ => none
theorem tag_at {K : PySem.W.Frag} {m : Mp} {H : Hp} {st : Store} {v : V} {d : D} {t : Tg} (r : Rl K m H st) (p : Rep K H m v d) (e : tagOf st d = some t) : TyX K H v (.type t.name) := by
  cases p with
  | non => cases e; exact .base .non
  | bl b => cases e; exact .base (.bl b)
  | int i => cases e; exact .base (.int i)
  | str x => cases e; exact .base (.str x)
  | tup h1 _ =>
    cases e
    rcases h1 with ⟨h | ⟨o, h⟩, _⟩ | ⟨o, its, n, h, hc, _⟩
    · exact .base (.tup h)
    · exact .fTuple h
    · exact .kTuple h hc
  | lst h1 _ _ => cases e; exact .base (.lst h1)
  | rd h1 _ =>
    cases e
    rcases h1 with ⟨h | ⟨o, h⟩, _⟩ | ⟨o, its, n, h, hc, _⟩
    · exact .base (.lst h)
    · exact .base (.frz h)
    · exact .kList h hc
  | dK h1 _ _ =>
    cases e
    rcases h1 with h | ⟨o, h⟩
    · exact .base (.dK h)
    · exact .fDict h
  | @ob a n h1 =>
    unfold tagOf at e
    dsimp only at e
    split at e
    · rename_i ys hy
      cases e
      obtain ⟨vs, q1, q2⟩ := r.ob n _ a hy h1
      exact .base (.lst q1)
    · cases e
def isD (t : Ty) (st : Store) (d : D) : Option D := (tagOf st d).map fun a => .bl (t.has a)
def eIs (t : Ty) (fe : EF) : EF := fun ρ st => (fe ρ st).bind fun d st1 => Res.of (isD t st1 d) st1
theorem se_is (t : Ty) {p p2 : Pos} {x : Str} (hx : x = Str.ofString t.name) (hg : Gl X "isinstance") (hm : X.mg "isinstance" = none) (hg2 : Gl X x) (hm2 : X.mg x = none) (hb : bootBuiltins x = some (.type t.name)) (h : SE X W e fe)
    (hn : x ≠ ("__name__" : Str) := by decide) (hd : (x == ("__debug__" : Str)) = false := by decide) (h3 : starEach [e, .Name x p2] X.env = (false, eval e X.env) :: starEach [.Name x p2] X.env := by rfl) (h5 : starEach [.Name x p2] X.env = (false, eval (.Name x p2) X.env) :: starEach [] X.env := by rfl) (h4 : (backTo pos (starEach [.Name x p2] X.env)).any (·.1) = false := by rfl) :
    SE X W (.Call (.Name "isinstance" p) [e, .Name x p2] [] pos) (eIs t fe) := by
  obtain ⟨te, pe, q⟩ := h
  have pt : PE X (.Name x p2) (tC (.ty t.name)) := pe_bltn hg2 hm2 hb rfl hn hd
  refine ⟨_, pe_callB call_isi hg hm (by decide +kernel) (pa_cons pe (pa_cons pt pa_nil h5) h3) (by decide) (by decide) h3 h4, fun σ H ρ st m Q s r h => q σ H ρ st m _ s r (h.mp fun d st1 v H1 m1 e1 r1 p1 h1 => ?_)⟩
  unfold isD at h1
  cases z : tagOf st1 d with
  | none => rw [z] at h1; exact h1.elim
  | some a =>
    rw [z] at h1
    exact ⟨v, .ty t.name, .type a.name, .type t.name, t.has a, rfl, .ty _, tag_at r1 p1 z, kit_ty (kit_tab a t), h1.go r1 (.bl _)⟩
/-- a call of one argument -/
def one (f : Store → D → Option D) : Store → List D → Option D := fun st ds => match ds with
  | [d] => f st d
  | _ => none
def two (f : Store → D → D → Option D) : Store → List D → Option D := fun st ds => match ds with
  | [a, b] => f st a b
  | _ => none
theorem calld_one {f : Value} {g : Store → D → Option D} {r : List V → Hp → VK → Prop} (h : CallR X f r) (hr : ∀ (H : Hp) (m : Mp) (st : Store) (v : V) (a d : D) (Q : VK), Rl X.K m H st → Rep X.K H m v a → g st a = some d → PostV X.K m H Rep Q d st → r [v] H Q) : CallD X f (one g) :=
  ⟨r, h, fun H m st vs ds d Q rl p e k => by
    cases p with
    | nil => cases e
    | cons p1 p2 =>
      cases p2 with
      | nil => exact hr H m st _ _ d Q rl p1 e k
      | cons _ _ => cases e⟩
theorem calld_two {f : Value} {g : Store → D → D → Option D} {r : List V → Hp → VK → Prop} (h : CallR X f r) (hr : ∀ (H : Hp) (m : Mp) (st : Store) (v w : V) (a b d : D) (Q : VK), Rl X.K m H st → Rep X.K H m v a → Rep X.K H m w b → g st a b = some d → PostV X.K m H Rep Q d st → r [v, w] H Q) : CallD X f (two g) :=
  ⟨r, h, fun H m st vs ds d Q rl p e k => by
    cases p with
    | nil => cases e
    | cons p1 p2 =>
      cases p2 with
      | nil => cases e
      | cons p2 p3 =>
        cases p3 with
        | nil => exact hr H m st _ _ _ _ d Q rl p1 p2 e k
        | cons _ _ => cases e⟩
def lenD (st : Store) (d : D) : Option D := match d with
  | .str x => if x.length ≤ 100000 then some (.int x.length) else none
  | .tup xs => some (.int xs.length)
  | _ => (seqL st d).map fun xs => .int xs.length
theorem calld_len : CallD X (.builtin "len") (one lenD) := calld_one call_len fun H m st v a d Q r p e k => by
  unfold lenD at e
  split at e
  · rename_i x
    cases p
    split at e
    · rename_i hl
      cases e
      exact ⟨_, _, rfl, ⟨cap_le hl, rfl⟩, k.go r (.int _)⟩
    · cases e
  · rename_i xs
    cases e
    cases p with
    | @tup a vs _ g1 g2 => exact ⟨_, vs.length, rfl, .inr ⟨vs, g1.sq, rfl⟩, k.go r (by rw [g2.length]; exact .int _)⟩
  · cases z : seqL st a with
    | none => rw [z] at e; cases e
    | some xs =>
      rw [z] at e
      cases e
      obtain ⟨p, vs, rfl, g1, g2⟩ := seqL_at r p z
      exact ⟨_, vs.length, rfl, .inl ⟨vs, g1, rfl⟩, k.go r (by rw [g2.length]; exact .int _)⟩
def absD (_ : Store) (d : D) : Option D := match d with
  | .int i => some (.int (if i < 0 then -i else i))
  | _ => none
theorem calld_abs : CallD X (.builtin "abs") (one absD) := calld_one call_abs fun H m st v a d Q r p e k => by
  cases p with
  | int i => cases e; exact ⟨i, rfl, k.go r (.int _)⟩
  | _ => cases e
def intD (_ : Store) (d : D) : Option D := match d with
  | .int i => some (.int i)
  | .bl b => some (.int (if b = true then 1 else 0))
  | _ => none
theorem calld_int : CallD X (.type "int") (one intD) := calld_one call_int1 fun H m st v a d Q r p e k => by
  cases p with
  | int i => cases e; exact .inl ⟨i, rfl, k.go r (.int _)⟩
  | bl b => cases e; exact .inr ⟨b, rfl, k.go r (.int _)⟩
  | _ => cases e
def max2D (_ : Store) (a b : D) : Option D := match a, b with
  | .int i, .int j => some (.int (if j > i then j else i))
  | _, _ => none
theorem calld_max2 (hc : X.calm = true) : CallD X (.builtin "max") (two max2D) := calld_two (call_max2 hc) fun H m st v w a b d Q r p p2 e k => by
  cases p with
  | int i =>
    cases p2 with
    | int j => cases e; exact ⟨i, j, rfl, k.go r (.int _)⟩
    | _ => cases e
  | _ => cases p2 <;> cases e
def min2D (_ : Store) (a b : D) : Option D := match a, b with
  | .int i, .int j => some (.int (if j < i then j else i))
  | _, _ => none
theorem calld_min2 (hc : X.calm = true) : CallD X (.builtin "min") (two min2D) := calld_two (call_min2 hc) fun H m st v w a b d Q r p p2 e k => by
  cases p with
  | int i =>
    cases p2 with
    | int j => cases e; exact ⟨i, j, rfl, k.go r (.int _)⟩
    | _ => cases e
  | _ => cases p2 <;> cases e
def boolsOf : List D → Option (List Bool)
  | [] => some []
  | .bl b :: r => (boolsOf r).map (b :: ·)
  | _ => none
theorem RepL.bools {K : PySem.W.Frag} {m : Mp} {H : Hp} : ∀ {vs : List V} {ds : List D} {bs : List Bool}, RepL K H m vs ds → boolsOf ds = some bs → vs = bs.map .bl
  | _, [], _, h, e => by cases h; cases e; rfl
  | _, d :: ds, bs, h, e => by
    cases h with
    | cons h1 h2 =>
      cases d with
      | bl b =>
        unfold boolsOf at e
        cases z : boolsOf ds with
        | none => rw [z] at e; cases e
        | some cs =>
          rw [z] at e
          cases e
          cases h1
          rw [RepL.bools h2 z]
          rfl
      | _ => cases e
def allD (st : Store) (d : D) : Option D := (seqL st d).bind fun xs => (boolsOf xs).map fun bs => .bl (bs.all id)
def anyD (st : Store) (d : D) : Option D := (seqL st d).bind fun xs => (boolsOf xs).map fun bs => .bl (bs.any id)
theorem calld_all (hc : X.calm = true) : CallD X (.builtin "all") (one allD) := calld_one (cr_all hc) fun H m st v a d Q r p e k => by
  unfold allD at e
  cases z : seqL st a with
  | none => rw [z] at e; cases e
  | some xs =>
    rw [z] at e
    cases z2 : boolsOf xs with
    | none =>
      have e' : (boolsOf xs).map (fun bs => D.bl (bs.all id)) = some d := e
      rw [z2] at e'; cases e'
    | some bs =>
      have e' : (boolsOf xs).map (fun bs => D.bl (bs.all id)) = some d := e
      rw [z2] at e'
      cases e'
      obtain ⟨q, vs, rfl, g1, g2⟩ := seqL_at r p z
      exact ⟨q, bs, rfl, (RepL.bools g2 z2) ▸ g1, k.go r (.bl _)⟩
theorem calld_any (hc : X.calm = true) : CallD X (.builtin "any") (one anyD) := calld_one (cr_any hc) fun H m st v a d Q r p e k => by
  unfold anyD at e
  cases z : seqL st a with
  | none => rw [z] at e; cases e
  | some xs =>
    rw [z] at e
    cases z2 : boolsOf xs with
    | none =>
      have e' : (boolsOf xs).map (fun bs => D.bl (bs.any id)) = some d := e
      rw [z2] at e'; cases e'
    | some bs =>
      have e' : (boolsOf xs).map (fun bs => D.bl (bs.any id)) = some d := e
      rw [z2] at e'
      cases e'
      obtain ⟨q, vs, rfl, g1, g2⟩ := seqL_at r p z
      exact ⟨q, bs, rfl, (RepL.bools g2 z2) ▸ g1, k.go r (.bl _)⟩
/-- repr of a flag -/
def repB (_ : Store) (d : D) : Option D := match d with
  | .bl b => some (.str (if b then "True" else "False"))
  | _ => none
theorem calld_repB : CallD X (.builtin "repr") (one repB) := calld_one (r := fun xs H Q => ∃ b, xs = [.bl b] ∧ Q (.str (if b then "True" else "False")) H) (by
  intro pins s σ H xs us Q I r h
  obtain ⟨b, rfl, q⟩ := h
  obtain ⟨u, rfl, hu⟩ := vals1 r
  cases hu
  exact PySem.P.repr_of_bool ⟨.str _, H, I.tok _, ⟨_, rfl⟩, q⟩) fun H m st v a d Q r p e k => by
  cases p with
  | bl b => cases e; exact ⟨b, rfl, k.go r (.str _)⟩
  | _ => cases e
/-! ### texts' methods -/
def strsOf : List D → Option (List Str)
  | [] => some []
  | .str b :: r => (strsOf r).map (b :: ·)
  | _ => none
theorem RepL.strs {K : PySem.W.Frag} {m : Mp} {H : Hp} : ∀ {vs : List V} {ds : List D} {bs : List Str}, RepL K H m vs ds → strsOf ds = some bs → vs = bs.map .str
  | _, [], _, h, e => by cases h; cases e; rfl
  | _, d :: ds, bs, h, e => by
    cases h with
    | cons h1 h2 =>
      cases d with
      | str b =>
        unfold strsOf at e
        cases z : strsOf ds with
        | none => rw [z] at e; cases e
        | some cs =>
          rw [z] at e
          cases e
          cases h1
          rw [RepL.strs h2 z]
          rfl
      | _ => cases e
def itemsOf (st : Store) : D → Option (List D)
  | .tup xs => some xs
  | d => seqL st d
def joinD (st : Store) (x : Str) (b : D) : Option D := match itemsOf st b with
  | some xs => match strsOf xs with
    | some ys => if (ys.map fun y => y.length).sum + ys.length * x.length ≤ 100000 then some (.str (Txt.join x ys)) else none
    | none => none
  | none => none
def eJoin (fo fe : EF) : EF := fun ρ st => (fo ρ st).bind fun x st1 => match x with
  | .str z => (fe ρ st1).bind fun y st2 => Res.of (joinD st2 z y) st2
  | _ => .bad
theorem se_join {apos : Pos} (ho : SE X W o fo) (h : SE X W e fe) (h1 : starEach [e] X.env = [(false, eval e X.env)] := by rfl) (h2 : attributeBase o "join" X.env (eval o X.env) = eval o X.env := by rfl) (h3 : (apos.endLine == pos.line) = true := by rfl) :
    SE X W (.Call (.Attribute o "join" apos) [e] [] pos) (eJoin fo fe) := by
  obtain ⟨t, p, q⟩ := ho
  obtain ⟨t2, p2, q2⟩ := h
  refine ⟨_, pe_join p p2 h1 h2 h3, fun σ H ρ st m Q s r h => q σ H ρ st m _ s r (h.mp fun x st1 v H1 m1 e1 r1 p1 h1 => ?_)⟩
  cases p1 with
  | str x =>
    refine ⟨⟨x, rfl⟩, q2 σ H1 ρ st1 m1 _ (s.up e1) r1 (h1.mp fun y st2 w H2 m2 e2 r2 p2 h2 => ?_)⟩
    cases hd : joinD st2 x y with
    | none => rw [hd] at h2; exact h2.elim
    | some d =>
      rw [hd] at h2
      unfold joinD at hd
      split at hd
      · rename_i xs hx
        split at hd
        · rename_i ys hy
          split at hd
          · rename_i hl
            cases hd
            unfold itemsOf at hx
            split at hx
            · cases hx
              cases p2 with
              | @tup a vs _ g1 g2 => exact ⟨x, a, ys, rfl, rfl, .inr ((RepL.strs g2 hy) ▸ g1.sq), Nat.le_trans hl (by decide), h2.go r2 (.str _)⟩
            · obtain ⟨a, vs, rfl, g1, g2⟩ := seqL_at r2 p2 hx
              exact ⟨x, a, ys, rfl, rfl, .inl ((RepL.strs g2 hy) ▸ g1), Nat.le_trans hl (by decide), h2.go r2 (.str _)⟩
          · cases hd
        · cases hd
      · cases hd
  | _ => exact h1.elim
def upperD (_ : Store) (d : D) : Option D := match d with
  | .str x => if x.length ≤ 100000 then some (.str (Txt.upper x)) else none
  | _ => none
theorem se_upper {apos : Pos} (ho : SE X W o fo) (h2 : attributeBase o "upper" X.env (eval o X.env) = eval o X.env := by rfl) (h3 : (apos.endLine == pos.line) = true := by rfl) :
    SE X W (.Call (.Attribute o "upper" apos) [] [] pos) (eUn upperD fo) := by
  obtain ⟨t, p, q⟩ := ho
  refine ⟨_, pe_upper p h2 h3, fun σ H ρ st m Q s r h => q σ H ρ st m _ s r (h.mp fun x st1 v H1 m1 e1 r1 p1 h1 => ?_)⟩
  cases hd : upperD st1 x with
  | none => rw [hd] at h1; exact h1.elim
  | some d =>
    rw [hd] at h1
    cases p1 with
    | str x =>
      unfold upperD at hd
      dsimp only at hd
      split at hd
      · rename_i hl
        cases hd
        exact ⟨⟨x, rfl⟩, x, rfl, rfl, Nat.le_trans hl (by decide), h1.go r1 (.str _)⟩
      · cases hd
    | _ => cases hd
end
end DX

/-! DX 8: the built-ins' names, the law's end -/
namespace DX
open PySem PySem.Spec PyProof.Rows L2
def bMul : B2 := bOr bMulI bMulS
theorem opd_mul {X : Cx} : OpD X (binaryOp .Mult) bMul := opd_mulI.or opd_mulS
theorem bb_len : bootBuiltins "len" = some (.builtin "len") := by decide +kernel
theorem bb_abs : bootBuiltins "abs" = some (.builtin "abs") := by decide +kernel
theorem bb_max : bootBuiltins "max" = some (.builtin "max") := by decide +kernel
theorem bb_min : bootBuiltins "min" = some (.builtin "min") := by decide +kernel
theorem bb_all : bootBuiltins "all" = some (.builtin "all") := by decide +kernel
theorem bb_any : bootBuiltins "any" = some (.builtin "any") := by decide +kernel
theorem bb_repr : bootBuiltins "repr" = some (.builtin "repr") := by decide +kernel
theorem bb_sorted : bootBuiltins "sorted" = some (.builtin "sorted") := by decide +kernel
theorem bb_sum : bootBuiltins "sum" = some (.builtin "sum") := by decide +kernel
theorem bb_str : bootBuiltins "str" = some (.type "str") := by decide +kernel
theorem bb_int : bootBuiltins "int" = some (.type "int") := by decide +kernel
theorem bb_bool : bootBuiltins "bool" = some (.type "bool") := by decide +kernel
theorem bb_tuple : bootBuiltins "tuple" = some (.type "tuple") := by decide +kernel
theorem bb_list : bootBuiltins "list" = some (.type "list") := by decide +kernel
theorem bb_dict : bootBuiltins "dict" = some (.type "dict") := by decide +kernel
section
variable {X : Cx} {W : WX} {a e : Expr} {fa fe : EF} {pos : Pos}
theorem se_gI {x : Str} {i : Int} (hg : Gl X x) (hm : ∃ t, X.mg x = some (.int i t)) (hd : (x == ("__debug__" : Str)) = false := by decide) : SE X W (.Name x pos) (eC (.int i)) := by
  obtain ⟨t, hm⟩ := hm
  exact ⟨_, pe_glob (v := .int i) hg hm ⟨_, rfl⟩ hd, fun σ H ρ st m Q s r h => h.go r (.int i)⟩
theorem se_gS {x y : Str} (hg : Gl X x) (hm : ∃ t, X.mg x = some (.str y t)) (hd : (x == ("__debug__" : Str)) = false := by decide) : SE X W (.Name x pos) (eC (.str y)) := by
  obtain ⟨t, hm⟩ := hm
  exact ⟨_, pe_glob (v := .str y) hg hm ⟨_, rfl⟩ hd, fun σ H ρ st m Q s r h => h.go r (.str y)⟩
def negD (_ : Store) (d : D) : Option D := match d with
  | .int i => some (.int (-i))
  | _ => none
theorem se_neg (h : SE X W a fa) : SE X W (.UnaryOp .USub a pos) (eUn negD fa) := by
  obtain ⟨t, p, q⟩ := h
  refine ⟨_, pe_un un_neg p, fun σ H ρ st m Q s r h => q σ H ρ st m _ s r (h.mp fun x st1 v H1 m1 e1 r1 p1 h1 => ?_)⟩
  cases p1 with
  | int i => exact ⟨i, rfl, h1.go r1 (.int _)⟩
  | _ => exact h1.elim
def isNoneD (_ : Store) (d : D) : Option D := match d with
  | .non => some (.bl true)
  | _ => some (.bl false)
def notNoneD (_ : Store) (d : D) : Option D := match d with
  | .non => some (.bl false)
  | _ => some (.bl true)
theorem se_isN {j} {pos' : Pos} (h : SE X W a fa) : SE X W (.Compare a [.Is] [.Constant .none j pos'] pos) (eUn isNoneD fa) := by
  obtain ⟨t, p, q⟩ := h
  refine ⟨_, pe_cmpR op_isN p pe_non (by rfl), fun σ H ρ st m Q s r h => q σ H ρ st m _ s r (h.mp fun x st1 v H1 m1 e1 r1 p1 h1 => ⟨rfl, ?_⟩)⟩
  cases p1 <;> exact h1.go r1 (.bl _)
theorem se_notN {j} {pos' : Pos} (h : SE X W a fa) : SE X W (.Compare a [.IsNot] [.Constant .none j pos'] pos) (eUn notNoneD fa) := by
  obtain ⟨t, p, q⟩ := h
  refine ⟨_, pe_cmpR op_notN p pe_non (by rfl), fun σ H ρ st m Q s r h => q σ H ρ st m _ s r (h.mp fun x st1 v H1 m1 e1 r1 p1 h1 => ⟨rfl, ?_⟩)⟩
  cases p1 <;> exact h1.go r1 (.bl _)
/-- comparisons as tests -/
theorem test_read {t : TE} (h : ∀ σ H ρ st m Q, SR X.K H m σ ρ → Rl X.K m H st → Post X W m H σ Rep Q (fe ρ st) → t σ H Q) : ∀ σ H ρ st m Q, SR X.K H m σ ρ → Rl X.K m H st → Post X W m H σ RB Q (tV fe ρ st) → tTest t σ H Q :=
  fun σ H ρ st m Q s r h' => h σ H ρ st m _ s r (h'.mp fun x st1 v H1 m1 e1 r1 p1 h1 => by
    cases x with
    | bl k =>
      cases p1
      exact ⟨k, rfl, h1.go r1 rfl⟩
    | _ => exact h1.elim)
theorem op_read {b : Expr} {fb : EF} {f : Value → Value → Sem Value} {o : B2} {r : R2} {ta tb : TE} (hro : ∀ (H : Hp) (m : Mp) (st : Store) (x y : V) (dx dy d : D) (Q : VK), Rl X.K m H st → Rep X.K H m x dx → Rep X.K H m y dy → o st dx dy = some d → PostV X.K m H Rep Q d st → r x y H Q)
    (qa : ∀ σ H ρ st m Q, SR X.K H m σ ρ → Rl X.K m H st → Post X W m H σ Rep Q (fa ρ st) → ta σ H Q) (qb : ∀ σ H ρ st m Q, SR X.K H m σ ρ → Rl X.K m H st → Post X W m H σ Rep Q (fb ρ st) → tb σ H Q) :
    ∀ σ H ρ st m Q, SR X.K H m σ ρ → Rl X.K m H st → Post X W m H σ Rep Q (eOp o fa fb ρ st) → tOp r ta tb σ H Q :=
  fun σ H ρ st m Q s rl h => qa σ H ρ st m _ s rl (h.mp fun x st1 v H1 m1 e1 r1 p1 h1 => qb σ H1 ρ st1 m1 _ (s.up e1) r1 (h1.mp fun y st2 w H2 m2 e2 r2 p2 h2 => by
    cases q : o st2 x y with
    | none => rw [q] at h2; exact h2.elim
    | some d => rw [q] at h2; exact hro H2 m2 st2 v w x y d Q r2 (p1.up e2) p2 q h2))
theorem st_cmp {b : Expr} {fb : EF} {op : CmpOp} {o : B2} (ho : OpD X (compareOp op) o) (ha : SE X W a fa) (hb : SE X W b fb) (hm : behindInMarks op b = false := by exact nomark _) : STt X W (.Compare a [op] [b] pos) (tV (eOp o fa fb)) := by
  obtain ⟨r, hr, hro⟩ := ho
  obtain ⟨ta, pa, qa⟩ := ha
  obtain ⟨tb, pb, qb⟩ := hb
  exact ⟨_, pt_cmpR hr pa pb hm, test_read (op_read (b := b) (f := compareOp op) hro qa qb)⟩
theorem st_chain {b c : Expr} {fb fc : EF} {op op' : CmpOp} {o o' : B2} (ho : OpD X (compareOp op) o) (ho' : OpD X (compareOp op') o') (ha : SE X W a fa) (hb : SE X W b fb) (hc : SE X W c fc) (hm : lastMarks [op, op'] [b, c] = false := by rfl) :
    STt X W (.Compare a [op, op'] [b, c] pos) (tV (eChain o o' fa fb fc)) := by
  obtain ⟨r, hr, hro⟩ := ho
  obtain ⟨r', hr', hro'⟩ := ho'
  obtain ⟨ta, pa, qa⟩ := ha
  obtain ⟨tb, pb, qb⟩ := hb
  obtain ⟨tc, pc, qc⟩ := hc
  refine ⟨_, pt_chain hr hr' pa pb pc hm, test_read fun σ H ρ st m Q s rl h => qa σ H ρ st m _ s rl (h.mp fun x st1 v H1 m1 e1 r1 p1 h1 => qb σ H1 ρ st1 m1 _ (s.up e1) r1 (h1.mp fun y st2 w H2 m2 e2 r2 p2 h2 => ?_))⟩
  cases q : o st2 x y with
  | none => rw [q] at h2; exact h2.elim
  | some d =>
    rw [q] at h2
    refine hro H2 m2 st2 v w x y d _ r2 (p1.up e2) p2 q fun z H3 m3 e3 r3 p3 => ?_
    cases d with
    | bl k =>
      cases p3
      refine ⟨k, rfl, ?_⟩
      cases k with
      | true =>
        rw [if_pos rfl]
        refine qc σ H3 ρ st2 m3 _ (((s.up e1).up e2).up e3) r3 ((h2.up e3).mp fun y' st4 w' H4 m4 e4 r4 p4 h4 => ?_)
        cases q' : o' st4 y y' with
        | none => rw [q'] at h4; exact h4.elim
        | some d' => rw [q'] at h4; exact hro' H4 m4 st4 w w' y y' d' Q r4 ((p2.up e3).up e4) p4 q' h4
      | false =>
        rw [if_neg Bool.false_ne_true]
        exact (h2.up e3).go r3 (.bl false)
    | _ => exact h2.elim
theorem st_isN {j} {pos' : Pos} (h : SE X W a fa) : STt X W (.Compare a [.Is] [.Constant .none j pos'] pos) (tV (eUn isNoneD fa)) := by
  obtain ⟨t, p, q⟩ := h
  refine ⟨_, pt_cmpR op_isN p pe_non (by rfl), test_read fun σ H ρ st m Q s r h => q σ H ρ st m _ s r (h.mp fun x st1 v H1 m1 e1 r1 p1 h1 => ⟨rfl, ?_⟩)⟩
  cases p1 <;> exact h1.go r1 (.bl _)
theorem st_notN {j} {pos' : Pos} (h : SE X W a fa) : STt X W (.Compare a [.IsNot] [.Constant .none j pos'] pos) (tV (eUn notNoneD fa)) := by
  obtain ⟨t, p, q⟩ := h
  refine ⟨_, pt_cmpR op_notN p pe_non (by rfl), test_read fun σ H ρ st m Q s r h => q σ H ρ st m _ s r (h.mp fun x st1 v H1 m1 e1 r1 p1 h1 => ⟨rfl, ?_⟩)⟩
  cases p1 <;> exact h1.go r1 (.bl _)
end
theorem cx_false {P : Program} {w : World} {H : Hp} {s s' : Shared} {e : Value} (h : L2.CX P w [] H s (fun _ _ _ => False) e s') : False := by
  obtain ⟨_, _, _, _, _, _, _, _, _, _, _, _, z⟩ := h
  exact z
end DX

/-! DX 9: reckoning with meanings -/
namespace DX
open PySem
section
variable {α β : Type} {a : α} {st : Store} {ρ : Sl} {c : String} {fs : List (Str × D)}
@[simp] theorem bind_ok {f : α → Store → Res β} : (Res.ok a st).bind f = f a st := rfl
@[simp] theorem bind_exc {f : α → Store → Res β} : (Res.exc c fs st : Res α).bind f = .exc c fs st := rfl
@[simp] theorem bind_bad {f : α → Store → Res β} : (Res.bad : Res α).bind f = .bad := rfl
@[simp] theorem of_some : Res.of (some a) st = .ok a st := rfl
@[simp] theorem of_none : (Res.of none st : Res α) = .bad := rfl
@[simp] theorem bindS_ok {f : α → Store → SRes} : bindS (.ok a st) ρ f = f a st := rfl
@[simp] theorem bindS_exc {f : α → Store → SRes} : bindS (.exc c fs st) ρ f = .exc c fs ρ st := rfl
@[simp] theorem bindS_bad {f : α → Store → SRes} : bindS .bad ρ f = .bad := rfl
@[simp] theorem sbind_nx {f : Sl → Store → SRes} : (SRes.nx ρ st).bind f = f ρ st := rfl
@[simp] theorem sbind_rt {f : Sl → Store → SRes} {d : D} : (SRes.rt d st).bind f = .rt d st := rfl
@[simp] theorem sbind_bk {f : Sl → Store → SRes} : (SRes.bk ρ st).bind f = .bk ρ st := rfl
@[simp] theorem sbind_ct {f : Sl → Store → SRes} : (SRes.ct ρ st).bind f = .ct ρ st := rfl
@[simp] theorem sbind_exc {f : Sl → Store → SRes} : (SRes.exc c fs ρ st).bind f = .exc c fs ρ st := rfl
@[simp] theorem sbind_bad {f : Sl → Store → SRes} : SRes.bad.bind f = .bad := rfl
end
section
variable {st : Store} {ρ : Sl} {fa fb fc fe fo : EF} {f g : SF} {t u : TF} {k : Nat} {d : D}
theorem ap_var {i : Nat} (h : ρ[i]? = some (some d)) : eVar i ρ st = .ok d st := by unfold eVar; rw [h]
@[simp] theorem ap_var0 : eVar 0 (some d :: ρ) st = .ok d st := rfl
@[simp] theorem ap_varS {i : Nat} {x : Option D} : eVar (i + 1) (x :: ρ) st = eVar i ρ st := rfl
@[simp] theorem ap_c : eC d ρ st = .ok d st := rfl
@[simp] theorem ap_op {b : B2} : eOp b fa fb ρ st = (fa ρ st).bind fun x st1 => (fb ρ st1).bind fun y st2 => Res.of (b st2 x y) st2 := rfl
@[simp] theorem ap_un {b : Store → D → Option D} : eUn b fa ρ st = (fa ρ st).bind fun x st1 => Res.of (b st1 x) st1 := rfl
@[simp] theorem ap_if : eIf t fa fb ρ st = (t ρ st).bind fun b st1 => match b with | true => fa ρ st1 | false => fb ρ st1 := rfl
@[simp] theorem ap_and : eAnd fa fb ρ st = (fa ρ st).bind fun x st1 => match x with | .bl true => fb ρ st1 | .bl false => .ok (.bl false) st1 | _ => .bad := rfl
@[simp] theorem ap_or : eOr fa fb ρ st = (fa ρ st).bind fun x st1 => match x with | .bl true => .ok (.bl true) st1 | .bl false => fb ρ st1 | _ => .bad := rfl
@[simp] theorem ap_not : eNot fa ρ st = (fa ρ st).bind fun x st1 => match x with | .bl b => .ok (.bl !b) st1 | _ => .bad := rfl
@[simp] theorem ap_tV : tV fa ρ st = (fa ρ st).bind fun x st1 => match x with | .bl b => .ok b st1 | _ => .bad := rfl
@[simp] theorem ap_tAnd : tAndF t u ρ st = (t ρ st).bind fun b st1 => match b with | true => u ρ st1 | false => .ok false st1 := rfl
@[simp] theorem ap_tOr : tOrF t u ρ st = (t ρ st).bind fun b st1 => match b with | true => .ok true st1 | false => u ρ st1 := rfl
@[simp] theorem ap_tNot : tNotF t ρ st = (t ρ st).bind fun b st1 => .ok (!b) st1 := rfl
@[simp] theorem ap_aNil : aNil ρ st = .ok [] st := rfl
@[simp] theorem ap_aCons {r : AF} : aCons fa r ρ st = (fa ρ st).bind fun x st1 => (r ρ st1).bind fun xs st2 => .ok (x :: xs) st2 := rfl
@[simp] theorem ap_aCall {b : Store → List D → Option D} {r : AF} : aCall b r ρ st = (r ρ st).bind fun xs st1 => Res.of (b st1 xs) st1 := rfl
@[simp] theorem ap_eCall {n : Nat} {F : FF} {r : AF} : eCall n F r ρ st = (r ρ st).bind fun xs st1 => if xs.length = n then F xs st1 else .bad := rfl
@[simp] theorem ap_tup {r : AF} : eTup r ρ st = (r ρ st).bind fun xs st1 => if xs.length ≤ 100000 then .ok (.tup xs) st1 else .bad := rfl
@[simp] theorem ap_lst {r : AF} : eLst r ρ st = (r ρ st).bind fun xs st1 => if xs.length ≤ 100000 then .ok (.lst xs) st1 else .bad := rfl
@[simp] theorem ap_lstM {r : AF} : eLstM r ρ st = (r ρ st).bind fun xs st1 => if xs.length ≤ 100000 then .ok (.ob st1.length) (st1 ++ [.lst xs]) else .bad := rfl
@[simp] theorem ap_is {ty : Ty} : eIs ty fe ρ st = (fe ρ st).bind fun d st1 => Res.of (isD ty st1 d) st1 := rfl
@[simp] theorem ap_pNo : pNo ρ st = .ok none st := rfl
@[simp] theorem ap_pAt : pAt fe ρ st = (fe ρ st).bind fun d st1 => match d with | .int i => .ok (some i) st1 | _ => .bad := rfl
@[simp] theorem ap_sl {lo hi : PF} : eSl fe lo hi ρ st = (fe ρ st).bind fun x st1 => (lo ρ st1).bind fun i st2 => (hi ρ st2).bind fun j st3 => Res.of (slD st3 x i j) st3 := rfl
@[simp] theorem ap_join : eJoin fo fe ρ st = (fo ρ st).bind fun x st1 => match x with | .str z => (fe ρ st1).bind fun y st2 => Res.of (joinD st2 z y) st2 | _ => .bad := rfl
@[simp] theorem ap_d0 : eD0 ρ st = .ok (.dK []) st := rfl
@[simp] theorem ap_d1 : eD1 fa fb ρ st = (fa ρ st).bind fun k st1 => (fb ρ st1).bind fun v st2 => match keyOf k with | some key => .ok (.dK [(key, v)]) st2 | none => .bad := rfl
@[simp] theorem ap_chain {b b' : B2} : eChain b b' fa fb fc ρ st = (fa ρ st).bind fun x st1 => (fb ρ st1).bind fun y st2 => match b st2 x y with
  | some (.bl true) => (fc ρ st2).bind fun z st3 => Res.of (b' st3 y z) st3
  | some (.bl false) => .ok (.bl false) st2
  | _ => .bad := rfl
@[simp] theorem ap_nx : sNx ρ st = .nx ρ st := rfl
@[simp] theorem ap_bk : sBk ρ st = .bk ρ st := rfl
@[simp] theorem ap_ct : sCt ρ st = .ct ρ st := rfl
@[simp] theorem ap_seq : sSeq f g ρ st = (f ρ st).bind g := rfl
@[simp] theorem ap_drop : sDrop fe ρ st = bindS (fe ρ st) ρ fun _ st1 => .nx ρ st1 := rfl
@[simp] theorem ap_ret : sRet fe ρ st = bindS (fe ρ st) ρ fun d st1 => .rt d st1 := rfl
@[simp] theorem ap_retN : sRetN ρ st = .rt .non st := rfl
@[simp] theorem ap_sif : sIf t f g ρ st = bindS (t ρ st) ρ fun b st1 => match b with | true => f ρ st1 | false => g ρ st1 := rfl
@[simp] theorem ap_asg {u : GF} : sAsg fe u ρ st = bindS (fe ρ st) ρ fun d st1 => match u d ρ st1 with | some (ρ', st') => .nx ρ' st' | none => .bad := rfl
@[simp] theorem ap_set {i : Nat} : gSet i d ρ st = some (ρ.set i (some d), st) := rfl
@[simp] theorem ap_par {i j : Nat} {r : AF} : sPar i j r ρ st = bindS (r ρ st) ρ fun ds st1 => match ds with | [x, y] => .nx ((ρ.set i (some x)).set j (some y)) st1 | _ => .bad := rfl
@[simp] theorem ap_for {it : AF} {u : GF} : sFor it u f ρ st = bindS (it ρ st) ρ fun xs st1 => sForL u f xs ρ st1 := rfl
@[simp] theorem ap_itAny : itAny fe ρ st = (fe ρ st).bind fun d st1 => match d with | .lst xs => .ok xs st1 | .rd xs => .ok xs st1 | .tup xs => .ok xs st1 | .str x => .ok (signs x) st1 | _ => .bad := rfl
@[simp] theorem ap_itRange1 : itRange1 fe ρ st = (fe ρ st).bind fun d st1 => match d with | .int n => if small n then .ok (rng 0 n.toNat) st1 else .bad | _ => .bad := rfl
@[simp] theorem ap_itRange2 : itRange2 fa fb ρ st = (fa ρ st).bind fun x st1 => (fb ρ st1).bind fun y st2 => match x, y with
  | .int a, .int b => if small a && small b then .ok (rng a (b - a).toNat) st2 else .bad
  | _, _ => .bad := rfl
@[simp] theorem ap_lc {it : AF} {u : GF} {vs : List Nat} : lcF it u t fe vs ρ st = (it ρ st).bind fun xs st1 => lcL u t fe (wipeF ρ vs) xs [] st1 := rfl
@[simp] theorem ap_yes : tYesF ρ st = .ok true st := rfl
@[simp] theorem forL_nil {u : GF} : sForL u f [] ρ st = .nx ρ st := rfl
theorem forL_cons {u : GF} {x : D} {xs : List D} : sForL u f (x :: xs) ρ st = match u x ρ st with
    | none => .bad
    | some (ρ1, st1) => match f ρ1 st1 with
      | .nx ρ2 st2 => sForL u f xs ρ2 st2
      | .ct ρ2 st2 => sForL u f xs ρ2 st2
      | .bk ρ2 st2 => .nx ρ2 st2
      | .rt d st2 => .rt d st2
      | .exc c fs ρ2 st2 => .exc c fs ρ2 st2
      | .bad => .bad := rfl
@[simp] theorem wipe_nil : wipeF ρ [] = ρ := rfl
@[simp] theorem wipe_cons {v : Nat} {vs : List Nat} : wipeF ρ (v :: vs) = (wipeF ρ vs).set v none := rfl
end
theorem fDef_rt {N : Nat} {b : SF} {ds : List D} {st st' : Store} {ρ : Sl} {d : D} (hρ : ds.map some ++ List.replicate (N - ds.length) none = ρ) (h : b ρ st = .rt d st') : fDef N b ds st = .ok d st' := by
  unfold fDef
  rw [hρ, h]
/-! operators, by kinds -/
/-- powers are not reckoned out -/
def ipow (i : Int) (n : Nat) : Int := i ^ n
def powOk (i : Int) : Prop := i.natAbs < 2 ^ 256
instance : Decidable (powOk i) := inferInstanceAs (Decidable (_ < _))
theorem powOk_10 : powOk 10 := by unfold powOk; decide
theorem powOk_59 : powOk (ipow 10 59) := by unfold powOk ipow; decide
theorem ipow_pos {i : Int} (h : 0 < i) (n : Nat) : 0 < ipow i n := Int.pow_pos h
section
variable {st : Store} {i j : Int} {x y : Str} {b : Bool} {xs ys : List D} {d : D} {n : Nat}
@[simp] theorem add_II : bAdd st (.int i) (.int j) = some (.int (i + j)) := rfl
@[simp] theorem add_SS : bAdd st (.str x) (.str y) = if x.length + y.length ≤ 100000 then some (.str (x ++ y)) else none := by
  show ((if x.length + y.length ≤ 100000 then some (D.str (x ++ y)) else none).orElse fun _ => none) = _
  split <;> rfl
@[simp] theorem add_LL : bAdd st (.lst xs) (.lst ys) = if xs.length + ys.length ≤ 100000 then some (.lst (xs ++ ys)) else none := by
  show ((if xs.length + ys.length ≤ 100000 then some (D.lst (xs ++ ys)) else none).orElse fun _ => none) = _
  split <;> rfl
@[simp] theorem add_TT : bAdd st (.tup xs) (.tup ys) = if xs.length + ys.length ≤ 100000 then some (.tup (xs ++ ys)) else none := rfl
@[simp] theorem sub_II : bSub st (.int i) (.int j) = some (.int (i - j)) := rfl
@[simp] theorem mul_II : bMul st (.int i) (.int j) = if narrow i || narrow j then some (.int (i * j)) else none := by
  show ((if narrow i || narrow j then some (D.int (i * j)) else none).orElse fun _ => none) = _
  split <;> rfl
@[simp] theorem mul_SI : bMul st (.str x) (.int i) = bMulS st (.str x) (.int i) := rfl
@[simp] theorem mod_II : bMod st (.int i) (.int j) = if 0 < j then some (.int (i % j)) else none := rfl
@[simp] theorem fdiv_II : bFdiv st (.int i) (.int j) = if 0 < j ∧ j < 1073741824 then some (.int (i / j)) else none := rfl
@[simp] theorem pow_II : bPow st (.int i) (.int j) = if 0 ≤ j ∧ j ≤ 1000 ∧ powOk i then some (.int (ipow i j.toNat)) else none := rfl
@[simp] theorem lt_II : bLt st (.int i) (.int j) = some (.bl (decide (i < j))) := rfl
@[simp] theorem le_II : bLe st (.int i) (.int j) = some (.bl (decide (i ≤ j))) := rfl
@[simp] theorem gt_II : bGt st (.int i) (.int j) = some (.bl (decide (j < i))) := rfl
@[simp] theorem ge_II : bGe st (.int i) (.int j) = some (.bl (decide (j ≤ i))) := rfl
@[simp] theorem lt_SS : bLt st (.str x) (.str y) = some (.bl (decide (x.cps.toList < y.cps.toList))) := rfl
@[simp] theorem le_SS : bLe st (.str x) (.str y) = some (.bl (!decide (y.cps.toList < x.cps.toList))) := rfl
@[simp] theorem gt_SS : bGt st (.str x) (.str y) = some (.bl (decide (y.cps.toList < x.cps.toList))) := rfl
@[simp] theorem ge_SS : bGe st (.str x) (.str y) = some (.bl (!decide (x.cps.toList < y.cps.toList))) := rfl
@[simp] theorem one_1 {f : Store → D → Option D} : one f st [d] = f st d := rfl
@[simp] theorem two_2 {f : Store → D → D → Option D} {d' : D} : two f st [d, d'] = f st d d' := rfl
@[simp] theorem int_I : intD st (.int i) = some (.int i) := rfl
@[simp] theorem int_B : intD st (.bl b) = some (.int (if b = true then 1 else 0)) := rfl
@[simp] theorem abs_I : absD st (.int i) = some (.int (if i < 0 then -i else i)) := rfl
@[simp] theorem max_II : max2D st (.int i) (.int j) = some (.int (if j > i then j else i)) := rfl
@[simp] theorem min_II : min2D st (.int i) (.int j) = some (.int (if j < i then j else i)) := rfl
@[simp] theorem rep_B : repB st (.bl b) = some (.str (if b then "True" else "False")) := rfl
@[simp] theorem len_S : lenD st (.str x) = if x.length ≤ 100000 then some (.int x.length) else none := rfl
@[simp] theorem len_T : lenD st (.tup xs) = some (.int xs.length) := rfl
@[simp] theorem len_L : lenD st (.lst xs) = some (.int xs.length) := rfl
@[simp] theorem len_R : lenD st (.rd xs) = some (.int xs.length) := rfl
@[simp] theorem ix_T : ixD st (.tup xs) (.int i) = L2.atI xs i := rfl
@[simp] theorem ix_L : ixD st (.lst xs) (.int i) = L2.atI xs i := rfl
@[simp] theorem ix_R : ixD st (.rd xs) (.int i) = L2.atI xs i := rfl
@[simp] theorem ix_S : ixD st (.str x) (.int i) = if x.length ≤ 100000 then (L2.atI x.cps.toList i).map fun c => .str ⟨#[c]⟩ else none := rfl
theorem ix_O (h : st[n]? = some (.lst xs)) : ixD st (.ob n) (.int i) = L2.atI xs i := by
  show (match seqL st (.ob n) with | some xs => L2.atI xs i | none => none) = _
  unfold seqL
  simp [h]
@[simp] theorem sl_T {lo hi : Option Int} : slD st (.tup xs) lo hi = some (.tup (cutD xs lo hi)) := rfl
@[simp] theorem sl_L {lo hi : Option Int} : slD st (.lst xs) lo hi = some (.lst (cutD xs lo hi)) := rfl
@[simp] theorem sl_S {lo hi : Option Int} : slD st (.str x) lo hi = if x.length ≤ 100000 then some (.str (L2.cutS x lo hi)) else none := rfl
@[simp] theorem all_L : allD st (.lst xs) = (boolsOf xs).map fun bs => .bl (bs.all id) := rfl
@[simp] theorem any_L : anyD st (.lst xs) = (boolsOf xs).map fun bs => .bl (bs.any id) := rfl
@[simp] theorem upper_S : upperD st (.str x) = if x.length ≤ 100000 then some (.str (Txt.upper x)) else none := rfl
theorem bools_map {α : Type} (f : α → Bool) : ∀ l : List α, boolsOf (l.map fun a => D.bl (f a)) = some (l.map f)
  | [] => rfl
  | a :: r => by
    show (boolsOf (r.map fun a => D.bl (f a))).map (f a :: ·) = _
    rw [bools_map f r]
    rfl
end
/-! == -/
section
variable {st : Store} {i j : Int} {x y : Str} {b c : Bool} {xs ys : List D} {d : D}
theorem eqD_of {d e : D} {p q : PyData} (h1 : pyS st d = some p) (h2 : pyS st e = some q) (h : min p.depth q.depth ≤ 60) : eqD st d e = some (PyData.eqv p q) := by
  unfold eqD
  rw [h1, h2]
  exact if_pos h
@[simp] theorem eq_SS : bEq st (.str x) (.str y) = some (.bl (x == y)) := by
  unfold bEq
  rw [eqD_of (p := .str x) (q := .str y) rfl rfl (by simp [PyData.depth])]
  simp [PyData.eqv]
@[simp] theorem eq_II : bEq st (.int i) (.int j) = some (.bl (i == j)) := by
  unfold bEq
  rw [eqD_of (p := .int i) (q := .int j) rfl rfl (by simp [PyData.depth])]
  simp [PyData.eqv]
@[simp] theorem eq_BB : bEq st (.bl b) (.bl c) = some (.bl (b == c)) := by
  unfold bEq
  rw [eqD_of (p := .bool b) (q := .bool c) rfl rfl (by simp [PyData.depth])]
  simp [PyData.eqv]
@[simp] theorem ne_SS : bNe st (.str x) (.str y) = some (.bl (!(x == y))) := by
  unfold bNe
  rw [eqD_of (p := .str x) (q := .str y) rfl rfl (by simp [PyData.depth])]
  simp [PyData.eqv]
@[simp] theorem ne_II : bNe st (.int i) (.int j) = some (.bl (!(i == j))) := by
  unfold bNe
  rw [eqD_of (p := .int i) (q := .int j) rfl rfl (by simp [PyData.depth])]
  simp [PyData.eqv]
@[simp] theorem ne_BB : bNe st (.bl b) (.bl c) = some (.bl (!(b == c))) := by
  unfold bNe
  rw [eqD_of (p := .bool b) (q := .bool c) rfl rfl (by simp [PyData.depth])]
  simp [PyData.eqv]
/-- xs == [] -/
theorem eq_L0 {ps : List PyData} (h : py0L xs = some ps) : bEq st (.lst xs) (.lst []) = some (.bl xs.isEmpty) := by
  unfold bEq
  rw [eqD_of (p := .list ps) (q := .list []) (by simp [pyS, seqL, h]) rfl (by simp [PyData.depth, PyData.depthAll])]
  cases xs with
  | nil => cases h; rfl
  | cons a r =>
    unfold py0L at h
    split at h
    · cases h
      simp [PyData.eqv, PyData.eqvAll]
    · cases h
theorem py_strs : ∀ l : List Str, py0L (l.map .str) = some (l.map .str)
  | [] => rfl
  | a :: r => by
    show (match py0 (.str a), py0L (r.map .str) with | some a, some as => some (a :: as) | _, _ => none) = _
    rw [py_strs r]
    rfl
end
/-! comprehensions whose turns keep the store -/
theorem lcL_pure {u : GF} {t : TF} {fe : EF} {ρ : Sl} {st : Store} (p : D → Bool) (g : D → D) : ∀ (xs acc : List D), acc.length + xs.length ≤ 100000 →
    (∀ x ∈ xs, ∃ ρ1, u x ρ st = some (ρ1, st) ∧ t ρ1 st = .ok (p x) st ∧ (p x = true → fe ρ1 st = .ok (g x) st)) → lcL u t fe ρ xs acc st = .ok (.lst (acc ++ (xs.filter p).map g)) st
  | [], acc, _, _ => by simp [lcL]
  | x :: xs, acc, hl, h => by
    have hl' : acc.length + (xs.length + 1) ≤ 100000 := hl
    obtain ⟨ρ1, h1, h2, h3⟩ := h x (by simp)
    have ih := fun acc' (q : acc'.length + xs.length ≤ 100000) => lcL_pure p g xs acc' q fun y hy => h y (List.mem_cons_of_mem _ hy)
    unfold lcL
    rw [h1]
    dsimp only
    rw [h2]
    cases hp : p x with
    | true =>
      dsimp only
      rw [h3 hp]
      dsimp only
      rw [if_pos (by omega), ih _ (by simp; omega)]
      simp [hp]
    | false =>
      dsimp only
      rw [ih _ (by omega)]
      simp [hp]
/-- .. whose turns keep a word of the store -/
theorem lcL_inv {u : GF} {fe : EF} {ρ : Sl} (Inv : Store → Prop) (Q : D → Prop) : ∀ (xs acc : List D) (st : Store), acc.length + xs.length ≤ 100000 → Inv st →
    (∀ x ∈ xs, ∀ st, Inv st → ∃ ρ1 d st', u x ρ st = some (ρ1, st) ∧ fe ρ1 st = .ok d st' ∧ Inv st' ∧ Q d) →
    ∃ ds st', lcL u tYesF fe ρ xs acc st = .ok (.lst (acc ++ ds)) st' ∧ Inv st' ∧ (∀ d ∈ ds, Q d) ∧ ds.length = xs.length
  | [], acc, st, _, hi, _ => ⟨[], st, by simp [lcL], hi, fun d h => by simp at h, rfl⟩
  | x :: xs, acc, st, hl, hi, h => by
    have hl' : acc.length + (xs.length + 1) ≤ 100000 := hl
    obtain ⟨ρ1, d, st', h1, h2, h3, h4⟩ := h x (by simp) st hi
    obtain ⟨ds, st2, e, i2, q, l⟩ := lcL_inv Inv Q xs (acc ++ [d]) st' (by simp; omega) h3 fun y hy => h y (List.mem_cons_of_mem _ hy)
    refine ⟨d :: ds, st2, ?_, i2, fun z hz => ?_, by simp [l]⟩
    · unfold lcL
      rw [h1]
      dsimp only [ap_yes]
      rw [h2]
      dsimp only
      rw [if_pos (by omega), e]
      simp
    · rcases List.mem_cons.mp hz with rfl | hz
      · exact h4
      · exact q z hz
/-- a for whose turns keep a word and go on -/
theorem forL_inv {u : GF} {f : SF} (Inv : Sl → Store → Prop) : ∀ (xs : List D) (ρ : Sl) (st : Store), Inv ρ st →
    (∀ x ∈ xs, ∀ ρ st, Inv ρ st → ∃ ρ1 st1 ρ2 st2, u x ρ st = some (ρ1, st1) ∧ (f ρ1 st1 = .nx ρ2 st2 ∨ f ρ1 st1 = .ct ρ2 st2) ∧ Inv ρ2 st2) → ∃ ρ' st', sForL u f xs ρ st = .nx ρ' st' ∧ Inv ρ' st'
  | [], ρ, st, hi, _ => ⟨ρ, st, rfl, hi⟩
  | x :: xs, ρ, st, hi, h => by
    obtain ⟨ρ1, st1, ρ2, st2, h1, h2, h3⟩ := h x (by simp) ρ st hi
    obtain ⟨ρ', st', e, q⟩ := forL_inv Inv xs ρ2 st2 h3 fun y hy => h y (List.mem_cons_of_mem _ hy)
    refine ⟨ρ', st', ?_, q⟩
    rw [forL_cons, h1]
    dsimp only
    rcases h2 with h2 | h2 <;> rw [h2] <;> exact e
theorem run_asg {fe : EF} {i : Nat} {g : SF} {ρ : Sl} {st st1 : Store} {d : D} (h : fe ρ st = .ok d st1) : sSeq (sAsg fe (gSet i)) g ρ st = g (ρ.set i (some d)) st1 := by
  rw [ap_seq, ap_asg, h]
  rfl
theorem run_ret {fe : EF} {ρ : Sl} {st st1 : Store} {d : D} (h : fe ρ st = .ok d st1) : sRet fe ρ st = .rt d st1 := by
  rw [ap_ret, h]
  rfl
theorem run_for {it : AF} {u : GF} {f g : SF} {ρ ρ' : Sl} {st st1 st' : Store} {xs : List D} (h : it ρ st = .ok xs st1) (h2 : sForL u f xs ρ st1 = .nx ρ' st') : sSeq (sFor it u f) g ρ st = g ρ' st' := by
  rw [ap_seq, ap_for, h]
  show (sForL u f xs ρ st1).bind g = _
  rw [h2]
  rfl
theorem run_if_f {t : TF} {f g h : SF} {ρ : Sl} {st st1 : Store} (e : t ρ st = .ok false st1) : sSeq (sIf t f g) h ρ st = sSeq g h ρ st1 := by
  rw [ap_seq, ap_sif, e, ap_seq]
  rfl
theorem run_if_t {t : TF} {f g h : SF} {ρ : Sl} {st st1 : Store} (e : t ρ st = .ok true st1) : sSeq (sIf t f g) h ρ st = sSeq f h ρ st1 := by
  rw [ap_seq, ap_sif, e, ap_seq]
  rfl
/-- without a test, the element of any kind -/
theorem lcL_map {α : Type} {u : GF} {fe : EF} {ρ : Sl} {st : Store} (e : α → D) (g : α → D) : ∀ (xs : List α) (acc : List D), acc.length + xs.length ≤ 100000 →
    (∀ x ∈ xs, ∃ ρ1, u (e x) ρ st = some (ρ1, st) ∧ fe ρ1 st = .ok (g x) st) → lcL u tYesF fe ρ (xs.map e) acc st = .ok (.lst (acc ++ xs.map g)) st
  | [], acc, _, _ => by simp [lcL]
  | x :: xs, acc, hl, h => by
    have hl' : acc.length + (xs.length + 1) ≤ 100000 := hl
    obtain ⟨ρ1, h1, h2⟩ := h x (by simp)
    show lcL u tYesF fe ρ (e x :: xs.map e) acc st = _
    unfold lcL
    rw [h1]
    dsimp only [ap_yes]
    rw [h2]
    dsimp only
    rw [if_pos (by omega), lcL_map e g xs _ (by simp; omega) fun y hy => h y (List.mem_cons_of_mem _ hy)]
    simp
theorem lcL_filt {α : Type} {u : GF} {t : TF} {fe : EF} {ρ : Sl} {st : Store} (e : α → D) (p : α → Bool) (g : α → D) : ∀ (xs : List α) (acc : List D), acc.length + xs.length ≤ 100000 →
    (∀ x ∈ xs, ∃ ρ1, u (e x) ρ st = some (ρ1, st) ∧ t ρ1 st = .ok (p x) st ∧ (p x = true → fe ρ1 st = .ok (g x) st)) → lcL u t fe ρ (xs.map e) acc st = .ok (.lst (acc ++ (xs.filter p).map g)) st
  | [], acc, _, _ => by simp [lcL]
  | x :: xs, acc, hl, h => by
    have hl' : acc.length + (xs.length + 1) ≤ 100000 := hl
    obtain ⟨ρ1, h1, h2, h3⟩ := h x (by simp)
    have ih := fun acc' (q : acc'.length + xs.length ≤ 100000) => lcL_filt e p g xs acc' q fun y hy => h y (List.mem_cons_of_mem _ hy)
    show lcL u t fe ρ (e x :: xs.map e) acc st = _
    unfold lcL
    rw [h1]
    dsimp only
    rw [h2]
    cases hp : p x with
    | true =>
      dsimp only
      rw [h3 hp]
      dsimp only
      rw [if_pos (by omega), ih _ (by simp; omega)]
      simp [hp]
    | false =>
      dsimp only
      rw [ih _ (by omega)]
      simp [hp]
end DX

namespace DXP
open PySem PySem.Spec PyProof.Rows L2 DX
/-- is_name(value); slots: 0 value, 1 letter -/
def t_is_name_1 : TF := (tOrF (tNotF (tV (eIs .str (eVar 0)))) (tNotF (tV (eChain bLe bLe (eC (.int 1)) (aCall (one lenD) (aCons (eVar 0) aNil)) (eC (.int 8))))))
def x_is_name_2 : EF := (aCall (one allD) (aCons (lcF (itAny (eVar 0)) (gSet 1) tYesF (eChain bLe bLe (eC (.str "a")) (eVar 1) (eC (.str "z"))) [1]) aNil))
def b_is_name : SF := (sSeq (sIf t_is_name_1 (sRet (eC (.bl false))) sNx)
  (sRet x_is_name_2))
def F_is_name : FF := fDef 2 b_is_name
/-- _law_well(_law_script, _law_spot); slots: 0 _law_script, 1 _law_spot, 2 _law_cell, 3 _law_great, 4 _law_seed -/
def x__law_well_1 : EF := (eIf (tV (eOp bLt (eVar 1) (aCall (one lenD) (aCons (eVar 0) aNil)))) (eOp ixD (eVar 0) (eVar 1)) (eOp bAdd (eOp bMul (eC (.int 71)) (eVar 1)) (eC (.int 37))))
def x__law_well_2 : EF := (eOp bMod (aCall (one intD) (aCons (aCall (one absD) (aCons (eVar 2) aNil)) aNil)) (eOp bPow (eOp bPow (eC (.int 10)) (eC (.int 59))) (eC (.int 10))))
def x__law_well_3 : EF := (eOp bMod (aCall (one intD) (aCons (eOp bAdd (eOp bAdd (eOp bAdd (eOp bMul (eVar 3) (eC (.int 1000253))) (eOp bMul (eC (.int 8969)) (eVar 1))) (eOp bMul (eC (.int 47)) (aCall (one intD) (aCons (eOp bLt (eVar 2) (eC (.int 0))) aNil)))) (eC (.int 19))) aNil)) (eC (.int 1152921504606846803)))
def x__law_well_4 : EF := (eLstM (aCons (aCall (two max2D) (aCons (eC (.int 0)) (aCons (eOp bSub (eVar 3) (eOp bPow (eC (.int 10)) (eC (.int 15)))) aNil))) (aCons (eVar 4) (aCons (eC (.int 0)) aNil))))
def b__law_well : SF := (sSeq (sAsg x__law_well_1 (gSet 2))
  (sSeq (sAsg x__law_well_2 (gSet 3))
  (sSeq (sAsg x__law_well_3 (gSet 4))
  (sRet x__law_well_4))))
def F__law_well : FF := fDef 5 b__law_well
/-- _law_dip(_law_well_here, _law_size); slots: 0 _law_well_here, 1 _law_size, 2 _law_found, 3 _law_one, 4 _law_two -/
def t__law_dip_1 : TF := (tV (eOp bGt (eOp ixD (eVar 0) (eC (.int 0))) (eC (.int 0))))
def x__law_dip_2 : EF := (eOp bMod (aCall (one intD) (aCons (eOp ixD (eVar 0) (eC (.int 0))) aNil)) (eVar 1))
def x__law_dip_3 : EF := (eOp bFdiv (eOp ixD (eVar 0) (eC (.int 0))) (eVar 1))
def y__law_dip_4 : SF := (sSeq (sAsg x__law_dip_2 (gSet 2))
  (sSeq (sAsg x__law_dip_3 (gSub (eVar 0) (eC (.int 0))))
  (sRet (eVar 2))))
def x__law_dip_5 : EF := (eOp bAdd (eOp ixD (eVar 0) (eC (.int 2))) (eC (.int 1)))
def x__law_dip_6 : EF := (eOp bMod (aCall (one intD) (aCons (eOp bAdd (eOp ixD (eVar 0) (eC (.int 1))) (eOp bMul (eC (.int 776531401)) (eOp ixD (eVar 0) (eC (.int 2))))) aNil)) (eC (.int 2305843009213693867)))
def x__law_dip_7 : EF := (eOp bAdd (eOp bMul (eOp bMod (aCall (one intD) (aCons (eOp bMul (eVar 3) (eVar 3)) aNil)) (eC (.int 1000000000000037))) (eVar 3)) (eOp bMul (eC (.int 7351)) (eOp ixD (eVar 0) (eC (.int 2)))))
def x__law_dip_8 : EF := (eOp bMod (aCall (one intD) (aCons (eOp bFdiv (eOp bMod (aCall (one intD) (aCons (eOp bAdd (eVar 4) (eOp ixD (eVar 0) (eC (.int 1)))) aNil)) (eC (.int 4398046510993))) (eC (.int 32))) aNil)) (eVar 1))
def b__law_dip : SF := (sSeq (sIf t__law_dip_1 y__law_dip_4 sNx)
  (sSeq (sAsg x__law_dip_5 (gSub (eVar 0) (eC (.int 2))))
  (sSeq (sAsg x__law_dip_6 (gSet 3))
  (sSeq (sAsg x__law_dip_7 (gSet 4))
  (sRet x__law_dip_8)))))
def F__law_dip : FF := fDef 5 b__law_dip
/-- _law_choose(_law_well_here, _law_items); slots: 0 _law_well_here, 1 _law_items -/
def x__law_choose_1 : EF := (eOp ixD (eVar 1) (eCall 2 F__law_dip (aCons (eVar 0) (aCons (aCall (one lenD) (aCons (eVar 1) aNil)) aNil))))
def b__law_choose : SF := (sRet x__law_choose_1)
def F__law_choose : FF := fDef 2 b__law_choose
/-- _law_is_word(_law_value); slots: 0 _law_value, 1 _law_sign -/
def t__law_is_word_1 : TF := (tOrF (tNotF (tV (eIs .str (eVar 0)))) (tOrF (tV (eOp bEq (eVar 0) (eC (.str "")))) (tV (eOp bGt (aCall (one lenD) (aCons (eVar 0) aNil)) (eC (.int 8))))))
def x__law_is_word_2 : EF := (eOp bEq (lcF (itAny (eVar 0)) (gSet 1) (tNotF (tV (eChain bLe bLe (eC (.str "a")) (eVar 1) (eC (.str "z"))))) (eVar 1) [1]) (eLst aNil))
def b__law_is_word : SF := (sSeq (sIf t__law_is_word_1 (sRet (eC (.bl false))) sNx)
  (sRet x__law_is_word_2))
def F__law_is_word : FF := fDef 2 b__law_is_word
/-- _law_right(_law_well_here); slots: 0 _law_well_here, 1 _law_signs, 2 _law_word, 3 _law_turn, 4 _law_at, 5 _law_odd, 6 _law_some, 7 _law_value -/
def x__law_right_1 : EF := (eC (.str "abcdefghijklmnopqrstuvwxyz"))
def x__law_right_2 : EF := (eJoin (eC (.str "")) (lcF (itRange1 (eCall 2 F__law_dip (aCons (eVar 0) (aCons (eC (.int 10)) aNil)))) (gSet 3) tYesF (eCall 2 F__law_choose (aCons (eVar 0) (aCons (eVar 1) aNil))) [3]))
def x__law_right_3 : EF := (eCall 2 F__law_dip (aCons (eVar 0) (aCons (eOp bAdd (aCall (one lenD) (aCons (eVar 2) aNil)) (eC (.int 1))) aNil)))
def x__law_right_4 : EF := (eCall 2 F__law_choose (aCons (eVar 0) (aCons (eLst (aCons (eC (.str "B")) (aCons (eC (.str " ")) (aCons (eC (.str "0")) (aCons (eC (.str "_")) (aCons (eC (.str "-")) (aCons (eC (.str "\n")) (aCons (eC (.str "z")) (aCons (eC (.str "aa")) (aCons (eC (.str "")) (aCons (eC (.str ".")) (aCons (eC (.str "{")) (aCons (eC (.str "`")) aNil))))))))))))) aNil)))
def x__law_right_5 : EF := (eLst (aCons (eVar 2) (aCons (eOp bAdd (eOp bAdd (eSl (eVar 2) pNo (pAt (eVar 4))) (eVar 5)) (eSl (eVar 2) (pAt (eVar 4)) pNo)) (aCons (eSl (eVar 2) (pAt (eVar 4)) pNo) (aCons (eUn upperD (eVar 2)) (aCons (eOp bAdd (eVar 2) (eVar 2)) (aCons (eLst (aCons (eVar 2) aNil)) (aCons (eTup (aCons (eVar 2) aNil)) (aCons (eD1 (eVar 2) (eC (.int 1))) aNil)))))))))
def x__law_right_6 : EF := (eOp bAdd (eVar 6) (eLst (aCons (eC .non) (aCons (eC (.int 0)) (aCons (eC (.bl true)) (aCons (eOp bPow (eC (.int 10)) (eC (.int 39))) (aCons (eTup aNil) (aCons (eOp bMul (eVar 2) (eC (.int 3))) (aCons (eSl (eVar 2) pNo (pAt (eC (.int 8)))) (aCons (eC (.str "abcdefgh")) (aCons (eC (.str "abcdefghi")) aNil)))))))))))
def x__law_right_7 : EF := (eOp bEq (lcF (itAny (eVar 6)) (gSet 7) (tV (eOp bNe (aCall (one repB) (aCons (eCall 1 F_is_name (aCons (eVar 7) aNil)) aNil)) (aCall (one repB) (aCons (eCall 1 F__law_is_word (aCons (eVar 7) aNil)) aNil)))) (eVar 7) [7]) (eLst aNil))
def b__law_right : SF := (sSeq (sAsg x__law_right_1 (gSet 1))
  (sSeq (sAsg x__law_right_2 (gSet 2))
  (sSeq (sAsg x__law_right_3 (gSet 4))
  (sSeq (sAsg x__law_right_4 (gSet 5))
  (sSeq (sAsg x__law_right_5 (gSet 6))
  (sSeq (sAsg x__law_right_6 (gSet 6))
  (sRet x__law_right_7)))))))
def F__law_right : FF := fDef 8 b__law_right
/-- law(_law_script); slots: 0 _law_script, 1 _law_spot, 2 _law_well_here, 3 _law_turn, 4 _law_told, 5 _law_word -/
def x_law_1 : EF := (eCall 2 F__law_well (aCons (eVar 0) (aCons (eVar 1) aNil)))
def t_law_2 : TF := (tNotF (tV (eCall 1 F__law_right (aCons (eVar 2) aNil))))
def l_law_3 : SF := (sIf t_law_2 (sRet (eC (.bl false))) sNx)
def i_law_4 : AF := (itRange1 (aCall (two max2D) (aCons (eC (.int 1)) (aCons (aCall (two min2D) (aCons (eC (.int 8)) (aCons (aCall (one lenD) (aCons (eVar 0) aNil)) aNil))) aNil))))
def l_law_5 : SF := (sSeq (sAsg x_law_1 (gSet 2))
  (sFor (itRange1 (eC (.int 5))) (gSet 3) l_law_3))
def x_law_6 : EF := (lcF (itAny (eTup (aCons (eC (.str "a")) (aCons (eC (.str "on")) (aCons (eC (.str "zzzzzzzz")) (aCons (eC (.str "aaaaaaaaa")) (aCons (eC (.str "")) (aCons (eC (.str "Raise")) (aCons (eC (.str "a1")) (aCons (eC (.str "leave")) aNil)))))))))) (gSet 5) tYesF (eCall 1 F_is_name (aCons (eVar 5) aNil)) [5])
def x_law_7 : EF := (eOp bEq (eVar 4) (eLst (aCons (eC (.bl true)) (aCons (eC (.bl true)) (aCons (eC (.bl true)) (aCons (eC (.bl false)) (aCons (eC (.bl false)) (aCons (eC (.bl false)) (aCons (eC (.bl false)) (aCons (eC (.bl true)) aNil))))))))))
def b_law : SF := (sSeq (sFor i_law_4 (gSet 1) l_law_5)
  (sSeq (sAsg x_law_6 (gSet 4))
  (sRet x_law_7)))
def F_law : FF := fDef 6 b_law
end DXP

set_option maxHeartbeats 4000000
namespace DXP
open PySem PySem.Spec PyProof.Rows L2 DX
def topS (i : Nat) : Stmt := PySem.Challenge.pw_answeredabove_k01_names.main.body.getD i (.Pass ⟨0, 0, 0, 0⟩)
structure Txt (mg : Str → Option Value) : Prop where
  n_abs : mg "abs" = none
  n_all : mg "all" = none
  n_int : mg "int" = none
  n_isinstance : mg "isinstance" = none
  n_len : mg "len" = none
  n_max : mg "max" = none
  n_min : mg "min" = none
  n_range : mg "range" = none
  n_repr : mg "repr" = none
  n_str : mg "str" = none
  g_LONGEST_NAME : ∃ t, mg "LONGEST_NAME" = some (.int 8 t)
section
variable {P : Program} {w : World} {K : PySem.W.Frag} {mg : Str → Option Value} {base : Heap}
abbrev s_is_name : Stmt := topS 2
theorem sc_is_name : FnScope ["value", "letter"] ["value"] (defScope s_is_name) := ⟨rfl, rfl, rfl, by decide +kernel, rfl, by decide +kernel, by decide +kernel⟩
theorem fn_is_name {f : Addr} {fd : FuncData} (F : Fun K "is_name" "is_name" s_is_name f fd) (T : Txt mg)  : FnOk P w K mg base (L2.CX P w) 1 f fd ["value"] (spOf K mg 1 F_is_name) :=
  def_fn F sc_is_name fun cdv A outer s H E c =>
    (sss_cons (ss_if (st_w (sw_or (st_not (st_val (se_is .str rfl (by rfl) T.n_isinstance (by rfl) T.n_str bb_str (se_var 0)))) (sw_or1 (st_not (st_chain opd_le opd_le se_int (se_callB calld_len (by rfl) T.n_len bb_len (sa_cons (se_var 0) sa_nil)) (se_gI (by rfl) T.g_LONGEST_NAME)))))) (sss_one (ss_ret se_bl)) sss_nil)
    (sss_one (ss_ret (se_callB (calld_all c.toCtx.calm) (by rfl) T.n_all bb_all (sa_cons (se_lc (own := [("letter", 1)]) c.toCtx.calm c.toCtx.nd (si_any (se_var 0)) (blkOk_by (N := ["value", "letter"]) (sc := defScope s_is_name) (by decide +kernel)) (fun _ _ _ _ _ => (sg_name (i := 1) (c.toCtx.blk _ _ _ _ _).nd)) (fun _ _ _ _ _ => sif_nil) (fun _ _ _ _ _ => (se_chain opd_le opd_le se_str (se_var 1) se_str))) sa_nil)))))
abbrev s__law_well : Stmt := topS 4
theorem sc__law_well : FnScope ["_law_script", "_law_spot", "_law_cell", "_law_great", "_law_seed"] ["_law_script", "_law_spot"] (defScope s__law_well) := ⟨rfl, rfl, rfl, by decide +kernel, rfl, by decide +kernel, by decide +kernel⟩
theorem fn__law_well {f : Addr} {fd : FuncData} (F : Fun K "_law_well" "_law_well" s__law_well f fd) (T : Txt mg)  : FnOk P w K mg base (L2.CX P w) 1 f fd ["_law_script", "_law_spot"] (spOf K mg 2 F__law_well) :=
  def_fn F sc__law_well fun cdv A outer s H E c =>
    (sss_cons (ss_set (i := 2) c.toCtx.nd (se_if (st_cmp opd_lt (se_var 1) (se_callB calld_len (by rfl) T.n_len bb_len (sa_cons (se_var 0) sa_nil))) (se_ix (se_var 0) (se_var 1)) (se_op opd_add (se_op opd_mul se_int (se_var 1)) se_int)))
    (sss_cons (ss_set (i := 3) c.toCtx.nd (se_op opd_mod (se_callTy calld_int (by rfl) T.n_int bb_int (sa_cons (se_callB calld_abs (by rfl) T.n_abs bb_abs (sa_cons (se_var 2) sa_nil)) sa_nil)) (se_op opd_pow (se_op opd_pow se_int se_int) se_int)))
    (sss_cons (ss_set (i := 4) c.toCtx.nd (se_op opd_mod (se_callTy calld_int (by rfl) T.n_int bb_int (sa_cons (se_op opd_add (se_op opd_add (se_op opd_add (se_op opd_mul (se_var 3) se_int) (se_op opd_mul se_int (se_var 1))) (se_op opd_mul se_int (se_callTy calld_int (by rfl) T.n_int bb_int (sa_cons (se_cmp opd_lt (se_var 2) se_int) sa_nil)))) se_int) sa_nil)) se_int))
    (sss_one (ss_ret (se_lstM (sa_cons (se_callB (calld_max2 c.toCtx.calm) (by rfl) T.n_max bb_max (sa_cons se_int (sa_cons (se_op opd_sub (se_var 3) (se_op opd_pow se_int se_int)) sa_nil))) (sa_cons (se_var 4) (sa_cons se_int sa_nil)))))))))
abbrev s__law_dip : Stmt := topS 5
theorem sc__law_dip : FnScope ["_law_well_here", "_law_size", "_law_found", "_law_one", "_law_two"] ["_law_well_here", "_law_size"] (defScope s__law_dip) := ⟨rfl, rfl, rfl, by decide +kernel, rfl, by decide +kernel, by decide +kernel⟩
theorem fn__law_dip {f : Addr} {fd : FuncData} (F : Fun K "_law_dip" "_law_dip" s__law_dip f fd) (T : Txt mg)  : FnOk P w K mg base (L2.CX P w) 1 f fd ["_law_well_here", "_law_size"] (spOf K mg 2 F__law_dip) :=
  def_fn F sc__law_dip fun cdv A outer s H E c =>
    (sss_cons (ss_if (st_cmp opd_gt (se_ix (se_var 0) se_int) se_int) (sss_cons (ss_set (i := 2) c.toCtx.nd (se_op opd_mod (se_callTy calld_int (by rfl) T.n_int bb_int (sa_cons (se_ix (se_var 0) se_int) sa_nil)) (se_var 1)))
    (sss_cons (ss_asg (se_op opd_fdiv (se_ix (se_var 0) se_int) (se_var 1)) (sg_sub (se_var 0) se_int))
    (sss_one (ss_ret (se_var 2))))) sss_nil)
    (sss_cons (ss_asg (se_op opd_add (se_ix (se_var 0) se_int) se_int) (sg_sub (se_var 0) se_int))
    (sss_cons (ss_set (i := 3) c.toCtx.nd (se_op opd_mod (se_callTy calld_int (by rfl) T.n_int bb_int (sa_cons (se_op opd_add (se_ix (se_var 0) se_int) (se_op opd_mul se_int (se_ix (se_var 0) se_int))) sa_nil)) se_int))
    (sss_cons (ss_set (i := 4) c.toCtx.nd (se_op opd_add (se_op opd_mul (se_op opd_mod (se_callTy calld_int (by rfl) T.n_int bb_int (sa_cons (se_op opd_mul (se_var 3) (se_var 3)) sa_nil)) se_int) (se_var 3)) (se_op opd_mul se_int (se_ix (se_var 0) se_int))))
    (sss_one (ss_ret (se_op opd_mod (se_callTy calld_int (by rfl) T.n_int bb_int (sa_cons (se_op opd_fdiv (se_op opd_mod (se_callTy calld_int (by rfl) T.n_int bb_int (sa_cons (se_op opd_add (se_var 4) (se_ix (se_var 0) se_int)) sa_nil)) se_int) se_int) sa_nil)) (se_var 1))))))))
abbrev s__law_choose : Stmt := topS 6
theorem sc__law_choose : FnScope ["_law_well_here", "_law_items"] ["_law_well_here", "_law_items"] (defScope s__law_choose) := ⟨rfl, rfl, rfl, by decide +kernel, rfl, by decide +kernel, by decide +kernel⟩
theorem fn__law_choose {f : Addr} {fd : FuncData} (F : Fun K "_law_choose" "_law_choose" s__law_choose f fd) (T : Txt mg) (d__law_dip : DefOk P w K mg base 1 "_law_dip" ["_law_well_here", "_law_size"] F__law_dip) : FnOk P w K mg base (L2.CX P w) 2 f fd ["_law_well_here", "_law_items"] (spOf K mg 2 F__law_choose) :=
  def_fn F sc__law_choose fun cdv A outer s H E c =>
    (sss_one (ss_ret (se_ix (se_var 1) (se_call d__law_dip c.toCtx (by rfl) (sa_cons (se_var 0) (sa_cons (se_callB calld_len (by rfl) T.n_len bb_len (sa_cons (se_var 1) sa_nil)) sa_nil))))))
abbrev s__law_is_word : Stmt := topS 7
theorem sc__law_is_word : FnScope ["_law_value", "_law_sign"] ["_law_value"] (defScope s__law_is_word) := ⟨rfl, rfl, rfl, by decide +kernel, rfl, by decide +kernel, by decide +kernel⟩
theorem fn__law_is_word {f : Addr} {fd : FuncData} (F : Fun K "_law_is_word" "_law_is_word" s__law_is_word f fd) (T : Txt mg)  : FnOk P w K mg base (L2.CX P w) 1 f fd ["_law_value"] (spOf K mg 1 F__law_is_word) :=
  def_fn F sc__law_is_word fun cdv A outer s H E c =>
    (sss_cons (ss_if (st_w (sw_or (st_not (st_val (se_is .str rfl (by rfl) T.n_isinstance (by rfl) T.n_str bb_str (se_var 0)))) (sw_or (st_cmp (opd_eq c.toCtx.hu) (se_var 0) se_str) (sw_or1 (st_cmp opd_gt (se_callB calld_len (by rfl) T.n_len bb_len (sa_cons (se_var 0) sa_nil)) se_int))))) (sss_one (ss_ret se_bl)) sss_nil)
    (sss_one (ss_ret (se_cmp (opd_eq c.toCtx.hu) (se_lc (own := [("_law_sign", 1)]) c.toCtx.calm c.toCtx.nd (si_any (se_var 0)) (blkOk_by (N := ["_law_value", "_law_sign"]) (sc := defScope s__law_is_word) (by decide +kernel)) (fun _ _ _ _ _ => (sg_name (i := 1) (c.toCtx.blk _ _ _ _ _).nd)) (fun _ _ _ _ _ => (sif_one (st_not (st_chain opd_le opd_le se_str (se_var 1) se_str)))) (fun _ _ _ _ _ => (se_var 1))) (se_lst sa_nil)))))
abbrev s__law_right : Stmt := topS 8
theorem sc__law_right : FnScope ["_law_well_here", "_law_signs", "_law_word", "_law_turn", "_law_at", "_law_odd", "_law_some", "_law_value"] ["_law_well_here"] (defScope s__law_right) := ⟨rfl, rfl, rfl, by decide +kernel, rfl, by decide +kernel, by decide +kernel⟩
theorem fn__law_right {f : Addr} {fd : FuncData} (F : Fun K "_law_right" "_law_right" s__law_right f fd) (T : Txt mg) (d__law_choose : DefOk P w K mg base 2 "_law_choose" ["_law_well_here", "_law_items"] F__law_choose) (d__law_dip : DefOk P w K mg base 1 "_law_dip" ["_law_well_here", "_law_size"] F__law_dip) (d__law_is_word : DefOk P w K mg base 1 "_law_is_word" ["_law_value"] F__law_is_word) (d_is_name : DefOk P w K mg base 1 "is_name" ["value"] F_is_name) : FnOk P w K mg base (L2.CX P w) 3 f fd ["_law_well_here"] (spOf K mg 1 F__law_right) :=
  def_fn F sc__law_right fun cdv A outer s H E c =>
    (sss_cons (ss_set (i := 1) c.toCtx.nd se_str)
    (sss_cons (ss_set (i := 2) c.toCtx.nd (se_join se_str (se_lc (own := [("_law_turn", 3)]) c.toCtx.calm c.toCtx.nd (si_range1 (by rfl) T.n_range (se_call d__law_dip c.toCtx (by rfl) (sa_cons (se_var 0) (sa_cons se_int sa_nil)))) (blkOk_by (N := ["_law_well_here", "_law_signs", "_law_word", "_law_turn", "_law_at", "_law_odd", "_law_some", "_law_value"]) (sc := defScope s__law_right) (by decide +kernel)) (fun _ _ _ _ _ => (sg_name (i := 3) (c.toCtx.blk _ _ _ _ _).nd)) (fun _ _ _ _ _ => sif_nil) (fun _ _ _ _ _ => (se_call d__law_choose (c.toCtx.blk _ _ _ _ _) (by rfl) (sa_cons (se_var 0) (sa_cons (se_var 1) sa_nil)))))))
    (sss_cons (ss_set (i := 4) c.toCtx.nd (se_call d__law_dip c.toCtx (by rfl) (sa_cons (se_var 0) (sa_cons (se_op opd_add (se_callB calld_len (by rfl) T.n_len bb_len (sa_cons (se_var 2) sa_nil)) se_int) sa_nil))))
    (sss_cons (ss_set (i := 5) c.toCtx.nd (se_call d__law_choose c.toCtx (by rfl) (sa_cons (se_var 0) (sa_cons (se_lst (sa_cons se_str (sa_cons se_str (sa_cons se_str (sa_cons se_str (sa_cons se_str (sa_cons se_str (sa_cons se_str (sa_cons se_str (sa_cons se_str (sa_cons se_str (sa_cons se_str (sa_cons se_str sa_nil))))))))))))) sa_nil))))
    (sss_cons (ss_set (i := 6) c.toCtx.nd (se_lst (sa_cons (se_var 2) (sa_cons (se_op opd_add (se_op opd_add (se_sl (se_var 2) sp_none (sp_some (se_var 4))) (se_var 5)) (se_sl (se_var 2) (sp_some (se_var 4)) sp_none)) (sa_cons (se_sl (se_var 2) (sp_some (se_var 4)) sp_none) (sa_cons (se_upper (se_var 2)) (sa_cons (se_op opd_add (se_var 2) (se_var 2)) (sa_cons (se_lst (sa_cons (se_var 2) sa_nil)) (sa_cons (se_tup (sa_cons (se_var 2) sa_nil)) (sa_cons (se_d1 (se_var 2) se_int) sa_nil))))))))))
    (sss_cons (ss_set (i := 6) c.toCtx.nd (se_op opd_add (se_var 6) (se_lst (sa_cons se_non (sa_cons se_int (sa_cons se_bl (sa_cons (se_op opd_pow se_int se_int) (sa_cons (se_tup sa_nil) (sa_cons (se_op opd_mul (se_var 2) se_int) (sa_cons (se_sl (se_var 2) sp_none (sp_some se_int)) (sa_cons se_str (sa_cons se_str sa_nil))))))))))))
    (sss_one (ss_ret (se_cmp (opd_eq c.toCtx.hu) (se_lc (own := [("_law_value", 7)]) c.toCtx.calm c.toCtx.nd (si_any (se_var 6)) (blkOk_by (N := ["_law_well_here", "_law_signs", "_law_word", "_law_turn", "_law_at", "_law_odd", "_law_some", "_law_value"]) (sc := defScope s__law_right) (by decide +kernel)) (fun _ _ _ _ _ => (sg_name (i := 7) (c.toCtx.blk _ _ _ _ _).nd)) (fun _ _ _ _ _ => (sif_one (st_cmp (opd_ne (c.toCtx.blk _ _ _ _ _).hu) (se_callB calld_repB (by rfl) T.n_repr bb_repr (sa_cons (se_call d_is_name (c.toCtx.blk _ _ _ _ _) (by rfl) (sa_cons (se_var 7) sa_nil)) sa_nil)) (se_callB calld_repB (by rfl) T.n_repr bb_repr (sa_cons (se_call d__law_is_word (c.toCtx.blk _ _ _ _ _) (by rfl) (sa_cons (se_var 7) sa_nil)) sa_nil))))) (fun _ _ _ _ _ => (se_var 7))) (se_lst sa_nil))))))))))
abbrev s_law : Stmt := topS 9
theorem sc_law : FnScope ["_law_script", "_law_spot", "_law_well_here", "_law_turn", "_law_told", "_law_word"] ["_law_script"] (defScope s_law) := ⟨rfl, rfl, rfl, by decide +kernel, rfl, by decide +kernel, by decide +kernel⟩
theorem fn_law {f : Addr} {fd : FuncData} (F : Fun K "law" "law" s_law f fd) (T : Txt mg) (d__law_right : DefOk P w K mg base 3 "_law_right" ["_law_well_here"] F__law_right) (d__law_well : DefOk P w K mg base 1 "_law_well" ["_law_script", "_law_spot"] F__law_well) (d_is_name : DefOk P w K mg base 1 "is_name" ["value"] F_is_name) : FnOk P w K mg base (L2.CX P w) 4 f fd ["_law_script"] (spOf K mg 1 F_law) :=
  def_fn F sc_law fun cdv A outer s H E c =>
    (sss_cons (ss_for c (si_range1 (by rfl) T.n_range (se_callB (calld_max2 c.toCtx.calm) (by rfl) T.n_max bb_max (sa_cons se_int (sa_cons (se_callB (calld_min2 c.toCtx.calm) (by rfl) T.n_min bb_min (sa_cons se_int (sa_cons (se_callB calld_len (by rfl) T.n_len bb_len (sa_cons (se_var 0) sa_nil)) sa_nil))) sa_nil)))) (sg_name (i := 1) c.toCtx.nd) (sss_cons (ss_set (i := 2) c.toCtx.nd (se_call d__law_well c.toCtx (by rfl) (sa_cons (se_var 0) (sa_cons (se_var 1) sa_nil))))
    (sss_one (ss_for c (si_range1 (by rfl) T.n_range se_int) (sg_name (i := 3) c.toCtx.nd) (sss_one (ss_if (st_not (st_val (se_call d__law_right c.toCtx (by rfl) (sa_cons (se_var 2) sa_nil)))) (sss_one (ss_ret se_bl)) sss_nil))))))
    (sss_cons (ss_setLc (i := 4) (own := [("_law_word", 5)]) c.toCtx.calm c.toCtx.nd (si_any (se_tup (sa_cons se_str (sa_cons se_str (sa_cons se_str (sa_cons se_str (sa_cons se_str (sa_cons se_str (sa_cons se_str (sa_cons se_str sa_nil)))))))))) (blkOk_by (N := ["_law_script", "_law_spot", "_law_well_here", "_law_turn", "_law_told", "_law_word"]) (sc := defScope s_law) (by decide +kernel)) (fun _ _ _ _ _ => (sg_name (i := 5) (c.toCtx.blk _ _ _ _ _).nd)) (fun _ _ _ _ _ => sif_nil) (fun _ _ _ _ _ => (se_call d_is_name (c.toCtx.blk _ _ _ _ _) (by rfl) (sa_cons (se_var 5) sa_nil))))
    (sss_one (ss_ret (se_cmp (opd_eq c.toCtx.hu) (se_var 4) (se_lst (sa_cons se_bl (sa_cons se_bl (sa_cons se_bl (sa_cons se_bl (sa_cons se_bl (sa_cons se_bl (sa_cons se_bl (sa_cons se_bl sa_nil))))))))))))))
end
theorem all_mk {l : PySem.W.OpenLaw} {w : World} {K : PySem.W.Frag} {h : Heap} {mg : Str → Option Value} {fa f_is_name f__law_well f__law_dip f__law_choose f__law_is_word f__law_right f_law : Addr} (X : K.In h) (G : h.Ns mainGlobals mg) (hfa : mg "law" = some (.ref fa))
    {od_is_name an_is_name : Option Addr} {sl_is_name : Array (Option Value)} {oc_is_name kV_is_name dc_is_name pm_is_name cd_is_name ct_is_name : Value}
    {od__law_well an__law_well : Option Addr} {sl__law_well : Array (Option Value)} {oc__law_well kV__law_well dc__law_well pm__law_well cd__law_well ct__law_well : Value}
    {od__law_dip an__law_dip : Option Addr} {sl__law_dip : Array (Option Value)} {oc__law_dip kV__law_dip dc__law_dip pm__law_dip cd__law_dip ct__law_dip : Value}
    {od__law_choose an__law_choose : Option Addr} {sl__law_choose : Array (Option Value)} {oc__law_choose kV__law_choose dc__law_choose pm__law_choose cd__law_choose ct__law_choose : Value}
    {od__law_is_word an__law_is_word : Option Addr} {sl__law_is_word : Array (Option Value)} {oc__law_is_word kV__law_is_word dc__law_is_word pm__law_is_word cd__law_is_word ct__law_is_word : Value}
    {od__law_right an__law_right : Option Addr} {sl__law_right : Array (Option Value)} {oc__law_right kV__law_right dc__law_right pm__law_right cd__law_right ct__law_right : Value}
    {od_law an_law : Option Addr} {sl_law : Array (Option Value)} {oc_law kV_law dc_law pm_law cd_law ct_law : Value}
    (a_is_name : PySem.W.nsIn K mainGlobals "is_name" = some (some (.ref f_is_name))) (l_is_name : K.lookup f_is_name = some ⟨oc_is_name, od_is_name, .func (PySem.W.fnOf "is_name" "is_name" (defArgs s_is_name) (defBody s_is_name) (defScope s_is_name) .none kV_is_name dc_is_name pm_is_name an_is_name cd_is_name ct_is_name), sl_is_name⟩) (c_is_name : PySem.W.codeIn K cd_is_name "is_name" = true) (k_is_name : PySem.W.keepIn K (.ref f_is_name) = true)
    (a__law_well : PySem.W.nsIn K mainGlobals "_law_well" = some (some (.ref f__law_well))) (l__law_well : K.lookup f__law_well = some ⟨oc__law_well, od__law_well, .func (PySem.W.fnOf "_law_well" "_law_well" (defArgs s__law_well) (defBody s__law_well) (defScope s__law_well) .none kV__law_well dc__law_well pm__law_well an__law_well cd__law_well ct__law_well), sl__law_well⟩) (c__law_well : PySem.W.codeIn K cd__law_well "_law_well" = true) (k__law_well : PySem.W.keepIn K (.ref f__law_well) = true)
    (a__law_dip : PySem.W.nsIn K mainGlobals "_law_dip" = some (some (.ref f__law_dip))) (l__law_dip : K.lookup f__law_dip = some ⟨oc__law_dip, od__law_dip, .func (PySem.W.fnOf "_law_dip" "_law_dip" (defArgs s__law_dip) (defBody s__law_dip) (defScope s__law_dip) .none kV__law_dip dc__law_dip pm__law_dip an__law_dip cd__law_dip ct__law_dip), sl__law_dip⟩) (c__law_dip : PySem.W.codeIn K cd__law_dip "_law_dip" = true) (k__law_dip : PySem.W.keepIn K (.ref f__law_dip) = true)
    (a__law_choose : PySem.W.nsIn K mainGlobals "_law_choose" = some (some (.ref f__law_choose))) (l__law_choose : K.lookup f__law_choose = some ⟨oc__law_choose, od__law_choose, .func (PySem.W.fnOf "_law_choose" "_law_choose" (defArgs s__law_choose) (defBody s__law_choose) (defScope s__law_choose) .none kV__law_choose dc__law_choose pm__law_choose an__law_choose cd__law_choose ct__law_choose), sl__law_choose⟩) (c__law_choose : PySem.W.codeIn K cd__law_choose "_law_choose" = true) (k__law_choose : PySem.W.keepIn K (.ref f__law_choose) = true)
    (a__law_is_word : PySem.W.nsIn K mainGlobals "_law_is_word" = some (some (.ref f__law_is_word))) (l__law_is_word : K.lookup f__law_is_word = some ⟨oc__law_is_word, od__law_is_word, .func (PySem.W.fnOf "_law_is_word" "_law_is_word" (defArgs s__law_is_word) (defBody s__law_is_word) (defScope s__law_is_word) .none kV__law_is_word dc__law_is_word pm__law_is_word an__law_is_word cd__law_is_word ct__law_is_word), sl__law_is_word⟩) (c__law_is_word : PySem.W.codeIn K cd__law_is_word "_law_is_word" = true) (k__law_is_word : PySem.W.keepIn K (.ref f__law_is_word) = true)
    (a__law_right : PySem.W.nsIn K mainGlobals "_law_right" = some (some (.ref f__law_right))) (l__law_right : K.lookup f__law_right = some ⟨oc__law_right, od__law_right, .func (PySem.W.fnOf "_law_right" "_law_right" (defArgs s__law_right) (defBody s__law_right) (defScope s__law_right) .none kV__law_right dc__law_right pm__law_right an__law_right cd__law_right ct__law_right), sl__law_right⟩) (c__law_right : PySem.W.codeIn K cd__law_right "_law_right" = true) (k__law_right : PySem.W.keepIn K (.ref f__law_right) = true)
    (a_law : PySem.W.nsIn K mainGlobals "law" = some (some (.ref f_law))) (l_law : K.lookup f_law = some ⟨oc_law, od_law, .func (PySem.W.fnOf "law" "law" (defArgs s_law) (defBody s_law) (defScope s_law) .none kV_law dc_law pm_law an_law cd_law ct_law), sl_law⟩) (c_law : PySem.W.codeIn K cd_law "law" = true) (k_law : PySem.W.keepIn K (.ref f_law) = true)
    (z_abs : PySem.W.nsIn K mainGlobals "abs" = some none)
    (z_all : PySem.W.nsIn K mainGlobals "all" = some none)
    (z_int : PySem.W.nsIn K mainGlobals "int" = some none)
    (z_isinstance : PySem.W.nsIn K mainGlobals "isinstance" = some none)
    (z_len : PySem.W.nsIn K mainGlobals "len" = some none)
    (z_max : PySem.W.nsIn K mainGlobals "max" = some none)
    (z_min : PySem.W.nsIn K mainGlobals "min" = some none)
    (z_range : PySem.W.nsIn K mainGlobals "range" = some none)
    (z_repr : PySem.W.nsIn K mainGlobals "repr" = some none)
    (z_str : PySem.W.nsIn K mainGlobals "str" = some none)
    {t_LONGEST_NAME : Tok} (z_LONGEST_NAME : PySem.W.nsIn K mainGlobals "LONGEST_NAME" = some (some (.int 8 t_LONGEST_NAME)))
    (LAW : ∀ ns : List Int, ns.length ≤ 63 → ∃ st, F_law [.rd (ns.map .int)] [] = .ok (.bl true) st) :
    ∃ fd : FuncData, (∀ (s : Shared) (v : Value), BindsTo s fd ⟨[v], []⟩ [("_law_script", v)]) ∧ ∀ base : Heap, K.In base → base.Ns mainGlobals mg → FnOk l.prog w K mg base (L2.CX l.prog w) 4 fa fd ["_law_script"] (spLaw K) := by
  have e := hfa.symm.trans (PySem.W.mg_of X G a_law)
  cases e
  have T : Txt mg := ⟨PySem.W.mg_none_of X G z_abs, PySem.W.mg_none_of X G z_all, PySem.W.mg_none_of X G z_int, PySem.W.mg_none_of X G z_isinstance, PySem.W.mg_none_of X G z_len, PySem.W.mg_none_of X G z_max, PySem.W.mg_none_of X G z_min, PySem.W.mg_none_of X G z_range, PySem.W.mg_none_of X G z_repr, PySem.W.mg_none_of X G z_str, ⟨_, PySem.W.mg_of X G z_LONGEST_NAME⟩⟩
  refine ⟨PySem.W.fnOf "law" "law" (defArgs s_law) (defBody s_law) (defScope s_law) .none kV_law dc_law pm_law an_law cd_law ct_law, fun s v => .of_eq rfl, fun base _ _ => ?_⟩
  have F_is_name := fun_mk (st := s_is_name) l_is_name c_is_name k_is_name
  have F__law_well := fun_mk (st := s__law_well) l__law_well c__law_well k__law_well
  have F__law_dip := fun_mk (st := s__law_dip) l__law_dip c__law_dip k__law_dip
  have F__law_choose := fun_mk (st := s__law_choose) l__law_choose c__law_choose k__law_choose
  have F__law_is_word := fun_mk (st := s__law_is_word) l__law_is_word c__law_is_word k__law_is_word
  have F__law_right := fun_mk (st := s__law_right) l__law_right c__law_right k__law_right
  have F_law := fun_mk (st := s_law) l_law c_law k_law
  have d_is_name : DefOk l.prog w K mg base 1 "is_name" ["value"] DXP.F_is_name := def_ok F_is_name (PySem.W.mg_of X G a_is_name) (F_is_name.binds fun _ _ _ _ _ _ us hl => match us, hl with | [_], _ => rfl) (fn_is_name F_is_name T )
  have d__law_well : DefOk l.prog w K mg base 1 "_law_well" ["_law_script", "_law_spot"] DXP.F__law_well := def_ok F__law_well (PySem.W.mg_of X G a__law_well) (F__law_well.binds fun _ _ _ _ _ _ us hl => match us, hl with | [_, _], _ => rfl) (fn__law_well F__law_well T )
  have d__law_dip : DefOk l.prog w K mg base 1 "_law_dip" ["_law_well_here", "_law_size"] DXP.F__law_dip := def_ok F__law_dip (PySem.W.mg_of X G a__law_dip) (F__law_dip.binds fun _ _ _ _ _ _ us hl => match us, hl with | [_, _], _ => rfl) (fn__law_dip F__law_dip T )
  have d__law_choose : DefOk l.prog w K mg base 2 "_law_choose" ["_law_well_here", "_law_items"] DXP.F__law_choose := def_ok F__law_choose (PySem.W.mg_of X G a__law_choose) (F__law_choose.binds fun _ _ _ _ _ _ us hl => match us, hl with | [_, _], _ => rfl) (fn__law_choose F__law_choose T d__law_dip)
  have d__law_is_word : DefOk l.prog w K mg base 1 "_law_is_word" ["_law_value"] DXP.F__law_is_word := def_ok F__law_is_word (PySem.W.mg_of X G a__law_is_word) (F__law_is_word.binds fun _ _ _ _ _ _ us hl => match us, hl with | [_], _ => rfl) (fn__law_is_word F__law_is_word T )
  have d__law_right : DefOk l.prog w K mg base 3 "_law_right" ["_law_well_here"] DXP.F__law_right := def_ok F__law_right (PySem.W.mg_of X G a__law_right) (F__law_right.binds fun _ _ _ _ _ _ us hl => match us, hl with | [_], _ => rfl) (fn__law_right F__law_right T d__law_choose d__law_dip d__law_is_word d_is_name)
  exact law_imp (fn_law F_law T d__law_right d__law_well d_is_name) LAW
end DXP

set_option maxHeartbeats 1000000
namespace DXP
open PySem DX
/-! ### draws -/
abbrev wellO (a b c : Int) : O := .lst [.int a, .int b, .int c]
theorem dip_great {st : Store} {n : Nat} {a b c size : Int} (h : st[n]? = some (wellO a b c)) (ha : 0 < a) (hs : 0 < size) (hs2 : size < 1073741824) :
    F__law_dip [.ob n, .int size] st = .ok (.int (a % size)) (st.set n (wellO (a / size) b c)) := by
  simp [F__law_dip, fDef, b__law_dip, t__law_dip_1, x__law_dip_2, x__law_dip_3, y__law_dip_4, ix_O h, L2.atI, L2.ixN, ha, hs, hs2, gSub, h]
theorem narrow1 : narrow 776531401 = true := by decide
theorem narrow2 : narrow 7351 = true := by decide
theorem narrow3 (x : Int) : narrow (x % 2305843009213693867) = true := by unfold narrow; exact decide_eq_true (by omega)
theorem narrow4 (x : Int) : narrow (x % 1000000000000037) = true := by unfold narrow; exact decide_eq_true (by omega)
theorem dip_small {st : Store} {n : Nat} {a b c size : Int} (h : st[n]? = some (wellO a b c)) (ha : ¬ 0 < a) (hs : 0 < size) (hs2 : size < 1073741824) :
    ∃ k, F__law_dip [.ob n, .int size] st = .ok (.int k) (st.set n (wellO a b (c + 1))) ∧ 0 ≤ k ∧ k < size := by
  have hl : n < st.length := (List.getElem?_eq_some_iff.mp h).1
  have h' : (st.set n (wellO a b (c + 1)))[n]? = some (wellO a b (c + 1)) := by simp [hl]
  simp [F__law_dip, fDef, b__law_dip, t__law_dip_1, x__law_dip_2, x__law_dip_3, y__law_dip_4, x__law_dip_5, x__law_dip_6, x__law_dip_7, x__law_dip_8, ix_O h, ix_O h', L2.atI, L2.ixN, ha, hs, hs2, gSub, h, narrow1, narrow2, narrow3, narrow4]
  exact ⟨Int.emod_nonneg _ (by omega), Int.emod_lt_of_pos _ hs⟩
/-- a well stands at n; what draws do to the store -/
def WellAt (st : Store) (n : Nat) : Prop := ∃ a b c, st[n]? = some (wellO a b c) ∧ 0 ≤ a
structure Drawn (n : Nat) (st st' : Store) : Prop where
  at' : WellAt st' n
  len : st'.length = st.length
  old : ∀ j, j ≠ n → st'[j]? = st[j]?
theorem Drawn.refl {n : Nat} {st : Store} (h : WellAt st n) : Drawn n st st := ⟨h, rfl, fun _ _ => rfl⟩
theorem Drawn.trans {n : Nat} {a b c : Store} (h : Drawn n a b) (h2 : Drawn n b c) : Drawn n a c := ⟨h2.at', h2.len.trans h.len, fun j hj => (h2.old j hj).trans (h.old j hj)⟩
theorem drawn_set {st : Store} {n : Nat} {a b c : Int} (hl : n < st.length) (ha : 0 ≤ a) : Drawn n st (st.set n (wellO a b c)) :=
  ⟨⟨a, b, c, by simp [hl], ha⟩, by simp, fun j hj => List.getElem?_set_ne (fun e => hj e.symm)⟩
theorem dip {st : Store} {n : Nat} {size : Int} (h : WellAt st n) (hs : 0 < size) (hs2 : size < 1073741824) :
    ∃ k st', F__law_dip [.ob n, .int size] st = .ok (.int k) st' ∧ 0 ≤ k ∧ k < size ∧ Drawn n st st' := by
  obtain ⟨a, b, c, h, ha⟩ := h
  have hl : n < st.length := (List.getElem?_eq_some_iff.mp h).1
  by_cases h0 : 0 < a
  · exact ⟨_, _, dip_great h h0 hs hs2, Int.emod_nonneg _ (by omega), Int.emod_lt_of_pos _ hs, drawn_set hl (Int.ediv_nonneg ha (by omega))⟩
  · obtain ⟨k, e, h1, h2⟩ := dip_small h h0 hs hs2
    exact ⟨k, _, e, h1, h2, drawn_set hl ha⟩
/-- a draw as a number -/
theorem dipN {st : Store} {n : Nat} {size : Nat} (h : WellAt st n) (hs : 0 < size) (hs2 : size < 1073741824) :
    ∃ (k : Nat) (st' : Store), F__law_dip [.ob n, .int (size : Int)] st = .ok (.int (k : Int)) st' ∧ k < size ∧ Drawn n st st' := by
  obtain ⟨k, st', e, h0, h1, d⟩ := dip (size := size) h (by omega) (by omega)
  obtain ⟨j, rfl⟩ : ∃ j : Nat, k = (j : Int) := ⟨k.toNat, by omega⟩
  exact ⟨j, st', e, by omega, d⟩
theorem narrow5 : narrow 1000253 = true := by decide
theorem narrow6 : narrow 8969 = true := by decide
theorem narrow7 : narrow 47 = true := by decide
theorem narrow8 : narrow 71 = true := by decide
theorem big2 : 0 < ipow (ipow 10 59) 10 := ipow_pos (ipow_pos (by decide) _) _
theorem max0 (x : Int) : 0 ≤ (if x > 0 then x else 0) := by split <;> omega
theorem well_body (x : Int) (ns : List Int) (i : Nat) (st : Store) (h1 : (i < ns.length ∧ L2.atI (ns.map D.int) (i : Int) = some (.int x)) ∨ (¬ i < ns.length ∧ x = 71 * i + 37)) : b__law_well [some (.rd (ns.map .int)), some (.int i), none, none, none] st =
    .rt (.ob st.length) (st ++ [.lst [.int (if (if x < 0 then -x else x) % ipow (ipow 10 59) 10 - ipow 10 15 > 0 then (if x < 0 then -x else x) % ipow (ipow 10 59) 10 - ipow 10 15 else 0), .int ((((if x < 0 then -x else x) % ipow (ipow 10 59) 10) * 1000253 + 8969 * i + 47 * (if decide (x < 0) = true then 1 else 0) + 19) % 1152921504606846803), .int 0]]) := by
  rcases h1 with ⟨h, h2⟩ | ⟨h, hx⟩
  · simp only [b__law_well, x__law_well_1, x__law_well_2, x__law_well_3, x__law_well_4, decide_true, h2, ap_seq, ap_asg, ap_if, ap_tV, ap_op, ap_aCall, ap_aCons, ap_aNil, one_1, two_2, bind_ok, bindS_ok, sbind_nx, sbind_rt, of_some, ap_set, len_R, lt_II, List.length_map, ap_var0, ap_varS, List.set_cons_zero, List.set_cons_succ, Int.ofNat_lt, h, ix_R, abs_I, int_I, int_B, pow_II, ap_c,
    powOk_10, powOk_59, show (0:Int) ≤ 59 from by decide, show (59:Int) ≤ 1000 from by decide, show (0:Int) ≤ 10 from by decide, show (10:Int) ≤ 1000 from by decide, show (0:Int) ≤ 15 from by decide, show (15:Int) ≤ 1000 from by decide, and_self, if_true, mod_II,
    show Int.toNat 59 = 59 from rfl, show Int.toNat 10 = 10 from rfl, show Int.toNat 15 = 15 from rfl, big2, mul_II, narrow5, narrow6, narrow7, narrow8, Bool.or_true, Bool.true_or, add_II, show (0:Int) < 1152921504606846803 from by decide, ap_ret, ap_lstM, sub_II, max_II, List.length_cons, List.length_nil, show 0 + 1 + 1 + 1 ≤ 100000 from by decide]
  · simp only [b__law_well, x__law_well_1, x__law_well_2, x__law_well_3, x__law_well_4, decide_false, ← hx, ap_seq, ap_asg, ap_if, ap_tV, ap_op, ap_aCall, ap_aCons, ap_aNil, one_1, two_2, bind_ok, bindS_ok, sbind_nx, sbind_rt, of_some, ap_set, len_R, lt_II, List.length_map, ap_var0, ap_varS, List.set_cons_zero, List.set_cons_succ, Int.ofNat_lt, h, ix_R, abs_I, int_I, int_B, pow_II, ap_c,
    powOk_10, powOk_59, show (0:Int) ≤ 59 from by decide, show (59:Int) ≤ 1000 from by decide, show (0:Int) ≤ 10 from by decide, show (10:Int) ≤ 1000 from by decide, show (0:Int) ≤ 15 from by decide, show (15:Int) ≤ 1000 from by decide, and_self, if_true, mod_II,
    show Int.toNat 59 = 59 from rfl, show Int.toNat 10 = 10 from rfl, show Int.toNat 15 = 15 from rfl, big2, mul_II, narrow5, narrow6, narrow7, narrow8, Bool.or_true, Bool.true_or, add_II, show (0:Int) < 1152921504606846803 from by decide, ap_ret, ap_lstM, sub_II, max_II, List.length_cons, List.length_nil, show 0 + 1 + 1 + 1 ≤ 100000 from by decide]
theorem well (ns : List Int) (i : Nat) (st : Store) : ∃ a b c, F__law_well [.rd (ns.map .int), .int i] st = .ok (.ob st.length) (st ++ [wellO a b c]) ∧ 0 ≤ a := by
  by_cases h : i < ns.length
  · exact ⟨_, _, _, fDef_rt rfl (well_body ns[i] ns i st (.inl ⟨h, by simp [L2.atI, L2.ixN, h]⟩)), max0 _⟩
  · exact ⟨_, _, _, fDef_rt rfl (well_body _ ns i st (.inr ⟨h, rfl⟩)), max0 _⟩
/-- an item is drawn -/
theorem choose_at {st : Store} {n : Nat} {items : D} {L : Nat} {g : Nat → D} (h : WellAt st n) (hl : lenD st items = some (.int L)) (h0 : 0 < L) (h1 : L < 1073741824) (hi : ∀ k st', k < L → Drawn n st st' → ixD st' items (.int (k : Nat)) = some (g k)) :
    ∃ k st', k < L ∧ F__law_choose [.ob n, items] st = .ok (g k) st' ∧ Drawn n st st' := by
  obtain ⟨k, st', e, hk, hd⟩ := dipN h h0 h1
  refine ⟨k, st', hk, ?_, hd⟩
  simp [F__law_choose, fDef, b__law_choose, x__law_choose_1, hl, e, hi k st' hk hd]
theorem atI_nat {α : Type} {xs : List α} {k : Nat} : L2.atI xs (k : Int) = xs[k]? := by
  unfold L2.atI L2.ixN
  by_cases h : k < xs.length
  · simp [h]
  · simp [h]
theorem choose_L {st : Store} {n : Nat} {xs : List D} (h : WellAt st n) (h0 : 0 < xs.length) (h1 : xs.length < 1073741824) :
    ∃ x st', x ∈ xs ∧ F__law_choose [.ob n, .lst xs] st = .ok x st' ∧ Drawn n st st' := by
  obtain ⟨k, st', hk, e, hd⟩ := choose_at (items := .lst xs) (g := fun k => xs.getD k .non) h rfl h0 h1 fun k st' hk _ => by
    simp [atI_nat, List.getElem?_eq_getElem hk]
  refine ⟨_, st', ?_, e, hd⟩
  simp [List.getD_eq_getElem?_getD, List.getElem?_eq_getElem hk]
theorem choose_T {st : Store} {n : Nat} {xs : List D} (h : WellAt st n) (h0 : 0 < xs.length) (h1 : xs.length < 1073741824) :
    ∃ x st', x ∈ xs ∧ F__law_choose [.ob n, .tup xs] st = .ok x st' ∧ Drawn n st st' := by
  obtain ⟨k, st', hk, e, hd⟩ := choose_at (items := .tup xs) (g := fun k => xs.getD k .non) h rfl h0 h1 fun k st' hk _ => by
    simp [atI_nat, List.getElem?_eq_getElem hk]
  refine ⟨_, st', ?_, e, hd⟩
  simp [List.getD_eq_getElem?_getD, List.getElem?_eq_getElem hk]
theorem choose_S {st : Store} {n : Nat} {x : Str} (h : WellAt st n) (h0 : 0 < x.length) (h1 : x.length ≤ 100000) :
    ∃ c st', F__law_choose [.ob n, .str x] st = .ok (.str ⟨#[c]⟩) st' ∧ Drawn n st st' := by
  obtain ⟨k, st', hk, e, hd⟩ := choose_at (items := .str x) (g := fun k => .str ⟨#[x.cps.toList.getD k 0]⟩) h (by simp [h1]) h0 (by omega) fun k st' hk _ => by
    have hk' : k < x.cps.size := hk
    simp [atI_nat, h1, hk']
  exact ⟨_, st', e, hd⟩
end DXP

namespace DXP
open PySem DX
/-! ### names -/
def letter (c : Nat) : Bool := decide (97 ≤ c) && decide (c ≤ 122)
def isNameD : D → Bool
  | .str x => decide (1 ≤ x.length) && decide (x.length ≤ 8) && x.cps.toList.all letter
  | _ => false
theorem name_other {d : D} {st : Store} {t : Tg} (h : tagOf st d = some t) (ht : Ty.has .str t = false) : F_is_name [d] st = .ok (.bl false) st := by
  simp [F_is_name, fDef, b_is_name, t_is_name_1, x_is_name_2, isD, h, ht]
theorem word_other {d : D} {st : Store} {t : Tg} (h : tagOf st d = some t) (ht : Ty.has .str t = false) : F__law_is_word [d] st = .ok (.bl false) st := by
  simp [F__law_is_word, fDef, b__law_is_word, t__law_is_word_1, x__law_is_word_2, isD, h, ht]
theorem ge_a (c : Nat) : (!decide ([c] < ("a" : Str).cps.toList)) = decide (97 ≤ c) := by
  have e : ("a" : Str).cps.toList = [97] := by decide
  rw [e]
  by_cases h : c < 97
  · simp [List.cons_lt_cons_iff, h, show ¬ 97 ≤ c by omega]
  · simp [List.cons_lt_cons_iff, h, show 97 ≤ c by omega]
theorem le_z (c : Nat) : (!decide (("z" : Str).cps.toList < [c])) = decide (c ≤ 122) := by
  have e : ("z" : Str).cps.toList = [122] := by decide
  rw [e]
  by_cases h : 122 < c
  · simp [List.cons_lt_cons_iff, h, show ¬ c ≤ 122 by omega]
  · simp [List.cons_lt_cons_iff, h, show c ≤ 122 by omega]
/-- 'a' <= sign <= 'z' -/
theorem letter_ok (c : Nat) (d0 : Option D) (st : Store) : eChain bLe bLe (eC (D.str "a")) (eVar 1) (eC (D.str "z")) [d0, some (.str ⟨#[c]⟩)] st = .ok (.bl (letter c)) st := by
  simp only [ap_chain, ap_c, ap_varS, ap_var0, bind_ok, le_SS, of_some, show (⟨#[c]⟩ : Str).cps.toList = [c] from rfl, ge_a, le_z]
  unfold letter
  by_cases h : 97 ≤ c
  · simp [h]
  · simp [h]
theorem str_len (x : Str) : x.cps.toList.length = x.length := by simp [Str.length]
theorem name_str {x : Str} {st : Store} (hx : x.length ≤ 100000) : F_is_name [.str x] st = .ok (.bl (isNameD (.str x))) st := by
  by_cases h1 : 1 ≤ x.length
  · by_cases h2 : x.length ≤ 8
    · have h1' : (1 : Int) ≤ x.length := by omega
      have h2' : (x.length : Int) ≤ 8 := by omega
      have hc : lcF (itAny (eVar 0)) (gSet 1) tYesF (eChain bLe bLe (eC (D.str "a")) (eVar 1) (eC (D.str "z"))) [1] [some (.str x), none] st = .ok (.lst (x.cps.toList.map fun c => .bl (letter c))) st := by
        simp only [ap_lc, ap_itAny, ap_var0, bind_ok, signs, wipe_cons, wipe_nil, List.set_cons_succ, List.set_cons_zero]
        exact lcL_map (fun c => D.str ⟨#[c]⟩) (fun c => D.bl (letter c)) x.cps.toList [] (by rw [str_len]; simpa using hx) fun c _ => ⟨_, rfl, letter_ok c _ st⟩
      simp [F_is_name, fDef, b_is_name, t_is_name_1, x_is_name_2, isD, tagOf, Ty.has, hx, h1', h2', -ap_lc, hc, bools_map, isNameD, h1, h2]
    · have h1' : (1 : Int) ≤ x.length := by omega
      have h2' : ¬ (x.length : Int) ≤ 8 := by omega
      simp [F_is_name, fDef, b_is_name, t_is_name_1, x_is_name_2, isD, tagOf, Ty.has, hx, h1', h2', isNameD, h1, h2]
  · have h1' : ¬ (1 : Int) ≤ x.length := by omega
    simp [F_is_name, fDef, b_is_name, t_is_name_1, x_is_name_2, isD, tagOf, Ty.has, hx, h1', isNameD, h1]
theorem none_out {α : Type} (p : α → Bool) : ∀ l : List α, (l.filter fun c => !p c).isEmpty = l.all p
  | [] => rfl
  | a :: r => by
    rw [List.filter_cons, List.all_cons, ← none_out p r]
    cases p a <;> simp
theorem str_empty (x : Str) : (x == ("" : Str)) = decide (x.length = 0) := by
  cases x with
  | mk c =>
    have e : ("" : Str) = ⟨#[]⟩ := by decide
    rw [e]
    by_cases h : c.size = 0
    · have hc : c = #[] := Array.eq_empty_of_size_eq_zero h
      subst hc
      decide
    · have hn : ¬ (⟨c⟩ : Str) = ⟨#[]⟩ := fun z => h (by cases z; rfl)
      rw [beq_eq_false_iff_ne.mpr hn]
      exact (decide_eq_false h).symm
theorem word_str {x : Str} {st : Store} (hx : x.length ≤ 100000) : F__law_is_word [.str x] st = .ok (.bl (isNameD (.str x))) st := by
  have hs := str_empty x
  by_cases h1 : x.length = 0
  · simp [F__law_is_word, fDef, b__law_is_word, t__law_is_word_1, x__law_is_word_2, isD, tagOf, Ty.has, hx, hs, h1, isNameD]
  · by_cases h2 : x.length ≤ 8
    · have h2' : ¬ 8 < (x.length : Int) := by omega
      have hc : lcF (itAny (eVar 0)) (gSet 1) (tNotF (tV (eChain bLe bLe (eC (D.str "a")) (eVar 1) (eC (D.str "z"))))) (eVar 1) [1] [some (.str x), none] st = .ok (.lst ((x.cps.toList.filter fun c => !letter c).map fun c => .str ⟨#[c]⟩)) st := by
        simp only [ap_lc, ap_itAny, ap_var0, bind_ok, signs, wipe_cons, wipe_nil, List.set_cons_succ, List.set_cons_zero]
        exact lcL_filt (fun c => D.str ⟨#[c]⟩) (fun c => !letter c) (fun c => D.str ⟨#[c]⟩) x.cps.toList [] (by rw [str_len]; simpa using hx) fun c _ => ⟨[some (.str x), some (.str ⟨#[c]⟩)], rfl, by simp only [ap_tNot, ap_tV, letter_ok, bind_ok], fun _ => rfl⟩
      have he : bEq st (.lst ((x.cps.toList.filter fun c => !letter c).map fun c => .str ⟨#[c]⟩)) (.lst []) = some (.bl (x.cps.toList.all letter)) := by
        have q := eq_L0 (st := st) (py_strs ((x.cps.toList.filter fun c => !letter c).map fun c => (⟨#[c]⟩ : Str)))
        rw [List.map_map] at q
        rw [show ((x.cps.toList.filter fun c => !letter c).map fun c => D.str ⟨#[c]⟩) = (x.cps.toList.filter fun c => !letter c).map (D.str ∘ fun c => ⟨#[c]⟩) from rfl, q, List.isEmpty_map, none_out]
      have h1' : 1 ≤ x.length := by omega
      simp [F__law_is_word, fDef, b__law_is_word, t__law_is_word_1, x__law_is_word_2, isD, tagOf, Ty.has, hx, hs, h1, h2', -ap_lc, hc, he, isNameD, h2, h1']
    · have h2' : 8 < (x.length : Int) := by omega
      simp [F__law_is_word, fDef, b__law_is_word, t__law_is_word_1, x__law_is_word_2, isD, tagOf, Ty.has, hx, hs, h1, h2', isNameD, h2]
/-! ### right -/
/-- a value that both judge alike -/
def Judged (d : D) : Prop := ∀ st, F_is_name [d] st = .ok (.bl (isNameD d)) st ∧ F__law_is_word [d] st = .ok (.bl (isNameD d)) st
theorem judged_str {x : Str} (h : x.length ≤ 100000) : Judged (.str x) := fun st => ⟨name_str h, word_str h⟩
theorem judged_other {d : D} {t : Tg} (h : ∀ st, tagOf st d = some t) (ht : Ty.has .str t = false) (hd : isNameD d = false) : Judged d := fun st => by
  rw [hd]
  exact ⟨name_other (h st) ht, word_other (h st) ht⟩
theorem cutS_le (x : Str) (lo hi : Option Int) : (L2.cutS x lo hi).length ≤ x.length := by
  show (List.toArray _).size ≤ x.cps.size
  rw [List.size_toArray, List.length_take, List.length_drop, Array.length_toList]
  omega
theorem append_len (x y : Str) : (x ++ y).length = x.length + y.length := by
  show (x.cps ++ y.cps).size = _
  simp [Str.length]
theorem glued_len : ∀ (l : List Str) (acc : Array Nat), (l.foldl (fun acc p => acc ++ ("" : Str).cps ++ p.cps) acc).size = acc.size + (l.map fun y => y.length).sum
  | [], acc => by simp
  | a :: r, acc => by
    rw [List.foldl_cons, glued_len r]
    have e : ("" : Str).cps = #[] := by decide
    simp [e, Str.length]
    omega
theorem join_len (l : List Str) : (Txt.join "" l).length = (l.map fun y => y.length).sum := by
  cases l with
  | nil => decide
  | cons a r =>
    show ((r.foldl (fun acc p => acc ++ ("" : Str).cps ++ p.cps) a.cps)).size = _
    rw [glued_len]
    simp [Str.length]
/-- a word -/
theorem right2 {st : Store} {n : Nat} (h : WellAt st n) (r : Sl) : ∃ x st', x__law_right_2 (some (.ob n) :: some (.str "abcdefghijklmnopqrstuvwxyz") :: none :: none :: r) st = .ok (.str x) st' ∧ x.length ≤ 10 ∧ Drawn n st st' := by
  obtain ⟨k, st1, e1, hk, d1⟩ := dipN (size := 10) h (by decide) (by decide)
  have hsz : ("abcdefghijklmnopqrstuvwxyz" : Str).length = 26 := by decide
  obtain ⟨ds, st2, e2, i2, q2, l2⟩ := lcL_inv (u := gSet 3) (fe := eCall 2 F__law_choose (aCons (eVar 0) (aCons (eVar 1) aNil))) (ρ := some (.ob n) :: some (.str "abcdefghijklmnopqrstuvwxyz") :: none :: none :: r)
    (fun s => Drawn n st s) (fun d => ∃ c, d = .str ⟨#[c]⟩) (rng 0 k) [] st1 (by simp [rng]; omega) d1 fun x hx s hs => by
      obtain ⟨c, s', e, d⟩ := choose_S (x := "abcdefghijklmnopqrstuvwxyz") hs.at' (by rw [hsz]; decide) (by rw [hsz]; decide)
      exact ⟨_, _, s', rfl, by simpa using e, hs.trans d, c, rfl⟩
  have hstr : ∀ l : List D, (∀ d ∈ l, ∃ c, d = .str ⟨#[c]⟩) → ∃ ys : List Str, strsOf l = some ys ∧ (ys.map fun y => y.length).sum = l.length := by
    intro l
    induction l with
    | nil => exact fun _ => ⟨[], rfl, rfl⟩
    | cons a t ih =>
      intro hl
      obtain ⟨c, rfl⟩ := hl a (by simp)
      obtain ⟨ys, h1, h2⟩ := ih fun d hd => hl d (List.mem_cons_of_mem _ hd)
      refine ⟨⟨#[c]⟩ :: ys, by simp [strsOf, h1], ?_⟩
      rw [List.map_cons, List.sum_cons, h2, List.length_cons, show (⟨#[c]⟩ : Str).length = 1 from rfl]
      omega
  obtain ⟨ys, y1, y2⟩ := hstr ds q2
  have hl : ds.length = k := by rw [l2]; simp [rng]
  refine ⟨Txt.join "" ys, st2, ?_, by rw [join_len, y2, hl]; omega, i2⟩
  have e1' : F__law_dip [.ob n, .int 10] st = Res.ok (.int k) st1 := e1
  have hsm : small (k : Int) = true := decide_eq_true (by omega)
  have e2' : lcL (gSet 3) tYesF (eCall 2 F__law_choose (aCons (eVar 0) (aCons (eVar 1) aNil))) (some (.ob n) :: some (.str "abcdefghijklmnopqrstuvwxyz") :: none :: none :: r) (rng 0 k) [] st1 = .ok (.lst ds) st2 := by simpa using e2
  have hj : joinD st2 "" (.lst ds) = some (.str (Txt.join "" ys)) := by
    unfold joinD itemsOf
    simp only [seqL, y1]
    rw [if_pos (by rw [y2, hl, show ("" : Str).length = 0 from by decide]; omega)]
  simp only [x__law_right_2, ap_join, ap_c, bind_ok, ap_lc, ap_itRange1, ap_eCall, ap_aCons, ap_aNil, ap_var0, List.length_cons, List.length_nil, if_true, e1', hsm, Int.toNat_natCast, wipe_cons, wipe_nil, List.set_cons_succ, List.set_cons_zero, e2', hj, of_some]
theorem cut_all (x : Str) (lo hi : Option Int) (h : x.length ≤ 10) : (L2.cutS x lo hi).length ≤ 10 := Nat.le_trans (cutS_le x lo hi) h
/-- the test of the comprehension finds nothing -/
theorem right7 {st : Store} {w a b c d : Option D} {ds : List D} (hl : ds.length ≤ 100) (h : ∀ d ∈ ds, Judged d) (e : Option D) : x__law_right_7 [w, a, b, e, c, d, some (.lst ds), none] st = .ok (.bl true) st := by
  have q := lcL_pure (u := gSet 7) (t := tV (eOp bNe (aCall (one repB) (aCons (eCall 1 F_is_name (aCons (eVar 7) aNil)) aNil)) (aCall (one repB) (aCons (eCall 1 F__law_is_word (aCons (eVar 7) aNil)) aNil)))) (fe := eVar 7) (ρ := [w, a, b, e, c, d, some (.lst ds), none]) (st := st) (fun _ => false) id ds [] (by simp; omega) fun v hv =>
    ⟨[w, a, b, e, c, d, some (.lst ds), some v], rfl, by
      obtain ⟨h1, h2⟩ := h v hv st
      simp [h1, h2], by simp⟩
  have q' : lcL (gSet 7) (tV (eOp bNe (aCall (one repB) (aCons (eCall 1 F_is_name (aCons (eVar 7) aNil)) aNil)) (aCall (one repB) (aCons (eCall 1 F__law_is_word (aCons (eVar 7) aNil)) aNil)))) (eVar 7) [w, a, b, e, c, d, some (.lst ds), none] ds [] st = .ok (.lst []) st := q.trans (by simp)
  have e0 : bEq st (.lst []) (.lst []) = some (.bl true) := eq_L0 (ps := []) rfl
  simp [x__law_right_7, -ap_lc, ap_lc, q', e0]
theorem right3 {st : Store} {n : Nat} (h : WellAt st n) {x : Str} (hx : x.length ≤ 10) (a : Option D) (r : Sl) : ∃ (k : Nat) (st' : Store), x__law_right_3 (some (.ob n) :: a :: some (.str x) :: r) st = .ok (.int k) st' ∧ k ≤ x.length ∧ Drawn n st st' := by
  obtain ⟨k, st', e, hk, d⟩ := dipN (size := x.length + 1) h (by omega) (by omega)
  have e' : F__law_dip [.ob n, .int ((x.length : Int) + 1)] st = .ok (.int k) st' := e
  exact ⟨k, st', by simp [x__law_right_3, show x.length ≤ 100000 by omega, e'], by omega, d⟩
theorem right4 {st : Store} {n : Nat} (h : WellAt st n) (r : Sl) : ∃ (o : Str) (st' : Store), x__law_right_4 (some (.ob n) :: r) st = .ok (.str o) st' ∧ o.length ≤ 2 ∧ Drawn n st st' := by
  obtain ⟨o, st', ho, e, d⟩ := choose_L (xs := [.str "B", .str " ", .str "0", .str "_", .str "-", .str "\n", .str "z", .str "aa", .str "", .str ".", .str "{", .str "`"]) h (by decide) (by decide)
  have q : ∃ z : Str, o = .str z ∧ z.length ≤ 2 := by
    simp only [List.mem_cons, List.not_mem_nil, or_false] at ho
    rcases ho with rfl | rfl | rfl | rfl | rfl | rfl | rfl | rfl | rfl | rfl | rfl | rfl <;> exact ⟨_, rfl, by decide⟩
  obtain ⟨z, rfl, hz⟩ := q
  exact ⟨z, st', by simp [x__law_right_4, e], hz, d⟩
theorem tenk : (10 : Int) ^ 39 = 1000000000000000000000000000000000000000 := by decide
theorem right_ok {st : Store} {n : Nat} (h : WellAt st n) : ∃ st', F__law_right [.ob n] st = .ok (.bl true) st' ∧ Drawn n st st' := by
  obtain ⟨x, st1, e1, hx, d1⟩ := right2 h [none, none, none, none]
  obtain ⟨k, st2, e2, hk, d2⟩ := right3 d1.at' hx (some (.str "abcdefghijklmnopqrstuvwxyz")) [none, none, none, none, none]
  obtain ⟨o, st3, e3, ho, d3⟩ := right4 d2.at' [some (.str "abcdefghijklmnopqrstuvwxyz"), some (.str x), none, some (.int k), none, none, none]
  refine ⟨st3, ?_, (d1.trans d2).trans d3⟩
  have hc1 := cut_all x none (some (k : Int)) hx
  have hc2 := cut_all x (some (k : Int)) none hx
  have hc3 := cut_all x none (some 8) hx
  have hu := PyProof.Rows.len_upper x
  have h5 : x__law_right_5 [some (.ob n), some (.str "abcdefghijklmnopqrstuvwxyz"), some (.str x), none, some (.int k), some (.str o), none, none] st3 = .ok (.lst [.str x, .str (L2.cutS x none (some (k : Int)) ++ o ++ L2.cutS x (some (k : Int)) none), .str (L2.cutS x (some (k : Int)) none), .str (Txt.upper x), .str (x ++ x), .lst [.str x], .tup [.str x], .dK [(.inr x, .int 1)]]) st3 := by
    simp [x__law_right_5, append_len, show x.length ≤ 100000 by omega, show (L2.cutS x none (some (k : Int))).length + o.length ≤ 100000 by omega, show (L2.cutS x none (some (k : Int))).length + o.length + (L2.cutS x (some (k : Int)) none).length ≤ 100000 by omega, show x.length + x.length ≤ 100000 by omega, keyOf]
  have hm : ∃ y : Str, bMulS st3 (.str x) (.int 3) = some (.str y) ∧ y.length ≤ 30 := by
    unfold bMulS
    dsimp only
    by_cases h0 : x.length = 0
    · rw [if_neg (by omega), if_pos (by omega)]
      exact ⟨_, rfl, by omega⟩
    · rw [if_pos (by omega)]
      exact ⟨_, rfl, by rw [timesS_len]; simp; omega⟩
  obtain ⟨y, hy, hyl⟩ := hm
  have h6 : ∀ ds : List D, ds.length ≤ 10 → x__law_right_6 [some (.ob n), some (.str "abcdefghijklmnopqrstuvwxyz"), some (.str x), none, some (.int k), some (.str o), some (.lst ds), none] st3 = .ok (.lst (ds ++ [.non, .int 0, .bl true, .int (ipow 10 39), .tup [], .str y, .str (L2.cutS x none (some 8)), .str "abcdefgh", .str "abcdefghi"])) st3 := by
    intro ds hd
    simp [x__law_right_6, hy, show x.length ≤ 100000 by omega, powOk_10, show ds.length + 9 ≤ 100000 by omega]
  refine fDef_rt rfl ?_
  show b__law_right [some (.ob n), none, none, none, none, none, none, none] st = _
  unfold b__law_right
  refine (run_asg (d := .str "abcdefghijklmnopqrstuvwxyz") (st1 := st) rfl).trans ?_
  refine (run_asg (d := .str x) (st1 := st1) e1).trans ?_
  refine (run_asg (d := .int k) (st1 := st2) e2).trans ?_
  refine (run_asg (d := .str o) (st1 := st3) e3).trans ?_
  refine (run_asg (d := _) (st1 := st3) h5).trans ?_
  refine (run_asg (d := _) (st1 := st3) (h6 _ (by simp))).trans ?_
  refine run_ret (right7 (by simp) ?_ none)
  simp only [List.cons_append, List.nil_append, List.forall_mem_cons, List.not_mem_nil, false_imp_iff, implies_true, and_true]
  refine ⟨judged_str (by omega), judged_str (by rw [append_len, append_len]; omega), judged_str (by omega), judged_str (by omega), judged_str (by rw [append_len]; omega), judged_other (t := .list) (fun _ => rfl) rfl rfl, judged_other (t := .tuple) (fun _ => rfl) rfl rfl, judged_other (t := .dict) (fun _ => rfl) rfl rfl,
    judged_other (t := .none) (fun _ => rfl) rfl rfl, judged_other (t := .int) (fun _ => rfl) rfl rfl, judged_other (t := .bool) (fun _ => rfl) rfl rfl, judged_other (t := .int) (fun _ => rfl) rfl rfl, judged_other (t := .tuple) (fun _ => rfl) rfl rfl, judged_str (by omega), judged_str (by omega), judged_str (by decide), judged_str (by decide)⟩
/-! ### the law -/
theorem mem_rng {n : Nat} {x : D} (h : x ∈ rng 0 n) : ∃ j : Nat, j < n ∧ x = .int (j : Int) := by
  unfold rng at h
  obtain ⟨j, hj, rfl⟩ := List.mem_map.mp h
  exact ⟨j, List.mem_range.mp hj, by simp⟩
theorem turns (ns : List Int) {st : Store} {n : Nat} (h : WellAt st n) (s t : Option D) : ∃ t' st', sForL (gSet 3) l_law_3 (rng 0 5) [some (.rd (ns.map .int)), s, some (.ob n), t, none, none] st = .nx [some (.rd (ns.map .int)), s, some (.ob n), t', none, none] st' := by
  obtain ⟨ρ', st', e, ⟨t', rfl⟩, _⟩ := forL_inv (u := gSet 3) (f := l_law_3) (fun ρ st => (∃ t, ρ = [some (.rd (ns.map .int)), s, some (.ob n), t, none, none]) ∧ WellAt st n) (rng 0 5) _ st ⟨⟨t, rfl⟩, h⟩ (by
    rintro x hx ρ st ⟨⟨t, rfl⟩, hw⟩
    obtain ⟨st2, e, d⟩ := right_ok hw
    refine ⟨_, _, _, st2, rfl, .inl ?_, ⟨some x, rfl⟩, d.at'⟩
    simp [l_law_3, t_law_2, e])
  exact ⟨t', st', e⟩
theorem spots (ns : List Int) (k : Nat) (st : Store) : ∃ s w t st', sForL (gSet 1) l_law_5 (rng 0 k) [some (.rd (ns.map .int)), none, none, none, none, none] st = .nx [some (.rd (ns.map .int)), s, w, t, none, none] st' := by
  obtain ⟨ρ', st', e, ⟨s, w, t, rfl⟩⟩ := forL_inv (u := gSet 1) (f := l_law_5) (fun ρ _ => ∃ s w t, ρ = [some (.rd (ns.map .int)), s, w, t, none, none]) (rng 0 k) _ st ⟨none, none, none, rfl⟩ (by
    rintro x hx ρ st ⟨s, w, t, rfl⟩
    obtain ⟨j, hj, rfl⟩ := mem_rng hx
    obtain ⟨a, b, c, e, ha⟩ := well ns j st
    obtain ⟨t', st2, e2⟩ := turns ns (st := st ++ [wellO a b c]) (n := st.length) ⟨a, b, c, by simp, ha⟩ (some (.int j)) t
    refine ⟨_, _, _, st2, rfl, .inl ?_, ⟨some (.int j), some (.ob st.length), t', rfl⟩⟩
    unfold l_law_5
    refine (run_asg (d := .ob st.length) (st1 := st ++ [wellO a b c]) (by simp [x_law_1, e])).trans ?_
    simp only [ap_for, ap_itRange1, ap_c, bind_ok, show small 5 = true from by decide, if_true, show Int.toNat 5 = 5 from rfl, bindS_ok]
    exact e2)
  exact ⟨s, w, t, st', e⟩
theorem py_bools : ∀ l : List Bool, py0L (l.map .bl) = some (l.map .bool)
  | [] => rfl
  | a :: r => by
    show (match py0 (.bl a), py0L (r.map .bl) with | some a, some as => some (a :: as) | _, _ => none) = _
    rw [py_bools r]
    rfl
theorem depth_bools : ∀ l : List Bool, PyData.depthAll (l.map .bool) ≤ 1
  | [] => by simp [PyData.depthAll]
  | a :: r => by
    have := depth_bools r
    simp [PyData.depthAll, PyData.depth]
    omega
theorem eq_LB {st : Store} (l r : List Bool) : bEq st (.lst (l.map .bl)) (.lst (r.map .bl)) = some (.bl (PyData.eqv (.list (l.map .bool)) (.list (r.map .bool)))) := by
  unfold bEq
  rw [eqD_of (p := .list (l.map .bool)) (q := .list (r.map .bool)) (by simp [pyS, seqL, py_bools]) (by simp [pyS, seqL, py_bools]) (by
    have := depth_bools l
    simp [PyData.depth]
    omega)]
  rfl
theorem told (st : Store) (a s w t o : Option D) : x_law_6 [a, s, w, t, o, none] st = .ok (.lst ([true, true, true, false, false, false, false, true].map .bl)) st := by
  have q := lcL_map (u := gSet 5) (fe := eCall 1 F_is_name (aCons (eVar 5) aNil)) (ρ := [a, s, w, t, o, none]) (st := st) (D.str) (fun x => .bl (isNameD (.str x))) ["a", "on", "zzzzzzzz", "aaaaaaaaa", "", "Raise", "a1", "leave"] [] (by simp) fun x hx =>
    ⟨[a, s, w, t, o, some (.str x)], rfl, by
      have hl : x.length ≤ 100000 := by
        simp only [List.mem_cons, List.not_mem_nil, or_false] at hx
        rcases hx with rfl | rfl | rfl | rfl | rfl | rfl | rfl | rfl <;> decide
      simp [name_str hl]⟩
  have q' : lcL (gSet 5) tYesF (eCall 1 F_is_name (aCons (eVar 5) aNil)) [a, s, w, t, o, none] [.str "a", .str "on", .str "zzzzzzzz", .str "aaaaaaaaa", .str "", .str "Raise", .str "a1", .str "leave"] [] st = .ok (.lst ([true, true, true, false, false, false, false, true].map .bl)) st := q.trans (by
    have z : (["a", "on", "zzzzzzzz", "aaaaaaaaa", "", "Raise", "a1", "leave"] : List Str).map (fun x => isNameD (.str x)) = [true, true, true, false, false, false, false, true] := by decide
    rw [← z, List.map_map]
    rfl)
  simp only [x_law_6, ap_lc, ap_itAny, ap_tup, ap_aCons, ap_aNil, ap_c, bind_ok, List.length_cons, List.length_nil, show 0 + 1 + 1 + 1 + 1 + 1 + 1 + 1 + 1 ≤ 100000 from by decide, if_true, wipe_cons, wipe_nil, List.set_cons_succ, List.set_cons_zero]
  exact q'
theorem law_holds : ∀ ns : List Int, ns.length ≤ 63 → ∃ st, F_law [.rd (ns.map .int)] [] = .ok (.bl true) st := by
  intro ns hn
  obtain ⟨k, hk⟩ : ∃ k : Nat, i_law_4 [some (.rd (ns.map .int)), none, none, none, none, none] [] = .ok (rng 0 k) [] := by
    have hs : small (if (if (ns.length : Int) < 8 then (ns.length : Int) else 8) > 1 then (if (ns.length : Int) < 8 then (ns.length : Int) else 8) else 1) = true := decide_eq_true (by split <;> split <;> omega)
    exact ⟨_, by simp only [i_law_4, ap_itRange1, ap_aCall, ap_aCons, ap_aNil, ap_c, ap_var0, bind_ok, one_1, two_2, len_R, of_some, max_II, min_II, List.length_map, hs, if_true]; rfl⟩
  obtain ⟨s, w, t, st, e⟩ := spots ns k []
  refine ⟨st, fDef_rt rfl ?_⟩
  show b_law [some (.rd (ns.map .int)), none, none, none, none, none] [] = _
  unfold b_law
  refine (run_for hk e).trans ?_
  refine (run_asg (told st _ s w t none)).trans ?_
  refine run_ret ?_
  have q := eq_LB (st := st) [true, true, true, false, false, false, false, true] [true, true, true, false, false, false, false, true]
  simp only [x_law_7, ap_op, ap_lst, ap_aCons, ap_aNil, ap_c, bind_ok, List.length_cons, List.length_nil, show 0 + 1 + 1 + 1 + 1 + 1 + 1 + 1 + 1 ≤ 100000 from by decide, if_true]
  have z : PyData.eqv (.list ([true, true, true, false, false, false, false, true].map .bool)) (.list ([true, true, true, false, false, false, false, true].map .bool)) = true := by decide
  rw [z] at q
  exact congrArg (fun z => Res.of z st) q
end DXP

open PySem PySem.W PyProof.Rows
set_option maxRecDepth 100000 in
set_option maxHeartbeats 0 in
theorem PySem.Challenge.cw_answeredabove_k01_names_holds : PySem.Challenge.rw_answeredabove_k01_names.Holds := by
  w_on; o_law; k_head; (case hw => w_witness2)
  k_fill
  refine L2.walk_of (l := PySem.Challenge.rw_answeredabove_k01_names) (n := 63) (k := 4) (x := "_law_script") (CX := fun w => L2.CX PySem.Challenge.rw_answeredabove_k01_names.prog w) (sp := fun w => DX.spLaw _) rfl (by decide) rfl ⟨rfl, by decide, by decide⟩ (fun w h Y => PySem.W.kIn_of Y) ?F (fun _ _ a ns hl _ hS => ⟨a, ns, rfl, hS, hl, fun _ => rfl⟩) (fun _ _ _ _ _ h => DX.cx_false h)
  case F =>
    intro w mg fa h KX G hmg
    refine' DXP.all_mk KX G hmg ?a_is_name ?l_is_name ?c_is_name ?k_is_name ?a__law_well ?l__law_well ?c__law_well ?k__law_well ?a__law_dip ?l__law_dip ?c__law_dip ?k__law_dip ?a__law_choose ?l__law_choose ?c__law_choose ?k__law_choose ?a__law_is_word ?l__law_is_word ?c__law_is_word ?k__law_is_word ?a__law_right ?l__law_right ?c__law_right ?k__law_right ?a_law ?l_law ?c_law ?k_law ?z_abs ?z_all ?z_int ?z_isinstance ?z_len ?z_max ?z_min ?z_range ?z_repr ?z_str ?z_LONGEST_NAME DXP.law_holds
    (case a_is_name => k_is); (case l_is_name => k_is); (case c_is_name => k_is); (case k_is_name => k_is); (case a__law_well => k_is); (case l__law_well => k_is); (case c__law_well => k_is); (case k__law_well => k_is); (case a__law_dip => k_is); (case l__law_dip => k_is); (case c__law_dip => k_is); (case k__law_dip => k_is); (case a__law_choose => k_is); (case l__law_choose => k_is); (case c__law_choose => k_is); (case k__law_choose => k_is); (case a__law_is_word => k_is); (case l__law_is_word => k_is); (case c__law_is_word => k_is); (case k__law_is_word => k_is); (case a__law_right => k_is); (case l__law_right => k_is); (case c__law_right => k_is); (case k__law_right => k_is); (case a_law => k_is); (case l_law => k_is); (case c_law => k_is); (case k_law => k_is); (case z_abs => k_is); (case z_all => k_is); (case z_int => k_is); (case z_isinstance => k_is); (case z_len => k_is); (case z_max => k_is); (case z_min => k_is); (case z_range => k_is); (case z_repr => k_is); (case z_str => k_is); (case z_LONGEST_NAME => k_is)
