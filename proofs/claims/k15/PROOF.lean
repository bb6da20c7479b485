import PyProof.Rows.All
import Wide.All
import OpenK.AllK
import Wide.FinOn
import HandS.ForMost
import HandS.ForExc
import HandS.Deep
import HandS.Walk
import HandS.IsInst
import HandS.ExcInit
import HandS.TupAny
import HandS.Style
import HandS.Wide
import HandS.More
import PyProof.ReprReads
import PyProof.ReprRoads
import PyProof.ReprLen
import PyProof.Rows.ReprOcc
import PyProof.P3Eq
import KE.KExcIs
import HandS.WordsExc
import HandS.ExcValue
import HandS.FStr
import HandS.TupAny
import HandS.Strs
import PyProof.EqAt
import PyProof.P3In
import KE.GoesZip
import KE.GoesMore
import KE.GoesEnum
import HandS.SortRule
import PyProof.Rows.SortKeyStr
import KE.KTupSum
import HandS.Star
import HandS.HeadHook2
import HandS.MakeKw
import PyProof.Rows.SortShellAny
import PySem.Challenge.RW_turnbehind_k15_go_moves_one_walker
set_option Elab.async false
set_option linter.all false
set_option maxRecDepth 100000
/-! Mr: a mirror of Python's data as plain Lean values; what is laid into the heap is either frozen (never written again) or owned by one slot. -/
namespace Mr
open PySem PySem.Spec PyProof.Rows L2

abbrev D := PyData
abbrev En := List (Option D)
abbrev Fr := PySem.W.Frag
abbrev Mg := Str → Option Value
abbrev Sg := L2.St

/-! ### data that stand in the heap -/
def kD : Key → D
  | .inl i => .int i
  | .inr x => .str x
/-- a list that is read, as the machine lays one out -/
def SqP (K : Fr) (H : Hp) (a : Addr) (xs : List V) : Prop := Rd H a (.lst xs) ∨ ∃ (its : List Value) (n : Nat), K.lookup a = some { cls := .type "list", data := .seq its.toArray n } ∧ its.length ≤ sizeLine ∧ Vals xs its
theorem SqP.mono {K : Fr} {H H' : Hp} {a : Addr} {xs : List V} (h : SqP K H a xs) (e : Same H H') : SqP K H' a xs := by
  rcases h with (h | ⟨o, h⟩) | h
  · exact .inl (.inl (e _ _ h))
  · exact .inl (.inr ⟨o, e _ _ h⟩)
  · exact .inr h
theorem SqP.sql {K : Fr} {H : Hp} {a : Addr} {xs : List V} (h : SqP K H a xs) : SqL K H a xs := by
  rcases h with h | ⟨its, n, h1, h2, h3⟩
  · exact .inl h
  · exact .inr ⟨_, its.toArray, n, h1, rfl, rfl, rfl, by simpa using h2, by simpa using h3⟩
theorem SqP.obj {X : Cx} {pins : List (Addr × Obj)} {σ : Sg} {H : Hp} {s : Shared} {a : Addr} {xs : List V} (I : Inv X pins σ H s) (h : SqP X.K H a xs) :
    ∃ (its : List Value) (n : Nat), Vals xs its ∧ s.heap.get? a = some { cls := .type "list", data := .seq its.toArray n } ∧ xs.length ≤ sizeLine := by
  rcases h with (h | ⟨o, h⟩) | ⟨its, n, h1, h2, h3⟩
  · obtain ⟨z, its, n, r, e⟩ := I.hok a _ h
    exact ⟨its, n, r, e, z⟩
  · obtain ⟨_, z, its, n, r, e⟩ := I.hok a _ h
    exact ⟨its, n, r, e, z⟩
  · exact ⟨its, n, h3, I.kIn a _ h1, by rw [h3.length]; exact h2⟩
/-- a tuple whose object bears no dict -/
def SqF (K : Fr) (H : Hp) (a : Addr) (xs : List V) : Prop := (∃ o, H a = some (.frz o (.tup xs)) ∧ o.cls = .type "tuple" ∧ o.dict = none) ∨
  ∃ (o : Obj) (its : Array Value) (n : Nat), K.lookup a = some o ∧ o.cls = .type "tuple" ∧ o.dict = none ∧ o.data = .seq its n ∧ its.size ≤ sizeLine ∧ Vals xs its.toList
theorem SqF.t {K : Fr} {H : Hp} {a : Addr} {xs : List V} (h : SqF K H a xs) : SqT K H a xs := by
  rcases h with ⟨o, h, _⟩ | ⟨o, its, n, h1, h2, _, h3, h4, h5⟩
  · exact .inl (.inr ⟨o, h⟩)
  · exact .inr ⟨o, its, n, h1, h2, h3, h4, h5⟩
theorem SqF.mono {K : Fr} {H H' : Hp} {a : Addr} {xs : List V} (e : Same H H') (h : SqF K H a xs) : SqF K H' a xs := by
  rcases h with ⟨o, h, q⟩ | h
  · exact .inl ⟨o, e _ _ h, q⟩
  · exact .inr h
theorem SqF.obj {X : Cx} {pins : List (Addr × Obj)} {σ : Sg} {H : Hp} {s : Shared} {a : Addr} {xs : List V} (I : Inv X pins σ H s) (h : SqF X.K H a xs) :
    ∃ (its : List Value) (n : Nat) (sl : Array (Option Value)), Vals xs its ∧ s.heap.get? a = some { cls := .type "tuple", dict := none, data := .seq its.toArray n, slots := sl } ∧ xs.length ≤ sizeLine := by
  rcases h with ⟨⟨c, d, dt, sl⟩, h, hc, hd⟩ | ⟨⟨c, d, dt, sl⟩, its, n, h1, hc, hd, h3, h4, h5⟩
  · simp only at hc hd
    subst hc hd
    have q : ObjOk X.prog X.w H s.heap a (.frz _ (.tup xs)) := I.hok a _ h
    obtain ⟨g1, z, its, r, o2, g2, _, n, g4⟩ := q
    rw [g1] at g2; cases g2
    simp only at g4
    subst g4
    exact ⟨its, n, sl, r, g1, z⟩
  · simp only at hc hd h3
    subst hc hd h3
    exact ⟨its.toList, n, sl, h5, by simpa using I.kIn a _ h1, by rw [h5.length]; simpa using h4⟩
/-- an exception that stands still: its class, its dict -/
def exv (a C : Addr) (dx : Option Addr) : HO := .ext fun h => ∃ (oe : Obj) (vs : Array Value), h.get? a = some oe ∧ Zc (.ref C) dx oe ∧ oe.data = .fields vs
/-- the fields in its dict, if it has one -/
def ExD (F : Hp) (dd : Option Addr) (fs : List (Str × V)) : Prop := (dd = none ∧ fs = []) ∨ ∃ da, dd = some da ∧ F da = some (.xd fs)
theorem ExD.mono {F F' : Hp} {dd : Option Addr} {fs : List (Str × V)} (e : Same F F') (h : ExD F dd fs) : ExD F' dd fs := by
  rcases h with h | ⟨da, h1, h2⟩
  · exact .inl h
  · exact .inr ⟨da, h1, e _ _ h2⟩
mutual
inductive Rp (K : Fr) (mg : Mg) (F : Hp) : V → D → Prop
  | non : Rp K mg F .non .none
  | bl (b : Bool) : Rp K mg F (.bl b) (.bool b)
  | int (i : Int) : Rp K mg F (.int i) (.int i)
  | str (x : Str) : Rp K mg F (.str x) (.str x)
  | lst {a : Addr} {xs : List V} {ds : List D} : SqP K F a xs → RpA K mg F xs ds → Rp K mg F (.ref a) (.list ds)
  | tup {a : Addr} {xs : List V} {ds : List D} : SqF K F a xs → RpA K mg F xs ds → Rp K mg F (.ref a) (.tuple ds)
  | dct {a : Addr} {kvs : List (Key × V)} {vs : List D} : F a = some (.dK kvs) → RpA K mg F (kvs.map (·.2)) vs → Rp K mg F (.ref a) (.dict ((kvs.map fun p => kD p.1).zip vs))
  | obj {a C dx : Addr} {cn : Str} {fs : List (Str × V)} {vs : List D} : F a = some (.ins C dx fs) → mg cn = some (.ref C) → RpA K mg F (fs.map (·.2)) vs →
      Rp K mg F (.ref a) (.dict ((PyData.none, PyData.str cn) :: (fs.map fun p => PyData.str p.1).zip vs))
  | exc {a C : Addr} {dd : Option Addr} {cn : Str} {fs : List (Str × V)} {vs : List D} : F a = some (exv a C dd) → ExD F dd fs → mg cn = some (.ref C) → RpA K mg F (fs.map (·.2)) vs →
      Rp K mg F (.ref a) (.dict ((PyData.bool true, PyData.str cn) :: (fs.map fun p => PyData.str p.1).zip vs))
inductive RpA (K : Fr) (mg : Mg) (F : Hp) : List V → List D → Prop
  | nil : RpA K mg F [] []
  | cons {v : V} {vs : List V} {d : D} {ds : List D} : Rp K mg F v d → RpA K mg F vs ds → RpA K mg F (v :: vs) (d :: ds)
end

section
variable {K : Fr} {mg : Mg} {F F' H H' : Hp}
theorem sqT_same {a : Addr} {xs : List V} (e : Same H H') (h : SqT K H a xs) : SqT K H' a xs := by
  rcases h with (h | ⟨o, h⟩) | h
  · exact .inl (.inl (e _ _ h))
  · exact .inl (.inr ⟨o, e _ _ h⟩)
  · exact .inr h
mutual
theorem Rp.mono (e : Same F F') : ∀ {v : V} {d : D}, Rp K mg F v d → Rp K mg F' v d
  | _, _, .non => .non
  | _, _, .bl b => .bl b
  | _, _, .int i => .int i
  | _, _, .str x => .str x
  | _, _, .lst h a => .lst (h.mono e) (RpA.mono e a)
  | _, _, .tup h a => .tup (h.mono e) (RpA.mono e a)
  | _, _, .dct h a => .dct (e _ _ h) (RpA.mono e a)
  | _, _, .obj h m a => .obj (e _ _ h) m (RpA.mono e a)
  | _, _, .exc h x m a => .exc (e _ _ h) (x.mono e) m (RpA.mono e a)
theorem RpA.mono (e : Same F F') : ∀ {vs : List V} {ds : List D}, RpA K mg F vs ds → RpA K mg F' vs ds
  | _, _, .nil => .nil
  | _, _, .cons h t => .cons (Rp.mono e h) (RpA.mono e t)
end
theorem RpA.length : ∀ {vs : List V} {ds : List D}, RpA K mg F vs ds → vs.length = ds.length
  | _, _, .nil => rfl
  | _, _, .cons _ t => congrArg (· + 1) (RpA.length t)
theorem RpA.get : ∀ {vs : List V} {ds : List D} {i : Nat} {d : D}, RpA K mg F vs ds → ds[i]? = some d → ∃ v, vs[i]? = some v ∧ Rp K mg F v d
  | _, _, _, _, .nil, e => by simp at e
  | _, _, 0, _, .cons h _, e => by simp at e; subst e; exact ⟨_, rfl, h⟩
  | _, _, i + 1, _, .cons _ t, e => by
    obtain ⟨v, h1, h2⟩ := RpA.get (i := i) t (by simpa using e)
    exact ⟨v, by simpa using h1, h2⟩
theorem RpA.getV : ∀ {vs : List V} {ds : List D} {i : Nat} {v : V}, RpA K mg F vs ds → vs[i]? = some v → ∃ d, ds[i]? = some d ∧ Rp K mg F v d
  | _, _, _, _, .nil, e => by simp at e
  | _, _, 0, _, .cons h _, e => by simp at e; subst e; exact ⟨_, rfl, h⟩
  | _, _, i + 1, _, .cons _ t, e => by
    obtain ⟨v, h1, h2⟩ := RpA.getV (i := i) t (by simpa using e)
    exact ⟨v, by simpa using h1, h2⟩
theorem RpA.append : ∀ {vs us : List V} {ds es : List D}, RpA K mg F vs ds → RpA K mg F us es → RpA K mg F (vs ++ us) (ds ++ es)
  | _, _, _, _, .nil, s => s
  | _, _, _, _, .cons h t, s => .cons h (RpA.append t s)
theorem RpA.take : ∀ {vs : List V} {ds : List D} (n : Nat), RpA K mg F vs ds → RpA K mg F (vs.take n) (ds.take n)
  | _, _, 0, _ => .nil
  | _, _, _ + 1, .nil => .nil
  | _, _, n + 1, .cons h t => .cons h (RpA.take n t)
theorem RpA.drop : ∀ {vs : List V} {ds : List D} (n : Nat), RpA K mg F vs ds → RpA K mg F (vs.drop n) (ds.drop n)
  | _, _, 0, h => h
  | _, _, _ + 1, .nil => .nil
  | _, _, n + 1, .cons _ t => RpA.drop n t
theorem RpA.set {v : V} {d : D} (r : Rp K mg F v d) : ∀ {vs : List V} {ds : List D} (n : Nat), RpA K mg F vs ds → RpA K mg F (vs.set n v) (ds.set n d)
  | _, _, _, .nil => .nil
  | _, _, 0, .cons _ t => .cons r t
  | _, _, n + 1, .cons h t => .cons h (RpA.set r n t)
theorem RpA.reverse {vs : List V} {ds : List D} (h : RpA K mg F vs ds) : RpA K mg F vs.reverse ds.reverse := by
  induction vs generalizing ds with
  | nil => cases h; exact .nil
  | cons v vs ih =>
    cases h with
    | cons h t =>
      rw [List.reverse_cons, List.reverse_cons]
      exact (ih t).append (.cons h .nil)
theorem RpA.rep {vs : List V} {ds : List D} (h : RpA K mg F vs ds) : ∀ n : Nat, RpA K mg F (List.replicate n vs).flatten (List.replicate n ds).flatten
  | 0 => .nil
  | n + 1 => by
    rw [List.replicate_succ, List.replicate_succ, List.flatten_cons, List.flatten_cons]
    exact h.append (RpA.rep h n)
mutual
def plain : D → Bool
  | .list ds => plainAll ds
  | .tuple ds => plainAll ds
  | .dict _ => false
  | _ => true
def plainAll : List D → Bool
  | [] => true
  | d :: ds => plain d && plainAll ds
end
mutual
theorem Rp.toDp (e : Same F H) : ∀ {v : V} {d : D}, Rp K mg F v d → plain d = true → Dp K H v d
  | _, _, .non, _ => .non
  | _, _, .bl b, _ => .bl b
  | _, _, .int i, _ => .int i
  | _, _, .str x, _ => .str x
  | _, _, .lst h a, p => .lst (h.mono e).sql (RpA.toDp e a (by simpa [plain] using p))
  | _, _, .tup h a, p => .tup (sqT_same e h.t) (RpA.toDp e a (by simpa [plain] using p))
  | _, _, .dct _ _, p => by simp [plain] at p
  | _, _, .obj _ _ _, p => by simp [plain] at p
  | _, _, .exc _ _ _ _, p => by simp [plain] at p
theorem RpA.toDp (e : Same F H) : ∀ {vs : List V} {ds : List D}, RpA K mg F vs ds → plainAll ds = true → DpAll K H vs ds
  | _, _, .nil, _ => .nil
  | _, _, .cons h t, p => by
    simp only [plainAll, Bool.and_eq_true] at p
    exact .cons (Rp.toDp e h p.1) (RpA.toDp e t p.2)
end
end

/-! ### what a run of the mirror gives -/
inductive ER where
  | bad | ok (d : D) (ρ : En) | exn (x : D) (ρ : En)
inductive SR where
  | bad | nx (ρ : En) | rt (d : D) (ρ : En) | bk (ρ : En) | ct (ρ : En) | exn (x : D) (ρ : En)
inductive FR where
  | bad | ok (d : D) (io : List D) | exn (x : D) (io : List D)
abbrev ME := En → ER
abbrev MS := En → SR
abbrev Fn := List D → FR

/-! ### modes of slots -/
inductive Md where
  | dead | val | own | bor | io (k : Nat) | lk (k : Nat) | oo
  deriving DecidableEq
structure Gh where
  K : Fr
  mg : Mg
  F0 : Hp
  H0 : Hp
  ios : List Addr
  /-- lists that stand still for now -/
  pr : List (Addr × List V)
/-- a list whose items are frozen, itself perhaps not -/
def Lv (K : Fr) (mg : Mg) (F H : Hp) (a : Addr) (v : V) (d : D) : Prop := ∃ xs ds, v = .ref a ∧ d = .list ds ∧ H a = some (.lst xs) ∧ RpA K mg F xs ds
def Bv (K : Fr) (mg : Mg) (F H : Hp) (v : V) (d : D) : Prop := Rp K mg F v d ∨ ∃ a, Lv K mg F H a v d
/-- what nobody else holds -/
def Mine (g : Gh) (F : Hp) (a : Addr) : Prop := F a = none ∧ g.H0 a = none ∧ ∀ p ∈ g.pr, p.1 ≠ a
/-- a row that holds things -/
def Cn (H : Hp) (a : Addr) (xs : List V) (ds : List D) (d : D) : Prop := (d = .list ds ∧ H a = some (.lst xs)) ∨ (d = .tuple ds ∧ ∃ o, H a = some (.frz o (.tup xs)) ∧ o.cls = .type "tuple" ∧ o.dict = none)
def ItsR (H : Hp) (a : Addr) (xs : List V) : Prop := H a = some (.lst xs) ∨ ∃ o, H a = some (.frz o (.tup xs))
def Frn (g : Gh) (F : Hp) (v : V) (d : D) : Prop := Rp g.K g.mg F v d ∧ (∀ c, v = .ref c → F c ≠ none) ∧ ∀ ds, d ≠ .list ds
/-- an item: frozen, or a list of its own -/
def NsI (g : Gh) (F H : Hp) (x : V) (d : D) : Prop := Frn g F x d ∨ ∃ b, Lv g.K g.mg F H b x d ∧ Mine g F b
structure NsC (g : Gh) (F H : Hp) (a : Addr) (xs : List V) (ds : List D) (d : D) : Prop where
  cn : Cn H a xs ds d
  mine : Mine g F a
  its : Paired (NsI g F H) xs ds
  apart : ∀ (i j : Nat) (c : Addr), xs[i]? = some (.ref c) → xs[j]? = some (.ref c) → F c = none → i = j
  self : ∀ x ∈ xs, x ≠ .ref a
/-- a row of rows -/
def Ns (g : Gh) (F H : Hp) (v : V) (d : D) : Prop := Frn g F v d ∨ ∃ a xs ds, v = .ref a ∧ NsC g F H a xs ds d
/-- the objects that a slot alone holds -/
def Ft (F H : Hp) : Md → V → Addr → Prop
  | .own, v, c => v = .ref c
  | .oo, v, c => F c = none ∧ ∃ a, v = .ref a ∧ F a = none ∧ (c = a ∨ ∃ xs, ItsR H a xs ∧ V.ref c ∈ xs)
  | _, _, _ => False
def SlotOk (g : Gh) (F H : Hp) : Md → V → D → Prop
  | .oo, v, d => Ns g F H v d
  | .dead, _, _ => True
  | .val, v, d => Rp g.K g.mg F v d
  | .own, v, d => ∃ a, Lv g.K g.mg F H a v d ∧ F a = none ∧ g.H0 a = none ∧ ∀ p ∈ g.pr, p.1 ≠ a
  | .bor, v, d => Rp g.K g.mg F v d ∨ ∃ a, Lv g.K g.mg F g.H0 a v d ∧ a ∉ g.ios
  | .io k, v, d => ∃ a, g.ios[k]? = some a ∧ Lv g.K g.mg F H a v d ∧ F a = none
  | .lk k, v, d => ∃ a xs ds, g.pr[k]? = some (a, xs) ∧ v = .ref a ∧ d = .list ds ∧ RpA g.K g.mg F xs ds
structure Rel (g : Gh) (F : Hp) (ms : List Md) (ρ : En) (σ : Sg) (H : Hp) : Prop where
  sub : Same F H
  grow : Same g.F0 F
  keepF : ∀ a, g.H0 a ≠ none → F a = g.F0 a
  frame : ∀ a o, g.H0 a = some o → a ∉ g.ios → H a = some o
  dom : ∀ a, g.H0 a ≠ none → H a ≠ none
  ioH : ∀ a ∈ g.ios, g.H0 a ≠ none
  ioN : g.ios.Nodup
  prot : ∀ p ∈ g.pr, H p.1 = some (.lst p.2) ∧ F p.1 = none ∧ p.1 ∉ g.ios
  lm : ms.length = σ.length
  lρ : ρ.length = σ.length
  slot : ∀ (i : Nat) (m : Md) (d : D), ms[i]? = some m → m ≠ .dead → ρ[i]? = some (some d) → ∃ v, σ[i]? = some (some v) ∧ SlotOk g F H m v d
  uniq : ∀ (i j : Nat) (mi mj : Md) (d e : D) (u w : V) (c : Addr), ms[i]? = some mi → ms[j]? = some mj → i ≠ j → ρ[i]? = some (some d) → ρ[j]? = some (some e) → σ[i]? = some (some u) → σ[j]? = some (some w) → Ft F H mi u c → ¬ Ft F H mj w c
  ioU : ∀ (i j k : Nat), ms[i]? = some (.io k) → ms[j]? = some (.io k) → i = j

section
variable {g : Gh} {F F' H H' : Hp} {ms ms' : List Md} {ρ ρ' : En} {σ σ' : Sg}
theorem Lv.mono {K : Fr} {mg : Mg} {a : Addr} {v : V} {d : D} (e : Same F F') (h : Lv K mg F H a v d) (k : ∀ o, H a = some o → H' a = some o) : Lv K mg F' H' a v d := by
  obtain ⟨xs, ds, e1, e2, e3, r⟩ := h
  exact ⟨xs, ds, e1, e2, k _ e3, r.mono e⟩
/-- what may be read -/
abbrev Rdb (m : Md) : Prop := m ≠ .dead ∧ m ≠ .oo
theorem Rel.bv (R : Rel g F ms ρ σ H) {i : Nat} {m : Md} {d : D} {v : V} (hm : ms[i]? = some m) (nd : Rdb m) (hd : ρ[i]? = some (some d)) (hv : σ[i]? = some (some v)) : Bv g.K g.mg F H v d := by
  obtain ⟨v', h1, h2⟩ := R.slot i m d hm nd.1 hd
  rw [hv] at h1
  cases h1
  cases m with
  | dead => exact absurd rfl nd.1
  | oo => exact absurd rfl nd.2
  | val => exact .inl h2
  | own => obtain ⟨a, h3, _⟩ := h2; exact .inr ⟨a, h3⟩
  | bor =>
    rcases h2 with h2 | ⟨a, h3, h4⟩
    · exact .inl h2
    · exact .inr ⟨a, h3.mono (Same.refl _) fun o e => R.frame a o e h4⟩
  | io k => obtain ⟨a, _, h3, _⟩ := h2; exact .inr ⟨a, h3⟩
  | lk k => obtain ⟨a, xs, ds, h3, e1, e2, r⟩ := h2; exact .inr ⟨a, xs, ds, e1, e2, (R.prot _ (List.mem_of_getElem? h3)).1, r⟩

/-- only new objects: F and H grow -/
structure Ext (F H F' H' : Hp) : Prop where
  f : Same F F'
  h : Same H H'
  sub : Same F' H'
  old : ∀ a, H a ≠ none → F' a = F a
theorem Ext.refl (e : Same F H) : Ext F H F H := ⟨Same.refl _, Same.refl _, e, fun _ _ => rfl⟩
theorem Ext.trans {F1 H1 F2 H2 : Hp} (a : Ext F H F1 H1) (b : Ext F1 H1 F2 H2) : Ext F H F2 H2 :=
  ⟨a.f.trans b.f, a.h.trans b.h, b.sub, fun x hx => by
    have h1 : H1 x ≠ none := fun z => by
      cases q : H x with
      | none => exact hx q
      | some o => rw [a.h _ _ q] at z; cases z
    rw [b.old x h1, a.old x hx]⟩
theorem same_upd {H : Hp} {p : Addr} {o : HO} (h : H p = none) : Same H (upd H p o) := fun b x e => by
  rw [upd_ne (ne_of_none e h)]
  exact e
theorem same_upd2 {p : Addr} {o : HO} (e : Same F H) (h : H p = none) : Same (upd F p o) (upd H p o) := fun b x q => by
  by_cases hb : b = p
  · subst hb; rw [upd_same] at q ⊢; exact q
  · rw [upd_ne hb] at q ⊢; exact e _ _ q
theorem free_of (e : Same F H) {p : Addr} (h : H p = none) : F p = none := by
  cases q : F p with
  | none => rfl
  | some o => rw [e _ _ q] at h; cases h
/-- a new object, at once frozen -/
theorem Ext.frz {p : Addr} {o : HO} (e : Same F H) (h : H p = none) : Ext F H (upd F p o) (upd H p o) :=
  ⟨same_upd (free_of e h), same_upd h, same_upd2 e h, fun a ha => upd_ne fun z => by subst z; exact ha h⟩
/-- a new object, not frozen -/
theorem Ext.new {p : Addr} {o : HO} (e : Same F H) (h : H p = none) : Ext F H F (upd H p o) :=
  ⟨Same.refl _, same_upd h, e.trans (same_upd h), fun _ _ => rfl⟩
theorem none_of {a : Addr} (e : Same F F') (h : F' a = none) : F a = none := by
  cases q : F a with
  | none => rfl
  | some o => rw [e _ _ q] at h; cases h
theorem Mine.ext (x : Ext F H F' H') {a : Addr} (ha : H a ≠ none) (m : Mine g F a) : Mine g F' a := ⟨by rw [x.old a ha]; exact m.1, m.2⟩
theorem Frn.mono {v : V} {d : D} (e : Same F F') (h : Frn g F v d) : Frn g F' v d := ⟨h.1.mono e, fun c ec z => h.2.1 c ec (none_of e z), h.2.2⟩
theorem Lv.ne0 {K : Fr} {mg : Mg} {a : Addr} {v : V} {d : D} (h : Lv K mg F H a v d) : H a ≠ none := by
  obtain ⟨_, _, _, _, q, _⟩ := h; rw [q]; simp
theorem Lv.ref {K : Fr} {mg : Mg} {a : Addr} {v : V} {d : D} (h : Lv K mg F H a v d) : v = .ref a := by
  obtain ⟨_, _, e, _⟩ := h; exact e
theorem NsI.mono {v : V} {d : D} (e : Same F F') (hm : ∀ b, v = .ref b → Mine g F b → H b ≠ none → Mine g F' b ∧ ∀ o, H b = some o → H' b = some o) (h : NsI g F H v d) : NsI g F' H' v d := by
  rcases h with h | ⟨b, l, m⟩
  · exact .inl (h.mono e)
  · have q := hm b l.ref m l.ne0
    exact .inr ⟨b, l.mono e q.2, q.1⟩
theorem Cn.mono {a : Addr} {xs : List V} {ds : List D} {d : D} (h : Cn H a xs ds d) (k : ∀ o, H a = some o → H' a = some o) : Cn H' a xs ds d := by
  rcases h with ⟨e, h⟩ | ⟨e, o, h, q⟩
  · exact .inl ⟨e, k _ h⟩
  · exact .inr ⟨e, o, k _ h, q⟩
theorem Cn.its {a : Addr} {xs : List V} {ds : List D} {d : D} (h : Cn H a xs ds d) : ItsR H a xs := by
  rcases h with ⟨_, h⟩ | ⟨_, o, h, _⟩
  · exact .inl h
  · exact .inr ⟨o, h⟩
theorem ItsR.ne0 {a : Addr} {xs : List V} (h : ItsR H a xs) : H a ≠ none := by
  rcases h with h | ⟨o, h⟩ <;> (rw [h]; simp)
theorem ItsR.uniq {a : Addr} {xs ys : List V} (h : ItsR H a xs) (k : ItsR H a ys) : xs = ys := by
  rcases h with h | ⟨o, h⟩ <;> rcases k with k | ⟨o2, k⟩ <;> (rw [h] at k; cases k) <;> rfl
theorem ItsR.mono {a : Addr} {xs : List V} (h : ItsR H a xs) (k : ∀ o, H a = some o → H' a = some o) : ItsR H' a xs := by
  rcases h with h | ⟨o, h⟩
  · exact .inl (k _ h)
  · exact .inr ⟨o, k _ h⟩
theorem Paired.imp {α β : Type} {P P' : α → β → Prop} : ∀ {xs : List α} {ys : List β}, Paired P xs ys → (∀ x ∈ xs, ∀ y, P x y → P' x y) → Paired P' xs ys
  | _, _, .nil, _ => .nil
  | _, _, .cons r t, h => .cons (h _ List.mem_cons_self _ r) (Paired.imp t fun x hx y => h x (List.mem_cons_of_mem _ hx) y)
theorem Paired.memL {α β : Type} {P : α → β → Prop} {x : α} : ∀ {xs : List α} {ys : List β}, Paired P xs ys → x ∈ xs → ∃ y, P x y
  | _, _, .nil, h => by cases h
  | _, _, .cons r t, h => by
    rcases List.mem_cons.mp h with rfl | h
    · exact ⟨_, r⟩
    · exact Paired.memL t h
/-- a row of rows stands while what it holds stands -/
theorem NsC.mono {a : Addr} {xs : List V} {ds : List D} {d : D} (h : NsC g F H a xs ds d) (e : Same F F') (hm : ∀ b, (b = a ∨ V.ref b ∈ xs) → Mine g F b → H b ≠ none → Mine g F' b ∧ ∀ o, H b = some o → H' b = some o) : NsC g F' H' a xs ds d := by
  have q := hm a (.inl rfl) h.mine h.cn.its.ne0
  exact ⟨h.cn.mono q.2, q.1, Paired.imp h.its fun x hx y r => r.mono e fun b eb mb hb => hm b (.inr (by rw [← eb]; exact hx)) mb hb, fun i j c h1 h2 hc => h.apart i j c h1 h2 (none_of e hc), h.self⟩
/-- what a slot alone holds is nobody else's -/
theorem Ft.mine {m : Md} {v : V} {d : D} {c : Addr} (so : SlotOk g F H m v d) (h : Ft F H m v c) : Mine g F c ∧ H c ≠ none := by
  cases m with
  | own => obtain ⟨a, l, hf, h0, hp⟩ := so; have e := l.ref; rw [show v = .ref c from h] at e; cases e; exact ⟨⟨hf, h0, hp⟩, l.ne0⟩
  | oo =>
    obtain ⟨hc, a, ev, ha, h⟩ := h
    rcases so with ⟨_, k, _⟩ | ⟨b, xs, ds, eb, k⟩
    · exact absurd ha (k a ev)
    · rw [ev] at eb; cases eb
      rcases h with rfl | ⟨ys, hi, hm⟩
      · exact ⟨k.mine, k.cn.its.ne0⟩
      · rw [hi.uniq k.cn.its] at hm
        obtain ⟨y, r⟩ := Paired.memL k.its hm
        rcases r with ⟨_, r, _⟩ | ⟨b, l, m⟩
        · exact absurd hc (r c rfl)
        · have := l.ref; cases this; exact ⟨m, l.ne0⟩
  | _ => exact h.elim
/-- .. and stays that as long as the row stands -/
theorem Ft.back {m : Md} {v : V} {d : D} {c : Addr} (e : Same F F') (so : SlotOk g F H m v d) (hk : ∀ a, m = .oo → v = .ref a → Mine g F a → H a ≠ none → ∀ o, H a = some o → H' a = some o) (h : Ft F' H' m v c) : Ft F H m v c := by
  cases m with
  | own => exact h
  | oo =>
    obtain ⟨hc, a, ev, ha, h⟩ := h
    have ha := none_of e ha
    refine ⟨none_of e hc, a, ev, ha, ?_⟩
    rcases so with ⟨_, k, _⟩ | ⟨b, xs, ds, eb, k⟩
    · exact absurd ha (k a ev)
    · rw [ev] at eb; cases eb
      rcases h with rfl | ⟨ys, hi, hm⟩
      · exact .inl rfl
      · rw [hi.uniq (k.cn.its.mono (hk a rfl ev k.mine k.cn.its.ne0))] at hm
        exact .inr ⟨xs, k.cn.its, hm⟩
  | _ => exact h
theorem SlotOk.ext (x : Ext F H F' H') {m : Md} {v : V} {d : D} (h : SlotOk g F H m v d) : SlotOk g F' H' m v d := by
  cases m with
  | dead => trivial
  | oo =>
    rcases h with h | ⟨a, xs, ds, ev, k⟩
    · exact .inl (h.mono x.f)
    · exact .inr ⟨a, xs, ds, ev, k.mono x.f fun b _ mb hb => ⟨mb.ext x hb, fun o e => x.h _ _ e⟩⟩
  | val => exact Rp.mono x.f h
  | own =>
    obtain ⟨a, hl, hf, h0, hp⟩ := h
    have ha : H a ≠ none := by obtain ⟨_, _, _, _, q, _⟩ := hl; rw [q]; simp
    exact ⟨a, hl.mono x.f fun o e => x.h _ _ e, by rw [x.old a ha]; exact hf, h0, hp⟩
  | bor =>
    rcases h with h | ⟨a, hl, hn⟩
    · exact .inl (h.mono x.f)
    · exact .inr ⟨a, hl.mono x.f fun _ e => e, hn⟩
  | io k =>
    obtain ⟨a, hk, hl, hf⟩ := h
    have ha : H a ≠ none := by obtain ⟨_, _, _, _, q, _⟩ := hl; rw [q]; simp
    exact ⟨a, hk, hl.mono x.f fun o e => x.h _ _ e, by rw [x.old a ha]; exact hf⟩
  | lk k => obtain ⟨a, xs, ds, h1, e1, e2, r⟩ := h; exact ⟨a, xs, ds, h1, e1, e2, r.mono x.f⟩
theorem Rel.at_slot (R : Rel g F ms ρ σ H) {i : Nat} {m : Md} {d : D} {v : V} (hm : ms[i]? = some m) (hd : ρ[i]? = some (some d)) (hv : σ[i]? = some (some v)) (nd : m ≠ .dead) : SlotOk g F H m v d := by
  obtain ⟨v', h1, h2⟩ := R.slot i m d hm nd hd
  rw [hv] at h1; cases h1
  exact h2
theorem Ft.nd {m : Md} {v : V} {c : Addr} (h : Ft F H m v c) : m ≠ .dead := fun z => by subst z; exact h
/-- two own lists are apart -/
theorem Rel.uniqO (R : Rel g F ms ρ σ H) (i j : Nat) (d e : D) (a : Addr) (h1 : ms[i]? = some .own) (h2 : ms[j]? = some .own) (n : i ≠ j) (h3 : ρ[i]? = some (some d)) (h4 : ρ[j]? = some (some e)) (h5 : σ[i]? = some (some (.ref a))) : σ[j]? ≠ some (some (.ref a)) := fun h6 =>
  R.uniq i j .own .own d e _ _ a h1 h2 n h3 h4 h5 h6 rfl rfl
theorem Rel.ext (R : Rel g F ms ρ σ H) (x : Ext F H F' H') : Rel g F' ms ρ σ H' where
  sub := x.sub
  grow := R.grow.trans x.f
  keepF := fun a ha => by rw [x.old a (R.dom a ha)]; exact R.keepF a ha
  frame := fun a o e n => x.h _ _ (R.frame a o e n)
  dom := fun a ha z => by
    cases q : H a with
    | none => exact R.dom a ha q
    | some o => rw [x.h _ _ q] at z; cases z
  ioH := R.ioH
  ioN := R.ioN
  prot := fun p hp => by
    obtain ⟨h1, h2, h3⟩ := R.prot p hp
    exact ⟨x.h _ _ h1, by rw [x.old p.1 (by rw [h1]; simp)]; exact h2, h3⟩
  lm := R.lm
  lρ := R.lρ
  slot := fun i m d hm nd hd => by
    obtain ⟨v, h1, h2⟩ := R.slot i m d hm nd hd
    exact ⟨v, h1, h2.ext x⟩
  uniq := fun i j mi mj d e u w c h1 h2 n h3 h4 h5 h6 f1 f2 => by
    have s1 := R.at_slot h1 h3 h5 (fun z => by subst z; exact f1)
    have s2 := R.at_slot h2 h4 h6 (fun z => by subst z; exact f2)
    exact R.uniq i j mi mj d e u w c h1 h2 n h3 h4 h5 h6 (f1.back x.f s1 fun a _ _ _ _ o q => x.h _ _ q) (f2.back x.f s2 fun a _ _ _ _ o q => x.h _ _ q)
  ioU := R.ioU

/-- a list that nobody holds -/
structure Free (g : Gh) (F H : Hp) (ms : List Md) (ρ : En) (σ : Sg) (a : Addr) : Prop where
  h0 : g.H0 a = none
  f : F a = none
  pr : ∀ p ∈ g.pr, p.1 ≠ a
  slots : ∀ (j : Nat) (m : Md) (e : D) (u : V), ms[j]? = some m → ρ[j]? = some (some e) → σ[j]? = some (some u) → ¬ Ft F H m u a
/-- it is frozen -/
theorem Rel.freeze (R : Rel g F ms ρ σ H) {a : Addr} {o : HO} (f : Free g F H ms ρ σ a) (ha : H a = some o) : Rel g (upd F a o) ms ρ σ H := by
  have sF : Same F (upd F a o) := same_upd f.f
  refine { R with sub := fun b x q => ?_, grow := R.grow.trans sF, keepF := fun b hb => ?_, prot := fun p hp => ?_, slot := fun i m d hm nd hd => ?_, uniq := fun i j mi mj d e u w c h1 h2 n h3 h4 h5 h6 f1 f2 => ?_ }
  rotate_right
  · exact R.uniq i j mi mj d e u w c h1 h2 n h3 h4 h5 h6 (f1.back sF (R.at_slot h1 h3 h5 f1.nd) fun _ _ _ _ _ _ q => q) (f2.back sF (R.at_slot h2 h4 h6 f2.nd) fun _ _ _ _ _ _ q => q)
  · by_cases hb : b = a
    · subst hb; rw [upd_same] at q; cases q; exact ha
    · rw [upd_ne hb] at q; exact R.sub _ _ q
  · rw [upd_ne fun z => by subst z; exact hb f.h0]; exact R.keepF b hb
  · obtain ⟨h1, h2, h3⟩ := R.prot p hp
    exact ⟨h1, by rw [upd_ne (f.pr p hp)]; exact h2, h3⟩
  · obtain ⟨v, h1, h2⟩ := R.slot i m d hm nd hd
    refine ⟨v, h1, ?_⟩
    cases m with
    | dead => trivial
    | oo =>
      rcases h2 with h2 | ⟨b, xs, ds, ev, k⟩
      · exact .inl (h2.mono sF)
      · refine .inr ⟨b, xs, ds, ev, k.mono sF fun c hc mc _ => ⟨⟨?_, mc.2⟩, fun _ q => q⟩⟩
        rw [upd_ne fun z => ?_]
        · exact mc.1
        · subst z
          refine f.slots i .oo d v hm hd h1 ⟨mc.1, b, ev, k.mine.1, ?_⟩
          rcases hc with hc | hc
          · exact .inl hc
          · exact .inr ⟨xs, k.cn.its, hc⟩
    | val => exact Rp.mono sF h2
    | own =>
      obtain ⟨b, hl, hf, h0, hp⟩ := h2
      refine ⟨b, hl.mono sF fun _ e => e, ?_, h0, hp⟩
      rw [upd_ne fun z => ?_]
      · exact hf
      · subst z
        obtain ⟨_, _, e1, _⟩ := hl
        subst e1
        exact f.slots i .own d _ hm hd h1 rfl
    | bor =>
      rcases h2 with h | ⟨b, hl, hn⟩
      · exact .inl (h.mono sF)
      · exact .inr ⟨b, hl.mono sF fun _ e => e, hn⟩
    | io k =>
      obtain ⟨b, hk, hl, hf⟩ := h2
      refine ⟨b, hk, hl.mono sF fun _ e => e, ?_⟩
      rw [upd_ne fun z => ?_]
      · exact hf
      · subst z
        exact R.ioH b (List.mem_of_getElem? hk) f.h0
    | lk k => obtain ⟨b, xs, ds, h3, e1, e2, r⟩ := h2; exact ⟨b, xs, ds, h3, e1, e2, r.mono sF⟩
theorem Free.ext (R : Rel g F ms ρ σ H) (x : Ext F H F' H') {a : Addr} (ha : H a ≠ none) (f : Free g F H ms ρ σ a) : Free g F' H' ms ρ σ a :=
  ⟨f.h0, by rw [x.old a ha]; exact f.f, f.pr, fun j m e u h1 h2 h3 h4 => f.slots j m e u h1 h2 h3 (h4.back x.f (R.at_slot h1 h2 h3 h4.nd) fun _ _ _ _ _ o q => x.h _ _ q)⟩
/-- what is new is free -/
theorem Rel.free (R : Rel g F ms ρ σ H) {p : Addr} {o : HO} (h : H p = none) : Free g F (upd H p o) ms ρ σ p where
  h0 := by
    cases q : g.H0 p with
    | none => rfl
    | some o => exact absurd h (R.dom p (by rw [q]; simp))
  f := free_of R.sub h
  pr := fun q hq z => by
    have := (R.prot q hq).1
    rw [z, h] at this
    cases this
  slots := fun j m e u hm he hs ft => by
    have so := R.at_slot hm he hs ft.nd
    have sh : Same H (upd H p o) := same_upd h
    exact ((ft.back (Same.refl _) so fun _ _ _ _ _ o q => sh _ _ q).mine so).2 h
end
end Mr

/-! tuples that are made: the object is told -/
namespace Mr
open PySem PySem.Spec PyProof.Rows L2
/-- what a new tuple gives -/
def NewT (H : Hp) (xs : List V) (Q : VK) : Prop := ∀ p o, H p = none → o.cls = .type "tuple" → o.dict = none → Q (.ref p) (upd H p (.frz o (.tup xs)))
section
variable {X : Cx} {pins : List (Addr × Obj)} {σ : Sg} {H : Hp} {s : Shared} {xs : List V} {its : List Value} {Q : VK}
theorem newT (I : Inv X pins σ H s) (r : Vals xs its) (hz : xs.length ≤ sizeLine) (q : NewT H xs Q) : EP X pins σ Q (.ref s.heap.objs.size) { s with heap := s.heap.push { cls := .type "tuple", data := .seq its.toArray } } := by
  have gt := Heap.get?_push_size s.heap (o := { cls := .type "tuple", data := .seq its.toArray }) rfl
  have ok : ObjOk X.prog X.w (upd H s.heap.objs.size (.frz { cls := .type "tuple", data := .seq its.toArray } (.tup xs))) (s.heap.push { cls := .type "tuple", data := .seq its.toArray }) s.heap.objs.size (.frz { cls := .type "tuple", data := .seq its.toArray } (.tup xs)) :=
    ⟨gt, hz, its, r, ⟨_, gt, rfl, _, rfl⟩⟩
  exact ⟨.ref s.heap.objs.size, _, I.laid (t' := s.toks) (fun _ _ e => Heap.get?_push_of_some _ e) (Nat.le_refl _) ok, rfl, q _ _ (I.hok.fresh (Nat.le_refl _)) rfl rfl⟩
end
section
variable {X : Cx} {es : List Expr} {t : TA} {pos : Pos}
def tTupF (t : TA) : TE := fun σ H Q => t σ H fun xs H1 => xs.length ≤ sizeLine ∧ NewT H1 xs Q
theorem pe_tupF {k} (h : PA X es t) : PE X (.Tuple es k pos) (tTupF t) :=
  ⟨fun pins s σ H Q I hq => wpAny_Tuple_spliced (thn (h.run pos pins s σ H _ I hq) fun us s1 ⟨xs, H1, I1, r, z, q⟩ => ⟨by rw [← r.length]; exact z, newT I1 r z q⟩)⟩
def rTupF (K : Fr) : List V → Hp → VK → Prop := fun xs H Q => ∃ p ys, xs = [.ref p] ∧ ((SqL K H p ys ∧ NewT H ys Q) ∨ (SqT K H p ys ∧ Q (.ref p) H))
theorem call_tupleF : CallR X (.type "tuple") (rTupF X.K) := by
  intro pins s σ H xs us Q I r h
  obtain ⟨p, ys, rfl, h⟩ := h
  obtain ⟨u, rfl, rx⟩ := vals1 r
  cases rx
  rcases h with ⟨hq, q⟩ | ⟨hq, q⟩
  · obtain ⟨its, r', pl, hz⟩ := I.list hq
    have hn := r'.length
    exact call_tuple_list pl.isList (fun h' kp => newT (I.kept (t' := s.toks) kp) r' hz q) (by simp only [List.size_toArray] <;> omega)
  · obtain ⟨its, _, pl, _⟩ := I.tuple hq
    exact call_tuple_same pl ⟨.ref p, H, I, rfl, q⟩
def rCatF (K : Fr) : R2 := fun x y H Q => ∃ a b xs ys, x = .ref a ∧ y = .ref b ∧ SqT K H a xs ∧ SqT K H b ys ∧ xs.length + ys.length ≤ sizeLine ∧
  (xs = [] → Q (.ref b) H) ∧ (xs ≠ [] → ys = [] → Q (.ref a) H) ∧ (xs ≠ [] → ys ≠ [] → NewT H (xs ++ ys) Q)
theorem op_catF : OpR X (binaryOp .Add) (rCatF X.K) := by
  intro pins s σ H x y v u Q I rx ry h
  obtain ⟨a, b, xs, ys, rfl, rfl, ha, hb, hz, q0, q1, q2⟩ := h
  cases rx
  cases ry
  obtain ⟨its, r1, p1, _⟩ := I.tuple ha
  obtain ⟨its2, r2, p2, _⟩ := I.tuple hb
  cases xs with
  | nil => cases r1; exact cat_tup0 p1 p2 ⟨.ref b, H, I, rfl, q0 rfl⟩
  | cons x0 xs0 =>
    have nx : x0 :: xs0 ≠ [] := by simp
    refine HT.cat_tup p1 p2 (fun z => nx (r1.nil_iff.mp z)) (fun z => ⟨.ref a, H, I, rfl, q1 nx (r2.nil_iff.mp z)⟩) (fun z => ?_) (by rw [← r1.length, ← r2.length]; exact hz)
    exact newT I (r1.append r2) (by rw [List.length_append]; exact hz) (q2 nx fun e => z (r2.nil_iff.mpr e))
def rCutF (K : Fr) : V → Option Int → Option Int → Hp → VK → Prop := fun x lo hi H Q => ∃ a xs, x = .ref a ∧ SqT K H a xs ∧
  (HT.sIx xs.length 0 lo = 0 ∧ HT.sIx xs.length xs.length hi = xs.length → Q (.ref a) H) ∧ (¬ (HT.sIx xs.length 0 lo = 0 ∧ HT.sIx xs.length xs.length hi = xs.length) → NewT H (cutV xs lo hi) Q)
theorem sl_tupF : SlR X (rCutF X.K) := by
  intro pins s σ H x v vl vu lo hi sl Q I rx hs pl pu h
  obtain ⟨a, xs, rfl, hx, q1, q2⟩ := h
  cases rx
  obtain ⟨its, r, ht, hz⟩ := I.tuple hx
  have hn : its.toArray.size = xs.length := by rw [List.size_toArray]; exact r.length.symm
  refine ⟨"tuple", _, PyProof.Rows.slot_tuple_getitem.lookup, ht.typeIs, ?_⟩
  by_cases hw : HT.sIx xs.length 0 lo = 0 ∧ HT.sIx xs.length xs.length hi = xs.length
  · exact getItem_tuple_whole ht hs pl pu (by rw [hn]; exact hw) ⟨.ref a, H, I, rfl, q1 hw⟩
  · refine HT.getItem_tuple_cut ht hs pl pu (by rw [hn]; exact hw) ?_ (by rw [hn]; exact hz)
    rw [hn]
    exact newT I ((r.drop (HT.sIx xs.length 0 lo)).take (HT.sIx xs.length xs.length hi - HT.sIx xs.length 0 lo)) (Nat.le_trans (cutV_length xs lo hi) hz) (q2 hw)
end
end Mr

namespace Mr
open PySem PySem.Spec PyProof.Rows L2

section
variable {g : Gh} {F F' H H' : Hp} {ms ms' : List Md} {ρ ρ' : En} {σ σ' : Sg} {v : V} {d : D} {i : Nat}
/-! ### slots are set -/
def wkB : List Md → List Md → Bool
  | [], [] => true
  | m :: r, m' :: r' => (decide (m' = .dead) || decide (m = m')) && wkB r r'
  | _, _ => false
theorem wkB_get : ∀ {ms ms' : List Md} {i : Nat} {m' : Md}, wkB ms ms' = true → ms'[i]? = some m' → m' = .dead ∨ ms[i]? = some m'
  | [], [], _, _, _, h => by simp at h
  | m :: r, n :: r', 0, m', w, h => by
    simp at h; subst h
    simp only [wkB, Bool.and_eq_true, Bool.or_eq_true, decide_eq_true_eq] at w
    rcases w.1 with e | e
    · exact .inl e
    · exact .inr (by simp [e])
  | m :: r, n :: r', i + 1, m', w, h => by
    simp only [wkB, Bool.and_eq_true] at w
    have := wkB_get (i := i) w.2 (by simpa using h)
    simpa using this
  | [], _ :: _, _, _, w, _ => by simp [wkB] at w
  | _ :: _, [], _, _, w, _ => by simp [wkB] at w
theorem wkB_len : ∀ {ms ms' : List Md}, wkB ms ms' = true → ms.length = ms'.length
  | [], [], _ => rfl
  | _ :: r, _ :: r', w => by
    simp only [wkB, Bool.and_eq_true] at w
    exact congrArg (· + 1) (wkB_len w.2)
  | [], _ :: _, w => by simp [wkB] at w
  | _ :: _, [], w => by simp [wkB] at w
theorem wkB_refl : ∀ ms : List Md, wkB ms ms = true
  | [] => rfl
  | m :: r => by simp [wkB, wkB_refl r]
theorem Rel.weak (R : Rel g F ms ρ σ H) (w : wkB ms ms' = true) : Rel g F ms' ρ σ H :=
  { R with
    lm := (wkB_len w).symm.trans R.lm
    slot := fun i m d hm nd hd => by
      rcases wkB_get w hm with e | e
      · exact absurd e nd
      · exact R.slot i m d e nd hd
    uniq := fun i j mi mj d e u x c h1 h2 n h3 h4 h5 h6 f1 f2 => by
      rcases wkB_get w h1 with z | z
      · exact f1.nd z
      · rcases wkB_get w h2 with y | y
        · exact f2.nd y
        · exact R.uniq i j mi mj d e u x c z y n h3 h4 h5 h6 f1 f2
    ioU := fun i j k h1 h2 => by
      rcases wkB_get w h1 with z | z
      · cases z
      · rcases wkB_get w h2 with y | y
        · cases y
        · exact R.ioU i j k z y }
theorem set_ne {α : Type} {l : List α} {i j : Nat} {x : α} (h : j ≠ i) : (l.set i x)[j]? = l[j]? := List.getElem?_set_ne (Ne.symm h)
theorem set_eq {α : Type} {l : List α} {i : Nat} {x : α} (h : i < l.length) : (l.set i x)[i]? = some x := List.getElem?_set_self h
/-- a slot is given a value (frozen or plain) -/
theorem Rel.setVal (R : Rel g F ms ρ σ H) (hi : i < ms.length) (r : Rp g.K g.mg F v d) : Rel g F (ms.set i .val) (ρ.set i (some d)) (σ.set i (some v)) H :=
  { R with
    lm := by simp [R.lm]
    lρ := by simp [R.lρ]
    slot := fun j m e hm nd he => by
      by_cases hj : j = i
      · subst hj
        rw [set_eq hi] at hm
        rw [set_eq (by rw [R.lρ, ← R.lm]; exact hi)] at he
        cases hm; cases he
        exact ⟨v, set_eq (by rw [← R.lm]; exact hi), r⟩
      · rw [set_ne hj] at hm he ⊢
        exact R.slot j m e hm nd he
    uniq := fun j k mj mk d1 e1 u x c h1 h2 n h3 h4 h5 h6 f1 f2 => by
      have hj : j ≠ i := fun z => by subst z; rw [set_eq hi] at h1; cases h1; exact f1
      have hk : k ≠ i := fun z => by subst z; rw [set_eq hi] at h2; cases h2; exact f2
      rw [set_ne hj] at h1 h3 h5
      rw [set_ne hk] at h2 h4 h6
      exact R.uniq j k mj mk d1 e1 u x c h1 h2 n h3 h4 h5 h6 f1 f2
    ioU := fun j k n h1 h2 => by
      have hj : j ≠ i := fun z => by subst z; rw [set_eq hi] at h1; cases h1
      have hk : k ≠ i := fun z => by subst z; rw [set_eq hi] at h2; cases h2
      rw [set_ne hj] at h1
      rw [set_ne hk] at h2
      exact R.ioU j k n h1 h2 }
/-- a slot is given a list that nobody holds -/
theorem Rel.setOwn (R : Rel g F ms ρ σ H) (hi : i < ms.length) {a : Addr} (f : Free g F H ms ρ σ a) (hl : Lv g.K g.mg F H a v d) : Rel g F (ms.set i .own) (ρ.set i (some d)) (σ.set i (some v)) H :=
  { R with
    lm := by simp [R.lm]
    lρ := by simp [R.lρ]
    slot := fun j m e hm nd he => by
      by_cases hj : j = i
      · subst hj
        rw [set_eq hi] at hm
        rw [set_eq (by rw [R.lρ, ← R.lm]; exact hi)] at he
        cases hm; cases he
        exact ⟨v, set_eq (by rw [← R.lm]; exact hi), a, hl, f.f, f.h0, f.pr⟩
      · rw [set_ne hj] at hm he ⊢
        exact R.slot j m e hm nd he
    uniq := fun j k mj mk d1 e1 u x c h1 h2 n h3 h4 h5 h6 f1 f2 => by
      have ev : v = .ref a := by obtain ⟨_, _, z, _⟩ := hl; exact z
      have hσ : i < σ.length := by rw [← R.lm]; exact hi
      by_cases hj : j = i
      · subst hj
        have hk : k ≠ j := Ne.symm n
        rw [set_eq hσ] at h5
        rw [set_eq hi] at h1
        cases h5; cases h1
        rw [set_ne hk] at h2 h4 h6
        have ec : v = .ref c := f1
        rw [ev] at ec; cases ec
        exact f.slots k mk e1 x h2 h4 h6 f2
      · rw [set_ne hj] at h1 h3 h5
        by_cases hk : k = i
        · subst hk
          rw [set_eq hσ] at h6
          rw [set_eq hi] at h2
          cases h6; cases h2
          have ec : v = .ref c := f2
          rw [ev] at ec; cases ec
          exact f.slots j mj d1 u h1 h3 h5 f1
        · rw [set_ne hk] at h2 h4 h6
          exact R.uniq j k mj mk d1 e1 u x c h1 h2 n h3 h4 h5 h6 f1 f2
    ioU := fun j k n h1 h2 => by
      have hj : j ≠ i := fun z => by subst z; rw [set_eq hi] at h1; cases h1
      have hk : k ≠ i := fun z => by subst z; rw [set_eq hi] at h2; cases h2
      rw [set_ne hj] at h1
      rw [set_ne hk] at h2
      exact R.ioU j k n h1 h2 }
/-- what may be written: a slot's own list, or one of the caller's -/
def wrB : Md → Bool
  | .own => true
  | .io _ => true
  | _ => false
theorem Rel.at_wr (R : Rel g F ms ρ σ H) {m : Md} (hm : ms[i]? = some m) (w : wrB m = true) (hd : ρ[i]? = some (some d)) : ∃ a xs ds, σ[i]? = some (some (.ref a)) ∧ d = .list ds ∧ H a = some (.lst xs) ∧ RpA g.K g.mg F xs ds ∧ F a = none := by
  have nd : m ≠ .dead := fun z => by subst z; cases w
  obtain ⟨v, h1, h2⟩ := R.slot i m d hm nd hd
  cases m with
  | own => obtain ⟨a, ⟨xs, ds, e1, e2, e3, r⟩, hf, _⟩ := h2; subst e1; exact ⟨a, xs, ds, h1, e2, e3, r, hf⟩
  | io k => obtain ⟨a, _, ⟨xs, ds, e1, e2, e3, r⟩, hf⟩ := h2; subst e1; exact ⟨a, xs, ds, h1, e2, e3, r, hf⟩
  | _ => cases w
theorem Rel.write (R : Rel g F ms ρ σ H) {m : Md} (hm : ms[i]? = some m) (w : wrB m = true) (hd : ρ[i]? = some (some d)) {a : Addr} {xs : List V} {ds : List D} (hs : σ[i]? = some (some (.ref a))) (r : RpA g.K g.mg F xs ds) :
    Rel g F ms (ρ.set i (some (.list ds))) σ (upd H a (.lst xs)) := by
  have nd : m ≠ .dead := fun z => by subst z; cases w
  have hiρ : i < ρ.length := (List.getElem?_eq_some_iff.mp hd).1
  obtain ⟨v, h1, h2⟩ := R.slot i m d hm nd hd
  rw [hs] at h1
  cases h1
  have hF : F a = none := by
    cases m with
    | own => obtain ⟨b, ⟨_, _, e1, _⟩, hf, _⟩ := h2; cases e1; exact hf
    | io k => obtain ⟨b, _, ⟨_, _, e1, _⟩, hf⟩ := h2; cases e1; exact hf
    | _ => cases w
  -- the caller's other things stand
  have h0 : ∀ o, g.H0 a = some o → a ∈ g.ios := fun o e => by
    cases m with
    | own => obtain ⟨b, ⟨_, _, e1, _⟩, _, z, _⟩ := h2; cases e1; rw [z] at e; cases e
    | io k => obtain ⟨b, hk, ⟨_, _, e1, _⟩, _⟩ := h2; cases e1; exact List.mem_of_getElem? hk
    | _ => cases w
  refine { R with sub := fun b o q => ?_, frame := fun b o e n => ?_, dom := fun b hb => ?_, prot := fun p hp => ?_, lρ := by simp [R.lρ], slot := fun j m' e hm' nd' he => ?_, uniq := fun j k mj mk d1 e1 u x c q1 q2 n q3 q4 q5 q6 f1 f2 => ?_ }
  · rw [upd_ne fun z => by subst z; rw [hF] at q; cases q]; exact R.sub _ _ q
  · rw [upd_ne fun z => by subst z; exact n (h0 o e)]; exact R.frame b o e n
  · by_cases z : b = a
    · subst z; rw [upd_same]; simp
    · rw [upd_ne z]; exact R.dom b hb
  · obtain ⟨p1, p2, p3⟩ := R.prot p hp
    refine ⟨?_, p2, p3⟩
    rw [upd_ne fun z => ?_]
    · exact p1
    · cases m with
      | own => obtain ⟨b, ⟨_, _, e1, _⟩, _, _, q⟩ := h2; cases e1; exact q p hp z
      | io k => obtain ⟨b, hk, ⟨_, _, e1, _⟩, _⟩ := h2; cases e1; exact p3 (z ▸ List.mem_of_getElem? hk)
      | _ => cases w
  · by_cases hj : j = i
    · subst hj
      rw [set_eq hiρ] at he
      cases he
      rw [hm] at hm'
      cases hm'
      refine ⟨_, hs, ?_⟩
      cases m with
      | own => obtain ⟨b, ⟨_, _, e1, _⟩, hf, z, y⟩ := h2; cases e1; exact ⟨a, ⟨xs, ds, rfl, rfl, upd_same, r⟩, hf, z, y⟩
      | io k => obtain ⟨b, hk, ⟨_, _, e1, _⟩, hf⟩ := h2; cases e1; exact ⟨a, hk, ⟨xs, ds, rfl, rfl, upd_same, r⟩, hf⟩
      | _ => cases w
    · rw [set_ne hj] at he
      obtain ⟨v', q1, q2⟩ := R.slot j m' e hm' nd' he
      refine ⟨v', q1, ?_⟩
      cases m' with
      | dead => trivial
      | val => exact q2
      | bor => exact q2
      | lk k => exact q2
      | oo =>
        rcases q2 with q2 | ⟨b, ys, es, ev, k⟩
        · exact .inl q2
        · refine .inr ⟨b, ys, es, ev, k.mono (Same.refl _) fun c hc mc hcn => ⟨mc, fun o q => ?_⟩⟩
          rw [upd_ne fun y => ?_]
          · exact q
          · subst y
            have ft : Ft F H .oo v' c := ⟨mc.1, b, ev, k.mine.1, hc.imp id fun z => ⟨ys, k.cn.its, z⟩⟩
            cases m with
            | own => exact R.uniq j i .oo .own e d v' _ c hm' hm hj he hd q1 hs ft rfl
            | io k2 => obtain ⟨b', hk, ⟨_, _, e1, _⟩, _⟩ := h2; cases e1; exact R.ioH c (List.mem_of_getElem? hk) mc.2.1
            | _ => cases w
      | own =>
        obtain ⟨b, hl, hf, z, zp⟩ := q2
        refine ⟨b, hl.mono (Same.refl _) fun o q => ?_, hf, z, zp⟩
        rw [upd_ne fun y => ?_]
        · exact q
        · subst y
          obtain ⟨_, _, e1, _⟩ := hl
          subst e1
          cases m with
          | own => exact R.uniqO j i e d b hm' hm hj he hd q1 hs
          | io k => obtain ⟨b', hk, ⟨_, _, e1, _⟩, _⟩ := h2; cases e1; exact R.ioH b (List.mem_of_getElem? hk) z
          | _ => cases w
      | io k' =>
        obtain ⟨b, hk', hl, hf⟩ := q2
        refine ⟨b, hk', hl.mono (Same.refl _) fun o q => ?_, hf⟩
        rw [upd_ne fun y => ?_]
        · exact q
        · subst y
          cases m with
          | own => obtain ⟨b', ⟨_, _, e1, _⟩, _, z, _⟩ := h2; cases e1; exact R.ioH b (List.mem_of_getElem? hk') z
          | io k =>
            obtain ⟨b', hk, ⟨_, _, e1, _⟩, _⟩ := h2
            cases e1
            have e2 : k' = k := nd_ix R.ioN hk' hk
            subst e2
            exact hj (R.ioU j i k' hm' hm)
          | _ => cases w
  · have old : ∀ {j : Nat} {d1 : D}, (ρ.set i (some (.list ds)))[j]? = some (some d1) → ∃ d2, ρ[j]? = some (some d2) := fun {j d1} h => by
      by_cases hj : j = i
      · subst hj; exact ⟨d, hd⟩
      · rw [set_ne hj] at h; exact ⟨d1, h⟩
    have keep : ∀ {j : Nat} {mj : Md} {d1 : D} {u : V}, ms[j]? = some mj → ρ[j]? = some (some d1) → σ[j]? = some (some u) → Ft F (upd H a (.lst xs)) mj u c → Ft F H mj u c := fun {j mj d1 u} h1 h3 h5 f1 => by
      refine f1.back (Same.refl _) (R.at_slot h1 h3 h5 f1.nd) fun b eo eb mb _ o q => ?_
      rw [upd_ne fun y => ?_]
      · exact q
      · subst y eo
        have hj : j ≠ i := fun z => by subst z; rw [hm] at h1; cases h1; cases w
        cases m with
        | own => exact R.uniq j i .oo .own d1 d u _ b h1 hm hj h3 hd h5 hs ⟨mb.1, b, eb, mb.1, .inl rfl⟩ rfl
        | io k2 => obtain ⟨b', hk, ⟨_, _, e1, _⟩, _⟩ := h2; cases e1; exact R.ioH b (List.mem_of_getElem? hk) mb.2.1
        | _ => cases w
    obtain ⟨d2, q3'⟩ := old q3
    obtain ⟨e2, q4'⟩ := old q4
    exact R.uniq j k mj mk d2 e2 u x c q1 q2 n q3' q4' q5 q6 (keep q1 q3' q5 f1) (keep q2 q4' q6 f2)
/-- an own list is frozen where it stands -/
theorem Rel.frzSlot (R : Rel g F ms ρ σ H) (hm : ms[i]? = some .own) (hd : ρ[i]? = some (some d)) : ∃ F', Same F F' ∧ Rel g F' (ms.set i .val) ρ σ H := by
  obtain ⟨v, h1, a, ⟨xs, ds, e1, e2, e3, r⟩, hf, z, zp⟩ := R.slot i .own d hm (by decide) hd
  subst e1
  have hi : i < ms.length := (List.getElem?_eq_some_iff.mp hm).1
  -- the slot forgotten
  have R1 : Rel g F (ms.set i .dead) ρ σ H :=
    { R with
      lm := by simp [R.lm]
      slot := fun j m e hm nd he => by
        by_cases hj : j = i
        · subst hj; rw [set_eq hi] at hm; cases hm; exact absurd rfl nd
        · rw [set_ne hj] at hm; exact R.slot j m e hm nd he
      uniq := fun j k mj mk d e u x c q1 q2 n q3 q4 q5 q6 f1 f2 => by
        by_cases hj : j = i
        · subst hj; rw [set_eq hi] at q1; cases q1; exact f1
        · by_cases hk : k = i
          · subst hk; rw [set_eq hi] at q2; cases q2; exact f2
          · rw [set_ne hj] at q1; rw [set_ne hk] at q2; exact R.uniq j k mj mk d e u x c q1 q2 n q3 q4 q5 q6 f1 f2
      ioU := fun j k n q1 q2 => by
        by_cases hj : j = i
        · subst hj; rw [set_eq hi] at q1; cases q1
        · by_cases hk : k = i
          · subst hk; rw [set_eq hi] at q2; cases q2
          · rw [set_ne hj] at q1; rw [set_ne hk] at q2; exact R.ioU j k n q1 q2 }
  have fr : Free g F H (ms.set i .dead) ρ σ a := ⟨z, hf, zp, fun j m e u q1 q2 q3 f1 => by
    by_cases hj : j = i
    · subst hj; rw [set_eq hi] at q1; cases q1; exact f1
    · rw [set_ne hj] at q1; exact R.uniq j i m .own e d u _ a q1 hm hj q2 hd q3 h1 f1 rfl⟩
  have R2 := R1.freeze fr e3
  have sF : Same F (upd F a (.lst xs)) := same_upd hf
  have R3 := R2.setVal (i := i) (v := .ref a) (d := d) (by simpa using hi) (by subst e2; exact .lst (.inl (.inl upd_same)) (r.mono sF))
  rw [List.set_set] at R3
  have es : σ.set i (some (.ref a)) = σ := by
    apply List.ext_getElem?
    intro j
    by_cases hj : j = i
    · subst hj; rw [set_eq (List.getElem?_eq_some_iff.mp h1).1, h1]
    · rw [set_ne hj]
  have er : ρ.set i (some d) = ρ := by
    apply List.ext_getElem?
    intro j
    by_cases hj : j = i
    · subst hj; rw [set_eq (List.getElem?_eq_some_iff.mp hd).1, hd]
    · rw [set_ne hj]
  rw [es, er] at R3
  exact ⟨_, sF, R3⟩
end

/-! ### operands -/
abbrev PV := Sum D Nat
inductive Opd where
  | ex (m : ME) | sl (i : Nat)
inductive OR where
  | bad | ok (p : PV) (ρ : En) | exn (x : D) (ρ : En)
inductive AR where
  | bad | ok (ps : List PV) (ρ : En) | exn (x : D) (ρ : En)
def evO : Opd → En → OR
  | .ex m, ρ => match m ρ with
    | .ok d ρ' => .ok (.inl d) ρ'
    | .exn x ρ' => .exn x ρ'
    | .bad => .bad
  | .sl i, ρ => match ρ[i]? with
    | some (some _) => .ok (.inr i) ρ
    | _ => .bad
def evs : List Opd → En → AR
  | [], ρ => .ok [] ρ
  | o :: os, ρ => match evO o ρ with
    | .ok p ρ1 => (match evs os ρ1 with
      | .ok ps ρ2 => .ok (p :: ps) ρ2
      | .exn x ρ' => .exn x ρ'
      | .bad => .bad)
    | .exn x ρ' => .exn x ρ'
    | .bad => .bad
def res (ρ : En) : PV → Option D
  | .inl d => some d
  | .inr i => ρ[i]?.join
def resA (ρ : En) : List PV → Option (List D)
  | [] => some []
  | p :: ps => match res ρ p, resA ρ ps with
    | some d, some ds => some (d :: ds)
    | _, _ => none
def AR.bind (r : AR) (k : List PV → En → ER) : ER := match r with
  | .ok ps ρ => k ps ρ
  | .exn x ρ => .exn x ρ
  | .bad => .bad
/-- a pure operation on operands -/
def appK (f : List D → Option D) (ps : List PV) (ρ : En) : ER := match resA ρ ps with
  | some ds => (match f ds with
    | some d => .ok d ρ
    | none => .bad)
  | none => .bad
def mApp (f : List D → Option D) (os : List Opd) : ME := fun ρ => (evs os ρ).bind (appK f)
def mVar (i : Nat) : ME := fun ρ => match ρ[i]? with
  | some (some d) => .ok d ρ
  | _ => .bad
def mC (d : D) : ME := fun ρ => .ok d ρ

/-! ### lifts -/
/-- the representation of an exception -/
def XOk (K : Fr) (mg : Mg) (F : Hp) (c : Value) (dd : Option Addr) (x : D) : Prop :=
  ∃ (C : Addr) (cn : Str) (fs : List (Str × V)) (vs : List D), c = .ref C ∧ mg cn = some (.ref C) ∧ ExD F dd fs ∧ RpA K mg F (fs.map (·.2)) vs ∧
    x = .dict ((PyData.bool true, PyData.str cn) :: (fs.map fun p => PyData.str p.1).zip vs)
def PvOk (g : Gh) (F : Hp) (ms : List Md) (σ : Sg) (v : V) : PV → Prop
  | .inl d => Rp g.K g.mg F v d
  | .inr i => σ[i]? = some (some v) ∧ ∃ m, ms[i]? = some m ∧ Rdb m
abbrev PvsOk (g : Gh) (F : Hp) (ms : List Md) (σ : Sg) : List V → List PV → Prop := Paired (PvOk g F ms σ)
abbrev BvA (K : Fr) (mg : Mg) (F H : Hp) : List V → List D → Prop := Paired (Bv K mg F H)
def goE (g : Gh) (W : WX) (ms : List Md) (σ : Sg) (F : Hp) (Q : VK) : ER → Prop
  | .bad => False
  | .ok d ρ' => ∀ v F' H', Same F F' → Rel g F' ms ρ' σ H' → Rp g.K g.mg F' v d → Q v H'
  | .exn x ρ' => ∀ c dd F' H', Same F F' → Rel g F' ms ρ' σ H' → XOk g.K g.mg F' c dd x → W c dd σ H'
def goO (g : Gh) (W : WX) (ms : List Md) (σ : Sg) (F : Hp) (Q : VK) : ER → Prop
  | .bad => False
  | .ok d ρ' => ∀ a F' H', Same F F' → Rel g F' ms ρ' σ H' → Lv g.K g.mg F' H' a (.ref a) d → Free g F' H' ms ρ' σ a → Q (.ref a) H'
  | .exn x ρ' => ∀ c dd F' H', Same F F' → Rel g F' ms ρ' σ H' → XOk g.K g.mg F' c dd x → W c dd σ H'
def goP (g : Gh) (W : WX) (ms : List Md) (σ : Sg) (F : Hp) (Q : VK) : OR → Prop
  | .bad => False
  | .ok p ρ' => ∀ v F' H', Same F F' → Rel g F' ms ρ' σ H' → PvOk g F' ms σ v p → Q v H'
  | .exn x ρ' => ∀ c dd F' H', Same F F' → Rel g F' ms ρ' σ H' → XOk g.K g.mg F' c dd x → W c dd σ H'
def goA (g : Gh) (W : WX) (ms : List Md) (σ : Sg) (F : Hp) (Q : List V → Hp → Prop) : AR → Prop
  | .bad => False
  | .ok ps ρ' => ∀ vs F' H', Same F F' → Rel g F' ms ρ' σ H' → PvsOk g F' ms σ vs ps → Q vs H'
  | .exn x ρ' => ∀ c dd F' H', Same F F' → Rel g F' ms ρ' σ H' → XOk g.K g.mg F' c dd x → W c dd σ H'
def LE (g : Gh) (W : WX) (ms : List Md) (m : ME) : TE := fun σ H Q => ∃ F ρ, Rel g F ms ρ σ H ∧ goE g W ms σ F Q (m ρ)
def LO (g : Gh) (W : WX) (ms : List Md) (m : ME) : TE := fun σ H Q => ∃ F ρ, Rel g F ms ρ σ H ∧ goO g W ms σ F Q (m ρ)
def LP (g : Gh) (W : WX) (ms : List Md) (o : Opd) : TE := fun σ H Q => ∃ F ρ, Rel g F ms ρ σ H ∧ goP g W ms σ F Q (evO o ρ)
def LA (g : Gh) (W : WX) (ms : List Md) (os : List Opd) : TA := fun σ H Q => ∃ F ρ, Rel g F ms ρ σ H ∧ goA g W ms σ F Q (evs os ρ)

section
variable {X : Cx} {g : Gh} {W : WX} {ms : List Md} {e : Expr} {es : List Expr}
theorem pe_imp {t t' : TE} (h : PE X e t) (i : ∀ σ H Q, t' σ H Q → t σ H Q) : PE X e t' := ⟨fun pins s σ H Q I q => h.run pins s σ H Q I (i σ H Q q)⟩
theorem pa_imp {t t' : TA} (h : PA X es t) (i : ∀ σ H Q, t' σ H Q → t σ H Q) : PA X es t' := ⟨fun pos pins s σ H Q I q => h.run pos pins s σ H Q I (i σ H Q q)⟩
theorem pt_imp {t t' : TT} (h : PT X e t) (i : ∀ σ H Q, t' σ H Q → t σ H Q) : PT X e t' := ⟨fun pins s σ H Q I q => h.run pins s σ H Q I (i σ H Q q)⟩
theorem ps_imp {st : Stmt} {t t' : TS} (h : PS X st t) (i : ∀ D σ H, t' D σ H → t D σ H) : PS X st t' := ⟨fun pins s σ H D I q => h.run pins s σ H D I (i D σ H q)⟩
theorem pss_imp {st : List Stmt} {t t' : TS} (h : PSs X st t) (i : ∀ D σ H, t' D σ H → t D σ H) : PSs X st t' := ⟨fun pins s σ H D I q => h.run pins s σ H D I (i D σ H q)⟩
variable {σ : Sg} {F F' H H' : Hp} {ρ : En}
theorem PvOk.mono {v : V} {p : PV} (e : Same F F') (h : PvOk g F ms σ v p) : PvOk g F' ms σ v p := by
  cases p with
  | inl d => exact Rp.mono e h
  | inr i => exact h
theorem PvsOk.mono (e : Same F F') : ∀ {vs : List V} {ps : List PV}, PvsOk g F ms σ vs ps → PvsOk g F' ms σ vs ps
  | _, _, .nil => .nil
  | _, _, .cons h t => .cons (h.mono e) (PvsOk.mono e t)
theorem PvOk.bv {v : V} {p : PV} {d : D} (R : Rel g F ms ρ σ H) (h : PvOk g F ms σ v p) (e : res ρ p = some d) : Bv g.K g.mg F H v d := by
  cases p with
  | inl d' => cases e; exact .inl h
  | inr i =>
    obtain ⟨h1, m, h2, h3⟩ := h
    refine R.bv h2 h3 (d := d) ?_ h1
    have e : ρ[i]?.join = some d := e
    cases q : ρ[i]? with
    | none => rw [q] at e; cases e
    | some o => rw [q] at e; cases o with
      | none => cases e
      | some d' => cases e; rfl
theorem PvsOk.bva (R : Rel g F ms ρ σ H) : ∀ {vs : List V} {ps : List PV} {ds : List D}, PvsOk g F ms σ vs ps → resA ρ ps = some ds → BvA g.K g.mg F H vs ds
  | _, _, ds, .nil, e => by cases e; exact .nil
  | v :: vs, p :: ps, ds, .cons h t, e => by
    unfold resA at e
    cases q1 : res ρ p with
    | none => rw [q1] at e; cases e
    | some d =>
      cases q2 : resA ρ ps with
      | none => rw [q1, q2] at e; cases e
      | some es => rw [q1, q2] at e; cases e; exact .cons (h.bv R q1) (PvsOk.bva R t q2)

/-- a fresh list may stand for a value: it is frozen -/
theorem le_of_lo {m : ME} (h : PE X e (LO g W ms m)) : PE X e (LE g W ms m) := pe_imp h fun σ H Q ⟨F, ρ, R, q⟩ => by
  refine ⟨F, ρ, R, ?_⟩
  cases hm : m ρ with
  | bad => rw [hm] at q; exact q
  | exn x ρ' => rw [hm] at q; exact q
  | ok d ρ' =>
    rw [hm] at q
    intro a F' H' sF R' hl f
    obtain ⟨xs, ds, e1, e2, e3, r⟩ := hl
    subst e2
    have s2 : Same F' (upd F' a (.lst xs)) := same_upd f.f
    exact q _ _ _ (sF.trans s2) (R'.freeze f e3) (.lst (.inl (.inl upd_same)) (r.mono s2))
theorem lp_ex {m : ME} (h : PE X e (LE g W ms m)) : PE X e (LP g W ms (.ex m)) := pe_imp h fun σ H Q ⟨F, ρ, R, q⟩ => by
  refine ⟨F, ρ, R, ?_⟩
  simp only [evO] at q
  cases hm : m ρ with
  | bad => rw [hm] at q; exact q
  | exn x ρ' => rw [hm] at q; exact q
  | ok d ρ' => rw [hm] at q; exact fun v F' H' sF R' r => q v F' H' sF R' r
theorem lp_sl {i : Nat} {m : Md} {x : Str} {pos : Pos} (hx : PE X (.Name x pos) (tVar i)) (hm : ms[i]? = some m) (nd : Rdb m := by decide) : PE X (.Name x pos) (LP g W ms (.sl i)) := pe_imp hx fun σ H Q ⟨F, ρ, R, q⟩ => by
  simp only [evO] at q
  cases h1 : ρ[i]? with
  | none => simp [h1] at q; exact q.elim
  | some o => cases o with
    | none => simp [h1] at q; exact q.elim
    | some d =>
      simp only [h1] at q
      obtain ⟨v, e, _⟩ := R.slot i m d hm nd.1 h1
      exact ⟨v, e, q v F H (Same.refl _) R ⟨e, m, hm, nd⟩⟩
theorem le_var {i : Nat} {x : Str} {pos : Pos} (hx : PE X (.Name x pos) (tVar i)) (hm : ms[i]? = some .val) : PE X (.Name x pos) (LE g W ms (mVar i)) := pe_imp hx fun σ H Q ⟨F, ρ, R, q⟩ => by
  unfold mVar at q
  cases h1 : ρ[i]? with
  | none => simp [h1] at q; exact q.elim
  | some o => cases o with
    | none => simp [h1] at q; exact q.elim
    | some d =>
      simp only [h1] at q
      obtain ⟨v, e, r⟩ := R.slot i .val d hm (by decide) h1
      exact ⟨v, e, q v F H (Same.refl _) R r⟩
theorem le_c {d : D} {v : V} (h : PE X e (tC v)) (r : ∀ F, Rp g.K g.mg F v d) : PE X e (LE g W ms (mC d)) := pe_imp h fun σ H Q ⟨F, ρ, R, q⟩ => q v F H (Same.refl _) R (r F)
theorem le_int {i j pos} : PE X (.Constant (.int i) j pos) (LE g W ms (mC (.int i))) := le_c pe_int fun _ => .int i
theorem le_bl {b j pos} : PE X (.Constant (.bool b) j pos) (LE g W ms (mC (.bool b))) := le_c pe_bl fun _ => .bl b
theorem le_non {j pos} : PE X (.Constant .none j pos) (LE g W ms (mC .none)) := le_c pe_non fun _ => .non
theorem le_str {x j pos} : PE X (.Constant (.str x) j pos) (LE g W ms (mC (.str x))) := le_c pe_str fun _ => .str x
/-- the arguments from the left -/
theorem la_nil : PA X [] (LA g W ms []) := pa_imp pa_nil fun σ H Q ⟨F, ρ, R, q⟩ => q [] F H (Same.refl _) R .nil
theorem la_cons {o : Opd} {os : List Opd} (ha : PE X e (LP g W ms o)) (hr : PA X es (LA g W ms os)) (hs : starEach (e :: es) X.env = (false, eval e X.env) :: starEach es X.env := by rfl) : PA X (e :: es) (LA g W ms (o :: os)) :=
  pa_imp (pa_cons ha hr hs) fun σ H Q ⟨F, ρ, R, q⟩ => by
    refine ⟨F, ρ, R, ?_⟩
    unfold evs at q
    cases h1 : evO o ρ with
    | bad => simp only [h1] at q; exact q
    | exn x ρ' => simp only [h1] at q; exact q
    | ok p ρ1 =>
      simp only [h1] at q
      intro v F1 H1 s1 R1 p1
      refine ⟨F1, ρ1, R1, ?_⟩
      cases h2 : evs os ρ1 with
      | bad => simp only [h2] at q; exact q
      | exn x ρ' => simp only [h2] at q; exact fun c dd F' H' s2 R' xo => q c dd F' H' (s1.trans s2) R' xo
      | ok ps ρ2 =>
        simp only [h2] at q
        exact fun vs F' H' s2 R' ps' => q (v :: vs) F' H' (s1.trans s2) R' (.cons (p1.mono s2) ps')

/-! ### pure operations -/
/-- a rule by values is good for f: a value comes, old things stand -/
def Ad (K : Fr) (mg : Mg) (r : List V → Hp → VK → Prop) (f : List D → Option D) : Prop := ∀ (F H : Hp) (vs : List V) (ds : List D) (d : D) (Q : VK), Same F H → BvA K mg F H vs ds → f ds = some d →
  (∀ v F' H', Ext F H F' H' → Rp K mg F' v d → Q v H') → r vs H Q
/-- .. a new list comes -/
def AdO (K : Fr) (mg : Mg) (r : List V → Hp → VK → Prop) (f : List D → Option D) : Prop := ∀ (F H : Hp) (vs : List V) (ds : List D) (d : D) (Q : VK), Same F H → BvA K mg F H vs ds → f ds = some d →
  (∀ a xs F' H', Ext F H F' H' → H' a = none → Lv K mg F' (upd H' a (.lst xs)) a (.ref a) d → Q (.ref a) (upd H' a (.lst xs))) → r vs H Q
theorem AdO.ad {K : Fr} {mg : Mg} {r : List V → Hp → VK → Prop} {f : List D → Option D} (h : AdO K mg r f) : Ad K mg r f := fun F H vs ds d Q e b hf k =>
  h F H vs ds d Q e b hf fun a xs F' H' x ha hl => by
    obtain ⟨xs', ds', e1, e2, e3, r⟩ := hl
    rw [upd_same] at e3
    cases e3
    subst e2
    exact k _ _ _ (x.trans (Ext.frz (o := .lst xs) x.sub ha)) (.lst (.inl (.inl upd_same)) (r.mono (same_upd (free_of x.sub ha))))
theorem run_app {r : List V → Hp → VK → Prop} {f : List D → Option D} (ad : Ad g.K g.mg r f) {ps : List PV} {vs : List V} {Q : VK} {F0 : Hp} (s0 : Same F0 F) (R : Rel g F ms ρ σ H) (hp : PvsOk g F ms σ vs ps) (q : goE g W ms σ F0 Q (appK f ps ρ)) : r vs H Q := by
  unfold appK at q
  cases h1 : resA ρ ps with
  | none => simp only [h1] at q; exact q.elim
  | some ds =>
    cases h2 : f ds with
    | none => simp only [h1, h2] at q; exact q.elim
    | some d =>
      simp only [h1, h2] at q
      exact ad F H vs ds d Q R.sub (hp.bva R h1) h2 fun v F' H' x rp => q v F' H' (s0.trans x.f) (R.ext x) rp
theorem run_appO {r : List V → Hp → VK → Prop} {f : List D → Option D} (ad : AdO g.K g.mg r f) {ps : List PV} {vs : List V} {Q : VK} {F0 : Hp} (s0 : Same F0 F) (R : Rel g F ms ρ σ H) (hp : PvsOk g F ms σ vs ps) (q : goO g W ms σ F0 Q (appK f ps ρ)) : r vs H Q := by
  unfold appK at q
  cases h1 : resA ρ ps with
  | none => simp only [h1] at q; exact q.elim
  | some ds =>
    cases h2 : f ds with
    | none => simp only [h1, h2] at q; exact q.elim
    | some d =>
      simp only [h1, h2] at q
      refine ad F H vs ds d Q R.sub (hp.bva R h1) h2 fun a xs F' H' x ha hl => ?_
      have R' := R.ext x
      exact q a F' _ (s0.trans x.f) (R'.ext (Ext.new (o := .lst xs) x.sub ha)) hl (R'.free ha)
/-- a call of a built-in by values -/
theorem le_app {os : List Opd} {t : TA} {r : List V → Hp → VK → Prop} {f : List D → Option D} {e : Expr} (hc : PA X es (LA g W ms os) → PE X e (tCB r (LA g W ms os))) (ha : PA X es (LA g W ms os)) (ad : Ad g.K g.mg r f) : PE X e (LE g W ms (mApp f os)) :=
  pe_imp (hc ha) fun σ H Q ⟨F, ρ, R, q⟩ => by
    refine ⟨F, ρ, R, ?_⟩
    unfold mApp AR.bind at q
    cases h1 : evs os ρ with
    | bad => simp only [h1] at q; exact q
    | exn x ρ' => simp only [h1] at q; exact q
    | ok ps ρ1 =>
      simp only [h1] at q
      exact fun vs F1 H1 s1 R1 p1 => run_app ad s1 R1 p1 q
theorem lo_app {os : List Opd} {t : TA} {r : List V → Hp → VK → Prop} {f : List D → Option D} {e : Expr} (hc : PA X es (LA g W ms os) → PE X e (tCB r (LA g W ms os))) (ha : PA X es (LA g W ms os)) (ad : AdO g.K g.mg r f) : PE X e (LO g W ms (mApp f os)) :=
  pe_imp (hc ha) fun σ H Q ⟨F, ρ, R, q⟩ => by
    refine ⟨F, ρ, R, ?_⟩
    unfold mApp AR.bind at q
    cases h1 : evs os ρ with
    | bad => simp only [h1] at q; exact q
    | exn x ρ' => simp only [h1] at q; exact q
    | ok ps ρ1 =>
      simp only [h1] at q
      exact fun vs F1 H1 s1 R1 p1 => run_appO ad s1 R1 p1 q
end
end Mr

namespace Mr
open PySem PySem.Spec PyProof.Rows L2

/-! ### tests -/
def ER.tst (r : ER) (k : Bool → En → ER) : ER := match r with
  | .ok (.bool b) ρ => k b ρ
  | .ok _ _ => .bad
  | .exn x ρ => .exn x ρ
  | .bad => .bad
def mAnd (a b : ME) : ME := fun ρ => (a ρ).tst fun c ρ1 => if c = true then b ρ1 else .ok (.bool false) ρ1
def mOr (a b : ME) : ME := fun ρ => (a ρ).tst fun c ρ1 => if c = true then .ok (.bool true) ρ1 else b ρ1
def mNot (a : ME) : ME := fun ρ => (a ρ).tst fun c ρ1 => .ok (.bool (!c)) ρ1
def mIfE (c a b : ME) : ME := fun ρ => (c ρ).tst fun k ρ1 => if k = true then a ρ1 else b ρ1
def goT (g : Gh) (W : WX) (ms : List Md) (σ : Sg) (F : Hp) (Q : Bool → Hp → Prop) : ER → Prop
  | .bad => False
  | .ok d ρ' => ∃ b, d = .bool b ∧ ∀ F' H', Same F F' → Rel g F' ms ρ' σ H' → Q b H'
  | .exn x ρ' => ∀ c dd F' H', Same F F' → Rel g F' ms ρ' σ H' → XOk g.K g.mg F' c dd x → W c dd σ H'
def LT (g : Gh) (W : WX) (ms : List Md) (m : ME) : TT := fun σ H Q => ∃ F ρ, Rel g F ms ρ σ H ∧ goT g W ms σ F Q (m ρ)
/-- truth of a value -/
def tru : List D → Option D
  | [.none] => some (.bool false)
  | [.bool b] => some (.bool b)
  | [.int i] => some (.bool (i != 0))
  | [.str s] => if s.length ≤ sizeLine then some (.bool ((s.length : Int) != 0)) else none
  | [.list ds] => some (.bool (!ds.isEmpty))
  | [.tuple ds] => some (.bool (!ds.isEmpty))
  | _ => none

section
variable {X : Cx} {g : Gh} {W : WX} {ms : List Md} {e a b : Expr} {es rest : List Expr} {pos : Pos} {m m1 m2 m3 : ME} {σ : Sg} {F F' H H' : Hp} {ρ : En} {Q : VK}
theorem goE.up {r : ER} (s : Same F F') (q : goE g W ms σ F Q r) : goE g W ms σ F' Q r := by
  cases r with
  | bad => exact q
  | ok d ρ' => exact fun v F2 H2 s2 => q v F2 H2 (s.trans s2)
  | exn x ρ' => exact fun c dd F2 H2 s2 => q c dd F2 H2 (s.trans s2)
theorem goT.up {r : ER} {Q : Bool → Hp → Prop} (s : Same F F') (q : goT g W ms σ F Q r) : goT g W ms σ F' Q r := by
  cases r with
  | bad => exact q
  | ok d ρ' => obtain ⟨b, e, q⟩ := q; exact ⟨b, e, fun F2 H2 s2 => q F2 H2 (s.trans s2)⟩
  | exn x ρ' => exact fun c dd F2 H2 s2 => q c dd F2 H2 (s.trans s2)
theorem lt_of (h : PE X e (LE g W ms m)) (he : ∀ whole, isTrue e X.env whole = (do let v ← whole; standAt e.pos; holding [v] (truthy v)) := by intro _; rfl) : PT X e (LT g W ms m) :=
  pt_imp (pt_val h he) fun σ H Q ⟨F, ρ, R, q⟩ => by
    refine ⟨F, ρ, R, ?_⟩
    cases hm : m ρ with
    | bad => rw [hm] at q; exact q
    | exn x ρ' => rw [hm] at q; exact q
    | ok d ρ' =>
      rw [hm] at q
      obtain ⟨b, rfl, q⟩ := q
      intro v F' H' s R' r
      cases r
      exact ⟨b, rfl, q F' H' s R'⟩
theorem lt_cmp {op : CmpOp} {a b : Expr} {t : TE} (hc : PT X e (tTest t)) (h : ∀ σ H Q, LE g W ms m σ H Q → t σ H Q) : PT X e (LT g W ms m) :=
  pt_imp hc fun σ H Q ⟨F, ρ, R, q⟩ => by
    refine h _ _ _ ⟨F, ρ, R, ?_⟩
    cases hm : m ρ with
    | bad => rw [hm] at q; exact q
    | exn x ρ' => rw [hm] at q; exact q
    | ok d ρ' =>
      rw [hm] at q
      obtain ⟨b, rfl, q⟩ := q
      intro v F' H' s R' r
      cases r
      exact ⟨b, rfl, q F' H' s R'⟩
theorem goT_tst {r : ER} {k : Bool → En → ER} {Q : Bool → Hp → Prop} (q : goT g W ms σ F Q (r.tst k)) : goT g W ms σ F (fun b H' => ∃ F' ρ', Same F F' ∧ r = .ok (.bool b) ρ' ∧ Rel g F' ms ρ' σ H') r ∨ True := .inr trivial
theorem goT_bind {r : ER} {k : Bool → En → ER} {Q Q' : Bool → Hp → Prop} (q : goT g W ms σ F Q (r.tst k)) (h : ∀ b ρ' F' H', r = .ok (.bool b) ρ' → Same F F' → Rel g F' ms ρ' σ H' → goT g W ms σ F' Q (k b ρ') → Q' b H') : goT g W ms σ F Q' r := by
  cases r with
  | bad => exact q
  | exn x ρ' => exact q
  | ok d ρ' =>
    cases d with
    | bool b => exact ⟨b, rfl, fun F' H' s R' => h b ρ' F' H' rfl s R' (goT.up s q)⟩
    | _ => exact False.elim q
theorem goT_bindE {r : ER} {k : Bool → En → ER} {Q : VK} {Q' : Bool → Hp → Prop} (q : goE g W ms σ F Q (r.tst k)) (h : ∀ b ρ' F' H', r = .ok (.bool b) ρ' → Same F F' → Rel g F' ms ρ' σ H' → goE g W ms σ F' Q (k b ρ') → Q' b H') : goT g W ms σ F Q' r := by
  cases r with
  | bad => exact q
  | exn x ρ' => exact q
  | ok d ρ' =>
    cases d with
    | bool b => exact ⟨b, rfl, fun F' H' s R' => h b ρ' F' H' rfl s R' (goE.up s q)⟩
    | _ => exact False.elim q
theorem goE_bindE {r : ER} {k : Bool → En → ER} {Q Q' : VK} (q : goE g W ms σ F Q (r.tst k)) (h : ∀ b ρ' F' H', r = .ok (.bool b) ρ' → Same F F' → Rel g F' ms ρ' σ H' → goE g W ms σ F' Q (k b ρ') → Q' (.bl b) H') : goE g W ms σ F Q' r := by
  cases r with
  | bad => exact q
  | exn x ρ' => exact q
  | ok d ρ' =>
    cases d with
    | bool b =>
      intro v F' H' s R' r
      cases r
      exact h b ρ' F' H' rfl s R' (goE.up s q)
    | _ => exact False.elim q
theorem lw_and1 (ha : PT X a (LT g W ms m)) : PW X (.BoolOp .And [a] pos) (LT g W ms m) := pw_and1 ha
theorem lw_or1 (ha : PT X a (LT g W ms m)) : PW X (.BoolOp .Or [a] pos) (LT g W ms m) := pw_or1 ha
theorem pw_imp {t t' : TT} (h : PW X e t) (i : ∀ σ H Q, t' σ H Q → t σ H Q) : PW X e t' := ⟨fun wh pins s σ H Q I q => h.run wh pins s σ H Q I (i σ H Q q)⟩
theorem lw_and (ha : PT X a (LT g W ms m1)) (hb : PW X (.BoolOp .And (b :: rest) pos) (LT g W ms m2)) : PW X (.BoolOp .And (a :: b :: rest) pos) (LT g W ms (mAnd m1 m2)) :=
  pw_imp (pw_and ha hb) fun σ H Q ⟨F, ρ, R, q⟩ => ⟨F, ρ, R, goT_bind q fun c ρ' F' H' _ s R' q => by
    cases c with
    | true => rw [if_pos rfl] at q ⊢; exact ⟨F', ρ', R', q⟩
    | false => rw [if_neg Bool.false_ne_true] at q ⊢; obtain ⟨c, e, q⟩ := q; cases e; exact q F' H' (Same.refl _) R'⟩
theorem lw_or (ha : PT X a (LT g W ms m1)) (hb : PW X (.BoolOp .Or (b :: rest) pos) (LT g W ms m2)) : PW X (.BoolOp .Or (a :: b :: rest) pos) (LT g W ms (mOr m1 m2)) :=
  pw_imp (pw_or ha hb) fun σ H Q ⟨F, ρ, R, q⟩ => ⟨F, ρ, R, goT_bind q fun c ρ' F' H' _ s R' q => by
    cases c with
    | true => rw [if_pos rfl] at q ⊢; obtain ⟨c, e, q⟩ := q; cases e; exact q F' H' (Same.refl _) R'
    | false => rw [if_neg Bool.false_ne_true] at q ⊢; exact ⟨F', ρ', R', q⟩⟩
theorem lt_not (ha : PT X a (LT g W ms m)) : PT X (.UnaryOp .Not a pos) (LT g W ms (mNot m)) :=
  pt_imp (pt_not ha) fun σ H Q ⟨F, ρ, R, q⟩ => ⟨F, ρ, R, goT_bind q fun c ρ' F' H' _ s R' q => by
    obtain ⟨c, e, q⟩ := q; cases e; exact q F' H' (Same.refl _) R'⟩
theorem le_one {op} (h : PE X a (LE g W ms m)) : PE X (.BoolOp op [a] pos) (LE g W ms m) := pe_one h
theorem le_and (ha : PE X a (LE g W ms m1)) (hb : PE X (.BoolOp .And (b :: rest) pos) (LE g W ms m2)) : PE X (.BoolOp .And (a :: b :: rest) pos) (LE g W ms (mAnd m1 m2)) :=
  pe_imp (pe_and ha hb) fun σ H Q ⟨F, ρ, R, q⟩ => ⟨F, ρ, R, goE_bindE q fun c ρ' F' H' _ s R' q => ⟨c, rfl, by
    cases c with
    | true => rw [if_pos rfl] at q ⊢; exact ⟨F', ρ', R', q⟩
    | false => rw [if_neg Bool.false_ne_true] at q ⊢; exact q _ F' H' (Same.refl _) R' (.bl _)⟩⟩
theorem le_or (ha : PE X a (LE g W ms m1)) (hb : PE X (.BoolOp .Or (b :: rest) pos) (LE g W ms m2)) : PE X (.BoolOp .Or (a :: b :: rest) pos) (LE g W ms (mOr m1 m2)) :=
  pe_imp (pe_or ha hb) fun σ H Q ⟨F, ρ, R, q⟩ => ⟨F, ρ, R, goE_bindE q fun c ρ' F' H' _ s R' q => ⟨c, rfl, by
    cases c with
    | true => rw [if_pos rfl] at q ⊢; exact q _ F' H' (Same.refl _) R' (.bl _)
    | false => rw [if_neg Bool.false_ne_true] at q ⊢; exact ⟨F', ρ', R', q⟩⟩⟩
theorem le_not (ha : PE X a (LE g W ms m)) : PE X (.UnaryOp .Not a pos) (LE g W ms (mNot m)) :=
  pe_imp (pe_not ha) fun σ H Q ⟨F, ρ, R, q⟩ => ⟨F, ρ, R, goE_bindE q fun c ρ' F' H' _ s R' q => ⟨c, rfl, q _ F' H' (Same.refl _) R' (.bl _)⟩⟩
theorem le_ifE {c : Expr} (hc : PT X c (LT g W ms m1)) (ha : PE X a (LE g W ms m2)) (hb : PE X b (LE g W ms m3)) : PE X (.IfExp c a b pos) (LE g W ms (mIfE m1 m2 m3)) :=
  pe_imp (pe_ifExp hc ha hb) fun σ H Q ⟨F, ρ, R, q⟩ => ⟨F, ρ, R, goT_bindE q fun c ρ' F' H' _ s R' q => by
    cases c with
    | true => rw [if_pos rfl] at q ⊢; exact ⟨F', ρ', R', q⟩
    | false => rw [if_neg Bool.false_ne_true] at q ⊢; exact ⟨F', ρ', R', q⟩⟩

/-! ### operations on one, on two operands -/
def r1 (r : V → Hp → VK → Prop) : List V → Hp → VK → Prop := fun vs H Q => ∃ x, vs = [x] ∧ r x H Q
def r2 (r : R2) : List V → Hp → VK → Prop := fun vs H Q => ∃ x y, vs = [x, y] ∧ r x y H Q
variable {f f' : List D → Option D} {A B C : Opd} {ea eb ec : Expr}
theorem op1_imp {r : V → Hp → VK → Prop} (ad : Ad g.K g.mg (r1 r) f) : ∀ σ H Q, LE g W ms (mApp f [A]) σ H Q → tUn r (LP g W ms A) σ H Q := fun σ H Q ⟨F, ρ, R, q⟩ => by
  refine ⟨F, ρ, R, ?_⟩
  simp only [mApp, evs, AR.bind] at q
  cases h1 : evO A ρ with
  | bad => simp only [h1] at q; exact q
  | exn x ρ' => simp only [h1] at q; exact q
  | ok p ρ1 =>
    simp only [h1] at q
    intro v F1 H1 s1 R1 p1
    obtain ⟨x, e, h⟩ := run_app ad s1 R1 (.cons p1 .nil) q
    cases e
    exact h
theorem op2_imp {r : R2} (ad : Ad g.K g.mg (r2 r) f) : ∀ σ H Q, LE g W ms (mApp f [A, B]) σ H Q → tOp r (LP g W ms A) (LP g W ms B) σ H Q := fun σ H Q ⟨F, ρ, R, q⟩ => by
  refine ⟨F, ρ, R, ?_⟩
  simp only [mApp, evs, AR.bind] at q
  cases h1 : evO A ρ with
  | bad => simp only [h1] at q; exact q
  | exn x ρ' => simp only [h1] at q; exact q
  | ok p ρ1 =>
    simp only [h1] at q
    intro v F1 H1 s1 R1 p1
    refine ⟨F1, ρ1, R1, ?_⟩
    cases h2 : evO B ρ1 with
    | bad => simp only [h2] at q; exact q
    | exn x ρ' => simp only [h2] at q; exact fun c dd F' H' s2 R' xo => q c dd F' H' (s1.trans s2) R' xo
    | ok p' ρ2 =>
      simp only [h2] at q
      intro v' F2 H2 s2 R2' p2
      obtain ⟨x, y, e, h⟩ := run_app ad (s1.trans s2) R2' (.cons (p1.mono s2) (.cons p2 .nil)) q
      cases e
      exact h
theorem op2_impO {r : R2} (ad : AdO g.K g.mg (r2 r) f) : ∀ σ H Q, LO g W ms (mApp f [A, B]) σ H Q → tOp r (LP g W ms A) (LP g W ms B) σ H Q := fun σ H Q ⟨F, ρ, R, q⟩ => by
  refine ⟨F, ρ, R, ?_⟩
  simp only [mApp, evs, AR.bind] at q
  cases h1 : evO A ρ with
  | bad => simp only [h1] at q; exact q
  | exn x ρ' => simp only [h1] at q; exact q
  | ok p ρ1 =>
    simp only [h1] at q
    intro v F1 H1 s1 R1 p1
    refine ⟨F1, ρ1, R1, ?_⟩
    cases h2 : evO B ρ1 with
    | bad => simp only [h2] at q; exact q
    | exn x ρ' => simp only [h2] at q; exact fun c dd F' H' s2 R' xo => q c dd F' H' (s1.trans s2) R' xo
    | ok p' ρ2 =>
      simp only [h2] at q
      intro v' F2 H2 s2 R2' p2
      obtain ⟨x, y, e, h⟩ := run_appO ad (s1.trans s2) R2' (.cons (p1.mono s2) (.cons p2 .nil)) q
      cases e
      exact h
theorem le_un {op : UnaryOp} {r : V → Hp → VK → Prop} (ho : UnR X (unaryOp op) r) (ha : PE X ea (LP g W ms A)) (ad : Ad g.K g.mg (r1 r) f) : PE X (.UnaryOp op ea pos) (LE g W ms (mApp f [A])) := pe_imp (pe_un ho ha) (op1_imp ad)
theorem le_bin {op : Operator} {r : R2} (ho : OpR X (binaryOp op) r) (ha : PE X ea (LP g W ms A)) (hb : PE X eb (LP g W ms B)) (ad : Ad g.K g.mg (r2 r) f) : PE X (.BinOp ea op eb pos) (LE g W ms (mApp f [A, B])) := pe_imp (pe_op ho ha hb) (op2_imp ad)
theorem lo_bin {op : Operator} {r : R2} (ho : OpR X (binaryOp op) r) (ha : PE X ea (LP g W ms A)) (hb : PE X eb (LP g W ms B)) (ad : AdO g.K g.mg (r2 r) f) : PE X (.BinOp ea op eb pos) (LO g W ms (mApp f [A, B])) := pe_imp (pe_op ho ha hb) (op2_impO ad)
theorem le_cmp {op : CmpOp} {r : R2} (ho : OpR X (compareOp op) r) (ha : PE X ea (LP g W ms A)) (hb : PE X eb (LP g W ms B)) (ad : Ad g.K g.mg (r2 r) f) (hm : behindInMarks op eb = false := by first | exact nobehind _ (by decide) (by decide) | rfl) :
    PE X (.Compare ea [op] [eb] pos) (LE g W ms (mApp f [A, B])) := pe_imp (pe_cmpR ho ha hb hm) (op2_imp ad)
theorem lt_cmpR {op : CmpOp} {r : R2} (ho : OpR X (compareOp op) r) (ha : PE X ea (LP g W ms A)) (hb : PE X eb (LP g W ms B)) (ad : Ad g.K g.mg (r2 r) f) (hm : behindInMarks op eb = false := by first | exact nobehind _ (by decide) (by decide) | rfl) :
    PT X (.Compare ea [op] [eb] pos) (LT g W ms (mApp f [A, B])) := lt_cmp (op := op) (a := ea) (b := eb) (pt_cmpR ho ha hb hm) (op2_imp ad)
theorem le_ix {r : R2} (hr : IxR X r) (ha : PE X ea (LP g W ms A)) (hb : PE X eb (LP g W ms B)) (ad : Ad g.K g.mg (r2 r) f) (hs : PlainIx eb := by exact fun _ _ => rfl) : PE X (.Subscript ea eb pos) (LE g W ms (mApp f [A, B])) := pe_imp (pe_ix hr ha hb hs) (op2_imp ad)

/-! ### chains -/
def mChain (f f' : List D → Option D) (A B C : Opd) : ME := fun ρ => match evO A ρ with
  | .ok p ρ1 => (match evO B ρ1 with
    | .ok q ρ2 => (appK f [p, q] ρ2).tst fun k ρ3 => if k = true then (match evO C ρ3 with
        | .ok r ρ4 => appK f' [q, r] ρ4
        | .exn x ρ' => .exn x ρ'
        | .bad => .bad) else .ok (.bool false) ρ3
    | .exn x ρ' => .exn x ρ'
    | .bad => .bad)
  | .exn x ρ' => .exn x ρ'
  | .bad => .bad
theorem chain_imp {r r' : R2} (ad : Ad g.K g.mg (r2 r) f) (ad' : Ad g.K g.mg (r2 r') f') : ∀ σ H Q, LE g W ms (mChain f f' A B C) σ H Q → tChain r r' (LP g W ms A) (LP g W ms B) (LP g W ms C) σ H Q := fun σ H Q ⟨F, ρ, R, q⟩ => by
  refine ⟨F, ρ, R, ?_⟩
  unfold mChain at q
  cases h1 : evO A ρ with
  | bad => simp only [h1] at q; exact q
  | exn x ρ' => simp only [h1] at q; exact q
  | ok p ρ1 =>
    simp only [h1] at q
    intro v F1 H1 s1 R1 p1
    refine ⟨F1, ρ1, R1, ?_⟩
    cases h2 : evO B ρ1 with
    | bad => simp only [h2] at q; exact q
    | exn x ρ' => simp only [h2] at q; exact fun c dd F' H' s2 R' xo => q c dd F' H' (s1.trans s2) R' xo
    | ok p' ρ2 =>
      simp only [h2] at q
      intro v' F2 H2 s2 R2' p2
      have q3 := goE_bindE (Q' := fun z H3 => ∃ k, z = V.bl k ∧ if k = true then LP g W ms C σ H3 fun w H4 => r' v' w H4 Q else Q (.bl false) H3) (goE.up (s1.trans s2) q) fun c ρ3 F3 H3 hr s3 R3 q3 => ⟨c, rfl, by
        cases c with
        | false => rw [if_neg Bool.false_ne_true] at q3 ⊢; exact q3 _ F3 H3 (Same.refl _) R3 (.bl _)
        | true =>
          rw [if_pos rfl] at q3 ⊢
          refine ⟨F3, ρ3, R3, ?_⟩
          cases h4 : evO C ρ3 with
          | bad => simp only [h4] at q3; exact q3
          | exn x ρ' => simp only [h4] at q3; exact q3
          | ok p4 ρ4 =>
            simp only [h4] at q3
            intro w F4 H4 s4 R4 pk
            obtain ⟨x, y, e, h⟩ := run_app ad' s4 R4 (.cons (p2.mono (s3.trans s4)) (.cons pk .nil)) q3
            cases e
            exact h⟩
      obtain ⟨x, y, e, h⟩ := run_app ad (Same.refl _) R2' (.cons (p1.mono s2) (.cons p2 .nil)) q3
      cases e
      exact h
theorem le_chain {op op' : CmpOp} {r r' : R2} (ho : OpR X (compareOp op) r) (ho' : OpR X (compareOp op') r') (ha : PE X ea (LP g W ms A)) (hb : PE X eb (LP g W ms B)) (hc : PE X ec (LP g W ms C)) (ad : Ad g.K g.mg (r2 r) f) (ad' : Ad g.K g.mg (r2 r') f')
    (hm : lastMarks [op, op'] [eb, ec] = false := by with_unfolding_all rfl) : PE X (.Compare ea [op, op'] [eb, ec] pos) (LE g W ms (mChain f f' A B C)) := pe_imp (pe_chain ho ho' ha hb hc hm) (chain_imp ad ad')
theorem lt_chain {op op' : CmpOp} {r r' : R2} (ho : OpR X (compareOp op) r) (ho' : OpR X (compareOp op') r') (ha : PE X ea (LP g W ms A)) (hb : PE X eb (LP g W ms B)) (hc : PE X ec (LP g W ms C)) (ad : Ad g.K g.mg (r2 r) f) (ad' : Ad g.K g.mg (r2 r') f')
    (hm : lastMarks [op, op'] [eb, ec] = false := by with_unfolding_all rfl) : PT X (.Compare ea [op, op'] [eb, ec] pos) (LT g W ms (mChain f f' A B C)) := lt_cmp (op := op) (a := ea) (b := eb) (pt_chain ho ho' ha hb hc hm) (chain_imp ad ad')

/-! ### displays -/
theorem BvA.val {K : Fr} {mg : Mg} : ∀ {vs : List V} {ds : List D}, BvA K mg F H vs ds → vs.length = ds.length
  | _, _, .nil => rfl
  | _, _, .cons _ t => congrArg (· + 1) (BvA.val t)
/-- all operands are values -/
def exs (ms : List ME) : List Opd := ms.map .ex
def dsOf : List PV → Option (List D)
  | [] => some []
  | .inl d :: ps => (dsOf ps).map (d :: ·)
  | .inr _ :: _ => none
theorem PvsOk.vals : ∀ {vs : List V} {ps : List PV} {ds : List D}, PvsOk g F ms σ vs ps → dsOf ps = some ds → RpA g.K g.mg F vs ds
  | _, _, _, .nil, e => by cases e; exact .nil
  | v :: vs, .inl d :: ps, ds, .cons h t, e => by
    simp only [dsOf] at e
    cases q : dsOf ps with
    | none => rw [q] at e; cases e
    | some es => rw [q] at e; cases e; exact .cons h (PvsOk.vals t q)
  | v :: vs, .inr i :: ps, ds, .cons h t, e => by cases e
def mTup (os : List Opd) : ME := fun ρ => (evs os ρ).bind fun ps ρ1 => match dsOf ps with
  | some ds => if ds.length ≤ sizeLine then .ok (.tuple ds) ρ1 else .bad
  | none => .bad
def mLst (os : List Opd) : ME := fun ρ => (evs os ρ).bind fun ps ρ1 => match dsOf ps with
  | some ds => if ds.length ≤ sizeLine then .ok (.list ds) ρ1 else .bad
  | none => .bad
variable {os : List Opd}
theorem le_tup {x1} (ha : PA X es (LA g W ms os)) : PE X (.Tuple es x1 pos) (LE g W ms (mTup os)) := pe_imp (pe_tupF ha) fun σ H Q ⟨F, ρ, R, q⟩ => by
  refine ⟨F, ρ, R, ?_⟩
  unfold mTup AR.bind at q
  cases h1 : evs os ρ with
  | bad => simp only [h1] at q; exact q
  | exn x ρ' => simp only [h1] at q; exact q
  | ok ps ρ1 =>
    simp only [h1] at q
    intro vs F1 H1 s1 R1 p1
    cases h2 : dsOf ps with
    | none => simp only [h2] at q; exact False.elim q
    | some ds =>
      simp only [h2] at q
      have rp := p1.vals h2
      by_cases hl : ds.length ≤ sizeLine
      · rw [if_pos hl] at q
        refine ⟨by rw [rp.length]; exact hl, fun p o hp hc hd => ?_⟩
        have x := Ext.frz (o := .frz o (.tup vs)) R1.sub hp
        exact q _ _ _ (s1.trans x.f) (R1.ext x) (.tup (.inl ⟨o, upd_same, hc, hd⟩) (rp.mono x.f))
      · rw [if_neg hl] at q; exact False.elim q
theorem lo_lst (ha : PA X es (LA g W ms os)) : PE X (.List es pos) (LO g W ms (mLst os)) := pe_imp (pe_lst ha) fun σ H Q ⟨F, ρ, R, q⟩ => by
  refine ⟨F, ρ, R, ?_⟩
  unfold mLst AR.bind at q
  cases h1 : evs os ρ with
  | bad => simp only [h1] at q; exact q
  | exn x ρ' => simp only [h1] at q; exact q
  | ok ps ρ1 =>
    simp only [h1] at q
    intro vs F1 H1 s1 R1 p1
    cases h2 : dsOf ps with
    | none => simp only [h2] at q; exact False.elim q
    | some ds =>
      simp only [h2] at q
      have rp := p1.vals h2
      by_cases hl : ds.length ≤ sizeLine
      · rw [if_pos hl] at q
        refine ⟨by rw [rp.length]; exact hl, fun p hp => ?_⟩
        exact q p F1 _ s1 (R1.ext (Ext.new R1.sub hp)) ⟨vs, ds, rfl, rfl, upd_same, rp⟩ (R1.free hp)
      · rw [if_neg hl] at q; exact False.elim q
end
end Mr

namespace Mr
open PySem PySem.Spec PyProof.Rows L2

/-! ### statements -/
/-- what stays the same in a def's body: the modes at break and continue, at an exception; does it hand back a list of its own; the slots of the caller's lists -/
structure Sx where
  mb : List Md
  mx : List Md
  own : Bool
  io : List Nat
def Rt (g : Gh) (c : Sx) (F H : Hp) (ρ : En) (v : V) (d : D) : Prop := ∃ ms σ, Rel g F ms ρ σ H ∧ (∀ (k i : Nat), c.io[k]? = some i → ms[i]? = some (Md.io k)) ∧
  (if c.own = true then ∃ a, Lv g.K g.mg F H a v d ∧ F a = none ∧ g.H0 a = none else Rp g.K g.mg F v d)
def goS (g : Gh) (W : WX) (c : Sx) (ms' : List Md) (F : Hp) (Dn : Ends) : SR → Prop
  | .bad => False
  | .nx ρ' => ∀ F' σ' H', Same F F' → Rel g F' ms' ρ' σ' H' → Dn.nx σ' H'
  | .bk ρ' => ∀ F' σ' H', Same F F' → Rel g F' c.mb ρ' σ' H' → Dn.bk σ' H'
  | .ct ρ' => ∀ F' σ' H', Same F F' → Rel g F' c.mb ρ' σ' H' → Dn.ct σ' H'
  | .rt d ρ' => ∀ v F' H', Same F F' → Rt g c F' H' ρ' v d → Dn.rt v H'
  | .exn x ρ' => ∀ k dd F' σ' H', Same F F' → Rel g F' c.mx ρ' σ' H' → XOk g.K g.mg F' k dd x → W k dd σ' H'
def LS (g : Gh) (W : WX) (c : Sx) (ms ms' : List Md) (m : MS) : TS := fun Dn σ H => ∃ F ρ, Rel g F ms ρ σ H ∧ goS g W c ms' F Dn (m ρ)
def ER.st (r : ER) (k : D → En → SR) : SR := match r with
  | .ok d ρ => k d ρ
  | .exn x ρ => .exn x ρ
  | .bad => .bad
def SR.seq (r : SR) (k : En → SR) : SR := match r with
  | .nx ρ => k ρ
  | r => r
def sSeq (a b : MS) : MS := fun ρ => (a ρ).seq b
def sNx : MS := fun ρ => .nx ρ
def sBk : MS := fun ρ => .bk ρ
def sCt : MS := fun ρ => .ct ρ
def sEx (m : ME) : MS := fun ρ => (m ρ).st fun _ ρ1 => .nx ρ1
def sSet (i : Nat) (m : ME) : MS := fun ρ => (m ρ).st fun d ρ1 => .nx (ρ1.set i (some d))
def sRt (m : ME) : MS := fun ρ => (m ρ).st fun d ρ1 => .rt d ρ1
def sRtN : MS := fun ρ => .rt .none ρ
def sIf (c : ME) (a b : MS) : MS := fun ρ => match c ρ with
  | .ok (.bool k) ρ1 => if k = true then a ρ1 else b ρ1
  | .ok _ _ => .bad
  | .exn x ρ => .exn x ρ
  | .bad => .bad
/-- targets: a slot, or a tuple of targets -/
inductive Tg where
  | nm (i : Nat) | tup (ts : List Tg)
mutual
def asg : Tg → D → En → Option En
  | .nm i, d, ρ => some (ρ.set i (some d))
  | .tup ts, .tuple ds, ρ => asgs ts ds ρ
  | .tup ts, .list ds, ρ => asgs ts ds ρ
  | .tup _, _, _ => none
def asgs : List Tg → List D → En → Option En
  | [], [], ρ => some ρ
  | t :: ts, d :: ds, ρ => (match asg t d ρ with
    | some ρ1 => asgs ts ds ρ1
    | none => none)
  | _, _, _ => none
end
def sAsg (t : Tg) (m : ME) : MS := fun ρ => (m ρ).st fun d ρ1 => match asg t d ρ1 with
  | some ρ2 => .nx ρ2
  | none => .bad

section
variable {X : Cx} {g : Gh} {W : WX} {c : Sx} {ms ms1 ms2 ms' : List Md} {e : Expr} {stt : Stmt} {sts rest : List Stmt} {pos : Pos} {m m1 m2 : ME} {s1 s2 : MS} {σ : Sg} {F F' H H' : Hp} {ρ : En} {Q : VK} {Dn : Ends}
theorem goS.up {r : SR} (s : Same F F') (q : goS g W c ms' F Dn r) : goS g W c ms' F' Dn r := by
  cases r with
  | bad => exact q
  | nx ρ' => exact fun F2 σ2 H2 s2 => q F2 σ2 H2 (s.trans s2)
  | bk ρ' => exact fun F2 σ2 H2 s2 => q F2 σ2 H2 (s.trans s2)
  | ct ρ' => exact fun F2 σ2 H2 s2 => q F2 σ2 H2 (s.trans s2)
  | rt d ρ' => exact fun v F2 H2 s2 => q v F2 H2 (s.trans s2)
  | exn x ρ' => exact fun k dd F2 σ2 H2 s2 => q k dd F2 σ2 H2 (s.trans s2)
/-- an expression, then what it gives -/
theorem goS_st {r : ER} {k : D → En → SR} {Q' : VK} (wx : wkB ms c.mx = true) (q : goS g W c ms' F Dn (r.st k)) (h : ∀ d ρ' v F' H', r = .ok d ρ' → Same F F' → Rel g F' ms ρ' σ H' → Rp g.K g.mg F' v d → goS g W c ms' F' Dn (k d ρ') → Q' v H') : goE g W ms σ F Q' r := by
  cases r with
  | bad => exact q
  | exn x ρ' => exact fun k dd F2 H2 s R xo => q k dd F2 σ H2 s (R.weak wx) xo
  | ok d ρ' => exact fun v F' H' s R rp => h d ρ' v F' H' rfl s R rp (goS.up s q)
theorem goS_stO {r : ER} {k : D → En → SR} {Q' : VK} (wx : wkB ms c.mx = true) (q : goS g W c ms' F Dn (r.st k))
    (h : ∀ d ρ' a F' H', r = .ok d ρ' → Same F F' → Rel g F' ms ρ' σ H' → Lv g.K g.mg F' H' a (.ref a) d → Free g F' H' ms ρ' σ a → goS g W c ms' F' Dn (k d ρ') → Q' (.ref a) H') : goO g W ms σ F Q' r := by
  cases r with
  | bad => exact q
  | exn x ρ' => exact fun k dd F2 H2 s R xo => q k dd F2 σ H2 s (R.weak wx) xo
  | ok d ρ' => exact fun a F' H' s R hl f => h d ρ' a F' H' rfl s R hl f (goS.up s q)
theorem lss_nil : PSs X [] (LS g W c ms ms sNx) := pss_imp pss_nil fun Dn σ H ⟨F, ρ, R, q⟩ => q F σ H (Same.refl _) R
theorem lss_one (h : PS X stt (LS g W c ms ms' s1)) : PSs X [stt] (LS g W c ms ms' s1) := pss_one h
theorem lss_cons (h1 : PS X stt (LS g W c ms ms1 s1)) (h2 : PSs X rest (LS g W c ms1 ms' s2)) : PSs X (stt :: rest) (LS g W c ms ms' (sSeq s1 s2)) :=
  pss_imp (pss_cons h1 h2) fun Dn σ H ⟨F, ρ, R, q⟩ => by
    refine ⟨F, ρ, R, ?_⟩
    unfold sSeq SR.seq at q
    cases hr : s1 ρ with
    | nx ρ1 => rw [hr] at q; exact fun F' σ' H' s R' => ⟨F', ρ1, R', goS.up s q⟩
    | _ => rw [hr] at q; exact q
theorem goS_weak {r : SR} (w : wkB ms1 ms' = true) (q : goS g W c ms' F Dn r) : goS g W c ms1 F Dn r := by
  cases r with
  | nx ρ' => exact fun F2 σ2 H2 s2 R => q F2 σ2 H2 s2 (R.weak w)
  | _ => exact q
theorem ls_weak (h : PS X stt (LS g W c ms ms1 s1)) (w : wkB ms1 ms' = true := by rfl) : PS X stt (LS g W c ms ms' s1) := ps_imp h fun Dn σ H ⟨F, ρ, R, q⟩ => ⟨F, ρ, R, goS_weak w q⟩
theorem lss_weak (h : PSs X sts (LS g W c ms ms1 s1)) (w : wkB ms1 ms' = true := by rfl) : PSs X sts (LS g W c ms ms' s1) := pss_imp h fun Dn σ H ⟨F, ρ, R, q⟩ => ⟨F, ρ, R, goS_weak w q⟩
theorem ls_pre (h : PS X stt (LS g W c ms1 ms' s1)) (w : wkB ms ms1 = true := by rfl) : PS X stt (LS g W c ms ms' s1) := ps_imp h fun Dn σ H ⟨F, ρ, R, q⟩ => ⟨F, ρ, R.weak w, q⟩
theorem lss_pre (h : PSs X sts (LS g W c ms1 ms' s1)) (w : wkB ms ms1 = true := by rfl) : PSs X sts (LS g W c ms ms' s1) := pss_imp h fun Dn σ H ⟨F, ρ, R, q⟩ => ⟨F, ρ, R.weak w, q⟩
/-- ahead of a statement an own list is frozen -/
theorem frz_imp {i : Nat} (hm : ms[i]? = some .own) {t : TS} (h : ∀ Dn σ H, LS g W c (ms.set i .val) ms' s1 Dn σ H → t Dn σ H) : ∀ Dn σ H, LS g W c ms ms' s1 Dn σ H → t Dn σ H := fun Dn σ H ⟨F, ρ, R, q⟩ => by
  have hi : i < ms.length := (List.getElem?_eq_some_iff.mp hm).1
  cases hd : ρ[i]? with
  | none => exact absurd (List.getElem?_eq_none_iff.mp hd) (by rw [R.lρ, ← R.lm]; omega)
  | some o =>
    cases o with
    | some d =>
      obtain ⟨F', s, R'⟩ := R.frzSlot hm hd
      exact h _ _ _ ⟨F', ρ, R', goS.up s q⟩
    | none =>
      refine h _ _ _ ⟨F, ρ, ?_, q⟩
      exact { R with
        lm := by simp [R.lm]
        slot := fun j m e hm' nd he => by
          by_cases hj : j = i
          · subst hj; rw [hd] at he; cases he
          · rw [set_ne hj] at hm'; exact R.slot j m e hm' nd he
        uniq := fun j k mj mk d e u x c q1 q2 n q3 q4 q5 q6 f1 f2 => by
          by_cases hj : j = i
          · subst hj; rw [set_eq hi] at q1; cases q1; exact f1
          · by_cases hk : k = i
            · subst hk; rw [set_eq hi] at q2; cases q2; exact f2
            · rw [set_ne hj] at q1; rw [set_ne hk] at q2; exact R.uniq j k mj mk d e u x c q1 q2 n q3 q4 q5 q6 f1 f2
        ioU := fun j k n q1 q2 => by
          by_cases hj : j = i
          · subst hj; rw [set_eq hi] at q1; cases q1
          · by_cases hk : k = i
            · subst hk; rw [set_eq hi] at q2; cases q2
            · rw [set_ne hj] at q1; rw [set_ne hk] at q2; exact R.ioU j k n q1 q2 }
theorem ls_frz {i : Nat} (hm : ms[i]? = some .own) (h : PS X stt (LS g W c (ms.set i .val) ms' s1)) : PS X stt (LS g W c ms ms' s1) := ps_imp h (frz_imp hm fun _ _ _ q => q)
theorem lss_frz {i : Nat} (hm : ms[i]? = some .own) (h : PSs X sts (LS g W c (ms.set i .val) ms' s1)) : PSs X sts (LS g W c ms ms' s1) := pss_imp h (frz_imp hm fun _ _ _ q => q)
theorem ls_pass : PS X (.Pass pos) (LS g W c ms ms sNx) := ps_imp ps_pass fun Dn σ H ⟨F, ρ, R, q⟩ => q F σ H (Same.refl _) R
theorem ls_bk (w : wkB ms c.mb = true := by rfl) : PS X (.Break pos) (LS g W c ms ms' sBk) := ps_imp ps_break fun Dn σ H ⟨F, ρ, R, q⟩ => q F σ H (Same.refl _) (R.weak w)
theorem ls_ct (w : wkB ms c.mb = true := by rfl) : PS X (.Continue pos) (LS g W c ms ms' sCt) := ps_imp ps_continue fun Dn σ H ⟨F, ρ, R, q⟩ => q F σ H (Same.refl _) (R.weak w)
theorem ls_ex (he : PE X e (LE g W ms m)) (wx : wkB ms c.mx = true := by rfl) (hs : swapsWith e none pos.line X.env = pure false := by rfl) : PS X (.Expr e pos) (LS g W c ms ms (sEx m)) := ps_imp (ps_expr he hs) fun Dn σ H ⟨F, ρ, R, q⟩ =>
  ⟨F, ρ, R, goS_st wx q fun d ρ' v F' H' _ s R' _ q => q F' σ H' (Same.refl _) R'⟩
theorem ls_set {i : Nat} {x : Str} {pos' : Pos} (he : PE X e (LE g W ms m)) (hN : X.N.Nodup) (hi : X.N[i]? = some x) (hx : Loc X.env.scope x) (hl : i < ms.length := by decide) (wx : wkB ms c.mx = true := by rfl) (hs : swapsWith e (some (.Name x pos')) pos.line X.env = pure false := by rfl) (hf : X.fn x = true ∨ X.env.scope.names.lookup x = some .local := by first | exact .inl rfl | exact .inr rfl | assumption) :
    PS X (.Assign [.Name x pos'] e pos) (LS g W c ms (ms.set i .val) (sSet i m)) := ps_imp (ps_set hN hi hx he hs hf) fun Dn σ H ⟨F, ρ, R, q⟩ =>
  ⟨F, ρ, R, goS_st wx q fun d ρ' v F' H' _ s R' rp q => q F' _ H' (Same.refl _) (R'.setVal hl rp)⟩
theorem ls_setO {i : Nat} {x : Str} {pos' : Pos} (he : PE X e (LO g W ms m)) (hN : X.N.Nodup) (hi : X.N[i]? = some x) (hx : Loc X.env.scope x) (hl : i < ms.length := by decide) (wx : wkB ms c.mx = true := by rfl) (hs : swapsWith e (some (.Name x pos')) pos.line X.env = pure false := by rfl) (hf : X.fn x = true ∨ X.env.scope.names.lookup x = some .local := by first | exact .inl rfl | exact .inr rfl | assumption) :
    PS X (.Assign [.Name x pos'] e pos) (LS g W c ms (ms.set i .own) (sSet i m)) := ps_imp (ps_set hN hi hx he hs hf) fun Dn σ H ⟨F, ρ, R, q⟩ =>
  ⟨F, ρ, R, goS_stO wx q fun d ρ' a F' H' _ s R' hl' f q => q F' _ H' (Same.refl _) (R'.setOwn hl f hl')⟩
/-- comprehensions on one line with their target: by what ps_setLc gives -/
theorem ls_asgT {t : TS} {i : Nat} {te : TE} (h : PS X stt (tAsg te (gName i))) (he : ∀ σ H Q, LO g W ms m σ H Q → te σ H Q) (hl : i < ms.length := by decide) (wx : wkB ms c.mx = true := by rfl) : PS X stt (LS g W c ms (ms.set i .own) (sSet i m)) := ps_imp h fun Dn σ H ⟨F, ρ, R, q⟩ =>
  he _ _ _ ⟨F, ρ, R, goS_stO wx q fun d ρ' a F' H' _ s R' hl' f q => q F' _ H' (Same.refl _) (R'.setOwn hl f hl')⟩
def ioB (io : List Nat) (ms : List Md) : Bool := (List.range io.length).all fun k => match io[k]? with
  | some i => decide (ms[i]? = some (.io k))
  | none => false
theorem ioB_get {io : List Nat} {ms : List Md} (h : ioB io ms = true) : ∀ (k i : Nat), io[k]? = some i → ms[i]? = some (.io k) := fun k i e => by
  unfold ioB at h
  rw [List.all_eq_true] at h
  have := h k (List.mem_range.mpr (List.getElem?_eq_some_iff.mp e).1)
  rw [e] at this
  exact of_decide_eq_true this
theorem ls_rt (he : PE X e (LE g W ms m)) (ho : c.own = false := by rfl) (hio : ioB c.io ms = true := by rfl) (wx : wkB ms c.mx = true := by rfl) : PS X (.Return (some e) pos) (LS g W c ms ms' (sRt m)) := ps_imp (ps_ret he) fun Dn σ H ⟨F, ρ, R, q⟩ =>
  ⟨F, ρ, R, goS_st wx q fun d ρ' v F' H' _ s R' rp q => q v F' H' (Same.refl _) ⟨ms, σ, R', ioB_get hio, by rw [ho]; exact rp⟩⟩
theorem ls_rtO (he : PE X e (LO g W ms m)) (ho : c.own = true := by rfl) (hio : ioB c.io ms = true := by rfl) (wx : wkB ms c.mx = true := by rfl) : PS X (.Return (some e) pos) (LS g W c ms ms' (sRt m)) := ps_imp (ps_ret he) fun Dn σ H ⟨F, ρ, R, q⟩ =>
  ⟨F, ρ, R, goS_stO wx q fun d ρ' a F' H' _ s R' hl f q => q _ F' H' (Same.refl _) ⟨ms, σ, R', ioB_get hio, by rw [ho]; exact ⟨a, hl, f.f, f.h0⟩⟩⟩
/-- return of a slot's own list -/
theorem ls_rtV {i : Nat} {x : Str} {pos' : Pos} (hx : PE X (.Name x pos') (tVar i)) (hm : ms[i]? = some .own) (ho : c.own = true := by rfl) (hio : ioB c.io ms = true := by rfl) : PS X (.Return (some (.Name x pos')) pos) (LS g W c ms ms' (sRt (mVar i))) := ps_imp (ps_ret hx) fun Dn σ H ⟨F, ρ, R, q⟩ => by
  unfold sRt mVar ER.st at q
  cases h1 : ρ[i]? with
  | none => simp [h1] at q; exact q.elim
  | some o => cases o with
    | none => simp [h1] at q; exact q.elim
    | some d =>
      simp only [h1] at q
      obtain ⟨v, e, a, hl, hf, h0, _⟩ := R.slot i .own d hm (by decide) h1
      exact ⟨v, e, q v F H (Same.refl _) ⟨ms, σ, R, ioB_get hio, by rw [ho]; exact ⟨a, hl, hf, h0⟩⟩⟩
theorem ls_rtN (ho : c.own = false := by rfl) (hio : ioB c.io ms = true := by rfl) : PS X (.Return none pos) (LS g W c ms ms' sRtN) := ps_imp ps_retN fun Dn σ H ⟨F, ρ, R, q⟩ => q _ F H (Same.refl _) ⟨ms, σ, R, ioB_get hio, by rw [ho]; exact .non⟩
theorem ls_if {ec : Expr} {a b : List Stmt} (hc : PT X ec (LT g W ms m)) (ha : PSs X a (LS g W c ms ms' s1)) (hb : PSs X b (LS g W c ms ms' s2)) (wx : wkB ms c.mx = true := by rfl) : PS X (.If ec a b pos) (LS g W c ms ms' (sIf m s1 s2)) := ps_imp (ps_if hc ha hb) fun Dn σ H ⟨F, ρ, R, q⟩ => by
  refine ⟨F, ρ, R, ?_⟩
  unfold sIf at q
  cases hr : m ρ with
  | bad => rw [hr] at q; exact q
  | exn x ρ' => rw [hr] at q; exact fun k dd F2 H2 s R xo => q k dd F2 σ H2 s (R.weak wx) xo
  | ok d ρ' =>
    rw [hr] at q
    cases d with
    | bool k =>
      refine ⟨k, rfl, fun F' H' s R' => ?_⟩
      cases k with
      | true => rw [if_pos rfl]; exact ⟨F', ρ', R', goS.up s q⟩
      | false => rw [if_neg Bool.false_ne_true]; exact ⟨F', ρ', R', goS.up s q⟩
    | _ => exact False.elim q

/-! ### targets -/
theorem pg_or {tg : Expr} {t t' : TG} (h : PG X tg t) (h' : PG X tg t') : PG X tg (fun v σ H Q => t v σ H Q ∨ t' v σ H Q) := ⟨fun pins s σ H v u Q I r q => q.elim (h.run pins s σ H v u Q I r) (h'.run pins s σ H v u Q I r)⟩
theorem wipe_set {σ : Sg} {i : Nat} {x : Option V} : ∀ {vs : List Nat}, i ∈ vs → wipe (σ.set i x) vs = wipe σ vs
  | [], h => by cases h
  | v :: vs, h => by
    unfold wipe
    by_cases hv : i = v
    · subst hv
      by_cases hm : i ∈ vs
      · rw [wipe_set hm]
      · have : ∀ us : List Nat, i ∉ us → wipe (σ.set i x) us = (wipe σ us).set i x := by
          intro us
          induction us with
          | nil => intro _; rfl
          | cons u us ih =>
            intro hu
            unfold wipe
            rw [ih (fun z => hu (List.mem_cons_of_mem _ z)), List.set_comm _ _ (fun z => hu (by rw [z]; exact List.mem_cons_self))]
        rw [this vs hm, List.set_set]
    · rw [wipe_set ((List.mem_cons.mp h).resolve_left hv)]
mutual
def tgIx : Tg → List Nat
  | .nm i => [i]
  | .tup ts => tgsIx ts
def tgsIx : List Tg → List Nat
  | [] => []
  | t :: ts => tgIx t ++ tgsIx ts
end
structure GT (X : Cx) (tg : Expr) (t : Tg) (ms ms' : List Md) (gg : TG) : Prop where
  pg : PG X tg gg
  run : ∀ (g : Gh) (F : Hp) (ρ ρ' : En) (σ : Sg) (H : Hp) (v : V) (d : D) (Q : Sg → Hp → Prop), g.K = X.K → Rel g F ms ρ σ H → Rp g.K g.mg F v d → asg t d ρ = some ρ' → (∀ σ', Rel g F ms' ρ' σ' H → (∀ us, (∀ i ∈ tgIx t, i ∈ us) → wipe σ' us = wipe σ us) → Q σ' H) → gg v σ H Q
structure GTs (X : Cx) (tg : List Expr) (t : List Tg) (ms ms' : List Md) (gg : TGs) : Prop where
  pg : PGs X tg gg
  len : (assignEach tg X.env).length = t.length ∧ (assignEach tg X.env).findIdx? (·.1) = none
  run : ∀ (g : Gh) (F : Hp) (ρ ρ' : En) (σ : Sg) (H : Hp) (vs : List V) (ds : List D) (Q : Sg → Hp → Prop), g.K = X.K → Rel g F ms ρ σ H → RpA g.K g.mg F vs ds → asgs t ds ρ = some ρ' → (∀ σ', Rel g F ms' ρ' σ' H → (∀ us, (∀ i ∈ tgsIx t, i ∈ us) → wipe σ' us = wipe σ us) → Q σ' H) → gg vs σ H Q
theorem gt_nm {i : Nat} {x : Str} {pos : Pos} (hN : X.N.Nodup) (hi : X.N[i]? = some x) (hx : Loc X.env.scope x) (hl : i < ms.length := by decide) (hf : X.fn x = true ∨ X.env.scope.names.lookup x = some .local := by first | exact .inl rfl | exact .inr rfl | assumption) : GT X (.Name x pos) (.nm i) ms (ms.set i .val) (gName i) :=
  ⟨pg_name hN hi hx hf, fun g F ρ ρ' σ H v d Q _ R r e q => by
    simp only [asg] at e
    cases e
    exact q _ (R.setVal hl r) fun us hu => wipe_set (hu i (by simp [tgIx]))⟩
theorem gts_nil : GTs X [] [] ms ms gNil := ⟨pgs_nil, ⟨rfl, rfl⟩, fun g F ρ ρ' σ H vs ds Q _ R r e q => by
  cases r with
  | nil => simp only [asgs] at e; cases e; exact ⟨rfl, q _ R fun _ _ => rfl⟩
  | cons _ _ => simp [asgs] at e⟩
theorem gts_cons {e : Expr} {es : List Expr} {t : Tg} {ts : List Tg} {gg : TG} {ggs : TGs} (h1 : GT X e t ms ms1 gg) (h2 : GTs X es ts ms1 ms' ggs)
    (hs : (assignEach (e :: es) X.env).map (·.2) = assign e X.env :: (assignEach es X.env).map (·.2) := by rfl) (hl : (assignEach (e :: es) X.env).length = (t :: ts).length ∧ (assignEach (e :: es) X.env).findIdx? (·.1) = none := by exact ⟨rfl, rfl⟩) : GTs X (e :: es) (t :: ts) ms ms' (gCons gg ggs) :=
  ⟨pgs_cons h1.pg h2.pg hs, hl, fun g F ρ ρ' σ H vs ds Q hk R r e q => by
    cases r with
    | nil => simp [asgs] at e
    | cons r rr =>
      simp only [asgs] at e
      cases ha : asg t _ ρ with
      | none => rw [ha] at e; cases e
      | some ρ1 =>
        rw [ha] at e
        exact ⟨_, _, rfl, h1.run g F ρ ρ1 σ H _ _ _ hk R r ha fun σ1 R1 w1 => h2.run g F ρ1 ρ' σ1 H _ _ Q hk R1 rr e fun σ2 R2 w2 => q σ2 R2 fun us hu => (w2 us fun i hi => hu i (by simp only [tgsIx, List.mem_append]; exact .inr hi)).trans (w1 us fun i hi => hu i (by simp only [tgsIx, List.mem_append]; exact .inl hi))⟩⟩
theorem gt_tup {es : List Expr} {k : Nat} {ts : List Tg} {ggs : TGs} (hc : X.calm = true) (h : GTs X es ts ms ms' ggs) : GT X (.Tuple es k pos) (.tup ts) ms ms' (fun v σ H Q => gTup X.K ts.length ggs v σ H Q ∨ gLst X.K ts.length ggs v σ H Q) :=
  ⟨pg_or (pg_tup hc h.pg h.len.1 h.len.2) (pg_lst hc h.pg h.len.1 h.len.2), fun g F ρ ρ' σ H v d Q hk R r e q => by
    have hlen : ∀ {ts : List Tg} {ds : List D} {ρ ρ' : En}, asgs ts ds ρ = some ρ' → ds.length = ts.length := by
      intro ts
      induction ts with
      | nil => intro ds ρ ρ' e; cases ds with
        | nil => rfl
        | cons _ _ => simp [asgs] at e
      | cons t ts ih => intro ds ρ ρ' e; cases ds with
        | nil => simp [asgs] at e
        | cons d ds =>
          simp only [asgs] at e
          cases ha : asg t d ρ with
          | none => rw [ha] at e; cases e
          | some ρ1 => rw [ha] at e; simp [ih e]
    cases d with
    | tuple ds =>
      simp only [asg] at e
      cases r with
      | tup hs ra => exact .inl ⟨_, _, rfl, by rw [← hk]; exact sqT_same R.sub hs.t, by rw [ra.length, hlen e], h.run g F ρ ρ' σ H _ _ Q hk R ra e fun σ2 R2 w2 => q σ2 R2 fun us hu => w2 us (by simpa [tgIx] using hu)⟩
    | list ds =>
      simp only [asg] at e
      cases r with
      | lst hs ra => exact .inr ⟨_, _, rfl, by rw [← hk]; exact (hs.mono R.sub).sql, by rw [ra.length, hlen e], h.run g F ρ ρ' σ H _ _ Q hk R ra e fun σ2 R2 w2 => q σ2 R2 fun us hu => w2 us (by simpa [tgIx] using hu)⟩
    | _ => simp [asg] at e⟩
theorem ls_asg {tg e : Expr} {t : Tg} {gg : TG} (hk : g.K = X.K) (he : PE X e (LE g W ms m)) (hg : GT X tg t ms ms' gg) (wx : wkB ms c.mx = true := by rfl) (hs : swapsWithSole [tg] e pos.line X.env = pure false := by rfl) (hw : swappedStores [tg] e X.env = pure none := by rfl) (h1 : (assignEach [tg] X.env).map (·.2) = [assign tg X.env] := by rfl) :
    PS X (.Assign [tg] e pos) (LS g W c ms ms' (sAsg t m)) := ps_imp (ps_asg he hg.pg hs hw h1) fun Dn σ H ⟨F, ρ, R, q⟩ =>
  ⟨F, ρ, R, goS_st wx q fun d ρ' v F' H' _ s R' rp q => by
    cases ha : asg t d ρ' with
    | none => simp only [ha] at q; exact False.elim q
    | some ρ2 =>
      simp only [ha] at q
      exact hg.run g F' ρ' ρ2 σ H' v d _ hk R' rp ha fun σ' R2 _ => q F' σ' H' (Same.refl _) R2⟩

/-! ### loops -/
inductive IR where
  | bad | ok (ds : List D) (ρ : En) | exn (x : D) (ρ : En)
abbrev MI := En → IR
/-- J walks the items ds, whatever the body does -/
def WalkD (g : Gh) (F : Hp) (J : It) (ds : List D) : Prop := ∃ G Y, Walk J ds.length G Y ∧ (∀ F2 ms2 ρ2 σ2 H2, Same F F2 → Rel g F2 ms2 ρ2 σ2 H2 → G H2) ∧
  (∀ i F2 H2 x H3, i < ds.length → Same F F2 → Same F2 H2 → Y i H2 x H3 → ∃ d F3, ds[i]? = some d ∧ Ext F2 H2 F3 H3 ∧ Rp g.K g.mg F3 x d)
def goI (g : Gh) (W : WX) (ms : List Md) (σ : Sg) (F : Hp) (R : It → Hp → Prop) : IR → Prop
  | .bad => False
  | .ok ds ρ' => ∀ J F' H', Same F F' → Rel g F' ms ρ' σ H' → WalkD g F' J ds → R J H'
  | .exn x ρ' => ∀ k dd F' H', Same F F' → Rel g F' ms ρ' σ H' → XOk g.K g.mg F' k dd x → W k dd σ H'
def LI (g : Gh) (W : WX) (ms : List Md) (m : MI) : TI := fun σ H Q => ∃ F ρ, Rel g F ms ρ σ H ∧ goI g W ms σ F Q (m ρ)
def loopS (t : Tg) (b : MS) : List D → En → SR
  | [], ρ => .nx ρ
  | d :: ds, ρ => match asg t d ρ with
    | none => .bad
    | some ρ1 => match b ρ1 with
      | .nx ρ2 => loopS t b ds ρ2
      | .ct ρ2 => loopS t b ds ρ2
      | .bk ρ2 => .nx ρ2
      | r => r
def IR.st (r : IR) (k : List D → En → SR) : SR := match r with
  | .ok ds ρ => k ds ρ
  | .exn x ρ => .exn x ρ
  | .bad => .bad
def sFor (mi : MI) (t : Tg) (b : MS) : MS := fun ρ => (mi ρ).st (loopS t b)
theorem ls_for {tg iter : Expr} {body : List Stmt} {wi : TI} {mi : MI} {t : Tg} {gg : TG} {msh msb : List Md} {sb : MS} (hk : g.K = X.K) (hp : PassesOwn (model X.prog X.w) X.A X.env X.xe) (hc : X.calm = true)
    (hi : PI X tg iter wi) (hwi : ∀ σ H R, LI g W ms mi σ H R → wi σ H R) (hg : GT X tg t msh msb gg) (hb : PSs X body (LS g W { c with mb := msh } msb msh sb)) (wh : wkB ms msh = true := by rfl) (wx : wkB ms c.mx = true := by rfl)
    (hs : ∀ x, foldedSetIterable iter X.env x = pure x := by intro _; rfl) : PS X (.For tg iter body [] pos) (LS g W c ms msh (sFor mi t sb)) :=
  ps_imp (ps_for hp hc hi hg.pg hb hs) fun Dn σ H ⟨F, ρ, R, q⟩ => by
    refine hwi _ _ _ ⟨F, ρ, R, ?_⟩
    unfold sFor IR.st at q
    cases hr : mi ρ with
    | bad => rw [hr] at q; exact q
    | exn x ρ' => rw [hr] at q; exact fun k dd F2 H2 s R xo => q k dd F2 σ H2 s (R.weak wx) xo
    | ok ds ρ1 =>
      rw [hr] at q
      intro J F1 H1 s1 R1 wd
      obtain ⟨G, Y, wk, hG, hY⟩ := wd
      refine for_it wk (fun i σ2 H2 => ∃ F2 ρ2, Same F1 F2 ∧ Rel g F2 msh ρ2 σ2 H2 ∧ goS g W c msh F2 Dn (loopS t sb (ds.drop i) ρ2)) ⟨F1, ρ1, Same.refl _, R1.weak wh, goS.up s1 q⟩ (fun i σ2 H2 _ ⟨F2, ρ2, s2, R2, _⟩ => hG F2 msh ρ2 σ2 H2 s2 R2) (fun i x σ2 H2 H3 hi' ⟨F2, ρ2, s2, R2, q2⟩ y => ?_) (fun σ2 H2 ⟨F2, ρ2, s2, R2, q2⟩ => ?_)
      · obtain ⟨d, F3, hd, ex, rp⟩ := hY i F2 H2 x H3 hi' s2 R2.sub y
        have hdr : ds.drop i = d :: ds.drop (i + 1) := by
          obtain ⟨h1, h2⟩ := List.getElem?_eq_some_iff.mp hd
          rw [List.drop_eq_getElem_cons h1, h2]
        rw [hdr] at q2
        unfold loopS at q2
        cases ha : asg t d ρ2 with
        | none => simp only [ha] at q2; exact False.elim q2
        | some ρ3 =>
          simp only [ha] at q2
          refine hg.run g F3 ρ2 ρ3 σ2 H3 x d _ hk (R2.ext ex) rp ha fun σ3 R3 _ => ⟨F3, ρ3, R3, ?_⟩
          have q3 := goS.up ex.f q2
          cases hb2 : sb ρ3 with
          | nx ρ4 => simp only [hb2] at q3; exact fun F4 σ4 H4 s4 R4 => ⟨F4, ρ4, s2.trans (ex.f.trans s4), R4, goS.up s4 q3⟩
          | ct ρ4 => simp only [hb2] at q3; exact fun F4 σ4 H4 s4 R4 => ⟨F4, ρ4, s2.trans (ex.f.trans s4), R4, goS.up s4 q3⟩
          | bk ρ4 => simp only [hb2] at q3; exact fun F4 σ4 H4 s4 R4 => q3 F4 σ4 H4 s4 R4
          | rt d4 ρ4 => simp only [hb2] at q3; exact q3
          | exn x4 ρ4 => simp only [hb2] at q3; exact q3
          | bad => simp only [hb2] at q3; exact q3
      · rw [List.drop_length] at q2
        exact q2 F2 σ2 H2 (Same.refl _) R2
end
end Mr

/-! defs that run where nothing is being shown (no guard stands around) -/
namespace Mr
open PySem PySem.Spec PyProof.Rows L2
section
variable {P : Program} {w : World} {K : Fr} {mg : Mg} {base : Heap}
structure FnG (P : Program) (w : World) (K : Fr) (mg : Mg) (base : Heap) (k : Nat) (f : Addr) (fd : FuncData) (ps : List Str) (sp : Sp) : Prop where
  len : ∀ vs H Q E, sp vs H Q E → vs.length = ps.length
  run : ∀ (A : Around) (outer : List Env) (s : Shared) (H : Hp) (args : Args) (us : List Value) (vs : List V) (Q : VK) (E : XK), A.guards = some [] → Room k A → Env0 P w K mg base A outer s H →
    BindsTo s fd args (ps.zip us) → Vals vs us → sp vs H Q E → codeAny (model P w) A (.call (.ref f) args) (CR (L2.CX P w) outer P w H s Q E) s
theorem FnG.up {j k : Nat} {f : Addr} {fd : FuncData} {ps : List Str} {sp : Sp} (F : FnG P w K mg base j f fd ps sp) (h : j ≤ k) : FnG P w K mg base k f fd ps sp :=
  ⟨F.len, fun A outer s H args us vs Q E hg hr => F.run A outer s H args us vs Q E hg (hr.mono h)⟩
theorem FnG.mk' {x qual : Str} {st : Stmt} {f : Addr} {fd : FuncData} {N ps : List Str} {k : Nat} {sp : Sp} (F : Fun K x qual st f fd) (S : FnScope N ps (defScope st)) (len : ∀ vs H Q E, sp vs H Q E → vs.length = ps.length)
    (body : ∀ (cdv : Value) (A : Around) (outer : List Env) (s : Shared) (H : Hp) (vs : List V) (Q : VK) (E : XK), (A.deeper (envOfC qual (defScope st) s.heap.objs.size f cdv)).guards = some [] → Room k (A.deeper (envOfC qual (defScope st) s.heap.objs.size f cdv)) → sp vs H Q E →
      ∃ t, PSs (cxOf (L2.CX P w) P w K mg base N qual (defScope st) f cdv A outer s H E) (defBody st) t ∧ t { nx := fun _ H' => Q .non H', rt := Q } (L2.start N vs) H) : FnG P w K mg base (k + 1) f fd ps sp := by
  obtain ⟨oc, od, kV, doc, pm, an, cdv, ct, osl, rfl, lk, hcd⟩ := F.ex
  refine ⟨len, fun A outer s H args us vs Q E hgu hr e0 hb rv hsp => ?_⟩
  have KX : K.In s.heap := e0.mod.kin.keeps fun b o e => (e0.bs b o e).1
  have hlim : s.heap.NoLimit := e0.mod.nolimit.keeps fun b o e => (e0.bs b o e).1
  have kinds : ∀ y ∈ ps.zip us, (defScope st).names.lookup y.1 = some .local ∨ ((defScope st).names.lookup y.1 = some .cell ∧ ((cellsFrom (s.heap.objs.size + 1) (defScope st).names []).lookup y.1).isSome = true) := by
    rintro ⟨n, u⟩ hy
    rcases S.par n (List.of_mem_zip hy).1 with q | q
    · left; exact q
    · right; exact ⟨q, PySem.W.cellsFrom_some _ _ _ (.inl q)⟩
  refine codeAny_call_function hr.depth (KX _ _ lk) rfl S.co S.gen rfl (PySem.W.codeRec_of KX hcd) (hb _ _ _ _ ?_)
  refine wpAny_newFunctionEnv_cells S.kind kinds fun env he s1 x => ?_
  cases he
  refine ⟨hlim.keeps x.toInCall.keep, codeAny_func ?_⟩
  obtain ⟨t, ht, hq⟩ := body cdv A outer s H vs Q E hgu (hr.deeper _) hsp
  have I := inv_start (CX := L2.CX P w) (E := E) S hr.hd e0 (len _ _ _ _ hsp) rv x
  refine wpAny_mono (ht.run [] s1 (L2.start N vs) H _ I hq) (fun fl s' hs => ?_) fun e s' hs => hs
  cases fl with
  | ret u => obtain ⟨v, σ', H', J, r1, q⟩ := hs; exact ⟨v, H', J.os, J.bare, J.base, J.hok, r1, q⟩
  | next => obtain ⟨σ', H', J, q⟩ := hs; exact ⟨V.non, H', J.os, J.bare, J.base, J.hok, rfl, q⟩
  | brk => obtain ⟨_, _, _, q⟩ := hs; cases q
  | cont => obtain ⟨_, _, _, q⟩ := hs; cases q
end
section
variable {X : Cx} {k : Nat} {f : Addr} {fd : FuncData} {ps : List Str} {sp : Sp} {E : Sg → XK} {x : Str} {p pos : Pos} {e : Expr} {es : List Expr} {t : TA}
/-- the callee runs -/
theorem FnG.go {pins : List (Addr × Obj)} {σ : Sg} {H : Hp} {s : Shared} {Q : VK} {us : List Value} {kw : List (Str × Value)} {vs : List V} {ws : List Value} (F : FnG X.prog X.w X.K X.mg X.base k f fd ps sp) (hgu : X.A.guards = some []) (hr : Room k X.A) (hb : BindsTo s fd ⟨us, kw⟩ (ps.zip ws)) (hx : PassesAt (L2.CX X.prog X.w) X σ (E σ))
    (I : Inv X pins σ H s) (r : Vals vs ws) (h : sp vs H Q (E σ)) : wpAny (model X.prog X.w) X.A (PySem.call (.ref f) us kw) (EP X pins σ Q) X.xe s := by
  refine wpAny_call (codeAny_mono (F.run X.A X.stack s H ⟨us, kw⟩ ws vs Q (E σ) hgu hr I.env0 hb r h) fun r s' hq => ?_)
  cases r with
  | error e => exact hx pins H s e s' I hq
  | ok fl =>
    cases fl with
    | ret u => exact I.after hq
    | next => cases hq
    | brk => cases hq
    | cont => cases hq
theorem pe_callG (F : FnG X.prog X.w X.K X.mg X.base k f fd ps sp) (hgu : X.A.guards = some []) (hr : Room k X.A) (hg : Gl X x) (hm : X.mg x = some (.ref f)) (hk : PySem.W.keepIn X.K (.ref f) = true) (hb : Binds X.K fd ps []) (hx : ∀ σ, PassesAt (L2.CX X.prog X.w) X σ (E σ))
    (ha : PA X (e :: es) t) (hdb : (x == ("__debug__" : Str)) = false := by decide) (he : starEach (e :: es) X.env = (false, eval e X.env) :: starEach es X.env := by rfl) (hpl : (backTo pos (starEach es X.env)).any (·.1) = false := by rfl) :
    PE X (.Call (.Name x p) (e :: es) [] pos) (tCallS sp E t) := by
  refine ⟨fun pins s σ H Q I h => wpAny_Call_Name_kw (ld_glob I hg hm ?_ hdb)⟩
  refine PySem.W.callWith_K (h₀ := X.base) I.ok.mod.kin hk (thn (ha.run pos pins s σ H _ I h) fun us s1 ⟨vs, H1, I1, r, q⟩ => ⟨I1.kIn, ?_⟩) he hpl
  have hl : us.length = ps.length := by rw [← r.length]; exact F.len _ _ _ _ q
  have b := hb s1 us I1.kIn (by rw [List.append_nil]; exact hl)
  rw [List.append_nil] at b
  exact F.go hgu hr b (hx σ) I1 r q
end
/-! ### the law's own call -/
theorem law_callG {P : Program} {w : World} {K : Fr} {mg mb : Mg} {k : Nat} {fa a : Addr} {fd : FuncData} {x : Str} {sp : Sp} {s : Shared} {vs : List Value} {ns : List Int}
    (KX : K.In s.heap) (hns : s.heap.Ns mainGlobals mg) (hb : s.heap.Ns builtinsNs mb) (hbb : ∀ x : Str, x ≠ "__name__" → mb x = bootBuiltins x) (hlim : s.heap.NoLimit) (hgen : s.gens = #[])
    (ha : s.heap.get? a = some { cls := .type "list", data := .seq vs.toArray }) (hi : IntsAre vs ns) (hl : ns.length ≤ sizeLine) (hr : Room k callerA)
    (F : ∀ base : Heap, K.In base → base.Ns mainGlobals mg → FnG P w K mg base k fa fd [x] sp) (hbind : ∀ (s : Shared) (u : Value), BindsTo s fd ⟨[u], []⟩ [(x, u)])
    (hsp : ∀ H : Hp, Only H → SqP K H a (ns.map V.int) → sp [.ref a] H (fun v _ => v = .bl true) fun _ _ _ => False) :
    codeAny (model P w) callerA (.call (.ref fa) ⟨[.ref a], []⟩) (fun r s' => r = .ok (.ret (.bool true)) ∧ OldK s.heap s'.heap ∧ s'.os = s.os ∧ AllBare s'.gens) s := by
  have rv := vals_ints hi
  -- H tracks the script at most
  have go : ∀ H : Hp, Only H → SqP K H a (ns.map V.int) → HOk P w H s.heap → (∀ b, H b ≠ none → b = a) → (H a ≠ none → K.lookup a = none) →
      codeAny (model P w) callerA (.call (.ref fa) ⟨[.ref a], []⟩) (fun r s' => r = .ok (.ret (.bool true)) ∧ OldK s.heap s'.heap ∧ s'.os = s.os ∧ AllBare s'.gens) s := by
    intro H hO hS hok hA hK
    have dictFree : ∀ {b : Addr} {o : Obj} {es : Array DictEntry} {ep : Nat}, s.heap.get? b = some o → o.data = .dict es ep → H b = none := by
      intro b o es ep e d
      cases q : H b with
      | none => rfl
      | some u =>
        cases hA b (by rw [q]; simp)
        rw [ha] at e; cases e
        cases (show Data.seq vs.toArray _ = Data.dict es ep from d)
    have nsB : ∀ {b : Addr} {m : Mg}, s.heap.Ns b m → (hidT s.heap H).Ns b m := by
      rintro b m ⟨o, es, ep, e, d, r⟩
      exact ⟨o, es, ep, hidT_get e (dictFree e d), d, r⟩
    have inB : K.In (hidT s.heap H) := fun b o e => hidT_get (KX b o e) (by
      cases q : H b with
      | none => rfl
      | some u =>
        cases hA b (by rw [q]; simp)
        rw [hK (by rw [q]; simp)] at e; cases e)
    obtain ⟨mc, l1, l2⟩ := hlim
    have e0 : Env0 P w K mg (hidT s.heap H) callerA [] s H :=
      { frames := rfl, mod := ⟨inB, nsB hns, ⟨mb, nsB hb, hbb⟩, mc, nsB l1, l2⟩, bs := fun b o e => of_hidT e, bsz := Nat.le_of_eq (hidT_size _ _), funs := trivial,
        frf := fun b hb => absurd (show b ∈ ([] : List Addr) from hb) (by simp), hok := hok, bare := .of_eq hgen }
    refine codeAny_mono ((F _ inB (nsB hns)).run callerA [] s H ⟨[.ref a], []⟩ [.ref a] [.ref a] _ _ rfl hr e0 (hbind s (.ref a)) (.cons rfl .nil) (hsp H hO hS)) fun r s' h => ?_
    cases r with
    | error e => obtain ⟨_, _, _, _, _, _, _, _, _, _, _, _, z⟩ := h; exact z.elim
    | ok fl =>
      cases fl with
      | next => cases h
      | brk => cases h
      | cont => cases h
      | ret u =>
        obtain ⟨v, H', os, bare, un, hok', r', q⟩ := h
        cases (show v = .bl true from q)
        cases (show u = Value.bool true from r')
        refine ⟨rfl, OldK.of_keep fun b o e => ?_, os, bare⟩
        rcases hO b with z | ⟨ob, xs, z⟩
        · exact un.keep b o e z (fun y => absurd (show b ∈ ([] : List Addr) from y) (by simp)) (by simp)
        · obtain ⟨e1, _⟩ := hok b _ z
          obtain ⟨e2, _⟩ := hok' b _ (un.frzs b ob _ z)
          rw [e] at e1; cases e1
          exact e2
  cases hk : K.lookup a with
  | some o =>
    have e := KX a o hk
    rw [ha] at e
    cases e
    exact go (fun _ => none) (fun _ => .inl rfl) (.inr ⟨vs, _, hk, by rw [hi.length]; exact hl, rv⟩) (fun b u z => absurd (show (none : Option HO) = some u from z) (by simp)) (fun b z => absurd rfl z) fun z => absurd rfl z
  | none =>
    obtain ⟨Hs, hHs⟩ : ∃ Hs : Hp, Hs = fun b => if b = a then some (.frz { cls := .type "list", data := .seq vs.toArray } (.lst (ns.map V.int))) else none := ⟨_, rfl⟩
    have at_a : Hs a = some (.frz { cls := .type "list", data := .seq vs.toArray } (.lst (ns.map V.int))) := by rw [hHs]; exact if_pos rfl
    have off : ∀ b, b ≠ a → Hs b = none := fun b hb => by rw [hHs]; exact if_neg hb
    refine go Hs (fun b => ?_) (.inl (.inr ⟨_, at_a⟩)) (fun b u z => ?_) (fun b z => ?_) fun _ => hk
    · by_cases h : b = a
      · subst h; exact .inr ⟨_, _, at_a⟩
      · exact .inl (off b h)
    · by_cases h : b = a
      · subst h
        rw [at_a] at z; cases z
        exact ⟨ha, by rw [List.length_map]; exact hl, vs, _, rv, ha⟩
      · rw [off b h] at z; cases z
    · exact Decidable.byContradiction fun h => z (off b h)
theorem walk_G {l : PySem.W.OpenLaw} {n k : Nat} {q : Program} {loose : List Str} {XP : (Str → Option Value) → Heap → Prop} {YP : World → Heap → Prop} {d : DefRec} {K : Params → Fr} {sp : World → Sp} {x : Str}
    (hn : l.most = some n) (hn2 : n ≤ sizeLine) (hdf : d.params.defaults = []) (hr : Room k callerA) (hY : ∀ (w : World) (h : Heap), YP w h → (K w.params).In h)
    (F : ∀ (w : World) (mg : Mg) (fa : Addr) (h : Heap), (K w.params).In h → h.Ns mainGlobals mg → mg d.name = some (.ref fa) →
      ∃ fd : FuncData, (∀ (s : Shared) (u : Value), BindsTo s fd ⟨[u], []⟩ [(x, u)]) ∧ ∀ base : Heap, (K w.params).In base → base.Ns mainGlobals mg → FnG l.prog w (K w.params) mg base k fa fd [x] (sp w))
    (hsp : ∀ (w : World) (H : Hp) (a : Addr) (ns : List Int), ns.length ≤ n → Only H → SqP (K w.params) H a (ns.map V.int) → sp w [.ref a] H (fun v _ => v = .bl true) fun _ _ _ => False) :
    PySem.W.WalkO q loose XP YP l.row.toRowW d [] (fun f vs => PySem.call f vs) := by
  refine Att.attach_call hn hdf fun w s₀ s mg mb fa o pm cd doc a vs ns G Y ho hd hcd hmg hobj hints hlen hg => ?_
  have KX := hY w _ Y
  obtain ⟨fd, hb, hF⟩ := F w mg fa _ KX G.T.g hmg
  exact law_callG KX G.T.g G.T.b G.T.builtins G.T.nolimit hg hobj hints (Nat.le_trans hlen hn2) hr hF hb fun H hO hS => hsp w H a ns hlen hO hS
end Mr

namespace Mr
open PySem PySem.Spec PyProof.Rows L2

/-! ### what a def promises -/
/-- behind a call: frozen things grow by new ones alone, the caller's lists ios hold iods, all else stands -/
structure Post (K : Fr) (mg : Mg) (ios : List Addr) (F H F' H' : Hp) (iods : List D) : Prop where
  f : Same F F'
  sub : Same F' H'
  keepF : ∀ a, H a ≠ none → F' a = F a
  frame : ∀ a o, H a = some o → a ∉ ios → H' a = some o
  dom : ∀ a, H a ≠ none → H' a ≠ none
  len : iods.length = ios.length
  io : ∀ (k : Nat) (a : Addr) (e : D), ios[k]? = some a → iods[k]? = some e → Lv K mg F' H' a (.ref a) e ∧ F' a = none
def goF (K : Fr) (mg : Mg) (own : Bool) (ios : List Addr) (F H : Hp) (Q : VK) (E : XK) : FR → Prop
  | .bad => False
  | .ok d iods => ∀ v F' H', Post K mg ios F H F' H' iods → (if own = true then ∃ a, Lv K mg F' H' a v d ∧ F' a = none ∧ H a = none else Rp K mg F' v d) → Q v H'
  | .exn x iods => ∀ c dd F' H', Post K mg ios F H F' H' iods → XOk K mg F' c dd x → E c dd H'
def isIo : Md → Bool
  | .io _ => true
  | _ => false
def nIo (pms : List Md) : Nat := (pms.filter isIo).length
def spM (K : Fr) (mg : Mg) (pms : List Md) (own : Bool) (f : Fn) : Sp := fun vs H Q E => ∃ F ds ios, Same F H ∧ vs.length = pms.length ∧ ds.length = pms.length ∧
  (∀ (i : Nat) (m : Md) (v : V) (d : D), pms[i]? = some m → vs[i]? = some v → ds[i]? = some d → SlotOk ⟨K, mg, F, H, ios, []⟩ F H m v d ∧ m ≠ .own ∧ m ≠ .oo) ∧ ios.Nodup ∧ ios.length = nIo pms ∧ (∀ a ∈ ios, H a ≠ none) ∧ goF K mg own ios F H Q E (f ds)
def ioG (ρ : En) : List Nat → Option (List D)
  | [] => some []
  | i :: is => match ρ[i]?, ioG ρ is with
    | some (some d), some ds => some (d :: ds)
    | _, _ => none
def runFn (n : Nat) (io : List Nat) (own : Bool) (b : MS) : Fn := fun ds => match b (ds.map some ++ List.replicate (n - ds.length) none) with
  | .rt d ρ => (match ioG ρ io with
    | some is => .ok d is
    | none => .bad)
  | .nx ρ => if own = true then .bad else (match ioG ρ io with
    | some is => .ok .none is
    | none => .bad)
  | .exn x ρ => (match ioG ρ io with
    | some is => .exn x is
    | none => .bad)
  | _ => .bad
theorem ioG_get {ρ : En} : ∀ {io : List Nat} {is : List D}, ioG ρ io = some is → is.length = io.length ∧ ∀ (k : Nat) (e : D), is[k]? = some e → ∃ i, io[k]? = some i ∧ ρ[i]? = some (some e)
  | [], _, h => by cases h; exact ⟨rfl, fun k e q => by simp at q⟩
  | i :: io, is, h => by
    unfold ioG at h
    cases q1 : ρ[i]? with
    | none => simp [q1] at h
    | some o => cases o with
      | none => simp [q1] at h
      | some d =>
        cases q2 : ioG ρ io with
        | none => simp [q1, q2] at h
        | some ds =>
          simp only [q1, q2, Option.some.injEq] at h
          subst h
          obtain ⟨hl, hg⟩ := ioG_get q2
          refine ⟨by simp [hl], fun k e q => ?_⟩
          cases k with
          | zero => simp at q; subst q; exact ⟨i, rfl, q1⟩
          | succ k => obtain ⟨j, h1, h2⟩ := hg k e (by simpa using q); exact ⟨j, by simpa using h1, h2⟩

section
variable {P : Program} {w : World} {K : Fr} {mg : Mg} {base : Heap}
/-- at the end of a body: what the caller gets -/
theorem Rel.post {F0 H0 F H : Hp} {ios : List Addr} {ms : List Md} {ρ : En} {σ : Sg} {io : List Nat} {iods : List D} (R : Rel ⟨K, mg, F0, H0, ios, []⟩ F ms ρ σ H) (hio : ∀ (k i : Nat), io[k]? = some i → ms[i]? = some (.io k)) (hl : io.length = ios.length) (hg : ioG ρ io = some iods) : Post K mg ios F0 H0 F H iods where
  f := R.grow
  sub := R.sub
  keepF := R.keepF
  frame := R.frame
  dom := R.dom
  len := by rw [(ioG_get hg).1, hl]
  io := fun k a e h1 h2 => by
    obtain ⟨i, q1, q2⟩ := (ioG_get hg).2 k e h2
    obtain ⟨v, _, a', h3, h4, h5⟩ := R.slot i (.io k) e (hio k i q1) (fun z => by cases z) q2
    have : a' = a := Option.some.inj (h3.symm.trans h1)
    subst this
    obtain ⟨xs, ds, e1, e2⟩ := h4
    subst e1
    exact ⟨⟨xs, ds, rfl, e2⟩, h5⟩
theorem ok_of {x qual : Str} {st : Stmt} {f : Addr} {fd : FuncData} {N ps : List Str} {k : Nat} (F : Fun K x qual st f fd) (S : FnScope N ps (defScope st)) {pms lms ms' mx : List Md} {own : Bool} {io : List Nat} {b : MS} (hlen : pms.length = ps.length) (hll : pms.length + lms.length = N.length) (hlm : lms.all (fun m => !isIo m) = true) (hN : ps.length ≤ N.length) (hni0 : io.length = nIo pms)
    (hio : ∀ k i : Nat, pms[i]? = some (.io k) ↔ io[k]? = some i) (hio' : ∀ (k i : Nat), io[k]? = some i → ms'[i]? = some (.io k)) (hioX : ∀ (k i : Nat), io[k]? = some i → mx[i]? = some (.io k))
    (hbody : ∀ (cdv : Value) (A : Around) (outer : List Env) (s : Shared) (H : Hp) (E : XK) (X : Cx), X = cxOf (L2.CX P w) P w K mg base N qual (defScope st) f cdv A outer s H E → X.A.guards = some [] → Room k X.A → ∀ (F0 H0 : Hp) (ios : List Addr) (W : WX), Takes X W → PassesOwn (model X.prog X.w) X.A X.env X.xe →
      PSs X (defBody st) (LS ⟨K, mg, F0, H0, ios, []⟩ W ⟨[], mx, own, io⟩ (pms ++ lms) ms' b)) : FnG P w K mg base (k + 1) f fd ps (spM K mg pms own (runFn N.length io own b)) := by
  refine FnG.mk' F S (fun vs H Q E h => ?_) (fun cdv A outer s H vs Q E hgu hr h => ?_)
  · obtain ⟨_, _, _, _, h, _⟩ := h
    rw [h, hlen]
  · obtain ⟨F0, ds, ios, sub, lv, ld, hs, nd, hni, hin, q⟩ := h
    have hb := hbody cdv A outer s H E (cxOf (L2.CX P w) P w K mg base N qual (defScope st) f cdv A outer s H E) rfl hgu hr F0 H ios (fun cls d _ H => E cls d H) (takes_of rfl rfl rfl rfl) (passes_of (K := fun e s'' => L2.CX P w outer H s E e s'') rfl)
    refine ⟨_, hb, F0, ds.map some ++ List.replicate (N.length - ds.length) none, ?_, ?_⟩
    · refine ⟨sub, Same.refl _, fun _ _ => rfl, fun _ _ e _ => e, fun _ e => e, hin, nd, fun p hp => absurd hp (by simp), ?_, ?_, fun i m d h1 nd h2 => ?_, fun i j mi mj d e u x c h1 h2 _ h3 _ _ _ f1 _ => ?_, fun i j k h1 h2 => ?_⟩
      · show (pms ++ lms).length = (L2.start N vs).length
        unfold L2.start
        simp only [List.length_append, List.length_replicate, List.length_map]
        omega
      · show (ds.map some ++ List.replicate (N.length - ds.length) none).length = (L2.start N vs).length
        unfold L2.start
        simp only [List.length_append, List.length_replicate, List.length_map]
        omega
      · have hi : i < ds.length := by
          by_cases hi : i < ds.length
          · exact hi
          · rw [List.getElem?_append_right (by rw [List.length_map]; omega)] at h2
            have := List.mem_of_getElem? h2
            rw [List.mem_replicate] at this
            cases this.2
        rw [List.getElem?_append_left (by rw [List.length_map]; exact hi), List.getElem?_map] at h2
        have hd : ds[i]? = some d := by
          cases q : ds[i]? with
          | none => rw [q] at h2; cases h2
          | some d' => rw [q] at h2; cases h2; rfl
        have hv : vs[i]? = some (vs[i]'(by omega)) := List.getElem?_eq_getElem _
        rw [List.getElem?_append_left (by omega)] at h1
        refine ⟨vs[i]'(by omega), ?_, (hs i m _ d h1 hv hd).1⟩
        unfold L2.start
        rw [List.getElem?_append_left (by rw [List.length_map]; omega), List.getElem?_map, hv]
        rfl
      · exfalso
        have hi : i < ds.length := by
          by_cases hi : i < ds.length
          · exact hi
          · rw [List.getElem?_append_right (by rw [List.length_map]; omega)] at h3
            have := List.mem_of_getElem? h3
            rw [List.mem_replicate] at this
            cases this.2
        rw [List.getElem?_append_left (by omega)] at h1
        have hv : vs[i]? = some (vs[i]'(by omega)) := List.getElem?_eq_getElem _
        have hd : ds[i]? = some (ds[i]'(by omega)) := List.getElem?_eq_getElem _
        have q := (hs i mi _ _ h1 hv hd).2
        cases mi with
        | own => exact q.1 rfl
        | oo => exact q.2 rfl
        | _ => exact f1
      · have key : ∀ i : Nat, (pms ++ lms)[i]? = some (.io k) → io[k]? = some i := fun i h => by
          by_cases hi : i < pms.length
          · rw [List.getElem?_append_left hi] at h
            exact (hio k i).mp h
          · rw [List.getElem?_append_right (by omega)] at h
            have := List.all_eq_true.mp hlm _ (List.mem_of_getElem? h)
            simp [isIo] at this
        exact Option.some.inj ((key i h1).symm.trans (key j h2))
    · have hl : ∀ (ρ : En) (is : List D), ioG ρ io = some is → io.length = ios.length := fun ρ is _ => hni0.trans hni.symm
      show goS _ _ _ ms' F0 _ (b (ds.map some ++ List.replicate (N.length - ds.length) none))
      unfold runFn at q
      cases hr : b (ds.map some ++ List.replicate (N.length - ds.length) none) with
      | bad => rw [hr] at q; exact q
      | bk ρ => rw [hr] at q; exact q.elim
      | ct ρ => rw [hr] at q; exact q.elim
      | nx ρ =>
        rw [hr] at q
        cases ow : own with
        | true => simp only [ow, if_true] at q; exact q.elim
        | false =>
          simp only [ow, if_neg Bool.false_ne_true] at q
          cases hg : ioG ρ io with
          | none => simp only [hg] at q; exact q.elim
          | some is => 
            simp only [hg] at q
            intro F' σ' H' s R
            exact q .non F' H' (R.post hio' (hl _ _ hg) hg) (by rw [if_neg Bool.false_ne_true]; exact .non)
      | rt d ρ =>
        rw [hr] at q
        cases hg : ioG ρ io with
        | none => simp only [hg] at q; exact q.elim
        | some is =>
          simp only [hg] at q
          intro v F' H' s hrt
          obtain ⟨ms2, σ2, R, hio2, hres⟩ := hrt
          exact q v F' H' (R.post hio2 (hl _ _ hg) hg) hres
      | exn x ρ =>
        rw [hr] at q
        cases hg : ioG ρ io with
        | none => simp only [hg] at q; exact q.elim
        | some is =>
          simp only [hg] at q
          intro c dd F' σ' H' s R xo
          exact q c dd F' H' (R.post hioX (hl _ _ hg) hg) xo
end
end Mr

namespace Mr
open PySem PySem.Spec PyProof.Rows L2

/-! ### calls of the text's own defs -/
def setIo : En → List Nat → List D → En
  | ρ, i :: is, d :: ds => setIo (ρ.set i (some d)) is ds
  | ρ, _, _ => ρ
theorem setIo_len : ∀ (is : List Nat) (ds : List D) (ρ : En), (setIo ρ is ds).length = ρ.length
  | [], _, _ => rfl
  | _ :: _, [], _ => rfl
  | i :: is, d :: ds, ρ => by unfold setIo; rw [setIo_len is ds]; simp
theorem setIo_out {j : Nat} : ∀ (is : List Nat) (ds : List D) (ρ : En), j ∉ is → (setIo ρ is ds)[j]? = ρ[j]?
  | [], _, _, _ => rfl
  | _ :: _, [], _, _ => rfl
  | i :: is, d :: ds, ρ, h => by
    unfold setIo
    rw [setIo_out is ds _ (fun z => h (List.mem_cons_of_mem _ z))]
    exact List.getElem?_set_ne (fun z => h (by rw [← z]; exact List.mem_cons_self))
theorem setIo_at {k j : Nat} {d : D} : ∀ (is : List Nat) (ds : List D) (ρ : En), is.Nodup → (∀ i ∈ is, i < ρ.length) → is[k]? = some j → ds[k]? = some d → (setIo ρ is ds)[j]? = some (some d)
  | [], _, _, _, _, h, _ => by simp at h
  | _ :: _, [], _, _, _, _, h => by simp at h
  | i :: is, d' :: ds, ρ, nd, hl, h1, h2 => by
    unfold setIo
    have nd' := List.nodup_cons.mp nd
    cases k with
    | zero =>
      simp at h1 h2
      subst h1; subst h2
      rw [setIo_out is ds _ nd'.1]
      exact List.getElem?_set_self (hl i List.mem_cons_self)
    | succ k => exact setIo_at is ds _ nd'.2 (fun i hi => by simp; exact hl i (List.mem_cons_of_mem _ hi)) (by simpa using h1) (by simpa using h2)
def callK (f : Fn) (ioA : List Nat) (ps : List PV) (ρ : En) : ER := match resA ρ ps with
  | some ds => (match f ds with
    | .ok d iods => .ok d (setIo ρ ioA iods)
    | .exn x iods => .exn x (setIo ρ ioA iods)
    | .bad => .bad)
  | none => .bad
def mCall (f : Fn) (ioA : List Nat) (os : List Opd) : ME := fun ρ => (evs os ρ).bind (callK f ioA)
/-- do the operands suit the parameters' modes? -/
def argB (ms : List Md) (ioA : List Nat) : List Md → List Opd → Bool
  | [], [] => true
  | .val :: pms, .ex _ :: os => argB ms ioA pms os
  | .bor :: pms, .ex _ :: os => argB ms ioA pms os
  | .val :: pms, .sl i :: os => (match ms[i]? with | some .val => true | _ => false) && argB ms ioA pms os
  | .bor :: pms, .sl i :: os => !ioA.contains i && argB ms ioA pms os
  | .io k :: pms, .sl i :: os => (match ioA[k]? with | some j => j == i | none => false) && argB ms ioA pms os
  | _, _ => false
def ioAB (ms : List Md) (ioA : List Nat) (pms : List Md) : Bool := decide ioA.Nodup && decide (ioA.length = nIo pms) && (ioA.all fun i => match ms[i]? with | some .own => true | some (.io _) => true | _ => false) && (List.range ioA.length).all fun k => pms.any fun m => match m with | .io j => j == k | _ => false

section
variable {X : Cx} {g : Gh} {W : WX} {c : Sx} {ms ms' : List Md} {e : Expr} {es : List Expr} {pos : Pos} {σ : Sg} {F F' H H' : Hp} {ρ : En} {Q : VK}
/-- a kind of operand: a value, or a slot -/
inductive OkA (ioA : List Nat) (ms : List Md) : List Md → List PV → Prop
  | nil : OkA ioA ms [] []
  | val {m : Md} {d : D} {pms : List Md} {ps : List PV} : (m = .val ∨ m = .bor) → OkA ioA ms pms ps → OkA ioA ms (m :: pms) (.inl d :: ps)
  | valS {i : Nat} {pms : List Md} {ps : List PV} : ms[i]? = some .val → OkA ioA ms pms ps → OkA ioA ms (.val :: pms) (.inr i :: ps)
  | borS {i : Nat} {pms : List Md} {ps : List PV} : i ∉ ioA → OkA ioA ms pms ps → OkA ioA ms (.bor :: pms) (.inr i :: ps)
  | ioS {i k : Nat} {pms : List Md} {ps : List PV} : ioA[k]? = some i → OkA ioA ms pms ps → OkA ioA ms (.io k :: pms) (.inr i :: ps)
theorem argB_ok {ioA : List Nat} : ∀ {pms : List Md} {os : List Opd} {ρ ρ' : En} {ps : List PV}, argB ms ioA pms os = true → evs os ρ = .ok ps ρ' → OkA ioA ms pms ps
  | [], [], _, _, _, _, h => by simp [evs] at h; obtain ⟨rfl, _⟩ := h; exact .nil
  | m :: pms, o :: os, ρ, ρ', ps, hb, h => by
    unfold evs at h
    cases h1 : evO o ρ with
    | bad => simp [h1] at h
    | exn x ρ' => simp [h1] at h
    | ok p ρ1 =>
      cases h2 : evs os ρ1 with
      | bad => simp [h1, h2] at h
      | exn x ρ' => simp [h1, h2] at h
      | ok ps' ρ2 =>
        simp only [h1, h2, AR.ok.injEq] at h
        obtain ⟨rfl, rfl⟩ := h
        cases o with
        | ex m' =>
          have hp : ∃ d, p = .inl d := by
            unfold evO at h1
            cases q : m' ρ with
            | ok d ρ'' => simp only [q, OR.ok.injEq] at h1; exact ⟨d, h1.1.symm⟩
            | _ => simp [q] at h1
          obtain ⟨d, rfl⟩ := hp
          cases m with
          | val => exact .val (.inl rfl) (argB_ok (by simpa [argB] using hb) h2)
          | bor => exact .val (.inr rfl) (argB_ok (by simpa [argB] using hb) h2)
          | _ => simp [argB] at hb
        | sl i =>
          have hp : p = .inr i := by
            simp only [evO] at h1
            cases q : ρ[i]? with
            | none => simp [q] at h1
            | some o => cases o with
              | none => simp [q] at h1
              | some d => simp only [q, OR.ok.injEq] at h1; exact h1.1.symm
          subst hp
          cases m with
          | val =>
            simp only [argB, Bool.and_eq_true] at hb
            refine .valS ?_ (argB_ok hb.2 h2)
            have := hb.1
            split at this
            · assumption
            · cases this
          | bor =>
            simp only [argB, Bool.and_eq_true, Bool.not_eq_true'] at hb
            exact .borS (by simpa using hb.1) (argB_ok hb.2 h2)
          | io k =>
            simp only [argB, Bool.and_eq_true] at hb
            refine .ioS ?_ (argB_ok hb.2 h2)
            have := hb.1
            split at this
            · rename_i j hj; rw [hj]; exact congrArg some (by simpa using this)
            · cases this
          | _ => simp [argB] at hb
  | [], _ :: _, _, _, _, hb, _ => by simp [argB] at hb
  | m :: _, [], _, _, _, hb, _ => by cases m <;> simp [argB] at hb
theorem ioAB_nd {ioA : List Nat} {pms : List Md} (h : ioAB ms ioA pms = true) : ioA.Nodup ∧ ioA.length = nIo pms ∧ (∀ i ∈ ioA, ∃ m, ms[i]? = some m ∧ wrB m = true) := by
  unfold ioAB at h
  simp only [Bool.and_eq_true, decide_eq_true_eq, List.all_eq_true] at h
  obtain ⟨⟨⟨h1, h2⟩, h3⟩, _⟩ := h
  refine ⟨h1, h2, fun i hi => ?_⟩
  have := h3 i hi
  split at this
  · exact ⟨_, by assumption, rfl⟩
  · exact ⟨_, by assumption, rfl⟩
  · cases this
/-- the addresses of the slots that are handed in to be written -/
theorem Rel.addrs (R : Rel g F ms ρ σ H) : ∀ {ioA : List Nat}, (∀ i ∈ ioA, ∃ m, ms[i]? = some m ∧ wrB m = true) → (∀ i ∈ ioA, ∃ d, ρ[i]? = some (some d)) → ∃ ios : List Addr, ios.length = ioA.length ∧ ∀ (k i : Nat), ioA[k]? = some i → ∃ a, ios[k]? = some a ∧ σ[i]? = some (some (.ref a))
  | [], _, _ => ⟨[], rfl, fun k i h => by simp at h⟩
  | i :: ioA, h1, h2 => by
    obtain ⟨ios, hl, hg⟩ := R.addrs (ioA := ioA) (fun j hj => h1 j (List.mem_cons_of_mem _ hj)) (fun j hj => h2 j (List.mem_cons_of_mem _ hj))
    obtain ⟨m, hm, w⟩ := h1 i List.mem_cons_self
    obtain ⟨d, hd⟩ := h2 i List.mem_cons_self
    obtain ⟨a, _, _, hs, _⟩ := R.at_wr hm w hd
    refine ⟨a :: ios, by simp [hl], fun k j h => ?_⟩
    cases k with
    | zero => simp at h; subst h; exact ⟨a, rfl, hs⟩
    | succ k => obtain ⟨b, q1, q2⟩ := hg k j (by simpa using h); exact ⟨b, by simpa using q1, q2⟩
/-- two written slots stand apart -/
theorem Rel.wr_ne (R : Rel g F ms ρ σ H) {i j : Nat} {m m' : Md} {d e : D} {a b : Addr} (hm : ms[i]? = some m) (w : wrB m = true) (hd : ρ[i]? = some (some d)) (ha : σ[i]? = some (some (.ref a)))
    (hm' : ms[j]? = some m') (w' : wrB m' = true) (he : ρ[j]? = some (some e)) (hb : σ[j]? = some (some (.ref b))) (n : i ≠ j) : a ≠ b := fun z => by
  subst z
  have nd : m ≠ .dead := fun z => by subst z; cases w
  have nd' : m' ≠ .dead := fun z => by subst z; cases w'
  obtain ⟨v, h1, h2⟩ := R.slot i m d hm nd hd
  obtain ⟨u, h3, h4⟩ := R.slot j m' e hm' nd' he
  rw [ha] at h1; cases h1
  rw [hb] at h3; cases h3
  cases m with
  | own =>
    cases m' with
    | own => exact R.uniqO i j d e a hm hm' n hd he ha hb
    | io k =>
      obtain ⟨x, ⟨_, _, e1, _⟩, _, hx, _⟩ := h2; cases e1
      obtain ⟨y, hy, ⟨_, _, e2, _⟩, _⟩ := h4; cases e2
      exact R.ioH _ (List.mem_of_getElem? hy) hx
    | _ => cases w'
  | io k =>
    obtain ⟨x, hx, ⟨_, _, e1, _⟩, _⟩ := h2; cases e1
    cases m' with
    | own => obtain ⟨y, ⟨_, _, e2, _⟩, _, hy, _⟩ := h4; cases e2; exact R.ioH _ (List.mem_of_getElem? hx) hy
    | io k' =>
      obtain ⟨y, hy, ⟨_, _, e2, _⟩, _⟩ := h4; cases e2
      have ek : k = k' := nd_ix R.ioN hx hy
      subst ek
      exact n (R.ioU i j k hm hm')
    | _ => cases w'
  | _ => cases w
/-- behind a call -/
theorem Rel.called (R : Rel g F ms ρ σ H) {ioA : List Nat} {ios : List Addr} {iods : List D} (nd : ioA.Nodup) (hw : ∀ i ∈ ioA, ∃ m, ms[i]? = some m ∧ wrB m = true) (hd : ∀ i ∈ ioA, ∃ d, ρ[i]? = some (some d))
    (hl : ios.length = ioA.length) (hg : ∀ (k i : Nat), ioA[k]? = some i → ∃ a, ios[k]? = some a ∧ σ[i]? = some (some (.ref a))) (p : Post g.K g.mg ios F H F' H' iods) : Rel g F' ms (setIo ρ ioA iods) σ H' := by
  have back : ∀ a ∈ ios, ∃ (k i : Nat) (m : Md) (d : D), ios[k]? = some a ∧ ioA[k]? = some i ∧ σ[i]? = some (some (.ref a)) ∧ ms[i]? = some m ∧ wrB m = true ∧ ρ[i]? = some (some d) := fun a ha => by
    obtain ⟨k, hk⟩ := List.mem_iff_getElem?.mp ha
    have hk2 : k < ioA.length := by rw [← hl]; exact (List.getElem?_eq_some_iff.mp hk).1
    obtain ⟨b, q1, q2⟩ := hg k _ (List.getElem?_eq_getElem hk2)
    rw [hk] at q1; cases q1
    have hi := List.getElem_mem hk2
    obtain ⟨m, h1, h2⟩ := hw _ hi
    obtain ⟨d, h3⟩ := hd _ hi
    exact ⟨k, _, m, d, hk, List.getElem?_eq_getElem hk2, q2, h1, h2, h3⟩
  have notio : ∀ a o, g.H0 a = some o → a ∉ g.ios → a ∉ ios := fun a o e n ha => by
    obtain ⟨k, i, m, d, _, _, hs, hm, w, hdd⟩ := back a ha
    have ndd : m ≠ .dead := fun z => by subst z; cases w
    obtain ⟨v, h1, h2⟩ := R.slot i m d hm ndd hdd
    rw [hs] at h1; cases h1
    cases m with
    | own => obtain ⟨x, ⟨_, _, e1, _⟩, _, hx, _⟩ := h2; cases e1; rw [hx] at e; cases e
    | io k => obtain ⟨x, hx, ⟨_, _, e1, _⟩, _⟩ := h2; cases e1; exact n (List.mem_of_getElem? hx)
    | _ => cases w
  have ooOut : ∀ {i : Nat} {d : D} {v : V} {b : Addr}, ms[i]? = some .oo → ρ[i]? = some (some d) → σ[i]? = some (some v) → Ft F H .oo v b → b ∉ ios := fun {i d v b} hm hdd h1 ft hin => by
    obtain ⟨k', j, m', d', _, hj, hs, hm', w', hd'⟩ := back b hin
    cases m' with
    | own => exact R.uniq i j .oo .own d d' v _ b hm hm' (fun z => by subst z; rw [hm] at hm'; cases hm') hdd hd' h1 hs ft rfl
    | io k2 =>
      have mb := (ft.mine (R.at_slot hm hdd h1 (by decide))).1
      obtain ⟨u, t1, t2⟩ := R.slot j (.io k2) d' hm' (by simp) hd'
      rw [hs] at t1; cases t1
      obtain ⟨x, hx, ⟨_, _, e1, _⟩, _⟩ := t2; cases e1
      exact R.ioH _ (List.mem_of_getElem? hx) mb.2.1
    | _ => cases w'
  have lt : ∀ i ∈ ioA, i < ρ.length := fun i hi => by obtain ⟨d, h⟩ := hd i hi; exact (List.getElem?_eq_some_iff.mp h).1
  refine ⟨p.sub, R.grow.trans p.f, fun a ha => by rw [p.keepF a (R.dom a ha)]; exact R.keepF a ha, fun a o e n => p.frame a o (R.frame a o e n) (notio a o e n), fun a ha => p.dom a (R.dom a ha), R.ioH, R.ioN, fun q hq => ?_, R.lm, by rw [setIo_len]; exact R.lρ, fun i m d hm ndd hdd => ?_, fun i j mi mj d e u x c h1 h2 n h3 h4 h5 h6 f1 f2 => ?_, R.ioU⟩
  · obtain ⟨p1, p2, p3⟩ := R.prot q hq
    have hn : q.1 ∉ ios := fun ha => by
      obtain ⟨k, i, m, d, _, _, hs, hm, w, hdd⟩ := back q.1 ha
      have ndd : m ≠ .dead := fun z => by subst z; cases w
      obtain ⟨v, h1, h2⟩ := R.slot i m d hm ndd hdd
      rw [hs] at h1; cases h1
      cases m with
      | own => obtain ⟨x, ⟨_, _, e1, _⟩, _, _, hx⟩ := h2; cases e1; exact hx q hq rfl
      | io k => obtain ⟨x, hx, ⟨_, _, e1, _⟩, _⟩ := h2; cases e1; exact p3 (List.mem_of_getElem? hx)
      | _ => cases w
    exact ⟨p.frame _ _ p1 hn, by rw [p.keepF q.1 (by rw [p1]; simp)]; exact p2, p3⟩
  · by_cases hi : i ∈ ioA
    · obtain ⟨k, hk⟩ := List.mem_iff_getElem?.mp hi
      obtain ⟨a, q1, q2⟩ := hg k i hk
      have hk2 : k < iods.length := by rw [p.len, hl]; exact (List.getElem?_eq_some_iff.mp hk).1
      have e1 := setIo_at (d := iods[k]) ioA iods ρ nd lt hk (List.getElem?_eq_getElem hk2)
      rw [e1] at hdd
      cases hdd
      obtain ⟨lv, hf⟩ := p.io k a _ q1 (List.getElem?_eq_getElem hk2)
      refine ⟨_, q2, ?_⟩
      obtain ⟨m', hm', w⟩ := hw i hi
      rw [hm] at hm'; cases hm'
      obtain ⟨d0, hd0⟩ := hd i hi
      obtain ⟨v, h1, h2⟩ := R.slot i m d0 hm ndd hd0
      rw [q2] at h1; cases h1
      cases m with
      | own => obtain ⟨x, ⟨_, _, e1, _⟩, _, hx, hpp⟩ := h2; cases e1; exact ⟨a, lv, hf, hx, hpp⟩
      | io k => obtain ⟨x, hx, ⟨_, _, e1, _⟩, _⟩ := h2; cases e1; exact ⟨a, hx, lv, hf⟩
      | _ => cases w
    · rw [setIo_out _ _ _ hi] at hdd
      obtain ⟨v, h1, h2⟩ := R.slot i m d hm ndd hdd
      have apart : ∀ a, v = .ref a → wrB m = true → a ∉ ios := fun a e w ha => by
        obtain ⟨k, j, m', d', _, hj, hs, hm', w', hd'⟩ := back a ha
        subst e
        exact R.wr_ne hm w hdd h1 hm' w' hd' hs (fun z => by subst z; exact hi (List.mem_of_getElem? hj)) rfl
      refine ⟨v, h1, ?_⟩
      cases m with
      | dead => trivial
      | val => exact Rp.mono p.f h2
      | oo =>
        rcases h2 with h2 | ⟨a, xs, ds, ev, k⟩
        · exact .inl (h2.mono p.f)
        · exact .inr ⟨a, xs, ds, ev, k.mono p.f fun b hb mb hbn => ⟨⟨by rw [p.keepF b hbn]; exact mb.1, mb.2⟩, fun o e => p.frame b o e (ooOut hm hdd h1 ⟨mb.1, a, ev, k.mine.1, hb.imp id fun z => ⟨xs, k.cn.its, z⟩⟩)⟩⟩
      | lk k => obtain ⟨b, xs, ds, h3, e1, e2, r⟩ := h2; exact ⟨b, xs, ds, h3, e1, e2, r.mono p.f⟩
      | bor =>
        rcases h2 with h2 | ⟨a, hl2, hn⟩
        · exact .inl (h2.mono p.f)
        · exact .inr ⟨a, hl2.mono p.f fun _ e => e, hn⟩
      | own =>
        obtain ⟨a, hl2, hf, h0, hpp⟩ := h2
        have ev : v = .ref a := by obtain ⟨_, _, z, _⟩ := hl2; exact z
        have hH : H a ≠ none := by obtain ⟨_, _, _, _, q, _⟩ := hl2; rw [q]; simp
        exact ⟨a, hl2.mono p.f fun o e => p.frame a o e (apart a ev rfl), by rw [p.keepF a hH]; exact hf, h0, hpp⟩
      | io k =>
        obtain ⟨a, hk, hl2, hf⟩ := h2
        have ev : v = .ref a := by obtain ⟨_, _, z, _⟩ := hl2; exact z
        have hH : H a ≠ none := by obtain ⟨_, _, _, _, q, _⟩ := hl2; rw [q]; simp
        exact ⟨a, hk, hl2.mono p.f fun o e => p.frame a o e (apart a ev rfl), by rw [p.keepF a hH]; exact hf⟩
  · have old : ∀ {i : Nat} {d : D}, (setIo ρ ioA iods)[i]? = some (some d) → ∃ d', ρ[i]? = some (some d') := fun {i d} h => by
      by_cases hi : i ∈ ioA
      · exact hd i hi
      · rw [setIo_out _ _ _ hi] at h; exact ⟨d, h⟩
    obtain ⟨d', q1⟩ := old h3
    obtain ⟨e', q2⟩ := old h4
    have keep : ∀ {i : Nat} {mi : Md} {d1 : D} {u : V}, ms[i]? = some mi → ρ[i]? = some (some d1) → σ[i]? = some (some u) → Ft F' H' mi u c → Ft F H mi u c := fun {i mi d1 u} h1 h3 h5 f1 =>
      f1.back p.f (R.at_slot h1 h3 h5 f1.nd) fun a eo ea ma _ o q => p.frame a o q (by subst eo; exact ooOut h1 h3 h5 ⟨ma.1, a, ea, ma.1, .inl rfl⟩)
    exact R.uniq i j mi mj d' e' u x c h1 h2 n q1 q2 h5 h6 (keep h1 q1 h5 f1) (keep h2 q2 h6 f2)
/-- what a call gives as its own is free -/
theorem Rel.called_free (R : Rel g F ms ρ σ H) {ioA : List Nat} {ios : List Addr} {iods : List D} {a : Addr} (hw : ∀ i ∈ ioA, ∃ m, ms[i]? = some m ∧ wrB m = true) (hd : ∀ i ∈ ioA, ∃ d, ρ[i]? = some (some d))
    (hl : ios.length = ioA.length) (hg : ∀ (k i : Nat), ioA[k]? = some i → ∃ a, ios[k]? = some a ∧ σ[i]? = some (some (.ref a))) (p : Post g.K g.mg ios F H F' H' iods) (hf : F' a = none) (h0 : H a = none) : Free g F' H' ms (setIo ρ ioA iods) σ a := by
  refine ⟨?_, hf, fun pp hpp z => ?_, fun j m e u hm he hs f1 => ?_⟩
  · cases z : g.H0 a with
    | none => rfl
    | some o => exact absurd h0 (R.dom a (by rw [z]; simp))
  · have := (R.prot pp hpp).1
    rw [z, h0] at this; cases this
  · have hl2 : ∃ e1, ρ[j]? = some (some e1) := by
      by_cases hj : j ∈ ioA
      · exact hd j hj
      · rw [setIo_out _ _ _ hj] at he; exact ⟨_, he⟩
    obtain ⟨e1, hl2⟩ := hl2
    have so := R.at_slot hm hl2 hs f1.nd
    refine (Ft.mine so (f1.back p.f so fun b eo eb mb hb o q => p.frame b o q fun hin => ?_)).2 h0
    subst eo
    obtain ⟨k, hk⟩ := List.mem_iff_getElem?.mp hin
    have hk2 : k < ioA.length := by rw [← hl]; exact (List.getElem?_eq_some_iff.mp hk).1
    obtain ⟨b2, q1, q2⟩ := hg k _ (List.getElem?_eq_getElem hk2)
    rw [hk] at q1; cases q1
    have hi := List.getElem_mem hk2
    obtain ⟨m2, hm2, w2⟩ := hw _ hi
    obtain ⟨d2, hd2⟩ := hd _ hi
    have n : j ≠ ioA[k] := fun z => by rw [z] at hm; rw [hm] at hm2; cases hm2; cases w2
    cases m2 with
    | own => exact R.uniq j _ .oo .own e1 d2 u _ b hm hm2 n hl2 hd2 hs q2 ⟨mb.1, b, eb, mb.1, .inl rfl⟩ rfl
    | io k2 =>
      obtain ⟨u2, t1, t2⟩ := R.slot _ (.io k2) d2 hm2 (by simp) hd2
      rw [q2] at t1; cases t1
      obtain ⟨x, hx, ⟨_, _, z, _⟩, _⟩ := t2; cases z
      exact R.ioH _ (List.mem_of_getElem? hx) mb.2.1
    | _ => cases w2
theorem OkA.len {ioA : List Nat} : ∀ {pms : List Md} {ps : List PV}, OkA ioA ms pms ps → pms.length = ps.length
  | _, _, .nil => rfl
  | _, _, .val _ t => congrArg (· + 1) t.len
  | _, _, .valS _ t => congrArg (· + 1) t.len
  | _, _, .borS _ t => congrArg (· + 1) t.len
  | _, _, .ioS _ t => congrArg (· + 1) t.len
theorem resA_get {ρ : En} : ∀ {ps : List PV} {ds : List D}, resA ρ ps = some ds → ps.length = ds.length ∧ ∀ (i : Nat) (p : PV) (d : D), ps[i]? = some p → ds[i]? = some d → res ρ p = some d
  | [], ds, h => by cases h; exact ⟨rfl, fun i p d q => by simp at q⟩
  | p :: ps, ds, h => by
    unfold resA at h
    cases q1 : res ρ p with
    | none => simp [q1] at h
    | some d =>
      cases q2 : resA ρ ps with
      | none => simp [q1, q2] at h
      | some es =>
        simp only [q1, q2, Option.some.injEq] at h
        subst h
        obtain ⟨hl, hg⟩ := resA_get q2
        refine ⟨by simp [hl], fun i p' d' h1 h2 => ?_⟩
        cases i with
        | zero => simp at h1 h2; subst h1; subst h2; exact q1
        | succ i => exact hg i p' d' (by simpa using h1) (by simpa using h2)
theorem OkA.get {ioA : List Nat} : ∀ {pms : List Md} {ps : List PV} {i : Nat} {m : Md} {p : PV}, OkA ioA ms pms ps → pms[i]? = some m → ps[i]? = some p →
    (∃ d, p = .inl d ∧ (m = .val ∨ m = .bor)) ∨ (∃ j, p = .inr j ∧ m = .val ∧ ms[j]? = some .val) ∨ (∃ j, p = .inr j ∧ m = .bor ∧ j ∉ ioA) ∨ (∃ j k, p = .inr j ∧ m = .io k ∧ ioA[k]? = some j)
  | _, _, _, _, _, .nil, h, _ => by simp at h
  | _, _, 0, _, _, .val hm t, h1, h2 => by simp at h1 h2; subst h1; subst h2; exact .inl ⟨_, rfl, hm⟩
  | _, _, 0, _, _, .valS hm t, h1, h2 => by simp at h1 h2; subst h1; subst h2; exact .inr (.inl ⟨_, rfl, rfl, hm⟩)
  | _, _, 0, _, _, .borS hm t, h1, h2 => by simp at h1 h2; subst h1; subst h2; exact .inr (.inr (.inl ⟨_, rfl, rfl, hm⟩))
  | _, _, 0, _, _, .ioS hm t, h1, h2 => by simp at h1 h2; subst h1; subst h2; exact .inr (.inr (.inr ⟨_, _, rfl, rfl, hm⟩))
  | _, _, i + 1, _, _, .val hm t, h1, h2 => t.get (by simpa using h1) (by simpa using h2)
  | _, _, i + 1, _, _, .valS hm t, h1, h2 => t.get (by simpa using h1) (by simpa using h2)
  | _, _, i + 1, _, _, .borS hm t, h1, h2 => t.get (by simpa using h1) (by simpa using h2)
  | _, _, i + 1, _, _, .ioS hm t, h1, h2 => t.get (by simpa using h1) (by simpa using h2)
theorem Paired.get2 {α β : Type} {P : α → β → Prop} : ∀ {xs : List α} {ys : List β} {i : Nat} {x : α} {y : β}, Paired P xs ys → xs[i]? = some x → ys[i]? = some y → P x y
  | _, _, _, _, _, .nil, h, _ => by simp at h
  | _, _, 0, _, _, .cons r t, h1, h2 => by simp at h1 h2; subst h1; subst h2; exact r
  | _, _, i + 1, _, _, .cons r t, h1, h2 => Paired.get2 t (by simpa using h1) (by simpa using h2)
theorem Paired.len2 {α β : Type} {P : α → β → Prop} : ∀ {xs : List α} {ys : List β}, Paired P xs ys → xs.length = ys.length
  | _, _, .nil => rfl
  | _, _, .cons _ t => congrArg (· + 1) (Paired.len2 t)
theorem res_inr {ρ : En} {i : Nat} {d : D} (h : res ρ (.inr i) = some d) : ρ[i]? = some (some d) := by
  have h : ρ[i]?.join = some d := h
  cases q : ρ[i]? with
  | none => rw [q] at h; cases h
  | some o => rw [q] at h; cases o with
    | none => cases h
    | some d' => cases h; rfl
theorem run_call {f : Fn} {ioA : List Nat} {pms : List Md} {own : Bool} {vs : List V} {ps : List PV} {F0 : Hp} {goX : ER → Prop} {E : XK} (R : Rel g F ms ρ σ H) (hp : PvsOk g F ms σ vs ps) (hA : OkA ioA ms pms ps) (hI : ioAB ms ioA pms = true)
    (hd : ∀ i ∈ ioA, ∃ d, ρ[i]? = some (some d)) (hq : ∀ ds, resA ρ ps = some ds → ∃ r, f ds = r ∧ r ≠ .bad ∧
      (∀ d iods, r = .ok d iods → ∀ v F' H' ios, Post g.K g.mg ios F H F' H' iods → Rel g F' ms (setIo ρ ioA iods) σ H' → (if own = true then ∃ a, Lv g.K g.mg F' H' a v d ∧ F' a = none ∧ H a = none ∧ Free g F' H' ms (setIo ρ ioA iods) σ a else Rp g.K g.mg F' v d) → Q v H') ∧
      (∀ x iods, r = .exn x iods → ∀ c dd F' H' ios, Post g.K g.mg ios F H F' H' iods → Rel g F' ms (setIo ρ ioA iods) σ H' → XOk g.K g.mg F' c dd x → E c dd H')) (hr : ∃ ds, resA ρ ps = some ds) :
    spM g.K g.mg pms own f vs H Q E := by
  obtain ⟨hnd, hnl, hw⟩ := ioAB_nd hI
  obtain ⟨ios, hl, hg⟩ := R.addrs hw hd
  obtain ⟨ds, hds⟩ := hr
  obtain ⟨hl2, hg2⟩ := resA_get hds
  have hpl := Paired.len2 hp
  have hal := hA.len
  obtain ⟨r, hf, hb, hok, hex⟩ := hq ds hds
  have inn : ∀ a ∈ ios, ∃ (k i : Nat) (m : Md) (d : D), ios[k]? = some a ∧ ioA[k]? = some i ∧ σ[i]? = some (some (.ref a)) ∧ ms[i]? = some m ∧ wrB m = true ∧ ρ[i]? = some (some d) := fun a ha => by
    obtain ⟨k, hk⟩ := List.mem_iff_getElem?.mp ha
    have hk2 : k < ioA.length := by rw [← hl]; exact (List.getElem?_eq_some_iff.mp hk).1
    obtain ⟨b, q1, q2⟩ := hg k _ (List.getElem?_eq_getElem hk2)
    rw [hk] at q1; cases q1
    have hi := List.getElem_mem hk2
    obtain ⟨m, h1, h2⟩ := hw _ hi
    obtain ⟨d, h3⟩ := hd _ hi
    exact ⟨k, _, m, d, hk, List.getElem?_eq_getElem hk2, q2, h1, h2, h3⟩
  refine ⟨F, ds, ios, R.sub, by omega, by omega, fun i m v d h1 h2 h3 => ?_, ?_, by rw [hl, hnl], fun a ha => ?_, ?_⟩
  · have hi : i < ps.length := by have := (List.getElem?_eq_some_iff.mp h2).1; omega
    have hpi : ps[i]? = some ps[i] := List.getElem?_eq_getElem hi
    have pv := Paired.get2 hp h2 hpi
    have hre := hg2 i _ d hpi h3
    rcases hA.get h1 hpi with ⟨d', e1, e2⟩ | ⟨j, e1, e2, e3⟩ | ⟨j, e1, e2, e3⟩ | ⟨j, k, e1, e2, e3⟩
    · rw [e1] at pv hre
      cases hre
      rcases e2 with e2 | e2
      · subst e2; exact ⟨pv, by decide⟩
      · subst e2; exact ⟨.inl pv, by decide⟩
    · rw [e1] at pv hre
      subst e2
      obtain ⟨v', q1, q2⟩ := R.slot j .val d e3 (by decide) (res_inr hre)
      obtain ⟨p1, _⟩ := pv
      rw [p1] at q1; cases q1
      exact ⟨q2, by decide⟩
    · rw [e1] at pv hre
      subst e2
      obtain ⟨p1, m', hm', nd'⟩ := pv
      have hdj := res_inr hre
      obtain ⟨v', q1, q2⟩ := R.slot j m' d hm' nd'.1 hdj
      rw [p1] at q1; cases q1
      refine ⟨?_, by decide⟩
      have apart : ∀ a, v = .ref a → wrB m' = true → a ∉ ios := fun a e w ha => by
        obtain ⟨k, i', m2, d2, _, hj, hs, hm2, w2, hd2⟩ := inn a ha
        subst e
        exact R.wr_ne hm' w hdj p1 hm2 w2 hd2 hs (fun z => by subst z; exact e3 (List.mem_of_getElem? hj)) rfl
      cases m' with
      | dead => exact absurd rfl nd'.1
      | oo => exact absurd rfl nd'.2
      | val => exact .inl q2
      | lk k =>
        obtain ⟨b, xs, es, h3, e1, e2, r⟩ := q2
        obtain ⟨p1', p2', p3'⟩ := R.prot _ (List.mem_of_getElem? h3)
        refine .inr ⟨b, ⟨xs, es, e1, e2, p1', r⟩, fun ha => ?_⟩
        obtain ⟨k', i', m2, d2, _, _, hs, hm2, w2, hd2⟩ := inn b ha
        have ndd : m2 ≠ .dead := fun z => by subst z; cases w2
        obtain ⟨v2, t1, t2⟩ := R.slot i' m2 d2 hm2 ndd hd2
        rw [hs] at t1; cases t1
        cases m2 with
        | own => obtain ⟨x, ⟨_, _, z, _⟩, _, _, hx⟩ := t2; cases z; exact hx _ (List.mem_of_getElem? h3) rfl
        | io k2 => obtain ⟨x, hx, ⟨_, _, z, _⟩, _⟩ := t2; cases z; exact p3' (List.mem_of_getElem? hx)
        | _ => cases w2
      | own => obtain ⟨a, lv, _, _, _⟩ := q2; exact .inr ⟨a, lv, apart a (by obtain ⟨_, _, z, _⟩ := lv; exact z) rfl⟩
      | io k => obtain ⟨a, _, lv, _⟩ := q2; exact .inr ⟨a, lv, apart a (by obtain ⟨_, _, z, _⟩ := lv; exact z) rfl⟩
      | bor =>
        rcases q2 with q2 | ⟨a, lv, hn⟩
        · exact .inl q2
        · refine .inr ⟨a, lv.mono (Same.refl _) fun o e => R.frame a o e hn, fun ha => ?_⟩
          obtain ⟨k, i', m2, d2, _, _, hs, hm2, w2, hd2⟩ := inn a ha
          have ndd : m2 ≠ .dead := fun z => by subst z; cases w2
          obtain ⟨v2, t1, t2⟩ := R.slot i' m2 d2 hm2 ndd hd2
          rw [hs] at t1; cases t1
          cases m2 with
          | own =>
            obtain ⟨x, ⟨_, _, z, _⟩, _, hx, _⟩ := t2; cases z
            obtain ⟨_, _, _, _, q, _⟩ := lv
            rw [hx] at q; cases q
          | io k => obtain ⟨x, hx, ⟨_, _, z, _⟩, _⟩ := t2; cases z; exact hn (List.mem_of_getElem? hx)
          | _ => cases w2
    · rw [e1] at pv hre
      subst e2
      obtain ⟨p1, m', hm', nd'⟩ := pv
      have hdj := res_inr hre
      obtain ⟨a, t1, t2⟩ := hg k j e3
      rw [p1] at t2; cases t2
      refine ⟨?_, by simp⟩
      obtain ⟨m2, hm2, w2⟩ := hw j (List.mem_of_getElem? e3)
      rw [hm'] at hm2; cases hm2
      obtain ⟨v', q1, q2⟩ := R.slot j m' d hm' nd'.1 hdj
      rw [p1] at q1; cases q1
      cases m' with
      | own => obtain ⟨b, lv, hf, _, _⟩ := q2; have eb : b = a := by obtain ⟨_, _, z, _⟩ := lv; cases z; rfl
               subst eb; exact ⟨b, t1, lv, hf⟩
      | io k' => obtain ⟨b, _, lv, hf⟩ := q2; have eb : b = a := by obtain ⟨_, _, z, _⟩ := lv; cases z; rfl
                 subst eb; exact ⟨b, t1, lv, hf⟩
      | _ => cases w2
  · refine List.pairwise_iff_getElem.mpr fun x y hx0 hy hxy z => ?_
    have z : ios[x]? = ios[y]? := by rw [List.getElem?_eq_getElem hx0, List.getElem?_eq_getElem hy, z]
    have hx : x < ioA.length := by omega
    have hy' : y < ioA.length := by omega
    obtain ⟨a, q1, q2⟩ := hg x _ (List.getElem?_eq_getElem hx)
    obtain ⟨b, q3, q4⟩ := hg y _ (List.getElem?_eq_getElem hy')
    rw [q1, q3] at z; cases z
    obtain ⟨m1, h1, w1⟩ := hw _ (List.getElem_mem hx)
    obtain ⟨m2, h2, w2⟩ := hw _ (List.getElem_mem hy')
    obtain ⟨d1, k1⟩ := hd _ (List.getElem_mem hx)
    obtain ⟨d2, k2⟩ := hd _ (List.getElem_mem hy')
    refine R.wr_ne h1 w1 k1 q2 h2 w2 k2 q4 (fun e => ?_) rfl
    have := (List.getElem_inj hnd).mp e
    omega
  · obtain ⟨k, i, m, d, _, _, hs, hm, w, hdd⟩ := inn a ha
    obtain ⟨b, xs, ds', q1, _, q2, _⟩ := R.at_wr hm w hdd
    rw [hs] at q1; cases q1
    rw [q2]; simp
  · rw [hf]
    cases r with
    | bad => exact absurd rfl hb
    | ok d iods =>
      refine fun v F' H' p hv => hok d iods rfl v F' H' ios p (R.called hnd hw hd hl hg p) ?_
      by_cases ho : own = true
      · rw [if_pos ho] at hv ⊢
        obtain ⟨a, lv, hf, h0⟩ := hv
        exact ⟨a, lv, hf, h0, R.called_free hw hd hl hg p hf h0⟩
      · rw [if_neg ho] at hv ⊢; exact hv
    | exn x iods => exact fun c dd F' H' p xo => hex x iods rfl c dd F' H' ios p (R.called hnd hw hd hl hg p) xo
end
end Mr

namespace Mr
open PySem PySem.Spec PyProof.Rows L2
section
variable {X : Cx} {g : Gh} {W : WX} {c : Sx} {ms ms' : List Md} {e : Expr} {es : List Expr} {pos : Pos} {σ : Sg} {F F' H H' : Hp} {ρ : En} {Q : VK}
theorem ioAB_cov {ioA : List Nat} {pms : List Md} (h : ioAB ms ioA pms = true) : ∀ k, k < ioA.length → Md.io k ∈ pms := fun k hk => by
  unfold ioAB at h
  simp only [Bool.and_eq_true, List.all_eq_true, List.any_eq_true] at h
  obtain ⟨m, hm, q⟩ := h.2 k (List.mem_range.mpr hk)
  split at q
  · rename_i j; have e : j = k := by simpa using q
    subst e; exact hm
  · cases q
theorem hd_of {ioA : List Nat} {pms : List Md} {ps : List PV} {ds : List D} (h : ioAB ms ioA pms = true) (hA : OkA ioA ms pms ps) (hr : resA ρ ps = some ds) : ∀ i ∈ ioA, ∃ d, ρ[i]? = some (some d) := fun i hi => by
  obtain ⟨k, hk⟩ := List.mem_iff_getElem?.mp hi
  obtain ⟨j, hj⟩ := List.mem_iff_getElem?.mp (ioAB_cov h k (List.getElem?_eq_some_iff.mp hk).1)
  have hl := hA.len
  obtain ⟨hl2, hg⟩ := resA_get hr
  have h1 : j < ps.length := by have := (List.getElem?_eq_some_iff.mp hj).1; omega
  have hp : ps[j]? = some ps[j] := List.getElem?_eq_getElem h1
  have hds : ds[j]? = some (ds[j]'(by omega)) := List.getElem?_eq_getElem _
  have q := hg j _ _ hp hds
  rcases hA.get hj hp with ⟨d', _, e⟩ | ⟨j', _, e, _⟩ | ⟨j', _, e, _⟩ | ⟨j', k', e1, e2, e3⟩
  · rcases e with e | e <;> cases e
  · cases e
  · cases e
  · cases e2
    rw [e1] at q
    rw [hk] at e3; cases e3
    exact ⟨_, res_inr q⟩
theorem call_imp {f : Fn} {ioA : List Nat} {os : List Opd} {pms : List Md} (hk : g.K = X.K) (hmg : g.mg = X.mg) (hb : argB ms ioA pms os = true) (hI : ioAB ms ioA pms = true) : ∀ σ H Q, LE g W ms (mCall f ioA os) σ H Q → tCallS (spM X.K X.mg pms false f) (WE W) (LA g W ms os) σ H Q := fun σ H Q ⟨F, ρ, R, q⟩ => by
  refine ⟨F, ρ, R, ?_⟩
  unfold mCall AR.bind at q
  cases h1 : evs os ρ with
  | bad => simp only [h1] at q; exact q
  | exn x ρ' => simp only [h1] at q; exact q
  | ok ps ρ1 =>
    simp only [h1] at q
    intro vs F1 H1 s1 R1 p1
    have hA := argB_ok hb h1
    unfold callK at q
    cases h2 : resA ρ1 ps with
    | none => simp only [h2] at q; exact q.elim
    | some ds =>
      simp only [h2] at q
      rw [← hk, ← hmg]
      refine run_call (F0 := F) (goX := fun _ => True) R1 p1 hA hI (hd_of hI hA h2) (fun ds' e => ⟨f ds', rfl, ?_, fun d iods hr v F' H' ios p R' hv => ?_, fun x iods hr c dd F' H' ios p R' xo => ?_⟩) ⟨ds, h2⟩
      · rw [h2] at e; cases e
        intro z; rw [z] at q; exact q
      · rw [h2] at e; cases e
        rw [hr] at q
        exact q v F' H' (s1.trans p.f) R' (by simpa using hv)
      · rw [h2] at e; cases e
        rw [hr] at q
        exact q c dd F' H' (s1.trans p.f) R' xo
theorem call_impO {f : Fn} {ioA : List Nat} {os : List Opd} {pms : List Md} (hk : g.K = X.K) (hmg : g.mg = X.mg) (hb : argB ms ioA pms os = true) (hI : ioAB ms ioA pms = true) : ∀ σ H Q, LO g W ms (mCall f ioA os) σ H Q → tCallS (spM X.K X.mg pms true f) (WE W) (LA g W ms os) σ H Q := fun σ H Q ⟨F, ρ, R, q⟩ => by
  refine ⟨F, ρ, R, ?_⟩
  unfold mCall AR.bind at q
  cases h1 : evs os ρ with
  | bad => simp only [h1] at q; exact q
  | exn x ρ' => simp only [h1] at q; exact q
  | ok ps ρ1 =>
    simp only [h1] at q
    intro vs F1 H1 s1 R1 p1
    have hA := argB_ok hb h1
    unfold callK at q
    cases h2 : resA ρ1 ps with
    | none => simp only [h2] at q; exact q.elim
    | some ds =>
      simp only [h2] at q
      rw [← hk, ← hmg]
      refine run_call (F0 := F) (goX := fun _ => True) R1 p1 hA hI (hd_of hI hA h2) (fun ds' e => ⟨f ds', rfl, ?_, fun d iods hr v F' H' ios p R' hv => ?_, fun x iods hr c dd F' H' ios p R' xo => ?_⟩) ⟨ds, h2⟩
      · rw [h2] at e; cases e
        intro z; rw [z] at q; exact q
      · rw [h2] at e; cases e
        rw [hr] at q
        simp only [if_true] at hv
        obtain ⟨a, lv, hf, h0, fr⟩ := hv
        have ev : v = .ref a := by obtain ⟨_, _, z, _⟩ := lv; exact z
        subst ev
        exact q a F' H' (s1.trans p.f) R' lv fr
      · rw [h2] at e; cases e
        rw [hr] at q
        exact q c dd F' H' (s1.trans p.f) R' xo
variable {k : Nat} {fa : Addr} {fd : FuncData} {pn : List Str} {x : Str} {p : Pos} {f : Fn} {ioA : List Nat} {os : List Opd} {pms : List Md}
theorem le_call (Fk : FnG X.prog X.w X.K X.mg X.base k fa fd pn (spM X.K X.mg pms false f)) (hgu : X.A.guards = some []) (hr : Room k X.A) (hm : X.mg x = some (.ref fa)) (hkp : PySem.W.keepIn X.K (.ref fa) = true) (hbi : Binds X.K fd pn []) (tk : Takes X W) (hk : g.K = X.K) (hmg : g.mg = X.mg)
    (ha : PA X (e :: es) (LA g W ms os)) (hg : Gl X x := by rfl) (hb : argB ms ioA pms os = true := by rfl) (hI : ioAB ms ioA pms = true := by rfl) (hdb : (x == ("__debug__" : Str)) = false := by decide) (he : starEach (e :: es) X.env = (false, eval e X.env) :: starEach es X.env := by rfl) (hpl : (backTo pos (starEach es X.env)).any (·.1) = false := by rfl) :
    PE X (.Call (.Name x p) (e :: es) [] pos) (LE g W ms (mCall f ioA os)) := pe_imp (pe_callG Fk hgu hr hg hm hkp hbi (fun σ => passAt tk σ) ha hdb he hpl) (call_imp hk hmg hb hI)
theorem lo_call (Fk : FnG X.prog X.w X.K X.mg X.base k fa fd pn (spM X.K X.mg pms true f)) (hgu : X.A.guards = some []) (hr : Room k X.A) (hm : X.mg x = some (.ref fa)) (hkp : PySem.W.keepIn X.K (.ref fa) = true) (hbi : Binds X.K fd pn []) (tk : Takes X W) (hk : g.K = X.K) (hmg : g.mg = X.mg)
    (ha : PA X (e :: es) (LA g W ms os)) (hg : Gl X x := by rfl) (hb : argB ms ioA pms os = true := by rfl) (hI : ioAB ms ioA pms = true := by rfl) (hdb : (x == ("__debug__" : Str)) = false := by decide) (he : starEach (e :: es) X.env = (false, eval e X.env) :: starEach es X.env := by rfl) (hpl : (backTo pos (starEach es X.env)).any (·.1) = false := by rfl) :
    PE X (.Call (.Name x p) (e :: es) [] pos) (LO g W ms (mCall f ioA os)) := pe_imp (pe_callG Fk hgu hr hg hm hkp hbi (fun σ => passAt tk σ) ha hdb he hpl) (call_impO hk hmg hb hI)

/-! ### methods that write their list -/
/-- a method by values: from the list xs and the arguments, the new list and what it gives -/
def MutAd (K : Fr) (mg : Mg) (r : V → List V → Hp → VK → Prop) (f : List D → List D → Option (List D × D)) : Prop := ∀ (F H : Hp) (a : Addr) (xs : List V) (vs : List V) (ds es es' : List D) (d : D) (Q : VK), Same F H → H a = some (.lst xs) → RpA K mg F xs es → BvA K mg F H vs ds → f es ds = some (es', d) →
  (∀ v xs', RpA K mg F xs' es' → Rp K mg F v d → Q v (upd H a (.lst xs'))) → r (.ref a) vs H Q
def mutK (i : Nat) (f : List D → List D → Option (List D × D)) (ps : List PV) (ρ : En) : ER := match ρ[i]?, resA ρ ps with
  | some (some (.list es)), some ds => (match f es ds with
    | some (es', d) => .ok d (ρ.set i (some (.list es')))
    | none => .bad)
  | _, _ => .bad
def mMut (i : Nat) (f : List D → List D → Option (List D × D)) (os : List Opd) : ME := fun ρ => match evO (.sl i) ρ with
  | .ok _ _ => (evs os ρ).bind (mutK i f)
  | _ => .bad
theorem run_mut {i : Nat} {m : Md} {r : V → List V → Hp → VK → Prop} {f : List D → List D → Option (List D × D)} (ad : MutAd g.K g.mg r f) {ps : List PV} {vs : List V} {F0 : Hp} {v0 : V} (s0 : Same F0 F) (R : Rel g F ms ρ σ H) (hm : ms[i]? = some m) (w : wrB m = true) (hv : σ[i]? = some (some v0)) (hp : PvsOk g F ms σ vs ps)
    (q : goE g W ms σ F0 Q (mutK i f ps ρ)) : r v0 vs H Q := by
  unfold mutK at q
  cases h0 : ρ[i]? with
  | none => simp [h0] at q; exact q.elim
  | some o => cases o with
    | none => simp [h0] at q; exact q.elim
    | some d0 =>
      cases h1 : resA ρ ps with
      | none => cases d0 <;> (simp only [h0, h1] at q; exact q.elim)
      | some ds =>
        obtain ⟨a, xs, es, e1, e2, e3, r1, hf⟩ := R.at_wr hm w h0
        subst e2
        rw [hv] at e1; cases e1
        simp only [h0, h1] at q
        cases h2 : f es ds with
        | none => simp only [h2] at q; exact q.elim
        | some p =>
          obtain ⟨es', d⟩ := p
          simp only [h2] at q
          exact ad F H a xs vs ds es es' d Q R.sub e3 r1 (hp.bva R h1) h2 fun v xs' rx rv => q v F _ s0 (R.write hm w h0 hv rx) rv
theorem le_mut0 {i : Nat} {m : Md} {r : V → List V → Hp → VK → Prop} {f : List D → List D → Option (List D × D)} {y : Str} {py : Pos} {name : Str} {apos cpos : Pos} {id : String} (hm : ms[i]? = some m) (w : wrB m = true) (ad : MutAd g.K g.mg r f) (hx : PE X (.Name y py) (tVar i))
    (h : ∀ to : TE, PE X (.Name y py) to → PE X e (tBM0 X.K "list" r to)) : PE X e (LE g W ms (mMut i f [])) := pe_imp (h _ hx) fun σ H Q ⟨F, ρ, R, q⟩ => by
  have nd : m ≠ .dead := fun z => by subst z; cases w
  unfold mMut at q
  simp only [evO, evs, AR.bind] at q
  cases h0 : ρ[i]? with
  | none => simp [h0] at q; exact q.elim
  | some o => cases o with
    | none => simp [h0] at q; exact q.elim
    | some d0 =>
      simp only [h0] at q
      obtain ⟨a, xs, es, e1, e2, e3, r1, hf⟩ := R.at_wr hm w h0
      exact ⟨.ref a, e1, .inl ⟨rfl, _, .inl (.inl e3)⟩, run_mut ad (Same.refl _) R hm w e1 .nil q⟩
theorem le_mut {i : Nat} {m : Md} {r : V → List V → Hp → VK → Prop} {f : List D → List D → Option (List D × D)} {y : Str} {py : Pos} {e' : Expr} {es' : List Expr} {os : List Opd} (hm : ms[i]? = some m) (w : wrB m = true) (ad : MutAd g.K g.mg r f) (hx : PE X (.Name y py) (tVar i)) (ha : PA X (e' :: es') (LA g W ms os))
    (h : ∀ (to : TE) (t : TA), PE X (.Name y py) to → PA X (e' :: es') t → PE X e (tBM X.K "list" r to t)) : PE X e (LE g W ms (mMut i f os)) := pe_imp (h _ _ hx ha) fun σ H Q ⟨F, ρ, R, q⟩ => by
  have nd : m ≠ .dead := fun z => by subst z; cases w
  unfold mMut at q
  simp only [evO] at q
  cases h0 : ρ[i]? with
  | none => simp [h0] at q; exact q.elim
  | some o => cases o with
    | none => simp [h0] at q; exact q.elim
    | some d0 =>
      simp only [h0] at q
      obtain ⟨a, xs, es, e1, e2, e3, r1, hf⟩ := R.at_wr hm w h0
      refine ⟨.ref a, e1, .inl ⟨rfl, _, .inl (.inl e3)⟩, F, ρ, R, ?_⟩
      unfold AR.bind at q
      cases h1 : evs os ρ with
      | bad => simp only [h1] at q; exact q
      | exn x ρ' => simp only [h1] at q; exact q
      | ok ps ρ1 =>
        simp only [h1] at q
        exact fun vs F1 H1 s1 R1 p1 => run_mut ad s1 R1 hm w e1 p1 q
/-! ### xs[k] = e -/
/-- the value is reckoned first, then the place -/
def subK (i : Nat) (d : D) (p : PV) (ρ : En) : SR := match ρ[i]?, res ρ p with
  | some (some (.list es)), some (.int z) => (match ixN es.length z with
    | some j => .nx (ρ.set i (some (.list (es.set j d))))
    | none => .bad)
  | _, _ => .bad
def sSub (i : Nat) (k : Opd) (m : ME) : MS := fun ρ => match m ρ with
  | .ok d ρ1 => (match evO (.sl i) ρ1 with
    | .ok _ _ => (match evO k ρ1 with
      | .ok p ρ2 => subK i d p ρ2
      | .exn x ρ' => .exn x ρ'
      | .bad => .bad)
    | _ => .bad)
  | .exn x ρ' => .exn x ρ'
  | .bad => .bad
theorem evO_sl {i : Nat} {ρ : En} : evO (.sl i) ρ = (match ρ[i]? with
    | some (some _) => OR.ok (.inr i) ρ
    | _ => .bad) := rfl
theorem ls_sub {i : Nat} {m : Md} {y : Str} {py tp : Pos} {ek ev : Expr} {A : Opd} {me : ME} (hm : ms[i]? = some m) (w : wrB m = true) (hx : PE X (.Name y py) (tVar i)) (hk : PE X ek (LP g W ms A)) (he : PE X ev (LE g W ms me)) (wx : wkB ms c.mx = true := by rfl)
    (ha : ∀ v, assign (.Subscript (.Name y py) ek tp) X.env v = (do
      let ov ← holding [v] (eval (.Name y py) X.env)
      let iv ← holding [v, ov] (eval ek X.env)
      standAt tp
      holding [v, ov, iv] (setItem ov iv v)
      release [v, ov, iv] []) := by intro _; rfl)
    (hs : swapsWithSole [.Subscript (.Name y py) ek tp] ev pos.line X.env = pure false := by rfl) (hw : swappedStores [.Subscript (.Name y py) ek tp] ev X.env = pure none := by rfl) (h1 : (assignEach [.Subscript (.Name y py) ek tp] X.env).map (·.2) = [assign (.Subscript (.Name y py) ek tp) X.env] := by rfl) :
    PS X (.Assign [.Subscript (.Name y py) ek tp] ev pos) (LS g W c ms ms (sSub i A me)) := ps_imp (ps_asg he (pg_sub hx hk set_list ha) hs hw h1) fun Dn σ H ⟨F, ρ, R, q⟩ => by
  refine ⟨F, ρ, R, ?_⟩
  unfold sSub at q
  cases hr : me ρ with
  | bad => rw [hr] at q; exact q
  | exn x ρ' => rw [hr] at q; exact fun k dd F2 H2 s R xo => q k dd F2 σ H2 s (R.weak wx) xo
  | ok d ρ1 =>
    rw [hr] at q
    intro v F1 H1 s1 R1 rv
    have nd : m ≠ .dead := fun z => by subst z; cases w
    simp only [evO_sl] at q
    cases h0 : ρ1[i]? with
    | none => simp only [h0] at q; exact q.elim
    | some o => cases o with
      | none => simp only [h0] at q; exact q.elim
      | some d0 =>
        simp only [h0] at q
        obtain ⟨v0, e0, _⟩ := R1.slot i m d0 hm nd h0
        refine ⟨v0, e0, F1, ρ1, R1, ?_⟩
        cases h2 : evO A ρ1 with
        | bad => simp only [h2] at q; exact q.elim
        | exn x ρ' => simp only [h2] at q; exact fun k dd F2 H2 s R xo => q k dd F2 σ H2 (s1.trans s) (R.weak wx) xo
        | ok p ρ2 =>
          simp only [h2] at q
          intro u F2 H2 s2 R2 p2
          unfold subK at q
          cases h3 : ρ2[i]? with
          | none => simp only [h3] at q; exact q.elim
          | some o => cases o with
            | none => simp only [h3] at q; exact q.elim
            | some d3 =>
              obtain ⟨a, xs, es, e1, e2, e3, r1, hf⟩ := R2.at_wr hm w h3
              subst e2
              rw [e0] at e1; cases e1
              cases h4 : res ρ2 p with
              | none => simp only [h3, h4] at q; exact q.elim
              | some dz =>
                cases dz with
                | int z =>
                  simp only [h3, h4] at q
                  have hu : u = .int z := by
                    rcases p2.bv R2 h4 with r | ⟨b, _, _, _, e, _⟩
                    · cases r; rfl
                    · cases e
                  subst hu
                  cases h5 : ixN es.length z with
                  | none => simp only [h5] at q; exact q.elim
                  | some j =>
                    simp only [h5] at q
                    refine ⟨a, xs, z, j, rfl, rfl, e3, by rw [r1.length]; exact h5, ?_⟩
                    exact q F2 σ _ (s1.trans s2) (R2.write hm w h3 e0 (r1.set (rv.mono s2) j))
                | _ => simp only [h3, h4] at q; exact q.elim
end
end Mr

namespace Mr
open PySem PySem.Spec PyProof.Rows L2

/-! ### a list that stands still -/
def sh1 : Md → Md
  | .lk k => .lk (k + 1)
  | m => m
abbrev shl (ms : List Md) : List Md := ms.map sh1
abbrev Gh.lock (g : Gh) (a : Addr) (xs : List V) : Gh := { g with pr := (a, xs) :: g.pr }
theorem shl_get {ms : List Md} {i : Nat} {m : Md} (h : (shl ms)[i]? = some m) : ∃ m', ms[i]? = some m' ∧ m = sh1 m' := by
  rw [List.getElem?_map] at h
  cases q : ms[i]? with
  | none => rw [q] at h; cases h
  | some m' => rw [q] at h; cases h; exact ⟨m', rfl, rfl⟩
section
variable {g : Gh} {F F' H H' : Hp} {ms ms' : List Md} {ρ ρ' : En} {σ σ' : Sg} {v : V} {d : D} {i : Nat} {a : Addr} {xs : List V}
theorem sh1_own {m : Md} (h : sh1 m = .own) : m = .own := by cases m <;> first | rfl | cases h
theorem Ft_sh1 {m : Md} {c : Addr} : Ft F H (sh1 m) v c = Ft F H m v c := by cases m <;> rfl
theorem Ft_sh {m : Md} {c : Addr} (h : Ft F H m v c) : Ft F H (sh1 m) v c := by rw [Ft_sh1]; exact h
theorem NsC.gm {g g' : Gh} {ds : List D} (eK : g'.K = g.K) (em : g'.mg = g.mg) (h : NsC g F H a xs ds d) (hm : ∀ b, (b = a ∨ V.ref b ∈ xs) → Mine g F b → Mine g' F b) : NsC g' F H a xs ds d :=
  ⟨h.cn, hm a (.inl rfl) h.mine, Paired.imp h.its fun x hx y r => by
    rcases r with ⟨r, q⟩ | ⟨b, l, m⟩
    · exact .inl ⟨by rw [eK, em]; exact r, q⟩
    · exact .inr ⟨b, by rw [eK, em]; exact l, hm b (.inr (by rw [← l.ref]; exact hx)) m⟩, h.apart, h.self⟩
theorem Mine.unlock (h : Mine (g.lock a xs) F b) : Mine g F b := ⟨h.1, h.2.1, fun p hp => h.2.2 p (List.mem_cons_of_mem _ hp)⟩
theorem Ns.unlock (h : Ns (g.lock a xs) F H v d) : Ns g F H v d := by
  rcases h with h | ⟨b, ys, es, ev, k⟩
  · exact .inl h
  · exact .inr ⟨b, ys, es, ev, k.gm (g' := g) (by rfl) (by rfl) fun c _ m => m.unlock⟩
theorem sh1_io {m : Md} {k : Nat} (h : sh1 m = .io k) : m = .io k := by cases m <;> first | exact h | cases h
theorem Rel.protect (R : Rel g F ms ρ σ H) (f : Free g F H ms ρ σ a) (ha : H a = some (.lst xs)) : Rel (g.lock a xs) F (shl ms) ρ σ H :=
  { R with
    ioH := R.ioH
    prot := fun p hp => by
      rcases List.mem_cons.mp hp with rfl | hp
      · exact ⟨ha, f.f, fun z => R.ioH _ z f.h0⟩
      · exact R.prot p hp
    lm := by simp [R.lm]
    slot := fun j m e hm nd he => by
      obtain ⟨m', hm', rfl⟩ := shl_get hm
      have nd' : m' ≠ .dead := fun z => by subst z; exact nd rfl
      obtain ⟨u, h1, h2⟩ := R.slot j m' e hm' nd' he
      refine ⟨u, h1, ?_⟩
      cases m' with
      | own =>
        obtain ⟨b, hl, hf, h0, hp⟩ := h2
        refine ⟨b, hl, hf, h0, fun p hp' => ?_⟩
        rcases List.mem_cons.mp hp' with rfl | hp'
        · intro z
          obtain ⟨_, _, e1, _⟩ := hl
          subst e1
          have z : a = b := z
          subst z
          exact f.slots j .own e _ hm' he h1 rfl
        · exact hp p hp'
      | oo =>
        rcases h2 with h2 | ⟨b, ys, es, ev, k⟩
        · exact .inl h2
        · refine .inr ⟨b, ys, es, ev, k.gm (g' := g.lock a xs) (by rfl) (by rfl) fun c hc m => ⟨m.1, m.2.1, fun p hp' => ?_⟩⟩
          rcases List.mem_cons.mp hp' with rfl | hp'
          · intro z
            have z : a = c := z
            subst z
            exact f.slots j .oo e u hm' he h1 ⟨m.1, b, ev, k.mine.1, hc.imp id fun z => ⟨ys, k.cn.its, z⟩⟩
          · exact m.2.2 p hp'
      | lk k => exact h2
      | _ => exact h2
    uniq := fun j k mj mk d e u x c h1 h2 n h3 h4 h5 h6 f1 f2 => by
      obtain ⟨m1, h1', e1⟩ := shl_get h1
      obtain ⟨m2, h2', e2⟩ := shl_get h2
      subst e1 e2
      rw [Ft_sh1] at f1 f2
      exact R.uniq j k m1 m2 d e u x c h1' h2' n h3 h4 h5 h6 f1 f2
    ioU := fun j k n h1 h2 => by
      obtain ⟨m1, h1, e1⟩ := shl_get h1
      obtain ⟨m2, h2, e2⟩ := shl_get h2
      rw [sh1_io e1.symm] at h1
      rw [sh1_io e2.symm] at h2
      exact R.ioU j k n h1 h2 }
theorem Rel.unprot (R : Rel (g.lock a xs) F (shl ms) ρ σ H) : Rel g F ms ρ σ H :=
  { R with
    grow := R.grow
    prot := fun p hp => R.prot p (List.mem_cons_of_mem _ hp)
    lm := by have := R.lm; simpa using this
    slot := fun j m e hm nd he => by
      have hm' : (shl ms)[j]? = some (sh1 m) := by rw [List.getElem?_map, hm]; rfl
      obtain ⟨u, h1, h2⟩ := R.slot j (sh1 m) e hm' (fun z => by cases m <;> first | exact nd rfl | cases z) he
      refine ⟨u, h1, ?_⟩
      cases m with
      | own =>
        obtain ⟨b, hl, hf, h0, hp⟩ := h2
        exact ⟨b, hl, hf, h0, fun p hp' => hp p (List.mem_cons_of_mem _ hp')⟩
      | oo => exact Ns.unlock h2
      | lk k => exact h2
      | _ => exact h2
    uniq := fun j k mj mk d e u x c h1 h2 n h3 h4 h5 h6 f1 f2 => R.uniq j k (sh1 mj) (sh1 mk) d e u x c (by rw [List.getElem?_map, h1]; rfl) (by rw [List.getElem?_map, h2]; rfl) n h3 h4 h5 h6 (Ft_sh f1) (Ft_sh f2)
    ioU := fun j k n h1 h2 => R.ioU j k n (by rw [List.getElem?_map, h1]; rfl) (by rw [List.getElem?_map, h2]; rfl) }
/-- a slot is forgotten -/
theorem Rel.kill (R : Rel g F ms ρ σ H) (i : Nat) : Rel g F (ms.set i .dead) ρ σ H := by
  refine R.weak ?_
  have key : ∀ (l : List Md) (i : Nat), wkB l (l.set i .dead) = true := by
    intro l
    induction l with
    | nil => intro i; rfl
    | cons m r ih =>
      intro i
      cases i with
      | zero => simp [wkB, wkB_refl]
      | succ i => simp [wkB, ih i]
  exact key ms i
/-- an own list is locked -/
theorem Rel.lock (R : Rel g F ms ρ σ H) (hm : ms[i]? = some .own) (hd : ρ[i]? = some (some d)) : ∃ a xs ds, σ[i]? = some (some (.ref a)) ∧ d = .list ds ∧ RpA g.K g.mg F xs ds ∧ Free g F H (ms.set i .dead) ρ σ a ∧ H a = some (.lst xs) ∧
    Rel (g.lock a xs) F ((shl ms).set i (.lk 0)) ρ σ H := by
  obtain ⟨u, h1, a, ⟨xs, ds, e1, e2, e3, r⟩, hf, h0, hp⟩ := R.slot i .own d hm (by decide) hd
  subst e1
  have hi : i < ms.length := (List.getElem?_eq_some_iff.mp hm).1
  have fr : Free g F H (ms.set i .dead) ρ σ a := ⟨h0, hf, hp, fun j m e u q1 q2 q3 f1 => by
    by_cases hj : j = i
    · subst hj; rw [set_eq hi] at q1; cases q1; exact f1
    · rw [set_ne hj] at q1; exact R.uniq j i m .own e d u _ a q1 hm hj q2 hd q3 h1 f1 rfl⟩
  refine ⟨a, xs, ds, h1, e2, r, fr, e3, ?_⟩
  have R1 := (R.kill i).protect fr e3
  have hi' : i < (shl ms).length := by simpa using hi
  have em : shl (ms.set i .dead) = (shl ms).set i .dead := by simp [shl, List.map_set, sh1]
  rw [em] at R1
  exact { R1 with
    lm := by have := R.lm; simpa using this
    slot := fun j m e hm nd he => by
      by_cases hj : j = i
      · subst hj
        rw [set_eq hi'] at hm
        cases hm
        rw [hd] at he; cases he
        exact ⟨_, h1, a, xs, ds, rfl, rfl, e2, r⟩
      · rw [set_ne hj] at hm
        exact R1.slot j m e (by rw [set_ne hj]; exact hm) nd he
    uniq := fun j k mj mk d e u x c q1 q2 n q3 q4 q5 q6 f1 f2 => by
      by_cases hj : j = i
      · subst hj; rw [set_eq hi'] at q1; cases q1; exact f1
      · by_cases hk : k = i
        · subst hk; rw [set_eq hi'] at q2; cases q2; exact f2
        · rw [set_ne hj] at q1; rw [set_ne hk] at q2
          exact R1.uniq j k mj mk d e u x c (by rw [set_ne hj]; exact q1) (by rw [set_ne hk]; exact q2) n q3 q4 q5 q6 f1 f2
    ioU := fun j k n q1 q2 => by
      by_cases hj : j = i
      · subst hj; rw [set_eq hi'] at q1; cases q1
      · by_cases hk : k = i
        · subst hk; rw [set_eq hi'] at q2; cases q2
        · rw [set_ne hj] at q1; rw [set_ne hk] at q2
          exact R1.ioU j k n (by rw [set_ne hj]; exact q1) (by rw [set_ne hk]; exact q2) }
/-- and unlocked -/
theorem Rel.unlock (hm : ms[i]? = some .own) (h0 : g.H0 a = none) (hp : ∀ p ∈ g.pr, p.1 ≠ a) (R : Rel (g.lock a xs) F ((shl ms).set i (.lk 0)) ρ σ H) : Rel g F ms ρ σ H := by
  have hi : i < ms.length := (List.getElem?_eq_some_iff.mp hm).1
  have hi' : i < (shl ms).length := by simpa using hi
  have ha : (g.lock a xs).pr[0]? = some (a, xs) := rfl
  obtain ⟨p1, p2, p3⟩ := R.prot (a, xs) List.mem_cons_self
  have apart : ∀ j m e u, j ≠ i → ms[j]? = some m → ρ[j]? = some (some e) → σ[j]? = some (some u) → ¬ Ft F H m u a := fun j m e u hj h1 h2 h3 f1 => by
    have so := R.at_slot (i := j) (m := sh1 m) (by rw [set_ne hj, List.getElem?_map, h1]; rfl) h2 h3 (Ft_sh f1).nd
    exact (Ft.mine so (Ft_sh f1)).1.2.2 _ List.mem_cons_self rfl
  have at_i : ∀ d, ρ[i]? = some (some d) → ∃ ds, σ[i]? = some (some (.ref a)) ∧ d = .list ds ∧ RpA g.K g.mg F xs ds := fun d hd => by
    obtain ⟨u, q1, b, ys, ds, q2, e1, e2, r⟩ := R.slot i (.lk 0) d (set_eq hi') (by decide) hd
    have : (a, xs) = (b, ys) := Option.some.inj q2
    cases this
    subst e1
    exact ⟨ds, q1, e2, r⟩
  exact { R with
    grow := R.grow
    prot := fun p hp => R.prot p (List.mem_cons_of_mem _ hp)
    lm := by have := R.lm; simpa using this
    slot := fun j m e hm' nd he => by
      by_cases hj : j = i
      · subst hj
        rw [hm] at hm'; cases hm'
        obtain ⟨ds, q1, q2, q3⟩ := at_i e he
        exact ⟨_, q1, a, ⟨xs, ds, rfl, q2, p1, q3⟩, p2, h0, hp⟩
      · obtain ⟨u, q1, q2⟩ := R.slot j (sh1 m) e (by rw [set_ne hj, List.getElem?_map, hm']; rfl) (fun z => by cases m <;> first | exact nd rfl | cases z) he
        refine ⟨u, q1, ?_⟩
        cases m with
        | own => obtain ⟨b, hl, hf, h0, hp⟩ := q2; exact ⟨b, hl, hf, h0, fun p hp' => hp p (List.mem_cons_of_mem _ hp')⟩
        | oo => exact Ns.unlock q2
        | lk k => exact q2
        | _ => exact q2
    uniq := fun j k mj mk d e u x c q1 q2 n q3 q4 q5 q6 f1 f2 => by
      by_cases hj : j = i
      · subst hj
        rw [hm] at q1; cases q1
        obtain ⟨_, z, _⟩ := at_i d q3
        rw [q5] at z; cases z
        have ec : V.ref a = .ref c := f1
        cases ec
        exact apart k mk e x (Ne.symm n) q2 q4 q6 f2
      · by_cases hk : k = i
        · subst hk
          rw [hm] at q2; cases q2
          obtain ⟨_, z, _⟩ := at_i e q4
          rw [q6] at z; cases z
          have ec : V.ref a = .ref c := f2
          cases ec
          exact apart j mj d u n q1 q3 q5 f1
        · exact R.uniq j k (sh1 mj) (sh1 mk) d e u x c (by rw [set_ne hj, List.getElem?_map, q1]; rfl) (by rw [set_ne hk, List.getElem?_map, q2]; rfl) n q3 q4 q5 q6 (Ft_sh f1) (Ft_sh f2)
    ioU := fun j k n q1 q2 => by
      by_cases hj : j = i
      · subst hj; rw [hm] at q1; cases q1
      · by_cases hk : k = i
        · subst hk; rw [hm] at q2; cases q2
        · exact R.ioU j k n (by rw [set_ne hj, List.getElem?_map, q1]; rfl) (by rw [set_ne hk, List.getElem?_map, q2]; rfl) }
end

/-! ### what is walked -/
def signs (x : Str) : List D := x.cps.toList.map fun c => .str ⟨#[c]⟩
def itD : D → Option (List D)
  | .list ds => some ds
  | .tuple ds => some ds
  | .str x => some (signs x)
  | _ => none
def iK (r : ER) : IR := match r with
  | .ok d ρ => (match itD d with
    | some ds => .ok ds ρ
    | none => .bad)
  | .exn x ρ => .exn x ρ
  | .bad => .bad
def mIt (m : ME) : MI := fun ρ => iK (m ρ)
def mItS (i : Nat) : MI := fun ρ => iK (mVar i ρ)
section
variable {X : Cx} {g : Gh} {W : WX} {c : Sx} {ms ms' : List Md} {e tg : Expr} {es : List Expr} {pos : Pos} {σ : Sg} {F F' H H' : Hp} {ρ : En} {Q : VK} {m : ME}
theorem pi_or {wi wi' : TI} (h : PI X tg e wi) (h' : PI X tg e wi') : PI X tg e (fun σ H R => wi σ H R ∨ wi' σ H R) := ⟨fun pins s σ H R I q => q.elim (h.run pins s σ H R I) (h'.run pins s σ H R I)⟩
theorem walkD_list {K : Fr} {a : Addr} {xs : List V} {ds : List D} (hk : g.K = K) (ra : RpA g.K g.mg F xs ds) (hG : ∀ F2 ms2 ρ2 σ2 H2, Same F F2 → Rel g F2 ms2 ρ2 σ2 H2 → SqL K H2 a xs) : WalkD g F (Itl K a) ds :=
  ⟨_, _, ra.length ▸ walk_list (K := K) (a := a) (xs := xs), hG, fun i F2 H2 x H3 hi s2 sub y => by
    obtain ⟨e1, e2⟩ := y
    subst e1
    obtain ⟨d, h1, h2⟩ := ra.getV e2
    exact ⟨d, F2, h1, Ext.refl sub, h2.mono s2⟩⟩
theorem walkD_tup {K : Fr} {a : Addr} {xs : List V} {ds : List D} (hk : g.K = K) (ra : RpA g.K g.mg F xs ds) (hG : ∀ F2 ms2 ρ2 σ2 H2, Same F F2 → Rel g F2 ms2 ρ2 σ2 H2 → SqT K H2 a xs) : WalkD g F (Itt K a) ds :=
  ⟨_, _, ra.length ▸ walk_tup (K := K) (a := a) (xs := xs), hG, fun i F2 H2 x H3 hi s2 sub y => by
    obtain ⟨e1, e2⟩ := y
    subst e1
    obtain ⟨d, h1, h2⟩ := ra.getV e2
    exact ⟨d, F2, h1, Ext.refl sub, h2.mono s2⟩⟩
theorem walkD_str {x : Str} : WalkD g F (Its x) (signs x) := by
  have hl : (signs x).length = x.cps.size := by unfold signs; simp
  refine ⟨_, _, hl ▸ walk_str (z := x), fun _ _ _ _ _ _ _ => trivial, fun i F2 H2 v H3 hi s2 sub y => ?_⟩
  obtain ⟨e1, k, e2, e3⟩ := y
  subst e1 e3
  exact ⟨.str ⟨#[k]⟩, F2, by unfold signs; rw [List.getElem?_map]; simp [e2], Ext.refl sub, .str _⟩
/-- the items of a value -/
def iAny (K : Fr) (t : TE) : TI := fun σ H R => iList K t σ H R ∨ iTup K t σ H R ∨ iStr t σ H R
theorem pi_any {t : TE} (h : PE X e t) : PI X tg e (iAny X.K t) := pi_or (pi_list h) (pi_or (pi_tup h) (pi_str h))
theorem li_any (hk : g.K = X.K) : ∀ σ H R, LI g W ms (mIt m) σ H R → iAny X.K (LE g W ms m) σ H R := fun σ H R ⟨F, ρ, r, q⟩ => by
  unfold mIt at q
  cases hm : m ρ with
  | bad => rw [hm] at q; exact q.elim
  | exn x ρ' => rw [hm] at q; exact .inl ⟨F, ρ, r, by rw [hm]; exact q⟩
  | ok d ρ' =>
    rw [hm] at q
    cases d with
    | list ds =>
      refine .inl ⟨F, ρ, r, ?_⟩
      rw [hm]
      intro v F' H' s R' rv
      cases rv with
      | lst hs ra =>
        refine ⟨_, rfl, ⟨_, by rw [← hk]; exact (hs.mono R'.sub).sql⟩, q _ F' H' s R' (walkD_list hk ra fun F2 ms2 ρ2 σ2 H2 s2 R2 => ?_)⟩
        rw [← hk]
        exact (hs.mono (s2.trans R2.sub)).sql
    | tuple ds =>
      refine .inr (.inl ⟨F, ρ, r, ?_⟩)
      rw [hm]
      intro v F' H' s R' rv
      cases rv with
      | tup hs ra =>
        refine ⟨_, rfl, ⟨_, by rw [← hk]; exact sqT_same R'.sub hs.t⟩, q _ F' H' s R' (walkD_tup hk ra fun F2 ms2 ρ2 σ2 H2 s2 R2 => ?_)⟩
        rw [← hk]
        exact sqT_same (s2.trans R2.sub) hs.t
    | str x =>
      refine .inr (.inr ⟨F, ρ, r, ?_⟩)
      rw [hm]
      intro v F' H' s R' rv
      cases rv
      exact ⟨x, rfl, q _ F' H' s R' walkD_str⟩
    | _ => exact q.elim
/-- the items of a caller's list, of a locked one -/
def stB : Md → Bool
  | .bor => true
  | .lk _ => true
  | .val => true
  | _ => false
theorem li_slot {i : Nat} {md : Md} (hk : g.K = X.K) (hm : ms[i]? = some md) (w : stB md = true) : ∀ σ H R, LI g W ms (mItS i) σ H R → iAny X.K (tVar i) σ H R := fun σ H R ⟨F, ρ, r, q⟩ => by
  unfold mItS mVar at q
  cases h1 : ρ[i]? with
  | none => simp [h1, iK] at q; exact q.elim
  | some o => cases o with
    | none => simp [h1, iK] at q; exact q.elim
    | some d =>
      simp only [h1, iK] at q
      have nd : md ≠ .dead := fun z => by subst z; cases w
      obtain ⟨v, e, so⟩ := r.slot i md d hm nd h1
      have main : (Rp g.K g.mg F v d ∨ ∃ a xs ds, v = .ref a ∧ d = .list ds ∧ RpA g.K g.mg F xs ds ∧ ∀ F2 ms2 ρ2 σ2 H2, Same F F2 → Rel g F2 ms2 ρ2 σ2 H2 → H2 a = some (.lst xs)) := by
        cases md with
        | val => exact .inl so
        | bor =>
          rcases so with so | ⟨a, ⟨xs, ds, e1, e2, e3, ra⟩, hn⟩
          · exact .inl so
          · exact .inr ⟨a, xs, ds, e1, e2, ra, fun F2 ms2 ρ2 σ2 H2 s2 R2 => R2.frame a _ e3 hn⟩
        | lk k =>
          obtain ⟨a, xs, ds, h3, e1, e2, ra⟩ := so
          exact .inr ⟨a, xs, ds, e1, e2, ra, fun F2 ms2 ρ2 σ2 H2 s2 R2 => (R2.prot _ (List.mem_of_getElem? h3)).1⟩
        | _ => cases w
      rcases main with rv | ⟨a, xs, ds, e1, e2, ra, hH⟩
      · cases d with
        | list ds =>
          cases rv with
          | lst hs ra =>
            refine .inl ⟨_, e, _, rfl, ⟨_, by rw [← hk]; exact (hs.mono r.sub).sql⟩, q _ F H (Same.refl _) r (walkD_list hk ra fun F2 ms2 ρ2 σ2 H2 s2 R2 => ?_)⟩
            rw [← hk]
            exact (hs.mono (s2.trans R2.sub)).sql
        | tuple ds =>
          cases rv with
          | tup hs ra =>
            refine .inr (.inl ⟨_, e, _, rfl, ⟨_, by rw [← hk]; exact sqT_same r.sub hs.t⟩, q _ F H (Same.refl _) r (walkD_tup hk ra fun F2 ms2 ρ2 σ2 H2 s2 R2 => ?_)⟩)
            rw [← hk]
            exact sqT_same (s2.trans R2.sub) hs.t
        | str x =>
          cases rv
          exact .inr (.inr ⟨_, e, x, rfl, q _ F H (Same.refl _) r walkD_str⟩)
        | _ => exact q.elim
      · subst e1 e2
        exact .inl ⟨_, e, a, rfl, ⟨xs, .inl (.inl (hH F ms ρ σ H (Same.refl _) r))⟩, q _ F H (Same.refl _) r (walkD_list hk ra fun F2 ms2 ρ2 σ2 H2 s2 R2 => .inl (.inl (hH F2 ms2 ρ2 σ2 H2 s2 R2)))⟩
def onlyIo (ms : List Md) : List Md := ms.map fun m => match m with
  | .io k => .io k
  | _ => .dead
theorem onlyIo_wk : ∀ ms : List Md, wkB ms (onlyIo ms) = true
  | [] => rfl
  | m :: r => by
    unfold onlyIo
    simp only [List.map_cons, wkB, Bool.and_eq_true, Bool.or_eq_true, decide_eq_true_eq]
    refine ⟨?_, onlyIo_wk r⟩
    cases m <;> simp
theorem onlyIo_shl : ∀ ms : List Md, shl (onlyIo ms) = onlyIo ms
  | [] => rfl
  | m :: r => by
    unfold onlyIo shl
    simp only [List.map_cons, List.cons.injEq]
    exact ⟨by cases m <;> rfl, onlyIo_shl r⟩
theorem Rt.unlock {a : Addr} {xs : List V} {v : V} {d : D} {c c' : Sx} (ho : c'.own = c.own) (hi : c'.io = c.io) (h : Rt (g.lock a xs) c' F H ρ v d) : Rt g c F H ρ v d := by
  obtain ⟨ms, σ, R, hio, hr⟩ := h
  refine ⟨onlyIo ms, σ, ?_, fun k i e => ?_, by rw [← ho]; exact hr⟩
  · have R1 := R.weak (onlyIo_wk ms)
    rw [← onlyIo_shl ms] at R1
    exact R1.unprot
  · have := hio k i (by rw [hi]; exact e)
    unfold onlyIo
    rw [List.getElem?_map, this]
    rfl
/-- a statement's end under a lock, as it is without -/
theorem goS_unlock {a : Addr} {xs : List V} {c : Sx} {msb ms1 : List Md} {Dn : Ends} {r : SR} {b : List Md} (q : goS g W c ms' F Dn r) (nx : Sg → Hp → Prop)
    (h1 : ∀ ρ' F' σ' H', r = .nx ρ' ∨ r = .ct ρ' → Same F F' → Rel (g.lock a xs) F' b ρ' σ' H' → nx σ' H') (h2 : ∀ ρ' F' σ' H', r = .bk ρ' → Same F F' → Rel (g.lock a xs) F' b ρ' σ' H' → Dn.nx σ' H') :
    goS (g.lock a xs) W { c with mb := b, mx := shl c.mx } b F { Dn with nx := nx, ct := nx, bk := Dn.nx } r := by
  cases r with
  | bad => exact q
  | nx ρ' => exact fun F' σ' H' s R => h1 ρ' F' σ' H' (.inl rfl) s R
  | ct ρ' => exact fun F' σ' H' s R => h1 ρ' F' σ' H' (.inr rfl) s R
  | bk ρ' => exact fun F' σ' H' s R => h2 ρ' F' σ' H' rfl s R
  | rt d ρ' => exact fun v F' H' s hr => q v F' H' s (hr.unlock rfl rfl)
  | exn x ρ' => exact fun k dd F' σ' H' s R xo => q k dd F' σ' H' s R.unprot xo
def tbL (g : Gh) (W : WX) (c : Sx) (ms ms' : List Md) (sb : MS) : TS := fun Dn σ H => ∃ g' : Gh, g'.K = g.K ∧ g'.mg = g.mg ∧ LS g' W c ms ms' sb Dn σ H
/-- for over an own list: it is locked meanwhile -/
theorem ls_forL {body : List Stmt} {i : Nat} {t : Tg} {gg : TG} {msh msb : List Md} {sb : MS} {x : Str} {px : Pos} (hk : g.K = X.K) (hp : PassesOwn (model X.prog X.w) X.A X.env X.xe) (hc : X.calm = true)
    (hx : PE X (.Name x px) (tVar i)) (hmi : ms[i]? = some .own) (hmh : msh[i]? = some .own) (hg : GT X tg t ((shl msh).set i (.lk 0)) msb gg)
    (hb : ∀ (F0 H0 : Hp) (ios : List Addr) (pr : List (Addr × List V)), PSs X body (LS ⟨g.K, g.mg, F0, H0, ios, pr⟩ W { c with mb := (shl msh).set i (.lk 0), mx := shl c.mx } msb ((shl msh).set i (.lk 0)) sb))
    (wh : wkB ms msh = true := by rfl) (hs : ∀ y, foldedSetIterable (.Name x px) X.env y = pure y := by intro _; rfl) : PS X (.For tg (.Name x px) body [] pos) (LS g W c ms msh (sFor (mItS i) t sb)) := by
  have hbb : PSs X body (tbL g W { c with mb := (shl msh).set i (.lk 0), mx := shl c.mx } msb ((shl msh).set i (.lk 0)) sb) :=
    ⟨fun pins s σ H D I ⟨g', e1, e2, q⟩ => (by have := hb g'.F0 g'.H0 g'.ios g'.pr; rw [← e1, ← e2] at this; exact this : PSs X body (LS g' W { c with mb := (shl msh).set i (.lk 0), mx := shl c.mx } msb ((shl msh).set i (.lk 0)) sb)).run pins s σ H D I q⟩
  refine ps_imp (ps_for hp hc (pi_any hx) hg.pg hbb hs) fun Dn σ H ⟨F, ρ, R, q⟩ => ?_
  unfold sFor mItS mVar at q
  cases h1 : ρ[i]? with
  | none => simp [h1, iK, IR.st] at q; exact q.elim
  | some o => cases o with
    | none => simp [h1, iK, IR.st] at q; exact q.elim
    | some d =>
      obtain ⟨a, xs, ds, e1, e2, ra, fr, ha, Rl⟩ := (R.weak wh).lock hmh h1
      subst e2
      simp only [h1, iK, itD, IR.st] at q
      refine .inl ⟨_, e1, a, rfl, ⟨xs, .inl (.inl ha)⟩, ?_⟩
      refine for_it (g := gg) (tb := tbL g W { c with mb := (shl msh).set i (.lk 0), mx := shl c.mx } msb ((shl msh).set i (.lk 0)) sb) (D := Dn) (walk_list (K := X.K) (a := a) (xs := xs)) (fun n σ2 H2 => ∃ F2 ρ2, Same F F2 ∧ Rel (g.lock a xs) F2 ((shl msh).set i (.lk 0)) ρ2 σ2 H2 ∧ goS g W c msh F2 Dn (loopS t sb (ds.drop n) ρ2)) ⟨F, ρ, Same.refl _, Rl, q⟩ (fun n σ2 H2 _ ⟨F2, ρ2, s2, R2, _⟩ => .inl (.inl (R2.prot _ List.mem_cons_self).1)) (fun n y σ2 H2 H3 hi' ⟨F2, ρ2, s2, R2, q2⟩ yy => ?_) (fun σ2 H2 ⟨F2, ρ2, s2, R2, q2⟩ => ?_)
      · obtain ⟨e3, e4⟩ := yy
        subst e3
        obtain ⟨d, hd, rp⟩ := ra.getV e4
        have hdr : ds.drop n = d :: ds.drop (n + 1) := by
          obtain ⟨h1, h2⟩ := List.getElem?_eq_some_iff.mp hd
          rw [List.drop_eq_getElem_cons h1, h2]
        rw [hdr] at q2
        unfold loopS at q2
        cases hasg : asg t d ρ2 with
        | none => simp only [hasg] at q2; exact False.elim q2
        | some ρ3 =>
          simp only [hasg] at q2
          refine hg.run (g.lock a xs) F2 ρ2 ρ3 σ2 _ y d _ hk R2 (rp.mono s2) hasg fun σ3 R3 _ => ⟨g.lock a xs, rfl, rfl, F2, ρ3, R3, ?_⟩
          cases hb2 : sb ρ3 with
          | nx ρ4 => simp only [hb2] at q2; exact fun F4 σ4 H4 s4 R4 => ⟨F4, ρ4, s2.trans s4, R4, goS.up s4 q2⟩
          | ct ρ4 => simp only [hb2] at q2; exact fun F4 σ4 H4 s4 R4 => ⟨F4, ρ4, s2.trans s4, R4, goS.up s4 q2⟩
          | bk ρ4 => simp only [hb2] at q2; exact fun F4 σ4 H4 s4 R4 => q2 F4 σ4 H4 s4 (Rel.unlock hmh fr.h0 fr.pr R4)
          | rt d4 ρ4 => simp only [hb2] at q2; exact fun v F' H' s hr => q2 v F' H' s (hr.unlock rfl rfl)
          | exn x4 ρ4 => simp only [hb2] at q2; exact fun k dd F' σ' H' s R xo => q2 k dd F' σ' H' s R.unprot xo
          | bad => simp only [hb2] at q2; exact q2
      · rw [ra.length, List.drop_length] at q2
        exact q2 _ _ _ (Same.refl _) (Rel.unlock hmh fr.h0 fr.pr R2)
end
end Mr

namespace Mr
open PySem PySem.Spec PyProof.Rows L2

/-! ### list comprehensions -/
def killL (ms : List Md) : List Nat → List Md
  | [] => ms
  | v :: vs => (killL ms vs).set v .dead
def valB (ms : List Md) (vs : List Nat) : Bool := vs.all fun i => match ms[i]? with
  | some .val => true
  | some .dead => true
  | _ => false
def restE (ρ0 : En) : List Nat → En → En
  | [], ρ => ρ
  | v :: vs, ρ => (restE ρ0 vs ρ).set v (ρ0[v]?.join)
def loopC (t : Tg) (cnd el : ME) : List D → List D → En → Option (List D × En)
  | [], acc, ρ => some (acc, ρ)
  | d :: ds, acc, ρ => match asg t d ρ with
    | none => none
    | some ρ1 => match cnd ρ1 with
      | .ok (.bool b) ρ2 => if b = true then (match el ρ2 with
          | .ok e ρ3 => if acc.length < sizeLine then loopC t cnd el ds (acc ++ [e]) ρ3 else none
          | _ => none) else loopC t cnd el ds acc ρ2
      | _ => none
def mLc (mi : MI) (t : Tg) (vs : List Nat) (cnd el : ME) : ME := fun ρ => match mi ρ with
  | .ok ds ρ1 => (match loopC t cnd el ds [] ρ1 with
    | some (acc, ρ2) => .ok (.list acc) (restE ρ1 vs ρ2)
    | none => .bad)
  | .exn x ρ1 => .exn x ρ1
  | .bad => .bad
section
variable {g : Gh} {F F' H H' F1 H1 : Hp} {ms ms' : List Md} {ρ ρ' ρ1 : En} {σ σ' σ2 : Sg} {v : V} {d : D} {i : Nat} {a : Addr} {xs : List V} {vs : List Nat}
theorem killL_len : ∀ {vs : List Nat}, (killL ms vs).length = ms.length
  | [] => rfl
  | v :: vs => by unfold killL; rw [List.length_set]; exact killL_len
theorem killL_out : ∀ {vs : List Nat}, i ∉ vs → (killL ms vs)[i]? = ms[i]?
  | [], _ => rfl
  | v :: vs, h => by
    unfold killL
    rw [set_ne (fun z => h (by rw [z]; exact List.mem_cons_self))]
    exact killL_out fun z => h (List.mem_cons_of_mem _ z)
theorem killL_in {m : Md} : ∀ {vs : List Nat}, i ∈ vs → (killL ms vs)[i]? = some m → m = .dead
  | v :: vs, h, e => by
    unfold killL at e
    by_cases hv : i = v
    · subst hv
      have hi := (List.getElem?_eq_some_iff.mp e).1
      rw [List.length_set] at hi
      rw [set_eq hi] at e
      exact (Option.some.inj e).symm
    · rw [set_ne hv] at e
      exact killL_in ((List.mem_cons.mp h).resolve_left hv) e
theorem restE_len {ρ0 : En} : ∀ {vs : List Nat}, (restE ρ0 vs ρ).length = ρ.length
  | [] => rfl
  | v :: vs => by unfold restE; rw [List.length_set]; exact restE_len
theorem restE_out {ρ0 : En} : ∀ {vs : List Nat}, i ∉ vs → (restE ρ0 vs ρ)[i]? = ρ[i]?
  | [], _ => rfl
  | v :: vs, h => by
    unfold restE
    rw [set_ne (fun z => h (by rw [z]; exact List.mem_cons_self))]
    exact restE_out fun z => h (List.mem_cons_of_mem _ z)
theorem restE_in {ρ0 : En} {o : Option D} : ∀ {vs : List Nat}, i ∈ vs → (restE ρ0 vs ρ)[i]? = some o → o = ρ0[i]?.join
  | v :: vs, h, e => by
    unfold restE at e
    by_cases hv : i = v
    · subst hv
      have hi := (List.getElem?_eq_some_iff.mp e).1
      rw [List.length_set] at hi
      rw [set_eq hi] at e
      exact (Option.some.inj e).symm
    · rw [set_ne hv] at e
      exact restE_in ((List.mem_cons.mp h).resolve_left hv) e
theorem wipe_out : ∀ {vs : List Nat}, i ∉ vs → (wipe σ vs)[i]? = σ[i]?
  | [], _ => rfl
  | v :: vs, h => by
    unfold wipe
    rw [set_ne (fun z => h (by rw [z]; exact List.mem_cons_self))]
    exact wipe_out fun z => h (List.mem_cons_of_mem _ z)
theorem wipe_in {o : Option V} : ∀ {vs : List Nat}, i ∈ vs → (wipe σ vs)[i]? = some o → o = none
  | v :: vs, h, e => by
    unfold wipe at e
    by_cases hv : i = v
    · subst hv
      have hi := (List.getElem?_eq_some_iff.mp e).1
      rw [List.length_set] at hi
      rw [set_eq hi] at e
      exact (Option.some.inj e).symm
    · rw [set_ne hv] at e
      exact wipe_in ((List.mem_cons.mp h).resolve_left hv) e
theorem wipe_wipe : wipe (wipe σ vs) vs = wipe σ vs := by
  apply List.ext_getElem?
  intro i
  by_cases hi : i ∈ vs
  · cases h1 : (wipe (wipe σ vs) vs)[i]? with
    | none =>
      have l1 := List.getElem?_eq_none_iff.mp h1
      rw [wipe_length, wipe_length] at l1
      exact (List.getElem?_eq_none_iff.mpr (by rw [wipe_length]; exact l1)).symm
    | some o =>
      have hl := (List.getElem?_eq_some_iff.mp h1).1
      rw [wipe_length] at hl
      rw [wipe_in hi h1, List.getElem?_eq_getElem hl]
      exact congrArg some (wipe_in hi (List.getElem?_eq_getElem hl)).symm
  · rw [wipe_out hi]
/-- slots that are forgotten may change -/
theorem Rel.swap (R : Rel g F (killL ms vs) ρ σ H) (hl : σ'.length = σ.length) (h : ∀ i, i ∉ vs → σ'[i]? = σ[i]?) : Rel g F (killL ms vs) ρ σ' H :=
  { R with
    lm := R.lm.trans hl.symm
    lρ := R.lρ.trans hl.symm
    slot := fun i m d hm nd hd => by
      have hi : i ∉ vs := fun z => nd (killL_in z hm)
      rw [h i hi]
      exact R.slot i m d hm nd hd
    uniq := fun i j mi mj d e u x c h1 h2 n h3 h4 h5 h6 f1 f2 => by
      have hi : i ∉ vs := fun z => f1.nd (killL_in z h1)
      have hj : j ∉ vs := fun z => f2.nd (killL_in z h2)
      rw [h i hi] at h5
      rw [h j hj] at h6
      exact R.uniq i j mi mj d e u x c h1 h2 n h3 h4 h5 h6 f1 f2 }
/-- behind a comprehension its own names are as they were -/
theorem Rel.restore (R1 : Rel g F1 ms ρ1 σ H1) (s : Same F1 F) (R : Rel g F (killL ms vs) ρ (wipe σ vs) H) (hv : valB ms vs = true) : Rel g F ms (restE ρ1 vs ρ) σ H := by
  have hvm : ∀ i ∈ vs, ∀ m, ms[i]? = some m → m = .val ∨ m = .dead := fun i hi m hm => by
    have := List.all_eq_true.mp hv i hi
    simp only [hm] at this
    cases m <;> first | exact .inl rfl | exact .inr rfl | cases this
  exact { R with
    lm := R1.lm
    lρ := by rw [restE_len, R.lρ, wipe_length]
    slot := fun i m d hm nd hd => by
      by_cases hi : i ∈ vs
      · have e := restE_in hi hd
        have hd1 : ρ1[i]? = some (some d) := by
          cases q : ρ1[i]? with
          | none => rw [q] at e; cases e
          | some o => rw [q] at e; exact congrArg some e.symm
        rcases hvm i hi m hm with rfl | rfl
        · obtain ⟨v, h1, h2⟩ := R1.slot i .val d hm nd hd1
          exact ⟨v, h1, Rp.mono s h2⟩
        · exact absurd rfl nd
      · rw [restE_out hi] at hd
        obtain ⟨v, h1, h2⟩ := R.slot i m d (by rw [killL_out hi]; exact hm) nd hd
        rw [wipe_out hi] at h1
        exact ⟨v, h1, h2⟩
    uniq := fun i j mi mj d e u x c h1 h2 n h3 h4 h5 h6 f1 f2 => by
      have hi : i ∉ vs := fun z => by rcases hvm i z _ h1 with q | q <;> (subst q; exact f1)
      have hj : j ∉ vs := fun z => by rcases hvm j z _ h2 with q | q <;> (subst q; exact f2)
      rw [restE_out hi] at h3
      rw [restE_out hj] at h4
      exact R.uniq i j mi mj d e u x c (by rw [killL_out hi]; exact h1) (by rw [killL_out hj]; exact h2) n h3 h4 (by rw [wipe_out hi]; exact h5) (by rw [wipe_out hj]; exact h6) f1 f2
    ioU := fun i j k h1 h2 => R1.ioU i j k h1 h2 }
theorem killL_wk : ∀ {vs : List Nat}, wkB ms (killL ms vs) = true := fun {vs} => by
  have key : ∀ (l l' : List Md), l.length = l'.length → (∀ (i : Nat) (m : Md), l'[i]? = some m → m = .dead ∨ l[i]? = some m) → wkB l l' = true := by
    intro l
    induction l with
    | nil => intro l' h _; cases l' with
      | nil => rfl
      | cons _ _ => simp at h
    | cons m r ih =>
      intro l' h q
      cases l' with
      | nil => simp at h
      | cons m' r' =>
        simp only [wkB, Bool.and_eq_true, Bool.or_eq_true, decide_eq_true_eq]
        refine ⟨?_, ih r' (by simpa using h) fun i m hm => by simpa using q (i + 1) m (by simpa using hm)⟩
        have := q 0 m' rfl
        simpa using this
  refine key ms _ killL_len.symm fun i m hm => ?_
  by_cases hi : i ∈ vs
  · exact .inl (killL_in hi hm)
  · exact .inr (by rw [← hm, killL_out hi])
theorem Rel.wiped (R : Rel g F ms ρ σ H) (vs : List Nat) : Rel g F (killL ms vs) ρ (wipe σ vs) H := (R.weak killL_wk).swap (wipe_length _ _) fun i hi => wipe_out hi
/-- a locked list is free again -/
theorem Rel.freeOf (R : Rel (g.lock a xs) F (shl ms) ρ σ H) (h0 : g.H0 a = none) (hp : ∀ p ∈ g.pr, p.1 ≠ a) : Free g F H ms ρ σ a ∧ H a = some (.lst xs) := by
  obtain ⟨p1, p2, p3⟩ := R.prot (a, xs) List.mem_cons_self
  refine ⟨⟨h0, p2, hp, fun j m e u h1 h2 h3 f1 => ?_⟩, p1⟩
  have so := R.at_slot (i := j) (m := sh1 m) (by rw [List.getElem?_map, h1]; rfl) h2 h3 (Ft_sh f1).nd
  exact (Ft.mine so (Ft_sh f1)).1.2.2 _ List.mem_cons_self rfl
/-- a free list is written -/
theorem Rel.updFree (R : Rel g F ms ρ σ H) (f : Free g F H ms ρ σ a) (o : HO) : Rel g F ms ρ σ (upd H a o) ∧ Free g F (upd H a o) ms ρ σ a := by
  have keep : ∀ {j : Nat} {m : Md} {e : D} {u : V} {c : Addr}, ms[j]? = some m → ρ[j]? = some (some e) → σ[j]? = some (some u) → Ft F (upd H a o) m u c → Ft F H m u c := fun {j m e u c} h1 h3 h5 f1 => by
    refine f1.back (Same.refl _) (R.at_slot h1 h3 h5 f1.nd) fun b eo eb mb _ x q => ?_
    rw [upd_ne fun z => ?_]
    · exact q
    · subst z eo
      exact f.slots j .oo e u h1 h3 h5 ⟨mb.1, b, eb, mb.1, .inl rfl⟩
  refine ⟨{ R with
    uniq := fun j k mj mk d e u x c h1 h2 n h3 h4 h5 h6 f1 f2 => R.uniq j k mj mk d e u x c h1 h2 n h3 h4 h5 h6 (keep h1 h3 h5 f1) (keep h2 h4 h6 f2)
    sub := fun b x q => by rw [upd_ne fun z => by subst z; rw [f.f] at q; cases q]; exact R.sub _ _ q
    frame := fun b x e n => by rw [upd_ne fun z => by subst z; rw [f.h0] at e; cases e]; exact R.frame b x e n
    dom := fun b hb => by
      by_cases z : b = a
      · subst z; rw [upd_same]; simp
      · rw [upd_ne z]; exact R.dom b hb
    prot := fun p hp => by
      obtain ⟨h1, h2, h3⟩ := R.prot p hp
      exact ⟨by rw [upd_ne (f.pr p hp)]; exact h1, h2, h3⟩
    slot := fun j m e hm nd he => by
      obtain ⟨v, h1, h2⟩ := R.slot j m e hm nd he
      refine ⟨v, h1, ?_⟩
      cases m with
      | own =>
        obtain ⟨b, hl, hf, hq⟩ := h2
        refine ⟨b, hl.mono (Same.refl _) fun x q => ?_, hf, hq⟩
        rw [upd_ne fun z => ?_]
        · exact q
        · subst z
          obtain ⟨_, _, e1, _⟩ := hl
          subst e1
          exact f.slots j .own e _ hm he h1 rfl
      | oo =>
        rcases h2 with h2 | ⟨b, ys, es, ev, k⟩
        · exact .inl h2
        · refine .inr ⟨b, ys, es, ev, k.mono (Same.refl _) fun c hc mc _ => ⟨mc, fun x q => ?_⟩⟩
          rw [upd_ne fun z => ?_]
          · exact q
          · subst z
            exact f.slots j .oo e v hm he h1 ⟨mc.1, b, ev, k.mine.1, hc.imp id fun z => ⟨ys, k.cn.its, z⟩⟩
      | io k =>
        obtain ⟨b, hk, hl, hf⟩ := h2
        refine ⟨b, hk, hl.mono (Same.refl _) fun x q => ?_, hf⟩
        rw [upd_ne fun z => ?_]
        · exact q
        · subst z; exact R.ioH b (List.mem_of_getElem? hk) f.h0
      | _ => exact h2 }, ⟨f.h0, f.f, f.pr, fun j m e u h1 h3 h5 f1 => f.slots j m e u h1 h3 h5 (keep h1 h3 h5 f1)⟩⟩
end
section
variable {X : Cx} {g : Gh} {W : WX} {c : Sx} {ms msb : List Md} {elt tg iter : Expr} {ifs : List Expr} {scope : Scope} {own : List (Str × Nat)} {pos : Pos} {wi : TI} {gg : TG} {mi : MI} {t : Tg} {cnd el : ME} {σ : Sg} {F F' H H' : Hp} {ρ : En} {Q : VK}
theorem gh_eta {g g' : Gh} (e1 : g'.K = g.K) (e2 : g'.mg = g.mg) : (⟨g.K, g.mg, g'.F0, g'.H0, g'.ios, g'.pr⟩ : Gh) = g' := by
  cases g'; cases e1; cases e2; rfl
abbrev W0 : WX := fun _ _ _ _ => False
def teL (g : Gh) (ms : List Md) (m : ME) : TE := fun σ H Q => ∃ g' : Gh, g'.K = g.K ∧ g'.mg = g.mg ∧ LE g' W0 ms m σ H Q
def ttL (g : Gh) (ms : List Md) (m : ME) : TT := fun σ H Q => ∃ g' : Gh, g'.K = g.K ∧ g'.mg = g.mg ∧ LT g' W0 ms m σ H Q
theorem pe_impS {e : Expr} {t t' : TE} (h : PE X e t) (i : Shared → ∀ σ H Q, t' σ H Q → t σ H Q) : PE X e t' := ⟨fun pins s σ H Q I q => h.run pins s σ H Q I (i s σ H Q q)⟩
theorem lc_imp {X' : Cx} (hk : g.K = X'.K) (hg : GT X' tg t (shl (killL ms (own.map (·.2)))) msb gg) (hwi : ∀ σ H R, LI g W ms mi σ H R → wi σ H R) (wb : wkB msb (shl (killL ms (own.map (·.2)))) = true)
    (hvs : (tgIx t).all (fun i => (own.map (·.2)).contains i) = true) (hv : valB ms (own.map (·.2)) = true) :
    ∀ σ H Q, LO g W ms (mLc mi t (own.map (·.2)) cnd el) σ H Q → tLc wi gg (ttL g msb cnd) (teL g msb el) (own.map (·.2)) σ H Q := fun σ H Q ⟨F, ρ, R, q⟩ => by
  refine hwi _ _ _ ⟨F, ρ, R, ?_⟩
  unfold mLc at q
  cases h1 : mi ρ with
  | bad => simp only [h1] at q; exact q
  | exn x ρ' => simp only [h1] at q; exact q
  | ok ds ρ1 =>
    simp only [h1] at q
    intro J F1 H1 s1 R1 wd D hD
    obtain ⟨G, Y, wk, hG, hY⟩ := wd
    cases h2 : loopC t cnd el ds [] ρ1 with
    | none => simp only [h2] at q; exact q.elim
    | some r =>
      obtain ⟨accF, ρF⟩ := r
      simp only [h2] at q
      have Rw := (R1.wiped (own.map (·.2))).ext (Ext.new (o := .lst []) R1.sub hD)
      have fw := (R1.wiped (own.map (·.2))).free (o := .lst []) hD
      refine lc_it wk (fun n H2 => ∃ F2 ρ2 acc accd, Same F1 F2 ∧ Rel g F2 (killL ms (own.map (·.2))) ρ2 (wipe σ (own.map (·.2))) H2 ∧ H2 D = some (.lst acc) ∧ RpA g.K g.mg F2 acc accd ∧ Free g F2 H2 (killL ms (own.map (·.2))) ρ2 (wipe σ (own.map (·.2))) D ∧ loopC t cnd el (ds.drop n) accd ρ2 = some (accF, ρF))
        ⟨F1, ρ1, [], [], Same.refl _, Rw, upd_same, .nil, fw, h2⟩ (fun n H2 _ ⟨F2, ρ2, acc, accd, s2, R2, _⟩ => hG F2 _ ρ2 _ H2 s2 R2) (fun n x H2 H3 hn ⟨F2, ρ2, acc, accd, s2, R2, hD2, ra, f2, q2⟩ y => ?_) (fun H2 ⟨F2, ρ2, acc, accd, s2, R2, hD2, ra, f2, q2⟩ => ?_)
      · obtain ⟨d, F3, hd, ex, rp⟩ := hY n F2 H2 x H3 hn s2 R2.sub y
        have hdr : ds.drop n = d :: ds.drop (n + 1) := by
          obtain ⟨h1, h2⟩ := List.getElem?_eq_some_iff.mp hd
          rw [List.drop_eq_getElem_cons h1, h2]
        rw [hdr] at q2
        unfold loopC at q2
        have R3 := (R2.protect f2 hD2).ext ex
        cases ha : asg t d ρ2 with
        | none => simp only [ha] at q2; cases q2
        | some ρ3 =>
          simp only [ha] at q2
          refine hg.run (g.lock D acc) F3 ρ2 ρ3 _ H3 x d _ hk R3 rp ha fun σ3 R4 w3 => ?_
          have w3' : wipe σ3 (own.map (·.2)) = wipe σ (own.map (·.2)) := by
            rw [w3 _ fun i hi => by simpa using List.all_eq_true.mp hvs i hi, wipe_wipe]
          refine ⟨w3', g.lock D acc, rfl, rfl, F3, ρ3, R4, ?_⟩
          -- back from the block
          have back : ∀ {F5 H5 : Hp} {ρ5 : En}, Rel (g.lock D acc) F5 msb ρ5 σ3 H5 → Rel g F5 (killL ms (own.map (·.2))) ρ5 (wipe σ (own.map (·.2))) H5 ∧ Free g F5 H5 (killL ms (own.map (·.2))) ρ5 (wipe σ (own.map (·.2))) D ∧ H5 D = some (.lst acc) := fun {F5 H5 ρ5} R5 => by
            have R6 := R5.weak wb
            have sw : (wipe σ (own.map (·.2))).length = σ3.length ∧ ∀ i, i ∉ own.map (·.2) → (wipe σ (own.map (·.2)))[i]? = σ3[i]? := by
              rw [← w3']
              exact ⟨wipe_length _ _, fun i hi => wipe_out hi⟩
            obtain ⟨f6, h6⟩ := R6.freeOf f2.h0 f2.pr
            have R7 := R6.unprot.swap sw.1 sw.2
            refine ⟨R7, ⟨f6.h0, f6.f, f6.pr, fun j m e u q1 q3 q4 f1 => ?_⟩, h6⟩
            have hj : j ∉ own.map (·.2) := fun z => f1.nd (killL_in z q1)
            rw [sw.2 j hj] at q4
            exact f6.slots j m e u q1 q3 q4 f1
          cases hc : cnd ρ3 with
          | bad => simp only [hc] at q2; cases q2
          | exn x ρ' => simp only [hc] at q2; cases q2
          | ok dc ρ4 =>
            cases dc with
            | bool b =>
              simp only [hc] at q2
              refine ⟨b, rfl, fun F4 H4 s4 R5 => ?_⟩
              cases b with
              | false =>
                rw [if_neg Bool.false_ne_true] at q2 ⊢
                obtain ⟨R6, f6, h6⟩ := back R5
                exact ⟨F4, ρ4, acc, accd, s2.trans (ex.f.trans s4), R6, h6, ra.mono (ex.f.trans s4), f6, q2⟩
              | true =>
                rw [if_pos rfl] at q2 ⊢
                refine ⟨g.lock D acc, rfl, rfl, F4, ρ4, R5, ?_⟩
                cases he : el ρ4 with
                | bad => simp only [he] at q2; cases q2
                | exn x ρ' => simp only [he] at q2; cases q2
                | ok de ρ5 =>
                  simp only [he] at q2
                  intro ye F5 H5 s5 R6 re
                  obtain ⟨R7, f7, h7⟩ := back R6
                  by_cases hl : accd.length < sizeLine
                  · rw [if_pos hl] at q2
                    obtain ⟨R8, f8⟩ := R7.updFree f7 (.lst (acc ++ [ye]))
                    refine ⟨acc, h7, by rw [ra.length]; exact hl, F5, ρ5, acc ++ [ye], accd ++ [de], s2.trans (ex.f.trans (s4.trans s5)), R8, upd_same, (ra.mono (ex.f.trans (s4.trans s5))).append (.cons re .nil), f8, q2⟩
                  · rw [if_neg hl] at q2; cases q2
            | _ => simp only [hc] at q2; cases q2
      · rw [List.drop_length] at q2
        unfold loopC at q2
        cases q2
        have Rf := R1.restore s2 R2 hv
        refine q D F2 H2 (s1.trans s2) Rf ⟨acc, _, rfl, rfl, hD2, ra⟩ ⟨f2.h0, f2.f, f2.pr, fun j m e u h3 h4 h5 f1 => ?_⟩
        have hj : j ∉ own.map (·.2) := fun z => by
          have := List.all_eq_true.mp hv j z
          simp only [h3] at this
          cases m <;> first | exact f1 | cases this
        rw [restE_out hj] at h4
        exact f2.slots j m e u (by rw [killL_out hj]; exact h3) h4 (by rw [wipe_out hj]; exact h5) f1
theorem lt_nil {X : Cx} {ms : List Md} : PTs X [] (LT g W ms (mC (.bool true))) := ⟨fun pins s σ H Q I ⟨F, ρ, R, b, e, q⟩ => by cases e; exact (pts_nil (X := X)).run pins s σ H Q I (q F H (Same.refl _) R)⟩
theorem lt_one {X : Cx} {ms : List Md} {ec : Expr} {m : ME} (h : PT X ec (LT g W ms m)) : PTs X [ec] (LT g W ms m) := pts_one h
theorem lo_lc (hk : g.K = X.K) (hc : X.calm = true) (hN : X.N.Nodup) (hi : PI X tg iter wi) (hwi : ∀ σ H R, LI g W ms mi σ H R → wi σ H R) (ok : BlkOk X.N X.env.scope scope own)
    (hg : ∀ (s : Shared) (H : Hp) (C : Addr) (cl : List (Str × Addr)) (fp : List Addr), GT (X.blk s H scope (compEnvC scope cl C X.env) fp) tg t (shl (killL ms (own.map (·.2)))) msb gg)
    (ht : ∀ (s : Shared) (H : Hp) (C : Addr) (cl : List (Str × Addr)) (fp : List Addr) (F0 H0 : Hp) (ios : List Addr) (pr : List (Addr × List V)), PTs (X.blk s H scope (compEnvC scope cl C X.env) fp) ifs (LT ⟨g.K, g.mg, F0, H0, ios, pr⟩ W0 msb cnd))
    (he : ∀ (s : Shared) (H : Hp) (C : Addr) (cl : List (Str × Addr)) (fp : List Addr) (F0 H0 : Hp) (ios : List Addr) (pr : List (Addr × List V)), PE (X.blk s H scope (compEnvC scope cl C X.env) fp) elt (LE ⟨g.K, g.mg, F0, H0, ios, pr⟩ W0 msb el))
    (wb : wkB msb (shl (killL ms (own.map (·.2)))) = true := by rfl) (hvs : (tgIx t).all (fun i => (own.map (·.2)).contains i) = true := by rfl) (hv : valB ms (own.map (·.2)) = true := by rfl)
    (hs : ∀ x, foldedSetIterable iter X.env x = pure x := by intro _; rfl) : PE X (.ListComp elt [⟨tg, iter, ifs, 0⟩] scope pos) (LO g W ms (mLc mi t (own.map (·.2)) cnd el)) :=
  pe_impS (pe_lc (tt := ttL g msb cnd) (te := teL g msb el) hc hN hi ok (fun s H C cl fp => (hg s H C cl fp).pg) (fun s H C cl fp => ⟨fun pins s' σ H' Q I ⟨g', e1, e2, q⟩ => (by rw [← gh_eta e1 e2]; exact ht s H C cl fp _ _ _ _ : PTs (X.blk s H scope (compEnvC scope cl C X.env) fp) ifs (LT g' W0 msb cnd)).run pins s' σ H' Q I q⟩)
    (fun s H C cl fp => ⟨fun pins s' σ H' Q I ⟨g', e1, e2, q⟩ => (by rw [← gh_eta e1 e2]; exact he s H C cl fp _ _ _ _ : PE (X.blk s H scope (compEnvC scope cl C X.env) fp) elt (LE g' W0 msb el)).run pins s' σ H' Q I q⟩) hs)
  (fun s => lc_imp (X' := X.blk s (fun _ => none) scope (compEnvC scope [] 0 X.env) []) hk (hg s (fun _ => none) 0 [] []) hwi wb hvs hv)
end
end Mr

/-! operations on data: what each gives, and that the machine gives it -/
namespace Mr
open PySem PySem.Spec PyProof.Rows L2

section
variable {K : Fr} {mg : Mg} {F H : Hp}
theorem opr_or {X : Cx} {f : Value → Value → Sem Value} {r r' : R2} (h : OpR X f r) (h' : OpR X f r') : OpR X f (fun x y H Q => r x y H Q ∨ r' x y H Q) := fun pins s σ H x y v u Q I rx ry q => q.elim (h pins s σ H x y v u Q I rx ry) (h' pins s σ H x y v u Q I rx ry)
theorem callr_or {X : Cx} {f : Value} {r r' : List V → Hp → VK → Prop} (h : CallR X f r) (h' : CallR X f r') : CallR X f (fun xs H Q => r xs H Q ∨ r' xs H Q) := fun pins s σ H xs us Q I rx q => q.elim (h pins s σ H xs us Q I rx) (h' pins s σ H xs us Q I rx)
/-- what a value of a kind looks like -/
theorem Bv.int {v : V} {i : Int} (b : Bv K mg F H v (.int i)) : v = .int i := by
  rcases b with r | ⟨a, xs, ds, _, e, _⟩
  · cases r; rfl
  · cases e
theorem Bv.str {v : V} {x : Str} (b : Bv K mg F H v (.str x)) : v = .str x := by
  rcases b with r | ⟨a, xs, ds, _, e, _⟩
  · cases r; rfl
  · cases e
theorem Bv.bool {v : V} {x : Bool} (b : Bv K mg F H v (.bool x)) : v = .bl x := by
  rcases b with r | ⟨a, xs, ds, _, e, _⟩
  · cases r; rfl
  · cases e
theorem Bv.none {v : V} (b : Bv K mg F H v .none) : v = .non := by
  rcases b with r | ⟨a, xs, ds, _, e, _⟩
  · cases r; rfl
  · cases e
theorem Bv.list (e : Same F H) {v : V} {ds : List D} (b : Bv K mg F H v (.list ds)) : ∃ a xs, v = .ref a ∧ SqP K H a xs ∧ RpA K mg F xs ds := by
  rcases b with r | ⟨a, xs, ds', e1, e2, e3, ra⟩
  · cases r with
    | lst hs ra => exact ⟨_, _, rfl, hs.mono e, ra⟩
  · cases e2; exact ⟨a, xs, e1, .inl (.inl e3), ra⟩
theorem Bv.tup (e : Same F H) {v : V} {ds : List D} (b : Bv K mg F H v (.tuple ds)) : ∃ a xs, v = .ref a ∧ SqT K H a xs ∧ SqF K F a xs ∧ RpA K mg F xs ds := by
  rcases b with r | ⟨a, xs, ds', e1, e2, e3, ra⟩
  · cases r with
    | tup hs ra => exact ⟨_, _, rfl, sqT_same e hs.t, hs, ra⟩
  · cases e2
theorem Bv.dp (e : Same F H) {v : V} {d : D} (b : Bv K mg F H v d) (p : plain d = true) : Dp K H v d := by
  rcases b with r | ⟨a, xs, ds', e1, e2, e3, ra⟩
  · exact r.toDp e p
  · subst e1 e2
    exact .lst (.inl (.inl e3)) (ra.toDp e (by simpa [plain] using p))
theorem bva1 {vs : List V} {a : D} (b : BvA K mg F H vs [a]) : ∃ x, vs = [x] ∧ Bv K mg F H x a := by
  cases b with
  | cons r t => cases t; exact ⟨_, rfl, r⟩
theorem bva2 {vs : List V} {a b : D} (h : BvA K mg F H vs [a, b]) : ∃ x y, vs = [x, y] ∧ Bv K mg F H x a ∧ Bv K mg F H y b := by
  cases h with
  | cons r t => obtain ⟨y, rfl, r'⟩ := bva1 t; exact ⟨_, y, rfl, r, r'⟩
theorem rpA_list {xs : List V} {ds : List D} (e : Same F H) (ra : RpA K mg F xs ds) {a : Addr} (h : SqP K F a xs) : Rp K mg F (.ref a) (.list ds) := .lst h ra

/-! ### numbers -/
def oI (C : Int → Int → Bool) (f : Int → Int → D) : List D → Option D
  | [.int i, .int j] => if C i j = true then some (f i j) else none
  | _ => none
theorem ad_oI {C : Int → Int → Bool} {f : Int → Int → D} {C' : Int → Int → Prop} {f' : Int → Int → V} (hC : ∀ i j, C i j = true → C' i j) (hf : ∀ F i j, Rp K mg F (f' i j) (f i j)) : Ad K mg (r2 (rI C' f')) (oI C f) := fun F H vs ds d Q e b hd k => by
  unfold oI at hd
  split at hd
  · rename_i i j
    obtain ⟨x, y, rfl, bx, bv⟩ := bva2 b
    cases bx.int; cases bv.int
    by_cases hc : C i j = true
    · rw [if_pos hc] at hd; cases hd
      exact ⟨_, _, rfl, i, j, rfl, rfl, hC i j hc, k _ _ _ (Ext.refl e) (hf F i j)⟩
    · rw [if_neg hc] at hd; cases hd
  · cases hd
theorem opr_oI0 {X : Cx} {f : Value → Value → Sem Value} {g : Int → Int → V} (h : OpR X f (rI0 g)) : OpR X f (rI (fun _ _ => True) g) := fun pins s σ H x y v u Q I rx ry ⟨i, j, e1, e2, _, q⟩ => h pins s σ H x y v u Q I rx ry ⟨i, j, e1, e2, q⟩
def tt2 : Int → Int → Bool := fun _ _ => true
abbrev oSub := oI tt2 fun i j => .int (i - j)
abbrev oDiv := oI (fun _ j => decide (j ≠ 0) && decide (j.natAbs < 1073741824)) fun i j => .int (i.fdiv j)
abbrev oMod := oI (fun _ j => decide (j ≠ 0)) fun i j => .int (i.fmod j)
abbrev oPow := oI (fun i j => decide (0 ≤ j) && decide (j ≤ 1000000) && decide (i.natAbs < 2 ^ 64)) fun i j => .int (i ^ j.toNat)
abbrev oLt := oI tt2 fun i j => .bool (decide (i < j))
abbrev oLe := oI tt2 fun i j => .bool (decide (i ≤ j))
abbrev oGt := oI tt2 fun i j => .bool (decide (j < i))
abbrev oGe := oI tt2 fun i j => .bool (decide (j ≤ i))
theorem ad_sub : Ad K mg (r2 (rI (fun _ _ => True) fun i j => .int (i - j))) oSub := ad_oI (fun _ _ _ => trivial) fun _ _ _ => .int _
theorem ad_div : Ad K mg (r2 (rI CDivN fun i j => .int (i.fdiv j))) oDiv := ad_oI (fun i j h => by simp only [Bool.and_eq_true, decide_eq_true_eq] at h; exact h) fun _ _ _ => .int _
theorem ad_mod : Ad K mg (r2 (rI (fun _ j => j ≠ 0) fun i j => .int (i.fmod j))) oMod := ad_oI (fun i j h => of_decide_eq_true h) fun _ _ _ => .int _
theorem ad_pow : Ad K mg (r2 (rI CPow fun i j => .int (i ^ j.toNat))) oPow := ad_oI (fun i j h => by simp only [Bool.and_eq_true, decide_eq_true_eq] at h; exact ⟨h.1.1, h.1.2, h.2⟩) fun _ _ _ => .int _
theorem ad_lt : Ad K mg (r2 (rI (fun _ _ => True) fun i j => .bl (decide (i < j)))) oLt := ad_oI (fun _ _ _ => trivial) fun _ _ _ => .bl _
theorem ad_le : Ad K mg (r2 (rI (fun _ _ => True) fun i j => .bl (decide (i ≤ j)))) oLe := ad_oI (fun _ _ _ => trivial) fun _ _ _ => .bl _
theorem ad_gt : Ad K mg (r2 (rI (fun _ _ => True) fun i j => .bl (decide (j < i)))) oGt := ad_oI (fun _ _ _ => trivial) fun _ _ _ => .bl _
theorem ad_ge : Ad K mg (r2 (rI (fun _ _ => True) fun i j => .bl (decide (j ≤ i)))) oGe := ad_oI (fun _ _ _ => trivial) fun _ _ _ => .bl _
def oNeg : List D → Option D
  | [.int i] => some (.int (-i))
  | _ => none
theorem ad_neg : Ad K mg (r1 (fun x H Q => ∃ i, x = .int i ∧ Q (.int (-i)) H)) oNeg := fun F H vs ds d Q e b hd k => by
  unfold oNeg at hd
  split at hd
  · cases hd
    obtain ⟨x, rfl, bx⟩ := bva1 b
    cases bx.int
    exact ⟨_, rfl, _, rfl, k _ _ _ (Ext.refl e) (.int _)⟩
  · cases hd

/-! ### + and * -/
def rCatS : R2 := fun x y H Q => ∃ i j, x = .str i ∧ y = .str j ∧ i.length + j.length ≤ sizeLine ∧ Q (.str (i ++ j)) H
/-- two lists that are read -/
def rCatL (K : Fr) : R2 := fun x y H Q => ∃ l b xs zs, x = .ref l ∧ y = .ref b ∧ SqP K H l xs ∧ SqP K H b zs ∧ xs.length + zs.length ≤ sizeLine ∧ ∀ p, H p = none → Q (.ref p) (upd H p (.lst (xs ++ zs)))
theorem op_catL {X : Cx} : OpR X (binaryOp .Add) (rCatL X.K) := by
  intro pins s σ H x y v u Q I rx ry h
  obtain ⟨l, b, xs, zs, rfl, rfl, hH, hB, hz, q⟩ := h
  cases rx
  cases ry
  obtain ⟨its, n1, r1, o1, z1⟩ := SqP.obj I hH
  obtain ⟨its2, n2, r2, o2, z2⟩ := SqP.obj I hB
  have l1 := r1.length
  have l2 := r2.length
  refine PySem.P.add_list o1 o2 ?_ (by simp only [List.size_toArray]; omega)
  rw [show its.toArray ++ its2.toArray = (its ++ its2).toArray by simp]
  exact ⟨.ref _, _, I.lnew (t' := s.toks) (r1.append r2) (by rw [List.length_append]; omega), rfl, q _ I.fresh⟩
def oAddL : List D → Option D
  | [.list xs, .list ys] => if xs.length + ys.length ≤ sizeLine then some (.list (xs ++ ys)) else none
  | _ => none
theorem ado_addL : AdO K mg (r2 (rCatL K)) oAddL := fun F H vs ds d Q e b hd k => by
  unfold oAddL at hd
  split at hd
  · rename_i xs ys
    obtain ⟨x, y, rfl, bx, bv⟩ := bva2 b
    obtain ⟨a, us, rfl, h1, r1⟩ := bx.list e
    obtain ⟨c, ws, rfl, h2, r2⟩ := bv.list e
    by_cases hl : xs.length + ys.length ≤ sizeLine
    · rw [if_pos hl] at hd; cases hd
      exact ⟨_, _, rfl, a, c, us, ws, rfl, rfl, h1, h2, by rw [r1.length, r2.length]; exact hl, fun p hp => k p _ F H (Ext.refl e) hp ⟨_, _, rfl, rfl, upd_same, r1.append r2⟩⟩
    · rw [if_neg hl] at hd; cases hd
  · cases hd
def oAddT : List D → Option D
  | [.tuple xs, .tuple ys] => if xs.length + ys.length ≤ sizeLine then some (.tuple (xs ++ ys)) else none
  | _ => none
theorem ad_addT : Ad K mg (r2 (rCatF K)) oAddT := fun F H vs ds d Q e b hd k => by
  unfold oAddT at hd
  split at hd
  · rename_i xs ys
    obtain ⟨x, y, rfl, bx, bv⟩ := bva2 b
    obtain ⟨a, us, rfl, h1, h1', r1⟩ := bx.tup e
    obtain ⟨c, ws, rfl, h2, h2', r2⟩ := bv.tup e
    by_cases hl : xs.length + ys.length ≤ sizeLine
    · rw [if_pos hl] at hd; cases hd
      refine ⟨_, _, rfl, a, c, us, ws, rfl, rfl, h1, h2, by rw [r1.length, r2.length]; exact hl, fun z => ?_, fun _ z => ?_, fun _ _ p o hp hc hdd => ?_⟩
      · subst z; cases r1; exact k _ F H (Ext.refl e) (.tup h2' r2)
      · subst z; cases r2; exact k _ F H (Ext.refl e) (by rw [List.append_nil]; exact .tup h1' r1)
      · have x := Ext.frz (o := .frz o (.tup (us ++ ws))) e hp
        exact k _ _ _ x (.tup (.inl ⟨o, upd_same, hc, hdd⟩) ((r1.append r2).mono x.f))
    · rw [if_neg hl] at hd; cases hd
  · cases hd
def oAddS : List D → Option D
  | [.int i, .int j] => some (.int (i + j))
  | [.str i, .str j] => if i.length + j.length ≤ sizeLine then some (.str (i ++ j)) else none
  | _ => none
theorem ad_addS : Ad K mg (r2 (fun x y H Q => rI (fun _ _ => True) (fun i j => .int (i + j)) x y H Q ∨ rCatS x y H Q)) oAddS := fun F H vs ds d Q e b hd k => by
  unfold oAddS at hd
  split at hd
  · cases hd
    obtain ⟨x, y, rfl, bx, bv⟩ := bva2 b
    cases bx.int; cases bv.int
    exact ⟨_, _, rfl, .inl ⟨_, _, rfl, rfl, trivial, k _ _ _ (Ext.refl e) (.int _)⟩⟩
  · rename_i i j
    obtain ⟨x, y, rfl, bx, bv⟩ := bva2 b
    cases bx.str; cases bv.str
    by_cases hl : i.length + j.length ≤ sizeLine
    · rw [if_pos hl] at hd; cases hd
      exact ⟨_, _, rfl, .inr ⟨_, _, rfl, rfl, hl, k _ _ _ (Ext.refl e) (.str _)⟩⟩
    · rw [if_neg hl] at hd; cases hd
  · cases hd
/-- every + -/
def oAdd (ds : List D) : Option D := match oAddS ds with
  | some d => some d
  | none => match oAddT ds with
    | some d => some d
    | none => oAddL ds
def rAdd (K : Fr) : R2 := fun x y H Q => (rI (fun _ _ => True) (fun i j => .int (i + j)) x y H Q ∨ rCatS x y H Q) ∨ rCatF K x y H Q ∨ rCatL K x y H Q
theorem op_addA {X : Cx} : OpR X (binaryOp .Add) (rAdd X.K) := opr_or (opr_or (opr_oI0 op_add) op_add_str) (opr_or op_catF op_catL)
theorem ad_add : Ad K mg (r2 (rAdd K)) oAdd := fun F H vs ds d Q e b hd k => by
  unfold oAdd at hd
  cases h1 : oAddS ds with
  | some d1 =>
    rw [h1] at hd; cases hd
    obtain ⟨x, y, ev, h⟩ := ad_addS F H vs ds _ Q e b h1 k
    exact ⟨x, y, ev, .inl h⟩
  | none =>
    rw [h1] at hd
    cases h2 : oAddT ds with
    | some d1 =>
      rw [h2] at hd; cases hd
      obtain ⟨x, y, ev, h⟩ := ad_addT F H vs ds _ Q e b h2 k
      exact ⟨x, y, ev, .inr (.inl h)⟩
    | none =>
      rw [h2] at hd
      obtain ⟨x, y, ev, h⟩ := ado_addL.ad F H vs ds _ Q e b hd k
      exact ⟨x, y, ev, .inr (.inr h)⟩
/-- a list, times an int -/
def rRepL (K : Fr) : R2 := fun x y H Q => ∃ l k xs, x = .ref l ∧ y = .int k ∧ SqP K H l xs ∧ -(2 ^ 63) ≤ k ∧ k < 2 ^ 63 ∧ xs.length * k.toNat ≤ sizeLine ∧ ∀ p, H p = none → Q (.ref p) (upd H p (.lst (List.replicate k.toNat xs).flatten))
theorem op_repL {X : Cx} : OpR X (binaryOp .Mult) (rRepL X.K) := by
  intro pins s σ H x y v u Q I rx ry h
  obtain ⟨l, k, xs, rfl, rfl, hH, h1, h2, hz, q⟩ := h
  cases rx
  obtain ⟨t, rfl⟩ := ry
  obtain ⟨its, n, r, e, z⟩ := SqP.obj I hH
  have hlen : its.toArray.size * k.toNat ≤ sizeLine := by rw [List.size_toArray, ← r.length]; exact hz
  have hcap : ¬ its.toArray.size * k.toNat > (2 ^ 63 - 1) / 8 := by
    have : (sizeLine : Nat) ≤ (2 ^ 63 - 1) / 8 := by decide
    omega
  have hnew : List.foldl (fun x1 x2 => x1 ++ x2) #[] (List.replicate (if its.toArray.isEmpty = true then 0 else k.toNat) its.toArray) = (List.replicate k.toNat its).flatten.toArray := by
    have f0 : ∀ m : Nat, List.foldl (fun x1 x2 => x1 ++ x2) #[] (List.replicate m its.toArray) = (List.replicate m its).flatten.toArray := fun m => by
      simpa using foldl_rep its m []
    rw [f0]
    cases its with
    | nil => simp
    | cons a r' => rw [if_neg (by simp)]
  refine wpAny_binaryOp_repeat_ref (T := "list") (U := "int") (by decide) ⟨_, e, rfl⟩ (fun s' => typeIs_int s' k t) noFill_list_mul F.fills_int_mul F.slot_int_rmul repeat_list F.slot_int_index.lookup
    (call_meets F.slot_int_rmul (typeIs_int s k t) F.entry_int_rmul (F.args_int_rmul_2 _ _) (int___rmul___int_list k t l its.toArray n)
      ⟨e, rfl, ⟨_, e, rfl⟩, call_meets F.slot_list_mul ⟨_, e, rfl⟩ F.entry_list_mul (F.args_list_mul_2 _ _) (AutoListH.list___mul___list_int_3 l its.toArray n k t (by rw [fitsIndex_both h1 h2]; exact Bool.false_ne_true) hcap (by rw [notLongL hlen]; exact Bool.false_ne_true)) ⟨e, ?_⟩⟩)
  rw [hnew]
  exact ⟨.ref _, _, I.lnew (t' := s.toks) (r.rep k.toNat) (by rw [PyProof.Rows.lm_len_rep_flat, Nat.mul_comm]; exact hz), rfl, q _ I.fresh⟩
def oMulL : List D → Option D
  | [.list xs, .int k] => if decide (-(2 ^ 63) ≤ k) && decide (k < 2 ^ 63) && decide (xs.length * k.toNat ≤ sizeLine) then some (.list (List.replicate k.toNat xs).flatten) else none
  | _ => none
theorem ado_mulL : AdO K mg (r2 (rRepL K)) oMulL := fun F H vs ds d Q e b hd k => by
  unfold oMulL at hd
  split at hd
  · rename_i xs n
    split at hd
    · rename_i hc
      simp only [Bool.and_eq_true, decide_eq_true_eq] at hc
      cases hd
      obtain ⟨x, y, rfl, bx, bv⟩ := bva2 b
      cases bv.int
      obtain ⟨a, us, rfl, h1, ra⟩ := bx.list e
      exact ⟨_, _, rfl, a, n, us, rfl, rfl, h1, hc.1.1, hc.1.2, by rw [ra.length]; exact hc.2, fun p hp => k p _ F H (Ext.refl e) hp ⟨_, _, rfl, rfl, upd_same, ra.rep _⟩⟩
    · cases hd
  · cases hd
def oMulI : List D → Option D
  | [.int i, .int j] => if (decide (-(2 ^ 64) < i) && decide (i < 2 ^ 64)) || (decide (-(2 ^ 64) < j) && decide (j < 2 ^ 64)) then some (.int (i * j)) else none
  | _ => none
/-- a text, times an int -/
def rMulS : R2 := fun x y H Q => ∃ z k, x = .str z ∧ y = .int k ∧ -(2 ^ 63) ≤ k ∧ k < 2 ^ 63 ∧ z.length * k.toNat ≤ sizeLine ∧ Q (.str (if k < 1 then Str.empty else if k == 1 || z.length == 0 then z else ⟨(List.replicate k.toNat z.cps).foldl (· ++ ·) #[]⟩)) H
theorem ad_mulI : Ad K mg (r2 (rI CMul fun i j => .int (i * j))) oMulI := fun F H vs ds d Q e b hd k => by
  unfold oMulI at hd
  split at hd
  · rename_i i j
    obtain ⟨x, y, rfl, bx, bv⟩ := bva2 b
    cases bx.int; cases bv.int
    split at hd
    · rename_i hc
      cases hd
      simp only [Bool.or_eq_true, Bool.and_eq_true, decide_eq_true_eq] at hc
      exact ⟨_, _, rfl, i, j, rfl, rfl, hc, k _ _ _ (Ext.refl e) (.int _)⟩
    · cases hd
  · cases hd

/-! ### is, ==, in -/
def oIs : List D → Option D
  | [x, .none] => some (.bool (match x with | .none => true | _ => false))
  | [x, .bool b] => some (.bool (match x with | .bool a => a == b | _ => false))
  | _ => none
def oIsNot : List D → Option D
  | [x, .none] => some (.bool (!(match x with | .none => true | _ => false)))
  | [x, .bool b] => some (.bool (!(match x with | .bool a => a == b | _ => false)))
  | _ => none
def rIsC (neg : Bool) : R2 := fun x y H Q => (y = .non ∧ Q (.bl (neg ^^ decide (x = .non))) H) ∨ (∃ b, y = .bl b ∧ (∀ z, x ≠ .byt z) ∧ (∀ z, x ≠ .flt z) ∧ (∀ z, x ≠ .ty z) ∧ Q (.bl (neg ^^ decide (x = .bl b))) H)
theorem op_isC {X : Cx} : OpR X (compareOp .Is) (rIsC false) := by
  intro pins s σ H x y v u Q I rx ry h
  rcases h with ⟨rfl, q⟩ | ⟨b, rfl, n1, n2, n3, q⟩
  · exact op_isN pins s σ H x _ v u Q I rx ry ⟨rfl, by simpa using q⟩
  · cases (show u = Value.bool b from ry)
    have off : (∀ c, x ≠ .bl c) → plainIs v (Value.bool b) = true → v ≠ Value.bool b → wpAny (model X.prog X.w) X.A (compareOp .Is v (Value.bool b)) (EP X pins σ Q) X.xe s := fun hx hp hv =>
      wpAny_is_other hp hv ⟨.bl false, H, I, rfl, by simpa [hx b] using q⟩
    cases x with
    | bl a => exact op_isBl pins s σ H (.bl a) (.bl b) v _ Q I rx rfl ⟨a, b, rfl, rfl, by simpa using q⟩
    | non => cases (show v = Value.none from rx); exact off (fun _ z => by cases z) rfl (fun z => by cases z)
    | int i => obtain ⟨t, rfl⟩ := (show ∃ t, v = Value.int i t from rx); exact off (fun _ z => by cases z) rfl (fun z => by cases z)
    | str i => obtain ⟨t, rfl⟩ := (show ∃ t, v = Value.str i t from rx); exact off (fun _ z => by cases z) rfl (fun z => by cases z)
    | ref a => cases (show v = Value.ref a from rx); exact off (fun _ z => by cases z) rfl (fun z => by cases z)
    | byt z => exact absurd rfl (n1 z)
    | flt z => exact absurd rfl (n2 z)
    | ty z => exact absurd rfl (n3 z)
theorem op_isNotC {X : Cx} : OpR X (compareOp .IsNot) (rIsC true) := by
  intro pins s σ H x y v u Q I rx ry h
  rcases h with ⟨rfl, q⟩ | ⟨b, rfl, n1, n2, n3, q⟩
  · exact op_notN pins s σ H x _ v u Q I rx ry ⟨rfl, by simpa using q⟩
  · cases (show u = Value.bool b from ry)
    have off : (∀ c, x ≠ .bl c) → plainIs v (Value.bool b) = true → v ≠ Value.bool b → wpAny (model X.prog X.w) X.A (compareOp .IsNot v (Value.bool b)) (EP X pins σ Q) X.xe s := fun hx hp hv =>
      wpAny_isNot_other hp hv ⟨.bl true, H, I, rfl, by simpa [hx b] using q⟩
    cases x with
    | bl a => exact op_notBl pins s σ H (.bl a) (.bl b) v _ Q I rx rfl ⟨a, b, rfl, rfl, by simpa using q⟩
    | non => cases (show v = Value.none from rx); exact off (fun _ z => by cases z) rfl (fun z => by cases z)
    | int i => obtain ⟨t, rfl⟩ := (show ∃ t, v = Value.int i t from rx); exact off (fun _ z => by cases z) rfl (fun z => by cases z)
    | str i => obtain ⟨t, rfl⟩ := (show ∃ t, v = Value.str i t from rx); exact off (fun _ z => by cases z) rfl (fun z => by cases z)
    | ref a => cases (show v = Value.ref a from rx); exact off (fun _ z => by cases z) rfl (fun z => by cases z)
    | byt z => exact absurd rfl (n1 z)
    | flt z => exact absurd rfl (n2 z)
    | ty z => exact absurd rfl (n3 z)
/-- a data's value is of the kinds that data have -/
theorem Bv.kinds {v : V} {d : D} (b : Bv K mg F H v d) : (∀ z, v ≠ .byt z) ∧ (∀ z, v ≠ .flt z) ∧ (∀ z, v ≠ .ty z) ∧ (v = .non ↔ d = .none) ∧ ∀ k, (v = .bl k ↔ d = .bool k) := by
  rcases b with r | ⟨a, xs, ds, e1, e2, _⟩
  · cases r <;> refine ⟨fun z => by simp, fun z => by simp, fun z => by simp, by simp, fun k => by simp⟩
  · subst e1 e2; refine ⟨fun z => by simp, fun z => by simp, fun z => by simp, by simp, fun k => by simp⟩
theorem ad_is : Ad K mg (r2 (rIsC false)) oIs := fun F H vs ds d Q e b hd k => by
  unfold oIs at hd
  split at hd
  · rename_i x
    cases hd
    obtain ⟨u, y, rfl, bx, bv⟩ := bva2 b
    cases bv.none
    refine ⟨_, _, rfl, .inl ⟨rfl, k _ _ _ (Ext.refl e) ?_⟩⟩
    have hk := bx.kinds.2.2.2.1
    cases x <;> first | (rw [hk.mpr rfl]; exact .bl _) | (rw [show decide (u = V.non) = false from decide_eq_false fun z => by have := hk.mp z; cases this]; exact .bl _)
  · rename_i x c
    cases hd
    obtain ⟨u, y, rfl, bx, bv⟩ := bva2 b
    cases bv.bool
    obtain ⟨k1, k2, k3, _, hk⟩ := bx.kinds
    refine ⟨_, _, rfl, .inr ⟨c, rfl, k1, k2, k3, k _ _ _ (Ext.refl e) ?_⟩⟩
    cases x with
    | bool a => rw [(hk a).mpr rfl]; cases a <;> cases c <;> exact .bl _
    | _ => rw [show decide (u = V.bl c) = false from decide_eq_false fun z => by have := (hk c).mp z; cases this]; exact .bl _
  · cases hd
theorem ad_isNot : Ad K mg (r2 (rIsC true)) oIsNot := fun F H vs ds d Q e b hd k => by
  unfold oIsNot at hd
  split at hd
  · rename_i x
    cases hd
    obtain ⟨u, y, rfl, bx, bv⟩ := bva2 b
    cases bv.none
    refine ⟨_, _, rfl, .inl ⟨rfl, k _ _ _ (Ext.refl e) ?_⟩⟩
    have hk := bx.kinds.2.2.2.1
    cases x <;> first | (rw [hk.mpr rfl]; exact .bl _) | (rw [show decide (u = V.non) = false from decide_eq_false fun z => by have := hk.mp z; cases this]; exact .bl _)
  · rename_i x c
    cases hd
    obtain ⟨u, y, rfl, bx, bv⟩ := bva2 b
    cases bv.bool
    obtain ⟨k1, k2, k3, _, hk⟩ := bx.kinds
    refine ⟨_, _, rfl, .inr ⟨c, rfl, k1, k2, k3, k _ _ _ (Ext.refl e) ?_⟩⟩
    cases x with
    | bool a => rw [(hk a).mpr rfl]; cases a <;> cases c <;> exact .bl _
    | _ => rw [show decide (u = V.bl c) = false from decide_eq_false fun z => by have := (hk c).mp z; cases this]; exact .bl _
  · cases hd
/-- data that may be compared -/
def cmpB (d : D) : Bool := plain d && SeqAt.shaped d
def oEq : List D → Option D
  | [x, y] => if cmpB x && cmpB y then some (.bool (PyData.eqv x y)) else none
  | _ => none
def oNe : List D → Option D
  | [x, y] => if cmpB x && cmpB y then some (.bool (!PyData.eqv x y)) else none
  | _ => none
theorem ad_eq : Ad K mg (r2 (rEqD K)) oEq := fun F H vs ds d Q e b hd k => by
  unfold oEq at hd
  split at hd
  · rename_i x y
    obtain ⟨u, v, rfl, bx, bv⟩ := bva2 b
    split at hd
    · rename_i hc
      cases hd
      simp only [cmpB, Bool.and_eq_true] at hc
      exact ⟨_, _, rfl, x, y, bx.dp e hc.1.1, bv.dp e hc.2.1, hc.1.2, hc.2.2, k _ _ _ (Ext.refl e) (.bl _)⟩
    · cases hd
  · cases hd
theorem ad_ne : Ad K mg (r2 (rNeD K)) oNe := fun F H vs ds d Q e b hd k => by
  unfold oNe at hd
  split at hd
  · rename_i x y
    obtain ⟨u, v, rfl, bx, bv⟩ := bva2 b
    split at hd
    · rename_i hc
      cases hd
      simp only [cmpB, Bool.and_eq_true] at hc
      exact ⟨_, _, rfl, x, y, bx.dp e hc.1.1, bv.dp e hc.2.1, hc.1.2, hc.2.2, k _ _ _ (Ext.refl e) (.bl _)⟩
    · cases hd
  · cases hd
end
end Mr

namespace Mr
open PySem PySem.Spec PyProof.Rows L2

section
variable {K : Fr} {mg : Mg} {F H : Hp}
/-! ### in -/
/-- data in a list or a tuple, at any depth -/
def rInA (K : Fr) (neg : Bool) : R2 := fun x y H Q => (∃ i j, x = .str i ∧ y = .str j ∧ Q (.bl (neg ^^ !(Builtin.Str.occurrences j i 0 j.length 1).isEmpty)) H) ∨
  (∃ d ds a xs, Dp K H x d ∧ y = .ref a ∧ (SqL K H a xs ∨ SqT K H a xs) ∧ DpAll K H xs ds ∧ SeqAt.shaped d = true ∧ SeqAt.shaped (.list ds) = true ∧ Q (.bl (neg ^^ ds.any fun z => PyData.eqv z d)) H)
theorem any_readOf {s : Shared} {its : List Value} {ds : List D} {d : D} (h : its.map (SeqAt.readOf s.heap) = ds) : (its.toArray.any fun u => PyData.eqv (SeqAt.readOf s.heap u) d) = ds.any fun z => PyData.eqv z d := by
  subst h
  simp [List.any_map, Function.comp_def]
theorem op_inA {X : Cx} (hu : X.A.units + 65 < cLine) : OpR X (compareOp .In) (rInA X.K false) := by
  intro pins s σ H x y v u Q I rx ry h
  rcases h with ⟨i, j, rfl, rfl, q⟩ | ⟨d, ds, a, xs, hd, rfl, hs, ha, sd, se, q⟩
  · exact op_in_str pins s σ H _ _ v u Q I rx ry ⟨i, j, rfl, rfl, by simpa using q⟩
  · obtain ⟨as, r1⟩ := Dp.reads I d x v hd rx
    cases ry
    have q : Q (.bl (ds.any fun z => PyData.eqv z d)) H := by simpa using q
    have hxs : PyData.canLayAll0 ds = true := SeqAt.canLay_of_shaped se
    have hroom : X.A.units + 1 + min (PyData.depthAll ds) d.depth < cLine := room_in_shaped sd hu
    rcases hs with hs | hs
    · obtain ⟨its, rv, pl, hz⟩ := I.list hs
      obtain ⟨bs, r2⟩ := Dp.readsAll I ds xs its ha rv
      refine SeqAt.in_listAt (fun u => PyData.eqv (SeqAt.readOf s.heap u) d) pl.isList (SeqAt.items_eqAt (vs := its.toArray) (show ReadsAll s.heap its.toArray.toList ds bs from r2) r1 hxs (SeqAt.canLay_of_shaped sd) hroom) ⟨.bl _, H, I, rfl, ?_⟩
      rw [any_readOf (SeqAt.readsAll_map ds its bs hxs r2)]
      exact q
    · obtain ⟨its, rv, pl, hz⟩ := I.tuple hs
      obtain ⟨bs, r2⟩ := Dp.readsAll I ds xs its ha rv
      refine SeqAt.in_tupleAt (fun u => PyData.eqv (SeqAt.readOf s.heap u) d) pl (SeqAt.items_eqAt (vs := its.toArray) (show ReadsAll s.heap its.toArray.toList ds bs from r2) r1 hxs (SeqAt.canLay_of_shaped sd) hroom) ⟨.bl _, H, I, rfl, ?_⟩
      rw [any_readOf (SeqAt.readsAll_map ds its bs hxs r2)]
      exact q
theorem op_notInA {X : Cx} (hu : X.A.units + 65 < cLine) : OpR X (compareOp .NotIn) (rInA X.K true) := by
  intro pins s σ H x y v u Q I rx ry h
  rcases h with ⟨i, j, rfl, rfl, q⟩ | ⟨d, ds, a, xs, hd, rfl, hs, ha, sd, se, q⟩
  · exact op_notIn_str pins s σ H _ _ v u Q I rx ry ⟨i, j, rfl, rfl, by simpa using q⟩
  · obtain ⟨as, r1⟩ := Dp.reads I d x v hd rx
    cases ry
    have q : Q (.bl (!ds.any fun z => PyData.eqv z d)) H := by simpa using q
    have hxs : PyData.canLayAll0 ds = true := SeqAt.canLay_of_shaped se
    have hroom : X.A.units + 1 + min (PyData.depthAll ds) d.depth < cLine := room_in_shaped sd hu
    rcases hs with hs | hs
    · obtain ⟨its, rv, pl, hz⟩ := I.list hs
      obtain ⟨bs, r2⟩ := Dp.readsAll I ds xs its ha rv
      refine SeqAt.notIn_listAt (fun u => PyData.eqv (SeqAt.readOf s.heap u) d) pl.isList (SeqAt.items_eqAt (vs := its.toArray) (show ReadsAll s.heap its.toArray.toList ds bs from r2) r1 hxs (SeqAt.canLay_of_shaped sd) hroom) ⟨.bl _, H, I, rfl, ?_⟩
      rw [any_readOf (SeqAt.readsAll_map ds its bs hxs r2)]
      exact q
    · obtain ⟨its, rv, pl, hz⟩ := I.tuple hs
      obtain ⟨bs, r2⟩ := Dp.readsAll I ds xs its ha rv
      refine SeqAt.notIn_tupleAt (fun u => PyData.eqv (SeqAt.readOf s.heap u) d) pl (SeqAt.items_eqAt (vs := its.toArray) (show ReadsAll s.heap its.toArray.toList ds bs from r2) r1 hxs (SeqAt.canLay_of_shaped sd) hroom) ⟨.bl _, H, I, rfl, ?_⟩
      rw [any_readOf (SeqAt.readsAll_map ds its bs hxs r2)]
      exact q
/-- is the one text within the other? -/
def subS (i j : Str) : Bool := !(Builtin.Str.occurrences j i 0 j.length 1).isEmpty
def inD : D → D → Option Bool
  | .str i, .str j => some (subS i j)
  | d, .list ds => if cmpB d && (plainAll ds && SeqAt.shaped (.list ds)) then some (ds.any fun z => PyData.eqv z d) else none
  | d, .tuple ds => if cmpB d && (plainAll ds && SeqAt.shaped (.list ds)) then some (ds.any fun z => PyData.eqv z d) else none
  | _, _ => none
def oIn : List D → Option D
  | [x, y] => (inD x y).map .bool
  | _ => none
def oNotIn : List D → Option D
  | [x, y] => (inD x y).map fun b => .bool (!b)
  | _ => none
theorem inD_ok (e : Same F H) {x y : D} {u v : V} {r neg : Bool} {Q : VK} (bx : Bv K mg F H u x) (bv : Bv K mg F H v y) (h : inD x y = some r) (k : Q (.bl (neg ^^ r)) H) : rInA K neg u v H Q := by
  unfold inD at h
  split at h
  · cases h; cases bx.str; cases bv.str
    exact .inl ⟨_, _, rfl, rfl, k⟩
  · rename_i ds
    split at h
    · rename_i hc
      simp only [cmpB, Bool.and_eq_true] at hc
      cases h
      obtain ⟨a, xs, rfl, hs, ra⟩ := bv.list e
      exact .inr ⟨x, ds, a, xs, bx.dp e hc.1.1, rfl, .inl hs.sql, ra.toDp e hc.2.1, hc.1.2, hc.2.2, k⟩
    · cases h
  · rename_i ds
    split at h
    · rename_i hc
      simp only [cmpB, Bool.and_eq_true] at hc
      cases h
      obtain ⟨a, xs, rfl, hs, _, ra⟩ := bv.tup e
      exact .inr ⟨x, ds, a, xs, bx.dp e hc.1.1, rfl, .inr hs, ra.toDp e hc.2.1, hc.1.2, hc.2.2, k⟩
    · cases h
  · cases h
theorem ad_in : Ad K mg (r2 (rInA K false)) oIn := fun F H vs ds d Q e b hd k => by
  unfold oIn at hd
  split at hd
  · rename_i x y
    obtain ⟨u, v, rfl, bx, bv⟩ := bva2 b
    cases h : inD x y with
    | none => rw [h] at hd; cases hd
    | some r => rw [h] at hd; cases hd; exact ⟨u, v, rfl, inD_ok e bx bv h (k _ _ _ (Ext.refl e) (by rw [Bool.false_xor]; exact .bl r))⟩
  · cases hd
theorem ad_notIn : Ad K mg (r2 (rInA K true)) oNotIn := fun F H vs ds d Q e b hd k => by
  unfold oNotIn at hd
  split at hd
  · rename_i x y
    obtain ⟨u, v, rfl, bx, bv⟩ := bva2 b
    cases h : inD x y with
    | none => rw [h] at hd; cases hd
    | some r => rw [h] at hd; cases hd; exact ⟨u, v, rfl, inD_ok e bx bv h (k _ _ _ (Ext.refl e) (by rw [Bool.true_xor]; exact .bl (!r)))⟩
  · cases hd

/-! ### built-in calls -/
def rLenA (K : Fr) : List V → Hp → VK → Prop := fun xs H Q => (∃ p ys, xs = [.ref p] ∧ (SqL K H p ys ∨ SqT K H p ys) ∧ Q (.int ys.length) H) ∨ ∃ z, xs = [.str z] ∧ z.length ≤ sizeLine ∧ Q (.int z.length) H
theorem call_lenA {X : Cx} : CallR X (.builtin "len") (rLenA X.K) := callr_or call_len_seq call_len_str
def oLen : List D → Option D
  | [.list ds] => some (.int ds.length)
  | [.tuple ds] => some (.int ds.length)
  | [.str z] => if z.length ≤ sizeLine then some (.int z.length) else none
  | _ => none
theorem ad_len : Ad K mg (rLenA K) oLen := fun F H vs ds d Q e b hd k => by
  unfold oLen at hd
  split at hd
  · cases hd
    obtain ⟨x, rfl, bx⟩ := bva1 b
    obtain ⟨a, xs, rfl, hs, ra⟩ := bx.list e
    exact .inl ⟨a, xs, rfl, .inl hs.sql, k _ _ _ (Ext.refl e) (by rw [ra.length]; exact .int _)⟩
  · cases hd
    obtain ⟨x, rfl, bx⟩ := bva1 b
    obtain ⟨a, xs, rfl, hs, _, ra⟩ := bx.tup e
    exact .inl ⟨a, xs, rfl, .inr hs, k _ _ _ (Ext.refl e) (by rw [ra.length]; exact .int _)⟩
  · rename_i z
    obtain ⟨x, rfl, bx⟩ := bva1 b
    cases bx.str
    by_cases hl : z.length ≤ sizeLine
    · rw [if_pos hl] at hd; cases hd
      exact .inr ⟨z, rfl, hl, k _ _ _ (Ext.refl e) (.int _)⟩
    · rw [if_neg hl] at hd; cases hd
  · cases hd
/-- the name of a value's type -/
def tyD : D → String
  | .none => "NoneType"
  | .bool _ => "bool"
  | .int _ => "int"
  | .str _ => "str"
  | .list _ => "list"
  | .tuple _ => "tuple"
  | .dict _ => "dict"
/-- isinstance with one built-in class T, by the table of built-in types -/
def rIsiC (K : Fr) (T : String) : List V → Hp → VK → Prop := fun xs H Q => ∃ x t b, xs = [x] ∧ TyX K H x (.type t) ∧ kitB t T = some b ∧ Q (.bl b) H
def oIsi (T : String) : List D → Option D
  | [.dict _] => none
  | [x] => (kitB (tyD x) T).map .bool
  | _ => none
theorem Bv.ty (e : Same F H) {v : V} {d : D} (b : Bv K mg F H v d) (hn : ∀ kvs, d ≠ .dict kvs) : TyX K H v (.type (tyD d)) := by
  have seqL : ∀ {a : Addr} {xs : List V}, SqL K H a xs → TyX K H (.ref a) (.type "list") := fun {a xs} h => by
    rcases h with (h | ⟨o, h⟩) | ⟨o, _, _, h1, h2, _⟩
    · exact .base (.lst h)
    · exact .base (.frz h)
    · exact .kList h1 h2
  have seqT : ∀ {a : Addr} {xs : List V}, SqT K H a xs → TyX K H (.ref a) (.type "tuple") := fun {a xs} h => by
    rcases h with (h | ⟨o, h⟩) | ⟨o, _, _, h1, h2, _⟩
    · exact .base (.tup h)
    · exact .fTuple h
    · exact .kTuple h1 h2
  rcases b with r | ⟨a, xs, ds, e1, e2, e3, _⟩
  · cases r with
    | non => exact .base .non
    | bl b => exact .base (.bl b)
    | int i => exact .base (.int i)
    | str x => exact .base (.str x)
    | lst h _ => exact seqL (h.mono e).sql
    | tup h _ => exact seqT (sqT_same e h.t)
    | dct _ _ => exact absurd rfl (hn _)
    | obj _ _ _ => exact absurd rfl (hn _)
    | exc _ _ _ _ => exact absurd rfl (hn _)
  · subst e1 e2; exact .base (.lst e3)
end
end Mr

namespace Mr
open PySem PySem.Spec PyProof.Rows L2

section
variable {K : Fr} {mg : Mg} {F H : Hp}
/-! ### isinstance with one built-in class -/
def oIsK (f : D → Bool) : List D → Option D
  | [.dict _] => none
  | [x] => some (.bool (f x))
  | _ => none
def isStr : D → Bool
  | .str _ => true
  | _ => false
def isInt : D → Bool
  | .int _ => true
  | .bool _ => true
  | _ => false
def isBool : D → Bool
  | .bool _ => true
  | _ => false
def isTup : D → Bool
  | .tuple _ => true
  | _ => false
def isLst : D → Bool
  | .list _ => true
  | _ => false
def kitAll (T : String) (f : D → Bool) : Prop := kitB "NoneType" T = some (f .none) ∧ (∀ b, kitB "bool" T = some (f (.bool b))) ∧ (∀ i, kitB "int" T = some (f (.int i))) ∧ (∀ x, kitB "str" T = some (f (.str x))) ∧ (∀ x, kitB "list" T = some (f (.list x))) ∧ ∀ x, kitB "tuple" T = some (f (.tuple x))
theorem kit_str : kitAll "str" isStr := by
  refine ⟨?_, fun _ => ?_, fun _ => ?_, fun _ => ?_, fun _ => ?_, fun _ => ?_⟩ <;> (simp only [isStr]; decide +kernel)
theorem kit_int : kitAll "int" isInt := by
  refine ⟨?_, fun _ => ?_, fun _ => ?_, fun _ => ?_, fun _ => ?_, fun _ => ?_⟩ <;> (simp only [isInt]; decide +kernel)
theorem kit_bool : kitAll "bool" isBool := by
  refine ⟨?_, fun _ => ?_, fun _ => ?_, fun _ => ?_, fun _ => ?_, fun _ => ?_⟩ <;> (simp only [isBool]; decide +kernel)
theorem kit_tup : kitAll "tuple" isTup := by
  refine ⟨?_, fun _ => ?_, fun _ => ?_, fun _ => ?_, fun _ => ?_, fun _ => ?_⟩ <;> (simp only [isTup]; decide +kernel)
theorem kit_lst : kitAll "list" isLst := by
  refine ⟨?_, fun _ => ?_, fun _ => ?_, fun _ => ?_, fun _ => ?_, fun _ => ?_⟩ <;> (simp only [isLst]; decide +kernel)
theorem kit_of_all {T : String} {f : D → Bool} (h : kitAll T f) {d : D} (hn : ∀ kvs, d ≠ .dict kvs) : kitB (tyD d) T = some (f d) := by
  obtain ⟨h1, h2, h3, h4, h5, h6⟩ := h
  cases d with
  | none => exact h1
  | bool b => exact h2 b
  | int i => exact h3 i
  | str x => exact h4 x
  | list x => exact h5 x
  | tuple x => exact h6 x
  | dict kvs => exact absurd rfl (hn kvs)
section
variable {X : Cx} {g : Gh} {W : WX} {ms : List Md} {e : Expr} {es : List Expr} {A B C : Opd} {pos p p2 : Pos}
/-- isinstance(e, T) -/
theorem le_isi {T : Str} {TS : String} {f : D → Bool} (hk : g.K = X.K) (h : kitAll TS f) (ha : PE X e (LP g W ms A)) (hT : PE X (.Name T p2) (tC (.ty TS))) (hm : X.mg "isinstance" = none) (hg : Gl X "isinstance" := by rfl)
    (he : starEach [e, .Name T p2] X.env = (false, eval e X.env) :: starEach [.Name T p2] X.env := by rfl) (he2 : starEach [.Name T p2] X.env = (false, eval (.Name T p2) X.env) :: starEach [] X.env := by rfl) (hpl : (backTo pos (starEach [.Name T p2] X.env)).any (·.1) = false := by rfl) :
    PE X (.Call (.Name "isinstance" p) [e, .Name T p2] [] pos) (LE g W ms (mApp (oIsK f) [A])) :=
  pe_imp (pe_callB call_isi hg hm (by decide +kernel) (pa_cons ha (pa_cons hT pa_nil he2) he) (by decide) (by decide) he hpl) fun σ H Q ⟨F, ρ, R, q⟩ => by
    refine ⟨F, ρ, R, ?_⟩
    simp only [mApp, evs, AR.bind] at q
    cases h1 : evO A ρ with
    | bad => simp only [h1] at q; exact q
    | exn x ρ' => simp only [h1] at q; exact q
    | ok p ρ1 =>
      simp only [h1] at q
      intro v F1 H1 s1 R1 p1
      unfold appK at q
      simp only [resA] at q
      cases h2 : res ρ1 p with
      | none => simp only [h2] at q; exact q.elim
      | some d =>
        simp only [h2] at q
        have bv := p1.bv R1 h2
        have hn : ∀ kvs, d ≠ .dict kvs := fun kvs z => by subst z; simp [oIsK] at q; exact q.elim
        have ho : oIsK f [d] = some (.bool (f d)) := by cases d <;> first | rfl | exact absurd rfl (hn _)
        rw [ho] at q
        refine ⟨v, .ty TS, _, .type TS, f d, rfl, .ty _, by rw [← hk]; exact bv.ty R1.sub hn, kit_ty (kit_of_all h hn), q _ F1 H1 s1 R1 (.bl _)⟩
end

/-! ### more built-in calls -/
def oInt : List D → Option D
  | [.int i] => some (.int i)
  | [.bool b] => some (.int (if b then 1 else 0))
  | _ => none
theorem ad_int : Ad K mg (fun xs H Q => (∃ i, xs = [.int i] ∧ Q (.int i) H) ∨ ∃ k, xs = [.bl k] ∧ Q (.int (if k then 1 else 0)) H) oInt := fun F H vs ds d Q e b hd k => by
  unfold oInt at hd
  split at hd
  · cases hd
    obtain ⟨x, rfl, bx⟩ := bva1 b
    cases bx.int
    exact .inl ⟨_, rfl, k _ _ _ (Ext.refl e) (.int _)⟩
  · cases hd
    obtain ⟨x, rfl, bx⟩ := bva1 b
    cases bx.bool
    exact .inr ⟨_, rfl, k _ _ _ (Ext.refl e) (.int _)⟩
  · cases hd
def oMax2 : List D → Option D
  | [.int i, .int j] => some (.int (if j > i then j else i))
  | _ => none
theorem ad_max2 : Ad K mg (fun xs H Q => ∃ i j, xs = [.int i, .int j] ∧ Q (.int (if j > i then j else i)) H) oMax2 := fun F H vs ds d Q e b hd k => by
  unfold oMax2 at hd
  split at hd
  · cases hd
    obtain ⟨x, y, rfl, bx, bv⟩ := bva2 b
    cases bx.int; cases bv.int
    exact ⟨_, _, rfl, k _ _ _ (Ext.refl e) (.int _)⟩
  · cases hd
def oMin2 : List D → Option D
  | [.int i, .int j] => some (.int (if j < i then j else i))
  | _ => none
theorem ad_min2 : Ad K mg (fun xs H Q => ∃ i j, xs = [.int i, .int j] ∧ Q (.int (if j < i then j else i)) H) oMin2 := fun F H vs ds d Q e b hd k => by
  unfold oMin2 at hd
  split at hd
  · cases hd
    obtain ⟨x, y, rfl, bx, bv⟩ := bva2 b
    cases bx.int; cases bv.int
    exact ⟨_, _, rfl, k _ _ _ (Ext.refl e) (.int _)⟩
  · cases hd
def oAbs : List D → Option D
  | [.int i] => some (.int (if i < 0 then -i else i))
  | _ => none
theorem ad_abs : Ad K mg (fun xs H Q => ∃ i, xs = [.int i] ∧ Q (.int (if i < 0 then -i else i)) H) oAbs := fun F H vs ds d Q e b hd k => by
  unfold oAbs at hd
  split at hd
  · cases hd
    obtain ⟨x, rfl, bx⟩ := bva1 b
    cases bx.int
    exact ⟨_, rfl, k _ _ _ (Ext.refl e) (.int _)⟩
  · cases hd
def oTuple : List D → Option D
  | [.list ds] => some (.tuple ds)
  | [.tuple ds] => some (.tuple ds)
  | _ => none
theorem ad_tuple : Ad K mg (rTupF K) oTuple := fun F H vs ds d Q e b hd k => by
  unfold oTuple at hd
  split at hd
  · cases hd
    obtain ⟨x, rfl, bx⟩ := bva1 b
    obtain ⟨a, xs, rfl, hs, ra⟩ := bx.list e
    refine ⟨a, xs, rfl, .inl ⟨hs.sql, fun l o hl hc hdd => ?_⟩⟩
    have x := Ext.frz (o := .frz o (.tup xs)) e hl
    exact k _ _ _ x (.tup (.inl ⟨o, upd_same, hc, hdd⟩) (ra.mono x.f))
  · cases hd
    obtain ⟨x, rfl, bx⟩ := bva1 b
    obtain ⟨a, xs, rfl, hs, hs', ra⟩ := bx.tup e
    exact ⟨a, xs, rfl, .inr ⟨hs, k _ _ _ (Ext.refl e) (.tup hs' ra)⟩⟩
  · cases hd
def oList : List D → Option D
  | [.list ds] => some (.list ds)
  | [.tuple ds] => some (.list ds)
  | _ => none
theorem ado_list : AdO K mg (fun xs H Q => ∃ p ys, xs = [.ref p] ∧ (SqL K H p ys ∨ SqT K H p ys) ∧ ∀ l, H l = none → Q (.ref l) (upd H l (.lst ys))) oList := fun F H vs ds d Q e b hd k => by
  unfold oList at hd
  split at hd
  · cases hd
    obtain ⟨x, rfl, bx⟩ := bva1 b
    obtain ⟨a, xs, rfl, hs, ra⟩ := bx.list e
    exact ⟨a, xs, rfl, .inl hs.sql, fun l hl => k l xs F H (Ext.refl e) hl ⟨_, _, rfl, rfl, upd_same, ra⟩⟩
  · cases hd
    obtain ⟨x, rfl, bx⟩ := bva1 b
    obtain ⟨a, xs, rfl, hs, _, ra⟩ := bx.tup e
    exact ⟨a, xs, rfl, .inr hs, fun l hl => k l xs F H (Ext.refl e) hl ⟨_, _, rfl, rfl, upd_same, ra⟩⟩
  · cases hd
def allBool : List D → Option (List Bool)
  | [] => some []
  | .bool b :: ds => (allBool ds).map (b :: ·)
  | _ => none
theorem allBool_ok : ∀ {ds : List D} {bs : List Bool} {xs : List V}, allBool ds = some bs → RpA K mg F xs ds → xs = bs.map V.bl
  | [], bs, xs, h, r => by cases h; cases r; rfl
  | d :: ds, bs, xs, h, r => by
    cases d with
    | bool b =>
      simp only [allBool] at h
      cases q : allBool ds with
      | none => rw [q] at h; cases h
      | some bs' =>
        rw [q] at h; cases h
        cases r with
        | cons r t => cases r; rw [allBool_ok q t]; rfl
    | _ => simp [allBool] at h
def oAll : List D → Option D
  | [.list ds] => (allBool ds).map fun bs => .bool (bs.all id)
  | _ => none
theorem ad_all : Ad K mg (rAll K) oAll := fun F H vs ds d Q e b hd k => by
  unfold oAll at hd
  split at hd
  · rename_i ds
    cases q : allBool ds with
    | none => rw [q] at hd; cases hd
    | some bs =>
      rw [q] at hd; cases hd
      obtain ⟨x, rfl, bx⟩ := bva1 b
      obtain ⟨a, xs, rfl, hs, ra⟩ := bx.list e
      exact ⟨a, bs, rfl, by rw [← allBool_ok q ra]; exact hs.sql, k _ _ _ (Ext.refl e) (.bl _)⟩
  · cases hd
def oAny : List D → Option D
  | [.list ds] => (allBool ds).map fun bs => .bool (bs.any id)
  | _ => none
theorem ad_any : Ad K mg (rAny K) oAny := fun F H vs ds d Q e b hd k => by
  unfold oAny at hd
  split at hd
  · rename_i ds
    cases q : allBool ds with
    | none => rw [q] at hd; cases hd
    | some bs =>
      rw [q] at hd; cases hd
      obtain ⟨x, rfl, bx⟩ := bva1 b
      obtain ⟨a, xs, rfl, hs, ra⟩ := bx.list e
      exact ⟨a, bs, rfl, by rw [← allBool_ok q ra]; exact hs.sql, k _ _ _ (Ext.refl e) (.bl _)⟩
  · cases hd
def allInt : List D → Option (List Int)
  | [] => some []
  | .int b :: ds => (allInt ds).map (b :: ·)
  | _ => none
theorem allInt_ok : ∀ {ds : List D} {bs : List Int} {xs : List V}, allInt ds = some bs → RpA K mg F xs ds → xs = bs.map V.int
  | [], bs, xs, h, r => by cases h; cases r; rfl
  | d :: ds, bs, xs, h, r => by
    cases d with
    | int b =>
      simp only [allInt] at h
      cases q : allInt ds with
      | none => rw [q] at h; cases h
      | some bs' =>
        rw [q] at h; cases h
        cases r with
        | cons r t => cases r; rw [allInt_ok q t]; rfl
    | _ => simp [allInt] at h
def oSum : List D → Option D
  | [.list ds] => (allInt ds).map fun bs => .int bs.sum
  | _ => none
theorem ad_sum : Ad K mg (rSum K) oSum := fun F H vs ds d Q e b hd k => by
  unfold oSum at hd
  split at hd
  · rename_i ds
    cases q : allInt ds with
    | none => rw [q] at hd; cases hd
    | some bs =>
      rw [q] at hd; cases hd
      obtain ⟨x, rfl, bx⟩ := bva1 b
      obtain ⟨a, xs, rfl, hs, ra⟩ := bx.list e
      exact ⟨a, bs, rfl, by rw [← allInt_ok q ra]; exact hs.sql, k _ _ _ (Ext.refl e) (.int _)⟩
  · cases hd
/-! ### repr -/
def rRepr (K : Fr) : List V → Hp → VK → Prop := fun xs H Q => ∃ x d, xs = [x] ∧ Dp K H x d ∧ PyData.showable d = true ∧ SeqAt.shaped d = true ∧ d.shown.length ≤ sizeLine ∧ Q (.str d.shown) H
theorem call_repr {X : Cx} (hg : X.A.guards = some []) (hu : X.A.units + 66 < cLine) : CallR X (.builtin "repr") (rRepr X.K) := by
  intro pins s σ H xs us Q I r h
  obtain ⟨x, d, rfl, hd, hs, hsh, hz, q⟩ := h
  obtain ⟨u, rfl, rx⟩ := vals1 r
  have fin : ∀ (h' : Heap) (t : Tok) (tk : Nat), (∀ b o, s.heap.get? b = some o → h'.get? b = some o) → EP X pins σ Q (.str d.shown t) { s with heap := h', toks := tk } := fun h' t tk hk => ⟨.str _, H, I.kept hk, ⟨_, rfl⟩, q⟩
  cases hd with
  | non => cases (show u = Value.none from rx); exact PySem.P.repr_of_none (fin s.heap _ _ fun _ _ e => e)
  | bl b => cases (show u = Value.bool b from rx); exact PySem.P.repr_of_bool (fin s.heap _ _ fun _ _ e => e)
  | int i => obtain ⟨t, rfl⟩ := (show ∃ t, u = Value.int i t from rx); exact PySem.P.repr_of_int (of_decide_eq_true hs) (fin s.heap _ _ fun _ _ e => e)
  | str z => obtain ⟨t, rfl⟩ := (show ∃ t, u = Value.str z t from rx); exact PySem.P.repr_of_str (fin s.heap _ _ fun _ _ e => e) hz
  | @lst a xs ds hl ha =>
    cases (show u = Value.ref a from rx)
    obtain ⟨as, rd⟩ := Dp.reads I _ _ _ (.lst hl ha) rx
    have hcl := SeqAt.canLay_of_shaped hsh
    have hdep : (PyData.list ds).depth ≤ 64 := by have := hsh; unfold SeqAt.shaped at this; simp only [Bool.and_eq_true, decide_eq_true_eq] at this; exact this.2
    exact repr_of_reads' rd hs (fun z => by rw [PyData.hasDict_of_canLay _ hcl] at z; cases z) hg (by omega) (fun _ _ e => e) (fun h' u tk hk => fin h' u tk hk) hz
  | @tup a xs ds hl ha =>
    cases (show u = Value.ref a from rx)
    obtain ⟨as, rd⟩ := Dp.reads I _ _ _ (.tup hl ha) rx
    have hcl := SeqAt.canLay_of_shaped hsh
    have hdep : (PyData.tuple ds).depth ≤ 64 := by have := hsh; unfold SeqAt.shaped at this; simp only [Bool.and_eq_true, decide_eq_true_eq] at this; exact this.2
    exact repr_of_reads' rd hs (fun z => by rw [PyData.hasDict_of_canLay _ hcl] at z; cases z) hg (by omega) (fun _ _ e => e) (fun h' u tk hk => fin h' u tk hk) hz
def oRepr : List D → Option D
  | [d] => if cmpB d && PyData.showable d && decide (d.shown.length ≤ sizeLine) then some (.str d.shown) else none
  | _ => none
theorem ad_repr : Ad K mg (rRepr K) oRepr := fun F H vs ds d Q e b hd k => by
  unfold oRepr at hd
  split at hd
  · rename_i d
    split at hd
    · rename_i hc
      cases hd
      simp only [cmpB, Bool.and_eq_true, decide_eq_true_eq] at hc
      obtain ⟨x, rfl, bx⟩ := bva1 b
      exact ⟨x, d, rfl, bx.dp e hc.1.1.1, hc.1.2, hc.1.1.2, hc.2, k _ _ _ (Ext.refl e) (.str _)⟩
    · cases hd
  · cases hd

/-! ### items and slices -/
def oIx : List D → Option D
  | [.list ds, .int i] => atI ds i
  | [.tuple ds, .int i] => atI ds i
  | [.str z, .int i] => if z.length ≤ sizeLine then (atI z.cps.toList i).map fun c => .str ⟨#[c]⟩ else none
  | _ => none
theorem atI_rp {xs : List V} {ds : List D} {i : Int} {d : D} (ra : RpA K mg F xs ds) (h : atI ds i = some d) : ∃ v, atI xs i = some v ∧ Rp K mg F v d := by
  unfold atI at h ⊢
  rw [ra.length]
  cases q : ixN ds.length i with
  | none => rw [q] at h; cases h
  | some j =>
    rw [q] at h
    exact ra.get h
theorem ad_ix : Ad K mg (r2 (rIx K)) oIx := fun F H vs ds d Q e b hd k => by
  unfold oIx at hd
  split at hd
  · obtain ⟨x, y, rfl, bx, bv⟩ := bva2 b
    cases bv.int
    obtain ⟨a, xs, rfl, hs, ra⟩ := bx.list e
    obtain ⟨v, h1, h2⟩ := atI_rp ra hd
    exact ⟨_, _, rfl, .inl ⟨a, xs, _, v, rfl, rfl, hs.sql, h1, k _ _ _ (Ext.refl e) h2⟩⟩
  · obtain ⟨x, y, rfl, bx, bv⟩ := bva2 b
    cases bv.int
    obtain ⟨a, xs, rfl, hs, _, ra⟩ := bx.tup e
    obtain ⟨v, h1, h2⟩ := atI_rp ra hd
    exact ⟨_, _, rfl, .inr (.inl ⟨a, xs, _, v, rfl, rfl, hs, h1, k _ _ _ (Ext.refl e) h2⟩)⟩
  · rename_i z i
    obtain ⟨x, y, rfl, bx, bv⟩ := bva2 b
    cases bv.int; cases bx.str
    by_cases hl : z.length ≤ sizeLine
    · rw [if_pos hl] at hd
      cases q : atI z.cps.toList i with
      | none => rw [q] at hd; cases hd
      | some c =>
        rw [q] at hd; cases hd
        exact ⟨_, _, rfl, .inr (.inr ⟨z, i, c, rfl, rfl, hl, q, k _ _ _ (Ext.refl e) (.str _)⟩)⟩
    · rw [if_neg hl] at hd; cases hd
  · cases hd
/-- the part of a list from lo to hi -/
def cutD (xs : List D) (lo hi : Option Int) : List D := (xs.drop (HT.sIx xs.length 0 lo)).take (HT.sIx xs.length xs.length hi - HT.sIx xs.length 0 lo)
theorem cutD_rp {xs : List V} {ds : List D} (ra : RpA K mg F xs ds) (lo hi : Option Int) : RpA K mg F (cutV xs lo hi) (cutD ds lo hi) := by
  unfold cutV cutD
  rw [ra.length]
  exact (ra.drop _).take _
theorem cutD_whole {ds : List D} {lo hi : Option Int} (h : HT.sIx ds.length 0 lo = 0 ∧ HT.sIx ds.length ds.length hi = ds.length) : cutD ds lo hi = ds := by
  unfold cutD
  rw [h.1, h.2]
  simp
def slD (d : D) (lo hi : Option Int) : Option D := match d with
  | .list ds => some (.list (cutD ds lo hi))
  | .tuple ds => some (.tuple (cutD ds lo hi))
  | .str z => if z.length ≤ sizeLine then some (.str (cutS z lo hi)) else none
  | _ => none
def rSl (K : Fr) : V → Option Int → Option Int → Hp → VK → Prop := fun x lo hi H Q => (rSlL K x lo hi H Q ∨ rCutF K x lo hi H Q) ∨ rSlS x lo hi H Q
theorem sl_any {X : Cx} : SlR X (rSl X.K) := (sl_list.or sl_tupF).or sl_str
theorem slD_ok (e : Same F H) {x : D} {u : V} {lo hi : Option Int} {d : D} {Q : VK} (bx : Bv K mg F H u x) (h : slD x lo hi = some d) (k : ∀ v F' H', Ext F H F' H' → Rp K mg F' v d → Q v H') : rSl K u lo hi H Q := by
  unfold slD at h
  split at h
  · cases h
    obtain ⟨a, xs, rfl, hs, ra⟩ := bx.list e
    refine .inl (.inl ⟨a, xs, rfl, hs.sql, fun p hp => ?_⟩)
    have x := Ext.frz (o := .lst (cutV xs lo hi)) e hp
    exact k _ _ _ x (.lst (.inl (.inl upd_same)) ((cutD_rp ra lo hi).mono x.f))
  · cases h
    obtain ⟨a, xs, rfl, hs, hs', ra⟩ := bx.tup e
    refine .inl (.inr ⟨a, xs, rfl, hs, fun w => ?_, fun _ p o hp hc hdd => ?_⟩)
    · rw [ra.length] at w
      exact k _ _ _ (Ext.refl e) (by rw [cutD_whole w]; exact .tup hs' ra)
    · have x := Ext.frz (o := .frz o (.tup (cutV xs lo hi))) e hp
      exact k _ _ _ x (.tup (.inl ⟨o, upd_same, hc, hdd⟩) ((cutD_rp ra lo hi).mono x.f))
  · rename_i z
    cases bx.str
    by_cases hl : z.length ≤ sizeLine
    · rw [if_pos hl] at h; cases h
      exact .inr ⟨z, rfl, hl, k _ _ _ (Ext.refl e) (.str _)⟩
    · rw [if_neg hl] at h; cases h
  · cases h
theorem slD_okO (e : Same F H) {x : D} {u : V} {lo hi : Option Int} {ds : List D} {Q : VK} (bx : Bv K mg F H u x) (h : slD x lo hi = some (.list ds)) (k : ∀ a xs, H a = none → Lv K mg F (upd H a (.lst xs)) a (.ref a) (.list ds) → Q (.ref a) (upd H a (.lst xs))) : rSl K u lo hi H Q := by
  unfold slD at h
  split at h
  · cases h
    obtain ⟨a, xs, rfl, hs, ra⟩ := bx.list e
    exact .inl (.inl ⟨a, xs, rfl, hs.sql, fun p hp => k p _ hp ⟨_, _, rfl, rfl, upd_same, cutD_rp ra lo hi⟩⟩)
  · cases h
  · split at h <;> cases h
  · cases h
end
inductive PR where
  | bad | ok (z : Option Int) (ρ : En) | exn (x : D) (ρ : En)
def partO : Option Opd → En → PR
  | none, ρ => .ok none ρ
  | some o, ρ => match evO o ρ with
    | .ok p ρ1 => (match res ρ1 p with
      | some (.int i) => .ok (some i) ρ1
      | _ => .bad)
    | .exn x ρ1 => .exn x ρ1
    | .bad => .bad
def mSl (A : Opd) (B C : Option Opd) : ME := fun ρ => match evO A ρ with
  | .ok p ρ1 => (match partO B ρ1 with
    | .ok lo ρ2 => (match partO C ρ2 with
      | .ok hi ρ3 => (match (res ρ3 p).bind fun d => slD d lo hi with
        | some d => .ok d ρ3
        | none => .bad)
      | .exn x ρ1 => .exn x ρ1
      | .bad => .bad)
    | .exn x ρ1 => .exn x ρ1
    | .bad => .bad)
  | .exn x ρ1 => .exn x ρ1
  | .bad => .bad
def mSlL (A : Opd) (B C : Option Opd) : ME := fun ρ => match mSl A B C ρ with
  | .ok (.list ds) ρ1 => .ok (.list ds) ρ1
  | .ok _ _ => .bad
  | .exn x ρ1 => .exn x ρ1
  | .bad => .bad
section
variable {X : Cx} {g : Gh} {W : WX} {ms : List Md} {e : Expr} {lo hi : Option Expr} {A : Opd} {B C : Option Opd} {pos p2 : Pos} {σ : Sg} {F F' H H' : Hp} {ρ : En} {Q : VK}
def goR (g : Gh) (W : WX) (ms : List Md) (σ : Sg) (F : Hp) (Q : Option Int → Hp → Prop) : PR → Prop
  | .bad => False
  | .ok z ρ' => ∀ F' H', Same F F' → Rel g F' ms ρ' σ H' → Q z H'
  | .exn x ρ' => ∀ c dd F' H', Same F F' → Rel g F' ms ρ' σ H' → XOk g.K g.mg F' c dd x → W c dd σ H'
def LR (g : Gh) (W : WX) (ms : List Md) (o : Option Opd) : TO := fun σ H Q => ∃ F ρ, Rel g F ms ρ σ H ∧ goR g W ms σ F Q (partO o ρ)
theorem po_imp {e : Option Expr} {t t' : TO} (h : PO X e t) (i : ∀ σ H Q, t' σ H Q → t σ H Q) : PO X e t' := ⟨fun pins s σ H Q I q => h.run pins s σ H Q I (i σ H Q q)⟩
theorem lr_none : PO X none (LR g W ms none) := po_imp po_none fun σ H Q ⟨F, ρ, R, q⟩ => q F H (Same.refl _) R
theorem lr_some {o : Opd} (h : PE X e (LP g W ms o)) : PO X (some e) (LR g W ms (some o)) := po_imp (po_some h) fun σ H Q ⟨F, ρ, R, q⟩ => by
  refine ⟨F, ρ, R, ?_⟩
  unfold partO at q
  cases h1 : evO o ρ with
  | bad => simp only [h1] at q; exact q
  | exn x ρ' => simp only [h1] at q; exact q
  | ok p ρ1 =>
    simp only [h1] at q
    intro v F1 H1 s1 R1 p1
    cases h2 : res ρ1 p with
    | none => simp only [h2] at q; exact q.elim
    | some d =>
      cases d with
      | int i =>
        simp only [h2] at q
        cases (p1.bv R1 h2).int
        exact ⟨i, rfl, q F1 H1 s1 R1⟩
      | _ => simp only [h2] at q; exact q.elim
theorem sl_imp (hk : g.K = X.K) : ∀ σ H Q, LE g W ms (mSl A B C) σ H Q → tSl (rSl X.K) (LP g W ms A) (LR g W ms B) (LR g W ms C) σ H Q := fun σ H Q ⟨F, ρ, R, q⟩ => by
  refine ⟨F, ρ, R, ?_⟩
  unfold mSl at q
  cases h1 : evO A ρ with
  | bad => simp only [h1] at q; exact q
  | exn x ρ' => simp only [h1] at q; exact q
  | ok pa ρ1 =>
    simp only [h1] at q
    intro v F1 H1 s1 R1 p1
    refine ⟨F1, ρ1, R1, ?_⟩
    cases h2 : partO B ρ1 with
    | bad => simp only [h2] at q; exact q
    | exn x ρ' => simp only [h2] at q; exact fun c dd F' H' s2 R' xo => q c dd F' H' (s1.trans s2) R' xo
    | ok lo ρ2 =>
      simp only [h2] at q
      intro F2 H2 s2 R2
      refine ⟨F2, ρ2, R2, ?_⟩
      cases h3 : partO C ρ2 with
      | bad => simp only [h3] at q; exact q
      | exn x ρ' => simp only [h3] at q; exact fun c dd F' H' s3 R' xo => q c dd F' H' (s1.trans (s2.trans s3)) R' xo
      | ok hi ρ3 =>
        simp only [h3] at q
        intro F3 H3 s3 R3
        cases h4 : res ρ3 pa with
        | none => simp only [h4, Option.bind_none] at q; exact q.elim
        | some d =>
          simp only [h4, Option.bind_some] at q
          cases h5 : slD d lo hi with
          | none => simp only [h5] at q; exact q.elim
          | some d' =>
            simp only [h5] at q
            rw [← hk]
            exact slD_ok R3.sub ((p1.mono (s2.trans s3)).bv R3 h4) h5 fun v F' H' x r => q v F' H' (s1.trans (s2.trans (s3.trans x.f))) (R3.ext x) r
theorem sl_impO (hk : g.K = X.K) : ∀ σ H Q, LO g W ms (mSlL A B C) σ H Q → tSl (rSl X.K) (LP g W ms A) (LR g W ms B) (LR g W ms C) σ H Q := fun σ H Q ⟨F, ρ, R, q⟩ => by
  refine ⟨F, ρ, R, ?_⟩
  unfold mSlL mSl at q
  cases h1 : evO A ρ with
  | bad => simp only [h1] at q; exact q
  | exn x ρ' => simp only [h1] at q; exact q
  | ok pa ρ1 =>
    simp only [h1] at q
    intro v F1 H1 s1 R1 p1
    refine ⟨F1, ρ1, R1, ?_⟩
    cases h2 : partO B ρ1 with
    | bad => simp only [h2] at q; exact q
    | exn x ρ' => simp only [h2] at q; exact fun c dd F' H' s2 R' xo => q c dd F' H' (s1.trans s2) R' xo
    | ok lo ρ2 =>
      simp only [h2] at q
      intro F2 H2 s2 R2
      refine ⟨F2, ρ2, R2, ?_⟩
      cases h3 : partO C ρ2 with
      | bad => simp only [h3] at q; exact q
      | exn x ρ' => simp only [h3] at q; exact fun c dd F' H' s3 R' xo => q c dd F' H' (s1.trans (s2.trans s3)) R' xo
      | ok hi ρ3 =>
        simp only [h3] at q
        intro F3 H3 s3 R3
        cases h4 : res ρ3 pa with
        | none => simp only [h4, Option.bind_none] at q; exact q.elim
        | some d =>
          simp only [h4, Option.bind_some] at q
          have bv := (p1.mono (s2.trans s3)).bv R3 h4
          cases d with
          | list ds =>
            simp only [slD] at q
            rw [← hk]
            exact slD_okO R3.sub bv rfl fun a xs ha hl => q a F3 _ (s1.trans (s2.trans s3)) (R3.ext (Ext.new R3.sub ha)) hl (R3.free ha)
          | tuple ds => simp only [slD] at q; exact q.elim
          | str z => by_cases hz : z.length ≤ sizeLine <;> simp only [slD, hz, if_true, if_false] at q <;> exact q.elim
          | _ => simp only [slD] at q; exact q.elim
theorem le_sl (hk : g.K = X.K) (ha : PE X e (LP g W ms A)) (hb : PO X lo (LR g W ms B)) (hc : PO X hi (LR g W ms C)) : PE X (.Subscript e (.Slice lo hi none p2) pos) (LE g W ms (mSl A B C)) := pe_imp (pe_slice sl_any ha hb hc) (sl_imp hk)
theorem lo_sl (hk : g.K = X.K) (ha : PE X e (LP g W ms A)) (hb : PO X lo (LR g W ms B)) (hc : PO X hi (LR g W ms C)) : PE X (.Subscript e (.Slice lo hi none p2) pos) (LO g W ms (mSlL A B C)) := pe_imp (pe_slice sl_any ha hb hc) (sl_impO hk)
end
end Mr

namespace Mr
open PySem PySem.Spec PyProof.Rows L2
section
variable {K : Fr} {mg : Mg} {F H : Hp}
/-! ### methods that write -/
def uAppend (es ds : List D) : Option (List D × D) := match ds with
  | [d] => if es.length < sizeLine then some (es ++ [d], .none) else none
  | _ => none
/-- what is put into a list must be frozen: the operand is a value -/
def MutAdV (K : Fr) (mg : Mg) (r : V → List V → Hp → VK → Prop) (f : List D → List D → Option (List D × D)) : Prop := ∀ (F H : Hp) (a : Addr) (xs : List V) (vs : List V) (ds es es' : List D) (d : D) (Q : VK), Same F H → H a = some (.lst xs) → RpA K mg F xs es → RpA K mg F vs ds → f es ds = some (es', d) →
  (∀ v xs', RpA K mg F xs' es' → Rp K mg F v d → Q v (upd H a (.lst xs'))) → r (.ref a) vs H Q
theorem mu_append : MutAdV K mg rAppend uAppend := fun F H a xs vs ds es es' d Q e ha rx rv hf k => by
  unfold uAppend at hf
  split at hf
  · rename_i d0
    by_cases hl : es.length < sizeLine
    · rw [if_pos hl] at hf
      cases hf
      cases rv with
      | cons r t =>
        cases t
        exact ⟨a, xs, _, rfl, rfl, ha, by rw [rx.length]; exact hl, k _ _ (rx.append (.cons r .nil)) .non⟩
    · rw [if_neg hl] at hf; cases hf
  · cases hf
def uPop (es ds : List D) : Option (List D × D) := match ds with
  | [] => (es[es.length - 1]?).map fun d => (es.dropLast, d)
  | _ => none
theorem RpA.dropLast {xs : List V} {ds : List D} (h : RpA K mg F xs ds) : RpA K mg F xs.dropLast ds.dropLast := by
  rw [List.dropLast_eq_take, List.dropLast_eq_take, h.length]
  exact h.take _
theorem mu_pop : MutAdV K mg rPop uPop := fun F H a xs vs ds es es' d Q e ha rx rv hf k => by
  unfold uPop at hf
  split at hf
  · cases q : es[es.length - 1]? with
    | none => rw [q] at hf; cases hf
    | some d0 =>
      rw [q] at hf; cases hf
      cases rv
      obtain ⟨v, h1, h2⟩ := rx.get q
      exact ⟨a, xs, v, rfl, rfl, ha, by rw [rx.length]; exact h1, k _ _ rx.dropLast h2⟩
  · cases hf
theorem RpA.eraseIdx {xs : List V} {ds : List D} : ∀ (i : Nat), RpA K mg F xs ds → RpA K mg F (xs.eraseIdx i) (ds.eraseIdx i) := by
  intro i h
  rw [List.eraseIdx_eq_take_drop_succ, List.eraseIdx_eq_take_drop_succ]
  exact (h.take _).append (h.drop _)
def uPopAt (es ds : List D) : Option (List D × D) := match ds with
  | [.int i] => if decide (-(2 ^ 63) ≤ i) && decide (i < 2 ^ 63) then (match seqIndex? i es.length with
      | some k => (es[k]?).map fun d => (es.eraseIdx k, d)
      | none => none) else none
  | _ => none
theorem mu_popAt : MutAdV K mg rPopAt uPopAt := fun F H a xs vs ds es es' d Q e ha rx rv hf k => by
  unfold uPopAt at hf
  split at hf
  · rename_i i
    split at hf
    · rename_i hc
      simp only [Bool.and_eq_true, decide_eq_true_eq] at hc
      split at hf
      · rename_i j hj
        cases q : es[j]? with
        | none => rw [q] at hf; cases hf
        | some d0 =>
          rw [q] at hf; cases hf
          cases rv with
          | cons r t =>
            cases t; cases r
            obtain ⟨v, h1, h2⟩ := rx.get q
            exact ⟨a, xs, i, j, v, rfl, rfl, ha, hc.1, hc.2, by rw [rx.length]; exact hj, h1, k _ _ (rx.eraseIdx j) h2⟩
      · cases hf
    · cases hf
  · cases hf
def rInsert : V → List V → Hp → VK → Prop := fun x vs H Q => ∃ (l : Addr) (xs : List V) (i : Int) (y : V), x = .ref l ∧ vs = [.int i, y] ∧ H l = some (.lst xs) ∧ xs.length < sizeLine ∧ 0 ≤ i ∧ i < 2 ^ 63 ∧ Q .non (upd H l (.lst (xs.take i.toNat ++ [y] ++ xs.drop i.toNat)))
def uInsert (es ds : List D) : Option (List D × D) := match ds with
  | [.int i, d] => if decide (es.length < sizeLine) && decide (0 ≤ i) && decide (i < 2 ^ 63) then some (es.take i.toNat ++ [d] ++ es.drop i.toNat, .none) else none
  | _ => none
theorem mu_insert : MutAdV K mg rInsert uInsert := fun F H a xs vs ds es es' d Q e ha rx rv hf k => by
  unfold uInsert at hf
  split at hf
  · rename_i i d0
    split at hf
    · rename_i hc
      simp only [Bool.and_eq_true, decide_eq_true_eq] at hc
      cases hf
      cases rv with
      | cons r t =>
        cases t with
        | cons r2 t =>
          cases t; cases r
          exact ⟨a, xs, i, _, rfl, rfl, ha, by rw [rx.length]; exact hc.1.1, hc.1.2, hc.2, k _ _ (((rx.take _).append (.cons r2 .nil)).append (rx.drop _)) .non⟩
    · cases hf
  · cases hf
def uReverse (es ds : List D) : Option (List D × D) := match ds with
  | [] => some (es.reverse, .none)
  | _ => none
theorem mu_reverse : MutAdV K mg rReverse uReverse := fun F H a xs vs ds es es' d Q e ha rx rv hf k => by
  unfold uReverse at hf
  split at hf
  · cases hf
    cases rv
    exact ⟨a, xs, rfl, rfl, ha, k _ _ rx.reverse .non⟩
  · cases hf
end
/-! ### the rules, with operands that are values -/
def mutV (i : Nat) (f : List D → List D → Option (List D × D)) (ps : List PV) (ρ : En) : ER := match ρ[i]?, dsOf ps with
  | some (some (.list es)), some ds => (match f es ds with
    | some (es', d) => .ok d (ρ.set i (some (.list es')))
    | none => .bad)
  | _, _ => .bad
def mMutV (i : Nat) (f : List D → List D → Option (List D × D)) (os : List Opd) : ME := fun ρ => match ρ[i]? with
  | some (some _) => (evs os ρ).bind (mutV i f)
  | _ => .bad
section
variable {X : Cx} {g : Gh} {W : WX} {c : Sx} {ms ms' : List Md} {e tg : Expr} {es : List Expr} {pos : Pos} {σ : Sg} {F F' H H' : Hp} {ρ : En} {Q : VK} {m : ME} {os : List Opd}
theorem run_mutV {i : Nat} {m : Md} {r : V → List V → Hp → VK → Prop} {f : List D → List D → Option (List D × D)} (ad : MutAdV g.K g.mg r f) {ps : List PV} {vs : List V} {F0 : Hp} {v0 : V} (s0 : Same F0 F) (R : Rel g F ms ρ σ H) (hm : ms[i]? = some m) (w : wrB m = true) (hv : σ[i]? = some (some v0)) (hp : PvsOk g F ms σ vs ps)
    (q : goE g W ms σ F0 Q (mutV i f ps ρ)) : r v0 vs H Q := by
  unfold mutV at q
  cases h0 : ρ[i]? with
  | none => simp [h0] at q; exact q.elim
  | some o => cases o with
    | none => simp [h0] at q; exact q.elim
    | some d0 =>
      cases h1 : dsOf ps with
      | none => cases d0 <;> (simp only [h0, h1] at q; exact q.elim)
      | some ds =>
        obtain ⟨a, xs, es, e1, e2, e3, r1, hf⟩ := R.at_wr hm w h0
        subst e2
        rw [hv] at e1; cases e1
        simp only [h0, h1] at q
        cases h2 : f es ds with
        | none => simp only [h2] at q; exact q.elim
        | some p =>
          obtain ⟨es', d⟩ := p
          simp only [h2] at q
          exact ad F H a xs vs ds es es' d Q R.sub e3 r1 (hp.vals h1) h2 fun v xs' rx rv => q v F _ s0 (R.write hm w h0 hv rx) rv
theorem le_mutV0 {i : Nat} {m : Md} {r : V → List V → Hp → VK → Prop} {f : List D → List D → Option (List D × D)} {y : Str} {py : Pos} (hm : ms[i]? = some m) (w : wrB m = true) (ad : MutAdV g.K g.mg r f) (hx : PE X (.Name y py) (tVar i))
    (h : ∀ to : TE, PE X (.Name y py) to → PE X e (tBM0 X.K "list" r to)) : PE X e (LE g W ms (mMutV i f [])) := pe_imp (h _ hx) fun σ H Q ⟨F, ρ, R, q⟩ => by
  unfold mMutV at q
  simp only [evs, AR.bind] at q
  cases h0 : ρ[i]? with
  | none => simp [h0] at q; exact q.elim
  | some o => cases o with
    | none => simp [h0] at q; exact q.elim
    | some d0 =>
      simp only [h0] at q
      obtain ⟨a, xs, es, e1, e2, e3, r1, hf⟩ := R.at_wr hm w h0
      exact ⟨.ref a, e1, .inl ⟨rfl, _, .inl (.inl e3)⟩, run_mutV ad (Same.refl _) R hm w e1 .nil q⟩
theorem le_mutV {i : Nat} {m : Md} {r : V → List V → Hp → VK → Prop} {f : List D → List D → Option (List D × D)} {y : Str} {py : Pos} {e' : Expr} {es' : List Expr} (hm : ms[i]? = some m) (w : wrB m = true) (ad : MutAdV g.K g.mg r f) (hx : PE X (.Name y py) (tVar i)) (ha : PA X (e' :: es') (LA g W ms os))
    (h : ∀ (to : TE) (t : TA), PE X (.Name y py) to → PA X (e' :: es') t → PE X e (tBM X.K "list" r to t)) : PE X e (LE g W ms (mMutV i f os)) := pe_imp (h _ _ hx ha) fun σ H Q ⟨F, ρ, R, q⟩ => by
  unfold mMutV at q
  cases h0 : ρ[i]? with
  | none => simp [h0] at q; exact q.elim
  | some o => cases o with
    | none => simp [h0] at q; exact q.elim
    | some d0 =>
      simp only [h0] at q
      obtain ⟨a, xs, es, e1, e2, e3, r1, hf⟩ := R.at_wr hm w h0
      refine ⟨.ref a, e1, .inl ⟨rfl, _, .inl (.inl e3)⟩, F, ρ, R, ?_⟩
      unfold AR.bind at q
      cases h1 : evs os ρ with
      | bad => simp only [h1] at q; exact q
      | exn x ρ' => simp only [h1] at q; exact q
      | ok ps ρ1 =>
        simp only [h1] at q
        exact fun vs F1 H1 s1 R1 p1 => run_mutV ad s1 R1 hm w e1 p1 q
theorem le_append {i : Nat} {m : Md} {y : Str} {py apos cpos : Pos} {ea : Expr} {A : Opd} (hm : ms[i]? = some m) (w : wrB m = true) (hx : PE X (.Name y py) (tVar i)) (ha : PE X ea (LP g W ms A))
    (hs : starEach [ea] X.env = (false, eval ea X.env) :: starEach [] X.env := by rfl)
    (hbase : attributeBase (.Name y py) "append" X.env (eval (.Name y py) X.env) = eval (.Name y py) X.env := by rfl)
    (hfew : ((backTo cpos (starEach [ea] X.env)).all (fun x => !x.1) && (backToKw cpos (keywordEach [] X.env)).all (fun x => x.1.isSome)
      && decide (([ea] : List Expr).length + ([] : List Keyword).length + (if ([] : List Keyword).isEmpty then 0 else 1) < 30)) = true := by rfl)
    (hline : (apos.endLine == cpos.line) = true := by rfl) (hplain : (backTo cpos (starEach [] X.env)).any (·.1) = false := by rfl) :
    PE X (.Call (.Attribute (.Name y py) "append" apos) [ea] [] cpos) (LE g W ms (mMutV i uAppend [A])) :=
  le_mutV hm w mu_append hx (la_cons ha la_nil hs) fun to t h1 h2 => pe_bm PySem.F.plainAttrs_list PySem.F.slot_list_append PySem.F.type_list_append mt_append h1 h2 hbase hfew hline hs hplain
theorem le_popA {i : Nat} {m : Md} {y : Str} {py apos cpos : Pos} {ea : Expr} {A : Opd} (hm : ms[i]? = some m) (w : wrB m = true) (hx : PE X (.Name y py) (tVar i)) (ha : PE X ea (LP g W ms A))
    (hs : starEach [ea] X.env = (false, eval ea X.env) :: starEach [] X.env := by rfl)
    (hbase : attributeBase (.Name y py) "pop" X.env (eval (.Name y py) X.env) = eval (.Name y py) X.env := by rfl)
    (hfew : ((backTo cpos (starEach [ea] X.env)).all (fun x => !x.1) && (backToKw cpos (keywordEach [] X.env)).all (fun x => x.1.isSome)
      && decide (([ea] : List Expr).length + ([] : List Keyword).length + (if ([] : List Keyword).isEmpty then 0 else 1) < 30)) = true := by rfl)
    (hline : (apos.endLine == cpos.line) = true := by rfl) (hplain : (backTo cpos (starEach [] X.env)).any (·.1) = false := by rfl) :
    PE X (.Call (.Attribute (.Name y py) "pop" apos) [ea] [] cpos) (LE g W ms (mMutV i uPopAt [A])) :=
  le_mutV hm w mu_popAt hx (la_cons ha la_nil hs) fun to t h1 h2 => pe_bm PySem.F.plainAttrs_list PySem.F.slot_list_pop PySem.F.type_list_pop mt_popAt h1 h2 hbase hfew hline hs hplain
theorem le_pop {i : Nat} {m : Md} {y : Str} {py apos cpos : Pos} (hm : ms[i]? = some m) (w : wrB m = true) (hx : PE X (.Name y py) (tVar i))
    (hbase : attributeBase (.Name y py) "pop" X.env (eval (.Name y py) X.env) = eval (.Name y py) X.env := by rfl) (hline : (apos.endLine == cpos.line) = true := by rfl) :
    PE X (.Call (.Attribute (.Name y py) "pop" apos) [] [] cpos) (LE g W ms (mMutV i uPop [])) :=
  le_mutV0 hm w mu_pop hx fun to h1 => pe_bm0 PySem.F.plainAttrs_list PySem.F.slot_list_pop PySem.F.type_list_pop mt_pop h1 hbase hline
theorem le_reverse {i : Nat} {m : Md} {y : Str} {py apos cpos : Pos} (hm : ms[i]? = some m) (w : wrB m = true) (hx : PE X (.Name y py) (tVar i))
    (hbase : attributeBase (.Name y py) "reverse" X.env (eval (.Name y py) X.env) = eval (.Name y py) X.env := by rfl) (hline : (apos.endLine == cpos.line) = true := by rfl) :
    PE X (.Call (.Attribute (.Name y py) "reverse" apos) [] [] cpos) (LE g W ms (mMutV i uReverse [])) :=
  le_mutV0 hm w mu_reverse hx fun to h1 => pe_bm0 PySem.F.plainAttrs_list PySem.F.slot_list_reverse PySem.F.type_list_reverse mt_reverse h1 hbase hline
theorem le_insert {i : Nat} {m : Md} {y : Str} {py apos cpos : Pos} {ea eb : Expr} {A B : Opd} (hm : ms[i]? = some m) (w : wrB m = true) (hx : PE X (.Name y py) (tVar i)) (ha : PE X ea (LP g W ms A)) (hb : PE X eb (LP g W ms B))
    (hs : starEach [ea, eb] X.env = (false, eval ea X.env) :: starEach [eb] X.env := by rfl) (hs2 : starEach [eb] X.env = (false, eval eb X.env) :: starEach [] X.env := by rfl)
    (hbase : attributeBase (.Name y py) "insert" X.env (eval (.Name y py) X.env) = eval (.Name y py) X.env := by rfl)
    (hfew : ((backTo cpos (starEach [ea, eb] X.env)).all (fun x => !x.1) && (backToKw cpos (keywordEach [] X.env)).all (fun x => x.1.isSome)
      && decide (([ea, eb] : List Expr).length + ([] : List Keyword).length + (if ([] : List Keyword).isEmpty then 0 else 1) < 30)) = true := by rfl)
    (hline : (apos.endLine == cpos.line) = true := by rfl) (hplain : (backTo cpos (starEach [eb] X.env)).any (·.1) = false := by rfl) :
    PE X (.Call (.Attribute (.Name y py) "insert" apos) [ea, eb] [] cpos) (LE g W ms (mMutV i uInsert [A, B])) :=
  le_mutV hm w mu_insert hx (la_cons ha (la_cons hb la_nil hs2) hs) fun to t h1 h2 => pe_bm PySem.F.plainAttrs_list PySem.F.slot_list_insert PySem.F.type_list_insert mt_insert h1 h2 hbase hfew hline hs hplain

/-! ### an own list that an expression walks is locked meanwhile -/
theorem lock_impO {i : Nat} {t : TE} (hm : ms[i]? = some .own) (h : ∀ g' : Gh, g'.K = g.K → g'.mg = g.mg → ∀ σ H Q, LO g' W ((shl ms).set i (.lk 0)) m σ H Q → t σ H Q) (hb : ∀ σ H Q, LO g W ms m σ H Q → (∃ F ρ, Rel g F ms ρ σ H ∧ ρ[i]? ≠ some (some .none) ∧ (∀ d, ρ[i]? ≠ some (some d)) ∧ goO g W ms σ F Q (m ρ)) → t σ H Q) : ∀ σ H Q, LO g W ms m σ H Q → t σ H Q := fun σ H Q hL => by
  obtain ⟨F, ρ, R, q⟩ := id hL
  by_cases hd : ∃ d, ρ[i]? = some (some d)
  · obtain ⟨d, hd⟩ := hd
    obtain ⟨a, xs, ds, e1, e2, ra, fr, ha, Rl⟩ := R.lock hm hd
    refine h (g.lock a xs) rfl rfl σ H Q ⟨F, ρ, Rl, ?_⟩
    cases hr : m ρ with
    | bad => rw [hr] at q; exact q
    | exn x ρ' => rw [hr] at q; exact fun c dd F' H' s R' xo => q c dd F' H' s (Rel.unlock hm fr.h0 fr.pr R') xo
    | ok d' ρ' =>
      rw [hr] at q
      refine fun b F' H' s R' hl f => q b F' H' s (Rel.unlock hm fr.h0 fr.pr R') hl ⟨f.h0, f.f, fun p hp => f.pr p (List.mem_cons_of_mem _ hp), fun j m e u h1 h2 h3 f1 => ?_⟩
      by_cases hj : j = i
      · subst hj
        rw [e1] at h3
        rw [hm] at h1
        cases h3; cases h1
        have ec : V.ref a = .ref b := f1
        cases ec
        exact f.pr (_, xs) List.mem_cons_self rfl
      · exact f.slots j (sh1 m) e u (by rw [set_ne hj, List.getElem?_map, h1]; rfl) h2 h3 (Ft_sh f1)
  · exact hb σ H Q hL ⟨F, ρ, R, fun z => hd ⟨_, z⟩, fun d z => hd ⟨d, z⟩, q⟩
end
end Mr

namespace Mr
open PySem PySem.Spec PyProof.Rows L2
section
variable {X : Cx} {g : Gh} {W : WX} {c : Sx} {ms ms' msb : List Md} {e elt tg iter : Expr} {ifs : List Expr} {es : List Expr} {pos p : Pos} {σ : Sg} {F F' H H' : Hp} {ρ : En} {Q : VK} {m : ME} {os : List Opd} {scope : Scope} {own : List (Str × Nat)} {gg : TG} {t : Tg} {cnd el : ME}
/-- a comprehension over an own list -/
theorem lo_lcL {i : Nat} {x : Str} {px : Pos} (hx : PE X (.Name x px) (tVar i)) (hm : ms[i]? = some .own) (hk : g.K = X.K) (hc : X.calm = true) (hN : X.N.Nodup) (ok : BlkOk X.N X.env.scope scope own)
    (hg : ∀ (s : Shared) (H : Hp) (C : Addr) (cl : List (Str × Addr)) (fp : List Addr), GT (X.blk s H scope (compEnvC scope cl C X.env) fp) tg t (shl (killL ((shl ms).set i (.lk 0)) (own.map (·.2)))) msb gg)
    (ht : ∀ (s : Shared) (H : Hp) (C : Addr) (cl : List (Str × Addr)) (fp : List Addr) (F0 H0 : Hp) (ios : List Addr) (pr : List (Addr × List V)), PTs (X.blk s H scope (compEnvC scope cl C X.env) fp) ifs (LT ⟨g.K, g.mg, F0, H0, ios, pr⟩ W0 msb cnd))
    (he : ∀ (s : Shared) (H : Hp) (C : Addr) (cl : List (Str × Addr)) (fp : List Addr) (F0 H0 : Hp) (ios : List Addr) (pr : List (Addr × List V)), PE (X.blk s H scope (compEnvC scope cl C X.env) fp) elt (LE ⟨g.K, g.mg, F0, H0, ios, pr⟩ W0 msb el))
    (wb : wkB msb (shl (killL ((shl ms).set i (.lk 0)) (own.map (·.2)))) = true := by rfl) (hvs : (tgIx t).all (fun i => (own.map (·.2)).contains i) = true := by rfl) (hv : valB ((shl ms).set i (.lk 0)) (own.map (·.2)) = true := by rfl)
    (hs : ∀ y, foldedSetIterable (.Name x px) X.env y = pure y := by intro _; rfl) : PE X (.ListComp elt [⟨tg, .Name x px, ifs, 0⟩] scope pos) (LO g W ms (mLc (mItS i) t (own.map (·.2)) cnd el)) :=
  pe_impS (pe_lc (tt := ttL g msb cnd) (te := teL g msb el) hc hN (pi_any hx) ok (fun s H C cl fp => (hg s H C cl fp).pg) (fun s H C cl fp => ⟨fun pins s' σ H' Q I ⟨g', e1, e2, q⟩ => (by rw [← gh_eta e1 e2]; exact ht s H C cl fp _ _ _ _ : PTs (X.blk s H scope (compEnvC scope cl C X.env) fp) ifs (LT g' W0 msb cnd)).run pins s' σ H' Q I q⟩)
    (fun s H C cl fp => ⟨fun pins s' σ H' Q I ⟨g', e1, e2, q⟩ => (by rw [← gh_eta e1 e2]; exact he s H C cl fp _ _ _ _ : PE (X.blk s H scope (compEnvC scope cl C X.env) fp) elt (LE g' W0 msb el)).run pins s' σ H' Q I q⟩) hs)
  (fun s => lock_impO (i := i) hm (fun g' e1 e2 σ H Q q => by
      have tg : ttL g' msb cnd = ttL g msb cnd := by unfold ttL; rw [e1, e2]
      have te : teL g' msb el = teL g msb el := by unfold teL; rw [e1, e2]
      rw [← tg, ← te]
      exact lc_imp (X' := X.blk s (fun _ => none) scope (compEnvC scope [] 0 X.env) []) (e1.trans hk) (hg s (fun _ => none) 0 [] []) (li_slot (md := .lk 0) (e1.trans hk) (by
        have hi := (List.getElem?_eq_some_iff.mp hm).1
        exact set_eq (by simpa using hi)) rfl) wb hvs hv σ H Q q)
    (fun σ H Q _ ⟨F, ρ, R, h1, h2, q⟩ => by
      exfalso
      unfold mLc mItS mVar at q
      cases h0 : ρ[i]? with
      | none => simp [h0, iK] at q; exact q
      | some o => cases o with
        | none => simp [h0, iK] at q; exact q
        | some d => exact h2 d h0))

/-! ### range, zip -/
def intsF (lo : Int) (n : Nat) : List D := (List.range n).map fun (k : Nat) => PyData.int (lo + k)
@[irreducible] def rngK (ps : List PV) (ρ : En) : IR := match resA ρ ps with
  | some [.int j] => if decide (-(2 ^ 62) ≤ j) && decide (j < 2 ^ 62) then .ok (intsF 0 j.toNat) ρ else .bad
  | some [.int i, .int j] => if decide (-(2 ^ 62) ≤ i) && decide (i < 2 ^ 62) && decide (-(2 ^ 62) ≤ j) && decide (j < 2 ^ 62) then .ok (intsF i (j - i).toNat) ρ else .bad
  | _ => .bad
def AR.it (r : AR) (k : List PV → En → IR) : IR := match r with
  | .ok ps ρ => k ps ρ
  | .exn x ρ => .exn x ρ
  | .bad => .bad
def mRng (os : List Opd) : MI := fun ρ => (evs os ρ).it rngK
theorem walkD_rng {lo : Int} {n : Nat} : WalkD g F (Itr lo n) (intsF lo n) := by
  have hl : (intsF lo n).length = n := by unfold intsF; simp
  refine ⟨fun _ => True, YFn fun i => .int (lo + i), by rw [hl]; exact walk_range, fun _ _ _ _ _ _ _ => trivial, fun i F2 H2 v H3 hi s2 sub y => ?_⟩
  obtain ⟨e1, e2⟩ := y
  subst e1 e2
  rw [hl] at hi
  exact ⟨.int (lo + i), F2, by unfold intsF; rw [List.getElem?_map, List.getElem?_range hi]; rfl, Ext.refl sub, .int _⟩
theorem li_rng1 {o : Opd} : ∀ σ H R, LI g W ms (mRng [o]) σ H R → iRng1 (LA g W ms [o]) σ H R := fun σ H R ⟨F, ρ, r, q⟩ => by
  refine ⟨F, ρ, r, ?_⟩
  unfold mRng AR.it at q
  cases h1 : evs [o] ρ with
  | bad => simp only [h1] at q; exact q
  | exn x ρ' => simp only [h1] at q; exact q
  | ok ps ρ1 =>
    simp only [h1] at q
    intro vs F1 H1 s1 R1 p1
    unfold rngK at q
    cases h2 : resA ρ1 ps with
    | none => simp only [h2] at q; exact q.elim
    | some ds =>
      have b := p1.bva R1 h2
      simp only [h2] at q
      split at q
      · rename_i j hj
        cases hj
        obtain ⟨x, rfl, bx⟩ := bva1 b
        cases bx.int
        split at q
        · rename_i hc
          simp only [Bool.and_eq_true, decide_eq_true_eq] at hc
          exact ⟨j, rfl, hc.1, hc.2, q _ F1 H1 s1 R1 walkD_rng⟩
        · exact q.elim
      · rename_i i j hj
        cases hj
        obtain ⟨x, y, rfl, _, _⟩ := bva2 b
        -- one operand gives one value
        have hlen : ps.length = 1 := by
          simp only [evs] at h1
          cases h3 : evO o ρ with
          | bad => simp [h3] at h1
          | exn x ρ' => simp [h3] at h1
          | ok p ρ' => simp only [h3, AR.ok.injEq] at h1; rw [← h1.1]; rfl
        have := (resA_get h2).1
        simp at this
        omega
      · exact q.elim
theorem li_rng2 {o o' : Opd} : ∀ σ H R, LI g W ms (mRng [o, o']) σ H R → iRng2 (LA g W ms [o, o']) σ H R := fun σ H R ⟨F, ρ, r, q⟩ => by
  refine ⟨F, ρ, r, ?_⟩
  unfold mRng AR.it at q
  cases h1 : evs [o, o'] ρ with
  | bad => simp only [h1] at q; exact q
  | exn x ρ' => simp only [h1] at q; exact q
  | ok ps ρ1 =>
    simp only [h1] at q
    intro vs F1 H1 s1 R1 p1
    unfold rngK at q
    cases h2 : resA ρ1 ps with
    | none => simp only [h2] at q; exact q.elim
    | some ds =>
      have b := p1.bva R1 h2
      simp only [h2] at q
      split at q
      · rename_i j hj
        cases hj
        have hlen : ps.length = 2 := by
          simp only [evs] at h1
          cases h3 : evO o ρ with
          | bad => simp [h3] at h1
          | exn x ρ' => simp [h3] at h1
          | ok p ρ' =>
            cases h4 : evO o' ρ' with
            | bad => simp [h3, h4] at h1
            | exn x ρ' => simp [h3, h4] at h1
            | ok p' ρ'' => simp only [h3, h4, AR.ok.injEq] at h1; rw [← h1.1]; rfl
        have := (resA_get h2).1
        simp at this
        omega
      · rename_i i j hj
        cases hj
        obtain ⟨x, y, rfl, bx, bv⟩ := bva2 b
        cases bx.int; cases bv.int
        split at q
        · rename_i hc
          simp only [Bool.and_eq_true, decide_eq_true_eq] at hc
          exact ⟨i, j, rfl, ⟨hc.1.1.1, hc.1.1.2, hc.1.2, hc.2⟩, q _ F1 H1 s1 R1 walkD_rng⟩
        · exact q.elim
      · exact q.elim
/-! ### names of the module -/
theorem le_glob {x : Str} {v : V} {u : Value} {d : D} (hg : Gl X x) (hm : X.mg x = some u) (r : RelV v u) (rp : ∀ F, Rp g.K g.mg F v d) (hd : (x == ("__debug__" : Str)) = false := by decide) : PE X (.Name x pos) (LE g W ms (mC d)) := le_c (pe_glob hg hm r hd) rp
theorem le_globS {x z : Str} {tk : Tok} (hm : X.mg x = some (.str z tk)) (hg : Gl X x := by rfl) (hd : (x == ("__debug__" : Str)) = false := by decide) : PE X (.Name x pos) (LE g W ms (mC (.str z))) := le_glob (v := .str z) hg hm ⟨_, rfl⟩ (fun _ => .str z) hd
theorem le_globI {x : Str} {z : Int} {tk : Tok} (hm : X.mg x = some (.int z tk)) (hg : Gl X x := by rfl) (hd : (x == ("__debug__" : Str)) = false := by decide) : PE X (.Name x pos) (LE g W ms (mC (.int z))) := le_glob (v := .int z) hg hm ⟨_, rfl⟩ (fun _ => .int z) hd
/-! ### built-in calls, all in one form -/
theorem le_B {id : String} {x : Str} {r : List V → Hp → VK → Prop} {f : List D → Option D} (hc : CallR X (.builtin id) r) (ad : Ad g.K g.mg r f) (hm : X.mg x = none) (ha : PA X (e :: es) (LA g W ms os)) (hv : bootBuiltins x = some (.builtin id) := by decide +kernel) (hg : Gl X x := by rfl) (hn : x ≠ "__name__" := by decide) (hdb : (x == ("__debug__" : Str)) = false := by decide)
    (he : starEach (e :: es) X.env = (false, eval e X.env) :: starEach es X.env := by rfl) (hpl : (backTo pos (starEach es X.env)).any (·.1) = false := by rfl) : PE X (.Call (.Name x p) (e :: es) [] pos) (LE g W ms (mApp f os)) :=
  le_app (t := LA g W ms os) (fun h => pe_callB hc hg hm hv h hn hdb he hpl) ha ad
theorem le_T {T : String} {x : Str} {r : List V → Hp → VK → Prop} {f : List D → Option D} (hc : CallR X (.type T) r) (ad : Ad g.K g.mg r f) (hm : X.mg x = none) (ha : PA X (e :: es) (LA g W ms os)) (hv : bootBuiltins x = some (.type T) := by decide +kernel) (hg : Gl X x := by rfl) (hn : x ≠ "__name__" := by decide) (hdb : (x == ("__debug__" : Str)) = false := by decide)
    (he : starEach (e :: es) X.env = (false, eval e X.env) :: starEach es X.env := by rfl) (hpl : (backTo pos (starEach es X.env)).any (·.1) = false := by rfl) : PE X (.Call (.Name x p) (e :: es) [] pos) (LE g W ms (mApp f os)) :=
  le_app (t := LA g W ms os) (fun h => pe_callTy hc hg hm hv h hn hdb he hpl) ha ad
theorem lo_B {id : String} {x : Str} {r : List V → Hp → VK → Prop} {f : List D → Option D} (hc : CallR X (.builtin id) r) (ad : AdO g.K g.mg r f) (hm : X.mg x = none) (ha : PA X (e :: es) (LA g W ms os)) (hv : bootBuiltins x = some (.builtin id) := by decide +kernel) (hg : Gl X x := by rfl) (hn : x ≠ "__name__" := by decide) (hdb : (x == ("__debug__" : Str)) = false := by decide)
    (he : starEach (e :: es) X.env = (false, eval e X.env) :: starEach es X.env := by rfl) (hpl : (backTo pos (starEach es X.env)).any (·.1) = false := by rfl) : PE X (.Call (.Name x p) (e :: es) [] pos) (LO g W ms (mApp f os)) :=
  lo_app (t := LA g W ms os) (fun h => pe_callB hc hg hm hv h hn hdb he hpl) ha ad
theorem lo_T {T : String} {x : Str} {r : List V → Hp → VK → Prop} {f : List D → Option D} (hc : CallR X (.type T) r) (ad : AdO g.K g.mg r f) (hm : X.mg x = none) (ha : PA X (e :: es) (LA g W ms os)) (hv : bootBuiltins x = some (.type T) := by decide +kernel) (hg : Gl X x := by rfl) (hn : x ≠ "__name__" := by decide) (hdb : (x == ("__debug__" : Str)) = false := by decide)
    (he : starEach (e :: es) X.env = (false, eval e X.env) :: starEach es X.env := by rfl) (hpl : (backTo pos (starEach es X.env)).any (·.1) = false := by rfl) : PE X (.Call (.Name x p) (e :: es) [] pos) (LO g W ms (mApp f os)) :=
  lo_app (t := LA g W ms os) (fun h => pe_callTy hc hg hm hv h hn hdb he hpl) ha ad
end
end Mr

namespace Mr
open PySem PySem.Spec PyProof.Rows L2
section
variable {X : Cx} {g : Gh} {W : WX} {c : Sx} {ms ms1 ms' : List Md} {e : Expr} {stt : Stmt} {pos : Pos} {σ : Sg} {F F' H H' : Hp} {ρ : En} {A : Opd} {m : ME} {s1 : MS}
/-- the truth of a value of any kind -/
theorem lt_tru (hk : g.K = X.K) (ha : PE X e (LP g W ms A)) (he : ∀ whole, isTrue e X.env whole = (do let v ← whole; standAt e.pos; holding [v] (truthy v)) := by intro _; rfl) : PT X e (LT g W ms (mApp tru [A])) :=
  pt_imp (pt_truth ha he) fun σ H Q ⟨F, ρ, R, q⟩ => by
    refine ⟨F, ρ, R, ?_⟩
    simp only [mApp, evs, AR.bind] at q
    cases h1 : evO A ρ with
    | bad => simp only [h1] at q; exact q
    | exn x ρ' => simp only [h1] at q; exact q
    | ok p ρ1 =>
      simp only [h1] at q
      intro v F1 H1 s1 R1 p1
      unfold appK at q
      simp only [resA] at q
      cases h2 : res ρ1 p with
      | none => simp only [h2] at q; exact q.elim
      | some d =>
        simp only [h2] at q
        have bv := p1.bv R1 h2
        have fin : ∀ b, tru [d] = some (.bool b) → Q b H1 := fun b hb => by
          rw [hb] at q
          obtain ⟨b', e1, q⟩ := q
          cases e1
          exact q F1 H1 s1 R1
        cases d with
        | none => cases bv.none; exact ⟨false, rfl, fin _ rfl⟩
        | bool b => cases bv.bool; exact ⟨b, rfl, fin _ rfl⟩
        | int i => cases bv.int; exact ⟨_, rfl, fin _ rfl⟩
        | str z =>
          cases bv.str
          by_cases hl : z.length ≤ sizeLine
          · exact ⟨_, ⟨hl, rfl⟩, fin _ (by simp only [tru, hl, if_true])⟩
          · simp only [tru, hl, if_false] at q; exact q.elim
        | list ds =>
          obtain ⟨a, xs, rfl, hs, ra⟩ := bv.list R1.sub
          refine ⟨_, .inl ⟨xs, by rw [← hk]; exact hs.sql, rfl⟩, fin _ ?_⟩
          have := ra.length
          cases xs <;> cases ds <;> first | rfl | (simp at this)
        | tuple ds =>
          obtain ⟨a, xs, rfl, hs, _, ra⟩ := bv.tup R1.sub
          refine ⟨_, .inr (.inl ⟨xs, by rw [← hk]; exact hs, rfl⟩), fin _ ?_⟩
          have := ra.length
          cases xs <;> cases ds <;> first | rfl | (simp at this)
        | dict kvs => simp only [tru] at q; exact q.elim
/-- an own list is frozen behind a statement -/
theorem Rel.frzAny {i : Nat} (R : Rel g F ms ρ σ H) (hm : ms[i]? = some .own) : ∃ F', Same F F' ∧ Rel g F' (ms.set i .val) ρ σ H := by
  have hi : i < ms.length := (List.getElem?_eq_some_iff.mp hm).1
  cases hd : ρ[i]? with
  | none => exact absurd (List.getElem?_eq_none_iff.mp hd) (by rw [R.lρ, ← R.lm]; omega)
  | some o =>
    cases o with
    | some d => exact R.frzSlot hm hd
    | none =>
      refine ⟨F, Same.refl _, ?_⟩
      exact { R with
        lm := by simp [R.lm]
        slot := fun j m e hm' nd he => by
          by_cases hj : j = i
          · subst hj; rw [hd] at he; cases he
          · rw [set_ne hj] at hm'; exact R.slot j m e hm' nd he
        uniq := fun j k mj mk d e u x c q1 q2 n q3 q4 q5 q6 f1 f2 => by
          by_cases hj : j = i
          · subst hj; rw [set_eq hi] at q1; cases q1; exact f1
          · by_cases hk : k = i
            · subst hk; rw [set_eq hi] at q2; cases q2; exact f2
            · rw [set_ne hj] at q1; rw [set_ne hk] at q2; exact R.uniq j k mj mk d e u x c q1 q2 n q3 q4 q5 q6 f1 f2
        ioU := fun j k n q1 q2 => by
          by_cases hj : j = i
          · subst hj; rw [set_eq hi] at q1; cases q1
          · by_cases hk : k = i
            · subst hk; rw [set_eq hi] at q2; cases q2
            · rw [set_ne hj] at q1; rw [set_ne hk] at q2; exact R.ioU j k n q1 q2 }
theorem ls_frzP {i : Nat} (h : PS X stt (LS g W c ms ms1 s1)) (hm : ms1[i]? = some .own) : PS X stt (LS g W c ms (ms1.set i .val) s1) := ps_imp h fun Dn σ H ⟨F, ρ, R, q⟩ => ⟨F, ρ, R, by
  cases hr : s1 ρ with
  | nx ρ' =>
    rw [hr] at q
    intro F2 σ2 H2 s2 R2
    obtain ⟨F3, s3, R3⟩ := R2.frzAny hm
    exact q F3 σ2 H2 (s2.trans s3) R3
  | _ => rw [hr] at q; exact q⟩
end
section
variable {K : Fr} {mg : Mg} {F H : Hp}
/-! ### a text, times an int -/
theorem foldl_codes (z : Array Nat) : ∀ (k : Nat) (acc : Array Nat), (List.replicate k z).foldl (· ++ ·) acc = acc ++ (List.replicate k z.toList).flatten.toArray
  | 0, acc => by simp
  | k + 1, acc => by
    rw [List.replicate_succ, List.foldl_cons, foldl_codes z k, List.replicate_succ, List.flatten_cons]
    apply Array.toList_inj.mp
    simp
def repS (z : Str) (k : Nat) : Str := ⟨(List.replicate k z.cps.toList).flatten.toArray⟩
theorem op_mulS {X : Cx} : OpR X (binaryOp .Mult) (fun x y H Q => ∃ z k, x = .str z ∧ y = .int k ∧ -(2 ^ 63) ≤ k ∧ k < 2 ^ 63 ∧ z.length * k.toNat ≤ sizeLine ∧ Q (.str (repS z k.toNat)) H) := by
  intro pins s σ H x y v u Q I rx ry h
  obtain ⟨z, k, rfl, rfl, h1, h2, hz, q⟩ := h
  obtain ⟨t, rfl⟩ := rx
  obtain ⟨t', rfl⟩ := ry
  have hl : (sizeLine : Nat) = 2 ^ 24 := rfl
  have zl : z.length = z.cps.size := rfl
  by_cases k1 : k < 1
  · have k0 : k.toNat = 0 := by omega
    have e : repS z k.toNat = Str.empty := by rw [k0]; rfl
    refine PySem.P.mul_str_none k1 (by omega) ⟨.str Str.empty, H, I.tok _, ⟨_, rfl⟩, ?_⟩
    rw [← e]; exact q
  · refine PySem.P.mul_str (by rw [decide_eq_false (by omega), decide_eq_false (by omega)]; rfl) (fun _ hk => ?_) (fun _ _ => ?_) ?_
    · have : k ≠ 1 ∧ z.length ≠ 0 := by simpa using hk
      intro hgt
      have hkn : (k.toNat : Int) = k := by omega
      have hb : (z.length : Int) * k ≤ 2 ^ 63 - 1 := by
        have : ((z.length * k.toNat : Nat) : Int) ≤ (sizeLine : Nat) := by exact_mod_cast hz
        rw [Int.natCast_mul, hkn] at this
        omega
      have := (Int.le_ediv_iff_mul_le (by omega : 0 < k)).mpr hb
      omega
    · exact decide_eq_false (by omega)
    · rw [if_neg k1]
      by_cases hk : (k == 1 || z.length == 0) = true
      · rw [if_pos hk]
        have e : repS z k.toNat = z := by
          unfold repS
          rcases (Bool.or_eq_true _ _).mp hk with hk | hk
          · have : k = 1 := by simpa using hk
            subst this
            simp
          · have : z.cps.size = 0 := by simpa [zl] using hk
            have hz0 : z.cps = #[] := Array.eq_empty_of_size_eq_zero this
            have : z = ⟨#[]⟩ := by cases z; simp at hz0; rw [hz0]
            rw [this]
            simp
        exact ⟨.str z, H, I, ⟨_, rfl⟩, by rw [← e]; exact q⟩
      · rw [if_neg hk]
        have e : (⟨(List.replicate k.toNat z.cps).foldl (· ++ ·) #[]⟩ : Str) = repS z k.toNat := by unfold repS; rw [foldl_codes]; simp
        rw [e]
        have hlen : (repS z k.toNat).length ≤ sizeLine := by
          show (List.replicate k.toNat z.cps.toList).flatten.toArray.size ≤ sizeLine
          rw [List.size_toArray, PyProof.Rows.lm_len_rep_flat, Array.length_toList]
          rw [zl] at hz
          rw [Nat.mul_comm]; exact hz
        exact ⟨hlen, .str _, H, I.tok _, ⟨_, rfl⟩, q⟩
end
end Mr

namespace Mr
open PySem PySem.Spec PyProof.Rows L2
section
variable {K : Fr} {mg : Mg} {F H : Hp}
def rMulS' : R2 := fun x y H Q => ∃ z k, x = .str z ∧ y = .int k ∧ -(2 ^ 63) ≤ k ∧ k < 2 ^ 63 ∧ z.length * k.toNat ≤ sizeLine ∧ Q (.str (repS z k.toNat)) H
def rMul (K : Fr) : R2 := fun x y H Q => (rI CMul (fun i j => .int (i * j)) x y H Q ∨ rMulS' x y H Q) ∨ rRepL K x y H Q
theorem op_mulA {X : Cx} : OpR X (binaryOp .Mult) (rMul X.K) := opr_or (opr_or op_mul op_mulS) op_repL
def oMulT : List D → Option D
  | [.str z, .int k] => if decide (-(2 ^ 63) ≤ k) && decide (k < 2 ^ 63) && decide (z.length * k.toNat ≤ sizeLine) then some (.str (repS z k.toNat)) else none
  | _ => none
theorem ad_mulT : Ad K mg (r2 rMulS') oMulT := fun F H vs ds d Q e b hd k => by
  unfold oMulT at hd
  split at hd
  · split at hd
    · rename_i hc
      simp only [Bool.and_eq_true, decide_eq_true_eq] at hc
      cases hd
      obtain ⟨x, y, rfl, bx, bv⟩ := bva2 b
      cases bv.int; cases bx.str
      exact ⟨_, _, rfl, _, _, rfl, rfl, hc.1.1, hc.1.2, hc.2, k _ _ _ (Ext.refl e) (.str _)⟩
    · cases hd
  · cases hd
def oMul (ds : List D) : Option D := match oMulI ds with
  | some d => some d
  | none => match oMulT ds with
    | some d => some d
    | none => oMulL ds
theorem ad_mul : Ad K mg (r2 (rMul K)) oMul := fun F H vs ds d Q e b hd k => by
  unfold oMul at hd
  cases h1 : oMulI ds with
  | some d1 => rw [h1] at hd; cases hd; obtain ⟨x, y, ev, h⟩ := ad_mulI F H vs ds _ Q e b h1 k; exact ⟨x, y, ev, .inl (.inl h)⟩
  | none =>
    rw [h1] at hd
    cases h2 : oMulT ds with
    | some d1 => rw [h2] at hd; cases hd; obtain ⟨x, y, ev, h⟩ := ad_mulT F H vs ds _ Q e b h2 k; exact ⟨x, y, ev, .inl (.inr h)⟩
    | none =>
      rw [h2] at hd
      obtain ⟨x, y, ev, h⟩ := ado_mulL.ad F H vs ds _ Q e b hd k
      exact ⟨x, y, ev, .inr h⟩
/-! ### < and its kin, of ints and of texts -/
def oCmp (f : Int → Int → Bool) (s : Str → Str → Bool) : List D → Option D
  | [.int i, .int j] => some (.bool (f i j))
  | [.str i, .str j] => some (.bool (s i j))
  | _ => none
def rCmp (f : Int → Int → Bool) (s : Str → Str → Bool) : R2 := fun x y H Q => (∃ i j, x = .int i ∧ y = .int j ∧ Q (.bl (f i j)) H) ∨ ∃ i j, x = .str i ∧ y = .str j ∧ Q (.bl (s i j)) H
theorem ad_cmp {f : Int → Int → Bool} {s : Str → Str → Bool} : Ad K mg (r2 (rCmp f s)) (oCmp f s) := fun F H vs ds d Q e b hd k => by
  unfold oCmp at hd
  split at hd
  · cases hd
    obtain ⟨x, y, rfl, bx, bv⟩ := bva2 b
    cases bv.int; cases bx.int
    exact ⟨_, _, rfl, .inl ⟨_, _, rfl, rfl, k _ _ _ (Ext.refl e) (.bl _)⟩⟩
  · cases hd
    obtain ⟨x, y, rfl, bx, bv⟩ := bva2 b
    cases bv.str; cases bx.str
    exact ⟨_, _, rfl, .inr ⟨_, _, rfl, rfl, k _ _ _ (Ext.refl e) (.bl _)⟩⟩
  · cases hd
def ltS (i j : Str) : Bool := decide (i.cps.toList < j.cps.toList)
abbrev cLt := oCmp (fun i j => decide (i < j)) ltS
abbrev cLe := oCmp (fun i j => decide (i ≤ j)) (fun i j => !ltS j i)
abbrev cGt := oCmp (fun i j => decide (j < i)) (fun i j => ltS j i)
abbrev cGe := oCmp (fun i j => decide (j ≤ i)) (fun i j => !ltS i j)
theorem op_ltC {X : Cx} : OpR X (compareOp .Lt) (rCmp (fun i j => decide (i < j)) ltS) := opr_or op_lt op_lt_str
theorem op_leC {X : Cx} : OpR X (compareOp .LtE) (rCmp (fun i j => decide (i ≤ j)) (fun i j => !ltS j i)) := opr_or op_le op_le_str
theorem op_gtC {X : Cx} : OpR X (compareOp .Gt) (rCmp (fun i j => decide (j < i)) (fun i j => ltS j i)) := opr_or op_gt op_gt_str
theorem op_geC {X : Cx} : OpR X (compareOp .GtE) (rCmp (fun i j => decide (j ≤ i)) (fun i j => !ltS i j)) := opr_or op_ge op_ge_str
end
end Mr

namespace Mr
open PySem PySem.Spec PyProof.Rows L2
theorem hu64 {A : Around} {k : Nat} (hr : Room k A) : A.units + 64 < cLine := by have := hr.un; omega
theorem hu65 {A : Around} {k : Nat} (hr : Room k A) : A.units + 65 < cLine := by have := hr.un; omega
def ioPos (io : List Nat) (pms : List Md) : Bool := (List.range pms.length).all fun i => match pms[i]? with
  | some (.io k) => io[k]? == some i
  | _ => true
theorem ioPos_iff {io : List Nat} {pms : List Md} (h : ioPos io pms = true) (h2 : ioB io pms = true) (k i : Nat) : pms[i]? = some (.io k) ↔ io[k]? = some i := by
  constructor
  · intro e
    unfold ioPos at h
    rw [List.all_eq_true] at h
    have := h i (List.mem_range.mpr (List.getElem?_eq_some_iff.mp e).1)
    simp only [e] at this
    simpa using this
  · exact ioB_get h2 k i
section
variable {P : Program} {w : World} {K : Fr} {mg : Mg} {base : Heap}
theorem ok_of2 {x qual : Str} {st : Stmt} {f : Addr} {fd : FuncData} {N ps : List Str} {k : Nat} (F : Fun K x qual st f fd) (S : FnScope N ps (defScope st)) {pms lms ms' mx : List Md} {own : Bool} {io : List Nat} {b : MS}
    (hlen : pms.length = ps.length) (hll : pms.length + lms.length = N.length) (hN : ps.length ≤ N.length) (hlm : lms.all (fun m => !isIo m) = true) (hp : ioPos io pms = true) (hb : ioB io pms = true) (hb' : ioB io ms' = true) (hbx : (ioB io mx && decide (io.length = nIo pms)) = true)
    (hbody : ∀ (cdv : Value) (A : Around) (outer : List Env) (s : Shared) (H : Hp) (E : XK) (X : Cx), X = cxOf (L2.CX P w) P w K mg base N qual (defScope st) f cdv A outer s H E → X.A.guards = some [] → Room k X.A → ∀ (F0 H0 : Hp) (ios : List Addr) (W : WX), Takes X W → PassesOwn (model X.prog X.w) X.A X.env X.xe →
      PSs X (defBody st) (LS ⟨K, mg, F0, H0, ios, []⟩ W ⟨[], mx, own, io⟩ (pms ++ lms) ms' b)) : FnG P w K mg base (k + 1) f fd ps (spM K mg pms own (runFn N.length io own b)) := by
  simp only [Bool.and_eq_true, decide_eq_true_eq] at hbx
  exact ok_of F S hlen hll hlm hN hbx.2 (ioPos_iff hp hb) (ioB_get hb') (ioB_get hbx.1) hbody
end
section
variable {X : Cx} {g : Gh} {W : WX} {c : Sx} {ms ms' msb : List Md} {elt tg iter : Expr} {ifs : List Expr} {pos spos : Pos} {σ : Sg} {F F' H H' : Hp} {ρ : En} {scope : Scope} {own : List (Str × Nat)} {gg : TG} {t : Tg} {cnd el : ME} {wi : TI} {mi : MI}
theorem ps_impS {stt : Stmt} {t t' : TS} (h : PS X stt t) (i : Shared → ∀ D σ H, t' D σ H → t D σ H) : PS X stt t' := ⟨fun pins s σ H D I q => h.run pins s σ H D I (i s D σ H q)⟩
/-- name = [..], on one line -/
theorem ls_setLc {j : Nat} {y : Str} {py : Pos} (hk : g.K = X.K) (hc : X.calm = true) (hN : X.N.Nodup) (hy : X.N[j]? = some y) (hyl : X.env.scope.names.lookup y = some .local) (hi : PI X tg iter wi) (hwi : ∀ σ H R, LI g W ms mi σ H R → wi σ H R) (ok : BlkOk X.N X.env.scope scope own)
    (hg : ∀ (s : Shared) (H : Hp) (C : Addr) (cl : List (Str × Addr)) (fp : List Addr), GT (X.blk s H scope (compEnvC scope cl C X.env) fp) tg t (shl (killL ms (own.map (·.2)))) msb gg)
    (ht : ∀ (s : Shared) (H : Hp) (C : Addr) (cl : List (Str × Addr)) (fp : List Addr) (F0 H0 : Hp) (ios : List Addr) (pr : List (Addr × List V)), PTs (X.blk s H scope (compEnvC scope cl C X.env) fp) ifs (LT ⟨g.K, g.mg, F0, H0, ios, pr⟩ W0 msb cnd))
    (he : ∀ (s : Shared) (H : Hp) (C : Addr) (cl : List (Str × Addr)) (fp : List Addr) (F0 H0 : Hp) (ios : List Addr) (pr : List (Addr × List V)), PE (X.blk s H scope (compEnvC scope cl C X.env) fp) elt (LE ⟨g.K, g.mg, F0, H0, ios, pr⟩ W0 msb el))
    (hsw : swapsWith (.ListComp elt [⟨tg, iter, ifs, 0⟩] scope pos) (some (.Name y py)) spos.line X.env = pure true := by exact sw_true rfl rfl rfl (by decide +kernel))
    (wb : wkB msb (shl (killL ms (own.map (·.2)))) = true := by rfl) (hvs : (tgIx t).all (fun i => (own.map (·.2)).contains i) = true := by rfl) (hv : valB ms (own.map (·.2)) = true := by rfl) (hl : j < ms.length := by decide) (wx : wkB ms c.mx = true := by rfl)
    (hs : ∀ x, foldedSetIterable iter X.env x = pure x := by intro _; rfl) : PS X (.Assign [.Name y py] (.ListComp elt [⟨tg, iter, ifs, 0⟩] scope pos) spos) (LS g W c ms (ms.set j .own) (sSet j (mLc mi t (own.map (·.2)) cnd el))) := by
  have h := ps_setLc (tt := ttL g msb cnd) (te := teL g msb el) (own := own) hc hN hy hyl hsw hi ok (fun s H C cl fp => (hg s H C cl fp).pg) (fun s H C cl fp => ⟨fun pins s' σ H' Q I ⟨g', e1, e2, q⟩ => (by rw [← gh_eta e1 e2]; exact ht s H C cl fp _ _ _ _ : PTs (X.blk s H scope (compEnvC scope cl C X.env) fp) ifs (LT g' W0 msb cnd)).run pins s' σ H' Q I q⟩)
    (fun s H C cl fp => ⟨fun pins s' σ H' Q I ⟨g', e1, e2, q⟩ => (by rw [← gh_eta e1 e2]; exact he s H C cl fp _ _ _ _ : PE (X.blk s H scope (compEnvC scope cl C X.env) fp) elt (LE g' W0 msb el)).run pins s' σ H' Q I q⟩) hs
  refine ps_impS h fun s D σ H ⟨F, ρ, R, q⟩ => ?_
  exact lc_imp (X' := X.blk s (fun _ => none) scope (compEnvC scope [] 0 X.env) []) hk (hg s (fun _ => none) 0 [] []) hwi wb hvs hv σ H _ ⟨F, ρ, R, goS_stO wx q fun d ρ' a F' H' _ s R' hl' f q => q F' _ H' (Same.refl _) (R'.setOwn hl f hl')⟩
theorem ls_setLcL {i j : Nat} {x y : Str} {px py : Pos} (hx : PE X (.Name x px) (tVar i)) (hm : ms[i]? = some .own) (hk : g.K = X.K) (hc : X.calm = true) (hN : X.N.Nodup) (hy : X.N[j]? = some y) (hyl : X.env.scope.names.lookup y = some .local) (ok : BlkOk X.N X.env.scope scope own)
    (hg : ∀ (s : Shared) (H : Hp) (C : Addr) (cl : List (Str × Addr)) (fp : List Addr), GT (X.blk s H scope (compEnvC scope cl C X.env) fp) tg t (shl (killL ((shl ms).set i (.lk 0)) (own.map (·.2)))) msb gg)
    (ht : ∀ (s : Shared) (H : Hp) (C : Addr) (cl : List (Str × Addr)) (fp : List Addr) (F0 H0 : Hp) (ios : List Addr) (pr : List (Addr × List V)), PTs (X.blk s H scope (compEnvC scope cl C X.env) fp) ifs (LT ⟨g.K, g.mg, F0, H0, ios, pr⟩ W0 msb cnd))
    (he : ∀ (s : Shared) (H : Hp) (C : Addr) (cl : List (Str × Addr)) (fp : List Addr) (F0 H0 : Hp) (ios : List Addr) (pr : List (Addr × List V)), PE (X.blk s H scope (compEnvC scope cl C X.env) fp) elt (LE ⟨g.K, g.mg, F0, H0, ios, pr⟩ W0 msb el))
    (hsw : swapsWith (.ListComp elt [⟨tg, .Name x px, ifs, 0⟩] scope pos) (some (.Name y py)) spos.line X.env = pure true := by exact sw_true rfl rfl rfl (by decide +kernel))
    (wb : wkB msb (shl (killL ((shl ms).set i (.lk 0)) (own.map (·.2)))) = true := by rfl) (hvs : (tgIx t).all (fun i => (own.map (·.2)).contains i) = true := by rfl) (hv : valB ((shl ms).set i (.lk 0)) (own.map (·.2)) = true := by rfl) (hl : j < ms.length := by decide) (wx : wkB ms c.mx = true := by rfl)
    (hs : ∀ z, foldedSetIterable (.Name x px) X.env z = pure z := by intro _; rfl) : PS X (.Assign [.Name y py] (.ListComp elt [⟨tg, .Name x px, ifs, 0⟩] scope pos) spos) (LS g W c ms (ms.set j .own) (sSet j (mLc (mItS i) t (own.map (·.2)) cnd el))) := by
  have h := ps_setLc (tt := ttL g msb cnd) (te := teL g msb el) (own := own) hc hN hy hyl hsw (pi_any hx) ok (fun s H C cl fp => (hg s H C cl fp).pg) (fun s H C cl fp => ⟨fun pins s' σ H' Q I ⟨g', e1, e2, q⟩ => (by rw [← gh_eta e1 e2]; exact ht s H C cl fp _ _ _ _ : PTs (X.blk s H scope (compEnvC scope cl C X.env) fp) ifs (LT g' W0 msb cnd)).run pins s' σ H' Q I q⟩)
    (fun s H C cl fp => ⟨fun pins s' σ H' Q I ⟨g', e1, e2, q⟩ => (by rw [← gh_eta e1 e2]; exact he s H C cl fp _ _ _ _ : PE (X.blk s H scope (compEnvC scope cl C X.env) fp) elt (LE g' W0 msb el)).run pins s' σ H' Q I q⟩) hs
  refine ps_impS h fun s D σ H ⟨F, ρ, R, q⟩ => ?_
  refine lock_impO (W := W) (m := mLc (mItS i) t (own.map (·.2)) cnd el) hm (fun g' e1 e2 σ H Q q => ?_) (fun σ H Q _ ⟨F, ρ, R, h1, h2, q⟩ => ?_) σ H _ ⟨F, ρ, R, goS_stO wx q fun d ρ' a F' H' _ s R' hl' f q => q F' _ H' (Same.refl _) (R'.setOwn hl f hl')⟩
  · have tg : ttL g' msb cnd = ttL g msb cnd := by unfold ttL; rw [e1, e2]
    have te : teL g' msb el = teL g msb el := by unfold teL; rw [e1, e2]
    rw [← tg, ← te]
    exact lc_imp (X' := X.blk s (fun _ => none) scope (compEnvC scope [] 0 X.env) []) (e1.trans hk) (hg s (fun _ => none) 0 [] []) (li_slot (md := .lk 0) (e1.trans hk) (by
      have hi := (List.getElem?_eq_some_iff.mp hm).1
      exact set_eq (by simpa using hi)) rfl) wb hvs hv σ H Q q
  · exfalso
    unfold mLc mItS mVar at q
    cases h0 : ρ[i]? with
    | none => simp [h0, iK] at q; exact q
    | some o => cases o with
      | none => simp [h0, iK] at q; exact q
      | some d => exact h2 d h0
end
end Mr

namespace Mr
open PySem PySem.Spec PyProof.Rows L2
theorem hu66 {A : Around} {k : Nat} (hr : Room k A) : A.units + 66 < cLine := by have := hr.un; omega

/-! ### calls with keywords -/
def permL {α : Type} (pi : List Nat) (xs : List α) : List α := pi.filterMap fun i => xs[i]?
theorem Paired.perm {α β : Type} {P : α → β → Prop} {xs : List α} {ys : List β} (h : Paired P xs ys) : ∀ pi : List Nat, Paired P (permL pi xs) (permL pi ys)
  | [] => .nil
  | i :: pi => by
    have ih := Paired.perm h pi
    unfold permL at ih ⊢
    have hl := Paired.len2 h
    by_cases hi : i < xs.length
    · have hi2 : i < ys.length := hl ▸ hi
      rw [List.filterMap_cons_some (b := xs[i]) (List.getElem?_eq_getElem hi), List.filterMap_cons_some (b := ys[i]) (List.getElem?_eq_getElem hi2)]
      exact .cons (Paired.get2 h (List.getElem?_eq_getElem hi) (List.getElem?_eq_getElem hi2)) ih
    · have hi2 : ¬ i < ys.length := hl ▸ hi
      rw [List.filterMap_cons_none (List.getElem?_eq_none (Nat.le_of_not_lt hi)), List.filterMap_cons_none (List.getElem?_eq_none (Nat.le_of_not_lt hi2))]
      exact ih
theorem OkA.pair {ioA : List Nat} {ms : List Md} : ∀ {pms : List Md} {ps : List PV}, OkA ioA ms pms ps → Paired (fun m p => OkA ioA ms [m] [p]) pms ps
  | _, _, .nil => .nil
  | _, _, .val h t => .cons (.val h .nil) t.pair
  | _, _, .valS h t => .cons (.valS h .nil) t.pair
  | _, _, .borS h t => .cons (.borS h .nil) t.pair
  | _, _, .ioS h t => .cons (.ioS h .nil) t.pair
theorem OkA.unpair {ioA : List Nat} {ms : List Md} : ∀ {pms : List Md} {ps : List PV}, Paired (fun m p => OkA ioA ms [m] [p]) pms ps → OkA ioA ms pms ps
  | _, _, .nil => .nil
  | _, _, .cons (.val h _) t => .val h (OkA.unpair t)
  | _, _, .cons (.valS h _) t => .valS h (OkA.unpair t)
  | _, _, .cons (.borS h _) t => .borS h (OkA.unpair t)
  | _, _, .cons (.ioS h _) t => .ioS h (OkA.unpair t)
theorem OkA.perm {ioA : List Nat} {ms : List Md} {pms : List Md} {ps : List PV} (h : OkA ioA ms pms ps) (pi : List Nat) : OkA ioA ms (permL pi pms) (permL pi ps) := OkA.unpair (Paired.perm h.pair pi)
theorem OkA.app {ioA : List Nat} {ms : List Md} : ∀ {pms : List Md} {ps : List PV} {pms2 : List Md} {ps2 : List PV}, OkA ioA ms pms ps → OkA ioA ms pms2 ps2 → OkA ioA ms (pms ++ pms2) (ps ++ ps2)
  | _, _, _, _, .nil, h2 => h2
  | _, _, _, _, .val h t, h2 => .val h (t.app h2)
  | _, _, _, _, .valS h t, h2 => .valS h (t.app h2)
  | _, _, _, _, .borS h t, h2 => .borS h (t.app h2)
  | _, _, _, _, .ioS h t, h2 => .ioS h (t.app h2)
theorem Paired.app {α β : Type} {P : α → β → Prop} : ∀ {xs : List α} {ys : List β} {xs2 : List α} {ys2 : List β}, Paired P xs ys → Paired P xs2 ys2 → Paired P (xs ++ xs2) (ys ++ ys2)
  | _, _, _, _, .nil, h2 => h2
  | _, _, _, _, .cons r t, h2 => .cons r (Paired.app t h2)
def mCallP (f : Fn) (ioA : List Nat) (pi : List Nat) (os1 os2 : List Opd) : ME := fun ρ => (evs os1 ρ).bind fun ps1 ρ1 => (evs os2 ρ1).bind fun ps2 ρ2 => callK f ioA (permL pi (ps1 ++ ps2)) ρ2
def tCallP (sp : Sp) (pi : List Nat) (E : Sg → XK) (t tk : TA) : TE := fun σ H Q => t σ H fun vs H1 => tk σ H1 fun zs H2 => sp (permL pi (vs ++ zs)) H2 Q (E σ)
def KwB (K : Fr) (fd : FuncData) (ps ks : List Str) (np : Nat) (pi : List Nat) : Prop := ∀ (s : Shared) (us ws : List Value), K.In s.heap → us.length = np → ws.length = ks.length → BindsTo s fd ⟨us, ks.zip ws⟩ (ps.zip (permL pi (us ++ ws)))
theorem Fun.kwb {K : Fr} {x qual : Str} {st : Stmt} {f : Addr} {fd : FuncData} {ps ks : List Str} {np : Nat} {pi : List Nat} (F : Fun K x qual st f fd)
    (h : ∀ (kV doc pm : Value) (an : Option Addr) (cdv ct : Value) (us ws : List Value), us.length = np → ws.length = ks.length → bindArgs (PySem.W.fnOf x qual (defArgs st) (defBody st) (defScope st) .none kV doc pm an cdv ct) ⟨us, ks.zip ws⟩ = pure (ps.zip (permL pi (us ++ ws)))) : KwB K fd ps ks np pi := by
  obtain ⟨oc, od, kV, doc, pm, an, cdv, ct, osl, rfl, lk, hcd⟩ := F.ex
  exact fun s us ws _ h1 h2 => .of_eq (h kV doc pm an cdv ct us ws h1 h2)
section
variable {X : Cx} {g : Gh} {W : WX} {c : Sx} {ms ms' : List Md} {e : Expr} {es : List Expr} {pos : Pos} {σ : Sg} {F F' H H' : Hp} {ρ : En} {Q : VK}
variable {k : Nat} {fa : Addr} {fd : FuncData} {pn ks : List Str} {x : Str} {p : Pos} {f : Fn} {ioA pi : List Nat} {os os2 : List Opd} {pms pmw pmw2 : List Md} {kws : List Keyword} {kpos : Pos} {nm : Option Str} {np : Nat} {sp : Sp} {E : Sg → XK} {t tk : TA}
theorem pk_imp {t t' : TA} (h : PK X kws t) (i : ∀ σ H Q, t' σ H Q → t σ H Q) : PK X kws t' := ⟨fun pos pins s σ H Q I q => h.run pos pins s σ H Q I (i σ H Q q)⟩
theorem lk_nil : PK X [] (LA g W ms []) := pk_imp pk_nil fun σ H Q ⟨F, ρ, R, q⟩ => q [] F H (Same.refl _) R .nil
theorem lk_cons {o : Opd} {os : List Opd} (ha : PE X e (LP g W ms o)) (hr : PK X kws (LA g W ms os)) : PK X (⟨nm, e, kpos⟩ :: kws) (LA g W ms (o :: os)) :=
  pk_imp (pk_cons ha hr) fun σ H Q ⟨F, ρ, R, q⟩ => by
    refine ⟨F, ρ, R, ?_⟩
    unfold evs at q
    cases h1 : evO o ρ with
    | bad => simp only [h1] at q; exact q
    | exn x ρ' => simp only [h1] at q; exact q
    | ok p ρ1 =>
      simp only [h1] at q
      intro v F1 H1 s1 R1 p1
      refine ⟨F1, ρ1, R1, ?_⟩
      cases h2 : evs os ρ1 with
      | bad => simp only [h2] at q; exact q
      | exn x ρ' => simp only [h2] at q; exact fun c dd F' H' s2 R' xo => q c dd F' H' (s1.trans s2) R' xo
      | ok ps ρ2 =>
        simp only [h2] at q
        exact fun vs F' H' s2 R' ps' => q (v :: vs) F' H' (s1.trans s2) R' (.cons (p1.mono s2) ps')
theorem evs_len : ∀ {os : List Opd} {ρ ρ' : En} {ps : List PV}, evs os ρ = .ok ps ρ' → ps.length = os.length
  | [], _, _, _, h => by simp [evs] at h; rw [h.1]; rfl
  | o :: os, ρ, ρ', ps, h => by
    unfold evs at h
    cases h1 : evO o ρ with
    | bad => simp [h1] at h
    | exn x ρ' => simp [h1] at h
    | ok p ρ1 =>
      cases h2 : evs os ρ1 with
      | bad => simp [h1, h2] at h
      | exn x ρ' => simp [h1, h2] at h
      | ok ps' ρ2 =>
        simp only [h1, h2, AR.ok.injEq] at h
        rw [← h.1]; simp [evs_len h2]
def tCallW (sp : Sp) (pi : List Nat) (n1 n2 : Nat) (E : Sg → XK) (t tk : TA) : TE := fun σ H Q => t σ H fun vs H1 => tk σ H1 fun zs H2 => vs.length = n1 ∧ zs.length = n2 ∧ sp (permL pi (vs ++ zs)) H2 Q (E σ)
theorem kw_imp {own : Bool} {lf : TE} (hk : g.K = X.K) (hmg : g.mg = X.mg) (hb1 : argB ms ioA pmw os = true) (hb2 : argB ms ioA pmw2 os2 = true) (hpi : permL pi (pmw ++ pmw2) = pms) (hI : ioAB ms ioA pms = true) (hn1 : os.length = np) (hn2 : os2.length = ks.length)
    (hlf : (own = false ∧ lf = LE g W ms (mCallP f ioA pi os os2)) ∨ (own = true ∧ lf = LO g W ms (mCallP f ioA pi os os2))) : ∀ σ H Q, lf σ H Q → tCallW (spM X.K X.mg pms own f) pi np ks.length (WE W) (LA g W ms os) (LA g W ms os2) σ H Q := by
  subst hpi
  rcases hlf with ⟨ho, hl⟩ | ⟨ho, hl⟩ <;> subst hl <;> subst ho <;> intro σ H Q ⟨F, ρ, R, q⟩ <;> refine ⟨F, ρ, R, ?_⟩ <;> unfold mCallP AR.bind at q <;> cases h1 : evs os ρ with
    | bad => simp only [h1] at q; exact q
    | exn x ρ' => simp only [h1] at q; exact q
    | ok ps ρ1 =>
      simp only [h1] at q
      intro vs F1 H1 s1 R1 p1
      refine ⟨F1, ρ1, R1, ?_⟩
      cases h2 : evs os2 ρ1 with
      | bad => simp only [h2] at q; exact q
      | exn x ρ' => simp only [h2] at q; exact fun c dd F' H' s2 R' xo => q c dd F' H' (s1.trans s2) R' xo
      | ok ps2 ρ2 =>
        simp only [h2] at q
        intro zs F2 H2 s2 R2 p2
        have hA := ((argB_ok hb1 h1).app (argB_ok hb2 h2)).perm pi
        have hP : PvsOk g F2 ms σ (permL pi (vs ++ zs)) (permL pi (ps ++ ps2)) := Paired.perm (Paired.app (PvsOk.mono s2 p1) p2) pi
        refine ⟨by rw [Paired.len2 p1, evs_len h1, hn1], by rw [Paired.len2 p2, evs_len h2, hn2], ?_⟩
        unfold callK at q
        cases h3 : resA ρ2 (permL pi (ps ++ ps2)) with
        | none => simp only [h3] at q; exact q.elim
        | some ds =>
          simp only [h3] at q
          rw [← hk, ← hmg]
          refine run_call (F0 := F) (goX := fun _ => True) R2 hP hA hI (hd_of hI hA h3) (fun ds' e => ⟨f ds', rfl, ?_, fun d iods hr v F' H' ios p R' hv => ?_, fun x iods hr c dd F' H' ios p R' xo => ?_⟩) ⟨ds, h3⟩
          · rw [h3] at e; cases e
            intro z; rw [z] at q; exact q
          · rw [h3] at e; cases e
            rw [hr] at q
            first
              | exact q v F' H' ((s1.trans s2).trans p.f) R' (by simpa using hv)
              | (simp only [if_true] at hv
                 obtain ⟨a, lv, hf, h0, fr⟩ := hv
                 have ev : v = .ref a := by obtain ⟨_, _, z, _⟩ := lv; exact z
                 subst ev
                 exact q a F' H' ((s1.trans s2).trans p.f) R' lv fr)
          · rw [h3] at e; cases e
            rw [hr] at q
            exact q c dd F' H' ((s1.trans s2).trans p.f) R' xo
theorem pe_callW (Fk : FnG X.prog X.w X.K X.mg X.base k fa fd pn sp) (hgu : X.A.guards = some []) (hr : Room k X.A) (hg : Gl X x) (hm : X.mg x = some (.ref fa)) (hkp : PySem.W.keepIn X.K (.ref fa) = true) (hb : KwB X.K fd pn ks np pi) (hx : ∀ σ, PassesAt (L2.CX X.prog X.w) X σ (E σ))
    (ha : PA X (e :: es) t) (hkw : PK X kws tk) (hall : (backToKw pos (keywordEach kws X.env)).all (·.1.isSome) = true := by rfl) (hks : (backToKw pos (keywordEach kws X.env)).filterMap (·.1) = ks := by rfl)
    (hpl : ((backTo pos (starEach (e :: es) X.env)).any (·.1) || (backToKw pos (keywordEach kws X.env)).any (·.1.isNone)) = false := by rfl) (he : starEach (e :: es) X.env = (false, eval e X.env) :: starEach es X.env := by rfl) (hdb : (x == ("__debug__" : Str)) = false := by decide) :
    PE X (.Call (.Name x p) (e :: es) kws pos) (tCallW sp pi np ks.length E t tk) := by
  refine ⟨fun pins s σ H Q I h => wpAny_Call_Name_kw (ld_glob I hg hm ?_ hdb)⟩
  refine PySem.W.callWith_KW (h₀ := X.base) I.ok.mod.kin hkp hall (thn (ha.run pos pins s σ H _ I h) fun us s1 ⟨vs, H1, I1, r, q⟩ => thn (hkw.run pos pins s1 σ H1 _ I1 q) fun ws s2 ⟨zs, H2, I2, rz, q1, q2, q3⟩ => ⟨I2.kIn, ?_⟩) hpl he
  rw [hks]
  exact FnG.go Fk hgu hr (hb s2 us ws I2.kIn (by rw [← r.length]; exact q1) (by rw [← rz.length]; exact q2)) (hx σ) I2 (Paired.perm (Paired.app r rz) pi) q3
def tCallW0 (sp : Sp) (pi : List Nat) (n2 : Nat) (E : Sg → XK) (tk : TA) : TE := fun σ H Q => tk σ H fun zs H2 => zs.length = n2 ∧ sp (permL pi zs) H2 Q (E σ)
theorem pe_callW0 (Fk : FnG X.prog X.w X.K X.mg X.base k fa fd pn sp) (hgu : X.A.guards = some []) (hr : Room k X.A) (hg : Gl X x) (hm : X.mg x = some (.ref fa)) (hkp : PySem.W.keepIn X.K (.ref fa) = true) (hb : KwB X.K fd pn ks 0 pi) (hx : ∀ σ, PassesAt (L2.CX X.prog X.w) X σ (E σ))
    (hkw : PK X kws tk) (hall : (backToKw pos (keywordEach kws X.env)).all (·.1.isSome) = true := by rfl) (hks : (backToKw pos (keywordEach kws X.env)).filterMap (·.1) = ks := by rfl)
    (hpl : ((backTo pos (starEach [] X.env)).any (·.1) || (backToKw pos (keywordEach kws X.env)).any (·.1.isNone)) = false := by rfl) (hdb : (x == ("__debug__" : Str)) = false := by decide) :
    PE X (.Call (.Name x p) [] kws pos) (tCallW0 sp pi ks.length E tk) := by
  refine ⟨fun pins s σ H Q I h => wpAny_Call_Name_kw (ld_glob I hg hm ?_ hdb)⟩
  refine PySem.W.callWith_KW0 (h₀ := X.base) I.ok.mod.kin hkp hall (thn (hkw.run pos pins s σ H _ I h) fun ws s2 ⟨zs, H2, I2, rz, q2, q3⟩ => ⟨I2.kIn, ?_⟩) hpl
  rw [hks]
  exact FnG.go Fk hgu hr (hb s2 [] ws I2.kIn rfl (by rw [← rz.length]; exact q2)) (hx σ) I2 (Paired.perm rz pi) q3
theorem LA_mono {Q Q' : List V → Hp → Prop} (h : ∀ vs H, Q vs H → Q' vs H) : LA g W ms os σ H Q → LA g W ms os σ H Q' := fun ⟨F, ρ, R, q⟩ => by
  refine ⟨F, ρ, R, ?_⟩
  cases h1 : evs os ρ with
  | bad => rw [h1] at q; exact q
  | exn x ρ' => rw [h1] at q; exact q
  | ok ps ρ' => rw [h1] at q; exact fun vs F' H' s R p => h _ _ (q vs F' H' s R p)
theorem w0_imp : ∀ σ H Q, tCallW sp pi 0 np E (LA g W ms []) (LA g W ms os2) σ H Q → tCallW0 sp pi np E (LA g W ms os2) σ H Q := fun σ H Q ⟨F, ρ, R, q⟩ =>
  LA_mono (fun _ _ h => h.2) (q [] F H (Same.refl _) R .nil)
end
section
variable {X : Cx} {g : Gh} {W : WX} {c : Sx} {ms ms' : List Md} {e : Expr} {es : List Expr} {pos : Pos} {σ : Sg} {F F' H H' : Hp} {ρ : En} {Q : VK}
variable {k : Nat} {fa : Addr} {fd : FuncData} {pn ks : List Str} {x : Str} {p : Pos} {f : Fn} {ioA pi : List Nat} {os os2 : List Opd} {pms pmw pmw2 : List Md} {kws : List Keyword} {kpos : Pos} {nm : Option Str} {np : Nat} {sp : Sp} {E : Sg → XK} {t tk : TA}
theorem le_callK (Fk : FnG X.prog X.w X.K X.mg X.base k fa fd pn (spM X.K X.mg pms false f)) (hgu : X.A.guards = some []) (hr : Room k X.A) (hm : X.mg x = some (.ref fa)) (hkp : PySem.W.keepIn X.K (.ref fa) = true) (hb : KwB X.K fd pn ks np pi) (tk : Takes X W) (hk : g.K = X.K) (hmg : g.mg = X.mg)
    (ha : PA X (e :: es) (LA g W ms os)) (hkw : PK X kws (LA g W ms os2)) (pmw pmw2 : List Md) (hg : Gl X x := by rfl) (hb1 : argB ms ioA pmw os = true := by rfl) (hb2 : argB ms ioA pmw2 os2 = true := by rfl) (hpi : permL pi (pmw ++ pmw2) = pms := by rfl) (hI : ioAB ms ioA pms = true := by rfl) (hn1 : os.length = np := by rfl) (hn2 : os2.length = ks.length := by rfl)
    (hall : (backToKw pos (keywordEach kws X.env)).all (·.1.isSome) = true := by rfl) (hks : (backToKw pos (keywordEach kws X.env)).filterMap (·.1) = ks := by rfl)
    (hpl : ((backTo pos (starEach (e :: es) X.env)).any (·.1) || (backToKw pos (keywordEach kws X.env)).any (·.1.isNone)) = false := by rfl) (he : starEach (e :: es) X.env = (false, eval e X.env) :: starEach es X.env := by rfl) (hdb : (x == ("__debug__" : Str)) = false := by decide) :
    PE X (.Call (.Name x p) (e :: es) kws pos) (LE g W ms (mCallP f ioA pi os os2)) := pe_imp (pe_callW Fk hgu hr hg hm hkp hb (fun σ => passAt tk σ) ha hkw hall hks hpl he hdb) (kw_imp (own := false) hk hmg hb1 hb2 hpi hI hn1 hn2 (.inl ⟨rfl, rfl⟩))
theorem lo_callK (Fk : FnG X.prog X.w X.K X.mg X.base k fa fd pn (spM X.K X.mg pms true f)) (hgu : X.A.guards = some []) (hr : Room k X.A) (hm : X.mg x = some (.ref fa)) (hkp : PySem.W.keepIn X.K (.ref fa) = true) (hb : KwB X.K fd pn ks np pi) (tk : Takes X W) (hk : g.K = X.K) (hmg : g.mg = X.mg)
    (ha : PA X (e :: es) (LA g W ms os)) (hkw : PK X kws (LA g W ms os2)) (pmw pmw2 : List Md) (hg : Gl X x := by rfl) (hb1 : argB ms ioA pmw os = true := by rfl) (hb2 : argB ms ioA pmw2 os2 = true := by rfl) (hpi : permL pi (pmw ++ pmw2) = pms := by rfl) (hI : ioAB ms ioA pms = true := by rfl) (hn1 : os.length = np := by rfl) (hn2 : os2.length = ks.length := by rfl)
    (hall : (backToKw pos (keywordEach kws X.env)).all (·.1.isSome) = true := by rfl) (hks : (backToKw pos (keywordEach kws X.env)).filterMap (·.1) = ks := by rfl)
    (hpl : ((backTo pos (starEach (e :: es) X.env)).any (·.1) || (backToKw pos (keywordEach kws X.env)).any (·.1.isNone)) = false := by rfl) (he : starEach (e :: es) X.env = (false, eval e X.env) :: starEach es X.env := by rfl) (hdb : (x == ("__debug__" : Str)) = false := by decide) :
    PE X (.Call (.Name x p) (e :: es) kws pos) (LO g W ms (mCallP f ioA pi os os2)) := pe_imp (pe_callW Fk hgu hr hg hm hkp hb (fun σ => passAt tk σ) ha hkw hall hks hpl he hdb) (kw_imp (own := true) hk hmg hb1 hb2 hpi hI hn1 hn2 (.inr ⟨rfl, rfl⟩))
theorem le_callK0 (Fk : FnG X.prog X.w X.K X.mg X.base k fa fd pn (spM X.K X.mg pms false f)) (hgu : X.A.guards = some []) (hr : Room k X.A) (hm : X.mg x = some (.ref fa)) (hkp : PySem.W.keepIn X.K (.ref fa) = true) (hb : KwB X.K fd pn ks 0 pi) (tk : Takes X W) (hk : g.K = X.K) (hmg : g.mg = X.mg)
    (hkw : PK X kws (LA g W ms os2)) (pmw2 : List Md) (hg : Gl X x := by rfl) (hb2 : argB ms ioA pmw2 os2 = true := by rfl) (hpi : permL pi ([] ++ pmw2) = pms := by rfl) (hI : ioAB ms ioA pms = true := by rfl) (hn2 : os2.length = ks.length := by rfl)
    (hall : (backToKw pos (keywordEach kws X.env)).all (·.1.isSome) = true := by rfl) (hks : (backToKw pos (keywordEach kws X.env)).filterMap (·.1) = ks := by rfl)
    (hpl : ((backTo pos (starEach [] X.env)).any (·.1) || (backToKw pos (keywordEach kws X.env)).any (·.1.isNone)) = false := by rfl) (hdb : (x == ("__debug__" : Str)) = false := by decide) :
    PE X (.Call (.Name x p) [] kws pos) (LE g W ms (mCallP f ioA pi [] os2)) := pe_imp (pe_callW0 Fk hgu hr hg hm hkp hb (fun σ => passAt tk σ) hkw hall hks hpl hdb) fun σ H Q q => w0_imp σ H Q (kw_imp (own := false) (os := []) (np := 0) (pmw := []) hk hmg rfl hb2 hpi hI rfl hn2 (.inl ⟨rfl, rfl⟩) σ H Q q)
theorem lo_callK0 (Fk : FnG X.prog X.w X.K X.mg X.base k fa fd pn (spM X.K X.mg pms true f)) (hgu : X.A.guards = some []) (hr : Room k X.A) (hm : X.mg x = some (.ref fa)) (hkp : PySem.W.keepIn X.K (.ref fa) = true) (hb : KwB X.K fd pn ks 0 pi) (tk : Takes X W) (hk : g.K = X.K) (hmg : g.mg = X.mg)
    (hkw : PK X kws (LA g W ms os2)) (pmw2 : List Md) (hg : Gl X x := by rfl) (hb2 : argB ms ioA pmw2 os2 = true := by rfl) (hpi : permL pi ([] ++ pmw2) = pms := by rfl) (hI : ioAB ms ioA pms = true := by rfl) (hn2 : os2.length = ks.length := by rfl)
    (hall : (backToKw pos (keywordEach kws X.env)).all (·.1.isSome) = true := by rfl) (hks : (backToKw pos (keywordEach kws X.env)).filterMap (·.1) = ks := by rfl)
    (hpl : ((backTo pos (starEach [] X.env)).any (·.1) || (backToKw pos (keywordEach kws X.env)).any (·.1.isNone)) = false := by rfl) (hdb : (x == ("__debug__" : Str)) = false := by decide) :
    PE X (.Call (.Name x p) [] kws pos) (LO g W ms (mCallP f ioA pi [] os2)) := pe_imp (pe_callW0 Fk hgu hr hg hm hkp hb (fun σ => passAt tk σ) hkw hall hks hpl hdb) fun σ H Q q => w0_imp σ H Q (kw_imp (own := true) (os := []) (np := 0) (pmw := []) hk hmg rfl hb2 hpi hI rfl hn2 (.inr ⟨rfl, rfl⟩) σ H Q q)
end
end Mr

namespace Mr
open PySem PySem.Spec PyProof.Rows L2
theorem FnG.imp {P : Program} {w : World} {K : Fr} {mg : Mg} {base : Heap} {k : Nat} {f : Addr} {fd : FuncData} {ps : List Str} {sp sp' : Sp} (F : FnG P w K mg base k f fd ps sp) (h : ∀ vs H Q E, sp' vs H Q E → sp vs H Q E) : FnG P w K mg base k f fd ps sp' :=
  ⟨fun vs H Q E q => F.len vs H Q E (h _ _ _ _ q), fun A outer s H args us vs Q E hg hr e0 hb rv q => F.run A outer s H args us vs Q E hg hr e0 hb rv (h _ _ _ _ q)⟩
theorem rpA_ints {K : Fr} {mg : Mg} {F : Hp} : ∀ ns : List Int, RpA K mg F (ns.map V.int) (ns.map PyData.int)
  | [] => .nil
  | n :: ns => .cons (.int n) (rpA_ints ns)
theorem law_sp {K : Fr} {mg : Mg} {m : Md} {H : Hp} {a : Addr} {ns : List Int} {f : Fn} (hm : m = .val ∨ m = .bor) (hS : SqP K H a (ns.map V.int)) (h : f [.list (ns.map .int)] = .ok (.bool true) []) :
    spM K mg [m] false f [.ref a] H (fun v _ => v = .bl true) fun _ _ _ => False := by
  have r : Rp K mg H (.ref a) (.list (ns.map .int)) := .lst hS (rpA_ints ns)
  refine ⟨H, [.list (ns.map .int)], [], Same.refl _, rfl, rfl, fun i m' v d h1 h2 h3 => ?_, List.nodup_nil, ?_, fun a ha => absurd ha (by simp), ?_⟩
  · cases i with
    | zero =>
      simp at h1 h2 h3
      subst h1; subst h2; subst h3
      rcases hm with e | e <;> subst e
      · exact ⟨r, by decide⟩
      · exact ⟨.inl r, by decide⟩
    | succ i => simp at h1
  · rcases hm with e | e <;> subst e <;> rfl
  · rw [h]
    intro v F' H' p hv
    simp only [Bool.false_eq_true, if_false] at hv
    cases hv
    rfl
end Mr

/-! what mirrors come to -/
namespace Mr
open PySem PySem.Spec PyProof.Rows L2
structure Pw where
  nx : En → Prop
  rt : D → En → Prop
  xn : D → En → Prop
  bk : En → Prop
  ct : En → Prop
def wE : ER → (D → En → Prop) → (D → En → Prop) → Prop
  | .ok d ρ, Q, _ => Q d ρ
  | .exn x ρ, _, X => X x ρ
  | .bad, _, _ => False
def wA : AR → (List PV → En → Prop) → (D → En → Prop) → Prop
  | .ok d ρ, Q, _ => Q d ρ
  | .exn x ρ, _, X => X x ρ
  | .bad, _, _ => False
def wO : OR → (PV → En → Prop) → (D → En → Prop) → Prop
  | .ok d ρ, Q, _ => Q d ρ
  | .exn x ρ, _, X => X x ρ
  | .bad, _, _ => False
def wI : IR → (List D → En → Prop) → (D → En → Prop) → Prop
  | .ok d ρ, Q, _ => Q d ρ
  | .exn x ρ, _, X => X x ρ
  | .bad, _, _ => False
def wF : FR → (D → List D → Prop) → (D → List D → Prop) → Prop
  | .ok d ρ, Q, _ => Q d ρ
  | .exn x ρ, _, X => X x ρ
  | .bad, _, _ => False
def wS : SR → Pw → Prop
  | .bad, _ => False
  | .nx ρ, P => P.nx ρ
  | .rt d ρ, P => P.rt d ρ
  | .bk ρ, P => P.bk ρ
  | .ct ρ, P => P.ct ρ
  | .exn x ρ, P => P.xn x ρ
def wV {α : Type} : Option α → (α → Prop) → Prop
  | some d, Q => Q d
  | none, _ => False
def wZ : D → (Int → Prop) → Prop
  | .int i, K => K i
  | _, _ => False
def wLs : D → (List D → Prop) → Prop
  | .list i, K => K i
  | _, _ => False
theorem wZ_int {i : Int} {K : Int → Prop} : wZ (.int i) K = K i := rfl
theorem wLs_list {i : List D} {K : List D → Prop} : wLs (.list i) K = K i := rfl
/-- what simp does not go into -/
structure Lk {α : Type} (k : α) : Type where
def wFc (r : FR) (Q X : D → List D → Prop) (_ : Lk Q) (_ : Lk X) : Prop := wF r Q X
def wLp (t : Tg) (b : MS) (ds : List D) (ρ : En) (P : Pw) (_ : Lk P) (_ : Lk b) : Prop := wS (loopS t b ds ρ) P
def wB : D → (Bool → Prop) → Prop
  | .bool b, Q => Q b
  | _, _ => False
section
variable {ρ : En} {Q Q' : D → En → Prop} {X X' : D → En → Prop} {QA : List PV → En → Prop} {QI : List D → En → Prop} {QO : PV → En → Prop} {P : Pw} {QF : D → List D → Prop} {XF : D → List D → Prop}
  {m a b c : ME} {d : D} {i k : Nat} {o : Opd} {os os2 : List Opd} {f f' : List D → Option D} {s s1 s2 : MS} {io pi : List Nat} {fn : Fn} {ps : List PV} {ds : List D} {K : D → Prop} {KL : List D → Prop}
theorem wV_some {α : Type} {x : α} {K : α → Prop} : wV (some x) K = K x := rfl
theorem wV_none {α : Type} {K : α → Prop} : wV (none : Option α) K = False := rfl
theorem wV_if {α : Type} {p : Prop} [Decidable p] {x : Option α} {K : α → Prop} : wV (if p then x else none) K = (p ∧ wV x K) := by
  by_cases h : p
  · rw [if_pos h]; exact propext ⟨fun q => ⟨h, q⟩, fun q => q.2⟩
  · rw [if_neg h]; exact propext ⟨fun q => q.elim, fun q => absurd q.1 h⟩
theorem wV_map {α β : Type} {x : Option α} {g : α → β} {K : β → Prop} : wV (x.map g) K = wV x fun y => K (g y) := by cases x <;> rfl
theorem wB_bool {z : Bool} {K : Bool → Prop} : wB (.bool z) K = K z := rfl
theorem wE_C : wE (mC d ρ) Q X = Q d ρ := rfl
theorem wE_V : wE (mVar i ρ) Q X = wV (ρ[i]?.join) fun d => Q d ρ := by
  unfold mVar
  cases q : ρ[i]? with
  | none => rfl
  | some o => cases o <;> rfl
theorem wE_app : wE (mApp f os ρ) Q X = wA (evs os ρ) (fun ps ρ1 => wV (resA ρ1 ps) fun ds => wV (f ds) fun d => Q d ρ1) X := by
  unfold mApp AR.bind
  cases h : evs os ρ with
  | ok ps ρ1 =>
    simp only [wA, appK]
    cases h1 : resA ρ1 ps with
    | none => rfl
    | some ds => simp only [wV]; cases h2 : f ds <;> rfl
  | _ => rfl
theorem wA_nil : wA (evs [] ρ) QA X = QA [] ρ := rfl
theorem wA_ex : wA (evs (.ex m :: os) ρ) QA X = wE (m ρ) (fun d ρ1 => wA (evs os ρ1) (fun ps ρ2 => QA (.inl d :: ps) ρ2) X) X := by
  simp only [evs, evO]
  cases h : m ρ with
  | ok d ρ1 => simp only [wE]; cases h2 : evs os ρ1 <;> rfl
  | _ => rfl
theorem wA_sl : wA (evs (.sl i :: os) ρ) QA X = wV (ρ[i]?.join) fun _ => wA (evs os ρ) (fun ps ρ2 => QA (.inr i :: ps) ρ2) X := by
  simp only [evs, evO]
  cases q : ρ[i]? with
  | none => rfl
  | some o => cases o with
    | none => rfl
    | some d => simp only [Option.join_some, wV]; cases h2 : evs os ρ <;> rfl
theorem wR_nil : wV (resA ρ []) KL = KL [] := rfl
theorem wR_l : wV (resA ρ (.inl d :: ps)) KL = wV (resA ρ ps) fun ds => KL (d :: ds) := by
  simp only [resA, res]; cases h : resA ρ ps <;> rfl
theorem wR_r : wV (resA ρ (.inr i :: ps)) KL = wV (ρ[i]?.join) fun d => wV (resA ρ ps) fun ds => KL (d :: ds) := by
  simp only [resA, res]; cases h1 : ρ[i]?.join <;> cases h : resA ρ ps <;> rfl
theorem dO_nil : wV (dsOf []) KL = KL [] := rfl
theorem dO_l : wV (dsOf (.inl d :: ps)) KL = wV (dsOf ps) fun ds => KL (d :: ds) := by
  simp only [dsOf]; cases h : dsOf ps <;> rfl
theorem tst_w {r : ER} {k : Bool → En → ER} : wE (r.tst k) Q X = wE r (fun d ρ1 => wB d fun b => wE (k b ρ1) Q X) X := by
  cases r with
  | ok d ρ => cases d <;> rfl
  | _ => rfl
theorem wE_and : wE (mAnd a b ρ) Q X = wE (a ρ) (fun d ρ1 => wB d fun z => (z = true → wE (b ρ1) Q X) ∧ (z = false → Q (.bool false) ρ1)) X := by
  rw [show mAnd a b ρ = (a ρ).tst fun c ρ1 => if c = true then b ρ1 else .ok (.bool false) ρ1 from rfl, tst_w]
  congr 1; funext d ρ1; congr 1; funext z
  cases z <;> simp [wE]
theorem wE_or : wE (mOr a b ρ) Q X = wE (a ρ) (fun d ρ1 => wB d fun z => (z = true → Q (.bool true) ρ1) ∧ (z = false → wE (b ρ1) Q X)) X := by
  rw [show mOr a b ρ = (a ρ).tst fun c ρ1 => if c = true then .ok (.bool true) ρ1 else b ρ1 from rfl, tst_w]
  congr 1; funext d ρ1; congr 1; funext z
  cases z <;> simp [wE]
theorem wE_not : wE (mNot a ρ) Q X = wE (a ρ) (fun d ρ1 => wB d fun z => Q (.bool (!z)) ρ1) X := by
  rw [show mNot a ρ = (a ρ).tst fun c ρ1 => .ok (.bool (!c)) ρ1 from rfl, tst_w]; rfl
theorem wE_ifE : wE (mIfE c a b ρ) Q X = wE (c ρ) (fun d ρ1 => wB d fun z => (z = true → wE (a ρ1) Q X) ∧ (z = false → wE (b ρ1) Q X)) X := by
  rw [show mIfE c a b ρ = (c ρ).tst fun k ρ1 => if k = true then a ρ1 else b ρ1 from rfl, tst_w]
  congr 1; funext d ρ1; congr 1; funext z
  cases z <;> simp [wE]
theorem wE_tup : wE (mTup os ρ) Q X = wA (evs os ρ) (fun ps ρ1 => wV (dsOf ps) fun ds => ds.length ≤ sizeLine ∧ Q (.tuple ds) ρ1) X := by
  unfold mTup AR.bind
  cases h : evs os ρ with
  | ok ps ρ1 =>
    simp only [wA]
    cases h1 : dsOf ps with
    | none => rfl
    | some ds => simp only [wV]; by_cases q : ds.length ≤ sizeLine <;> simp [q, wE]
  | _ => rfl
theorem wE_lst : wE (mLst os ρ) Q X = wA (evs os ρ) (fun ps ρ1 => wV (dsOf ps) fun ds => ds.length ≤ sizeLine ∧ Q (.list ds) ρ1) X := by
  unfold mLst AR.bind
  cases h : evs os ρ with
  | ok ps ρ1 =>
    simp only [wA]
    cases h1 : dsOf ps with
    | none => rfl
    | some ds => simp only [wV]; by_cases q : ds.length ≤ sizeLine <;> simp [q, wE]
  | _ => rfl
theorem wO_ex : wO (evO (.ex m) ρ) QO X = wE (m ρ) (fun d ρ1 => QO (.inl d) ρ1) X := by
  simp only [evO]; cases m ρ <;> rfl
theorem wO_sl : wO (evO (.sl i) ρ) QO X = wV (ρ[i]?.join) fun _ => QO (.inr i) ρ := by
  simp only [evO]
  cases q : ρ[i]? with
  | none => rfl
  | some o => cases o <;> rfl
theorem r1_l : wV (res ρ (.inl d)) K = K d := rfl
theorem r1_r : wV (res ρ (.inr i)) K = wV (ρ[i]?.join) K := rfl
theorem wE_chain {A B C : Opd} : wE (mChain f f' A B C ρ) Q X = wO (evO A ρ) (fun p ρ1 => wO (evO B ρ1) (fun q ρ2 => wV (resA ρ2 [p, q]) fun ds => wV (f ds) fun d => wB d fun z =>
    (z = true → wO (evO C ρ2) (fun r ρ4 => wV (resA ρ4 [q, r]) fun ds => wV (f' ds) fun d => Q d ρ4) X) ∧ (z = false → Q (.bool false) ρ2)) X) X := by
  unfold mChain
  cases h1 : evO A ρ with
  | ok p ρ1 =>
    simp only [wO]
    cases h2 : evO B ρ1 with
    | ok q ρ2 =>
      simp only [wO, tst_w]
      unfold appK
      cases h3 : resA ρ2 [p, q] with
      | none => rfl
      | some ds =>
        simp only [wV]
        cases h4 : f ds with
        | none => rfl
        | some d =>
          simp only [wE]
          congr 1; funext z
          cases z with
          | false => simp [wE]
          | true =>
            simp only [if_true]
            cases h5 : evO C ρ2 with
            | ok r ρ4 =>
              simp only [wO]
              cases h6 : resA ρ4 [q, r] with
              | none => simp [wE, wV]
              | some ds => simp only [wV]; cases h7 : f' ds <;> simp [wE]
            | _ => simp [wE, wO]
    | _ => rfl
  | _ => rfl
/-! ### calls -/
theorem wE_call : wE (mCall fn io os ρ) Q X = wA (evs os ρ) (fun ps ρ1 => wV (resA ρ1 ps) fun ds => wFc (fn ds) (fun d is => Q d (setIo ρ1 io is)) (fun x is => X x (setIo ρ1 io is)) ⟨⟩ ⟨⟩) X := by
  unfold mCall AR.bind
  cases h : evs os ρ with
  | ok ps ρ1 =>
    simp only [wA, callK]
    cases h1 : resA ρ1 ps with
    | none => rfl
    | some ds => simp only [wV]; cases h2 : fn ds <;> rfl
  | _ => rfl
theorem wE_callP : wE (mCallP fn io pi os os2 ρ) Q X = wA (evs os ρ) (fun ps1 ρ1 => wA (evs os2 ρ1) (fun ps2 ρ2 => wV (resA ρ2 (permL pi (ps1 ++ ps2))) fun ds => wFc (fn ds) (fun d is => Q d (setIo ρ2 io is)) (fun x is => X x (setIo ρ2 io is)) ⟨⟩ ⟨⟩) X) X := by
  unfold mCallP AR.bind
  cases h : evs os ρ with
  | ok ps1 ρ1 =>
    simp only [wA]
    cases h0 : evs os2 ρ1 with
    | ok ps2 ρ2 =>
      simp only [wA, callK]
      cases h1 : resA ρ2 (permL pi (ps1 ++ ps2)) with
      | none => rfl
      | some ds => simp only [wV]; cases h2 : fn ds <;> rfl
    | _ => rfl
  | _ => rfl
theorem setIo_nil {ds : List D} : setIo ρ [] ds = ρ := by unfold setIo; rfl
theorem setIo_cons {is : List Nat} : setIo ρ (i :: is) (d :: ds) = setIo (ρ.set i (some d)) is ds := by rw [setIo]
theorem wF_run {n : Nat} {own : Bool} : wF (runFn n io own s ds) QF XF = wS (s (ds.map some ++ List.replicate (n - ds.length) none)) ⟨fun ρ => own = false ∧ wV (ioG ρ io) fun is => QF .none is, fun d ρ => wV (ioG ρ io) fun is => QF d is, fun x ρ => wV (ioG ρ io) fun is => XF x is, fun _ => False, fun _ => False⟩ := by
  unfold runFn
  cases h : s (ds.map some ++ List.replicate (n - ds.length) none) with
  | rt d ρ => simp only [wS]; cases ioG ρ io <;> rfl
  | exn x ρ => simp only [wS]; cases ioG ρ io <;> rfl
  | nx ρ => cases own <;> simp only [wS] <;> cases ioG ρ io <;> simp [wV, wF]
  | _ => rfl
theorem ioG_nil : wV (ioG ρ []) KL = KL [] := rfl
theorem ioG_cons : wV (ioG ρ (i :: io)) KL = wV (ρ[i]?.join) fun d => wV (ioG ρ io) fun is => KL (d :: is) := by
  rw [ioG]
  cases q : ρ[i]? with
  | none => simp [wV]
  | some o => cases o with
    | none => simp [wV]
    | some d => cases h : ioG ρ io <;> simp [wV]
/-! ### statements -/
theorem wS_seq : wS (sSeq s1 s2 ρ) P = wS (s1 ρ) { P with nx := fun ρ1 => wS (s2 ρ1) P } := by
  unfold sSeq; cases s1 ρ <;> rfl
theorem wS_nx : wS (sNx ρ) P = P.nx ρ := rfl
theorem wS_bk : wS (sBk ρ) P = P.bk ρ := rfl
theorem wS_ct : wS (sCt ρ) P = P.ct ρ := rfl
theorem wS_ex : wS (sEx m ρ) P = wE (m ρ) (fun _ ρ1 => P.nx ρ1) P.xn := by unfold sEx ER.st; cases m ρ <;> rfl
theorem wS_set : wS (sSet i m ρ) P = wE (m ρ) (fun d ρ1 => P.nx (ρ1.set i (some d))) P.xn := by unfold sSet ER.st; cases m ρ <;> rfl
theorem wS_rt : wS (sRt m ρ) P = wE (m ρ) P.rt P.xn := by unfold sRt ER.st; cases m ρ <;> rfl
theorem wS_rtN : wS (sRtN ρ) P = P.rt .none ρ := rfl
theorem wS_if : wS (sIf c s1 s2 ρ) P = wE (c ρ) (fun d ρ1 => wB d fun z => (z = true → wS (s1 ρ1) P) ∧ (z = false → wS (s2 ρ1) P)) P.xn := by
  unfold sIf
  cases h : c ρ with
  | ok d ρ1 => cases d with
    | bool z => cases z <;> simp [wE, wB]
    | _ => rfl
  | _ => rfl
theorem wS_asg {t : Tg} : wS (sAsg t m ρ) P = wE (m ρ) (fun d ρ1 => wV (asg t d ρ1) P.nx) P.xn := by
  unfold sAsg ER.st
  cases m ρ with
  | ok d ρ1 => simp only [wE]; cases asg t d ρ1 <;> rfl
  | _ => rfl
theorem asg_nm {K : En → Prop} : wV (asg (.nm i) d ρ) K = K (ρ.set i (some d)) := by rw [asg]; rfl
theorem asg_tupT {K : En → Prop} {ts : List Tg} : wV (asg (.tup ts) (.tuple ds) ρ) K = wV (asgs ts ds ρ) K := by rw [asg]
theorem asg_tupL {K : En → Prop} {ts : List Tg} : wV (asg (.tup ts) (.list ds) ρ) K = wV (asgs ts ds ρ) K := by rw [asg]
theorem asgs_nil {K : En → Prop} : wV (asgs [] [] ρ) K = K ρ := by rw [asgs]; rfl
theorem asgs_cons {K : En → Prop} {t : Tg} {ts : List Tg} : wV (asgs (t :: ts) (d :: ds) ρ) K = wV (asg t d ρ) fun ρ1 => wV (asgs ts ds ρ1) K := by
  rw [asgs]; cases asg t d ρ <;> rfl
theorem wS_sub : wS (sSub i o m ρ) P = wE (m ρ) (fun d ρ1 => wV (ρ1[i]?.join) fun _ => wO (evO o ρ1) (fun p ρ2 => wS (subK i d p ρ2) P) P.xn) P.xn := by
  unfold sSub
  cases m ρ with
  | ok d ρ1 =>
    have e1 : evO (.sl i) ρ1 = match ρ1[i]? with | some (some _) => .ok (.inr i) ρ1 | _ => .bad := by first | (rw [evO]; done) | (rw [evO]; cases ρ1[i]? with | none => rfl | some z => cases z <;> rfl)
    simp only [wE, e1]
    cases h1 : ρ1[i]? with
    | none => rfl
    | some z => cases z with
      | none => rfl
      | some e => simp only [Option.join_some, wV]; cases h2 : evO o ρ1 <;> rfl
  | _ => rfl
theorem subK_w {p : PV} : wS (subK i d p ρ) P = wV (ρ[i]?.join) fun e => wV (res ρ p) fun z => wLs e fun es => wZ z fun j => wV (ixN es.length j) fun n => P.nx (ρ.set i (some (.list (es.set n d)))) := by
  unfold subK
  cases h1 : ρ[i]? with
  | none => simp [wV, wS]
  | some o => cases o with
    | none => simp [wV, wS]
    | some e =>
      simp only [Option.join_some, wV]
      cases h2 : res ρ p with
      | none => cases e <;> simp [wS]
      | some z =>
        cases e <;> cases z <;> simp [wS, wLs, wZ]
        rename_i es j
        cases h3 : ixN es.length j <;> simp [wS, wV]
theorem wE_mut {u : List D → List D → Option (List D × D)} : wE (mMutV i u os ρ) Q X = wV (ρ[i]?.join) fun _ => wA (evs os ρ) (fun ps ρ1 => wV (ρ1[i]?.join) fun e => wV (dsOf ps) fun ds => wLs e fun es => wV (u es ds) fun q => Q q.2 (ρ1.set i (some (.list q.1)))) X := by
  unfold mMutV
  cases h1 : ρ[i]? with
  | none => rfl
  | some o => cases o with
    | none => rfl
    | some e =>
      simp only [Option.join_some, wV, AR.bind]
      cases h2 : evs os ρ with
      | ok ps ρ1 =>
        simp only [wA, mutV]
        cases h3 : ρ1[i]? with
        | none => simp [wE, wV]
        | some o => cases o with
          | none => simp [wE, wV]
          | some e =>
            simp only [Option.join_some, wV]
            cases h4 : dsOf ps with
            | none => cases e <;> simp [wE]
            | some ds =>
              cases e <;> simp [wE, wLs]
              rename_i es
              cases h5 : u es ds <;> simp [wE, wV]
      | _ => rfl
/-! ### loops -/
def wL : Option (List D) → (List D → Prop) → Prop := wV
theorem wS_for {t : Tg} {mi : MI} : wS (sFor mi t s ρ) P = wI (mi ρ) (fun ds ρ1 => wLp t s ds ρ1 P ⟨⟩ ⟨⟩) P.xn := by
  unfold sFor IR.st; cases mi ρ <;> rfl
theorem wI_any : wI (mIt m ρ) QI X = wE (m ρ) (fun d ρ1 => wV (itD d) fun ds => QI ds ρ1) X := by
  unfold mIt iK
  cases m ρ with
  | ok d ρ1 => simp only [wE]; cases itD d <;> rfl
  | _ => rfl
theorem wI_slot : wI (mItS i ρ) QI X = wV (ρ[i]?.join) fun d => wV (itD d) fun ds => QI ds ρ := by
  rw [show wI (mItS i ρ) QI X = wI (mIt (mVar i) ρ) QI X from rfl, wI_any, wE_V]
def wG : List D → (List D → Prop) → Prop
  | [.int j], K => -(2 ^ 62) ≤ j ∧ j < 2 ^ 62 ∧ K (intsF 0 j.toNat)
  | [.int i, .int j], K => -(2 ^ 62) ≤ i ∧ i < 2 ^ 62 ∧ -(2 ^ 62) ≤ j ∧ j < 2 ^ 62 ∧ K (intsF i (j - i).toNat)
  | _, _ => False
theorem wG_1 {j : Int} : wG [.int j] KL = (-(2 ^ 62) ≤ j ∧ j < 2 ^ 62 ∧ KL (intsF 0 j.toNat)) := rfl
theorem wG_2 {i j : Int} : wG [.int i, .int j] KL = (-(2 ^ 62) ≤ i ∧ i < 2 ^ 62 ∧ -(2 ^ 62) ≤ j ∧ j < 2 ^ 62 ∧ KL (intsF i (j - i).toNat)) := rfl
theorem rng_w : (wV (resA ρ ps) fun ds => wG ds fun vs => QI vs ρ) → wI (rngK ps ρ) QI X := by
  unfold rngK
  cases h : resA ρ ps with
  | none => exact fun q => q.elim
  | some ds =>
    simp only [wV]
    intro q
    unfold wG at q
    split at q
    · rename_i j
      obtain ⟨q1, q2, q3⟩ := q
      have e : (decide (-(2 ^ 62) ≤ j) && decide (j < 2 ^ 62)) = true := by simp only [Bool.and_eq_true, decide_eq_true_eq]; exact ⟨q1, q2⟩
      show wI (if (decide (-(2 ^ 62) ≤ j) && decide (j < 2 ^ 62)) = true then IR.ok (intsF 0 j.toNat) ρ else IR.bad) QI X
      rw [if_pos e]; exact q3
    · rename_i i j
      obtain ⟨q1, q2, q3, q4, q5⟩ := q
      have e : (decide (-(2 ^ 62) ≤ i) && decide (i < 2 ^ 62) && decide (-(2 ^ 62) ≤ j) && decide (j < 2 ^ 62)) = true := by simp only [Bool.and_eq_true, decide_eq_true_eq]; exact ⟨⟨⟨q1, q2⟩, q3⟩, q4⟩
      show wI (if (decide (-(2 ^ 62) ≤ i) && decide (i < 2 ^ 62) && decide (-(2 ^ 62) ≤ j) && decide (j < 2 ^ 62)) = true then IR.ok (intsF i (j - i).toNat) ρ else IR.bad) QI X
      rw [if_pos e]; exact q5
    · exact q.elim
theorem wI_rng (h : wA (evs os ρ) (fun ps ρ1 => wV (resA ρ1 ps) fun ds => wG ds fun vs => QI vs ρ1) X) : wI (mRng os ρ) QI X := by
  unfold mRng AR.it
  cases q : evs os ρ with
  | ok ps ρ1 => rw [q] at h; exact rng_w h
  | exn x ρ1 => rw [q] at h; exact h
  | bad => rw [q] at h; exact h
/-- a loop by what holds ahead of each round -/
theorem loop_inv {t : Tg} (I : List D → En → Prop) (h1 : ∀ d ds ρ, I (d :: ds) ρ → wV (asg t d ρ) fun ρ1 => wS (s ρ1) { P with nx := I ds, ct := I ds, bk := P.nx }) (h2 : ∀ ρ, I [] ρ → P.nx ρ) : ∀ (ds : List D) (ρ : En), I ds ρ → wS (loopS t s ds ρ) P
  | [], ρ, h => h2 ρ h
  | d :: ds, ρ, h => by
    have q := h1 d ds ρ h
    rw [loopS]
    cases e : asg t d ρ with
    | none => rw [e] at q; exact q.elim
    | some ρ1 =>
      rw [e] at q
      simp only [wV] at q
      show wS (match s ρ1 with | .nx ρ2 => loopS t s ds ρ2 | .ct ρ2 => loopS t s ds ρ2 | .bk ρ2 => .nx ρ2 | r => r) P
      cases e2 : s ρ1 with
      | nx ρ2 => rw [e2] at q; exact loop_inv I h1 h2 ds ρ2 q
      | ct ρ2 => rw [e2] at q; exact loop_inv I h1 h2 ds ρ2 q
      | bk ρ2 => rw [e2] at q; exact q
      | rt d ρ2 => rw [e2] at q; exact q
      | exn x ρ2 => rw [e2] at q; exact q
      | bad => rw [e2] at q; exact q
theorem wS_mono {r : SR} {P' : Pw} (h : wS r P) (h1 : ∀ ρ, P.nx ρ → P'.nx ρ) (h2 : ∀ d ρ, P.rt d ρ → P'.rt d ρ) (h3 : ∀ d ρ, P.xn d ρ → P'.xn d ρ) (h4 : ∀ ρ, P.bk ρ → P'.bk ρ) (h5 : ∀ ρ, P.ct ρ → P'.ct ρ) : wS r P' := by
  cases r with
  | bad => exact h
  | nx ρ => exact h1 _ h
  | rt d ρ => exact h2 _ _ h
  | bk ρ => exact h4 _ h
  | ct ρ => exact h5 _ h
  | exn x ρ => exact h3 _ _ h
/-- cut: what holds between two statements -/
theorem wS_cut {I : En → Prop} (h : wS (s1 ρ) { P with nx := I }) (h2 : ∀ ρ1, I ρ1 → wS (s2 ρ1) P) : wS (sSeq s1 s2 ρ) P := by
  rw [wS_seq]
  exact wS_mono h h2 (fun _ _ q => q) (fun _ _ q => q) (fun _ q => q) fun _ q => q
theorem wF_mono {r : FR} {Q' X' : D → List D → Prop} (h : wF r QF XF) (h1 : ∀ d is, QF d is → Q' d is) (h2 : ∀ d is, XF d is → X' d is) : wF r Q' X' := by
  cases r with
  | bad => exact h
  | ok d is => exact h1 _ _ h
  | exn x is => exact h2 _ _ h
theorem wE_mono {r : ER} (h : wE r Q X) (h1 : ∀ d ρ, Q d ρ → Q' d ρ) (h2 : ∀ d ρ, X d ρ → X' d ρ) : wE r Q' X' := by
  cases r with
  | bad => exact h
  | ok d is => exact h1 _ _ h
  | exn x is => exact h2 _ _ h
end
end Mr

/-! operations by their values -/
namespace Mr
open PySem PySem.Spec PyProof.Rows L2
section
variable {K : D → Prop} {i j : Int} {x y : Str} {ds es : List D} {p q : Bool} {d e : D}
theorem vo_addI : wV (oAdd [.int i, .int j]) K = K (.int (i + j)) := rfl
theorem vo_addS : wV (oAdd [.str x, .str y]) K = (x.length + y.length ≤ sizeLine ∧ K (.str (x ++ y))) := by
  by_cases h : x.length + y.length ≤ sizeLine <;> simp [oAdd, oAddS, oAddT, oAddL, h, wV]
theorem vo_addL : wV (oAdd [.list ds, .list es]) K = (ds.length + es.length ≤ sizeLine ∧ K (.list (ds ++ es))) := by
  by_cases h : ds.length + es.length ≤ sizeLine <;> simp [oAdd, oAddS, oAddT, oAddL, h, wV]
theorem vo_addT : wV (oAdd [.tuple ds, .tuple es]) K = (ds.length + es.length ≤ sizeLine ∧ K (.tuple (ds ++ es))) := by
  by_cases h : ds.length + es.length ≤ sizeLine <;> simp [oAdd, oAddS, oAddT, oAddL, h, wV]
theorem vo_addLL : wV (oAddL [.list ds, .list es]) K = (ds.length + es.length ≤ sizeLine ∧ K (.list (ds ++ es))) := by
  by_cases h : ds.length + es.length ≤ sizeLine <;> simp [oAddL, h, wV]
theorem vo_sub : wV (oSub [.int i, .int j]) K = K (.int (i - j)) := rfl
theorem vo_div : wV (oDiv [.int i, .int j]) K = ((j ≠ 0 ∧ j.natAbs < 1073741824) ∧ K (.int (i.fdiv j))) := by
  by_cases h : j ≠ 0 <;> by_cases h2 : j.natAbs < 1073741824 <;> simp [oDiv, oI, h, h2, wV]
theorem vo_mod : wV (oMod [.int i, .int j]) K = (j ≠ 0 ∧ K (.int (i.fmod j))) := by
  by_cases h : j ≠ 0 <;> simp [oMod, oI, h, wV]
theorem vo_pow : wV (oPow [.int i, .int j]) K = ((0 ≤ j ∧ j ≤ 1000000 ∧ i.natAbs < 18446744073709551616) ∧ K (.int (i ^ j.toNat))) := by
  by_cases h : 0 ≤ j <;> by_cases h2 : j ≤ 1000000 <;> by_cases h3 : i.natAbs < 18446744073709551616 <;> simp [oPow, oI, h, h2, h3, wV]
theorem vo_neg : wV (oNeg [.int i]) K = K (.int (-i)) := rfl
theorem vo_mulI (h : (-18446744073709551616 < i ∧ i < 18446744073709551616) ∨ (-18446744073709551616 < j ∧ j < 18446744073709551616)) (k : K (.int (i * j))) : wV (oMul [.int i, .int j]) K := by
  unfold oMul oMulI
  have e : ((decide (-(2 ^ 64) < i) && decide (i < 2 ^ 64)) || (decide (-(2 ^ 64) < j) && decide (j < 2 ^ 64))) = true := by
    simp only [Bool.or_eq_true, Bool.and_eq_true, decide_eq_true_eq]
    rcases h with ⟨a, b⟩ | ⟨a, b⟩
    · exact .inl ⟨a, b⟩
    · exact .inr ⟨a, b⟩
  simp only [e, if_true]
  exact k
theorem vo_mulIL : wV (oMul [.int i, .int j]) K = (((-18446744073709551616 < i ∧ i < 18446744073709551616) ∨ (-18446744073709551616 < j ∧ j < 18446744073709551616)) ∧ K (.int (i * j))) := by
  apply propext
  constructor
  · intro h
    by_cases c : (-18446744073709551616 < i ∧ i < 18446744073709551616) ∨ (-18446744073709551616 < j ∧ j < 18446744073709551616)
    · refine ⟨c, ?_⟩
      unfold oMul oMulI at h
      have e : ((decide (-(2 ^ 64) < i) && decide (i < 2 ^ 64)) || (decide (-(2 ^ 64) < j) && decide (j < 2 ^ 64))) = true := by
        simp only [Bool.or_eq_true, Bool.and_eq_true, decide_eq_true_eq]
        rcases c with ⟨a, b⟩ | ⟨a, b⟩
        · exact .inl ⟨a, b⟩
        · exact .inr ⟨a, b⟩
      simp only [e, if_true] at h
      exact h
    · unfold oMul oMulI oMulT oMulL at h
      have e : ¬ (((decide (-(2 ^ 64) < i) && decide (i < 2 ^ 64)) || (decide (-(2 ^ 64) < j) && decide (j < 2 ^ 64))) = true) := by
        simp only [Bool.or_eq_true, Bool.and_eq_true, decide_eq_true_eq]
        exact c
      simp only [if_neg e] at h
      exact h.elim
  · exact fun h => vo_mulI h.1 h.2
theorem vo_mulS : wV (oMul [.str x, .int j]) K = ((-9223372036854775808 ≤ j ∧ j < 9223372036854775808 ∧ x.length * j.toNat ≤ sizeLine) ∧ K (.str (repS x j.toNat))) := by
  by_cases h : -9223372036854775808 ≤ j <;> by_cases h2 : j < 9223372036854775808 <;> by_cases h3 : x.length * j.toNat ≤ sizeLine <;> simp [oMul, oMulI, oMulT, oMulL, h, h2, h3, wV]
theorem vo_mulL : wV (oMul [.list ds, .int j]) K = ((-9223372036854775808 ≤ j ∧ j < 9223372036854775808 ∧ ds.length * j.toNat ≤ sizeLine) ∧ K (.list (List.replicate j.toNat ds).flatten)) := by
  by_cases h : -9223372036854775808 ≤ j <;> by_cases h2 : j < 9223372036854775808 <;> by_cases h3 : ds.length * j.toNat ≤ sizeLine <;> simp [oMul, oMulI, oMulT, oMulL, h, h2, h3, wV]
theorem vo_lt : wV (cLt [.int i, .int j]) K = K (.bool (decide (i < j))) := rfl
theorem vo_le : wV (cLe [.int i, .int j]) K = K (.bool (decide (i ≤ j))) := rfl
theorem vo_gt : wV (cGt [.int i, .int j]) K = K (.bool (decide (j < i))) := rfl
theorem vo_ge : wV (cGe [.int i, .int j]) K = K (.bool (decide (j ≤ i))) := rfl
theorem vo_eq : wV (oEq [d, e]) K = ((cmpB d = true ∧ cmpB e = true) ∧ K (.bool (PyData.eqv d e))) := by
  by_cases h : cmpB d = true <;> by_cases h2 : cmpB e = true <;> simp [oEq, h, h2, wV]
theorem vo_ne : wV (oNe [d, e]) K = ((cmpB d = true ∧ cmpB e = true) ∧ K (.bool (!PyData.eqv d e))) := by
  by_cases h : cmpB d = true <;> by_cases h2 : cmpB e = true <;> simp [oNe, h, h2, wV]
theorem eqv_int : PyData.eqv (.int i) (.int j) = decide (i = j) := by
  rw [Bool.eq_iff_iff]; simp [PyData.eqv]
theorem eqv_str : PyData.eqv (.str x) (.str y) = decide (x = y) := by
  rw [Bool.eq_iff_iff]; simp [PyData.eqv]
theorem eqv_bool : PyData.eqv (.bool p) (.bool q) = decide (p = q) := by
  cases p <;> cases q <;> rfl
theorem vo_eqI : wV (oEq [.int i, .int j]) K = K (.bool (decide (i = j))) := by rw [vo_eq, eqv_int]; exact propext ⟨fun h => h.2, fun h => ⟨⟨rfl, rfl⟩, h⟩⟩
theorem vo_neI : wV (oNe [.int i, .int j]) K = K (.bool (!decide (i = j))) := by rw [vo_ne, eqv_int]; exact propext ⟨fun h => h.2, fun h => ⟨⟨rfl, rfl⟩, h⟩⟩
theorem cmp_str : (cmpB (.str x) = true) = (PyData.strOk x = true) := by simp [cmpB, plain, SeqAt.shaped, PyData.canLay0, PyData.depth]
theorem vo_eqS : wV (oEq [.str x, .str y]) K = ((PyData.strOk x = true ∧ PyData.strOk y = true) ∧ K (.bool (decide (x = y)))) := by rw [vo_eq, eqv_str, cmp_str, cmp_str]
theorem vo_neS : wV (oNe [.str x, .str y]) K = ((PyData.strOk x = true ∧ PyData.strOk y = true) ∧ K (.bool (!decide (x = y)))) := by rw [vo_ne, eqv_str, cmp_str, cmp_str]
theorem vo_eqB : wV (oEq [.bool p, .bool q]) K = K (.bool (decide (p = q))) := by rw [vo_eq, eqv_bool]; exact propext ⟨fun h => h.2, fun h => ⟨⟨rfl, rfl⟩, h⟩⟩
theorem vo_neB : wV (oNe [.bool p, .bool q]) K = K (.bool (!decide (p = q))) := by rw [vo_ne, eqv_bool]; exact propext ⟨fun h => h.2, fun h => ⟨⟨rfl, rfl⟩, h⟩⟩
def isNon : D → Bool
  | .none => true
  | _ => false
def isBl (b : Bool) : D → Bool
  | .bool a => a == b
  | _ => false
theorem vo_isN : wV (oIs [d, .none]) K = K (.bool (isNon d)) := by cases d <;> rfl
theorem vo_isB : wV (oIs [d, .bool p]) K = K (.bool (isBl p d)) := by cases d <;> rfl
theorem vo_isNotN : wV (oIsNot [d, .none]) K = K (.bool (!isNon d)) := by cases d <;> rfl
theorem vo_isNotB : wV (oIsNot [d, .bool p]) K = K (.bool (!isBl p d)) := by cases d <;> rfl
theorem vo_lenL : wV (oLen [.list ds]) K = K (.int ds.length) := rfl
theorem vo_lenT : wV (oLen [.tuple ds]) K = K (.int ds.length) := rfl
theorem vo_lenS : wV (oLen [.str x]) K = (x.length ≤ sizeLine ∧ K (.int x.length)) := by
  by_cases h : x.length ≤ sizeLine <;> simp [oLen, h, wV]
theorem vo_intI : wV (oInt [.int i]) K = K (.int i) := rfl
theorem vo_ixL : wV (oIx [.list ds, .int i]) K = wV (atI ds i) K := rfl
theorem vo_ixT : wV (oIx [.tuple ds, .int i]) K = wV (atI ds i) K := rfl
theorem vo_ixS : wV (oIx [.str x, .int i]) K = (x.length ≤ sizeLine ∧ wV (atI x.cps.toList i) fun c => K (.str ⟨#[c]⟩)) := by
  by_cases h : x.length ≤ sizeLine
  · simp only [oIx, h, if_true, true_and]; cases atI x.cps.toList i <;> rfl
  · simp [oIx, h, wV]
theorem vo_max : wV (oMax2 [.int i, .int j]) K = K (.int (if j > i then j else i)) := rfl
theorem vo_min : wV (oMin2 [.int i, .int j]) K = K (.int (if j < i then j else i)) := rfl
theorem vo_abs : wV (oAbs [.int i]) K = K (.int (if i < 0 then -i else i)) := rfl
theorem vo_tupL : wV (oTuple [.list ds]) K = K (.tuple ds) := rfl
theorem vo_tupT : wV (oTuple [.tuple ds]) K = K (.tuple ds) := rfl
theorem vo_lstL : wV (oList [.list ds]) K = K (.list ds) := rfl
theorem vo_lstT : wV (oList [.tuple ds]) K = K (.list ds) := rfl
theorem vo_truB : wV (tru [.bool p]) K = K (.bool p) := rfl
theorem vo_truI : wV (tru [.int i]) K = K (.bool (i != 0)) := rfl
theorem vo_truL : wV (tru [.list ds]) K = K (.bool (!ds.isEmpty)) := rfl
theorem vo_truT : wV (tru [.tuple ds]) K = K (.bool (!ds.isEmpty)) := rfl
def noDct : D → Bool
  | .dict _ => false
  | _ => true
theorem vo_isK {f : D → Bool} : wV (oIsK f [d]) K = (noDct d = true ∧ K (.bool (f d))) := by
  cases d <;> simp [oIsK, noDct, wV]
theorem vo_inS : wV (oIn [.str x, .str y]) K = K (.bool (subS x y)) := rfl
theorem vo_notInS : wV (oNotIn [.str x, .str y]) K = K (.bool (!subS x y)) := rfl
theorem vo_repr : wV (oRepr [d]) K = ((cmpB d = true ∧ PyData.showable d = true ∧ d.shown.length ≤ sizeLine) ∧ K (.str d.shown)) := by
  by_cases h : cmpB d = true <;> by_cases h2 : PyData.showable d = true <;> by_cases h3 : d.shown.length ≤ sizeLine <;> simp [oRepr, h, h2, h3, wV]
theorem vo_all : wV (oAll [.list ds]) K = wV (allBool ds) fun bs => K (.bool (bs.all id)) := by
  unfold oAll; rw [wV_map]
theorem vo_any : wV (oAny [.list ds]) K = wV (allBool ds) fun bs => K (.bool (bs.any id)) := by
  unfold oAny; rw [wV_map]
theorem vo_sum : wV (oSum [.list ds]) K = wV (allInt ds) fun bs => K (.int bs.sum) := by
  unfold oSum; rw [wV_map]
theorem u_append {K : List D × D → Prop} : wV (uAppend es [d]) K = (es.length < sizeLine ∧ K (es ++ [d], .none)) := by
  by_cases h : es.length < sizeLine <;> simp [uAppend, h, wV]
theorem u_pop {K : List D × D → Prop} : wV (uPop es []) K = wV (es[es.length - 1]?) fun d => K (es.dropLast, d) := by
  unfold uPop; rw [wV_map]
theorem u_insert {K : List D × D → Prop} : wV (uInsert es [.int i, d]) K = ((es.length < sizeLine ∧ 0 ≤ i ∧ i < 9223372036854775808) ∧ K (es.take i.toNat ++ [d] ++ es.drop i.toNat, .none)) := by
  by_cases h : es.length < sizeLine <;> by_cases h2 : 0 ≤ i <;> by_cases h3 : i < 9223372036854775808 <;> simp [uInsert, h, h2, h3, wV]
theorem u_reverse {K : List D × D → Prop} : wV (uReverse es []) K = K (es.reverse, .none) := rfl
/-! ### slices -/
def wP : PR → (Option Int → En → Prop) → (D → En → Prop) → Prop
  | .ok z ρ, Q, _ => Q z ρ
  | .exn x ρ, _, X => X x ρ
  | .bad, _, _ => False
variable {ρ : En} {Q : D → En → Prop} {X : D → En → Prop} {QP : Option Int → En → Prop} {o A : Opd} {B C : Option Opd}
theorem wP_none : wP (partO none ρ) QP X = QP none ρ := rfl
theorem wP_some : wP (partO (some o) ρ) QP X = wO (evO o ρ) (fun p ρ1 => wV (res ρ1 p) fun d => wZ d fun i => QP (some i) ρ1) X := by
  rw [partO]
  cases h : evO o ρ with
  | ok p ρ1 =>
    simp only [wO]
    cases h2 : res ρ1 p with
    | none => rfl
    | some d => cases d <;> rfl
  | _ => rfl
theorem wE_sl : wE (mSl A B C ρ) Q X = wO (evO A ρ) (fun p ρ1 => wP (partO B ρ1) (fun lo ρ2 => wP (partO C ρ2) (fun hi ρ3 => wV (res ρ3 p) fun d => wV (slD d lo hi) fun d => Q d ρ3) X) X) X := by
  unfold mSl
  cases h : evO A ρ with
  | ok p ρ1 =>
    simp only [wO]
    cases h2 : partO B ρ1 with
    | ok lo ρ2 =>
      simp only [wP]
      cases h3 : partO C ρ2 with
      | ok hi ρ3 =>
        simp only [wP]
        cases h4 : res ρ3 p with
        | none => rfl
        | some d => simp only [Option.bind_some, wV]; cases slD d lo hi <;> rfl
      | _ => rfl
    | _ => rfl
  | _ => rfl
theorem vo_slL {lo hi : Option Int} : wV (slD (.list ds) lo hi) K = K (.list (cutD ds lo hi)) := rfl
theorem vo_slT {lo hi : Option Int} : wV (slD (.tuple ds) lo hi) K = K (.tuple (cutD ds lo hi)) := rfl
theorem vo_slS {lo hi : Option Int} : wV (slD (.str x) lo hi) K = (x.length ≤ sizeLine ∧ K (.str (cutS x lo hi))) := by
  by_cases h : x.length ≤ sizeLine <;> simp [slD, h, wV]
/-! ### items -/
theorem atI_w {α : Type} {xs : List α} {K : α → Prop} (h0 : 0 ≤ i) (h1 : i < xs.length) (k : ∀ x, xs[i.toNat]? = some x → x ∈ xs → K x) : wV (atI xs i) K := by
  have e : atI xs i = some (xs[i.toNat]'(by omega)) := by
    have := atI_nat (xs := xs) (j := i.toNat) (v := xs[i.toNat]'(by omega)) (List.getElem?_eq_getElem _)
    rwa [Int.toNat_of_nonneg h0] at this
  rw [e]
  exact k _ (List.getElem?_eq_getElem _) (List.getElem_mem _)
theorem at0 {α : Type} {a : α} {l : List α} : atI (a :: l) 0 = some a := atI_nat (j := 0) rfl
theorem at1 {α : Type} {a b : α} {l : List α} : atI (a :: b :: l) 1 = some b := atI_nat (j := 1) rfl
theorem at2 {α : Type} {a b c : α} {l : List α} : atI (a :: b :: c :: l) 2 = some c := atI_nat (j := 2) rfl
theorem at3 {α : Type} {a b c d : α} {l : List α} : atI (a :: b :: c :: d :: l) 3 = some d := atI_nat (j := 3) rfl
theorem at4 {α : Type} {a b c d e : α} {l : List α} : atI (a :: b :: c :: d :: e :: l) 4 = some e := atI_nat (j := 4) rfl
theorem ix51 : ixN 5 1 = some 1 := rfl
theorem ix52 : ixN 5 2 = some 2 := rfl
theorem ix53 : ixN 5 3 = some 3 := rfl
theorem ix54 : ixN 5 4 = some 4 := rfl
end
end Mr

/-! data that may be shown and compared -/
namespace Mr
open PySem PySem.Spec PyProof.Rows L2
theorem subS_one (c : Nat) (x : Str) : subS ⟨#[c]⟩ x = decide (c ∈ x.cps.toList) := StrLaws.found_one x c
def Ok (x : Str) : Prop := ∀ c ∈ x.cps.toList, c < 0x110000
theorem ok_iff {x : Str} : PyData.strOk x = true ↔ Ok x := by
  unfold PyData.strOk Ok
  rw [Array.all_eq_true_iff_forall_mem]
  constructor
  · intro h c hc; have := h c (Array.mem_toList_iff.mp hc); simpa using this
  · intro h c hc; have := h c (Array.mem_toList_iff.mpr hc); simpa using this
theorem ok_app {x y : Str} (hx : Ok x) (hy : Ok y) : Ok (x ++ y) := fun c hc => by
  rcases mem_cps_append.mp hc with h | h
  · exact hx c h
  · exact hy c h
theorem okS_of (s : String) : Ok (Str.ofString s) := fun c hc => by
  rw [signs_ofString] at hc
  obtain ⟨d, _, rfl⟩ := List.mem_map.mp hc
  have := d.valid
  rcases this with h | ⟨_, h⟩
  · exact Nat.lt_trans h (by decide)
  · exact h
theorem ok_one {c : Nat} (h : c < 0x110000) : Ok ⟨#[c]⟩ := fun d hd => by
  have : d = c := by simpa using hd
  rw [this]; exact h
theorem ok_empty : Ok Str.empty := fun d hd => by simp [Str.empty] at hd
theorem char_lt (d : Char) : d.toNat < 0x110000 := by
  rcases d.valid with h | ⟨_, h⟩
  · exact Nat.lt_trans h (by decide)
  · exact h
theorem rc_ok {q c : Nat} (hc : c < 0x110000) : ∀ d ∈ Builtin.Str.reprChar q c, d < 0x110000 := by
  have hx : ∀ w, ∀ d ∈ (List.replicate (w - ((Nat.toDigits 16 c).map Char.toNat).length) 48 ++ (Nat.toDigits 16 c).map Char.toNat), d < 0x110000 := fun w d hd => by
    rcases List.mem_append.mp hd with h | h
    · rw [(List.mem_replicate.mp h).2]; decide
    · obtain ⟨z, _, rfl⟩ := List.mem_map.mp h; exact char_lt z
  unfold Builtin.Str.reprChar
  dsimp only
  intro d hd
  repeat' split at hd
  · rcases List.mem_cons.mp hd with h | h
    · omega
    · have := List.mem_singleton.mp h; omega
  · simp at hd; omega
  · simp at hd; omega
  · simp at hd; omega
  · simp at hd; omega
  · rcases List.mem_append.mp hd with h | h
    · simp at h; omega
    · exact hx 2 d h
  · rcases List.mem_append.mp hd with h | h
    · simp at h; omega
    · exact hx 4 d h
  · rcases List.mem_append.mp hd with h | h
    · simp at h; omega
    · exact hx 8 d h
theorem rq_ok (x : Str) : PySem.reprQuote x < 0x110000 := by
  unfold PySem.reprQuote
  split <;> decide
theorem fold_ok (q : Nat) : ∀ (l : List Nat) (acc : Array Nat), (∀ c ∈ l, c < 0x110000) → (∀ c ∈ acc.toList, c < 0x110000) → ∀ c ∈ (l.foldl (fun out c => out ++ (Builtin.Str.reprChar q c).toArray) acc).toList, c < 0x110000
  | [], acc, _, h => h
  | c :: r, acc, hl, h => by
    rw [List.foldl_cons]
    refine fold_ok q r _ (fun d hd => hl d (List.mem_cons_of_mem _ hd)) fun d hd => ?_
    rw [Array.toList_append] at hd
    rcases List.mem_append.mp hd with z | z
    · exact h d z
    · exact rc_ok (hl c List.mem_cons_self) d (by simpa using z)
theorem repr_ok {x : Str} (h : Ok x) : Ok (reprText x) := by
  intro c hc
  unfold reprText at hc
  rw [← Array.foldl_toList] at hc
  simp only [Array.toList_push] at hc
  rcases List.mem_append.mp hc with z | z
  · exact fold_ok _ _ _ h (fun d hd => by have : d = PySem.reprQuote x := by simpa using hd
                                          rw [this]; exact rq_ok x) c z
  · rw [List.mem_singleton.mp z]; exact rq_ok x
theorem join_ok {s : Str} (hs : Ok s) : ∀ ts : List Str, (∀ t ∈ ts, Ok t) → Ok (Str.join s ts) := fun ts h c hc => by
  rcases (mem_join s c ts).mp hc with ⟨t, ht, z⟩ | ⟨_, z⟩
  · exact h t ht c z
  · exact hs c z
mutual
theorem shown_ok : ∀ d : D, d.canLay0 = true → Ok d.shown
  | .none, _ => by rw [PyData.shown_none]; exact okS_of _
  | .bool b, _ => by rw [PyData.shown_bool]; cases b <;> exact okS_of _
  | .int i, _ => by rw [PyData.shown_int]; exact okS_of _
  | .str x, h => by rw [PyData.shown_str]; exact repr_ok (ok_iff.mp (by simpa [PyData.canLay0] using h))
  | .list xs, h => by rw [PyData.shown_list]; exact ok_app (ok_app (okS_of _) (join_ok (okS_of _) _ (shownA_ok xs (by simpa [PyData.canLay0] using h)))) (okS_of _)
  | .tuple xs, h => by
    rw [PyData.shown_tuple]
    exact ok_app (ok_app (okS_of _) (join_ok (okS_of _) _ (shownA_ok xs (by simpa [PyData.canLay0] using h)))) (okS_of _)
  | .dict _, h => by simp [PyData.canLay0] at h
theorem shownA_ok : ∀ xs : List D, PyData.canLayAll0 xs = true → ∀ t ∈ PyData.shownAll xs, Ok t
  | [], _ => fun t ht => by simp [PyData.shownAll] at ht
  | x :: xs, h => fun t ht => by
    simp only [PyData.canLayAll0, Bool.and_eq_true] at h
    rw [PyData.shownAll_cons] at ht
    rcases List.mem_cons.mp ht with e | e
    · rw [e]; exact shown_ok x h.1
    · exact shownA_ok xs h.2 t e
end
/-- fit to be shown: at most k deep, of weight w -/
structure Fit (k w : Nat) (d : D) : Prop where
  lay : d.canLay0 = true
  dep : d.depth ≤ k
  lv : d.leavesShort 24 = true
  sh : d.showable = true
  wt : d.weight ≤ w
theorem Fit.mono {k w k' w' : Nat} {d : D} (h : Fit k w d) (hk : k ≤ k') (hw : w ≤ w') : Fit k' w' d := ⟨h.lay, Nat.le_trans h.dep hk, h.lv, h.sh, Nat.le_trans h.wt hw⟩
theorem fit_none {k w : Nat} : Fit k w .none := ⟨rfl, by simp [PyData.depth], by simp [PyData.leavesShort], by simp [PyData.showable], by simp [PyData.weight]⟩
theorem fit_bool {k w : Nat} {b : Bool} : Fit k w (.bool b) := ⟨rfl, by simp [PyData.depth], by simp [PyData.leavesShort], by simp [PyData.showable], by simp [PyData.weight]⟩
theorem fit_str {k w : Nat} {x : Str} (h : Ok x) (hl : x.length ≤ w) : Fit k w (.str x) :=
  ⟨by simp only [PyData.canLay0]; exact ok_iff.mpr h, by simp [PyData.depth], by
    simp only [PyData.leavesShort, List.all_eq_true, decide_eq_true_eq]
    intro c hc
    have := h c hc
    have e : (16 : Nat) ^ 8 = 4294967296 := by decide
    omega, by simp [PyData.showable], by simp only [PyData.weight]; exact hl⟩
theorem fit_int {k : Nat} {i : Int} (h : i.natAbs < 10 ^ 21) : Fit k 70 (.int i) := by
  have hlog : i ≠ 0 → i.natAbs.log2 < 70 := fun hz => (Nat.log2_lt (by omega)).mpr (Nat.lt_trans h (by decide))
  refine ⟨rfl, by simp [PyData.depth], ?_, ?_, ?_⟩
  · simp only [PyData.leavesShort, decide_eq_true_eq]
    have e := int_text_length_le10 (k := 21) (by decide) h
    show (Str.ofString (toString i)).length ≤ 24
    rw [PySem.ofString_length]; omega
  · simp only [PyData.showable, decide_eq_true_eq]
    by_cases hz : i = 0
    · subst hz; decide
    · have := hlog hz; omega
  · simp only [PyData.weight]
    by_cases hz : i = 0
    · simp [hz]
    · have := hlog hz
      have e : (i == 0) = false := by simpa using hz
      rw [e]; simp; omega
theorem fits_all {k w : Nat} : ∀ {ds : List D}, (∀ d ∈ ds, Fit k w d) → PyData.canLayAll0 ds = true ∧ PyData.depthAll ds ≤ k ∧ PyData.leavesShortAll 24 ds = true ∧ PyData.showableAll ds = true ∧ PyData.weightAll ds ≤ (w + 1) * ds.length
  | [], _ => ⟨rfl, by simp [PyData.depthAll], rfl, rfl, by simp [PyData.weightAll]⟩
  | d :: ds, h => by
    obtain ⟨h1, h2, h3, h4, h5⟩ := fits_all (fun e he => h e (List.mem_cons_of_mem _ he))
    have hd := h d List.mem_cons_self
    refine ⟨by simp [PyData.canLayAll0, h1, hd.lay], ?_, by simp [PyData.leavesShortAll, h3, hd.lv], by simp [PyData.showableAll, h4, hd.sh], ?_⟩
    · have := hd.dep; simp only [PyData.depthAll]; omega
    · have := hd.wt
      simp only [PyData.weightAll, List.length_cons, Nat.mul_add, Nat.mul_one]
      omega
theorem fit_list {k w : Nat} {ds : List D} (h : ∀ d ∈ ds, Fit k w d) : Fit (k + 1) ((w + 1) * ds.length) (.list ds) := by
  obtain ⟨h1, h2, h3, h4, h5⟩ := fits_all h
  exact ⟨by simpa only [PyData.canLay0] using h1, by simp only [PyData.depth]; omega, by simpa only [PyData.leavesShort] using h3, by simpa only [PyData.showable] using h4, by simpa only [PyData.weight] using h5⟩
theorem fit_tup {k w : Nat} {ds : List D} (h : ∀ d ∈ ds, Fit k w d) : Fit (k + 1) ((w + 1) * ds.length) (.tuple ds) := by
  obtain ⟨h1, h2, h3, h4, h5⟩ := fits_all h
  exact ⟨by simpa only [PyData.canLay0] using h1, by simp only [PyData.depth]; omega, by simpa only [PyData.leavesShort] using h3, by simpa only [PyData.showable] using h4, by simpa only [PyData.weight] using h5⟩
theorem fit_of_tup {k w : Nat} {ds : List D} (h : Fit k w (.list ds)) : Fit k w (.tuple ds) :=
  ⟨by simpa only [PyData.canLay0] using h.lay, by simpa only [PyData.depth] using h.dep, by simpa only [PyData.leavesShort] using h.lv, by simpa only [PyData.showable] using h.sh, by simpa only [PyData.weight] using h.wt⟩
mutual
theorem plain_of_lay : ∀ d : D, d.canLay0 = true → plain d = true
  | .none, _ => by simp [plain]
  | .bool _, _ => by simp [plain]
  | .int _, _ => by simp [plain]
  | .str _, _ => by simp [plain]
  | .list xs, h => by simp only [plain]; exact plainAll_of_lay xs (by simpa [PyData.canLay0] using h)
  | .tuple xs, h => by simp only [plain]; exact plainAll_of_lay xs (by simpa [PyData.canLay0] using h)
  | .dict _, h => by simp [PyData.canLay0] at h
theorem plainAll_of_lay : ∀ xs : List D, PyData.canLayAll0 xs = true → plainAll xs = true
  | [], _ => rfl
  | x :: xs, h => by
    simp only [PyData.canLayAll0, Bool.and_eq_true] at h
    simp only [plainAll, Bool.and_eq_true]
    exact ⟨plain_of_lay x h.1, plainAll_of_lay xs h.2⟩
end
theorem Fit.cmp {k w : Nat} {d : D} (h : Fit k w d) (hk : k ≤ 64) : cmpB d = true := by
  unfold cmpB SeqAt.shaped
  rw [plain_of_lay d h.lay, h.lay]
  have := h.dep
  simp; omega
theorem Fit.short {k w : Nat} {d : D} (h : Fit k w d) (hw : w ≤ 600000) : d.shown.length ≤ sizeLine := by
  have h1 := PyData.shown_le 24 (by decide) d h.lv
  have h2 := h.wt
  have e : sizeLine = 16777216 := rfl
  rw [e]; omega
theorem cmp_strs {xs : List Str} (h : ∀ x ∈ xs, Ok x) : cmpB (.list (xs.map .str)) = true := by
  have h2 : ∀ ys : List Str, (∀ x ∈ ys, Ok x) → PyData.canLayAll0 (ys.map .str) = true ∧ PyData.depthAll (ys.map .str) = 0 := by
    intro ys
    induction ys with
    | nil => exact fun _ => ⟨rfl, by simp [PyData.depthAll]⟩
    | cons y ys ih =>
      intro h
      obtain ⟨a, b⟩ := ih fun x hx => h x (List.mem_cons_of_mem _ hx)
      simp only [List.map_cons, PyData.canLayAll0, PyData.canLay0, PyData.depthAll, PyData.depth, a, b, ok_iff.mpr (h y List.mem_cons_self)]
      exact ⟨rfl, rfl⟩
  obtain ⟨a, b⟩ := h2 xs h
  have a' : (PyData.list (xs.map .str)).canLay0 = true := by simpa only [PyData.canLay0] using a
  unfold cmpB SeqAt.shaped
  rw [plain_of_lay _ a', a']
  simp only [PyData.depth, b]
  decide
end Mr

/-! comprehensions, iteration -/
namespace Mr
open PySem PySem.Spec PyProof.Rows L2
def wLc (t : Tg) (cnd el : ME) (ds acc : List D) (ρ : En) (K : List D → En → Prop) (_ : Lk K) (_ : Lk cnd) (_ : Lk el) : Prop := ∃ acc' ρ', loopC t cnd el ds acc ρ = some (acc', ρ') ∧ K acc' ρ'
section
variable {ρ : En} {Q : D → En → Prop} {X : D → En → Prop} {mi : MI} {t : Tg} {vs : List Nat} {cnd el : ME} {K : List D → Prop}
theorem wE_lc : wE (mLc mi t vs cnd el ρ) Q X = wI (mi ρ) (fun ds ρ1 => wLc t cnd el ds [] ρ1 (fun acc ρ2 => Q (.list acc) (restE ρ1 vs ρ2)) ⟨⟩ ⟨⟩ ⟨⟩) X := by
  unfold mLc
  cases mi ρ with
  | ok ds ρ1 =>
    simp only [wI, wLc]
    cases h : loopC t cnd el ds [] ρ1 with
    | none => simp [wE]
    | some p =>
      obtain ⟨a, r⟩ := p
      exact propext ⟨fun q => ⟨a, r, rfl, q⟩, fun ⟨_, _, e, q⟩ => by cases e; exact q⟩
  | _ => rfl
theorem lc_inv {K : List D → En → Prop} (I : List D → List D → En → Prop)
    (h1 : ∀ d ds acc ρ, I (d :: ds) acc ρ → wV (asg t d ρ) fun ρ1 => wE (cnd ρ1) (fun c ρ2 => wB c fun z => (z = true → wE (el ρ2) (fun e ρ3 => acc.length < sizeLine ∧ I ds (acc ++ [e]) ρ3) fun _ _ => False) ∧ (z = false → I ds acc ρ2)) fun _ _ => False)
    (h2 : ∀ acc ρ, I [] acc ρ → K acc ρ) : ∀ (ds acc : List D) (ρ : En), I ds acc ρ → wLc t cnd el ds acc ρ K ⟨⟩ ⟨⟩ ⟨⟩
  | [], acc, ρ, h => ⟨acc, ρ, rfl, h2 _ _ h⟩
  | d :: ds, acc, ρ, h => by
    have q := h1 d ds acc ρ h
    unfold wLc
    rw [loopC]
    cases e : asg t d ρ with
    | none => rw [e] at q; exact q.elim
    | some ρ1 =>
      rw [e] at q
      simp only [wV] at q
      simp only []
      cases e2 : cnd ρ1 with
      | bad => rw [e2] at q; exact q.elim
      | exn x r => rw [e2] at q; exact q.elim
      | ok c ρ2 =>
        rw [e2] at q
        cases c with
        | bool z =>
          simp only [wE, wB] at q
          cases z with
          | false =>
            simp only [Bool.false_eq_true, if_false]
            exact lc_inv I h1 h2 ds acc ρ2 (q.2 rfl)
          | true =>
            have q2 := q.1 rfl
            simp only [if_true]
            cases e3 : el ρ2 with
            | bad => rw [e3] at q2; exact q2.elim
            | exn x r => rw [e3] at q2; exact q2.elim
            | ok e ρ3 =>
              rw [e3] at q2
              simp only [if_pos q2.1]
              exact lc_inv I h1 h2 ds (acc ++ [e]) ρ3 q2.2
        | _ => exact q.elim
theorem it_str {x : Str} : wV (itD (.str x)) K = K (signs x) := rfl
theorem it_lst {x : List D} : wV (itD (.list x)) K = K x := rfl
theorem it_tup {x : List D} : wV (itD (.tuple x)) K = K x := rfl
theorem mem_intsF {lo : Int} {n : Nat} {d : D} (h : d ∈ intsF lo n) : ∃ k : Nat, k < n ∧ d = .int (lo + k) := by
  unfold intsF at h
  obtain ⟨k, hk, rfl⟩ := List.mem_map.mp h
  exact ⟨k, List.mem_range.mp hk, rfl⟩
theorem len_intsF {lo : Int} {n : Nat} : (intsF lo n).length = n := by simp [intsF]
theorem len_signs {x : Str} : (signs x).length = x.length := by simp [signs, Str.length]
theorem mem_signs {x : Str} {d : D} (h : d ∈ signs x) : ∃ c, c ∈ x.cps.toList ∧ d = .str ⟨#[c]⟩ := by
  unfold signs at h
  obtain ⟨c, hc, rfl⟩ := List.mem_map.mp h
  exact ⟨c, hc, rfl⟩
theorem restE_nil {ρ0 : En} : restE ρ0 [] ρ = ρ := rfl
theorem restE_cons {ρ0 : En} {v : Nat} : restE ρ0 (v :: vs) ρ = (restE ρ0 vs ρ).set v (ρ0[v]?.join) := rfl
theorem noDct_lay {d : D} (h : d.canLay0 = true) : noDct d = true := by
  cases d with
  | dict _ => simp [PyData.canLay0] at h
  | _ => rfl
end
end Mr

/-! texts in order -/
namespace Mr
open PySem PySem.Spec PyProof.Rows L2
def leS (a b : Str) : Bool := !ltS b a
def sortStr (xs : List Str) : List Str := xs.mergeSort leS
theorem leS_iff {a b : Str} : leS a b = true ↔ a.cps.toList ≤ b.cps.toList := by
  unfold leS ltS
  rw [Bool.not_eq_true', decide_eq_false_iff_not]
  exact List.not_lt
theorem leS_trans {a b c : Str} (h : leS a b = true) (h2 : leS b c = true) : leS a c = true := leS_iff.mpr (List.le_trans (leS_iff.mp h) (leS_iff.mp h2))
theorem leS_total (a b : Str) : (leS a b || leS b a) = true := by
  rw [Bool.or_eq_true]
  rcases List.le_total a.cps.toList b.cps.toList with h | h
  · exact .inl (leS_iff.mpr h)
  · exact .inr (leS_iff.mpr h)
theorem leS_anti {a b : Str} (h : leS a b = true) (h2 : leS b a = true) : a = b := by
  have e := List.le_antisymm (leS_iff.mp h) (leS_iff.mp h2)
  cases a; cases b
  simp only [Str.mk.injEq]
  exact Array.toList_inj.mp e
theorem rising_pw : ∀ (l : List Str) (p : Str), risingS p l = true → (p :: l).Pairwise (fun a b => leS a b = true)
  | [], p, _ => List.pairwise_cons.mpr ⟨fun a h => by simp at h, .nil⟩
  | x :: r, p, h => by
    have h : (!ltCps x.cps.toList p.cps.toList && risingS x r) = true := h
    rw [Bool.and_eq_true] at h
    have ih := rising_pw r x h.2
    have h1 : leS p x = true := by
      unfold leS ltS
      rw [← ltCps_eq]; exact h.1
    refine List.pairwise_cons.mpr ⟨fun a ha => ?_, ih⟩
    rcases List.mem_cons.mp ha with e | e
    · rw [e]; exact h1
    · exact leS_trans h1 ((List.pairwise_cons.mp ih).1 a e)
theorem sortedS_pw {l : List Str} (h : sortedS l = true) : l.Pairwise (fun a b => leS a b = true) := by
  cases l with
  | nil => exact .nil
  | cons x r => exact rising_pw r x h
theorem perm_pw : ∀ {l l' : List Str}, l.Perm l' → l.Pairwise (fun a b => leS a b = true) → l'.Pairwise (fun a b => leS a b = true) → l = l'
  | [], l', p, _, _ => (List.Perm.eq_nil p.symm).symm
  | x :: r, [], p, _, _ => absurd (List.Perm.eq_nil p) (by simp)
  | x :: r, y :: t, p, h1, h2 => by
    have hx : x ∈ y :: t := p.subset List.mem_cons_self
    have hy : y ∈ x :: r := p.symm.subset List.mem_cons_self
    have e : x = y := by
      rcases List.mem_cons.mp hx with e | e
      · exact e
      · rcases List.mem_cons.mp hy with e2 | e2
        · exact e2.symm
        · exact leS_anti ((List.pairwise_cons.mp h1).1 y e2) ((List.pairwise_cons.mp h2).1 x e)
    subst e
    rw [perm_pw ((List.perm_cons x).mp p) (List.pairwise_cons.mp h1).2 (List.pairwise_cons.mp h2).2]
theorem sort_eq {xs ys : List Str} (p : ys.Perm xs) (h : sortedS ys = true) : ys = sortStr xs :=
  perm_pw (p.trans (List.mergeSort_perm xs leS).symm) (sortedS_pw h) (List.pairwise_mergeSort (le := leS) (fun _ _ _ => leS_trans) leS_total xs)
def allStr : List D → Option (List Str)
  | [] => some []
  | .str b :: ds => (allStr ds).map (b :: ·)
  | _ => none
section
variable {K : Fr} {mg : Mg} {F H : Hp}
theorem allStr_ok : ∀ {ds : List D} {bs : List Str} {xs : List V}, allStr ds = some bs → RpA K mg F xs ds → xs = bs.map V.str
  | [], bs, xs, h, r => by cases h; cases r; rfl
  | d :: ds, bs, xs, h, r => by
    cases d with
    | str b =>
      simp only [allStr] at h
      cases q : allStr ds with
      | none => rw [q] at h; cases h
      | some bs' =>
        rw [q] at h; cases h
        cases r with
        | cons r1 r2 => cases r1; rw [allStr_ok q r2]; rfl
    | _ => cases h
theorem rpA_strs : ∀ bs : List Str, RpA K mg F (bs.map V.str) (bs.map PyData.str)
  | [] => .nil
  | b :: bs => .cons (.str b) (rpA_strs bs)
def oSort : List D → Option D
  | [.list ds] => if ds.length < 64 then (allStr ds).map fun bs => .list ((sortStr bs).map .str) else none
  | _ => none
theorem ado_sort : AdO K mg (rSortedS K) oSort := fun F H vs ds d Q e b hd k => by
  unfold oSort at hd
  split at hd
  · rename_i ds'
    split at hd
    · rename_i hl
      cases q : allStr ds' with
      | none => rw [q] at hd; cases hd
      | some bs =>
        rw [q] at hd; cases hd
        obtain ⟨x, rfl, bx⟩ := bva1 b
        obtain ⟨a, xs, rfl, hs, ra⟩ := bx.list e
        have ex := allStr_ok q ra
        subst ex
        have hlen : bs.length < 64 := by
          have := ra.length
          rw [List.length_map] at this; omega
        refine ⟨a, bs, rfl, hs.sql, hlen, fun ys p hp hsd hn => ?_⟩
        rw [sort_eq hp hsd]
        exact k p _ F H (Ext.refl e) hn ⟨_, _, rfl, rfl, upd_same, rpA_strs _⟩
    · cases hd
  · cases hd
end
end Mr

/-! own exceptions as data: made, raised, caught, asked -/
namespace Mr
open PySem PySem.Spec PyProof.Rows L2

/-- what is known of an own exception class -/
structure XC (K : Fr) (C : Addr) : Prop where
  oex : OexC K C
  ga : PySem.W.findIn K (.ref C) "__getattribute__" = some (some (.builtin "BaseException.__getattribute__"))
  gg : PySem.W.findIn K (.ref C) "__getattr__" = some none
  cl : (PySem.W.clsIn K C).isSome = true
  hd : PySem.W.hasDictIn K C = true
  ac : PySem.W.findIn K (.ref C) "__class__" = some (some (.builtin "object.__class__"))
  sp : PySem.W.specialIn K (.builtin "object.__class__") "__get__" = some (some (.builtin "getset_descriptor.__get__"))
  tk : PySem.W.takesIn K (.builtin "object.__class__") = some true
  mo : PySem.W.mroIn K C (.type "object") = some true

section
variable {P : Program} {w : World} {H : Hp} {h : Heap} {a C : Addr} {dd : Option Addr} {fs : List (Str × V)}
theorem exv_at (hok : HOk P w H h) (e : H a = some (exv a C dd)) : ∃ (oe : Obj) (vs : Array Value), h.get? a = some oe ∧ Zc (.ref C) dd oe ∧ oe.data = .fields vs := by
  have x : ObjOk P w H h a (.ext fun h => ∃ (oe : Obj) (vs : Array Value), h.get? a = some oe ∧ Zc (.ref C) dd oe ∧ oe.data = .fields vs) := hok a _ e
  exact x.1
theorem exv_ok {oe : Obj} {vs : Array Value} (e : h.get? a = some oe) (z : Zc (.ref C) dd oe) (d : oe.data = .fields vs) : ObjOk P w H h a (exv a C dd) :=
  ⟨⟨oe, vs, e, z, d⟩, ⟨oe, e⟩, fun _ _ ⟨o, v, q, r⟩ k => ⟨o, v, k o q, r⟩⟩
/-- it stands as an instance; its fields are read -/
theorem exv_inst (hok : HOk P w H h) (e : H a = some (exv a C dd)) (x : ExD H dd fs) : ∃ (oe : Obj) (od : Option Obj), PySem.W.InstAt h a oe C od ∧
    ∀ (n : Str) (v : V), fs.lookup n = some v → ∃ (o : Obj) (u : Value), od = some o ∧ PySem.W.lookIn n o = some (some u) ∧ RelV v u := by
  obtain ⟨oe, vs, he, hz, hd⟩ := exv_at hok e
  have nc : PySem.W.notCls oe = true := by unfold PySem.W.notCls; rw [hd] <;> rfl
  rcases x with ⟨e1, e2⟩ | ⟨da, e1, e2⟩
  · subst e1; subst e2
    exact ⟨oe, none, ⟨he, hz.1, nc, by rw [hz.2]; trivial⟩, fun n v z => by cases z⟩
  · subst e1
    have q : ObjOk P w H h da (.xd fs) := hok da _ e2
    obtain ⟨mA, hns, hr⟩ := q
    obtain ⟨od, ho, hl⟩ := lookIn_ns hns
    refine ⟨oe, some od, ⟨he, hz.1, nc, by rw [hz.2]; exact ho⟩, fun n v z => ?_⟩
    obtain ⟨u, hu, ru⟩ := RelO.some_of (v := v) (o := mA n) (by rw [← z]; exact hr n)
    exact ⟨od, u, rfl, by rw [hl, hu], ru⟩
end

/-! ### e.f, isinstance(e, C) -/
def rXa (K : Fr) (n : Str) : V → Hp → VK → Prop := fun x H Q => ∃ (a C : Addr) (dd : Option Addr) (fs : List (Str × V)) (v : V), x = .ref a ∧ H a = some (exv a C dd) ∧ ExD H dd fs ∧ XC K C ∧ PySem.W.findIn K (.ref C) n = some none ∧ fs.lookup n = some v ∧ Q v H
def rIsX (K : Fr) (cv : Value) : V → Hp → VK → Prop := fun x H Q => ∃ (a C : Addr) (dd : Option Addr) (fs : List (Str × V)) (b : Bool), x = .ref a ∧ H a = some (exv a C dd) ∧ ExD H dd fs ∧ XC K C ∧ PySem.W.kitOne K (.ref C) cv = some b ∧ Q (.bl b) H
section
variable {X : Cx} {ea : Expr} {te : TE} {n : Str} {pos : Pos}
theorem pe_xattr (he : PE X ea te) (hb : attributeBase ea n X.env (eval ea X.env) = eval ea X.env := by rfl) : PE X (.Attribute ea n pos) (tUn (rXa X.K n) te) := by
  refine ⟨fun pins s σ H Q I h => attr_of hb (thn (he.run pins s σ H _ I h) fun u s1 hh => ?_)⟩
  obtain ⟨x, H1, I1, rx, a, C, dd, fs, v, ex, ea', xd, T, hno, l, q⟩ := hh
  subst ex
  obtain rfl : u = Value.ref a := rx
  obtain ⟨oe, od, J, hl⟩ := exv_inst I1.hok ea' xd
  obtain ⟨o, u, e1, e2, ru⟩ := hl n v l
  subst e1
  exact HandSPX.exc_get I1.kIn J T.ga T.gg T.oex.exC (PySem.W.findObj_own T.hd hno rfl e2) (handed_of ru) ⟨v, H1, I1.tok _, ru, q⟩
def rIs2 (K : Fr) : List V → Hp → VK → Prop := fun xs H Q => ∃ (x c : V) (cv : Value), xs = [x, c] ∧ (∀ u, RelV c u → u = cv) ∧ rIsX K cv x H Q
theorem call_isX {X : Cx} : CallR X (.builtin "isinstance") (rIs2 X.K) := by
  intro pins s σ H xs us Q I r h
  obtain ⟨x, c, cv, rfl, hcv, a, C, dd, fs, b, ex, ea', xd, T, e, q⟩ := h
  subst ex
  cases r with
  | cons rx rr =>
    cases rr with
    | cons rt rr =>
      cases rr
      cases rx
      have ec := hcv _ rt
      subst ec
      obtain ⟨oe, od, J, _⟩ := exv_inst I.hok ea' xd
      exact PySem.W.kia_one (PySem.W.kitx_exc T.cl T.ga T.gg T.oex.exC T.ac T.sp T.tk T.mo) I.kIn J e (fun z => nomatch z) fun tk => ⟨.bl b, H, I.kept (t' := tk) fun _ _ z => z, rfl, q⟩
end

/-! ### their mirrors -/
def lookD (n : Str) : List (D × D) → Option D
  | (.str m, d) :: r => if m = n then some d else lookD n r
  | _ => none
def oAttr (ok : Str → Bool) (n : Str) : List D → Option D
  | [.dict ((.bool true, .str cn) :: kvs)] => if ok cn = true then lookD n kvs else none
  | _ => none
def oIsX (tab : Str → Option Bool) : List D → Option D
  | [.dict ((.bool true, .str cn) :: _)] => (tab cn).map .bool
  | _ => none
section
variable {K : Fr} {mg : Mg} {F H : Hp}
theorem lookD_fs {n : Str} {d : D} : ∀ {fs : List (Str × V)} {vs : List D}, RpA K mg F (fs.map (·.2)) vs → lookD n ((fs.map fun p => PyData.str p.1).zip vs) = some d → ∃ v, fs.lookup n = some v ∧ Rp K mg F v d
  | [], _, _, h => by simp [lookD] at h
  | (m, v) :: fs, [], r, h => by cases r
  | (m, v) :: fs, d' :: vs, .cons r rr, h => by
    simp only [List.map_cons, List.zip_cons_cons, lookD] at h
    rw [lookup_put]
    by_cases e : m = n
    · subst e
      rw [if_pos rfl] at h ⊢
      cases h
      exact ⟨v, rfl, r⟩
    · rw [if_neg e] at h
      rw [if_neg (fun z => e z.symm)]
      exact lookD_fs rr h
/-- an exception's data: the object -/
theorem Bv.exc (e : Same F H) {v : V} {cn : Str} {kvs : List (D × D)} (b : Bv K mg F H v (.dict ((.bool true, .str cn) :: kvs))) : ∃ (a C : Addr) (dd : Option Addr) (fs : List (Str × V)) (vs : List D), v = .ref a ∧ F a = some (exv a C dd) ∧ ExD F dd fs ∧ mg cn = some (.ref C) ∧ RpA K mg F (fs.map (·.2)) vs ∧ kvs = (fs.map fun p => PyData.str p.1).zip vs := by
  rcases b with r | ⟨a, xs, ds, e1, e2, e3, _⟩
  · generalize hd : PyData.dict ((.bool true, .str cn) :: kvs) = d at r
    cases r with
    | dct h a' =>
      rename_i kvs' vs'
      exfalso
      cases kvs' with
      | nil => simp at hd
      | cons p ps =>
        cases vs' with
        | nil => simp at hd
        | cons v' vs'' =>
          simp only [List.map_cons, List.zip_cons_cons, PyData.dict.injEq, List.cons.injEq, Prod.mk.injEq] at hd
          obtain ⟨⟨h1, _⟩, _⟩ := hd
          obtain ⟨k, _⟩ := p
          cases k <;> simp [kD] at h1
    | obj h m a' => simp at hd
    | exc h x m a' =>
      simp only [PyData.dict.injEq, List.cons.injEq, Prod.mk.injEq, PyData.str.injEq, true_and] at hd
      obtain ⟨h1, h2⟩ := hd
      subst h1
      exact ⟨_, _, _, _, _, rfl, h, x, m, a', h2⟩
    | _ => cases hd
  · cases e2
theorem ad_attr {ok : Str → Bool} {n : Str} (hok : ∀ cn, ok cn = true → ∃ C, mg cn = some (.ref C) ∧ XC K C ∧ PySem.W.findIn K (.ref C) n = some none) : Ad K mg (r1 (rXa K n)) (oAttr ok n) := fun F H vs ds d Q e b hd k => by
  unfold oAttr at hd
  split at hd
  · rename_i cn kvs
    split at hd
    · rename_i hc
      obtain ⟨x, rfl, bx⟩ := bva1 b
      obtain ⟨a, C, dd, fs, vs', rfl, h1, h2, h3, h4, h5⟩ := bx.exc e
      obtain ⟨C', g1, g2, g3⟩ := hok cn hc
      rw [h3] at g1; cases g1
      rw [h5] at hd
      obtain ⟨v, l, r⟩ := lookD_fs h4 hd
      exact ⟨_, rfl, a, C, dd, fs, v, rfl, e _ _ h1, h2.mono e, g2, g3, l, k v F H (Ext.refl e) r⟩
    · cases hd
  · cases hd
theorem ad_isX {tab : Str → Option Bool} {cv : Value} (htab : ∀ cn b, tab cn = some b → ∃ C, mg cn = some (.ref C) ∧ XC K C ∧ PySem.W.kitOne K (.ref C) cv = some b) : Ad K mg (r1 (rIsX K cv)) (oIsX tab) := fun F H vs ds d Q e b hd k => by
  unfold oIsX at hd
  split at hd
  · rename_i cn kvs
    obtain ⟨x, rfl, bx⟩ := bva1 b
    obtain ⟨a, C, dd, fs, vs', rfl, h1, h2, h3, h4, h5⟩ := bx.exc e
    obtain ⟨b', hb', rfl⟩ := Option.map_eq_some_iff.mp hd
    obtain ⟨C', g1, g2, g3⟩ := htab cn b' hb'
    rw [h3] at g1; cases g1
    exact ⟨_, rfl, a, C, dd, fs, b', rfl, e _ _ h1, h2.mono e, g2, g3, k _ F H (Ext.refl e) (.bl _)⟩
  · cases hd
end
section
variable {X : Cx} {g : Gh} {W : WX} {ms : List Md} {e : Expr} {es : List Expr} {A : Opd} {pos p p2 : Pos}
theorem le_attr {ok : Str → Bool} {n : Str} (hk : g.K = X.K) (hok : ∀ cn, ok cn = true → ∃ C, g.mg cn = some (.ref C) ∧ XC g.K C ∧ PySem.W.findIn g.K (.ref C) n = some none) (ha : PE X e (LP g W ms A)) (hb : attributeBase e n X.env (eval e X.env) = eval e X.env := by rfl) :
    PE X (.Attribute e n pos) (LE g W ms (mApp (oAttr ok n) [A])) := pe_imp (pe_xattr ha hb) (by rw [← hk]; exact op1_imp (ad_attr hok))
theorem le_isX {T : Str} {cx : V} {cv : Value} {tab : Str → Option Bool} (hk : g.K = X.K) (hcv : ∀ u, RelV cx u → u = cv) (htab : ∀ cn b, tab cn = some b → ∃ C, g.mg cn = some (.ref C) ∧ XC g.K C ∧ PySem.W.kitOne g.K (.ref C) cv = some b)
    (ha : PE X e (LP g W ms A)) (hT : PE X (.Name T p2) (tC cx)) (hm : X.mg "isinstance" = none) (hg : Gl X "isinstance" := by rfl)
    (he : starEach [e, .Name T p2] X.env = (false, eval e X.env) :: starEach [.Name T p2] X.env := by rfl) (he2 : starEach [.Name T p2] X.env = (false, eval (.Name T p2) X.env) :: starEach [] X.env := by rfl) (hpl : (backTo pos (starEach [.Name T p2] X.env)).any (·.1) = false := by rfl) :
    PE X (.Call (.Name "isinstance" p) [e, .Name T p2] [] pos) (LE g W ms (mApp (oIsX tab) [A])) :=
  pe_imp (pe_callB call_isX hg hm (by decide +kernel) (pa_cons ha (pa_cons hT pa_nil he2) he) (by decide) (by decide) he hpl) fun σ H Q q => by
    have q2 := op1_imp (ad_isX htab) σ H Q q
    obtain ⟨F, ρ, R, q2⟩ := q2
    refine ⟨F, ρ, R, ?_⟩
    cases h1 : evO A ρ with
    | bad => rw [h1] at q2; exact q2
    | exn x ρ' => rw [h1] at q2; exact q2
    | ok p ρ1 =>
      rw [h1] at q2
      intro v F1 H1 s1 R1 p1
      exact ⟨v, cx, cv, rfl, hcv, by rw [← hk]; exact q2 v F1 H1 s1 R1 p1⟩
end
end Mr

/-! try: the caught exception stands in the heap as data -/
namespace Mr
open PySem PySem.Spec PyProof.Rows L2

section
variable {X : Cx} {pins : List (Addr × Obj)} {σ : Sg} {H : Hp} {sI s s' : Shared} {B : Heap} {a : Addr} {o : HO}
/-- back on the ground, the exception's object is tracked from now on -/
theorem landedX (I : Inv X pins σ H sI) (nb : ∀ b o, sI.heap.get? b = some o → b ∉ frs X.stack → B.get? b = some o) (st : B.StaysIn s'.heap) (ba : B.get? a = none) (nf : a ∉ frs X.stack) (na : H a = none)
    (up : sI.heap.UpToSlots s'.heap) (os : s'.os = sI.os) (ag : AllBare s'.gens) (new : ObjOk X.prog X.w (upd H a o) s'.heap a o) : Inv X pins σ (upd H a o) s' := by
  have sa : sI.heap.get? a = none := by
    cases q : sI.heap.get? a with
    | none => rfl
    | some u => rw [nb a u q nf] at ba; cases ba
  have ne : ∀ {b : Addr} {u : Obj}, sI.heap.get? b = some u → b ≠ a := fun e z => by rw [z, sa] at e; cases e
  have fr : ∀ b ∈ frs X.stack, ∀ u, sI.heap.get? b = some u → ∃ sl, s'.heap.get? b = some { u with slots := sl } := fun b hb u e => by
    obtain ⟨_, u', e', hd⟩ := I.stack.mem hb
    rw [e] at e'; cases e'
    exact up b u e hd
  have U : Un (frs X.stack) [] H (upd H a o) sI.heap s'.heap := {
    keep := fun b u e _ hb _ => st b u (nb b u e hb)
    slot := fun b u e _ hb _ => fr b hb u e
    free := fun b u e n _ => by rw [upd_ne (ne e)]; exact n
    there := fun b u e _ => by
      by_cases hb : b ∈ frs X.stack
      · obtain ⟨sl, q⟩ := fr b hb u e
        exact ⟨_, q⟩
      · exact ⟨u, st b u (nb b u e hb)⟩
    tups := fun b xs e => by rw [upd_ne (ne_of_none e na)]; exact e
    frzs := fun b u v e => by rw [upd_ne (ne_of_none e na)]; exact e
    tbls := fun b ps e => ⟨#[], by rw [upd_ne (ne_of_none e na), e]; simp⟩ }
  have J := I.call (ch := []) (h' := s'.heap) (g' := s'.gens) (t' := s'.toks) (d' := s'.drawn) (H' := upd H a o) U ((I.inGround nb).laidN st na new) ag (fun _ z => nomatch z)
  obtain ⟨a1, a2, a3, a4, a5⟩ := s'
  have e5 : a5 = sI.os := os
  subst e5
  exact J
theorem toSuite (I : Inv X pins σ H s) (a : Addr) : Inv (X.suite a (X.pn ++ pins)) [] σ H s :=
  ⟨I.ok.suite _ _, I.os, I.bare, I.base, I.loc, I.cell, I.free, I.freeC, fun p hp => I.pin p (by rw [List.append_nil] at hp; exact hp), I.hok, I.len⟩
theorem ofSuite {a : Addr} (I : Inv (X.suite a (X.pn ++ pins)) [] σ H s) (ok : X.Ok) : Inv X pins σ H s :=
  ⟨ok, I.os, I.bare, I.base, I.loc, I.cell, I.free, I.freeC, fun p hp => I.pin p (by rw [List.append_nil]; exact hp), I.hok, I.len⟩
end

/-- what 'except x as n' wishes, the exception tracked; slot i is n's -/
def wAsT (K : Fr) (c : Value) (i : Nat) (ts : TS) (Wout : WX) (D : Ends) : WX := fun cls d σ H =>
  ∃ b, PySem.W.exmOne K cls c = some b ∧ (b = true → ∃ C, cls = .ref C ∧ ∀ a, H a = none → ts { nx := fun σ' H' => D.nx (σ'.set i none) H', rt := D.rt, bk := fun σ' H' => D.bk (σ'.set i none) H', ct := fun σ' H' => D.ct (σ'.set i none) H' } (σ.set i (some (.ref a))) (upd H a (exv a C d))) ∧
    (b = false → Wout cls d σ H)

section
variable {X : Cx} {x n : Str} {c : Value} {i : Nat} {body suite : List Stmt} {b₀ : Stmt} {np pos pos' : Pos} {tb : WX → TS} {ts : TS} {Wout : WX}
theorem ps_try_asT (hs : X.stack = X.env :: X.outer) (hf : X.env.frame = some X.env.locals) (hN : X.N.Nodup) (hi : X.N[i]? = some n) (hln : X.env.kindOf n = some .local) (hc : Names X x c) (tk : Takes X Wout)
    (hb : ∀ (W : WX) (pn : List (Addr × Obj)) (xe : Value → Shared → Prop), Takes (X.tr pn xe) W → PassesOwn (model X.prog X.w) X.A X.env xe → PSs (X.tr pn xe) body (tb W))
    (hsu : ∀ (a : Addr) (pn : List (Addr × Obj)), PSs (X.suite a pn) (b₀ :: suite) ts) :
    PS X (.Try body [.ExceptHandler (some (.Name x np)) (some n) (b₀ :: suite) pos'] [] [] pos) (fun D σ H => tb (wAsT X.K c i ts Wout D) D σ H) := by
  refine ⟨fun pins s σ H D I h => ?_⟩
  have ok := I.ok
  have hfr : X.A.frames = some (X.env :: X.outer) := by rw [ok.frames, hs]
  refine wpAny_Try_except ?_
  refine wpAny_mono ((hb (wAsT X.K c i ts Wout D) (X.pn ++ pins) (fun e s₁ => wpAny (model X.prog X.w) X.A (noteFrame e X.env)
      (fun _ s₂ => wpAny (model X.prog X.w) X.A (setFlight e none) (fun _ s₃ => wpAny (model X.prog X.w) X.A (handleBy e X.env [.ExceptHandler (some (.Name x np)) (some n) (b₀ :: suite) pos']) (SP X pins D) X.xe s₃) X.xe s₂) X.xe s₁)
      (fun u s' xx => ?_) PassesOwn.looking).run [] s σ H D (I.toTry _) h) (fun f s1 hsp => ?_) (fun e s1 he => he)
  · obtain ⟨a, B, sI, pins', σ', H', cls, d, rfl, J', nb, up, sky, na, os, ag, b, hb1, hyes, hno⟩ := xx
    have J : Inv X pins σ' H' sI := J'.ofTry ok
    have sky' : Sky B (X.env :: X.outer) a (Zc cls d) X.env.locals s'.heap := by rw [← hs]; exact sky
    show wpAny (model X.prog X.w) X.A (noteFrame (.ref a) X.env) _ _ _
    refine Sky.land Zc.steady hfr hf sky' fun h3 fl3 up3 => ?_
    have J3 : Inv X pins σ' H' { s' with heap := h3 } := J.landed nb fl3.1 (up.trans up3) os ag
    obtain ⟨oe3, vs3, he3, hz3, hd3⟩ := fl3.there
    have nfr : a ∉ frs X.stack := fun hm => by
      rw [hs] at hm
      obtain ⟨_, o', e', hnf⟩ := fl3.2.2.1.mem hm
      rw [he3] at e'; cases e'
      exact hnf _ hd3
    refine wpAny_handleBy_cons (codeAny_handlers_test ?_) (by intro q; cases q)
    have LT : PySem.W.Looks (model X.prog X.w) h3 (typeOf (.ref a)) cls := fun A Q E s k q => wpAny_typeOf_ref (k _ _ he3) (by rw [hz3.1]; exact q)
    have LM := PySem.W.exm_one (M := model X.prog X.w) (J3.kIn) LT hb1
    have S3 := toSuite J3 a
    have test : ∀ {Q : Value → Shared → Prop} {E : Value → Shared → Prop}, Q c { s' with heap := h3 } → wpAny (model X.prog X.w) (X.A.mark (some (.ref a))) (eval (.Name x np) X.env) Q E { s' with heap := h3 } := fun {Q E} q => by
      obtain ⟨hg, hdbg, hm | ⟨hm, hv, hnn⟩⟩ := hc
      · exact ld_glob (X := X.suite a (X.pn ++ pins)) S3 hg hm q hdbg
      · exact ld_blt (X := X.suite a (X.pn ++ pins)) S3 hg hm hv q hnn hdbg
    refine test (LM.here ?_)
    cases b with
    | true =>
      obtain ⟨C, ec, hy⟩ := hyes rfl
      subst ec
      refine codeAny_handlers_suite_as (HandSPX.lands_againZ fl3 fun h4 fl4 up4 => ?_)
      obtain ⟨oe4, vs4, he4, hz4, hd4⟩ := fl4.there
      have J4 : Inv X pins σ' (upd H' a (exv a C d)) { s' with heap := h4 } := landedX J nb fl4.1 fl4.2.1 nfr na ((up.trans up3).trans up4) os ag (exv_ok he4 hz4 hd4)
      refine store_ok (X := X.suite a (X.pn ++ pins)) (v := .ref a) (toSuite J4 a) hN hi (.inl hln) rfl (fun s5 S5 => ?_) (.inr hln)
      refine wpAny_mono ((hsu a (X.pn ++ pins)).run [] s5 _ _ _ S5 (hy a na)) (fun f s6 hsp => ?_) (fun _ _ z => False.elim z)
      have fin : ∀ {σ6 : Sg} {H6 : Hp} {Q : Shared → Prop}, Inv (X.suite a (X.pn ++ pins)) [] σ6 H6 s6 → (∀ s7, Inv X pins (σ6.set i none) H6 s7 → Q s7) →
          wpAny (model X.prog X.w) X.A (do bindName X.env n .none; unbindBehindTheSuite X.env n pos') (fun _ s7 => Q s7) X.xe s6 := fun {σ6 H6 Q} S6 hq => gone_ok (ofSuite S6 ok) hN hi hln hq
      cases f with
      | next => obtain ⟨σ6, H6, S6, q6⟩ := hsp; exact fin S6 fun s7 J7 => ⟨_, _, J7, q6⟩
      | brk => obtain ⟨σ6, H6, S6, q6⟩ := hsp; exact fin S6 fun s7 J7 => ⟨_, _, J7, q6⟩
      | cont => obtain ⟨σ6, H6, S6, q6⟩ := hsp; exact fin S6 fun s7 J7 => ⟨_, _, J7, q6⟩
      | ret u => obtain ⟨v6, σ6, H6, S6, r6, q6⟩ := hsp; exact fin S6 fun s7 J7 => ⟨_, _, _, J7, r6, q6⟩
    | false =>
      show wpAny _ X.A (handleBy (.ref a) X.env []) _ _ _
      refine wpAny_handleBy_nil ?_
      obtain ⟨k1, k2, k3, oe, vs, T, oT, ts', he, hz, hd, h1, hr⟩ := id fl3
      unfold PySem.passOn
      refine wpAny_bind (wpAny_field he hd h1 ?_)
      rw [if_neg (show ¬ ((Value.ref T == Value.none) = true) from by simp)]
      have last : wpAny (model X.prog X.w) X.A (setFlight (.ref a) X.env.frame) (fun _ s4 => wpAny (model X.prog X.w) X.A (throw (.ref a) : Sem Flow) (SP X pins D) X.xe s4) X.xe { s' with heap := h3 } := by
        rw [hf]
        exact HandSPX.setFlight_upZ fl3 fun h4 hh4 up4 => wpAny_throw (tk _ _ ⟨a, B, sI, pins, σ', H', cls, d, rfl, J, nb, (up.trans up3).trans up4, .inr (.inr (by rw [hs]; exact hh4)), na, os, ag, hno rfl⟩)
      first
        | exact wpAny_bind (wpAny_pure (wpAny_bind last))
        | exact wpAny_bind last
  · cases f with
    | next => obtain ⟨σ', H', J', q⟩ := hsp; exact wpAny_execs_nil ⟨σ', H', J'.ofTry ok, q⟩
    | brk => obtain ⟨σ', H', J', q⟩ := hsp; exact ⟨σ', H', J'.ofTry ok, q⟩
    | cont => obtain ⟨σ', H', J', q⟩ := hsp; exact ⟨σ', H', J'.ofTry ok, q⟩
    | ret u => obtain ⟨v, σ', H', J', r, q⟩ := hsp; exact ⟨v, σ', H', J'.ofTry ok, r, q⟩
end

/-! ### the mirror -/
/-- what stands behind the except suite -/
def SR.suite (i : Nat) : SR → SR
  | .nx ρ => .nx (ρ.set i none)
  | .bk ρ => .bk (ρ.set i none)
  | .ct ρ => .ct (ρ.set i none)
  | .rt d ρ => .rt d ρ
  | _ => .bad
/-- what the except clause does with an exception -/
def tryX (sel : Str → Option Bool) (i : Nat) (su : MS) (ρ1 : En) : D → SR
  | .dict ((.bool true, .str cn) :: kvs) => (match sel cn with
    | some true => (su (ρ1.set i (some (.dict ((.bool true, .str cn) :: kvs))))).suite i
    | some false => .exn (.dict ((.bool true, .str cn) :: kvs)) ρ1
    | none => .bad)
  | _ => .bad
def sTry (sel : Str → Option Bool) (i : Nat) (b su : MS) : MS := fun ρ => match b ρ with
  | .exn x ρ1 => tryX sel i su ρ1 x
  | r => r
section
variable {X : Cx} {g : Gh} {W : WX} {c : Sx} {ms ms' msb mss msx : List Md} {x n : Str} {cv : Value} {i : Nat} {body suite : List Stmt} {b₀ : Stmt} {np pos pos' : Pos} {b su : MS} {sel : Str → Option Bool}
theorem Rel.unset {F H : Hp} {ρ : En} {σ : Sg} (R : Rel g F ms ρ σ H) (i : Nat) : Rel g F ms (ρ.set i none) (σ.set i none) H := by
  have out : ∀ {j : Nat} {d : D}, (ρ.set i none)[j]? = some (some d) → j ≠ i ∧ ρ[j]? = some (some d) := fun {j d} h => by
    by_cases hj : j = i
    · subst hj
      by_cases hl : j < ρ.length
      · rw [List.getElem?_set_self hl] at h; cases h
      · rw [List.getElem?_eq_none (by simpa using hl)] at h; cases h
    · exact ⟨hj, by rw [List.getElem?_set_ne (Ne.symm hj)] at h; exact h⟩
  exact { R with
    lm := by simp [R.lm]
    lρ := by simp [R.lρ]
    slot := fun j m d hm nd hd => by
      obtain ⟨hj, hd'⟩ := out hd
      obtain ⟨v, h1, h2⟩ := R.slot j m d hm nd hd'
      exact ⟨v, by rw [List.getElem?_set_ne (Ne.symm hj)]; exact h1, h2⟩
    uniq := fun j k mj mk d e u x c q1 q2 hn h1 h2 h3 h4 f1 f2 => by
      obtain ⟨hj, h1'⟩ := out h1
      obtain ⟨hk, h2'⟩ := out h2
      rw [List.getElem?_set_ne (Ne.symm hj)] at h3
      rw [List.getElem?_set_ne (Ne.symm hk)] at h4
      exact R.uniq j k mj mk d e u x c q1 q2 hn h1' h2' h3 h4 f1 f2 }
theorem ls_try (hs : X.stack = X.env :: X.outer) (hf : X.env.frame = some X.env.locals) (hN : X.N.Nodup) (hi : X.N[i]? = some n) (hln : X.env.kindOf n = some .local) (hc : Names X x cv) (tk : Takes X W) (hk : g.K = X.K)
    (hsel : ∀ cn b, sel cn = some b → ∃ C, g.mg cn = some (.ref C) ∧ PySem.W.exmOne g.K (.ref C) cv = some b)
    (hb : ∀ (W' : WX) (pn : List (Addr × Obj)) (xe : Value → Shared → Prop), Takes (X.tr pn xe) W' → PassesOwn (model (X.tr pn xe).prog (X.tr pn xe).w) (X.tr pn xe).A (X.tr pn xe).env (X.tr pn xe).xe → PSs (X.tr pn xe) body (LS g W' { c with mx := msx } ms ms' b))
    (hsu : ∀ (a : Addr) (pn : List (Addr × Obj)), Takes (X.suite a pn) W0 → PSs (X.suite a pn) (b₀ :: suite) (LS g W0 c (msx.set i .val) ms' su))
    (hl : i < msx.length := by decide) (w3 : wkB msx c.mx = true := by rfl) :
    PS X (.Try body [.ExceptHandler (some (.Name x np)) (some n) (b₀ :: suite) pos'] [] [] pos) (LS g W c ms ms' (sTry sel i b su)) :=
  ps_imp (ps_try_asT (tb := fun W' => LS g W' { c with mx := msx } ms ms' b) (ts := LS g W0 c (msx.set i .val) ms' su) hs hf hN hi hln hc tk (fun W' pn xe t p => hb W' pn xe t p) (fun a pn => hsu a pn takes0)) fun Dn σ H ⟨F, ρ, R, q⟩ => by
    refine ⟨F, ρ, R, ?_⟩
    unfold sTry at q
    cases hr : b ρ with
    | bad => rw [hr] at q; exact q
    | nx ρ1 => rw [hr] at q; exact q
    | bk ρ1 => rw [hr] at q; exact q
    | ct ρ1 => rw [hr] at q; exact q
    | rt d ρ1 => rw [hr] at q; exact q
    | exn xd ρ1 =>
      rw [hr] at q
      intro k dd F1 σ1 H1 s1 R1 xo
      obtain ⟨C, cn, fs, vs, rfl, hm, hx, ra, rfl⟩ := xo
      simp only [tryX] at q
      cases h2 : sel cn with
      | none => simp only [h2] at q; exact q.elim
      | some bb =>
        obtain ⟨C', g1, g2⟩ := hsel cn bb h2
        rw [hm] at g1; cases g1
        simp only [h2] at q
        refine ⟨bb, by rw [← hk]; exact g2, fun e => ?_, fun e => ?_⟩
        · subst e
          simp only at q
          refine ⟨C, rfl, fun a na => ?_⟩
          have ex := Ext.frz (o := exv a C dd) R1.sub na
          have R2 := R1.ext ex
          have rp : Rp g.K g.mg (upd F1 a (exv a C dd)) (.ref a) (.dict ((PyData.bool true, PyData.str cn) :: (fs.map fun p => PyData.str p.1).zip vs)) := .exc upd_same (hx.mono ex.f) hm (ra.mono ex.f)
          have R3 := R2.setVal hl rp
          refine ⟨_, _, R3, ?_⟩
          have q := goS.up (s1.trans ex.f) q
          cases h3 : su (ρ1.set i (some (.dict ((PyData.bool true, PyData.str cn) :: (fs.map fun p => PyData.str p.1).zip vs)))) with
          | nx ρ2 => rw [h3] at q; exact fun F2 σ2 H2 s2 R2 => q F2 _ H2 s2 (R2.unset i)
          | bk ρ2 => rw [h3] at q; exact fun F2 σ2 H2 s2 R2 => q F2 _ H2 s2 (R2.unset i)
          | ct ρ2 => rw [h3] at q; exact fun F2 σ2 H2 s2 R2 => q F2 _ H2 s2 (R2.unset i)
          | rt d ρ2 => rw [h3] at q; exact q
          | exn _ _ => rw [h3] at q; exact q.elim
          | bad => rw [h3] at q; exact q.elim
        · subst e
          simp only at q
          exact q _ dd F1 σ1 H1 s1 (R1.weak w3) ⟨C, cn, fs, vs, rfl, hm, hx, ra, rfl⟩
end
end Mr

/-! defs that may run within an except suite; raise -/
namespace Mr
open PySem PySem.Spec PyProof.Rows L2

/-- room, whatever is handled -/
structure RoomQ (k : Nat) (A : Around) : Prop where
  dp : A.depth + 3 * k + 5 < recursionLimit
  un : A.units + 16 * k + 200 < cLine
theorem RoomQ.mono {j k : Nat} {A : Around} (r : RoomQ k A) (h : j ≤ k) : RoomQ j A := ⟨by have := r.dp; omega, by have := r.un; omega⟩
theorem RoomQ.deeper {k : Nat} {A : Around} (r : RoomQ (k + 1) A) (env : Env) : RoomQ k (A.deeper env) :=
  ⟨by have := r.dp; show A.depth + 1 + 3 * k + 5 < _; omega, by have := r.un; show A.units + 3 + 16 * k + 200 < _; omega⟩
theorem roomQ {k : Nat} {A : Around} (r : Room k A) : RoomQ k A := ⟨r.dp, r.un⟩
theorem roomQ_mark {k : Nat} {A : Around} {h : Option Value} (r : RoomQ k A) : RoomQ k (A.mark h) := ⟨r.dp, r.un⟩
theorem hq65 {A : Around} {k : Nat} (hr : RoomQ k A) : A.units + 65 < cLine := by have := hr.un; omega
theorem hq64 {A : Around} {k : Nat} (hr : RoomQ k A) : A.units + 64 < cLine := by have := hr.un; omega
/-- the context of a def's body, whatever is handled -/
abbrev cxQ (P : Program) (w : World) (K : Fr) (mg : Mg) (base : Heap) (N : List Str) (qual : Str) (scope : Scope) (f : Addr) (cd : Value) (A : Around) (outer : List Env) (s : Shared) (H : Hp) (E : XK) : Cx :=
  { cxOf (L2.CX P w) P w K mg base N qual scope f cd A outer s H E with calm := false }
section
variable {P : Program} {w : World} {K : Fr} {mg : Mg} {base : Heap}
structure FnQ (P : Program) (w : World) (K : Fr) (mg : Mg) (base : Heap) (k : Nat) (f : Addr) (fd : FuncData) (ps : List Str) (sp : Sp) : Prop where
  len : ∀ vs H Q E, sp vs H Q E → vs.length = ps.length
  run : ∀ (A : Around) (outer : List Env) (s : Shared) (H : Hp) (args : Args) (us : List Value) (vs : List V) (Q : VK) (E : XK), A.guards = some [] → RoomQ k A → Env0 P w K mg base A outer s H →
    BindsTo s fd args (ps.zip us) → Vals vs us → sp vs H Q E → codeAny (model P w) A (.call (.ref f) args) (CR (L2.CX P w) outer P w H s Q E) s
theorem FnQ.toG {k : Nat} {f : Addr} {fd : FuncData} {ps : List Str} {sp : Sp} (F : FnQ P w K mg base k f fd ps sp) : FnG P w K mg base k f fd ps sp :=
  ⟨F.len, fun A outer s H args us vs Q E hg hr => F.run A outer s H args us vs Q E hg (roomQ hr)⟩
theorem inv_startQ {N ps : List Str} {qual : Str} {scope : Scope} {f : Addr} {cd : Value} {A : Around} {outer : List Env} {s s1 : Shared} {H : Hp} {E : XK} {us : List Value} {vs : List V} (S : FnScope N ps scope) (e0 : Env0 P w K mg base A outer s H) (hl : vs.length = ps.length) (r : Vals vs us)
    (x : InCallC s s.heap.objs.size (bindL (envOfC qual scope s.heap.objs.size f cd).kindOf (ps.zip us) fun _ => none) (cellsFrom (s.heap.objs.size + 1) scope.names []) (bindC (envOfC qual scope s.heap.objs.size f cd).kindOf (ps.zip us) fun _ => none) s1) :
    Inv (cxQ P w K mg base N qual scope f cd A outer s H E) [] (L2.start N vs) H s1 := by
  have I := inv_start (CX := L2.CX P w) (A := { A with handled := none }) (E := E) (N := N) S rfl ⟨e0.frames, e0.mod, e0.bs, e0.bsz, e0.funs, e0.frf, e0.hok, e0.bare⟩ hl r x
  obtain ⟨o1, o2, o3, o4, o5, o6, o7, o8, o9, o10, o11, o12, o13, o14, o15, o16, o17, o18⟩ := I.ok
  exact ⟨⟨o1, o2, o3, o4, o5, o6, o7, o8, fun z => Bool.noConfusion (show false = true from z), o10, o11, o12, o13, o14, o15, o16, o17, o18⟩, I.os, I.bare, I.base, I.loc, I.cell, I.free, I.freeC, I.pin, I.hok, I.len⟩
theorem FnQ.mk' {x qual : Str} {st : Stmt} {f : Addr} {fd : FuncData} {N ps : List Str} {k : Nat} {sp : Sp} (F : Fun K x qual st f fd) (S : FnScope N ps (defScope st)) (len : ∀ vs H Q E, sp vs H Q E → vs.length = ps.length)
    (body : ∀ (cdv : Value) (A : Around) (outer : List Env) (s : Shared) (H : Hp) (vs : List V) (Q : VK) (E : XK), (A.deeper (envOfC qual (defScope st) s.heap.objs.size f cdv)).guards = some [] → RoomQ k (A.deeper (envOfC qual (defScope st) s.heap.objs.size f cdv)) → sp vs H Q E →
      ∃ t, PSs (cxQ P w K mg base N qual (defScope st) f cdv A outer s H E) (defBody st) t ∧ t { nx := fun _ H' => Q .non H', rt := Q } (L2.start N vs) H) : FnQ P w K mg base (k + 1) f fd ps sp := by
  obtain ⟨oc, od, kV, doc, pm, an, cdv, ct, osl, rfl, lk, hcd⟩ := F.ex
  refine ⟨len, fun A outer s H args us vs Q E hgu hr e0 hb rv hsp => ?_⟩
  have keep : ∀ b o, base.get? b = some o → s.heap.get? b = some o := fun b o e => (e0.bs b o e).1
  have KX : K.In s.heap := e0.mod.kin.keeps keep
  have kinds : ∀ y ∈ ps.zip us, (defScope st).names.lookup y.1 = some .local ∨ ((defScope st).names.lookup y.1 = some .cell ∧ ((cellsFrom (s.heap.objs.size + 1) (defScope st).names []).lookup y.1).isSome = true) := by
    rintro ⟨n, u⟩ hy
    rcases S.par n (List.of_mem_zip hy).1 with q | q
    · exact .inl q
    · exact .inr ⟨q, PySem.W.cellsFrom_some _ _ _ (.inl q)⟩
  have dpt : A.depth < recursionLimit := by have := hr.dp; omega
  refine codeAny_call_function dpt (KX _ _ lk) rfl S.co S.gen rfl (PySem.W.codeRec_of KX hcd) (hb _ _ _ _ (wpAny_newFunctionEnv_cells S.kind kinds fun env he s1 x => ?_))
  cases he
  refine ⟨(e0.mod.nolimit.keeps keep).keeps x.toInCall.keep, codeAny_func ?_⟩
  obtain ⟨t, ht, hq⟩ := body cdv A outer s H vs Q E hgu (hr.deeper _) hsp
  have I := inv_startQ (E := E) (N := N) S e0 (len _ _ _ _ hsp) rv x
  have done : ∀ {v : V} {u : Value} {σ' : Sg} {H' : Hp} {s' : Shared}, Inv (cxQ P w K mg base N qual (defScope st) f cdv A outer s H E) [] σ' H' s' → RelV v u → Q v H' → CE outer P w H s Q u s' := fun {v u σ' H' s'} J r1 q => ⟨v, H', J.os, J.bare, J.base, J.hok, r1, q⟩
  refine wpAny_mono (ht.run [] s1 (L2.start N vs) H _ I hq) (fun fl s' hs => ?_) fun e s' hs => hs
  cases fl with
  | ret u => obtain ⟨v, σ', H', J, r1, q⟩ := hs; exact done J r1 q
  | next => obtain ⟨σ', H', J, q⟩ := hs; exact done (v := V.non) (u := Value.none) J rfl q
  | brk => obtain ⟨_, _, _, q⟩ := hs; cases q
  | cont => obtain ⟨_, _, _, q⟩ := hs; cases q
end
section
variable {X : Cx} {k : Nat} {f : Addr} {fd : FuncData} {ps : List Str} {sp : Sp} {E : Sg → XK} {x : Str} {p pos : Pos} {e : Expr} {es : List Expr} {t : TA}
theorem FnQ.go {pins : List (Addr × Obj)} {σ : Sg} {H : Hp} {s : Shared} {Q : VK} {us : List Value} {kw : List (Str × Value)} {vs : List V} {ws : List Value} (F : FnQ X.prog X.w X.K X.mg X.base k f fd ps sp) (hgu : X.A.guards = some []) (hr : RoomQ k X.A) (hb : BindsTo s fd ⟨us, kw⟩ (ps.zip ws)) (hx : PassesAt (L2.CX X.prog X.w) X σ (E σ))
    (I : Inv X pins σ H s) (r : Vals vs ws) (h : sp vs H Q (E σ)) : wpAny (model X.prog X.w) X.A (PySem.call (.ref f) us kw) (EP X pins σ Q) X.xe s :=
  wpAny_call (codeAny_mono (F.run X.A X.stack s H ⟨us, kw⟩ ws vs Q (E σ) hgu hr I.env0 hb r h) fun r s' hq => by
    cases r with
    | error e => exact hx pins H s e s' I hq
    | ok fl => cases fl with
      | ret u => exact I.after hq
      | next => cases hq
      | brk => cases hq
      | cont => cases hq)
theorem pe_callQ (F : FnQ X.prog X.w X.K X.mg X.base k f fd ps sp) (hgu : X.A.guards = some []) (hr : RoomQ k X.A) (hg : Gl X x) (hm : X.mg x = some (.ref f)) (hk : PySem.W.keepIn X.K (.ref f) = true) (hb : Binds X.K fd ps []) (hx : ∀ σ, PassesAt (L2.CX X.prog X.w) X σ (E σ))
    (ha : PA X (e :: es) t) (hdb : (x == ("__debug__" : Str)) = false := by decide) (he : starEach (e :: es) X.env = (false, eval e X.env) :: starEach es X.env := by rfl) (hpl : (backTo pos (starEach es X.env)).any (·.1) = false := by rfl) :
    PE X (.Call (.Name x p) (e :: es) [] pos) (tCallS sp E t) := by
  refine ⟨fun pins s σ H Q I h => wpAny_Call_Name_kw (ld_glob I hg hm (PySem.W.callWith_K (h₀ := X.base) I.ok.mod.kin hk (thn (ha.run pos pins s σ H _ I h) fun us s1 hh => ?_) he hpl) hdb)⟩
  obtain ⟨vs, H1, I1, r, q⟩ := hh
  have hl : us.length = ps.length := by rw [← r.length]; exact F.len _ _ _ _ q
  have b := hb s1 us I1.kIn (by rw [List.append_nil]; exact hl)
  rw [List.append_nil] at b
  exact ⟨I1.kIn, F.go hgu hr b (hx σ) I1 r q⟩
variable {g : Gh} {W : WX} {ms : List Md} {fn : Fn} {ioA : List Nat} {os : List Opd} {pms : List Md}
theorem le_callQ (Fk : FnQ X.prog X.w X.K X.mg X.base k f fd ps (spM X.K X.mg pms false fn)) (hgu : X.A.guards = some []) (hr : RoomQ k X.A) (hm : X.mg x = some (.ref f)) (hkp : PySem.W.keepIn X.K (.ref f) = true) (hbi : Binds X.K fd ps []) (tk : Takes X W) (hk : g.K = X.K) (hmg : g.mg = X.mg)
    (ha : PA X (e :: es) (LA g W ms os)) (hg : Gl X x := by rfl) (hb : argB ms ioA pms os = true := by rfl) (hI : ioAB ms ioA pms = true := by rfl) (hdb : (x == ("__debug__" : Str)) = false := by decide) (he : starEach (e :: es) X.env = (false, eval e X.env) :: starEach es X.env := by rfl) (hpl : (backTo pos (starEach es X.env)).any (·.1) = false := by rfl) :
    PE X (.Call (.Name x p) (e :: es) [] pos) (LE g W ms (mCall fn ioA os)) := pe_imp (pe_callQ Fk hgu hr hg hm hkp hbi (fun σ => passAt tk σ) ha hdb he hpl) (call_imp hk hmg hb hI)
end

/-! ### the body of a def, in any context -/
section
variable {X : Cx} {K : Fr} {mg : Mg} {N ps : List Str} {st : Stmt}
theorem body_of {pms lms ms' mx : List Md} {own : Bool} {io : List Nat} {b : MS} (hlen : pms.length = ps.length) (hll : pms.length + lms.length = N.length) (hlm : lms.all (fun m => !isIo m) = true) (hN : ps.length ≤ N.length) (hni0 : io.length = nIo pms)
    (hio : ∀ k i : Nat, pms[i]? = some (.io k) ↔ io[k]? = some i) (hio' : ∀ (k i : Nat), io[k]? = some i → ms'[i]? = some (.io k)) (hioX : ∀ (k i : Nat), io[k]? = some i → mx[i]? = some (.io k)) {vs : List V} {H : Hp} {Q : VK} {E : XK}
    (hb : ∀ (F0 H0 : Hp) (ios : List Addr), PSs X (defBody st) (LS ⟨K, mg, F0, H0, ios, []⟩ (fun cls d _ H => E cls d H) ⟨[], mx, own, io⟩ (pms ++ lms) ms' b)) (h : spM K mg pms own (runFn N.length io own b) vs H Q E) :
    ∃ t, PSs X (defBody st) t ∧ t { nx := fun _ H' => Q .non H', rt := Q } (L2.start N vs) H := by
  obtain ⟨F0, ds, ios, sub, lv, ld, hs, nd, hni, hin, q⟩ := h
  refine ⟨_, hb F0 H ios, F0, ds.map some ++ List.replicate (N.length - ds.length) none, ?_, ?_⟩
  · have lt : ∀ {i : Nat} {d : D}, (ds.map some ++ List.replicate (N.length - ds.length) none)[i]? = some (some d) → i < ds.length := fun {i d} h2 => by
      by_cases hi : i < ds.length
      · exact hi
      · rw [List.getElem?_append_right (by rw [List.length_map]; omega)] at h2
        have := List.mem_of_getElem? h2
        rw [List.mem_replicate] at this
        cases this.2
    refine ⟨sub, Same.refl _, fun _ _ => rfl, fun _ _ e _ => e, fun _ e => e, hin, nd, fun p hp => absurd hp (by simp), ?_, ?_, fun i m d h1 nd h2 => ?_, fun i j mi mj d e u x c h1 h2 _ h3 _ _ _ f1 _ => ?_, fun i j k h1 h2 => ?_⟩
    · show (pms ++ lms).length = (L2.start N vs).length
      unfold L2.start
      simp only [List.length_append, List.length_replicate, List.length_map]
      omega
    · show (ds.map some ++ List.replicate (N.length - ds.length) none).length = (L2.start N vs).length
      unfold L2.start
      simp only [List.length_append, List.length_replicate, List.length_map]
      omega
    · have hi := lt h2
      rw [List.getElem?_append_left (by rw [List.length_map]; exact hi), List.getElem?_map] at h2
      have hd : ds[i]? = some d := by
        cases q : ds[i]? with
        | none => rw [q] at h2; cases h2
        | some d' => rw [q] at h2; cases h2; rfl
      have hv : vs[i]? = some (vs[i]'(by omega)) := List.getElem?_eq_getElem _
      rw [List.getElem?_append_left (by omega)] at h1
      refine ⟨vs[i]'(by omega), ?_, (hs i m _ d h1 hv hd).1⟩
      unfold L2.start
      rw [List.getElem?_append_left (by rw [List.length_map]; omega), List.getElem?_map, hv]
      rfl
    · exfalso
      have hi := lt h3
      rw [List.getElem?_append_left (by omega)] at h1
      have hv : vs[i]? = some (vs[i]'(by omega)) := List.getElem?_eq_getElem _
      have hd : ds[i]? = some (ds[i]'(by omega)) := List.getElem?_eq_getElem _
      have q := (hs i mi _ _ h1 hv hd).2
      cases mi with
      | own => exact q.1 rfl
      | oo => exact q.2 rfl
      | _ => exact f1
    · have key : ∀ i : Nat, (pms ++ lms)[i]? = some (.io k) → io[k]? = some i := fun i h => by
        by_cases hi : i < pms.length
        · rw [List.getElem?_append_left hi] at h
          exact (hio k i).mp h
        · rw [List.getElem?_append_right (by omega)] at h
          have := List.all_eq_true.mp hlm _ (List.mem_of_getElem? h)
          simp [isIo] at this
      exact Option.some.inj ((key i h1).symm.trans (key j h2))
  · have hl : ∀ (ρ : En) (is : List D), ioG ρ io = some is → io.length = ios.length := fun ρ is _ => hni0.trans hni.symm
    show goS _ _ _ ms' F0 _ (b (ds.map some ++ List.replicate (N.length - ds.length) none))
    unfold runFn at q
    cases hr : b (ds.map some ++ List.replicate (N.length - ds.length) none) with
    | bad => rw [hr] at q; exact q
    | bk ρ => rw [hr] at q; exact q.elim
    | ct ρ => rw [hr] at q; exact q.elim
    | nx ρ =>
      rw [hr] at q
      cases ow : own with
      | true => simp only [ow, if_true] at q; exact q.elim
      | false =>
        simp only [ow, if_neg Bool.false_ne_true] at q
        cases hg : ioG ρ io with
        | none => simp only [hg] at q; exact q.elim
        | some is =>
          simp only [hg] at q
          intro F' σ' H' s R
          exact q .non F' H' (R.post hio' (hl _ _ hg) hg) (by rw [if_neg Bool.false_ne_true]; exact .non)
    | rt d ρ =>
      rw [hr] at q
      cases hg : ioG ρ io with
      | none => simp only [hg] at q; exact q.elim
      | some is =>
        simp only [hg] at q
        intro v F' H' s hrt
        obtain ⟨ms2, σ2, R, hio2, hres⟩ := hrt
        exact q v F' H' (R.post hio2 (hl _ _ hg) hg) hres
    | exn x ρ =>
      rw [hr] at q
      cases hg : ioG ρ io with
      | none => simp only [hg] at q; exact q.elim
      | some is =>
        simp only [hg] at q
        intro c dd F' σ' H' s R xo
        exact q c dd F' H' (R.post hioX (hl _ _ hg) hg) xo
end
section
variable {P : Program} {w : World} {K : Fr} {mg : Mg} {base : Heap}
theorem ok_ofQ {x qual : Str} {st : Stmt} {f : Addr} {fd : FuncData} {N ps : List Str} {k : Nat} (F : Fun K x qual st f fd) (S : FnScope N ps (defScope st)) {pms lms ms' mx : List Md} {own : Bool} {io : List Nat} {b : MS}
    (hlen : pms.length = ps.length) (hll : pms.length + lms.length = N.length) (hN : ps.length ≤ N.length) (hlm : lms.all (fun m => !isIo m) = true) (hp : ioPos io pms = true) (hb : ioB io pms = true) (hb' : ioB io ms' = true) (hbx : (ioB io mx && decide (io.length = nIo pms)) = true)
    (hbody : ∀ (cdv : Value) (A : Around) (outer : List Env) (s : Shared) (H : Hp) (E : XK) (X : Cx), X = cxQ P w K mg base N qual (defScope st) f cdv A outer s H E → X.A.guards = some [] → RoomQ k X.A → ∀ (F0 H0 : Hp) (ios : List Addr) (W : WX), Takes X W → PassesOwn (model X.prog X.w) X.A X.env X.xe →
      PSs X (defBody st) (LS ⟨K, mg, F0, H0, ios, []⟩ W ⟨[], mx, own, io⟩ (pms ++ lms) ms' b)) : FnQ P w K mg base (k + 1) f fd ps (spM K mg pms own (runFn N.length io own b)) := by
  simp only [Bool.and_eq_true, decide_eq_true_eq] at hbx
  refine FnQ.mk' F S (fun vs H Q E h => ?_) (fun cdv A outer s H vs Q E hgu hr h => ?_)
  · obtain ⟨_, _, _, _, h, _⟩ := h
    rw [h, hlen]
  · exact body_of hlen hll hlm hN hbx.2 (ioPos_iff hp hb) (ioB_get hb') (ioB_get hbx.1) (fun F0 H0 ios => hbody cdv A outer s H E (cxQ P w K mg base N qual (defScope st) f cdv A outer s H E) rfl hgu hr F0 H0 ios (fun cls d _ H => E cls d H) (takes_of rfl rfl rfl rfl) (passes_of (K := fun e s'' => L2.CX P w outer H s E e s'') rfl)) h
end
end Mr

/-! __init__ of an own exception class; raise; an exception made as a value -/
namespace Mr
open PySem PySem.Spec PyProof.Rows L2

/-- what __init__ does to an exception that is being made: its fields are laid, the last one first -/
def spI (C : Addr) (fnr : List Str) : Sp := fun vs H Q _ => ∃ (a : Addr) (ys : List V), vs = .ref a :: ys ∧ ys.length = fnr.length ∧ H a = some (exo a C none) ∧
  ∀ (dx : Addr) (fs : List (Str × V)), H dx = none → dx ≠ a → fs.map (·.1) = fnr → fs.map (·.2) = ys.reverse → Q .non (upd (upd H dx (exd dx fs)) a (exo a C (some dx)))
theorem upd_re {H : Hp} {a dx : Addr} {o u v : HO} (n : dx ≠ a) : upd (upd (upd H dx o) a u) dx v = upd (upd H dx v) a u := by
  funext b
  by_cases h1 : b = dx
  · subst h1
    rw [upd_same, upd_ne n, upd_same]
  · rw [upd_ne h1]
    by_cases h2 : b = a
    · subst h2; rw [upd_same, upd_same]
    · rw [upd_ne h2, upd_ne h1, upd_ne h2, upd_ne h1]
section
variable {P : Program} {w : World} {K : Fr} {mg : Mg} {base : Heap} {qual : Str} {st : Stmt} {f C : Addr} {fd : FuncData} {f1 f2 f3 n1 n2 n3 : Str} {a1 a2 a3 b1 b2 b3 c1 c2 c3 d1 d2 d3 : Pos}
theorem st_at {vs : List V} {N : List Str} {i : Nat} {v : V} (h : vs[i]? = some v) : (L2.start N vs)[i]? = some (some v) := by
  unfold L2.start
  have hi := (List.getElem?_eq_some_iff.mp h).1
  rw [List.getElem?_append_left (by rw [List.length_map]; exact hi), List.getElem?_map, h]
  rfl
theorem init1 (T : OexC K C) (h1 : PySem.W.findIn K (.ref C) f1 = some none) (F : Fun K "__init__" qual st f fd) (S : FnScope ["self", n1] ["self", n1] (defScope st)) (hd1 : (n1 == ("__debug__" : Str)) = false ∧ (n1 == ("__classdict__" : Str)) = false)
    (hb : defBody st = [.Assign [.Attribute (.Name "self" a1) f1 b1] (.Name n1 c1) d1]) (hs : Vis (defScope st) "self") (hv1 : Vis (defScope st) n1) : FnOk P w K mg base (L2.CX P w) 1 f fd ["self", n1] (spI C [f1]) := by
  refine Fun.okX F S (fun vs H Q E ⟨a, ys, e, hl, _⟩ => by rw [e]; simp [hl]) fun cdv A outer s H vs Q E hr ⟨a, ys, e, hl, ha, q⟩ => ⟨_, by rw [hb]; exact pss_one (ps_ost (pv 0 rfl hs) (pv 1 rfl hv1 hd1.1 hd1.2)), ?_⟩
  subst e
  match ys, hl with
  | [y1], _ =>
    exact ⟨y1, st_at rfl, .ref a, st_at rfl, a, C, rfl, T, h1, .inl ⟨ha, fun dx n ne => q dx [(f1, y1)] n ne rfl rfl⟩⟩
theorem init2 (T : OexC K C) (h1 : PySem.W.findIn K (.ref C) f1 = some none) (h2 : PySem.W.findIn K (.ref C) f2 = some none) (F : Fun K "__init__" qual st f fd) (S : FnScope ["self", n1, n2] ["self", n1, n2] (defScope st)) (hd1 : (n1 == ("__debug__" : Str)) = false ∧ (n1 == ("__classdict__" : Str)) = false) (hd2 : (n2 == ("__debug__" : Str)) = false ∧ (n2 == ("__classdict__" : Str)) = false)
    (hb : defBody st = [.Assign [.Attribute (.Name "self" a1) f1 b1] (.Name n1 c1) d1, .Assign [.Attribute (.Name "self" a2) f2 b2] (.Name n2 c2) d2]) (hs : Vis (defScope st) "self") (hv1 : Vis (defScope st) n1) (hv2 : Vis (defScope st) n2) : FnOk P w K mg base (L2.CX P w) 1 f fd ["self", n1, n2] (spI C [f2, f1]) := by
  refine Fun.okX F S (fun vs H Q E ⟨a, ys, e, hl, _⟩ => by rw [e]; simp [hl]) fun cdv A outer s H vs Q E hr ⟨a, ys, e, hl, ha, q⟩ => ⟨_, by rw [hb]; exact pss_cons (ps_ost (pv 0 rfl hs) (pv 1 rfl hv1 hd1.1 hd1.2)) (pss_one (ps_ost (pv 0 rfl hs) (pv 2 rfl hv2 hd2.1 hd2.2))), ?_⟩
  subst e
  match ys, hl with
  | [y1, y2], _ =>
    refine ⟨y1, st_at rfl, .ref a, st_at rfl, a, C, rfl, T, h1, .inl ⟨ha, fun dx n ne => ?_⟩⟩
    refine ⟨y2, st_at rfl, .ref a, st_at rfl, a, C, rfl, T, h2, .inr ⟨dx, [(f1, y1)], upd_same, by rw [upd_ne ne, upd_same], by simp, ?_⟩⟩
    have z := q dx [(f2, y2), (f1, y1)] n ne rfl rfl
    rw [← upd_re ne (o := exd dx [(f1, y1)])] at z
    exact z
theorem init3 (T : OexC K C) (h1 : PySem.W.findIn K (.ref C) f1 = some none) (h2 : PySem.W.findIn K (.ref C) f2 = some none) (h3 : PySem.W.findIn K (.ref C) f3 = some none) (F : Fun K "__init__" qual st f fd) (S : FnScope ["self", n1, n2, n3] ["self", n1, n2, n3] (defScope st))
    (hd1 : (n1 == ("__debug__" : Str)) = false ∧ (n1 == ("__classdict__" : Str)) = false) (hd2 : (n2 == ("__debug__" : Str)) = false ∧ (n2 == ("__classdict__" : Str)) = false) (hd3 : (n3 == ("__debug__" : Str)) = false ∧ (n3 == ("__classdict__" : Str)) = false)
    (hb : defBody st = [.Assign [.Attribute (.Name "self" a1) f1 b1] (.Name n1 c1) d1, .Assign [.Attribute (.Name "self" a2) f2 b2] (.Name n2 c2) d2, .Assign [.Attribute (.Name "self" a3) f3 b3] (.Name n3 c3) d3]) (hs : Vis (defScope st) "self") (hv1 : Vis (defScope st) n1) (hv2 : Vis (defScope st) n2) (hv3 : Vis (defScope st) n3) :
    FnOk P w K mg base (L2.CX P w) 1 f fd ["self", n1, n2, n3] (spI C [f3, f2, f1]) := by
  refine Fun.okX F S (fun vs H Q E ⟨a, ys, e, hl, _⟩ => by rw [e]; simp [hl]) fun cdv A outer s H vs Q E hr ⟨a, ys, e, hl, ha, q⟩ => ⟨_, by rw [hb]; exact pss_cons (ps_ost (pv 0 rfl hs) (pv 1 rfl hv1 hd1.1 hd1.2)) (pss_cons (ps_ost (pv 0 rfl hs) (pv 2 rfl hv2 hd2.1 hd2.2)) (pss_one (ps_ost (pv 0 rfl hs) (pv 3 rfl hv3 hd3.1 hd3.2)))), ?_⟩
  subst e
  match ys, hl with
  | [y1, y2, y3], _ =>
    refine ⟨y1, st_at rfl, .ref a, st_at rfl, a, C, rfl, T, h1, .inl ⟨ha, fun dx n ne => ?_⟩⟩
    refine ⟨y2, st_at rfl, .ref a, st_at rfl, a, C, rfl, T, h2, .inr ⟨dx, [(f1, y1)], upd_same, by rw [upd_ne ne, upd_same], by simp, ?_⟩⟩
    refine ⟨y3, st_at rfl, .ref a, st_at rfl, a, C, rfl, T, h3, .inr ⟨dx, [(f2, y2), (f1, y1)], by rw [upd_re ne, upd_same], by rw [upd_re ne, upd_ne ne, upd_same], by simp, ?_⟩⟩
    have z := q dx [(f3, y3), (f2, y2), (f1, y1)] n ne rfl rfl
    rw [← upd_re ne (o := exd dx [(f2, y2), (f1, y1)]), ← upd_re ne (o := exd dx [(f1, y1)])] at z
    exact z
end

/-! ### raise -/
def mkX (cn : Str) (fnr : List Str) (ds : List D) : D := .dict ((.bool true, .str cn) :: (fnr.map PyData.str).zip ds.reverse)
def sRaise (cn : Str) (fnr : List Str) (os : List Opd) : MS := fun ρ => match evs os ρ with
  | .ok ps ρ1 => (match dsOf ps with
    | some ds => if ds.length = fnr.length then .exn (mkX cn fnr ds) ρ1 else .bad
    | none => .bad)
  | .exn x ρ1 => .exn x ρ1
  | .bad => .bad
section
variable {X : Cx} {g : Gh} {W : WX} {c : Sx} {ms ms' : List Md} {e : Expr} {es : List Expr} {x cn : Str} {C fI : Addr} {fd : FuncData} {ps fnr : List Str} {os : List Opd} {p pos pos' : Pos}
/-- what is known of a class that the program raises -/
structure XM (P : Program) (w : World) (K : Fr) (mg : Mg) (base : Heap) (C fI : Addr) (fd : FuncData) (ps fnr : List Str) : Prop where
  xc : XC K C
  iC : PySem.W.findIn K (.ref C) "__init__" = some (some (.ref fI))
  tI : PySem.W.typeIn K (.ref fI) = some (.type "function")
  ok : FnOk P w K mg base (L2.CX P w) 1 fI fd ps (spI C fnr)
  bi : Binds K fd ps []
theorem zip_fs : ∀ {fs : List (Str × V)} {fnr : List Str}, fs.map (·.1) = fnr → (fs.map fun p => PyData.str p.1) = fnr.map PyData.str := fun {fs fnr} h => by
  subst h
  simp
theorem ls_raise (M : XM X.prog X.w X.K X.mg X.base C fI fd ps fnr) (hk : g.K = X.K) (hmg : g.mg = X.mg) (hm : X.mg x = some (.ref C)) (hcn : x = cn) (hc : X.calm = true) (tk : Takes X W) (hr : Room 2 X.A) (ha : PA X (e :: es) (LA g W ms os)) (hg : Gl X x := by rfl) (wx : wkB ms c.mx = true := by rfl) (hlen : fnr.length ≤ 900 := by decide)
    (hdb : (x == ("__debug__" : Str)) = false := by decide) (he : starEach (e :: es) X.env = (false, eval e X.env) :: starEach es X.env := by rfl) (hpl : (backTo pos (starEach es X.env)).any (·.1) = false := by rfl) :
    PS X (.Raise (some (.Call (.Name x p) (e :: es) [] pos)) none pos') (LS g W c ms ms' (sRaise cn fnr os)) :=
  ps_imp (ps_raise hc tk (pmk_oex (CX := L2.CX X.prog X.w) M.xc.oex M.iC M.tI M.ok hr M.bi .nil (fun _ _ _ _ _ _ _ ⟨_, _, _, _, _, _, _, _, _, _, _, _, z⟩ => z.elim) hg hm ha hdb he hpl)) fun Dn σ H ⟨F, ρ, R, q⟩ => by
    refine ⟨F, ρ, R, ?_⟩
    unfold sRaise at q
    cases h1 : evs os ρ with
    | bad => simp only [h1] at q; exact q.elim
    | exn xx ρ1 => simp only [h1] at q; exact fun k dd F2 H2 s R xo => q k dd F2 σ H2 s (R.weak wx) xo
    | ok pvs ρ1 =>
      simp only [h1] at q
      intro vs F1 H1 s1 R1 p1
      cases h2 : dsOf pvs with
      | none => simp only [h2] at q; exact q.elim
      | some ds =>
        simp only [h2] at q
        by_cases hl : ds.length = fnr.length
        · rw [if_pos hl] at q
          have ra := p1.vals h2
          refine ⟨by rw [ra.length, hl]; omega, fun a na => ?_⟩
          refine ⟨a, vs ++ [], rfl, by rw [List.append_nil, ra.length, hl], upd_same, fun dx fs hd ne h3 h4 => ⟨rfl, dx, fs, upd_same, by rw [upd_ne ne, upd_same], ?_, ?_⟩⟩
          · rw [upd_ne ne] at hd; exact hd
          · rw [upd_ne ne] at hd
            have eh : upd (L2.del (upd (upd (upd H1 a (exo a C none)) dx (exd dx fs)) a (exo a C (some dx))) a) dx (.xd fs) = upd H1 dx (.xd fs) := by
              funext b
              by_cases hb : b = dx
              · subst hb; rw [upd_same, upd_same]
              · rw [upd_ne hb, upd_ne hb]
                by_cases hb2 : b = a
                · subst hb2; rw [L2.del_same]; exact na.symm
                · rw [L2.del_ne hb2, upd_ne hb2, upd_ne hb, upd_ne hb2]
            rw [eh]
            have ex := Ext.frz (o := HO.xd fs) R1.sub hd
            refine q _ _ _ σ _ (s1.trans ex.f) ((R1.ext ex).weak wx) ⟨C, cn, fs, ds.reverse, rfl, by rw [hmg, ← hcn]; exact hm, .inr ⟨dx, rfl, upd_same⟩, ?_, ?_⟩
            · rw [h4, List.append_nil]
              exact RpA.mono ex.f ra.reverse
            · unfold mkX
              rw [zip_fs h3]
        · rw [if_neg hl] at q; exact q.elim
end
end Mr

/-! the table of the own exception classes -/
namespace Mr
open PySem PySem.Spec PyProof.Rows L2

def veBases (TE : Addr) : List Value := [.ref TE, .type "ValueError", .type "Exception", .type "BaseException", .type "object"]
def clsOkB (K : Fr) (C TE : Addr) : Bool := match K.lookup C with
  | some ⟨c, _, .cls ⟨_, _, mro, _, _, hd, _, _, _, _, dl⟩, sl⟩ => c == .type "type" && (mro == .ref C :: veBases TE && (hd && (!dl && (match sl.toList with
    | [_, _, _, _, some (.builtin s), _] => s == "ValueError.__new__"
    | _ => false))))
  | _ => false
def fldB (K : Fr) (C : Addr) (n : Str) : Bool := decide (PySem.W.findIn K (.ref C) n = some none)
def xcB (K : Fr) (C TE : Addr) (fl : List Str) : Bool :=
  clsOkB K C TE && (decide (PySem.W.findIn K (.ref C) "__setattr__" = some (some (.builtin "object.__setattr__"))) && (decide (PySem.W.typeIn K (.ref C) = some (.type "type")) && (PySem.W.keepIn K (.ref C) &&
  (decide (PySem.W.findIn K (.ref C) "__getattribute__" = some (some (.builtin "BaseException.__getattribute__"))) && (decide (PySem.W.findIn K (.ref C) "__getattr__" = some none) &&
  (decide (PySem.W.findIn K (.ref C) "__class__" = some (some (.builtin "object.__class__"))) && fl.all (fldB K C)))))))
structure XOut (K : Fr) (C TE : Addr) (fl : List Str) : Prop where
  cls : ∃ cd, PySem.W.clsIn K C = some cd ∧ cd.mro = .ref C :: veBases TE ∧ cd.hasDict = true
  obj : ∃ nm q N bs bm sn sub ab col dd k0 k1 k2 k3 k5, K.lookup C = some (excClassObj nm q C N bs bm true sn sub ab col dd k0 k1 k2 k3 k5 "ValueError.__new__") ∧ PySem.HandSPX.refsVE bm = true
  sa : PySem.W.findIn K (.ref C) "__setattr__" = some (some (.builtin "object.__setattr__"))
  ty : PySem.W.typeIn K (.ref C) = some (.type "type")
  kp : PySem.W.keepIn K (.ref C) = true
  ga : PySem.W.findIn K (.ref C) "__getattribute__" = some (some (.builtin "BaseException.__getattribute__"))
  gg : PySem.W.findIn K (.ref C) "__getattr__" = some none
  ac : PySem.W.findIn K (.ref C) "__class__" = some (some (.builtin "object.__class__"))
  fl : ∀ n ∈ fl, PySem.W.findIn K (.ref C) n = some none
theorem xcB_ok {K : Fr} {C TE : Addr} {fl : List Str} (h : xcB K C TE fl = true) : XOut K C TE fl := by
  unfold xcB at h
  simp only [Bool.and_eq_true, decide_eq_true_eq, List.all_eq_true] at h
  obtain ⟨h1, h2, h3, h4, h5, h6, h7, h8⟩ := h
  have hc : (∃ cd, PySem.W.clsIn K C = some cd ∧ cd.mro = .ref C :: veBases TE ∧ cd.hasDict = true) ∧
      ∃ nm q N bs bm sn sub ab col dd k0 k1 k2 k3 k5, K.lookup C = some (excClassObj nm q C N bs bm true sn sub ab col dd k0 k1 k2 k3 k5 "ValueError.__new__") ∧ PySem.HandSPX.refsVE bm = true := by
    unfold clsOkB at h1
    split at h1
    · rename_i c dx nm bs mro ns q hd sn sub ab col dl sl hl
      simp only [Bool.and_eq_true, beq_iff_eq, Bool.not_eq_true'] at h1
      obtain ⟨rfl, rfl, rfl, rfl, h1⟩ := h1
      refine ⟨⟨_, by unfold PySem.W.clsIn; rw [hl], rfl, rfl⟩, ?_⟩
      split at h1
      · rename_i k0 k1 k2 k3 s k5 hsl
        have hs : s = "ValueError.__new__" := by simpa using h1
        subst hs
        have e : sl = #[k0, k1, k2, k3, some (.builtin "ValueError.__new__"), k5] := by rw [← Array.toList_inj, hsl]
        subst e
        exact ⟨nm, q, ns, bs, veBases TE, sn, sub, ab, col, dx, k0, k1, k2, k3, k5, hl, rfl⟩
      · cases h1
    · cases h1
  exact ⟨hc.1, hc.2, h2, h3, h4, h5, h6, h7, fun n hn => of_decide_eq_true (h8 n hn)⟩
theorem XOut.sub {K : Fr} {C TE : Addr} {fl : List Str} (x : XOut K C TE fl) (v : Value) : PySem.W.subIn K (.ref C) v = some ((Value.ref C :: veBases TE).contains v) := by
  obtain ⟨cd, h1, h2, _⟩ := x.cls
  show PySem.W.mroIn K C v = _
  unfold PySem.W.mroIn
  rw [h1, Option.bind_some, h2]
  rfl

/-- names, fields and places of the own exception classes -/
structure XTab (K : Fr) (mg : Mg) (TE : Addr) (xs : List (Str × List Str × Addr)) : Prop where
  ok : ∀ p ∈ xs, mg p.1 = some (.ref p.2.2) ∧ xcB K p.2.2 TE p.2.1 = true
  nd : (TE :: xs.map (·.2.2)).Nodup
  te : (PySem.W.clsIn K TE).isSome = true ∧ PySem.W.typeIn K (.ref TE) = some (.type "type") ∧ PySem.W.subIn K (.ref TE) (.type "BaseException") = some true
  sp : PySem.W.specialIn K (.builtin "object.__class__") "__get__" = some (some (.builtin "getset_descriptor.__get__"))
  tk : PySem.W.takesIn K (.builtin "object.__class__") = some true
section
variable {K : Fr} {mg : Mg} {TE : Addr} {xs : List (Str × List Str × Addr)}
theorem XTab.out (T : XTab K mg TE xs) {p : Str × List Str × Addr} (h : p ∈ xs) : XOut K p.2.2 TE p.2.1 := xcB_ok (T.ok p h).2
theorem contains_of {α : Type} [BEq α] [LawfulBEq α] {l : List α} {a : α} (h : a ∈ l) : l.contains a = true := List.contains_iff_mem.mpr h
theorem XTab.xc (T : XTab K mg TE xs) {p : Str × List Str × Addr} (h : p ∈ xs) : XC K p.2.2 := by
  have x := T.out h
  obtain ⟨cd, h1, h2, h3⟩ := x.cls
  refine ⟨⟨x.obj, x.sa, ?_, x.ty, x.kp⟩, x.ga, x.gg, by rw [h1]; rfl, by unfold PySem.W.hasDictIn; rw [h1]; exact h3, x.ac, T.sp, T.tk, ?_⟩
  · rw [x.sub]; exact congrArg some (contains_of (by simp [veBases]))
  · have := x.sub (.type "object")
    show PySem.W.subIn K (.ref p.2.2) (.type "object") = _
    rw [this]; exact congrArg some (contains_of (by simp [veBases]))
theorem XTab.inj (T : XTab K mg TE xs) : ∀ {p q : Str × List Str × Addr}, p ∈ xs → q ∈ xs → (p.1 = q.1 ↔ p.2.2 = q.2.2) := fun {p q} hp hq => by
  constructor
  · intro e
    have h1 := (T.ok p hp).1
    have h2 := (T.ok q hq).1
    rw [e, h2] at h1
    exact (Value.ref.inj (Option.some.inj h1)).symm
  · intro e
    have nd := (List.nodup_cons.mp T.nd).2
    have key : ∀ l : List (Str × List Str × Addr), (l.map (·.2.2)).Nodup → p ∈ l → q ∈ l → p = q := by
      intro l
      induction l with
      | nil => intro _ h; cases h
      | cons r l ih =>
        intro nd hp hq
        rw [List.map_cons, List.nodup_cons] at nd
        rcases List.mem_cons.mp hp with rfl | hp'
        · rcases List.mem_cons.mp hq with rfl | hq'
          · rfl
          · exact absurd (List.mem_map_of_mem (f := fun x : Str × List Str × Addr => x.2.2) hq') (by rw [← e]; exact nd.1)
        · rcases List.mem_cons.mp hq with rfl | hq'
          · exact absurd (List.mem_map_of_mem (f := fun x : Str × List Str × Addr => x.2.2) hp') (by rw [e]; exact nd.1)
          · exact ih nd.2 hp' hq'
    rw [key xs nd hp hq]
theorem XTab.neT (T : XTab K mg TE xs) {p : Str × List Str × Addr} (hp : p ∈ xs) : TE ≠ p.2.2 := fun e => (List.nodup_cons.mp T.nd).1 (by rw [e]; exact List.mem_map_of_mem (f := fun x : Str × List Str × Addr => x.2.2) hp)
theorem XTab.clsIn (T : XTab K mg TE xs) {p : Str × List Str × Addr} (hp : p ∈ xs) : ((PySem.W.clsIn K p.2.2).isSome && PySem.W.typeIn K (.ref p.2.2) == some (.type "type")) = true := by
  obtain ⟨cd, h1, _⟩ := (T.out hp).cls
  rw [h1, (T.out hp).ty]; rfl
theorem XTab.kitC (T : XTab K mg TE xs) {p q : Str × List Str × Addr} (hp : p ∈ xs) (hq : q ∈ xs) : PySem.W.kitCls K (.ref p.2.2) (.ref q.2.2) = some (p.1 == q.1) := by
  show (if ((PySem.W.clsIn K q.2.2).isSome && PySem.W.typeIn K (.ref q.2.2) == some (.type "type")) = true then PySem.W.subIn K (.ref p.2.2) (.ref q.2.2) else none) = _
  rw [if_pos (T.clsIn hq), (T.out hp).sub]
  have nt := T.neT hq
  congr 1
  by_cases e : p.1 = q.1
  · have e2 := (T.inj hp hq).mp e
    rw [show (p.1 == q.1) = true by simpa using e]
    exact contains_of (by rw [e2]; exact List.mem_cons_self)
  · have e2 : p.2.2 ≠ q.2.2 := fun z => e ((T.inj hp hq).mpr z)
    rw [show (p.1 == q.1) = false by simpa using e]
    refine Bool.eq_false_iff.mpr fun z => ?_
    have z := List.contains_iff_mem.mp z
    simp [veBases] at z
    rcases z with z | z
    · exact e2 z.symm
    · exact nt z.symm
theorem XTab.kit (T : XTab K mg TE xs) {p q : Str × List Str × Addr} (hp : p ∈ xs) (hq : q ∈ xs) : PySem.W.kitOne K (.ref p.2.2) (.ref q.2.2) = some (p.1 == q.1) := by
  unfold PySem.W.kitOne
  by_cases e : p.2.2 = q.2.2
  · rw [if_pos (by simp [e])]
    rw [show (p.1 == q.1) = true by simpa using (T.inj hp hq).mpr e]
  · rw [if_neg (by simpa using e)]
    exact T.kitC hp hq
theorem XTab.kitTC (T : XTab K mg TE xs) {p : Str × List Str × Addr} (hp : p ∈ xs) : PySem.W.kitCls K (.ref p.2.2) (.ref TE) = some true := by
  show (if ((PySem.W.clsIn K TE).isSome && PySem.W.typeIn K (.ref TE) == some (.type "type")) = true then PySem.W.subIn K (.ref p.2.2) (.ref TE) else none) = _
  rw [if_pos (by rw [T.te.1, T.te.2.1]; rfl), (T.out hp).sub]
  exact congrArg some (contains_of (by simp [veBases]))
theorem XTab.kitT (T : XTab K mg TE xs) {p : Str × List Str × Addr} (hp : p ∈ xs) : PySem.W.kitOne K (.ref p.2.2) (.ref TE) = some true := by
  unfold PySem.W.kitOne
  by_cases e : p.2.2 = TE
  · rw [if_pos (by simp [e])]
  · rw [if_neg (by simpa using e)]
    exact T.kitTC hp
theorem XTab.kitV (T : XTab K mg TE xs) {p : Str × List Str × Addr} (hp : p ∈ xs) : PySem.W.kitOne K (.ref p.2.2) (.type "ValueError") = some true := by
  unfold PySem.W.kitOne
  rw [if_neg (by simp)]
  show (if PySem.W.kitMeta "ValueError" = true then PySem.W.subIn K (.ref p.2.2) (.type "ValueError") else none) = _
  rw [if_pos (by decide +kernel), (T.out hp).sub]
  exact congrArg some (contains_of (by simp [veBases]))

/-! what the mirrors ask -/
abbrev XN := List (Str × List Str)
def okX (xn : XN) (n : Str) : Str → Bool := fun cn => xn.any fun p => p.1 == cn && p.2.contains n
def tabX (xn : XN) (m : Str) : Str → Option Bool := fun cn => if (xn.any fun p => p.1 == cn) = true then some (cn == m) else none
def tabT (xn : XN) : Str → Option Bool := fun cn => if (xn.any fun p => p.1 == cn) = true then some true else none
variable {xn : XN}
theorem any_mem {cn : Str} (e : xn = xs.map fun p => (p.1, p.2.1)) (h : (xn.any fun p => p.1 == cn) = true) : ∃ p ∈ xs, p.1 = cn := by
  subst e
  rw [List.any_map, List.any_eq_true] at h
  obtain ⟨p, hp, q⟩ := h
  exact ⟨p, hp, by simpa using q⟩
theorem XTab.tabX (T : XTab K mg TE xs) (e : xn = xs.map fun p => (p.1, p.2.1)) {q : Str × List Str × Addr} (hq : q ∈ xs) : ∀ cn b, Mr.tabX xn q.1 cn = some b → ∃ C, mg cn = some (.ref C) ∧ XC K C ∧ PySem.W.kitOne K (.ref C) (.ref q.2.2) = some b := fun cn b h => by
  unfold Mr.tabX at h
  split at h
  · rename_i ha
    obtain ⟨p, hp, rfl⟩ := any_mem e ha
    cases h
    exact ⟨p.2.2, (T.ok p hp).1, T.xc hp, T.kit hp hq⟩
  · cases h
theorem XTab.tabT (T : XTab K mg TE xs) (e : xn = xs.map fun p => (p.1, p.2.1)) : ∀ cn b, Mr.tabT xn cn = some b → ∃ C, mg cn = some (.ref C) ∧ XC K C ∧ PySem.W.kitOne K (.ref C) (.ref TE) = some b := fun cn b h => by
  unfold Mr.tabT at h
  split at h
  · rename_i ha
    obtain ⟨p, hp, rfl⟩ := any_mem e ha
    cases h
    exact ⟨p.2.2, (T.ok p hp).1, T.xc hp, T.kitT hp⟩
  · cases h
theorem XTab.tabV (T : XTab K mg TE xs) (e : xn = xs.map fun p => (p.1, p.2.1)) : ∀ cn b, Mr.tabT xn cn = some b → ∃ C, mg cn = some (.ref C) ∧ XC K C ∧ PySem.W.kitOne K (.ref C) (.type "ValueError") = some b := fun cn b h => by
  unfold Mr.tabT at h
  split at h
  · rename_i ha
    obtain ⟨p, hp, rfl⟩ := any_mem e ha
    cases h
    exact ⟨p.2.2, (T.ok p hp).1, T.xc hp, T.kitV hp⟩
  · cases h
theorem XTab.selX (T : XTab K mg TE xs) (e : xn = xs.map fun p => (p.1, p.2.1)) {q : Str × List Str × Addr} (hq : q ∈ xs) : ∀ cn b, Mr.tabX xn q.1 cn = some b → ∃ C, mg cn = some (.ref C) ∧ PySem.W.exmOne K (.ref C) (.ref q.2.2) = some b := fun cn b h => by
  unfold Mr.tabX at h
  split at h
  · rename_i ha
    obtain ⟨p, hp, rfl⟩ := any_mem e ha
    cases h
    refine ⟨p.2.2, (T.ok p hp).1, ?_⟩
    unfold PySem.W.exmOne
    rw [if_pos (by rw [(T.xc hq).oex.exC]; rfl)]
    exact T.kitC hp hq
  · cases h
theorem XTab.selT (T : XTab K mg TE xs) (e : xn = xs.map fun p => (p.1, p.2.1)) : ∀ cn b, Mr.tabT xn cn = some b → ∃ C, mg cn = some (.ref C) ∧ PySem.W.exmOne K (.ref C) (.ref TE) = some b := fun cn b h => by
  unfold Mr.tabT at h
  split at h
  · rename_i ha
    obtain ⟨p, hp, rfl⟩ := any_mem e ha
    cases h
    refine ⟨p.2.2, (T.ok p hp).1, ?_⟩
    unfold PySem.W.exmOne
    rw [if_pos (by rw [T.te.2.2]; rfl)]
    exact T.kitTC hp
  · cases h
theorem XTab.okX (T : XTab K mg TE xs) (e : xn = xs.map fun p => (p.1, p.2.1)) (n : Str) : ∀ cn, Mr.okX xn n cn = true → ∃ C, mg cn = some (.ref C) ∧ XC K C ∧ PySem.W.findIn K (.ref C) n = some none := fun cn h => by
  subst e
  unfold Mr.okX at h
  rw [List.any_map, List.any_eq_true] at h
  obtain ⟨p, hp, q⟩ := h
  simp only [Function.comp, Bool.and_eq_true, beq_iff_eq, List.contains_iff_mem] at q
  obtain ⟨rfl, q⟩ := q
  exact ⟨p.2.2, (T.ok p hp).1, T.xc hp, (T.out hp).fl n q⟩
end
end Mr

/-! while, x += e, str(i), two-part f-strings -/
namespace Mr
open PySem PySem.Spec PyProof.Rows L2

/-! ### while -/
def stepW (c : ME) (b : MS) (rec : En → SR) (ρ : En) : SR := match c ρ with
  | .ok (.bool true) ρ1 => (match b ρ1 with
    | .nx ρ2 => rec ρ2
    | .ct ρ2 => rec ρ2
    | .bk ρ2 => .nx ρ2
    | r => r)
  | .ok (.bool false) ρ1 => .nx ρ1
  | .ok _ _ => .bad
  | .exn x ρ1 => .exn x ρ1
  | .bad => .bad
/-- at most n turns -/
def whileN (c : ME) (b : MS) : Nat → En → SR
  | 0, _ => .bad
  | n + 1, ρ => stepW c b (whileN c b n) ρ
open Classical in
noncomputable def sWhile (c : ME) (b : MS) : MS := fun ρ => if h : ∃ n, whileN c b n ρ ≠ .bad then whileN c b h.choose ρ else .bad
theorem whileN_up {c : ME} {b : MS} : ∀ {n : Nat} {ρ : En}, whileN c b n ρ ≠ .bad → whileN c b (n + 1) ρ = whileN c b n ρ
  | 0, _, h => absurd rfl h
  | n + 1, ρ, h => by
    have ih := fun ρ' => whileN_up (c := c) (b := b) (n := n) (ρ := ρ')
    show stepW c b (whileN c b (n + 1)) ρ = stepW c b (whileN c b n) ρ
    have h : stepW c b (whileN c b n) ρ ≠ .bad := h
    unfold stepW at h ⊢
    cases hc : c ρ with
    | bad => rfl
    | exn x ρ1 => rfl
    | ok d ρ1 =>
      simp only [hc] at h
      cases d with
      | bool k =>
        cases k with
        | false => rfl
        | true =>
          simp only at h ⊢
          cases hb : b ρ1 with
          | nx ρ2 => simp only [hb] at h ⊢; exact ih _ h
          | ct ρ2 => simp only [hb] at h ⊢; exact ih _ h
          | _ => rfl
      | _ => rfl
theorem whileN_le {c : ME} {b : MS} {n m : Nat} {ρ : En} (hn : n ≤ m) (h : whileN c b n ρ ≠ .bad) : whileN c b m ρ = whileN c b n ρ := by
  induction hn with
  | refl => rfl
  | step _ ih => rw [whileN_up (by rw [ih]; exact h), ih]
theorem sWhile_eq {c : ME} {b : MS} {n : Nat} {ρ : En} (h : whileN c b n ρ ≠ .bad) : sWhile c b ρ = whileN c b n ρ := by
  have e : ∃ n, whileN c b n ρ ≠ .bad := ⟨n, h⟩
  unfold sWhile
  rw [dif_pos e]
  have h2 := e.choose_spec
  rcases Nat.le_total n e.choose with q | q
  · exact whileN_le q h
  · exact (whileN_le q h2).symm
theorem sWhile_cases {c : ME} {b : MS} {ρ : En} (h : sWhile c b ρ ≠ .bad) : ∃ n, whileN c b n ρ ≠ .bad ∧ sWhile c b ρ = whileN c b n ρ := by
  unfold sWhile at h ⊢
  by_cases e : ∃ n, whileN c b n ρ ≠ .bad
  · rw [dif_pos e]; exact ⟨_, e.choose_spec, rfl⟩
  · rw [dif_neg e] at h; exact absurd rfl h
section
variable {X : Cx} {g : Gh} {W : WX} {c : Sx} {ms msh : List Md} {ec : Expr} {body : List Stmt} {pos : Pos} {m : ME} {sb : MS}
theorem goS_notbad {F : Hp} {ms' : List Md} {Dn : Ends} {r : SR} (q : goS g W c ms' F Dn r) : r ≠ .bad := fun e => by rw [e] at q; exact q
theorem ls_while (hp : PassesOwn (model X.prog X.w) X.A X.env X.xe) (hc : PT X ec (LT g W msh m)) (hb : PSs X body (LS g W { c with mb := msh } msh msh sb)) (wh : wkB ms msh = true := by rfl) (wx : wkB msh c.mx = true := by rfl) :
    PS X (.While ec body [] pos) (LS g W c ms msh (sWhile m sb)) := ps_imp (ps_while hp hc hb) fun Dn σ H ⟨F, ρ, R, q⟩ => by
  obtain ⟨n, hn, e⟩ := sWhile_cases (goS_notbad q)
  rw [e] at q
  refine ⟨fun n σ' H' => ∃ F' ρ', Rel g F' msh ρ' σ' H' ∧ goS g W c msh F' Dn (whileN m sb n ρ'), ⟨n, F, ρ, R.weak wh, q⟩, fun n σ1 H1 ⟨F1, ρ1, R1, q1⟩ => ?_⟩
  cases n with
  | zero => exact q1.elim
  | succ n =>
    have q1 : goS g W c msh F1 Dn (stepW m sb (whileN m sb n) ρ1) := q1
    unfold stepW at q1
    refine ⟨F1, ρ1, R1, ?_⟩
    cases hm : m ρ1 with
    | bad => simp only [hm] at q1; exact q1
    | exn x ρ2 => simp only [hm] at q1; exact fun k dd F2 H2 s R xo => q1 k dd F2 _ H2 s (R.weak wx) xo
    | ok d ρ2 =>
      simp only [hm] at q1
      cases d with
      | bool k =>
        refine ⟨k, rfl, fun F2 H2 s2 R2 => ?_⟩
        cases k with
        | false => exact (goS.up s2 q1) F2 σ1 H2 (Same.refl _) R2
        | true =>
          rw [if_pos rfl]
          refine ⟨fun σ' H' => ∃ F' ρ', Rel g F' msh ρ' σ' H' ∧ goS g W c msh F' Dn (whileN m sb n ρ'), fun σ' H' h => ⟨n, Nat.lt_succ_self n, h⟩, F2, ρ2, R2, ?_⟩
          have q2 := goS.up s2 q1
          cases hb2 : sb ρ2 with
          | nx ρ3 => simp only [hb2] at q2; exact fun F3 σ3 H3 s3 R3 => ⟨F3, ρ3, R3, goS.up s3 q2⟩
          | ct ρ3 => simp only [hb2] at q2; exact fun F3 σ3 H3 s3 R3 => ⟨F3, ρ3, R3, goS.up s3 q2⟩
          | bk ρ3 => simp only [hb2] at q2; exact fun F3 σ3 H3 s3 R3 => q2 F3 σ3 H3 s3 R3
          | rt d3 ρ3 => simp only [hb2] at q2; exact q2
          | exn x3 ρ3 => simp only [hb2] at q2; exact q2
          | bad => simp only [hb2] at q2; exact q2
      | _ => exact q1.elim

/-! ### x += e over integers -/
def sAugI (i : Nat) (o : Opd) : MS := fun ρ => match ρ[i]? with
  | some (some (.int a)) => (match evO o ρ with
    | .ok (.inl (.int b)) ρ1 => .nx (ρ1.set i (some (.int (a + b))))
    | .exn x ρ1 => .exn x ρ1
    | _ => .bad)
  | _ => .bad
theorem ls_augI {i : Nat} {x : Str} {e : Expr} {o : Opd} {px : Pos} (hN : X.N.Nodup) (hi : X.N[i]? = some x) (hx : Loc X.env.scope x) (hm : ms[i]? = some .val) (he : PE X e (LP g W ms o)) (wx : wkB ms c.mx = true := by rfl)
    (hf : X.fn x = true ∨ X.env.scope.names.lookup x = some .local := by first | exact .inl rfl | exact .inr rfl | assumption) : PS X (.AugAssign (.Name x px) .Add e pos) (LS g W c ms ms (sAugI i o)) := ps_imp (ps_aug hN hi hx he ip_add hf) fun Dn σ H ⟨F, ρ, R, q⟩ => by
  unfold sAugI at q
  cases h0 : ρ[i]? with
  | none => simp only [h0] at q; exact q.elim
  | some od =>
    cases od with
    | none => simp only [h0] at q; exact q.elim
    | some d =>
      cases d with
      | int a =>
        simp only [h0] at q
        obtain ⟨v, h1, h2⟩ := R.slot i .val (.int a) hm (by decide) h0
        have ev : v = .int a := by cases h2; rfl
        subst ev
        refine ⟨_, h1, F, ρ, R, ?_⟩
        cases h3 : evO o ρ with
        | bad => simp only [h3] at q; exact q.elim
        | exn xx ρ1 => simp only [h3] at q; exact fun k dd F2 H2 s R xo => q k dd F2 σ H2 s (R.weak wx) xo
        | ok p ρ1 =>
          cases p with
          | inr j => simp only [h3] at q; exact q.elim
          | inl d2 =>
            cases d2 with
            | int b =>
              simp only [h3] at q
              intro u F1 H1 s1 R1 pu
              have eu : u = .int b := by cases pu; rfl
              subst eu
              have hl : i < ms.length := (List.getElem?_eq_some_iff.mp hm).1
              have R2 := R1.setVal (i := i) (v := .int (a + b)) (d := .int (a + b)) hl (.int _)
              have em : ms.set i .val = ms := by
                apply List.ext_getElem?
                intro j
                by_cases hj : j = i
                · subst hj; rw [List.getElem?_set_self hl, hm]
                · rw [List.getElem?_set_ne (Ne.symm hj)]
              rw [em] at R2
              exact ⟨a, b, rfl, rfl, q F1 _ H1 s1 R2⟩
            | _ => simp only [h3] at q; exact q.elim
      | _ => simp only [h0] at q; exact q.elim
end

/-! ### str(i), f"{x}{i}" -/
section
variable {K : Fr} {mg : Mg}
def oStr : List D → Option D
  | [.int i] => if i.natAbs.log2 < 1920 then some (.str (toString i)) else none
  | _ => none
theorem ad_str : Ad K mg (fun xs H Q => ∃ i : Int, xs = [.int i] ∧ i.natAbs.log2 < 1920 ∧ Q (.str (toString i)) H) oStr := fun F H vs ds d Q e b hd k => by
  unfold oStr at hd
  split at hd
  · rename_i i
    split at hd
    · rename_i hi
      cases hd
      obtain ⟨x, rfl, bx⟩ := bva1 b
      have := bx.int
      subst this
      exact ⟨i, rfl, hi, k _ F H (Ext.refl e) (.str _)⟩
    · cases hd
  · cases hd
end
def fmtD : D → Option Str
  | .str y => if y.length ≤ sizeLine then some y else none
  | .int i => if i.natAbs.log2 < 1920 then some (toString i) else none
  | _ => none
def mFs2 (A B : Opd) : ME := fun ρ => match evO A ρ with
  | .ok (.inl a) ρ1 => (match fmtD a with
    | some y => (match evO B ρ1 with
      | .ok (.inl b) ρ2 => (match fmtD b with
        | some z => if (Str.empty ++ y).length ≤ sizeLine ∧ (Str.empty ++ y ++ z).length ≤ sizeLine then .ok (.str (Str.empty ++ y ++ z)) ρ2 else .bad
        | none => .bad)
      | .exn x ρ2 => .exn x ρ2
      | _ => .bad)
    | none => .bad)
  | .exn x ρ1 => .exn x ρ1
  | _ => .bad
section
variable {X : Cx} {g : Gh} {W : WX} {ms : List Md} {ea eb : Expr} {A B : Opd} {pos p1 p2 : Pos}
theorem fmt_ok {F H : Hp} {v : V} {d : D} {y : Str} {Q : VK} (r : Rp g.K g.mg F v d) (h : fmtD d = some y) (q : Q (.str y) H) : (∃ z : Str, v = .str z ∧ z.length ≤ sizeLine ∧ Q (.str z) H) ∨ ∃ i : Int, v = .int i ∧ i.natAbs.log2 < 1920 ∧ Q (.str (toString i)) H := by
  unfold fmtD at h
  split at h
  · split at h
    · rename_i hl; cases h; cases r; exact .inl ⟨_, rfl, hl, q⟩
    · cases h
  · split at h
    · rename_i hl; cases h; cases r; exact .inr ⟨_, rfl, hl, q⟩
    · cases h
  · cases h
theorem le_fs2 (ha : PE X ea (LP g W ms A)) (hb : PE X eb (LP g W ms B)) : PE X (.JoinedStr [.FormattedValue ea (-1) none p1, .FormattedValue eb (-1) none p2] pos) (LE g W ms (mFs2 A B)) :=
  pe_imp (pe_joined (.cons (pe_fmt ha) (.cons (pe_fmt hb) .nil))) fun σ H Q ⟨F, ρ, R, q⟩ => by
    unfold mFs2 at q
    refine ⟨F, ρ, R, ?_⟩
    cases h1 : evO A ρ with
    | bad => simp only [h1] at q; exact q.elim
    | exn x ρ1 => simp only [h1] at q; exact q
    | ok p ρ1 =>
      cases p with
      | inr j => simp only [h1] at q; exact q.elim
      | inl a =>
        simp only [h1] at q
        intro v F1 H1 s1 R1 pa
        cases h2 : fmtD a with
        | none => simp only [h2] at q; exact q.elim
        | some y =>
          simp only [h2] at q
          refine fmt_ok (g := g) (Q := fun x H1 => ∃ y : Str, x = .str y ∧ (Str.empty ++ y).length ≤ sizeLine ∧ tJs [tFmt (LP g W ms B)] (Str.empty ++ y) σ H1 fun out H1 => Q (.str out) H1) pa h2 ?_
          cases h3 : evO B ρ1 with
          | bad => simp only [h3] at q; exact q.elim
          | exn x ρ2 =>
            simp only [h3] at q
            have hl : (Str.empty ++ y).length ≤ sizeLine := by
              have hy : y.length ≤ sizeLine := by
                unfold fmtD at h2
                split at h2
                · split at h2
                  · rename_i hl; cases h2; exact hl
                  · cases h2
                · split at h2
                  · rename_i hl; cases h2; exact int_text_fits hl
                  · cases h2
                · cases h2
              have e : Str.empty ++ y = y := by
                show (⟨#[] ++ y.cps⟩ : Str) = y
                simp
              rw [e]; exact hy
            exact ⟨y, rfl, hl, F1, ρ1, R1, by rw [h3]; exact fun c dd F' H' s2 R' xo => q c dd F' H' (s1.trans s2) R' xo⟩
          | ok p2 ρ2 =>
            cases p2 with
            | inr j => simp only [h3] at q; exact q.elim
            | inl b =>
              simp only [h3] at q
              cases h4 : fmtD b with
              | none => simp only [h4] at q; exact q.elim
              | some z =>
                simp only [h4] at q
                split at q
                · rename_i hl
                  refine ⟨y, rfl, hl.1, F1, ρ1, R1, ?_⟩
                  rw [h3]
                  intro v2 F2 H2 s2 R2 pb
                  exact fmt_ok (g := g) (Q := fun x H1 => ∃ z : Str, x = .str z ∧ (Str.empty ++ y ++ z).length ≤ sizeLine ∧ tJs [] (Str.empty ++ y ++ z) σ H1 fun out H1 => Q (.str out) H1) pb h4 ⟨z, rfl, hl.2, q _ F2 H2 (s1.trans s2) R2 (.str _)⟩
                · exact q.elim
end
end Mr

/-! what the new mirrors come to -/
namespace Mr
open PySem PySem.Spec PyProof.Rows L2
/-- an exception's data, by its class and its fields -/
def wX : D → (Str → List (D × D) → Prop) → Prop
  | .dict ((.bool true, .str cn) :: kvs), K => K cn kvs
  | _, _ => False
section
variable {ρ : En} {Q Q' : D → En → Prop} {X X' : D → En → Prop} {P : Pw} {K : D → Prop} {cn m n : Str} {kvs : List (D × D)} {b su : MS} {sel : Str → Option Bool} {i : Nat} {os : List Opd} {fnr : List Str} {xn : XN}
theorem wX_mk {ds : List D} {K : Str → List (D × D) → Prop} : wX (mkX cn fnr ds) K = K cn ((fnr.map PyData.str).zip ds.reverse) := rfl
theorem wX_dc {K : Str → List (D × D) → Prop} : wX (.dict ((.bool true, .str cn) :: kvs)) K = K cn kvs := rfl
/-- behind an except suite -/
abbrev Pw.suite (P : Pw) (i : Nat) : Pw := ⟨fun ρ => P.nx (ρ.set i none), P.rt, fun _ _ => False, fun ρ => P.bk (ρ.set i none), fun ρ => P.ct (ρ.set i none)⟩
theorem wS_suite {r : SR} : wS (r.suite i) P = wS r (P.suite i) := by cases r <;> rfl
theorem wS_try : wS (sTry sel i b su ρ) P = wS (b ρ) { P with xn := fun x ρ1 => wX x fun cn kvs => wV (sel cn) fun k => (k = true → wS (su (ρ1.set i (some (.dict ((.bool true, .str cn) :: kvs))))) (P.suite i)) ∧ (k = false → P.xn (.dict ((.bool true, .str cn) :: kvs)) ρ1) } := by
  unfold sTry
  cases b ρ with
  | exn x ρ1 =>
    show wS (tryX sel i su ρ1 x) P = wX x _
    unfold tryX wX
    split
    · rename_i cn kvs
      cases h : sel cn with
      | none => simp only [h]; rfl
      | some k =>
        cases k with
        | true => simp only [h, wV, wS_suite, true_implies, reduceCtorEq, false_implies, and_true]
        | false => simp only [h, wV, reduceCtorEq, false_implies, true_implies, true_and]; rfl
    · rename_i h
      split
      · exact absurd rfl (h _ _)
      · rfl
  | _ => rfl
theorem wS_raise : wS (sRaise cn fnr os ρ) P = wA (evs os ρ) (fun ps ρ1 => wV (dsOf ps) fun ds => ds.length = fnr.length ∧ P.xn (mkX cn fnr ds) ρ1) P.xn := by
  unfold sRaise
  cases evs os ρ with
  | ok ps ρ1 =>
    simp only [wA]
    cases dsOf ps with
    | none => rfl
    | some ds =>
      simp only [wV]
      by_cases h : ds.length = fnr.length
      · rw [if_pos h]; simp only [wS, h, true_and]
      · rw [if_neg h]; simp only [wS, h, false_and]
  | _ => rfl
theorem vo_isX {tab : Str → Option Bool} : wV (oIsX tab [.dict ((.bool true, .str cn) :: kvs)]) K = wV (tab cn) fun z => K (.bool z) := by
  show wV ((tab cn).map PyData.bool) K = _
  rw [wV_map]
theorem vo_attr {ok : Str → Bool} : wV (oAttr ok n [.dict ((.bool true, .str cn) :: kvs)]) K = (ok cn = true ∧ wV (lookD n kvs) K) := by
  show wV (if ok cn = true then lookD n kvs else none) K = _
  by_cases h : ok cn = true
  · rw [if_pos h]; simp only [h, true_and]
  · rw [if_neg h]; simp only [wV]; exact propext ⟨False.elim, fun z => h z.1⟩
theorem lookD_hd {d : D} {r : List (D × D)} : lookD n ((.str n, d) :: r) = some d := by rw [lookD, if_pos rfl]
theorem lookD_tl {d : D} {r : List (D × D)} (h : m ≠ n) : lookD n ((.str m, d) :: r) = lookD n r := by rw [lookD, if_neg h]
/-! ### while -/
theorem while_ok {c : ME} (I : Nat → En → Prop) (h : ∀ n ρ, I n ρ → wE (c ρ) (fun d ρ1 => wB d fun z => (z = true → wS (b ρ1) { P with nx := fun ρ2 => ∃ k, k < n ∧ I k ρ2, ct := fun ρ2 => ∃ k, k < n ∧ I k ρ2, bk := P.nx }) ∧ (z = false → P.nx ρ1)) P.xn) :
    ∀ (n : Nat) (ρ : En), I n ρ → wS (sWhile c b ρ) P := by
  have key : ∀ (n : Nat) (ρ : En), I n ρ → ∃ k, wS (whileN c b k ρ) P := by
    intro n
    induction n using Nat.strongRecOn with
    | ind n ih =>
      intro ρ hI
      have q := h n ρ hI
      cases hc : c ρ with
      | bad => rw [hc] at q; exact q.elim
      | exn x ρ1 => rw [hc] at q; exact ⟨1, by show wS (stepW c b _ ρ) P; unfold stepW; rw [hc]; exact q⟩
      | ok d ρ1 =>
        rw [hc] at q
        cases d with
        | bool z =>
          cases z with
          | false => exact ⟨1, by show wS (stepW c b _ ρ) P; unfold stepW; rw [hc]; exact q.2 rfl⟩
          | true =>
            have q := q.1 rfl
            cases hb : b ρ1 with
            | nx ρ2 =>
              rw [hb] at q
              obtain ⟨k, hk, hI2⟩ := q
              obtain ⟨j, hj⟩ := ih k hk ρ2 hI2
              exact ⟨j + 1, by show wS (stepW c b _ ρ) P; unfold stepW; rw [hc]; simp only [hb]; exact hj⟩
            | ct ρ2 =>
              rw [hb] at q
              obtain ⟨k, hk, hI2⟩ := q
              obtain ⟨j, hj⟩ := ih k hk ρ2 hI2
              exact ⟨j + 1, by show wS (stepW c b _ ρ) P; unfold stepW; rw [hc]; simp only [hb]; exact hj⟩
            | bk ρ2 => rw [hb] at q; exact ⟨1, by show wS (stepW c b _ ρ) P; unfold stepW; rw [hc]; simp only [hb]; exact q⟩
            | rt d2 ρ2 => rw [hb] at q; exact ⟨1, by show wS (stepW c b _ ρ) P; unfold stepW; rw [hc]; simp only [hb]; exact q⟩
            | exn x2 ρ2 => rw [hb] at q; exact ⟨1, by show wS (stepW c b _ ρ) P; unfold stepW; rw [hc]; simp only [hb]; exact q⟩
            | bad => rw [hb] at q; exact q.elim
        | _ => exact q.elim
  intro n ρ hI
  obtain ⟨k, hk⟩ := key n ρ hI
  rw [sWhile_eq (n := k) (fun e => by rw [e] at hk; exact hk)]
  exact hk
theorem wS_augI {e : ME} : wS (sAugI i (.ex e) ρ) P = wV (ρ[i]?.join) fun d => wZ d fun a => wE (e ρ) (fun d2 ρ1 => wZ d2 fun z => P.nx (ρ1.set i (some (.int (a + z))))) P.xn := by
  unfold sAugI
  cases h : ρ[i]? with
  | none => rfl
  | some o =>
    cases o with
    | none => rfl
    | some d =>
      cases d with
      | int a =>
        simp only [evO]
        cases he : e ρ with
        | ok d2 ρ1 => cases d2 <;> rfl
        | _ => rfl
      | _ => rfl
/-! ### texts -/
theorem vo_str {j : Int} : wV (oStr [.int j]) K = (j.natAbs.log2 < 1920 ∧ K (.str (toString j))) := by
  show wV (if j.natAbs.log2 < 1920 then _ else none) K = _
  rw [wV_if]; rfl
theorem vo_fmtS {y : Str} {KS : Str → Prop} : wV (fmtD (.str y)) KS = (y.length ≤ sizeLine ∧ KS y) := by
  show wV (if y.length ≤ sizeLine then _ else none) KS = _
  rw [wV_if]; rfl
theorem vo_fmtI {j : Int} {KS : Str → Prop} : wV (fmtD (.int j)) KS = (j.natAbs.log2 < 1920 ∧ KS (toString j)) := by
  show wV (if j.natAbs.log2 < 1920 then _ else none) KS = _
  rw [wV_if]; rfl
theorem wE_fs2 {e f : ME} : wE (mFs2 (.ex e) (.ex f) ρ) Q X = wE (e ρ) (fun a ρ1 => wV (fmtD a) fun y => wE (f ρ1) (fun c ρ2 => wV (fmtD c) fun z => ((Str.empty ++ y).length ≤ sizeLine ∧ (Str.empty ++ y ++ z).length ≤ sizeLine) ∧ Q (.str (Str.empty ++ y ++ z)) ρ2) X) X := by
  unfold mFs2
  simp only [evO]
  cases he : e ρ with
  | ok a ρ1 =>
    simp only [wE]
    cases fmtD a with
    | none => rfl
    | some y =>
      simp only [wV]
      cases hf : f ρ1 with
      | ok c ρ2 =>
        simp only [wE]
        cases fmtD c with
        | none => rfl
        | some z =>
          simp only [wV]
          by_cases h : (Str.empty ++ y).length ≤ sizeLine ∧ (Str.empty ++ y ++ z).length ≤ sizeLine
          · rw [if_pos h]; exact propext ⟨fun q => ⟨h, q⟩, fun q => q.2⟩
          · rw [if_neg h]; exact propext ⟨False.elim, fun q => h q.1⟩
      | _ => rfl
  | _ => rfl
theorem empty_app (y : Str) : Str.empty ++ y = y := by
  show (⟨#[] ++ y.cps⟩ : Str) = y
  simp
theorem plain_strs : ∀ xs : List Str, plainAll (xs.map PyData.str) = true
  | [] => rfl
  | _ :: xs => by simp only [List.map_cons, plainAll, plain, Bool.true_and]; exact plain_strs xs
theorem shaped_strs {xs : List Str} (h : ∀ x ∈ xs, Ok x) : SeqAt.shaped (.list (xs.map PyData.str)) = true := by
  have := cmp_strs h
  unfold cmpB at this
  exact (Bool.and_eq_true_iff.mp this).2
theorem any_eqv {x : Str} : ∀ xs : List Str, ((xs.map PyData.str).any fun z => PyData.eqv z (.str x)) = decide (x ∈ xs)
  | [] => by simp
  | y :: xs => by
    rw [List.map_cons, List.any_cons, any_eqv xs, eqv_str, Bool.eq_iff_iff]
    simp only [Bool.or_eq_true, decide_eq_true_eq, List.mem_cons]
    exact ⟨fun h => h.imp Eq.symm id, fun h => h.imp Eq.symm id⟩
/-- a row of texts, as a list or as a tuple -/
inductive SqD (ds : List D) : D → Prop
  | lst : SqD ds (.list ds)
  | tup : SqD ds (.tuple ds)
theorem inD_strs {x : Str} {xs : List Str} {d : D} (hx : Ok x) (h : ∀ x ∈ xs, Ok x) (hd : SqD (xs.map .str) d) : inD (.str x) d = some (decide (x ∈ xs)) := by
  have c1 : cmpB (.str x) = true := cmp_str.mpr (ok_iff.mpr hx)
  cases hd <;> (unfold inD; simp only [c1, plain_strs, shaped_strs h, Bool.and_self, if_true, any_eqv])
theorem vo_inStrs {x : Str} {xs : List Str} {d : D} (hx : Ok x) (h : ∀ x ∈ xs, Ok x) (hd : SqD (xs.map .str) d) : wV (oIn [.str x, d]) K = K (.bool (decide (x ∈ xs))) := by
  show wV ((inD (.str x) d).map PyData.bool) K = _
  rw [inD_strs hx h hd]; rfl
theorem vo_notInStrs {x : Str} {xs : List Str} {d : D} (hx : Ok x) (h : ∀ x ∈ xs, Ok x) (hd : SqD (xs.map .str) d) : wV (oNotIn [.str x, d]) K = K (.bool (!decide (x ∈ xs))) := by
  show wV ((inD (.str x) d).map fun b => PyData.bool (!b)) K = _
  rw [inD_strs hx h hd]; rfl
theorem vo_lenSq {ds : List D} {d : D} (hd : SqD ds d) : wV (oLen [d]) K = K (.int ds.length) := by cases hd <;> rfl
theorem vo_lstSq {ds : List D} {d : D} (hd : SqD ds d) : wV (oList [d]) K = K (.list ds) := by cases hd <;> rfl
theorem vo_tupSq {ds : List D} {d : D} (hd : SqD ds d) : wV (oTuple [d]) K = K (.tuple ds) := by cases hd <;> rfl
theorem it_sq {ds : List D} {d : D} {KL : List D → Prop} (hd : SqD ds d) : wV (itD d) KL = KL ds := by cases hd <;> rfl
theorem u_pop2 {es : List D} {d : D} {KP : List D × D → Prop} : wV (uPop (es ++ [d]) []) KP = KP (es, d) := by
  rw [u_pop]
  simp [wV]
theorem mkX_1 {f : Str} {d : D} : mkX cn [f] [d] = .dict [(.bool true, .str cn), (.str f, d)] := rfl
theorem mkX_2 {f f2 : Str} {d d2 : D} : mkX cn [f2, f] [d, d2] = .dict [(.bool true, .str cn), (.str f2, d2), (.str f, d)] := rfl
theorem mkX_3 {f f2 f3 : Str} {d d2 d3 : D} : mkX cn [f3, f2, f] [d, d2, d3] = .dict [(.bool true, .str cn), (.str f3, d3), (.str f2, d2), (.str f, d)] := rfl
/-! ### how many values a value holds -/
mutual
def nodes : D → Nat
  | .list ds => 1 + nodesA ds
  | .tuple ds => 1 + nodesA ds
  | _ => 1
def nodesA : List D → Nat
  | [] => 0
  | d :: ds => nodes d + nodesA ds
end
theorem nodes_pos (d : D) : 1 ≤ nodes d := by cases d <;> simp [nodes]
theorem nodesA_app : ∀ (a b : List D), nodesA (a ++ b) = nodesA a + nodesA b
  | [], b => by simp [nodesA]
  | d :: a, b => by rw [List.cons_append, nodesA, nodesA, nodesA_app a b]; omega
theorem nodesA_len : ∀ ds : List D, ds.length ≤ nodesA ds
  | [] => Nat.zero_le _
  | d :: ds => by have := nodesA_len ds; have := nodes_pos d; rw [List.length_cons, nodesA]; omega
theorem canLayA {ds : List D} (h : PyData.canLayAll0 ds = true) : ∀ d ∈ ds, d.canLay0 = true := by
  induction ds with
  | nil => intro d hd; cases hd
  | cons e ds ih =>
    simp only [PyData.canLayAll0, Bool.and_eq_true] at h
    intro d hd
    rcases List.mem_cons.mp hd with rfl | hd
    · exact h.1
    · exact ih h.2 d hd
theorem u_popAt {es : List D} {j : Int} {KP : List D × D → Prop} (h0 : 0 ≤ j) (h1 : j < es.length) (h2 : es.length ≤ 1000000) (k : ∀ d, es[j.toNat]? = some d → KP (es.eraseIdx j.toNat, d)) : wV (uPopAt es [.int j]) KP := by
  unfold uPopAt
  have e : seqIndex? j es.length = some j.toNat := by
    unfold seqIndex?
    simp only
    rw [if_neg (show ¬ j < 0 by omega), if_pos (by simp only [Bool.and_eq_true, decide_eq_true_eq]; omega)]
  have big : (decide (-(2 ^ 63) ≤ j) && decide (j < 2 ^ 63)) = true := by
    have : j < 2 ^ 63 := by omega
    have : -(2 ^ 63) ≤ j := by omega
    simp only [Bool.and_eq_true, decide_eq_true_eq]
    omega
  simp only [big, if_true, e]
  have hd : es[j.toNat]? = some (es[j.toNat]'(by omega)) := List.getElem?_eq_getElem _
  rw [hd]
  exact k _ hd
end
end Mr
namespace Mr
open PySem PySem.Spec PyProof.Rows L2
section
variable {ρ : En} {P : Pw} {cn m : Str} {kvs : List (D × D)} {s1 s2 : MS} {tab : Str → Option Bool}
/-- if isinstance(e, C): .. -/
theorem skipX (h : tab cn = some false) : wS (sSeq (sIf (mApp tru [.ex (mApp (oIsX tab) [.sl 0])]) s1 sNx) s2 (some (.dict ((.bool true, .str cn) :: kvs)) :: ρ)) P = wS (s2 (some (.dict ((.bool true, .str cn) :: kvs)) :: ρ)) P := by
  rw [wS_seq, wS_if]
  simp only [wE_app, wA_ex, wA_sl, wA_nil, List.getElem?_cons_zero, Option.join_some, wV_some, wR_r, wR_l, wR_nil, vo_isX, h, vo_truB, wB_bool, Bool.false_eq_true, false_implies, true_implies, true_and, wS_nx]
theorem takeX (h : tab cn = some true) : wS (sSeq (sIf (mApp tru [.ex (mApp (oIsX tab) [.sl 0])]) s1 sNx) s2 (some (.dict ((.bool true, .str cn) :: kvs)) :: ρ)) P = wS (s1 (some (.dict ((.bool true, .str cn) :: kvs)) :: ρ)) { P with nx := fun ρ1 => wS (s2 ρ1) P } := by
  rw [wS_seq, wS_if]
  simp only [wE_app, wA_ex, wA_sl, wA_nil, List.getElem?_cons_zero, Option.join_some, wV_some, wR_r, wR_l, wR_nil, vo_isX, h, vo_truB, wB_bool, Bool.true_eq_false, false_implies, true_implies, and_true]
end
end Mr

/-! xs.index(y), xs.count(y), of a list or a tuple -/
namespace Mr
open PySem PySem.Spec PyProof.Rows L2
/-- a list, or a tuple whose object is told: b tells which -/
def SqB (K : Fr) (H : Hp) (b : Bool) (a : Addr) (xs : List V) : Prop := if b = true then SqL K H a xs else SqF K H a xs
/-- a method that asks a row about a value -/
def rSeqM (K : Fr) (b : Bool) (f : List D → D → Option Int) : V → List V → Hp → VK → Prop := fun x vs H Q => ∃ a xs ds y d i, x = .ref a ∧ vs = [y] ∧ SqB K H b a xs ∧ DpAll K H xs ds ∧ Dp K H y d ∧ SeqAt.shaped (.list ds) = true ∧ SeqAt.shaped d = true ∧ f ds d = some i ∧ Q (.int i) H
def fIndex (ds : List D) (d : D) : Option Int := match ds.findIdx? fun z => PyData.eqv z d with
  | some j => some (Int.ofNat j)
  | none => none
theorem fIndex_some {ds : List D} {d : D} {i : Int} (h : fIndex ds d = some i) : ∃ j : Nat, (ds.findIdx? fun z => PyData.eqv z d) = some j ∧ i = (j : Int) := by
  unfold fIndex at h
  split at h
  · rename_i j hj
    cases h
    exact ⟨j, hj, rfl⟩
  · cases h
def fCount (ds : List D) (d : D) : Option Int := some (ds.countP fun z => PyData.eqv z d : Nat)
section
variable {X : Cx} {pins : List (Addr × Obj)} {σ : Sg} {H : Hp} {s : Shared} {a : Addr} {xs : List V} {ds : List D} {y : V} {d : D} {u : Value} {b : Bool}
/-- the items as data, and how each is compared -/
theorem seq_reads (hu : X.A.units + 65 < cLine) (I : Inv X pins σ H s) (hs : SqB X.K H b a xs) (ra : DpAll X.K H xs ds) (hy : Dp X.K H y d) (ry : RelV y u) (sl : SeqAt.shaped (.list ds) = true) (sd : SeqAt.shaped d = true) :
    ∃ (its : List Value) (n : Nat) (dd : Option Addr) (sls : Array (Option Value)), s.heap.get? a = some { cls := .type (if b = true then "list" else "tuple"), dict := dd, data := .seq its.toArray n, slots := sls } ∧ its.map (SeqAt.readOf s.heap) = ds ∧ its.length ≤ sizeLine ∧
      ∀ z, z ∈ its.toArray → SeqAt.EqAt X.A.in1 s z u (PyData.eqv (SeqAt.readOf s.heap z) d) := by
  obtain ⟨bs, r1⟩ := Dp.reads I d y u hy ry
  have hxs : PyData.canLayAll0 ds = true := SeqAt.canLay_of_shaped sl
  have room := room_in_shaped (A := X.A) (xs := ds) sd hu
  have fin : ∀ (its : List Value) (n : Nat) (dd : Option Addr) (sls : Array (Option Value)), Vals xs its → xs.length ≤ sizeLine → s.heap.get? a = some { cls := .type (if b = true then "list" else "tuple"), dict := dd, data := .seq its.toArray n, slots := sls } → ∃ (its : List Value) (n : Nat) (dd : Option Addr) (sls : Array (Option Value)), s.heap.get? a = some { cls := .type (if b = true then "list" else "tuple"), dict := dd, data := .seq its.toArray n, slots := sls } ∧ its.map (SeqAt.readOf s.heap) = ds ∧ its.length ≤ sizeLine ∧
      ∀ z, z ∈ its.toArray → SeqAt.EqAt X.A.in1 s z u (PyData.eqv (SeqAt.readOf s.heap z) d) := fun its n dd sls rv hz ho => by
    obtain ⟨as, h4⟩ := Dp.readsAll I ds _ its ra rv
    exact ⟨its, n, dd, sls, ho, SeqAt.readsAll_map ds its as hxs h4, by rw [← rv.length]; exact hz, SeqAt.items_eqAt (vs := its.toArray) (show ReadsAll s.heap its.toArray.toList ds as from h4) r1 hxs (SeqAt.canLay_of_shaped sd) room⟩
  cases b with
  | true =>
    rw [SqB, if_pos rfl] at hs
    obtain ⟨its, rv, ⟨⟨c, dd, dt, sls⟩, n, ho, hc, hdn, hd⟩, hz⟩ := I.list hs
    simp only at hc hd
    subst hc hd
    exact fin its n dd sls rv hz ho
  | false =>
    rw [SqB, if_neg Bool.false_ne_true] at hs
    obtain ⟨its, n, sls, rv, ho, hz⟩ := hs.obj I
    exact fin its n none sls rv hz ho
theorem idx_of {its : List Value} {f : Value → D} {p : D → Bool} {j : Nat} (h : (its.map f).findIdx? p = some j) : ∃ hj : j < its.length, p (f its[j]) = true ∧ ∀ m (hm : m < its.length), m < j → p (f its[m]) = false := by
  rw [List.findIdx?_eq_some_iff_getElem] at h
  obtain ⟨h1, h2, h3⟩ := h
  have hj : j < its.length := by simpa using h1
  refine ⟨hj, by simpa using h2, fun m hm hmj => ?_⟩
  have := h3 m hmj
  simpa using this
theorem mt_indexL (hu : X.A.units + 65 < cLine) : MtR X "list.index" (rSeqM X.K true fIndex) := by
  intro pins s σ H x vs v us Q I rx rvs h
  obtain ⟨a, xs, ds, y, d, i, rfl, rfl, hs, ra, hy, sl, sd, hf, q⟩ := h
  cases rx
  obtain ⟨u, rfl, ry⟩ := rvs.one
  obtain ⟨its, n, dd, sls, ho, hm, hz, he⟩ := seq_reads hu I hs ra hy ry sl sd
  rw [if_pos rfl] at ho
  obtain ⟨j, hj, rfl⟩ := fIndex_some hf
  rw [← hm] at hj
  obtain ⟨hjl, h1, h2⟩ := idx_of hj
  have z0 := sizeLine_eq
  exact call_meets PySem.F.slot_list_index ⟨_, ho, rfl⟩ PySem.F.entry_list_index (PySem.F.args_list_index_2 _ _)
    (SeqAt.list_indexAt a its.toArray n dd sls u (fun z => PyData.eqv (SeqAt.readOf s.heap z) d) j (by simpa using hjl) (by omega) (by simpa using h1) (fun m hm1 hmj => by simpa using h2 m (by simpa using hm1) hmj)) ⟨ho, he, .int (j : Nat), H, I.tok _, ⟨_, rfl⟩, q⟩
theorem mt_indexT (hu : X.A.units + 65 < cLine) : MtR X "tuple.index" (rSeqM X.K false fIndex) := by
  intro pins s σ H x vs v us Q I rx rvs h
  obtain ⟨a, xs, ds, y, d, i, rfl, rfl, hs, ra, hy, sl, sd, hf, q⟩ := h
  cases rx
  obtain ⟨u, rfl, ry⟩ := rvs.one
  obtain ⟨its, n, dd, sls, ho, hm, hz, he⟩ := seq_reads hu I hs ra hy ry sl sd
  rw [if_neg Bool.false_ne_true] at ho
  obtain ⟨j, hj, rfl⟩ := fIndex_some hf
  rw [← hm] at hj
  obtain ⟨hjl, h1, h2⟩ := idx_of hj
  exact call_meets PySem.F.slot_tuple_index ⟨_, ho, rfl⟩ PySem.F.entry_tuple_index (PySem.F.args_tuple_index_2 _ _)
    (TI.tuple_indexAt a its.toArray n dd sls u (fun z => PyData.eqv (SeqAt.readOf s.heap z) d) j (by simpa using hjl) (by simpa using h1) (fun m hm1 hmj => by simpa using h2 m (by simpa using hm1) hmj)) ⟨ho, he, .int (j : Nat), H, I.tok _, ⟨_, rfl⟩, q⟩
theorem cnt_of {its : List Value} {f : Value → D} {p : D → Bool} : its.countP (fun z => p (f z)) = (its.map f).countP p := by
  rw [List.countP_map]; rfl
theorem mt_countL (hu : X.A.units + 65 < cLine) : MtR X "list.count" (rSeqM X.K true fCount) := by
  intro pins s σ H x vs v us Q I rx rvs h
  obtain ⟨a, xs, ds, y, d, i, rfl, rfl, hs, ra, hy, sl, sd, hf, q⟩ := h
  cases rx
  obtain ⟨u, rfl, ry⟩ := rvs.one
  obtain ⟨its, n, dd, sls, ho, hm, hz, he⟩ := seq_reads hu I hs ra hy ry sl sd
  rw [if_pos rfl] at ho
  cases hf
  refine call_meets PySem.F.slot_list_count ⟨_, ho, rfl⟩ PySem.F.entry_list_count (PySem.F.args_list_count_2 _ _)
    (SeqAt.list_countAt a its.toArray n dd sls u (fun z => PyData.eqv (SeqAt.readOf s.heap z) d)) ⟨ho, he, .int _, H, I.tok _, ⟨s.toks, ?_⟩, q⟩
  rw [show its.toArray.toList = its by simp, cnt_of (f := SeqAt.readOf s.heap) (p := fun z => PyData.eqv z d), hm]
theorem mt_countT (hu : X.A.units + 65 < cLine) : MtR X "tuple.count" (rSeqM X.K false fCount) := by
  intro pins s σ H x vs v us Q I rx rvs h
  obtain ⟨a, xs, ds, y, d, i, rfl, rfl, hs, ra, hy, sl, sd, hf, q⟩ := h
  cases rx
  obtain ⟨u, rfl, ry⟩ := rvs.one
  obtain ⟨its, n, dd, sls, ho, hm, hz, he⟩ := seq_reads hu I hs ra hy ry sl sd
  rw [if_neg Bool.false_ne_true] at ho
  cases hf
  refine call_meets PySem.F.slot_tuple_count ⟨_, ho, rfl⟩ PySem.F.entry_tuple_count (PySem.F.args_tuple_count_2 _ _)
    (SeqAt.tuple_countAt a its.toArray n dd sls u (fun z => PyData.eqv (SeqAt.readOf s.heap z) d)) ⟨ho, he, .int _, H, I.tok _, ⟨s.toks, ?_⟩, q⟩
  rw [show its.toArray.toList = its by simp, cnt_of (f := SeqAt.readOf s.heap) (p := fun z => PyData.eqv z d), hm]
end
section
variable {X : Cx} {o e : Expr} {to : TE} {t : TA} {name : Str} {apos cpos : Pos} {idL idT : String} {f : List D → D → Option Int}
theorem sqF_is {pins : List (Addr × Obj)} {σ : Sg} {H : Hp} {s : Shared} {a : Addr} {xs : List V} (I : Inv X pins σ H s) (h : SqF X.K H a xs) : s.TypeIs (.ref a) "tuple" ∧ ∀ b, (Value.ref a) = .ref b → ∃ ob, s.heap.get? b = some ob ∧ ob.dict = none := by
  obtain ⟨its, n, sl, _, ho, _⟩ := h.obj I
  exact ⟨⟨_, ho, rfl⟩, fun b e => by cases e; exact ⟨_, ho, rfl⟩⟩
theorem pe_seqM (slL : Slot "list" name idL) (slT : Slot "tuple" name idT) (tyL : typeOf (.builtin idL) = pure (.type "method_descriptor")) (tyT : typeOf (.builtin idT) = pure (.type "method_descriptor"))
    (hL : MtR X idL (rSeqM X.K true f)) (hT : MtR X idT (rSeqM X.K false f)) (ho : PE X o to) (ha : PA X [e] t) (hbase : attributeBase o name X.env (eval o X.env) = eval o X.env := by rfl)
    (hfew : ((backTo cpos (starEach [e] X.env)).all (fun x => !x.1) && (backToKw cpos (keywordEach [] X.env)).all (fun x => x.1.isSome)
      && decide (([e] : List Expr).length + ([] : List Keyword).length + (if ([] : List Keyword).isEmpty then 0 else 1) < 30)) = true := by rfl)
    (hline : (apos.endLine == cpos.line) = true := by rfl) (hs : starEach [e] X.env = (false, eval e X.env) :: starEach [] X.env := by rfl) (hplain : (backTo cpos (starEach [] X.env)).any (·.1) = false := by rfl) :
    PE X (.Call (.Attribute o name apos) [e] [] cpos) (fun σ H Q => to σ H fun x H1 => ∃ b a xs, x = .ref a ∧ SqB X.K H1 b a xs ∧ t σ H1 fun vs H2 => rSeqM X.K b f x vs H2 Q) := by
  refine ⟨fun pins s σ H Q I h => wpAny_Call_method_late hbase hfew hline rfl (thn (ho.run pins s σ H _ I h) fun v s1 hh => ?_)⟩
  obtain ⟨x, H1, I1, r1, b, a, xs, ex, hq, q1⟩ := hh
  subst ex
  have hA := ha.run cpos pins s1 σ H1 _ I1 q1
  cases b with
  | true =>
    rw [SqB, if_pos rfl] at hq
    obtain ⟨h1, h2⟩ := tyV_is I1 r1 (T := "list") (.inl ⟨rfl, xs, hq⟩)
    refine ⟨"list", idL, PySem.F.plainAttrs_list, slL, tyL, h1, h2, ?_⟩
    rw [hs] at hA ⊢
    refine Calls.callWith_builtin (by show (false || (backTo cpos (starEach [] X.env)).any (·.1)) = false; rw [hplain] <;> rfl) (Calls.evalArgs_plain (thn hA fun us s2 hh2 => ?_))
    obtain ⟨vs, H2, I2, r2, q2⟩ := hh2
    exact hL pins s2 σ H2 _ vs v us Q I2 r1 r2 q2
  | false =>
    rw [SqB, if_neg Bool.false_ne_true] at hq
    obtain rfl : v = Value.ref a := r1
    obtain ⟨h1, h2⟩ := sqF_is I1 hq
    refine ⟨"tuple", idT, PySem.F.plainAttrs_tuple, slT, tyT, h1, h2, ?_⟩
    rw [hs] at hA ⊢
    refine Calls.callWith_builtin (by show (false || (backTo cpos (starEach [] X.env)).any (·.1)) = false; rw [hplain] <;> rfl) (Calls.evalArgs_plain (thn hA fun us s2 hh2 => ?_))
    obtain ⟨vs, H2, I2, r2, q2⟩ := hh2
    exact hT pins s2 σ H2 (.ref a) vs (.ref a) us Q I2 rfl r2 q2
end
/-! ### the mirror -/
def kindD : D → Option (Bool × List D)
  | .list ds => some (true, ds)
  | .tuple ds => some (false, ds)
  | _ => none
def askD (f : List D → D → Option Int) (ds : List D) (d : D) : Option D := if cmpB d && (plainAll ds && SeqAt.shaped (.list ds)) then (f ds d).map .int else none
def mAsk (f : List D → D → Option Int) (A B : Opd) : ME := fun ρ => match evO A ρ with
  | .ok p ρ1 => (match (res ρ1 p).bind kindD with
    | some (b, _) => (match evO B ρ1 with
      | .ok q ρ2 => (match (res ρ2 p).bind kindD, res ρ2 q with
        | some (b', ds), some d => if b' = b then (match askD f ds d with
          | some r => .ok r ρ2
          | none => .bad) else .bad
        | _, _ => .bad)
      | .exn x ρ2 => .exn x ρ2
      | .bad => .bad)
    | none => .bad)
  | .exn x ρ1 => .exn x ρ1
  | .bad => .bad
section
variable {X : Cx} {g : Gh} {W : WX} {ms : List Md} {o e : Expr} {A B : Opd} {name : Str} {apos cpos : Pos} {idL idT : String} {f : List D → D → Option Int} {K : Fr} {mg : Mg} {F H : Hp}
theorem Bv.sqB (e : Same F H) {v : V} {d : D} {b : Bool} {ds : List D} (h : Bv K mg F H v d) (hk : kindD d = some (b, ds)) : ∃ a xs, v = .ref a ∧ SqB K H b a xs ∧ RpA K mg F xs ds := by
  unfold kindD at hk
  split at hk
  · cases hk
    obtain ⟨a, xs, rfl, hs, ra⟩ := h.list e
    exact ⟨a, xs, rfl, by rw [SqB, if_pos rfl]; exact hs.sql, ra⟩
  · cases hk
    obtain ⟨a, xs, rfl, _, hs, ra⟩ := h.tup e
    exact ⟨a, xs, rfl, by rw [SqB, if_neg Bool.false_ne_true]; exact hs.mono e, ra⟩
  · cases hk
theorem le_ask (hk : g.K = X.K) (slL : Slot "list" name idL) (slT : Slot "tuple" name idT) (tyL : typeOf (.builtin idL) = pure (.type "method_descriptor")) (tyT : typeOf (.builtin idT) = pure (.type "method_descriptor"))
    (hL : MtR X idL (rSeqM X.K true f)) (hT : MtR X idT (rSeqM X.K false f)) (ho : PE X o (LP g W ms A)) (ha : PE X e (LP g W ms B)) (hbase : attributeBase o name X.env (eval o X.env) = eval o X.env := by rfl)
    (hfew : ((backTo cpos (starEach [e] X.env)).all (fun x => !x.1) && (backToKw cpos (keywordEach [] X.env)).all (fun x => x.1.isSome)
      && decide (([e] : List Expr).length + ([] : List Keyword).length + (if ([] : List Keyword).isEmpty then 0 else 1) < 30)) = true := by rfl)
    (hline : (apos.endLine == cpos.line) = true := by rfl) (hs : starEach [e] X.env = (false, eval e X.env) :: starEach [] X.env := by rfl) (hplain : (backTo cpos (starEach [] X.env)).any (·.1) = false := by rfl) :
    PE X (.Call (.Attribute o name apos) [e] [] cpos) (LE g W ms (mAsk f A B)) :=
  pe_imp (pe_seqM slL slT tyL tyT hL hT ho (la_cons ha la_nil hs) hbase hfew hline hs hplain) fun σ H Q ⟨F, ρ, R, q⟩ => by
    refine ⟨F, ρ, R, ?_⟩
    unfold mAsk at q
    cases h1 : evO A ρ with
    | bad => simp only [h1] at q; exact q
    | exn x ρ1 => simp only [h1] at q; exact q
    | ok p ρ1 =>
      simp only [h1] at q
      intro v F1 H1 s1 R1 p1
      cases h2 : (res ρ1 p).bind kindD with
      | none => simp only [h2] at q; exact q.elim
      | some bb =>
        obtain ⟨b, ds1⟩ := bb
        simp only [h2] at q
        obtain ⟨d1, hd1, hkd⟩ := Option.bind_eq_some_iff.mp h2
        obtain ⟨a, xs, rfl, hsq, ra⟩ := (p1.bv R1 hd1).sqB R1.sub hkd
        refine ⟨b, a, xs, rfl, by rw [← hk]; exact hsq, F1, ρ1, R1, ?_⟩
        unfold evs
        cases h3 : evO B ρ1 with
        | bad => simp only [h3] at q; exact q
        | exn x ρ2 => simp only [h3] at q; exact fun c dd F2 H2 s2 R2 xo => q c dd F2 H2 (s1.trans s2) R2 xo
        | ok q2 ρ2 =>
          simp only [h3] at q
          simp only [evs]
          intro vs F2 H2 s2 R2 pvs
          cases pvs with
          | cons pq pn =>
            cases pn
            rename_i y
            cases h4 : (res ρ2 p).bind kindD with
            | none => simp only [h4] at q; exact q.elim
            | some bb2 =>
              obtain ⟨b', ds⟩ := bb2
              cases h5 : res ρ2 q2 with
              | none => simp only [h4, h5] at q; exact q.elim
              | some d =>
                simp only [h4, h5] at q
                by_cases hb : b' = b
                · subst hb
                  rw [if_pos rfl] at q
                  cases h6 : askD f ds d with
                  | none => simp only [h6] at q; exact q.elim
                  | some r =>
                    simp only [h6] at q
                    unfold askD at h6
                    split at h6
                    · rename_i hc
                      simp only [Bool.and_eq_true] at hc
                      obtain ⟨c1, c2, c3⟩ := hc
                      unfold cmpB at c1
                      simp only [Bool.and_eq_true] at c1
                      obtain ⟨i, hi, rfl⟩ := Option.map_eq_some_iff.mp h6
                      obtain ⟨d2, hd2, hkd2⟩ := Option.bind_eq_some_iff.mp h4
                      obtain ⟨a2, xs2, ea, hsq2, ra2⟩ := ((p1.mono s2).bv R2 hd2).sqB R2.sub hkd2
                      cases ea
                      refine ⟨a, xs2, ds, y, d, i, rfl, rfl, by rw [← hk]; exact hsq2, by rw [← hk]; exact RpA.toDp R2.sub ra2 c2, by rw [← hk]; exact (pq.bv R2 h5).dp R2.sub c1.1, c3, c1.2, hi, q _ F2 H2 (s1.trans s2) R2 (.int _)⟩
                    · cases h6
                · rw [if_neg hb] at q; exact q.elim
end
end Mr

/-! rows of rows that are still written -/
namespace Mr
open PySem PySem.Spec PyProof.Rows L2
section
variable {g : Gh} {F F' H H' : Hp} {ms ms' : List Md} {ρ ρ' : En} {σ σ' : Sg} {v : V} {d : D} {i : Nat} {a b : Addr} {xs : List V} {es : List D}
theorem Free.updO (R : Rel g F ms ρ σ H) (fa : Free g F H ms ρ σ a) (fb : Free g F H ms ρ σ b) (o : HO) : Free g F (upd H a o) ms ρ σ b :=
  ⟨fb.h0, fb.f, fb.pr, fun j m e u h1 h3 h5 f1 => fb.slots j m e u h1 h3 h5 (f1.back (Same.refl _) (R.at_slot h1 h3 h5 f1.nd) fun c eo ec mc _ x q => by
    rw [upd_ne fun z => ?_]
    · exact q
    · subst z eo
      exact fa.slots j .oo e u h1 h3 h5 ⟨mc.1, c, ec, mc.1, .inl rfl⟩)⟩
theorem Free.freezeO (R : Rel g F ms ρ σ H) (fb : Free g F H ms ρ σ b) (n : b ≠ a) {o : HO} (ha : F a = none) : Free g (upd F a o) H ms ρ σ b :=
  ⟨fb.h0, by rw [upd_ne n]; exact fb.f, fb.pr, fun j m e u h1 h3 h5 f1 => fb.slots j m e u h1 h3 h5 (f1.back (same_upd ha) (R.at_slot h1 h3 h5 f1.nd) fun _ _ _ _ _ _ q => q)⟩
theorem Rel.frzIts : ∀ (xs : List V) (ds : List D) (F : Hp), Rel g F ms ρ σ H → Paired (NsI g F H) xs ds → (∀ (i j : Nat) (c : Addr), xs[i]? = some (.ref c) → xs[j]? = some (.ref c) → F c = none → i = j) →
    (∀ c, V.ref c ∈ xs → F c = none → Free g F H ms ρ σ c) → ∃ F', Same F F' ∧ Rel g F' ms ρ σ H ∧ RpA g.K g.mg F' xs ds ∧ ∀ c, V.ref c ∉ xs → F' c = F c
  | [], _, F, R, .nil, _, _ => ⟨F, Same.refl _, R, .nil, fun _ _ => rfl⟩
  | x :: xs, d :: ds, F, R, .cons h t, ap, fr => by
    have ap' : ∀ (i j : Nat) (c : Addr), xs[i]? = some (.ref c) → xs[j]? = some (.ref c) → F c = none → i = j := fun i j c h1 h2 h3 => by
      have := ap (i + 1) (j + 1) c (by simpa using h1) (by simpa using h2) h3
      omega
    rcases h with h | ⟨b, l, m⟩
    · obtain ⟨F', s, R', ra, k⟩ := Rel.frzIts xs ds F R t ap' fun c hc => fr c (List.mem_cons_of_mem _ hc)
      exact ⟨F', s, R', .cons (h.1.mono s) ra, fun c hc => k c fun z => hc (List.mem_cons_of_mem _ z)⟩
    · have e := l.ref
      subst e
      obtain ⟨ys, es, e1, e2, e3, r⟩ := l
      have R1 := R.freeze (fr b List.mem_cons_self m.1) e3
      have sF : Same F (upd F b (.lst ys)) := same_upd m.1
      have nb : ∀ c, V.ref c ∈ xs → c ≠ b := fun c hc z => by
        subst z
        obtain ⟨j, hj⟩ := List.mem_iff_getElem?.mp hc
        have := ap 0 (j + 1) c rfl (by simpa using hj) m.1
        omega
      obtain ⟨F', s, R', ra, k⟩ := Rel.frzIts xs ds _ R1 (Paired.imp t fun x hx y r => r.mono sF fun c ec mc _ => ⟨⟨by rw [upd_ne (nb c (by rw [← ec]; exact hx))]; exact mc.1, mc.2⟩, fun _ q => q⟩)
        (fun i j c h1 h2 h3 => ap' i j c h1 h2 (none_of sF h3)) fun c hc h3 => Free.freezeO R (fr c (List.mem_cons_of_mem _ hc) (none_of sF h3)) (nb c hc) m.1
      refine ⟨F', sF.trans s, R', .cons (by subst e2; exact .lst (.inl (.inl (s _ _ upd_same))) (r.mono (sF.trans s))) ra, fun c hc => ?_⟩
      rw [k c fun z => hc (List.mem_cons_of_mem _ z), upd_ne fun z => hc (by rw [z]; exact List.mem_cons_self)]
theorem set_id {α : Type} {l : List α} {i : Nat} {x : α} (h : l[i]? = some x) : l.set i x = l := by
  apply List.ext_getElem?
  intro j
  by_cases hj : j = i
  · subst hj; rw [set_eq (List.getElem?_eq_some_iff.mp h).1, h]
  · rw [set_ne hj]
/-- what a slot of rows alone holds, once the slot is forgotten -/
theorem Rel.nsFree (R : Rel g F ms ρ σ H) (hm : ms[i]? = some .oo) (hd : ρ[i]? = some (some d)) (hs : σ[i]? = some (some v)) {c : Addr} (ft : Ft F H .oo v c) : Free g F H (ms.set i .dead) ρ σ c := by
  have hi : i < ms.length := (List.getElem?_eq_some_iff.mp hm).1
  have mc := (Ft.mine (R.at_slot hm hd hs (by decide)) ft).1
  refine ⟨mc.2.1, mc.1, mc.2.2, fun j m e u q1 q2 q3 f1 => ?_⟩
  by_cases hj : j = i
  · subst hj; rw [set_eq hi] at q1; cases q1; exact f1
  · rw [set_ne hj] at q1; exact R.uniq j i m .oo e d u v c q1 hm hj q2 hd q3 hs f1 ft
theorem Rel.frzNs (R : Rel g F ms ρ σ H) (hm : ms[i]? = some .oo) (hd : ρ[i]? = some (some d)) : ∃ F', Same F F' ∧ Rel g F' (ms.set i .val) ρ σ H := by
  obtain ⟨v, h1, h2⟩ := R.slot i .oo d hm (by decide) hd
  have hi : i < ms.length := (List.getElem?_eq_some_iff.mp hm).1
  have R1 : Rel g F (ms.set i .dead) ρ σ H := R.kill i
  have back : ∀ {F' : Hp}, Rel g F' (ms.set i .dead) ρ σ H → Rp g.K g.mg F' v d → Rel g F' (ms.set i .val) ρ σ H := fun {F'} R' rp => by
    have R3 := R'.setVal (i := i) (v := v) (d := d) (by simpa using hi) rp
    rw [List.set_set, set_id h1, set_id hd] at R3
    exact R3
  rcases h2 with h2 | ⟨a, xs, ds, ev, k⟩
  · exact ⟨F, Same.refl _, back R1 h2.1⟩
  · have fr : ∀ c, (c = a ∨ V.ref c ∈ xs) → F c = none → Free g F H (ms.set i .dead) ρ σ c := fun c hc hF => R.nsFree hm hd h1 ⟨hF, a, ev, k.mine.1, hc.imp id fun z => ⟨xs, k.cn.its, z⟩⟩
    obtain ⟨F1, s1, R2, ra, k1⟩ := Rel.frzIts xs ds F R1 k.its k.apart fun c hc h => fr c (.inr hc) h
    have na : V.ref a ∉ xs := fun z => k.self _ z rfl
    have hFa : F1 a = none := by rw [k1 a na]; exact k.mine.1
    have f0 := fr a (.inl rfl) k.mine.1
    have fa : Free g F1 H (ms.set i .dead) ρ σ a := ⟨f0.h0, hFa, f0.pr, fun j m e u q1 q2 q3 f1 => f0.slots j m e u q1 q2 q3 (f1.back s1 (R1.at_slot q1 q2 q3 f1.nd) fun _ _ _ _ _ _ q => q)⟩
    subst ev
    rcases k.cn with ⟨e, h⟩ | ⟨e, o, h, hc, hdn⟩
    · have s2 : Same F1 (upd F1 a (.lst xs)) := same_upd hFa
      exact ⟨_, s1.trans s2, back (R2.freeze fa h) (by subst e; exact .lst (.inl (.inl upd_same)) (ra.mono s2))⟩
    · have s2 : Same F1 (upd F1 a (.frz o (.tup xs))) := same_upd hFa
      exact ⟨_, s1.trans s2, back (R2.freeze fa h) (by subst e; exact .tup (.inl ⟨o, upd_same, hc, hdn⟩) (ra.mono s2))⟩
theorem Rel.valNone (R : Rel g F ms ρ σ H) (hi : i < ms.length) (hd : ρ[i]? = some none) : Rel g F (ms.set i .val) ρ σ H :=
  { R with
    lm := by simp [R.lm]
    slot := fun j m e hm' nd he => by
      by_cases hj : j = i
      · subst hj; rw [hd] at he; cases he
      · rw [set_ne hj] at hm'; exact R.slot j m e hm' nd he
    uniq := fun j k mj mk d e u x c q1 q2 n q3 q4 q5 q6 f1 f2 => by
      by_cases hj : j = i
      · subst hj; rw [set_eq hi] at q1; cases q1; exact f1
      · by_cases hk : k = i
        · subst hk; rw [set_eq hi] at q2; cases q2; exact f2
        · rw [set_ne hj] at q1; rw [set_ne hk] at q2; exact R.uniq j k mj mk d e u x c q1 q2 n q3 q4 q5 q6 f1 f2
    ioU := fun j k n q1 q2 => by
      by_cases hj : j = i
      · subst hj; rw [set_eq hi] at q1; cases q1
      · by_cases hk : k = i
        · subst hk; rw [set_eq hi] at q2; cases q2
        · rw [set_ne hj] at q1; rw [set_ne hk] at q2; exact R.ioU j k n q1 q2 }
/-- an inner list is written -/
theorem Rel.writeNs (R : Rel g F ms ρ σ H) {j : Nat} {ys : List V} {ds : List D} (hm : ms[i]? = some .oo) (hd : ρ[i]? = some (some (.list es))) (hs : σ[i]? = some (some (.ref a))) (k : NsC g F H a xs es (.list es)) (hx : xs[j]? = some (.ref b)) (mb : Mine g F b) (r : RpA g.K g.mg F ys ds) :
    Rel g F ms (ρ.set i (some (.list (es.set j (.list ds))))) σ (upd H b (.lst ys)) := by
  have hiρ : i < ρ.length := (List.getElem?_eq_some_iff.mp hd).1
  have ft : Ft F H .oo (.ref a) b := ⟨mb.1, a, rfl, k.mine.1, .inr ⟨xs, k.cn.its, List.mem_of_getElem? hx⟩⟩
  have ap : ∀ {j' : Nat} {m : Md} {e : D} {u : V}, j' ≠ i → ms[j']? = some m → ρ[j']? = some (some e) → σ[j']? = some (some u) → ¬ Ft F H m u b := fun {j' m e u} n h1 h3 h5 f => R.uniq j' i m .oo e _ u _ b h1 hm n h3 hd h5 hs f ft
  have nab : a ≠ b := fun z => k.self _ (List.mem_of_getElem? hx) (by rw [z])
  have old : ∀ {j' : Nat} {d1 : D}, (ρ.set i (some (.list (es.set j (.list ds)))))[j']? = some (some d1) → ∃ d2, ρ[j']? = some (some d2) := fun {j' d1} h => by
    by_cases hj : j' = i
    · subst hj; exact ⟨_, hd⟩
    · rw [set_ne hj] at h; exact ⟨d1, h⟩
  have keep : ∀ {j' : Nat} {m : Md} {e : D} {u : V} {c : Addr}, ms[j']? = some m → ρ[j']? = some (some e) → σ[j']? = some (some u) → Ft F (upd H b (.lst ys)) m u c → Ft F H m u c := fun {j' m e u c} h1 h3 h5 f1 => by
    refine f1.back (Same.refl _) (R.at_slot h1 h3 h5 f1.nd) fun p eo ep mp _ o q => ?_
    rw [upd_ne fun z => ?_]
    · exact q
    · subst z eo
      by_cases hj : j' = i
      · subst hj
        rw [hs] at h5; cases h5
        cases ep
        exact nab rfl
      · exact ap hj h1 h3 h5 ⟨mb.1, p, ep, mb.1, .inl rfl⟩
  refine { R with sub := fun c o q => ?_, frame := fun c o e n => ?_, dom := fun c hc => ?_, prot := fun p hp => ?_, lρ := by simp [R.lρ], slot := fun j' m' e hm' nd' he => ?_, uniq := fun j1 j2 m1 m2 d1 d2 u x c q1 q2 n q3 q4 q5 q6 f1 f2 => ?_ }
  · rw [upd_ne fun z => by subst z; rw [mb.1] at q; cases q]; exact R.sub _ _ q
  · rw [upd_ne fun z => by subst z; rw [mb.2.1] at e; cases e]; exact R.frame c o e n
  · by_cases z : c = b
    · subst z; rw [upd_same]; simp
    · rw [upd_ne z]; exact R.dom c hc
  · obtain ⟨p1, p2, p3⟩ := R.prot p hp
    exact ⟨by rw [upd_ne (mb.2.2 p hp)]; exact p1, p2, p3⟩
  · by_cases hj : j' = i
    · subst hj
      rw [set_eq hiρ] at he
      cases he
      rw [hm] at hm'; cases hm'
      refine ⟨_, hs, .inr ⟨a, xs, es.set j (.list ds), rfl, ?_, k.mine, ?_, k.apart, k.self⟩⟩
      · rcases k.cn with ⟨_, h⟩ | ⟨e, _⟩
        · exact .inl ⟨rfl, by rw [upd_ne nab]; exact h⟩
        · cases e
      · have key : ∀ (xs : List V) (es : List D) (j : Nat), Paired (NsI g F H) xs es → xs[j]? = some (.ref b) → (∀ m, xs[m]? = some (.ref b) → m = j) → Paired (NsI g F (upd H b (.lst ys))) xs (es.set j (.list ds)) := by
          intro xs
          induction xs with
          | nil => intro es j h hx _; cases hx
          | cons x xs ih =>
            intro es j h hx hu
            cases h with
            | cons hh t =>
              have mono : ∀ {x : V} {y : D}, x ≠ .ref b → NsI g F H x y → NsI g F (upd H b (.lst ys)) x y := fun {x y} hn h => h.mono (Same.refl _) fun c ec mc _ => ⟨mc, fun o q => by
                rw [upd_ne fun z => hn (by rw [ec, z])]; exact q⟩
              cases j with
              | zero =>
                simp at hx
                subst hx
                refine .cons (.inr ⟨b, ⟨ys, ds, rfl, rfl, upd_same, r⟩, mb⟩) (Paired.imp t fun x hx y r => mono (fun z => ?_) r)
                subst z
                obtain ⟨m, hm⟩ := List.mem_iff_getElem?.mp hx
                have := hu (m + 1) (by simpa using hm)
                omega
              | succ j =>
                refine .cons (mono (fun z => ?_) hh) (ih _ j t (by simpa using hx) fun m hm => ?_)
                · subst z
                  have := hu 0 rfl
                  omega
                · have := hu (m + 1) (by simpa using hm)
                  omega
        exact key xs es j k.its hx fun m hm => k.apart m j b hm hx mb.1
    · rw [set_ne hj] at he
      obtain ⟨u, q1, q2⟩ := R.slot j' m' e hm' nd' he
      refine ⟨u, q1, ?_⟩
      cases m' with
      | own =>
        obtain ⟨c, hl, hf, hq⟩ := q2
        refine ⟨c, hl.mono (Same.refl _) fun o q => ?_, hf, hq⟩
        rw [upd_ne fun z => ap hj hm' he q1 (by subst z; exact hl.ref)]
        exact q
      | oo =>
        rcases q2 with q2 | ⟨p, zs, ws, ev, kk⟩
        · exact .inl q2
        · refine .inr ⟨p, zs, ws, ev, kk.mono (Same.refl _) fun c hc mc _ => ⟨mc, fun o q => ?_⟩⟩
          rw [upd_ne fun z => ap hj hm' he q1 (by subst z; exact ⟨mc.1, p, ev, kk.mine.1, hc.imp id fun z => ⟨zs, kk.cn.its, z⟩⟩)]
          exact q
      | io n =>
        obtain ⟨c, hk, hl, hf⟩ := q2
        refine ⟨c, hk, hl.mono (Same.refl _) fun o q => ?_, hf⟩
        rw [upd_ne fun z => by subst z; exact R.ioH c (List.mem_of_getElem? hk) mb.2.1]
        exact q
      | _ => exact q2
  · obtain ⟨d1', q3'⟩ := old q3
    obtain ⟨d2', q4'⟩ := old q4
    exact R.uniq j1 j2 m1 m2 d1' d2' u x c q1 q2 n q3' q4' q5 q6 (keep q1 q3' q5 f1) (keep q2 q4' q6 f2)
/-- a slot is given rows that nobody holds -/
theorem Rel.setNs (R : Rel g F ms ρ σ H) (hi : i < ms.length) (k : NsC g F H a xs es d) (f : ∀ c, (c = a ∨ V.ref c ∈ xs) → F c = none → Free g F H ms ρ σ c) : Rel g F (ms.set i .oo) (ρ.set i (some d)) (σ.set i (some (.ref a))) H := by
  have hσ : i < σ.length := by rw [← R.lm]; exact hi
  have out : ∀ {j : Nat} {m : Md} {e : D} {u : V} {c : Addr}, j ≠ i → ms[j]? = some m → ρ[j]? = some (some e) → σ[j]? = some (some u) → Ft F H m u c → ¬ Ft F H .oo (.ref a) c := fun {j m e u c} _ h1 h3 h5 f1 f2 => by
    obtain ⟨hc, a', e1, ha, f2⟩ := f2
    cases e1
    refine (f c ?_ hc).slots j m e u h1 h3 h5 f1
    rcases f2 with z | ⟨ys, hy, hm⟩
    · exact .inl z
    · rw [hy.uniq k.cn.its] at hm; exact .inr hm
  exact { R with
    lm := by simp [R.lm]
    lρ := by simp [R.lρ]
    slot := fun j m e hm nd he => by
      by_cases hj : j = i
      · subst hj
        rw [set_eq hi] at hm
        rw [set_eq (by rw [R.lρ, ← R.lm]; exact hi)] at he
        cases hm; cases he
        exact ⟨_, set_eq hσ, .inr ⟨a, xs, es, rfl, k⟩⟩
      · rw [set_ne hj] at hm he ⊢
        exact R.slot j m e hm nd he
    uniq := fun j k mj mk d1 e1 u x c h1 h2 n h3 h4 h5 h6 f1 f2 => by
      by_cases hj : j = i
      · subst hj
        have hk : k ≠ j := Ne.symm n
        rw [set_eq hσ] at h5
        rw [set_eq hi] at h1
        cases h5; cases h1
        rw [set_ne hk] at h2 h4 h6
        exact out hk h2 h4 h6 f2 f1
      · rw [set_ne hj] at h1 h3 h5
        by_cases hk : k = i
        · subst hk
          rw [set_eq hσ] at h6
          rw [set_eq hi] at h2
          cases h6; cases h2
          exact out hj h1 h3 h5 f1 f2
        · rw [set_ne hk] at h2 h4 h6
          exact R.uniq j k mj mk d1 e1 u x c h1 h2 n h3 h4 h5 h6 f1 f2
    ioU := fun j k n h1 h2 => by
      have hj : j ≠ i := fun z => by subst z; rw [set_eq hi] at h1; cases h1
      have hk : k ≠ i := fun z => by subst z; rw [set_eq hi] at h2; cases h2
      rw [set_ne hj] at h1
      rw [set_ne hk] at h2
      exact R.ioU j k n h1 h2 }
end
section
variable {X : Cx} {g : Gh} {W : WX} {c : Sx} {ms ms' ms1 : List Md} {e : Expr} {es : List Expr} {sts : List Stmt} {stt : Stmt} {s1 : MS} {pos : Pos} {σ : Sg} {F F' H H' : Hp} {ρ : En} {Q : VK} {i j : Nat}
/-- ahead of a statement, rows of rows are frozen -/
theorem frzN_imp (hm : ms[i]? = some .oo) {t : TS} (h : ∀ Dn σ H, LS g W c (ms.set i .val) ms' s1 Dn σ H → t Dn σ H) : ∀ Dn σ H, LS g W c ms ms' s1 Dn σ H → t Dn σ H := fun Dn σ H ⟨F, ρ, R, q⟩ => by
  have hi : i < ms.length := (List.getElem?_eq_some_iff.mp hm).1
  cases hd : ρ[i]? with
  | none => exact absurd (List.getElem?_eq_none_iff.mp hd) (by rw [R.lρ, ← R.lm]; omega)
  | some o =>
    cases o with
    | some d =>
      obtain ⟨F', s, R'⟩ := R.frzNs hm hd
      exact h _ _ _ ⟨F', ρ, R', goS.up s q⟩
    | none => exact h _ _ _ ⟨F, ρ, R.valNone hi hd, q⟩
theorem lss_frzN (hm : ms[i]? = some .oo) (h : PSs X sts (LS g W c (ms.set i .val) ms' s1)) : PSs X sts (LS g W c ms ms' s1) := pss_imp h (frzN_imp hm fun _ _ _ q => q)
theorem gt_tupK {K : PySem.W.Frag} {es' : List Expr} {k : Nat} {ts : List Tg} {ggs : TGs} (hK : X.K = K) (hc : X.calm = true) (h : GTs X es' ts ms ms' ggs) : GT X (.Tuple es' k pos) (.tup ts) ms ms' (fun v σ H Q => gTup K ts.length ggs v σ H Q ∨ gLst K ts.length ggs v σ H Q) := by
  subst hK; exact gt_tup hc h
/-! ### rows[k].append(y) -/
def appIx (i j : Nat) (z : Option D) (ρ : En) : ER := match ρ[i]?.join, z, ρ[j]?.join with
  | some (.list es), some (.int z), some d => (match ixN es.length z with
    | some k => (match es[k]? with
      | some (.list ds) => if ds.length < sizeLine then .ok .none (ρ.set i (some (.list (es.set k (.list (ds ++ [d])))))) else .bad
      | _ => .bad)
    | none => .bad)
  | _, _, _ => .bad
def mAppIx (i : Nat) (B : Opd) (j : Nat) : ME := fun ρ => match ρ[i]?.join with
  | some (.list _) => (match evO B ρ with
    | .ok p ρ1 => appIx i j (res ρ1 p) ρ1
    | .exn x ρ1 => .exn x ρ1
    | .bad => .bad)
  | _ => .bad
theorem join_some {α : Type} {o : Option (Option α)} {x : α} (h : o.join = some x) : o = some (some x) := by
  cases o with
  | none => cases h
  | some o => cases o with
    | none => cases h
    | some y => cases h; rfl
theorem Rel.at_ns (R : Rel g F ms ρ σ H) (hm : ms[i]? = some .oo) {ds : List D} (hd : ρ[i]? = some (some (.list ds))) : ∃ a xs, σ[i]? = some (some (.ref a)) ∧ NsC g F H a xs ds (.list ds) ∧ H a = some (.lst xs) := by
  obtain ⟨v, h1, h2⟩ := R.slot i .oo _ hm (by decide) hd
  rcases h2 with ⟨_, _, z⟩ | ⟨a, xs, es, ev, k⟩
  · exact absurd rfl (z ds)
  · subst ev
    rcases k.cn with ⟨e, h⟩ | ⟨e, _⟩
    · cases e; exact ⟨a, xs, h1, k, h⟩
    · cases e
theorem le_appIx {y z : Str} {py pz sp apos cpos : Pos} {eb : Expr} {B : Opd} (hk : g.K = X.K) (hm : ms[i]? = some .oo) (hj : ms[j]? = some .val) (hx : PE X (.Name y py) (tVar i)) (hb : PE X eb (LP g W ms B)) (hn : PE X (.Name z pz) (tVar j)) (hs : PlainIx eb := by exact fun _ _ => rfl)
    (hsn : starEach [.Name z pz] X.env = (false, eval (.Name z pz) X.env) :: starEach [] X.env := by rfl)
    (hbase : attributeBase (.Subscript (.Name y py) eb sp) "append" X.env (eval (.Subscript (.Name y py) eb sp) X.env) = eval (.Subscript (.Name y py) eb sp) X.env := by rfl)
    (hfew : ((backTo cpos (starEach [.Name z pz] X.env)).all (fun x => !x.1) && (backToKw cpos (keywordEach [] X.env)).all (fun x => x.1.isSome)
      && decide (([.Name z pz] : List Expr).length + ([] : List Keyword).length + (if ([] : List Keyword).isEmpty then 0 else 1) < 30)) = true := by rfl)
    (hline : (apos.endLine == cpos.line) = true := by rfl) (hplain : (backTo cpos (starEach [] X.env)).any (·.1) = false := by rfl) :
    PE X (.Call (.Attribute (.Subscript (.Name y py) eb sp) "append" apos) [.Name z pz] [] cpos) (LE g W ms (mAppIx i B j)) :=
  pe_imp (pe_bm PySem.F.plainAttrs_list PySem.F.slot_list_append PySem.F.type_list_append mt_append (pe_ix ix_seq hx hb hs) (pa_cons hn pa_nil hsn) hbase hfew hline hsn hplain) fun σ H Q ⟨F, ρ, R, q⟩ => by
    unfold mAppIx at q
    cases h0 : ρ[i]?.join with
    | none => rw [h0] at q; exact q.elim
    | some d0 =>
      cases d0 with
      | list es0 =>
        rw [h0] at q
        simp only at q
        obtain ⟨a, xs0, hs0, _, _⟩ := R.at_ns hm (join_some h0)
        refine ⟨.ref a, hs0, F, ρ, R, ?_⟩
        cases h1 : evO B ρ with
        | bad => rw [h1] at q; exact q
        | exn x ρ1 => rw [h1] at q; exact q
        | ok p ρ1 =>
          rw [h1] at q
          simp only at q
          intro y F1 H1 s1 R1 p1
          unfold appIx at q
          split at q
          · rename_i es zi d h2 h3 h4
            have h2 := join_some h2
            obtain ⟨a1, xs, hs1, k, ha⟩ := R1.at_ns hm h2
            rw [hs0] at hs1; cases hs1
            have by' := p1.bv R1 h3
            cases by'.int
            cases h5 : ixN es.length zi with
            | none => rw [h5] at q; exact q.elim
            | some m =>
              rw [h5] at q
              simp only at q
              cases h6 : es[m]? with
              | none => rw [h6] at q; exact q.elim
              | some dm =>
                rw [h6] at q
                cases dm with
                | list ds =>
                  simp only at q
                  by_cases hl : ds.length < sizeLine
                  · rw [if_pos hl] at q
                    have hml : m < xs.length := by rw [Paired.len2 k.its]; exact (List.getElem?_eq_some_iff.mp h6).1
                    have hxm : xs[m]? = some xs[m] := List.getElem?_eq_getElem hml
                    rcases Paired.get2 k.its hxm h6 with ⟨_, _, z⟩ | ⟨b, l, mb⟩
                    · exact absurd rfl (z ds)
                    · have eb := l.ref
                      rw [eb] at hxm
                      obtain ⟨ys, ds', _, e2, hb1, rr⟩ := l
                      cases e2
                      obtain ⟨w, hw, rw'⟩ := R1.slot j .val d hj (by decide) (join_some h4)
                      have hat : atI xs zi = some (.ref b) := by
                        unfold atI
                        rw [Paired.len2 k.its, h5]
                        exact hxm
                      refine .inl ⟨a, xs, zi, .ref b, rfl, rfl, .inl (.inl ha), hat, .inl ⟨rfl, ys, .inl (.inl hb1)⟩, w, hw, b, ys, w, rfl, rfl, hb1, by rw [rr.length]; exact hl, ?_⟩
                      exact q .non F1 _ s1 (R1.writeNs hm h2 hs0 k hxm mb (rr.append (.cons rw' .nil))) .non
                  · rw [if_neg hl] at q; exact q.elim
                | _ => exact q.elim
          · exact q.elim
      | _ => rw [h0] at q; exact q.elim
end
end Mr

/-! x = [[] for v in it] -/
namespace Mr
open PySem PySem.Spec PyProof.Rows L2
section
variable {X : Cx} {g : Gh} {W : WX} {c : Sx} {ms msb ms' : List Md} {tg iter : Expr} {scope : Scope} {own : List (Str × Nat)} {pos spos lp : Pos} {wi : TI} {gg : TG} {mi : MI} {t : Tg} {σ : Sg} {F F' H H' : Hp} {ρ : En} {Q : VK}
def goN (g : Gh) (W : WX) (ms : List Md) (σ : Sg) (F : Hp) (Q : VK) : ER → Prop
  | .bad => False
  | .ok d ρ' => ∀ a xs es F' H', Same F F' → Rel g F' ms ρ' σ H' → NsC g F' H' a xs es d → (∀ c, (c = a ∨ V.ref c ∈ xs) → F' c = none → Free g F' H' ms ρ' σ c) → Q (.ref a) H'
  | .exn x ρ' => ∀ c dd F' H', Same F F' → Rel g F' ms ρ' σ H' → XOk g.K g.mg F' c dd x → W c dd σ H'
def mNil : ME := fun ρ => .ok (.list []) ρ
mutual
theorem asg_out : ∀ (t : Tg) (d : D) (ρ ρ' : En), asg t d ρ = some ρ' → ∀ j, j ∉ tgIx t → ρ'[j]? = ρ[j]?
  | .nm i, d, ρ, ρ', h, j, hj => by
    rw [asg] at h; cases h
    exact set_ne (fun z => hj (by rw [z]; simp [tgIx]))
  | .tup ts, .tuple ds, ρ, ρ', h, j, hj => by rw [asg] at h; exact asgs_out ts ds ρ ρ' h j (by simpa [tgIx] using hj)
  | .tup ts, .list ds, ρ, ρ', h, j, hj => by rw [asg] at h; exact asgs_out ts ds ρ ρ' h j (by simpa [tgIx] using hj)
  | .tup ts, .none, ρ, ρ', h, j, hj => by simp [asg] at h
  | .tup ts, .bool _, ρ, ρ', h, j, hj => by simp [asg] at h
  | .tup ts, .int _, ρ, ρ', h, j, hj => by simp [asg] at h
  | .tup ts, .str _, ρ, ρ', h, j, hj => by simp [asg] at h
  | .tup ts, .dict _, ρ, ρ', h, j, hj => by simp [asg] at h
theorem asgs_out : ∀ (ts : List Tg) (ds : List D) (ρ ρ' : En), asgs ts ds ρ = some ρ' → ∀ j, j ∉ tgsIx ts → ρ'[j]? = ρ[j]?
  | [], [], ρ, ρ', h, j, hj => by rw [asgs] at h; cases h; rfl
  | t :: ts, d :: ds, ρ, ρ', h, j, hj => by
    rw [asgs] at h
    have hj' : j ∉ tgIx t ∧ j ∉ tgsIx ts := by simpa [tgsIx] using hj
    cases q : asg t d ρ with
    | none => rw [q] at h; cases h
    | some ρ1 =>
      rw [q] at h
      rw [asgs_out ts ds ρ1 ρ' h j hj'.2, asg_out t d ρ ρ1 q j hj'.1]
  | [], _ :: _, ρ, ρ', h, j, hj => by simp [asgs] at h
  | _ :: _, [], ρ, ρ', h, j, hj => by simp [asgs] at h
end
theorem nslc_imp {X' : Cx} (hk : g.K = X'.K) (hg : GT X' tg t (killL ms (own.map (·.2))) msb gg) (hwi : ∀ σ H R, LI g W ms mi σ H R → wi σ H R) (wb : wkB msb (killL ms (own.map (·.2))) = true)
    (hvs : (tgIx t).all (fun i => (own.map (·.2)).contains i) = true) (hv : valB ms (own.map (·.2)) = true) :
    ∀ σ H Q, (∃ F ρ, Rel g F ms ρ σ H ∧ goN g W ms σ F Q (mLc mi t (own.map (·.2)) (mC (.bool true)) mNil ρ)) → tLc wi gg tYes (tLst tNil) (own.map (·.2)) σ H Q := fun σ H Q ⟨F, ρ, R, q⟩ => by
  refine hwi _ _ _ ⟨F, ρ, R, ?_⟩
  unfold mLc at q
  cases h1 : mi ρ with
  | bad => simp only [h1] at q; exact q
  | exn x ρ' => simp only [h1] at q; exact q
  | ok ds ρ1 =>
    simp only [h1] at q
    intro J F1 H1 s1 R1 wd D hD
    obtain ⟨G, Y, wk, hG, hY⟩ := wd
    cases h2 : loopC t (mC (.bool true)) mNil ds [] ρ1 with
    | none => simp only [h2] at q; exact q.elim
    | some r =>
      obtain ⟨accF, ρF⟩ := r
      simp only [h2] at q
      have Rw := (R1.wiped (own.map (·.2))).ext (Ext.new (o := .lst []) R1.sub hD)
      have fw := (R1.wiped (own.map (·.2))).free (o := .lst []) hD
      refine lc_it wk (fun n H2 => ∃ F2 ρ2 acc accd, Same F1 F2 ∧ Rel g F2 (killL ms (own.map (·.2))) ρ2 (wipe σ (own.map (·.2))) H2 ∧ H2 D = some (.lst acc) ∧ Paired (NsI g F2 H2) acc accd ∧ (∀ (i j : Nat) (c : Addr), acc[i]? = some (.ref c) → acc[j]? = some (.ref c) → F2 c = none → i = j) ∧
          (∀ x ∈ acc, x ≠ .ref D) ∧ (∀ b, (b = D ∨ V.ref b ∈ acc) → Free g F2 H2 (killL ms (own.map (·.2))) ρ2 (wipe σ (own.map (·.2))) b ∧ H2 b ≠ none) ∧ loopC t (mC (.bool true)) mNil (ds.drop n) accd ρ2 = some (accF, ρF))
        ⟨F1, ρ1, [], [], Same.refl _, Rw, upd_same, .nil, (fun i j c h => by simp at h), (fun x h => by cases h), (fun b hb => by rcases hb with rfl | hb; exact ⟨fw, by rw [upd_same]; simp⟩; cases hb), h2⟩ (fun n H2 _ ⟨F2, ρ2, acc, accd, s2, R2, _⟩ => hG F2 _ ρ2 _ H2 s2 R2) (fun n x H2 H3 hn ⟨F2, ρ2, acc, accd, s2, R2, hD2, ra, ap, sf, fr, q2⟩ y => ?_) (fun H2 ⟨F2, ρ2, acc, accd, s2, R2, hD2, ra, ap, sf, fr, q2⟩ => ?_)
      · obtain ⟨d, F3, hd, ex, rp⟩ := hY n F2 H2 x H3 hn s2 R2.sub y
        have hdr : ds.drop n = d :: ds.drop (n + 1) := by
          obtain ⟨h1, h2⟩ := List.getElem?_eq_some_iff.mp hd
          rw [List.drop_eq_getElem_cons h1, h2]
        rw [hdr] at q2
        unfold loopC at q2
        have R3 := R2.ext ex
        cases ha : asg t d ρ2 with
        | none => simp only [ha] at q2; cases q2
        | some ρ3 =>
          simp only [ha] at q2
          refine hg.run g F3 ρ2 ρ3 _ H3 x d _ hk R3 rp ha fun σ3 R4 w3 => ?_
          have w3' : wipe σ3 (own.map (·.2)) = wipe σ (own.map (·.2)) := by
            rw [w3 _ fun i hi => by simpa using List.all_eq_true.mp hvs i hi, wipe_wipe]
          refine ⟨w3', ?_⟩
          simp only [tYes, mC, mNil] at q2 ⊢
          simp only [if_true] at q2 ⊢
          refine ⟨by decide, fun p hp => ⟨acc, ?_, ?_, ?_⟩⟩
          · rw [upd_ne fun z => by subst z; rw [ex.h _ _ hD2] at hp; cases hp]
            exact ex.h _ _ hD2
          · rw [Paired.len2 ra]
            by_cases hl : accd.length < sizeLine
            · exact hl
            · rw [if_neg hl] at q2; cases q2
          · have hl : accd.length < sizeLine := by
              by_cases hl : accd.length < sizeLine
              · exact hl
              · rw [if_neg hl] at q2; cases q2
            rw [if_pos hl] at q2
            have sw : ∀ i, i ∉ own.map (·.2) → (wipe σ (own.map (·.2)))[i]? = σ3[i]? := by
              rw [← w3']
              exact fun i hi => wipe_out hi
            have R5 : Rel g F3 (killL ms (own.map (·.2))) ρ3 (wipe σ (own.map (·.2))) H3 := (R4.weak wb).swap (by rw [← w3']; exact wipe_length _ _) sw
            -- what was free is free
            have R6 := R5.ext (Ext.new (o := .lst []) R5.sub hp)
            have fp := R5.free (o := .lst []) hp
            have pD : p ≠ D := fun z => by subst z; rw [ex.h _ _ hD2] at hp; cases hp
            have pn : ∀ b, (b = D ∨ V.ref b ∈ acc) → b ≠ p := fun b hb z => by
              have := (fr b hb).2
              cases q : H2 b with
              | none => exact this q
              | some o => rw [← z, ex.h _ _ q] at hp; cases hp
            have fr3 : ∀ b, (b = D ∨ V.ref b ∈ acc) → Free g F3 H3 (killL ms (own.map (·.2))) ρ3 (wipe σ (own.map (·.2))) b := fun b hb => by
              have f2 := (fr b hb).1
              have hb2 := (fr b hb).2
              refine ⟨f2.h0, by rw [ex.old b hb2]; exact f2.f, f2.pr, fun j m e u h1 h3 h5 f1 => ?_⟩
              have so := R5.at_slot h1 h3 h5 f1.nd
              have ms' := Ft.mine so f1
              -- the slot stood before the target was set
              have hj : j ∉ own.map (·.2) := fun z => f1.nd (killL_in z h1)
              have hdj : ∃ e', ρ2[j]? = some (some e') := by
                refine ⟨e, ?_⟩
                rw [← h3]
                exact (asg_out t d ρ2 ρ3 ha j (fun z => hj (by simpa using List.all_eq_true.mp hvs j z))).symm
              obtain ⟨e', hdj⟩ := hdj
              have so2 := R2.at_slot h1 hdj h5 f1.nd
              exact f2.slots j m e' u h1 hdj h5 (f1.back ex.f so2 fun _ _ _ _ _ o q => ex.h _ _ q)
            have fr6 : ∀ b, (b = D ∨ V.ref b ∈ acc) → Free g F3 (upd H3 p (.lst [])) (killL ms (own.map (·.2))) ρ3 (wipe σ (own.map (·.2))) b := fun b hb =>
              Free.ext R5 (Ext.new (o := .lst []) R5.sub hp) (fun z => (fr b hb).2 (by cases q : H2 b with | none => rfl | some o => rw [ex.h _ _ q] at z; cases z)) (fr3 b hb)
            have fD := fr6 D (.inl rfl)
            obtain ⟨R8, _⟩ := R6.updFree fD (.lst (acc ++ [.ref p]))
            refine ⟨F3, ρ3, acc ++ [.ref p], accd ++ [.list []], s2.trans ex.f, R8, upd_same, ?_, fun i j c h1 h2 h3 => ?_, fun x hx => ?_, fun b hb => ?_, q2⟩
            · have mono : ∀ x ∈ acc, ∀ y, NsI g F2 H2 x y → NsI g F3 (upd (upd H3 p (.lst [])) D (.lst (acc ++ [.ref p]))) x y := fun x hx y r => r.mono ex.f fun b eb mb hbn => ⟨mb.ext ex hbn, fun o qo => by
                have hb' : V.ref b ∈ acc := by rw [← eb]; exact hx
                rw [upd_ne fun z => sf _ hb' (by rw [z]), upd_ne (pn b (.inr hb'))]
                exact ex.h _ _ qo⟩
              exact Paired.app (Paired.imp ra mono) (.cons (.inr ⟨p, ⟨[], [], rfl, rfl, by rw [upd_ne pD, upd_same], .nil⟩, fp.f, fp.h0, fp.pr⟩) .nil)
            · have inj : ∀ k : Nat, (acc ++ [V.ref p])[k]? = some (.ref c) → (k < acc.length ∧ acc[k]? = some (.ref c)) ∨ (k = acc.length ∧ c = p) := fun k hk => by
                by_cases hkl : k < acc.length
                · rw [List.getElem?_append_left hkl] at hk; exact .inl ⟨hkl, hk⟩
                · rw [List.getElem?_append_right (by omega)] at hk
                  have : k - acc.length = 0 := by
                    have := (List.getElem?_eq_some_iff.mp hk).1
                    simp at this; omega
                  rw [this] at hk
                  simp at hk
                  exact .inr ⟨by omega, hk.symm⟩
              rcases inj i h1 with ⟨a1, a2⟩ | ⟨a1, a2⟩ <;> rcases inj j h2 with ⟨b1, b2⟩ | ⟨b1, b2⟩
              · exact ap i j c a2 b2 (none_of ex.f h3)
              · exact absurd b2 (pn c (.inr (List.mem_of_getElem? a2)))
              · exact absurd a2 (pn c (.inr (List.mem_of_getElem? b2)))
              · omega
            · rcases List.mem_append.mp hx with z | z
              · exact sf x z
              · rw [List.mem_singleton.mp z]; intro w; cases w; exact pD rfl
            · by_cases hbD : b = D
              · subst hbD
                exact ⟨(R6.updFree fD _).2, by rw [upd_same]; simp⟩
              · have hb : V.ref b ∈ acc ∨ b = p := by
                  rcases hb with z | z
                  · exact absurd z hbD
                  · rcases List.mem_append.mp z with z | z
                    · exact .inl z
                    · right; have := List.mem_singleton.mp z; cases this; rfl
                rcases hb with hb | rfl
                · exact ⟨Free.updO R6 fD (fr6 b (.inr hb)) _, by
                    rw [upd_ne hbD, upd_ne (pn b (.inr hb))]
                    intro z
                    have := (fr b (.inr hb)).2
                    cases q : H2 b with
                    | none => exact this q
                    | some o => rw [ex.h _ _ q] at z; cases z⟩
                · exact ⟨Free.updO R6 fD fp _, by rw [upd_ne hbD, upd_same]; simp⟩
      · rw [List.drop_length] at q2
        unfold loopC at q2
        cases q2
        have Rf := R1.restore s2 R2 hv
        refine q D acc accF F2 H2 (s1.trans s2) Rf ⟨.inl ⟨rfl, hD2⟩, ?_, ra, ap, sf⟩ fun b hb hF => ?_
        · have := (fr D (.inl rfl)).1
          exact ⟨this.f, this.h0, this.pr⟩
        · have f2 := (fr b hb).1
          refine ⟨f2.h0, f2.f, f2.pr, fun j m e u h3 h4 h5 f1 => ?_⟩
          have hj : j ∉ own.map (·.2) := fun z => by
            have := List.all_eq_true.mp hv j z
            simp only [h3] at this
            cases m <;> first | exact f1 | cases this
          rw [restE_out hj] at h4
          exact f2.slots j m e u (by rw [killL_out hj]; exact h3) h4 (by rw [wipe_out hj]; exact h5) f1
theorem ls_setNs {j : Nat} {y : Str} {py : Pos} (hk : g.K = X.K) (hc : X.calm = true) (hN : X.N.Nodup) (hy : X.N[j]? = some y) (hyl : X.env.scope.names.lookup y = some .local) (hi : PI X tg iter wi) (hwi : ∀ σ H R, LI g W ms mi σ H R → wi σ H R) (ok : BlkOk X.N X.env.scope scope own)
    (hg : ∀ (s : Shared) (H : Hp) (C : Addr) (cl : List (Str × Addr)) (fp : List Addr), GT (X.blk s H scope (compEnvC scope cl C X.env) fp) tg t (killL ms (own.map (·.2))) msb gg)
    (hsw : swapsWith (.ListComp (.List [] lp) [⟨tg, iter, [], 0⟩] scope pos) (some (.Name y py)) spos.line X.env = pure true := by exact sw_true rfl rfl rfl (by decide +kernel))
    (wb : wkB msb (killL ms (own.map (·.2))) = true := by rfl) (hvs : (tgIx t).all (fun i => (own.map (·.2)).contains i) = true := by rfl) (hv : valB ms (own.map (·.2)) = true := by rfl) (hl : j < ms.length := by decide) (wx : wkB ms c.mx = true := by rfl)
    (hs : ∀ x, foldedSetIterable iter X.env x = pure x := by intro _; rfl) : PS X (.Assign [.Name y py] (.ListComp (.List [] lp) [⟨tg, iter, [], 0⟩] scope pos) spos) (LS g W c ms (ms.set j .oo) (sSet j (mLc mi t (own.map (·.2)) (mC (.bool true)) mNil))) := by
  have h := ps_setLc (tt := tYes) (te := tLst tNil) (own := own) hc hN hy hyl hsw hi ok (fun s H C cl fp => (hg s H C cl fp).pg) (fun s H C cl fp => pts_nil) (fun s H C cl fp => pe_lst pa_nil) hs
  refine ps_impS h fun s D σ H ⟨F, ρ, R, q⟩ => ?_
  refine nslc_imp (X' := X.blk s (fun _ => none) scope (compEnvC scope [] 0 X.env) []) hk (hg s (fun _ => none) 0 [] []) hwi wb hvs hv σ H _ ⟨F, ρ, R, ?_⟩
  unfold sSet at q
  cases hr : mLc mi t (own.map (·.2)) (mC (.bool true)) mNil ρ with
  | bad => rw [hr] at q; exact q
  | exn x ρ' => rw [hr] at q; exact fun k dd F2 H2 s R xo => q k dd F2 σ H2 s (R.weak wx) xo
  | ok d ρ' =>
    rw [hr] at q
    exact fun a xs es F' H' s R' k f => q F' _ H' s (R'.setNs hl k f)
theorem pe_nslc (hk : g.K = X.K) (hc : X.calm = true) (hN : X.N.Nodup) (hi : PI X tg iter wi) (hwi : ∀ σ H R, LI g W ms mi σ H R → wi σ H R) (ok : BlkOk X.N X.env.scope scope own)
    (hg : ∀ (s : Shared) (H : Hp) (C : Addr) (cl : List (Str × Addr)) (fp : List Addr), GT (X.blk s H scope (compEnvC scope cl C X.env) fp) tg t (killL ms (own.map (·.2))) msb gg)
    (wb : wkB msb (killL ms (own.map (·.2))) = true := by rfl) (hvs : (tgIx t).all (fun i => (own.map (·.2)).contains i) = true := by rfl) (hv : valB ms (own.map (·.2)) = true := by rfl)
    (hs : ∀ x, foldedSetIterable iter X.env x = pure x := by intro _; rfl) : PE X (.ListComp (.List [] lp) [⟨tg, iter, [], 0⟩] scope pos) (fun σ H Q => ∃ F ρ, Rel g F ms ρ σ H ∧ goN g W ms σ F Q (mLc mi t (own.map (·.2)) (mC (.bool true)) mNil ρ)) :=
  pe_impS (pe_lc (tt := tYes) (te := tLst tNil) (own := own) hc hN hi ok (fun s H C cl fp => (hg s H C cl fp).pg) (fun s H C cl fp => pts_nil) (fun s H C cl fp => pe_lst pa_nil) hs) fun s =>
    nslc_imp (X' := X.blk s (fun _ => none) scope (compEnvC scope [] 0 X.env) []) hk (hg s (fun _ => none) 0 [] []) hwi wb hvs hv
theorem ls_setNsC {j : Nat} {x : Str} {px : Pos} {e : Expr} {m : ME} (he : PE X e (fun σ H Q => ∃ F ρ, Rel g F ms ρ σ H ∧ goN g W ms σ F Q (m ρ))) (hN : X.N.Nodup) (hi : X.N[j]? = some x) (hx : Loc X.env.scope x) (hl : j < ms.length := by decide) (wx : wkB ms c.mx = true := by rfl)
    (hs : swapsWith e (some (.Name x px)) pos.line X.env = pure false := by rfl) (hf : X.fn x = true ∨ X.env.scope.names.lookup x = some .local := by first | exact .inl rfl | exact .inr rfl | assumption) :
    PS X (.Assign [.Name x px] e pos) (LS g W c ms (ms.set j .oo) (sSet j m)) := ps_imp (ps_set hN hi hx he hs hf) fun Dn σ H ⟨F, ρ, R, q⟩ => by
  refine ⟨F, ρ, R, ?_⟩
  unfold sSet at q
  cases hr : m ρ with
  | bad => rw [hr] at q; exact q
  | exn x ρ' => rw [hr] at q; exact fun k dd F2 H2 s R xo => q k dd F2 σ H2 s (R.weak wx) xo
  | ok d ρ' =>
    rw [hr] at q
    exact fun a xs es F' H' s R' k f => q F' _ H' s (R'.setNs hl k f)
end
end Mr

/-! zip of two rows, lists or tuples -/
namespace Mr
open PySem PySem.Spec PyProof.Rows L2
def IsB (h : Heap) (b : Bool) (a : Addr) (items : Array Value) : Prop := if b = true then h.IsList a items else h.IsTuple a items
def IterB (h : Heap) (b : Bool) (it a : Addr) (i : Nat) : Prop := if b = true then h.IsListIter it a i else h.IsTupleIter it a i
theorem IterB.obj {h : Heap} {b : Bool} {it a : Addr} {i : Nat} (x : IterB h b it a i) : ∃ o, h.get? it = some o ∧ o.data = .fields #[.ref a, .int i 0] := by
  cases b with
  | true => rw [IterB, if_pos rfl] at x; obtain ⟨o, e, _, d⟩ := x; exact ⟨o, e, d⟩
  | false => rw [IterB, if_neg Bool.false_ne_true] at x; obtain ⟨o, e, _, d⟩ := x; exact ⟨o, e, d⟩
theorem IterB.at' {h h' : Heap} {b : Bool} {it a : Addr} {i : Nat} (x : IterB h b it a i) (k : ∀ o, h.get? it = some o → h'.get? it = some o) : IterB h' b it a i := by
  cases b with
  | true => rw [IterB, if_pos rfl] at x ⊢; obtain ⟨o, e, r⟩ := x; exact ⟨o, k o e, r⟩
  | false => rw [IterB, if_neg Bool.false_ne_true] at x ⊢; obtain ⟨o, e, r⟩ := x; exact ⟨o, k o e, r⟩
theorem IsB.at' {h h' : Heap} {b : Bool} {a : Addr} {its : Array Value} (x : IsB h b a its) (k : ∀ o, h.get? a = some o → h'.get? a = some o) : IsB h' b a its := by
  cases b with
  | true => rw [IsB, if_pos rfl] at x ⊢; obtain ⟨o, e, r⟩ := x; exact ⟨o, k o e, r⟩
  | false => rw [IsB, if_neg Bool.false_ne_true] at x ⊢; obtain ⟨o, e, r⟩ := x; exact ⟨o, k o e, r⟩
theorem IsB.lt {h : Heap} {b : Bool} {a : Addr} {its : Array Value} (x : IsB h b a its) : a < h.objs.size := by
  cases b with
  | true => rw [IsB, if_pos rfl] at x; obtain ⟨o, e, r⟩ := x; exact Heap.lt_size e
  | false => rw [IsB, if_neg Bool.false_ne_true] at x; obtain ⟨o, e, r⟩ := x; exact Heap.lt_size e
theorem isB {X : Cx} {pins : List (Addr × Obj)} {σ : Sg} {H : Hp} {s : Shared} {b : Bool} {a : Addr} {xs : List V} (I : Inv X pins σ H s) (h : SqB X.K H b a xs) : ∃ its : List Value, Vals xs its ∧ IsB s.heap b a its.toArray := by
  cases b with
  | true => rw [SqB, if_pos rfl] at h; obtain ⟨its, rv, p, _⟩ := I.list h; exact ⟨its, rv, by rw [IsB, if_pos rfl]; exact p.isList⟩
  | false => rw [SqB, if_neg Bool.false_ne_true] at h; obtain ⟨its, rv, p, _⟩ := I.tuple h.t; exact ⟨its, rv, by rw [IsB, if_neg Bool.false_ne_true]; exact p⟩
theorem sqB_inj {X : Cx} {pins : List (Addr × Obj)} {σ : Sg} {H : Hp} {s : Shared} {b : Bool} {a : Addr} {xs ys : List V} (I : Inv X pins σ H s) (h : SqB X.K H b a xs) (k : SqB X.K H b a ys) : xs = ys := by
  cases b with
  | true => rw [SqB, if_pos rfl] at h k; exact I.list_inj h k
  | false => rw [SqB, if_neg Bool.false_ne_true] at h k; exact I.tuple_inj h.t k.t
theorem drawsB {prog : Program} {w : World} {A : Around} (hh : A.handled = none) (b : Bool) (it a : Addr) (hne : a ≠ it) (items : Array Value) :
    Draws prog w A it [it, a] items.size (fun i v => items[i]? = some v) (fun i h => IterB h b it a i ∧ IsB h b a items) := by
  cases b with
  | true => simp only [IterB, IsB, if_true]; exact Draws.list hh it a hne items
  | false => simp only [IterB, IsB, Bool.false_eq_true, if_false]; exact Draws.tuple hh it a hne items
def BegO (b : Bool) (a : Addr) : Obj := if b = true then { cls := .type "list_iterator", data := .fields #[.ref a, .int 0 0] } else { cls := .type "tuple_iterator", data := .fields #[.ref a, .int 0 0] }
theorem beginsB (b : Bool) (a : Addr) (items : Array Value) : Begins (.ref a) (BegO b a) fun h => IsB h b a items := by
  cases b with
  | true => simp only [BegO, IsB, if_true]; exact begins_list a items
  | false => simp only [BegO, IsB, Bool.false_eq_true, if_false]; exact begins_tuple a items
theorem begIter {h : Heap} {b : Bool} {it a : Addr} (e : h.get? it = some (BegO b a)) : IterB h b it a 0 := by
  cases b with
  | true => rw [IterB, if_pos rfl]; exact ⟨_, e, rfl, rfl⟩
  | false => rw [IterB, if_neg Bool.false_ne_true]; exact ⟨_, e, rfl, rfl⟩
/-- a new pair, its object told -/
def Pr2 (H : Hp) (v : V) (H' : Hp) (x y : V) : Prop := ∃ (T : Addr) (o : Obj), v = .ref T ∧ H T = none ∧ o.cls = .type "tuple" ∧ o.dict = none ∧ H' = upd H T (.frz o (.tup [x, y]))
def ItzB (K : PySem.W.Frag) (b1 b2 : Bool) (a b : Addr) : It :=
  ⟨fun i H => ∃ (xs ys : List V) (x y : V), SqB K H b1 a xs ∧ SqB K H b2 b ys ∧ xs[i]? = some x ∧ ys[i]? = some y,
    fun i H v H' => ∃ x y, Pr2 H v H' x y ∧ (∀ xs, SqB K H b1 a xs → xs[i]? = some x) ∧ ∀ ys, SqB K H b2 b ys → ys[i]? = some y,
    fun i H => ∃ xs ys : List V, SqB K H b1 a xs ∧ SqB K H b2 b ys ∧ i ≤ xs.length ∧ i ≤ ys.length ∧ (i = xs.length ∨ i = ys.length)⟩
theorem turn_zipB {P : Program} {w : World} {K : PySem.W.Frag} {elts : List Expr} {kk : Nat} {tpos : Pos} {b1 b2 : Bool} {a b z TI TO i1 i2 : Addr} (D : ZipSep2 z TI TO i1 i2 [i1, a] [i2, b]) :
    Turn P w K (.Tuple elts kk tpos) (ItzB K b1 b2 a b) [z, TI, TO, i1, i2] z (fun i h => IsZip h z TI TO .none ∧ IsTupOf2 h TI (.ref i1) (.ref i2) ∧ (∃ x y, IsTupOf2 h TO x y) ∧ IterB h b1 i1 a i ∧ IterB h b2 i2 b i) where
  mem := by simp
  obj := fun i h st c hc => by
    obtain ⟨hz, hTI, ⟨x, y, hTO⟩, h1, h2⟩ := st
    obtain ⟨o1, e1, d1⟩ := h1.obj
    obtain ⟨o2, e2, d2⟩ := h2.obj
    have e' : c = z ∨ c = TI ∨ c = TO ∨ c = i1 ∨ c = i2 := by simpa using hc
    rcases e' with q | q | q | q | q
    · rw [q]; exact ⟨_, hz, fun v q => nomatch q⟩
    · rw [q]; exact ⟨_, hTI, fun v q => nomatch q⟩
    · rw [q]; exact ⟨_, hTO, fun v q => nomatch q⟩
    · rw [q]; exact ⟨o1, e1, fun v q => by rw [d1] at q; cases q⟩
    · rw [q]; exact ⟨o2, e2, fun v q => by rw [d2] at q; cases q⟩
  keep := fun i h h' st k => by
    obtain ⟨hz, hTI, ⟨x, y, hTO⟩, h1, h2⟩ := st
    exact ⟨k z (by simp) _ hz, k TI (by simp) _ hTI, ⟨x, y, k TO (by simp) _ hTO⟩, h1.at' fun o q => k i1 (by simp) o q, h2.at' fun o q => k i2 (by simp) o q⟩
  item := by
    intro X hP hw hK hc i pins s σ H E I hf st hg
    subst hP hw hK
    obtain ⟨hz, hTI, ⟨x0, y0, hTO⟩, h1, h2⟩ := st
    obtain ⟨xs, ys, x, y, hqx, hqy, hx, hy⟩ := hg
    obtain ⟨its, rv, p⟩ := isB I hqx
    obtain ⟨its2, rv2, p2⟩ := isB I hqy
    obtain ⟨u, hu, ru⟩ := rv.get hx
    obtain ⟨u2, hu2, ru2⟩ := rv2.get hy
    have hzl : z < s.heap.objs.size := Heap.lt_size hz
    have hh : X.A.in1.handled = none := show X.A.handled = none from I.ok.hd hc
    have n1 : a ≠ i1 := fun e => by
      obtain ⟨o, eo, d⟩ := h1.obj
      have := (hf i1 (by simp)).1
      subst e
      cases b1 with
      | true => rw [SqB, if_pos rfl] at hqx; obtain ⟨_, _, ⟨o2, n2, e2, _, _, d2⟩, _⟩ := I.list hqx; rw [eo] at e2; cases e2; rw [d] at d2; cases d2
      | false => rw [SqB, if_neg Bool.false_ne_true] at hqx; obtain ⟨_, _, ⟨o2, e2, _, n2, d2⟩, _⟩ := I.tuple hqx.t; rw [eo] at e2; cases e2; rw [d] at d2; cases d2
    have n2 : b ≠ i2 := fun e => by
      obtain ⟨o, eo, d⟩ := h2.obj
      subst e
      cases b2 with
      | true => rw [SqB, if_pos rfl] at hqy; obtain ⟨_, _, ⟨o2, n2, e2, _, _, d2⟩, _⟩ := I.list hqy; rw [eo] at e2; cases e2; rw [d] at d2; cases d2
      | false => rw [SqB, if_neg Bool.false_ne_true] at hqy; obtain ⟨_, _, ⟨o2, e2, _, n2, d2⟩, _⟩ := I.tuple hqy.t; rw [eo] at e2; cases e2; rw [d] at d2; cases d2
    have l1 : i < its.toArray.size := by have := (List.getElem?_eq_some_iff.mp hu).1; simpa using this
    have l2 : i < its2.toArray.size := by have := (List.getElem?_eq_some_iff.mp hu2).1; simpa using this
    refine wpAny_pyNext_zipD2_item D (drawsB hh b1 i1 a n1 its.toArray) (drawsB hh b2 i2 b n2 its2.toArray) hz hTI hTO ⟨h1, p⟩ ⟨h2, p2⟩ l1 l2 fun v1 v2 h' tk hv1 hv2 z' TO' s1' s2' hT hsz hk => ?_
    have ev1 : v1 = u := by
      have q : its.toArray[i]? = some v1 := hv1
      have q2 : its.toArray[i]? = some u := by simpa using hu
      rw [q2] at q; exact (Option.some.inj q).symm
    have ev2 : v2 = u2 := by
      have q : its2.toArray[i]? = some v2 := hv2
      have q2 : its2.toArray[i]? = some u2 := by simpa using hu2
      rw [q2] at q; exact (Option.some.inj q).symm
    subst ev1 ev2
    refine ⟨_, rfl, wpAny_letOwnedTupleGo_zip (s := { s with heap := h', toks := tk }) z' fun h'' z'' sb => ?_⟩
    have hT2 : h''.get? s.heap.objs.size = some { cls := .type "tuple", data := .seq #[v1, v2] } := (sb.2 _ (Nat.ne_of_gt hzl)).trans hT
    have new : ObjOk X.prog X.w (upd H s.heap.objs.size (.frz { cls := .type "tuple", data := .seq #[v1, v2] } (.tup [x, y]))) h'' s.heap.objs.size (.frz { cls := .type "tuple", data := .seq #[v1, v2] } (.tup [x, y])) :=
      ⟨hT2, by show 2 ≤ sizeLine; decide, [v1, v2], .cons ru (.cons ru2 .nil), ⟨_, hT2, rfl, _, rfl⟩⟩
    have I1 : Inv X pins σ (upd H s.heap.objs.size (.frz { cls := .type "tuple", data := .seq #[v1, v2] } (.tup [x, y]))) { s with heap := h'', toks := tk } :=
      I.turnedNew (t' := tk) (ch := [z, TI, TO, i1, i2]) (fun c o hb q => (sb.2 c (fun q' => hb (by simp [q']))).trans (hk c o (fun q' => hb (by simp [q'])) (fun q' => hb (by simp [q'])) (fun q' => hb (by simp [q'])) (fun q' => hb (by simp [q'])) q)) hf (Nat.le_refl _) new
    refine ⟨.ref s.heap.objs.size, _, I1, rfl, ⟨x, y, ⟨_, _, rfl, I.hok.fresh (Nat.le_refl _), rfl, rfl, rfl⟩, fun l hl => by rw [sqB_inj I hl hqx]; exact hx, fun l hl => by rw [sqB_inj I hl hqy]; exact hy⟩, ⟨z'', ?_, ⟨v1, v2, ?_⟩, ?_, ?_⟩, fun c hcm => ?_⟩
    · exact (sb.2 _ D.TIz).trans (hk _ _ D.TIz D.TITO D.TIi1 D.TIi2 hTI)
    · exact (sb.2 _ D.TOz).trans TO'
    · exact s1'.1.at' fun o q => (sb.2 _ (Ne.symm D.zi1)).trans q
    · exact s2'.1.at' fun o q => (sb.2 _ (Ne.symm D.zi2)).trans q
    · have hlt : c < s.heap.objs.size := by
        have e' : c = z ∨ c = TI ∨ c = TO ∨ c = i1 ∨ c = i2 := by simpa using hcm
        rcases e' with q | q | q | q | q
        · rw [q]; exact hzl
        · rw [q]; exact Heap.lt_size hTI
        · rw [q]; exact Heap.lt_size hTO
        · rw [q]; obtain ⟨_, e1, _⟩ := h1.obj; exact Heap.lt_size e1
        · rw [q]; obtain ⟨_, e2, _⟩ := h2.obj; exact Heap.lt_size e2
      rw [upd_ne (Nat.ne_of_lt hlt)]
      exact (hf c hcm).1
  done := by
    intro X hP hw hK hc i pins s σ H E I hf st hg
    subst hP hw hK
    obtain ⟨hz, hTI, ⟨x0, y0, hTO⟩, h1, h2⟩ := st
    obtain ⟨xs, ys, hqx, hqy, le1, le2, hend⟩ := hg
    obtain ⟨its, rv, p⟩ := isB I hqx
    obtain ⟨its2, rv2, p2⟩ := isB I hqy
    have l1 := rv.length
    have l2 := rv2.length
    have hh : X.A.in1.handled = none := show X.A.handled = none from I.ok.hd hc
    have n1 : a ≠ i1 := fun e => by
      obtain ⟨o, eo, d⟩ := h1.obj
      subst e
      cases b1 with
      | true => rw [SqB, if_pos rfl] at hqx; obtain ⟨_, _, ⟨o2, n2, e2, _, _, d2⟩, _⟩ := I.list hqx; rw [eo] at e2; cases e2; rw [d] at d2; cases d2
      | false => rw [SqB, if_neg Bool.false_ne_true] at hqx; obtain ⟨_, _, ⟨o2, e2, _, n2, d2⟩, _⟩ := I.tuple hqx.t; rw [eo] at e2; cases e2; rw [d] at d2; cases d2
    have n2 : b ≠ i2 := fun e => by
      obtain ⟨o, eo, d⟩ := h2.obj
      subst e
      cases b2 with
      | true => rw [SqB, if_pos rfl] at hqy; obtain ⟨_, _, ⟨o2, n2, e2, _, _, d2⟩, _⟩ := I.list hqy; rw [eo] at e2; cases e2; rw [d] at d2; cases d2
      | false => rw [SqB, if_neg Bool.false_ne_true] at hqy; obtain ⟨_, _, ⟨o2, e2, _, n2, d2⟩, _⟩ := I.tuple hqy.t; rw [eo] at e2; cases e2; rw [d] at d2; cases d2
    exact wpAny_pyNext_zipD2_end D (drawsB hh b1 i1 a n1 its.toArray) (drawsB hh b2 i2 b n2 its2.toArray) hz hTI hTO ⟨h1, p⟩ ⟨h2, p2⟩ (by simp; omega) (by simp; omega) (by simp; omega) fun h' tk hk => ⟨rfl, I.turnedL (t' := tk) (ch := [z, TI, TO, i1, i2]) (fun c o hb q =>
      hk c o (fun q' => hb (by simp [q'])) (fun q' => hb (by simp [q'])) (fun q' => hb (by simp [q'])) (fun q' => hb (by simp [q'])) q) hf⟩
  self := fun A i s Q E st h => wpAny_pyIter_zip st.1 h
def iZipB (K : PySem.W.Frag) (ta : TA) : TI := fun σ H R => ta σ H fun vs H1 => ∃ b1 b2 a b xs ys, vs = [.ref a, .ref b] ∧ SqB K H1 b1 a xs ∧ SqB K H1 b2 b ys ∧ R (ItzB K b1 b2 a b) H1
theorem pi_zipB {X : Cx} {e e2 : Expr} {ta : TA} {p pos tpos : Pos} {elts : List Expr} {kk : Nat} (hg : Gl X "zip") (hm : X.mg "zip" = none) (ha : PA X [e, e2] ta)
    (hs : starEach [e, e2] X.env = (false, eval e X.env) :: starEach [e2] X.env := by rfl) (hpl : (backTo pos (starEach [e2] X.env)).any (·.1) = false := by rfl) :
    PI X (.Tuple elts kk tpos) (.Call (.Name "zip" p) [e, e2] [] pos) (iZipB X.K ta) := by
  refine ⟨fun pins s σ H R I h => ?_⟩
  refine Call_ (ld_blt I hg hm PyProof.Rows.boot_zip (PyProof.Rows.callWith_type1 (thn (ha.run pos pins s σ H _ I h) fun us s1 ⟨vs, H1, I1, r1, q1⟩ => ?_) hs hpl))
  obtain ⟨b1, b2, a, b, xs, ys, ex, hqx, hqy, q⟩ := q1
  subst ex
  cases r1 with
  | cons r rr =>
    cases rr with
    | cons r' rr =>
      cases rr
      cases r
      cases r'
      have fresh5 : ∀ c, c ∈ [s1.heap.objs.size + 4, s1.heap.objs.size + 2, s1.heap.objs.size + 3, s1.heap.objs.size, s1.heap.objs.size + 1] → FpOk X pins H1 c := fun c hcm => by
        have e' : c = s1.heap.objs.size + 4 ∨ c = s1.heap.objs.size + 2 ∨ c = s1.heap.objs.size + 3 ∨ c = s1.heap.objs.size ∨ c = s1.heap.objs.size + 1 := by simpa using hcm
        have hle : s1.heap.objs.size ≤ c := by
          rcases e' with z | z | z | z | z
          · rw [z]; exact Nat.le_add_right _ _
          · rw [z]; exact Nat.le_add_right _ _
          · rw [z]; exact Nat.le_add_right _ _
          · rw [z]; exact Nat.le_refl _
          · rw [z]; exact Nat.le_add_right _ _
        exact I1.fpOk hle (I1.hok.fresh hle)
      obtain ⟨its, rv, p1⟩ := isB I1 hqx
      obtain ⟨its2, rv2, p2⟩ := isB I1 hqy
      refine zip_begins2 (beginsB b1 a its.toArray) (beginsB b2 b its2.toArray) p1 p2 fun h' hz hTI hTO h1 h2 hsz hk => wpAny_pyIter_zip hz ?_
      have I2 : Inv X pins σ H1 { s1 with heap := h' } := I1.kept (t' := s1.toks) hk
      exact ⟨s1.heap.objs.size + 4, [s1.heap.objs.size + 4, s1.heap.objs.size + 2, s1.heap.objs.size + 3, s1.heap.objs.size, s1.heap.objs.size + 1], _, _, H1, rfl, I2,
        turn_zipB (zip_sep2 (fp1 := [a]) (fp2 := [b]) (by intro c hc; rw [List.mem_singleton.mp hc]; exact p1.lt) (by intro c hc; rw [List.mem_singleton.mp hc]; exact p2.lt)), ⟨hz, hTI, ⟨_, _, hTO⟩, begIter h1, begIter h2⟩, fresh5, q⟩
/-! ### the mirror -/
def zipD (xs ys : List D) : List D := List.zipWith (fun x y => PyData.tuple [x, y]) xs ys
def zipK (ps : List PV) (ρ : En) : IR := match resA ρ ps with
  | some [d, e] => (match kindD d, kindD e with
    | some (_, xs), some (_, ys) => .ok (zipD xs ys) ρ
    | _, _ => .bad)
  | _ => .bad
def mZip (os : List Opd) : MI := fun ρ => match evs os ρ with
  | .ok ps ρ1 => zipK ps ρ1
  | .exn x ρ1 => .exn x ρ1
  | .bad => .bad
def stO (ms : List Md) : Opd → Bool
  | .ex _ => true
  | .sl i => match ms[i]? with
    | some m => stB m
    | none => false
def Stab (g : Gh) (F : Hp) (v : V) (d : D) : Prop := Rp g.K g.mg F v d ∨ ∃ a xs ds, v = .ref a ∧ d = .list ds ∧ RpA g.K g.mg F xs ds ∧ ∀ F2 ms2 ρ2 σ2 H2, Same F F2 → Rel g F2 ms2 ρ2 σ2 H2 → H2 a = some (.lst xs)
section
variable {X : Cx} {g : Gh} {W : WX} {ms : List Md} {σ : Sg} {F H : Hp} {ρ : En} {os : List Opd}
def PvSt (ms : List Md) : PV → Prop
  | .inl _ => True
  | .inr i => ∃ m, ms[i]? = some m ∧ stB m = true
theorem stO_ok : ∀ {os : List Opd} {ρ ρ' : En} {ps : List PV}, os.all (stO ms) = true → evs os ρ = .ok ps ρ' → ∀ p ∈ ps, PvSt ms p
  | [], ρ, ρ', ps, _, h => by simp [evs] at h; rw [h.1]; intro p hp; cases hp
  | o :: os, ρ, ρ', ps, hs, h => by
    unfold evs at h
    cases h1 : evO o ρ with
    | bad => simp [h1] at h
    | exn x ρ' => simp [h1] at h
    | ok p ρ1 =>
      cases h2 : evs os ρ1 with
      | bad => simp [h1, h2] at h
      | exn x ρ' => simp [h1, h2] at h
      | ok ps' ρ2 =>
        simp only [h1, h2, AR.ok.injEq] at h
        simp only [List.all_cons, Bool.and_eq_true] at hs
        rw [← h.1]
        intro q hq
        rcases List.mem_cons.mp hq with rfl | hq
        · cases o with
          | ex m =>
            simp only [evO] at h1
            cases hm : m ρ with
            | bad => rw [hm] at h1; cases h1
            | exn x ρ' => rw [hm] at h1; cases h1
            | ok d ρ' => rw [hm] at h1; cases h1; trivial
          | sl i =>
            have hp : q = .inr i := by
              simp only [evO] at h1
              cases q2 : ρ[i]? with
              | none => simp [q2] at h1
              | some o => cases o with
                | none => simp [q2] at h1
                | some d => simp only [q2, OR.ok.injEq] at h1; exact h1.1.symm
            subst hp
            have := hs.1
            simp only [stO] at this
            cases hm : ms[i]? with
            | none => rw [hm] at this; cases this
            | some m => rw [hm] at this; exact ⟨m, hm, this⟩
        · exact stO_ok hs.2 h2 q hq
theorem stab_of (R : Rel g F ms ρ σ H) {v : V} {p : PV} {d : D} (h : PvOk g F ms σ v p) (e : res ρ p = some d) (hs : PvSt ms p) : Stab g F v d := by
  cases p with
  | inl d' => cases e; exact .inl h
  | inr i =>
    obtain ⟨hv, _⟩ := h
    obtain ⟨m, hm, w⟩ := hs
    have nd : m ≠ .dead := fun z => by subst z; cases w
    have so := R.at_slot hm (res_inr e) hv nd
    cases m with
    | val => exact .inl so
    | bor =>
      rcases so with so | ⟨a, ⟨xs, ds, e1, e2, e3, ra⟩, hn⟩
      · exact .inl so
      · exact .inr ⟨a, xs, ds, e1, e2, ra, fun F2 ms2 ρ2 σ2 H2 s2 R2 => R2.frame a _ e3 hn⟩
    | lk k =>
      obtain ⟨a, xs, ds, h3, e1, e2, ra⟩ := so
      exact .inr ⟨a, xs, ds, e1, e2, ra, fun F2 ms2 ρ2 σ2 H2 s2 R2 => (R2.prot _ (List.mem_of_getElem? h3)).1⟩
    | _ => cases w
theorem Stab.sqB {v : V} {d : D} {b : Bool} {ds : List D} (h : Stab g F v d) (hk : kindD d = some (b, ds)) : ∃ a xs, v = .ref a ∧ RpA g.K g.mg F xs ds ∧ ∀ F2 ms2 ρ2 σ2 H2, Same F F2 → Rel g F2 ms2 ρ2 σ2 H2 → SqB g.K H2 b a xs := by
  unfold kindD at hk
  split at hk
  · cases hk
    rcases h with h | ⟨a, xs, es, rfl, e, ra, hH⟩
    · cases h with
      | lst hs ra => exact ⟨_, _, rfl, ra, fun F2 ms2 ρ2 σ2 H2 s2 R2 => by rw [SqB, if_pos rfl]; exact (hs.mono (s2.trans R2.sub)).sql⟩
    · cases e
      exact ⟨a, xs, rfl, ra, fun F2 ms2 ρ2 σ2 H2 s2 R2 => by rw [SqB, if_pos rfl]; exact .inl (.inl (hH F2 ms2 ρ2 σ2 H2 s2 R2))⟩
  · cases hk
    rcases h with h | ⟨a, xs, es, rfl, e, ra, hH⟩
    · cases h with
      | tup hs ra => exact ⟨_, _, rfl, ra, fun F2 ms2 ρ2 σ2 H2 s2 R2 => by rw [SqB, if_neg Bool.false_ne_true]; exact hs.mono (s2.trans R2.sub)⟩
    · cases e
  · cases hk
theorem walkD_zip {b1 b2 : Bool} {a b : Addr} {xs ys : List V} {ds es : List D} (ra : RpA g.K g.mg F xs ds) (rb : RpA g.K g.mg F ys es) (h1 : ∀ F2 ms2 ρ2 σ2 H2, Same F F2 → Rel g F2 ms2 ρ2 σ2 H2 → SqB g.K H2 b1 a xs) (h2 : ∀ F2 ms2 ρ2 σ2 H2, Same F F2 → Rel g F2 ms2 ρ2 σ2 H2 → SqB g.K H2 b2 b ys) :
    WalkD g F (ItzB g.K b1 b2 a b) (zipD ds es) := by
  have hl : (zipD ds es).length = min xs.length ys.length := by unfold zipD; rw [List.length_zipWith, ra.length, rb.length]
  refine ⟨fun H => SqB g.K H b1 a xs ∧ SqB g.K H b2 b ys, fun i H v H' => ∃ x y, Pr2 H v H' x y ∧ xs[i]? = some x ∧ ys[i]? = some y, ⟨fun i H hi q => ?_, fun H q => ?_, fun i H v H' hi q y => ?_⟩, fun F2 ms2 ρ2 σ2 H2 s2 R2 => ⟨h1 F2 ms2 ρ2 σ2 H2 s2 R2, h2 F2 ms2 ρ2 σ2 H2 s2 R2⟩, fun i F2 H2 v H3 hi s2 sub y => ?_⟩
  · rw [hl] at hi
    exact ⟨xs, ys, xs[i]'(by omega), ys[i]'(by omega), q.1, q.2, List.getElem?_eq_getElem _, List.getElem?_eq_getElem _⟩
  · exact ⟨xs, ys, q.1, q.2, by omega, by omega, by omega⟩
  · obtain ⟨x, z, p, f1, f2⟩ := y
    exact ⟨x, z, p, f1 xs q.1, f2 ys q.2⟩
  · obtain ⟨x, z, ⟨T, o, rfl, hT, hc, hd, rfl⟩, f1, f2⟩ := y
    obtain ⟨d, q1, r1⟩ := ra.getV f1
    obtain ⟨e, q2, r2⟩ := rb.getV f2
    have ex := Ext.frz (o := .frz o (.tup [x, z])) sub hT
    refine ⟨.tuple [d, e], upd F2 T (.frz o (.tup [x, z])), ?_, ex, .tup (.inl ⟨o, upd_same, hc, hd⟩) (.cons (r1.mono (s2.trans ex.f)) (.cons (r2.mono (s2.trans ex.f)) .nil))⟩
    unfold zipD
    rw [List.getElem?_zipWith, q1, q2]
theorem li_zip (hk : g.K = X.K) (w : os.all (stO ms) = true) : ∀ σ H R, LI g W ms (mZip os) σ H R → iZipB X.K (LA g W ms os) σ H R := fun σ H R ⟨F, ρ, r, q⟩ => by
  refine ⟨F, ρ, r, ?_⟩
  unfold mZip at q
  cases h1 : evs os ρ with
  | bad => rw [h1] at q; exact q
  | exn x ρ1 => rw [h1] at q; exact q
  | ok ps ρ1 =>
    rw [h1] at q
    simp only at q
    intro vs F1 H1 s1 R1 p1
    unfold zipK at q
    split at q
    · rename_i d e hr
      split at q
      · rename_i b1 xs0 b2 ys0 k1 k2
        have hst := stO_ok w h1
        obtain ⟨hl, hg2⟩ := resA_get hr
        cases p1 with
        | nil => simp at hl
        | cons pa pr =>
          cases pr with
          | nil => simp at hl
          | cons pb pr =>
            cases pr with
            | cons _ _ => simp at hl
            | nil =>
              rename_i v1 p1 v2 p2
              obtain ⟨a, xs, rfl, ra, f1⟩ := (stab_of R1 pa (hg2 0 _ _ rfl rfl) (hst p1 (by simp))).sqB k1
              obtain ⟨b, ys, rfl, rb, f2⟩ := (stab_of R1 pb (hg2 1 _ _ rfl rfl) (hst p2 (by simp))).sqB k2
              refine ⟨b1, b2, a, b, xs, ys, rfl, by rw [← hk]; exact f1 F1 ms ρ1 σ H1 (Same.refl _) R1, by rw [← hk]; exact f2 F1 ms ρ1 σ H1 (Same.refl _) R1, ?_⟩
              rw [← hk]
              exact q _ F1 H1 s1 R1 (walkD_zip ra rb f1 f2)
      · exact q.elim
    · exact q.elim
end
end Mr

/-! sorted of rows of tuples of texts and ints -/
namespace Mr
open PySem PySem.Spec PyProof.Rows L2
/-! ### the order -/
def ltK : Key → Key → Bool
  | .inl i, .inl j => decide (i < j)
  | .inr a, .inr b => ltS a b
  | .inl _, .inr _ => true
  | .inr _, .inl _ => false
def lexK : List Key → List Key → Bool
  | x :: xs, y :: ys => if x = y then lexK xs ys else ltK x y
  | [], _ :: _ => true
  | _, [] => false
theorem ltS_irr (a : Str) : ltS a a = false := by
  unfold ltS
  exact decide_eq_false (List.lt_irrefl _)
theorem ltS_no {a b : Str} (h : ltS a b = true) : ltS b a = false := by
  unfold ltS at h ⊢
  have h := of_decide_eq_true h
  exact decide_eq_false (List.lt_asymm h)
theorem ltS_tot {a b : Str} (h : ltS a b = false) (n : a ≠ b) : ltS b a = true := by
  cases h2 : ltS b a with
  | true => rfl
  | false =>
    exfalso
    refine n (leS_anti ?_ ?_)
    · unfold leS; rw [h2]; rfl
    · unfold leS; rw [h]; rfl
theorem ltS_tr {a b c : Str} (h : ltS a b = true) (k : ltS b c = true) : ltS a c = true := by
  unfold ltS at h k ⊢
  exact decide_eq_true (List.lt_trans (of_decide_eq_true h) (of_decide_eq_true k))
theorem ltK_irr (a : Key) : ltK a a = false := by
  cases a with
  | inl i => simp [ltK]
  | inr x => exact ltS_irr x
theorem ltK_asym {a b : Key} (h : ltK a b = true) : ltK b a = false := by
  cases a <;> cases b
  · simp only [ltK, decide_eq_true_eq, decide_eq_false_iff_not] at h ⊢; omega
  · rfl
  · cases h
  · exact ltS_no h
theorem ltK_tot {a b : Key} (h : ltK a b = false) (n : a ≠ b) : ltK b a = true := by
  cases a <;> cases b
  · rename_i i j
    have : i ≠ j := fun e => n (by rw [e])
    simp only [ltK, decide_eq_true_eq, decide_eq_false_iff_not] at h ⊢; omega
  · cases h
  · rfl
  · exact ltS_tot h fun e => n (by rw [e])
theorem ltK_tr {a b c : Key} (h : ltK a b = true) (k : ltK b c = true) : ltK a c = true := by
  cases a <;> cases b <;> cases c <;> first | rfl | (cases h; done) | (cases k; done) | skip
  · simp only [ltK, decide_eq_true_eq] at h k ⊢; omega
  · exact ltS_tr h k
theorem lexK_irr : ∀ a : List Key, lexK a a = false
  | [] => rfl
  | x :: xs => by rw [lexK, if_pos rfl]; exact lexK_irr xs
theorem lexK_asym : ∀ (a b : List Key), lexK a b = true → lexK b a = false
  | [], [], h => by cases h
  | [], _ :: _, _ => rfl
  | _ :: _, [], h => by cases h
  | x :: xs, y :: ys, h => by
    rw [lexK] at h ⊢
    by_cases e : x = y
    · subst e
      rw [if_pos rfl] at h ⊢
      exact lexK_asym xs ys h
    · rw [if_neg e] at h
      rw [if_neg (Ne.symm e)]
      exact ltK_asym h
theorem lexK_tot : ∀ (a b : List Key), lexK a b = false → a ≠ b → lexK b a = true
  | [], [], _, n => absurd rfl n
  | [], _ :: _, h, _ => by cases h
  | _ :: _, [], _, _ => rfl
  | x :: xs, y :: ys, h, n => by
    rw [lexK] at h ⊢
    by_cases e : x = y
    · subst e
      rw [if_pos rfl] at h ⊢
      exact lexK_tot xs ys h fun z => n (by rw [z])
    · rw [if_neg e] at h
      rw [if_neg (Ne.symm e)]
      exact ltK_tot h e
theorem lexK_tr : ∀ (a b c : List Key), lexK a b = true → lexK b c = true → lexK a c = true
  | [], [], _, h, _ => by cases h
  | [], _ :: _, [], _, k => by cases k
  | [], _ :: _, _ :: _, _, _ => rfl
  | _ :: _, [], _, h, _ => by cases h
  | _ :: _, _ :: _, [], _, k => by cases k
  | x :: xs, y :: ys, z :: zs, h, k => by
    rw [lexK] at h k ⊢
    by_cases e : x = y
    · subst e
      rw [if_pos rfl] at h
      by_cases e2 : x = z
      · subst e2
        rw [if_pos rfl] at k ⊢
        exact lexK_tr xs ys zs h k
      · rw [if_neg e2] at k ⊢; exact k
    · rw [if_neg e] at h
      by_cases e2 : y = z
      · subst e2
        rw [if_neg e]; exact h
      · rw [if_neg e2] at k
        have := ltK_tr h k
        rw [if_neg fun z => by subst z; rw [ltK_irr] at this; cases this]
        exact this
/-- not after -/
def leK (a b : List Key) : Bool := !lexK b a
theorem leK_trans {a b c : List Key} (h : leK a b = true) (k : leK b c = true) : leK a c = true := by
  unfold leK at h k ⊢
  rw [Bool.not_eq_true'] at h k ⊢
  cases q : lexK c a with
  | false => rfl
  | true =>
    exfalso
    by_cases e : a = b
    · subst e; rw [q] at k; cases k
    · have := lexK_tr _ _ _ q (lexK_tot _ _ h (Ne.symm e))
      rw [this] at k; cases k
theorem leK_total (a b : List Key) : (leK a b || leK b a) = true := by
  unfold leK
  cases q : lexK b a with
  | false => rfl
  | true => rw [lexK_asym _ _ q]; rfl
theorem leK_anti {a b : List Key} (h : leK a b = true) (k : leK b a = true) : a = b := by
  unfold leK at h k
  rw [Bool.not_eq_true'] at h k
  by_cases e : a = b
  · exact e
  · rw [lexK_tot _ _ k e] at h; cases h
theorem lex_swo {α : Type} (k : α → List Key) : SrtO.Swo fun x y => lexK (k x) (k y) :=
  ⟨fun x y h => lexK_asym _ _ h, fun x y z h1 h2 => by
    have a : leK (k x) (k y) = true := by unfold leK; rw [h1]; rfl
    have b : leK (k y) (k z) = true := by unfold leK; rw [h2]; rfl
    have := leK_trans a b
    unfold leK at this
    rw [Bool.not_eq_true'] at this
    exact this⟩
def sortK (xs : List (List Key)) : List (List Key) := xs.mergeSort leK
theorem permK : ∀ {l l' : List (List Key)}, l.Perm l' → l.Pairwise (fun a b => leK a b = true) → l'.Pairwise (fun a b => leK a b = true) → l = l'
  | [], l', p, _, _ => (List.Perm.eq_nil p.symm).symm
  | x :: r, [], p, _, _ => absurd (List.Perm.eq_nil p) (by simp)
  | x :: r, y :: t, p, h1, h2 => by
    have hx : x ∈ y :: t := p.subset List.mem_cons_self
    have hy : y ∈ x :: r := p.symm.subset List.mem_cons_self
    have e : x = y := by
      rcases List.mem_cons.mp hx with e | e
      · exact e
      · rcases List.mem_cons.mp hy with e2 | e2
        · exact e2.symm
        · exact leK_anti ((List.pairwise_cons.mp h1).1 y e2) ((List.pairwise_cons.mp h2).1 x e)
    subst e
    rw [permK ((List.perm_cons x).mp p) (List.pairwise_cons.mp h1).2 (List.pairwise_cons.mp h2).2]
theorem sortK_eq {xs ys : List (List Key)} (p : ys.Perm xs) (h : ys.Pairwise (fun a b => leK a b = true)) : ys = sortK xs :=
  permK (p.trans (List.mergeSort_perm xs leK).symm) h (List.pairwise_mergeSort (le := leK) (fun _ _ _ => leK_trans) leK_total xs)
/-! ### the machine's comparing -/
def kB : Key → Bool
  | .inl _ => false
  | .inr _ => true
def IsTupK (h : Heap) (v : Value) (ks : List Key) : Prop := ∃ a o its n, v = .ref a ∧ h.get? a = some o ∧ o.cls = .type "tuple" ∧ o.data = .seq (List.toArray its) n ∧ Vals (ks.map kV) its
theorem IsTupK.keeps {h h' : Heap} {v : Value} {ks : List Key} (x : IsTupK h v ks) (k : ∀ b o, h.get? b = some o → o.cls = .type "tuple" → h'.get? b = some o) : IsTupK h' v ks := by
  obtain ⟨a, o, its, n, e, ho, hc, r⟩ := x
  exact ⟨a, o, its, n, e, k a o ho hc, hc, r⟩
section
variable {prog : Program} {w : World} {A : Around} {E : Value → Shared → Prop} {s : Shared} {Q : Bool → Shared → Prop}
theorem katK : ∀ (ks ms : List Key) (its jts : List Value) (i : Nat), Vals (ks.map kV) its → Vals (ms.map kV) jts → ks.map kB = ms.map kB → Q (lexK ks ms) s → PySem.W.KatLex prog w A true false Q (its.zip jts) i s
  | [], [], _, _, i, r1, r2, _, h => by cases r1; cases r2; exact PySem.W.kat_nil h
  | [], _ :: _, _, _, _, _, _, e, _ => by cases e
  | _ :: _, [], _, _, _, _, _, e, _ => by cases e
  | x :: ks, y :: ms, _, _, i, r1, r2, e, h => by
    cases r1 with
    | cons q1 r1 =>
      cases r2 with
      | cons q2 r2 =>
        simp only [List.map_cons, List.cons.injEq] at e
        rw [lexK] at h
        cases x with
        | inl x =>
          cases y with
          | inr y => cases e.1
          | inl y =>
            obtain ⟨t, rfl⟩ := q1
            obtain ⟨u, rfl⟩ := q2
            refine PySem.W.kat_cons (SeqAt.EqAt.int_int x t y u prog w _ _ ?_)
            refine PySem.W.kat_go (fun e1 => ?_) (fun e1 => ?_)
            · have ex : x = y := by simpa using e1
              rw [if_pos (by rw [ex])] at h
              have ee : (x == y) = true := e1
              exact PySem.W.kat_yes (katK ks ms _ _ (i + 1) r1 r2 e.2 h)
            · have ex : ¬ (Sum.inl x : Key) = .inl y := fun z => by cases z; simp at e1
              rw [if_neg ex] at h
              refine PySem.W.kat_no ?_
              cases i with
              | zero => exact oneLt_int h
              | succ i => exact PySem.W.kat_one _ _ (PyProof.Rows.lt_int h)
        | inr x =>
          cases y with
          | inl y => cases e.1
          | inr y =>
            obtain ⟨t, rfl⟩ := q1
            obtain ⟨u, rfl⟩ := q2
            refine PySem.W.kat_cons (SeqAt.EqAt.str_str x t y u prog w _ _ ?_)
            refine PySem.W.kat_go (fun e1 => ?_) (fun e1 => ?_)
            · have ex : x = y := eq_of_beq e1
              rw [if_pos (by rw [ex])] at h
              exact PySem.W.kat_yes (katK ks ms _ _ (i + 1) r1 r2 e.2 h)
            · have ex : ¬ (Sum.inr x : Key) = .inr y := fun z => by cases z; simp at e1
              rw [if_neg ex] at h
              refine PySem.W.kat_no ?_
              cases i with
              | zero => exact oneLt_str h
              | succ i => exact PySem.W.kat_one _ _ (PySem.P.lt_str h)
theorem tupK_cmp {vs : List Value} {k : Value → List Key} {sh : List Bool} (hp : ∀ v ∈ vs, IsTupK s.heap v (k v) ∧ (k v).map kB = sh) : SrtO.Cmp prog w A s (tuples' true) (fun p => p.1 ∈ vs) (SrtO.lt2 fun v u => lexK (k v) (k u)) := by
  intro p q hm hm'
  obtain ⟨⟨a, o, its, n, e, ho, hc, hd, r⟩, s1⟩ := hp _ hm
  obtain ⟨⟨a', o', its', n', e', ho', hc', hd', r'⟩, s2⟩ := hp _ hm'
  show wpAny (model prog w) A (keyLt' (tuples' true) p.1 q.1) (fun r s' => s' = s ∧ r = lexK (k p.1) (k q.1)) (fun _ _ => False) s
  generalize k p.1 = x at r s1 ⊢
  generalize k q.1 = y at r' s2 ⊢
  rw [e, e']
  refine PySem.W.kat_lt ho hd ho' hd' ?_
  have hl : its.length = its'.length := by
    rw [← r.length, ← r'.length, List.length_map, List.length_map]
    have := congrArg List.length (s1.trans s2.symm)
    simpa using this
  have hf : decide ((List.toArray its).size < (List.toArray its').size) = false := by
    apply decide_eq_false; simp; omega
  rw [hf]
  exact katK x y its its' 0 r r' (s1.trans s2.symm) ⟨rfl, rfl⟩
theorem firstK {h : Heap} {k : Value → List Key} {b0 : Bool} {sh : List Bool} : ∀ {vs : List Value}, (∀ v ∈ vs, IsTupK h v (k v) ∧ (k v).map kB = b0 :: sh) → ∃ fs : List Value, PySem.W.KatTups h vs fs ∧ fs.length = vs.length ∧ ∀ f ∈ fs, ∃ y, kB y = b0 ∧ RelV (kV y) f
  | [], _ => ⟨[], PySem.W.KatTups.nil, rfl, fun f hf => by cases hf⟩
  | v :: vs, hp => by
    obtain ⟨fs, h1, h2, h3⟩ := firstK (vs := vs) fun u hu => hp u (List.mem_cons_of_mem _ hu)
    obtain ⟨⟨a, o, its, n, e, ho, hc, hd, r⟩, s1⟩ := hp v List.mem_cons_self
    cases hk : k v with
    | nil => rw [hk] at s1; cases s1
    | cons y ys =>
      rw [hk] at s1 r
      simp only [List.map_cons, List.cons.injEq] at s1
      cases r with
      | cons q1 r1 =>
        rename_i u us
        refine ⟨u :: fs, ?_, by simp [h2], fun f hf => ?_⟩
        · rw [e]; exact PySem.W.KatTups.cons ho hc hd (by simp) h1
        · rcases List.mem_cons.mp hf with rfl | hf
          · exact ⟨y, s1.1, q1⟩
          · exact h3 f hf
theorem tupsK_sortable {a : Addr} {vs : List Value} {k : Value → List Key} {b0 : Bool} {sh : List Bool} (h0 : 0 < vs.length) (hp : ∀ v ∈ vs, IsTupK s.heap v (k v) ∧ (k v).map kB = b0 :: sh) (ha : ∀ o, s.heap.get? a = some o → o.cls ≠ .type "tuple") :
    SrtO.SortableO prog w A s a vs fun v u => lexK (k v) (k u) := by
  intro h' keep
  have hp' : ∀ v ∈ vs, IsTupK h' v (k v) ∧ (k v).map kB = b0 :: sh := fun v hm => ⟨(hp v hm).1.keeps fun b o e c => keep b o (fun z => by subst z; exact ha o e c) e, (hp v hm).2⟩
  obtain ⟨fs, h1, h2, h3⟩ := firstK hp'
  refine ⟨tuples' true, fun Q E hq => ?_, tupK_cmp hp'⟩
  cases b0 with
  | false =>
    refine PySem.W.kat_kind (T := .type "int") h1 (by omega) (fun f hm => ?_) (by rfl) ?_
    · obtain ⟨y, e, r⟩ := h3 f hm
      cases y with
      | inr _ => cases e
      | inl i => obtain ⟨t, rfl⟩ := r; exact PySem.W.Looks.now
    · have e : (Value.type "int" != Value.type "tuple") = true := by first | decide +kernel | rfl | decide
      rw [e]
      exact hq
  | true =>
    refine PySem.W.kat_kind (T := .type "str") h1 (by omega) (fun f hm => ?_) (by rfl) ?_
    · obtain ⟨y, e, r⟩ := h3 f hm
      cases y with
      | inl _ => cases e
      | inr x => obtain ⟨t, rfl⟩ := r; exact PySem.W.Looks.now
    · have e : (Value.type "str" != Value.type "tuple") = true := by first | decide +kernel | rfl | decide
      rw [e]
      exact hq
theorem sorted_tupsK {l : Addr} {vs : List Value} {k : Value → List Key} {b0 : Bool} {sh : List Bool} {Q : Value → Shared → Prop} (hl : s.heap.IsList l vs.toArray) (hz : vs.length ≤ sizeLine) (hp : ∀ v ∈ vs, IsTupK s.heap v (k v) ∧ (k v).map kB = b0 :: sh)
    (h : ∀ (h' : Heap) (d : Addr) (out : List Value), SrtO.Srtd (fun v u => lexK (k v) (k u)) out → SrtO.Stb (fun v u => lexK (k v) (k u)) out vs → (∀ b o, s.heap.get? b = some o → h'.get? b = some o) → s.heap.objs.size ≤ d → (∃ n, h'.get? d = some (seqObj "list" out.toArray n)) → Q (.ref d) { s with heap := h' }) :
    wpAny (model prog w) A (call (.builtin "sorted") [.ref l]) Q E s := by
  refine SrtO.sorted_ord (lex_swo k) hl hz (fun h2 h₁ a ha kk => ?_) fun out hs hb => ?_
  · refine tupsK_sortable (s := { s with heap := h₁ }) (by omega) (fun v hm => ⟨(hp v hm).1.keeps fun b o e _ => (kk b o e).2, (hp v hm).2⟩) fun o e => ?_
    have e' : some o = some (seqObj "list" vs.toArray 0) := e.symm.trans ha
    cases e'
    intro c
    exact absurd (Value.type.inj c) (by decide)
  · exact h _ _ out hs hb (fun b o e => sortedAll_old e) (Nat.le_succ _) (sortedAll_at s.heap vs out.toArray)
end
theorem kV_inj : ∀ {a b : List Key}, a.map kV = b.map kV → a = b
  | [], [], _ => rfl
  | [], _ :: _, h => by cases h
  | _ :: _, [], h => by cases h
  | x :: a, y :: b, h => by
    simp only [List.map_cons, List.cons.injEq] at h
    rw [kV_inj h.2]
    have := h.1
    cases x <;> cases y <;> first | (cases this; rfl) | (cases this)
def KtP (K : PySem.W.Frag) (H : Hp) (x : V) (k : List Key) : Prop := ∃ t, x = V.ref t ∧ SqT K H t (k.map kV)
/-- sorted(xs), xs a list of tuples of keys of one shape -/
def rSortedK (K : PySem.W.Frag) : List V → Hp → VK → Prop := fun vs H Q => ∃ (a : Addr) (xs : List V) (ks : List (List Key)) (b0 : Bool) (sh : List Bool), vs = [V.ref a] ∧ SqL K H a xs ∧ Paired (KtP K H) xs ks ∧ (∀ k ∈ ks, k.map kB = b0 :: sh) ∧
  ∀ (f : V → List Key) ys p, xs.map f = ks → ys.Perm xs → (ys.map f).Pairwise (fun a b => leK a b = true) → H p = none → Q (.ref p) (upd H p (.lst ys))
section
variable {X : Cx}
theorem keys_fn {K : PySem.W.Frag} {H : Hp} (uq : ∀ x k m, KtP K H x k → KtP K H x m → k = m) {xs : List V} {ks : List (List Key)} (h : Paired (KtP K H) xs ks) : ∃ f : V → List Key, xs.map f = ks ∧ ∀ x ∈ xs, KtP K H x (f x) := by
  classical
  refine ⟨fun x => if h : ∃ k, KtP K H x k then Classical.choose h else [], ?_, ?_⟩
  · induction h with
    | nil => rfl
    | cons r t ih =>
      rw [List.map_cons, ih]
      rename_i x k _ _
      have e : ∃ k, KtP K H x k := ⟨k, r⟩
      rw [dif_pos e, uq x _ _ (Classical.choose_spec e) r]
  · intro x hx
    obtain ⟨k, r⟩ := Paired.memL h hx
    have e : ∃ k, KtP K H x k := ⟨k, r⟩
    simp only [dif_pos e]
    exact Classical.choose_spec e
theorem cr_sortedK : CallR X (.builtin "sorted") (rSortedK X.K) := by
  intro pins s σ H vs us Q I r h
  obtain ⟨a, xs, ks, b0, sh, rfl, hs, hx, hsh, q⟩ := h
  obtain ⟨f, hf, hfx⟩ := keys_fn (fun x k m h1 h2 => by
    obtain ⟨t, rfl, h1⟩ := h1
    obtain ⟨t', e, h2⟩ := h2
    cases e
    exact kV_inj (I.tuple_inj h1 h2)) hx
  obtain ⟨its, rv, hl, hz⟩ := I.list hs
  obtain ⟨u, rfl, ru⟩ := vals1 r
  obtain rfl : u = Value.ref a := ru
  obtain ⟨e1, e2⟩ := refs_back rv fun x m => by
    obtain ⟨t, e, _⟩ := hfx x m
    exact ⟨t, e⟩
  refine sorted_tupsK (k := fun u => f (backV u)) (b0 := b0) (sh := sh) hl.isList (by rw [← rv.length]; exact hz) (fun v hv => ?_) fun h' d out h1 h2 kp hd hn => ?_
  · obtain ⟨t, rfl⟩ := e2 v hv
    have hm : V.ref t ∈ xs := by rw [e1]; exact List.mem_map.mpr ⟨_, hv, rfl⟩
    obtain ⟨t', e, ht⟩ := hfx _ hm
    cases e
    obtain ⟨its2, r2, ⟨o, ho, hc, n, hd⟩, _⟩ := I.tuple ht
    exact ⟨⟨t, o, its2, n, rfl, ho, hc, hd, r2⟩, hsh _ (by rw [← hf]; exact List.mem_map.mpr ⟨_, hm, rfl⟩)⟩
  · have h3 : ∀ u ∈ out, ∃ a, u = Value.ref a := fun u hu => e2 u (h2.perm.mem_iff.mp hu)
    obtain ⟨n, hn⟩ := hn
    have hb : (out.map backV).Perm xs := by
      rw [e1]
      exact h2.perm.map backV
    refine ⟨.ref d, upd H d (.lst (out.map backV)), I.laid (t' := s.toks) kp hd ⟨?_, out, n, vals_back h3, hn⟩, rfl, q f _ d hf hb ?_ (I.hok.fresh hd)⟩
    · rw [hb.length_eq]
      have := rv.length
      omega
    · rw [List.map_map, List.pairwise_map]
      refine List.Pairwise.imp ?_ h1
      intro x y hxy
      unfold leK
      have hxy : lexK (f (backV y)) (f (backV x)) = false := hxy
      show (!lexK (f (backV y)) (f (backV x))) = true
      rw [hxy]; rfl
end
/-! ### data -/
def keyD : D → Option Key
  | .int i => some (.inl i)
  | .str x => some (.inr x)
  | _ => none
def keysD : List D → Option (List Key)
  | [] => some []
  | d :: ds => match keyD d, keysD ds with
    | some k, some ks => some (k :: ks)
    | _, _ => none
def tupKD : D → Option (List Key)
  | .tuple ds => keysD ds
  | _ => none
def tupsKD : List D → Option (List (List Key))
  | [] => some []
  | d :: ds => match tupKD d, tupsKD ds with
    | some k, some ks => some (k :: ks)
    | _, _ => none
def oneShape : List (List Key) → Bool
  | [] => true
  | k :: ks => !k.isEmpty && ks.all fun m => m.map kB == k.map kB
def tupD (k : List Key) : D := .tuple (k.map kD)
section
variable {K : Fr} {mg : Mg} {F H : Hp}
theorem keysD_ok : ∀ {ds : List D} {ks : List Key} {xs : List V}, keysD ds = some ks → RpA K mg F xs ds → xs = ks.map kV ∧ ds = ks.map kD
  | [], ks, xs, h, r => by cases h; cases r; exact ⟨rfl, rfl⟩
  | d :: ds, ks, xs, h, r => by
    rw [keysD] at h
    cases h1 : keyD d with
    | none => rw [h1] at h; cases h
    | some k =>
      cases h2 : keysD ds with
      | none => rw [h1, h2] at h; cases h
      | some ks' =>
        rw [h1, h2] at h; cases h
        cases r with
        | cons r1 r2 =>
          obtain ⟨e1, e2⟩ := keysD_ok h2 r2
          cases d <;> first | (cases h1; done) | (cases h1; cases r1; subst e1 e2; exact ⟨rfl, rfl⟩)
theorem tupsKD_ok : ∀ {ds : List D} {ks : List (List Key)} {xs : List V}, tupsKD ds = some ks → RpA K mg F xs ds → ds = ks.map tupD ∧ Paired (fun x k => (∃ t, x = V.ref t ∧ SqF K F t (k.map kV)) ∧ Rp K mg F x (tupD k)) xs ks
  | [], ks, xs, h, r => by cases h; cases r; exact ⟨rfl, .nil⟩
  | d :: ds, ks, xs, h, r => by
    rw [tupsKD] at h
    cases h1 : tupKD d with
    | none => rw [h1] at h; cases h
    | some k =>
      cases h2 : tupsKD ds with
      | none => rw [h1, h2] at h; cases h
      | some ks' =>
        rw [h1, h2] at h; cases h
        cases r with
        | cons r1 r2 =>
          obtain ⟨e1, e2⟩ := tupsKD_ok h2 r2
          cases d with
          | tuple es =>
            have h1 : keysD es = some k := h1
            have r0 := r1
            cases r1 with
            | tup hs ra =>
              obtain ⟨a1, a2⟩ := keysD_ok h1 ra
              subst a1 a2
              exact ⟨by rw [e1]; rfl, .cons ⟨⟨_, rfl, hs⟩, r0⟩ e2⟩
          | _ => cases h1
def oSortK : List D → Option D
  | [.list ds] => match tupsKD ds with
    | some ks => if oneShape ks = true then some (.list ((sortK ks).map tupD)) else none
    | none => none
  | _ => none
theorem rpA_map {f : V → List Key} : ∀ {ys : List V}, (∀ y ∈ ys, Rp K mg F y (tupD (f y))) → RpA K mg F ys ((ys.map f).map tupD)
  | [], _ => .nil
  | y :: ys, h => .cons (h y List.mem_cons_self) (rpA_map fun z hz => h z (List.mem_cons_of_mem _ hz))
theorem paired_map {P : V → List Key → Prop} {f : V → List Key} : ∀ {xs : List V} {ks : List (List Key)}, Paired P xs ks → xs.map f = ks → ∀ x ∈ xs, P x (f x)
  | _, _, .nil, _, x, hx => by cases hx
  | _, _, .cons r t, e, x, hx => by
    simp only [List.map_cons, List.cons.injEq] at e
    rcases List.mem_cons.mp hx with rfl | hx
    · rw [e.1]; exact r
    · exact paired_map t e.2 x hx
theorem ado_sortK : AdO K mg (rSortedK K) oSortK := fun F H vs ds d Q e b hd k => by
  unfold oSortK at hd
  split at hd
  · rename_i es
    cases h1 : tupsKD es with
    | none => rw [h1] at hd; cases hd
    | some ks =>
      rw [h1] at hd
      simp only at hd
      split at hd
      · rename_i hsh
        cases hd
        obtain ⟨x, rfl, bx⟩ := bva1 b
        obtain ⟨a, xs, rfl, hs, ra⟩ := bx.list e
        obtain ⟨e1, e2⟩ := tupsKD_ok h1 ra
        have fin : ∀ (f : V → List Key) ys p, xs.map f = ks → ys.Perm xs → (ys.map f).Pairwise (fun a b => leK a b = true) → H p = none → Q (.ref p) (upd H p (.lst ys)) := fun f ys p hf hp hw hn => by
          have q : RpA K mg F ys ((sortK ks).map tupD) := by
            rw [← sortK_eq (ys := ys.map f) (by rw [← hf]; exact hp.map f) hw]
            exact rpA_map fun y hy => (paired_map e2 hf y (hp.mem_iff.mp hy)).2
          exact k p ys F H (Ext.refl e) hn ⟨ys, _, rfl, rfl, upd_same, q⟩
        have pk : Paired (KtP K H) xs ks := Paired.imp e2 fun x _ k r => by
          obtain ⟨⟨t, e3, hq⟩, _⟩ := r
          exact ⟨t, e3, sqT_same e hq.t⟩
        cases ks with
        | nil => exact ⟨a, xs, [], true, [], rfl, hs.sql, pk, (fun k hk => by cases hk), fin⟩
        | cons k0 ks =>
          unfold oneShape at hsh
          simp only [Bool.and_eq_true, List.all_eq_true, Bool.not_eq_true'] at hsh
          cases k0 with
          | nil => simp at hsh
          | cons y k0 =>
            refine ⟨a, xs, _, kB y, k0.map kB, rfl, hs.sql, pk, fun m hm => ?_, fin⟩
            rcases List.mem_cons.mp hm with rfl | hm
            · rfl
            · exact eq_of_beq (hsh.2 m hm)
      · cases hd
  · cases hd
/-! ### a tuple of texts, sorted -/
section
variable {prog : Program} {w : World} {A : Around} {E : Value → Shared → Prop} {s : Shared}
theorem collect_tup {l : Addr} {o : Obj} {vs : List Value} {n : Nat} {Q : List Value → Shared → Prop} (ho : s.heap.get? l = some o) (hc : o.cls = .type "tuple") (hd : o.data = .seq vs.toArray n)
    (h : Q vs { s with heap := (s.heap.push (seqObj "list" #[] 0)).update s.heap.objs.size (Obj.mapSeq (· ++ vs.toArray)) }) (hsz : vs.length ≤ sizeLine) :
    wpAny (model prog w) A (collect (.ref l)) Q E s := by
  unfold collect
  refine wpAny_bind (wpAny_runValue (codeAny_builtin entry_proto_collect' ?_))
  show wpAny _ _ (do again (.builtin "list.__iadd__" ⟨[← newList [], .ref l], []⟩)) _ _ s
  refine wpAny_bind (wpAny_newList (wpAny_pure ⟨Code.quiet_builtin _ (by decide +kernel), codeAny_builtin entry_list_iadd' ?_⟩))
  show wpAny _ _ (Builtin.List.listExtendWith (.ref s.heap.objs.size) (.ref l) (.ref s.heap.objs.size)) _ _ { s with heap := s.heap.push (seqObj "list" #[] 0) }
  unfold Builtin.List.listExtendWith
  have ho' : (s.heap.push (seqObj "list" #[] 0)).get? l = some o := Heap.get?_push_of_some _ ho
  refine wpAny_bind (wpAny_typeOf (T := "tuple") ⟨o, ho', hc⟩ ?_)
  have ht : (Value.type "tuple" == Value.type "tuple") = true := by rfl
  rw [if_pos (by rw [ht]; simp)]
  refine wpAny_bind (listItems_at ho' hd ?_)
  refine wpAny_bind (listItems_at (xs := #[]) (n := 0) (Heap.get?_push_size _ rfl) rfl ?_)
  rw [if_neg (by simp)]
  refine wpAny_bind (listUpdate_at (xs := #[]) (n := 0) (Heap.get?_push_size _ rfl) rfl ?_ (Nat.zero_le _) (by show (#[] ++ vs.toArray).size ≤ sizeLine + 1; simp only [Array.size_append, List.size_toArray, List.length_nil]; omega))
  refine wpAny_pure ?_
  show wpAny (model prog w) A (do
      let o ← load s.heap.objs.size
      match o.data with
      | .seq xs _ => pure xs.toList
      | _ => unsupported "internal:collect") Q E { s with heap := (s.heap.push (seqObj "list" #[] 0)).update s.heap.objs.size (Obj.mapSeq (· ++ vs.toArray)) }
  refine wpAny_bind (wpAny_load (get?_update_seq (Heap.get?_push_size _ rfl) _) ?_)
  show wpAny _ _ (pure ((#[] : Array Value) ++ vs.toArray).toList) Q E _
  rw [show ((#[] : Array Value) ++ vs.toArray).toList = vs by simp]
  exact wpAny_pure h
theorem sorted_strsT {l : Addr} {o : Obj} {vs : List Value} {ss : List Str} {n : Nat} {Q : Value → Shared → Prop} (ho : s.heap.get? l = some o) (hc : o.cls = .type "tuple") (hd : o.data = .seq vs.toArray n) (hS : StrsAre vs ss) (hL : vs.length ≤ sizeLine)
    (h : ∀ (out : Array Value) (ss' : List Str), StrsAre out.toList ss' → ss'.Perm ss → sortedS ss' = true → Q (.ref (s.heap.objs.size + 1)) { s with heap := sortedAll s.heap vs out }) :
    wpAny (model prog w) A (call (.builtin "sorted") [.ref l]) Q E s := by
  refine Calls.call_function_entry kind_sorted plain_sorted entry_sorted (args_sorted1 _) ?_
  unfold Builtin.«sorted»
  refine wpAny_bind (m := checkCount "sorted" 1 1 _) (wpAny_pure ?_)
  refine wpAny_bind (collect_tup ho hc hd ?_ hL)
  refine wpAny_bind (wpAny_newList ?_ hL)
  have hsz : ((s.heap.push (seqObj "list" #[] 0)).update s.heap.objs.size (Obj.mapSeq (· ++ vs.toArray))).objs.size = s.heap.objs.size + 1 := by
    rw [Heap.size_update, size_push']
  have hoL : (((s.heap.push (seqObj "list" #[] 0)).update s.heap.objs.size (Obj.mapSeq (· ++ vs.toArray))).push (seqObj "list" vs.toArray 0)).get? (s.heap.objs.size + 1) = some (seqObj "list" vs.toArray 0) := by
    rw [← hsz]; exact Heap.get?_push_size _ rfl
  show wpAny _ _ _ _ _ { s with heap := ((s.heap.push (seqObj "list" #[] 0)).update s.heap.objs.size (Obj.mapSeq (· ++ vs.toArray))).push (seqObj "list" vs.toArray 0) }
  rw [hsz]
  refine wpAny_bind (wpAny_holding (wpAny_call_entry slot_list_sort ⟨_, hoL, rfl⟩ entry_list_sort (list_sort_treeKAny strKind_oneLt hoL hS.keysOf (fun v₁ v₂ rest e => keyKind_strs (by rw [← e]; exact hS)) hL fun st' hp hs => ⟨_, rfl, ?_⟩) (args_list_sort _)))
  obtain ⟨ss', h1, h2, h3⟩ := sorted_out_str hS hp hs
  exact wpAny_pure ⟨_, rfl, h _ ss' h1 h2 h3⟩
end
def rSortedST (K : PySem.W.Frag) : List V → Hp → VK → Prop := fun vs H Q => ∃ (a : Addr) (xs : List Str), vs = [V.ref a] ∧ SqT K H a (xs.map V.str) ∧
  ∀ (ys : List Str) (p : Addr), ys.Perm xs → sortedS ys = true → H p = none → Q (.ref p) (upd H p (.lst (ys.map V.str)))
theorem cr_sortedST {X : Cx} : CallR X (.builtin "sorted") (rSortedST X.K) := by
  intro pins s σ H vs us Q I r h
  obtain ⟨a, xs, rfl, hs, q⟩ := h
  obtain ⟨its, rv, ⟨o, ho, hc, n, hd⟩, hz⟩ := I.tuple hs
  rw [Vals.ref1 r]
  have hlen0 := rv.length
  rw [List.length_map] at hlen0
  have hz' : its.length ≤ sizeLine := by rw [← rv.length]; exact hz
  refine sorted_strsT ho hc hd rv.strs hz' fun out ys h1 h2 h3 => ?_
  obtain ⟨ep, he'⟩ := PyProof.Rows.sortedAll_at s.heap its out
  have hlen : (ys.map V.str).length ≤ sizeLine := by rw [List.length_map, h2.length_eq, hlen0]; exact hz'
  exact ⟨.ref _, upd H (s.heap.objs.size + 1) (.lst (ys.map V.str)), I.laid (t' := s.toks) (fun _ _ => PyProof.Rows.sortedAll_old) (Nat.le_succ _) ⟨hlen, out.toList, ep, vals_of_strs h1, he'⟩, rfl, q ys _ h2 h3 (I.hok.fresh (Nat.le_succ _))⟩
def oSortT : List D → Option D
  | [.tuple ds] => (allStr ds).map fun bs => .list ((sortStr bs).map .str)
  | _ => none
theorem ado_sortT : AdO K mg (rSortedST K) oSortT := fun F H vs ds d Q e b hd k => by
  unfold oSortT at hd
  split at hd
  · rename_i ds'
    cases q : allStr ds' with
    | none => rw [q] at hd; cases hd
    | some bs =>
      rw [q] at hd; cases hd
      obtain ⟨x, rfl, bx⟩ := bva1 b
      obtain ⟨a, xs, rfl, hs, _, ra⟩ := bx.tup e
      have ex := allStr_ok q ra
      subst ex
      refine ⟨a, bs, rfl, hs, fun ys p hp hw hn => ?_⟩
      have k' := k p (ys.map V.str) F H (Ext.refl e) hn
      refine k' ⟨ys.map V.str, ys.map PyData.str, rfl, ?_, upd_same, rpA_strs ys⟩
      show PyData.list (List.map PyData.str (sortStr bs)) = _
      rw [← sort_eq hp hw]
  · cases hd
/-! ### either kind -/
def rSortedA (K : PySem.W.Frag) : List V → Hp → VK → Prop := fun vs H Q => rSortedS K vs H Q ∨ rSortedK K vs H Q ∨ rSortedST K vs H Q
theorem cr_sortedA {X : Cx} : CallR X (.builtin "sorted") (rSortedA X.K) := by
  intro pins s σ H vs us Q I r h
  rcases h with h | h | h
  · exact cr_sortedS pins s σ H vs us Q I r h
  · exact cr_sortedK pins s σ H vs us Q I r h
  · exact cr_sortedST pins s σ H vs us Q I r h
def oSortA (ds : List D) : Option D := match oSort ds with
  | some d => some d
  | none => match oSortK ds with
    | some d => some d
    | none => oSortT ds
theorem ado_sortA : AdO K mg (rSortedA K) oSortA := fun F H vs ds d Q e b hd k => by
  unfold oSortA at hd
  cases h1 : oSort ds with
  | some d1 => rw [h1] at hd; cases hd; exact .inl (ado_sort F H vs ds _ Q e b h1 k)
  | none =>
    rw [h1] at hd
    simp only at hd
    cases h2 : oSortK ds with
    | some d1 => rw [h2] at hd; cases hd; exact .inr (.inl (ado_sortK F H vs ds _ Q e b h2 k))
    | none => rw [h2] at hd; exact .inr (.inr (ado_sortT F H vs ds _ Q e b hd k))
end
end Mr

/-! sum of a tuple of ints, too -/
namespace Mr
open PySem PySem.Spec PyProof.Rows L2
def rSumT (K : PySem.W.Frag) : List V → Hp → VK → Prop := fun vs H Q => ∃ (a : Addr) (ns : List Int), vs = [V.ref a] ∧ SqT K H a (ns.map V.int) ∧ Q (.int ns.sum) H
theorem cr_sumT {X : Cx} (hc : X.calm = true) : CallR X (.builtin "sum") (rSumT X.K) := by
  intro pins s σ H vs us Q I r h
  obtain ⟨a, ns, rfl, hs, q⟩ := h
  obtain ⟨its, rv, p, _⟩ := I.tuple hs
  have p : s.heap.IsTuple a its.toArray := p
  rw [Vals.ref1 r]
  obtain ⟨xs, e⟩ := rv.ints.allInts.items
  have hn : numsOf (intItems xs).toList = ns := by rw [← e]; exact rv.ints.numsOf
  rw [nums_intItems] at hn
  rw [e] at p
  refine PySem.W.ktm_sumG (I.ok.hd hc) p fun h' tk t' hk => ?_
  rw [preSum_eq, List.take_of_length_le (by simp), hn]
  exact ⟨.int _, H, I.kept hk, ⟨_, rfl⟩, q⟩
def rSumA (K : PySem.W.Frag) : List V → Hp → VK → Prop := fun vs H Q => rSum K vs H Q ∨ rSumT K vs H Q
theorem cr_sumA {X : Cx} (hc : X.calm = true) : CallR X (.builtin "sum") (rSumA X.K) := by
  intro pins s σ H vs us Q I r h
  rcases h with h | h
  · exact cr_sum hc pins s σ H vs us Q I r h
  · exact cr_sumT hc pins s σ H vs us Q I r h
def oSumA : List D → Option D
  | [.list ds] => (allInt ds).map fun bs => .int bs.sum
  | [.tuple ds] => (allInt ds).map fun bs => .int bs.sum
  | _ => none
section
variable {K : Fr} {mg : Mg} {F H : Hp}
theorem ad_sumA : Ad K mg (rSumA K) oSumA := fun F H vs ds d Q e b hd k => by
  unfold oSumA at hd
  split at hd
  · exact .inl (ad_sum F H vs _ d Q e b hd k)
  · rename_i ds
    cases q : allInt ds with
    | none => rw [q] at hd; cases hd
    | some bs =>
      rw [q] at hd; cases hd
      obtain ⟨x, rfl, bx⟩ := bva1 b
      obtain ⟨a, xs, rfl, hs, _, ra⟩ := bx.tup e
      exact .inr ⟨a, bs, rfl, by rw [← allInt_ok q ra]; exact hs, k _ _ _ (Ext.refl e) (.int _)⟩
  · cases hd
theorem allInt_map : ∀ ns : List Int, allInt (ns.map .int) = some ns
  | [] => rfl
  | n :: ns => by rw [List.map_cons, allInt, allInt_map ns]; rfl
theorem vo_sumL {K : D → Prop} {ns : List Int} : wV (oSumA [.list (ns.map .int)]) K = K (.int ns.sum) := by
  unfold oSumA
  simp only [allInt_map]; rfl
theorem vo_sumT {K : D → Prop} {ns : List Int} : wV (oSumA [.tuple (ns.map .int)]) K = K (.int ns.sum) := by
  unfold oSumA
  simp only [allInt_map]; rfl
end
end Mr

/-! what the newer mirrors come to -/
namespace Mr
open PySem PySem.Spec PyProof.Rows L2
section
variable {ρ : En} {Q : D → En → Prop} {X : D → En → Prop} {QI : List D → En → Prop} {A B : Opd} {os : List Opd} {f : List D → D → Option Int} {i j : Nat} {K : D → Prop}
def wKd : D → (Bool → List D → Prop) → Prop
  | .list ds, K => K true ds
  | .tuple ds, K => K false ds
  | _, _ => False
theorem wKd_l {ds : List D} {K : Bool → List D → Prop} : wKd (.list ds) K = K true ds := rfl
theorem wKd_t {ds : List D} {K : Bool → List D → Prop} : wKd (.tuple ds) K = K false ds := rfl
theorem kd_w {d : D} {K : Bool → List D → Prop} : wV (kindD d) (fun p => K p.1 p.2) = wKd d K := by cases d <;> rfl
def wZp : List D → (List D → List D → Prop) → Prop
  | [d, e], K => wKd d fun _ xs => wKd e fun _ ys => K xs ys
  | _, _ => False
theorem wZp_2 {d e : D} {K : List D → List D → Prop} : wZp [d, e] K = wKd d fun _ xs => wKd e fun _ ys => K xs ys := rfl
theorem wI_zip : wI (mZip os ρ) QI X = wA (evs os ρ) (fun ps ρ1 => wV (resA ρ1 ps) fun ds => wZp ds fun xs ys => QI (zipD xs ys) ρ1) X := by
  unfold mZip
  cases h : evs os ρ with
  | ok ps ρ1 =>
    simp only [wA]
    unfold zipK
    cases h1 : resA ρ1 ps with
    | none => rfl
    | some ds =>
      simp only [wV]
      match ds with
      | [] => rfl
      | [_] => rfl
      | [d, e] =>
        simp only [wZp]
        rw [← kd_w]
        cases hd : kindD d with
        | none => rfl
        | some p =>
          simp only [wV]
          rw [← kd_w]
          cases he : kindD e with
          | none => rfl
          | some q => rfl
      | _ :: _ :: _ :: _ => rfl
  | _ => rfl
theorem wE_ask : wE (mAsk f A B ρ) Q X = wO (evO A ρ) (fun p ρ1 => wV (res ρ1 p) fun d1 => wKd d1 fun b _ => wO (evO B ρ1) (fun q ρ2 => wV (res ρ2 p) fun d => wKd d fun b' ds => wV (res ρ2 q) fun e => b' = b ∧ wV (askD f ds e) fun r => Q r ρ2) X) X := by
  unfold mAsk
  cases h1 : evO A ρ with
  | ok p ρ1 =>
    simp only [wO]
    cases h2 : res ρ1 p with
    | none => rfl
    | some d1 =>
      simp only [wV, Option.bind_some]
      rw [← kd_w]
      cases h3 : kindD d1 with
      | none => rfl
      | some b =>
        simp only [wV]
        cases h4 : evO B ρ1 with
        | ok q ρ2 =>
          simp only [wO]
          cases h5 : res ρ2 p with
          | none => simp [wV, wE]
          | some d =>
            simp only [wV, Option.bind_some]
            rw [← kd_w]
            cases h6 : kindD d with
            | none => cases res ρ2 q <;> rfl
            | some bd =>
              simp only [wV]
              cases h7 : res ρ2 q with
              | none => rfl
              | some e =>
                simp only []
                by_cases hb : bd.1 = b.1
                · rw [if_pos hb]
                  cases h8 : askD f bd.2 e with
                  | none => simp [wE]
                  | some r => simp [wE, hb]
                · rw [if_neg hb]; simp [wE, hb]
        | _ => rfl
  | _ => rfl
theorem wE_appIx : wE (mAppIx i B j ρ) Q X = wV (ρ[i]?.join) fun d => wLs d fun _ => wO (evO B ρ) (fun p ρ1 => wV (ρ1[i]?.join) fun d1 => wLs d1 fun es => wV (res ρ1 p) fun z => wZ z fun z => wV (ρ1[j]?.join) fun d2 => wV (ixN es.length z) fun k => wV (es[k]?) fun dk => wLs dk fun ds =>
    ds.length < sizeLine ∧ Q .none (ρ1.set i (some (.list (es.set k (.list (ds ++ [d2])))))) ) X := by
  unfold mAppIx
  cases h0 : ρ[i]?.join with
  | none => rfl
  | some d =>
    simp only [wV]
    cases d with
    | list ds0 =>
      simp only [wLs]
      cases h1 : evO B ρ with
      | ok p ρ1 =>
        simp only [wO]
        unfold appIx
        cases h2 : ρ1[i]?.join with
        | none => rfl
        | some d1 =>
          simp only []
          cases d1 with
          | list es =>
            simp only [wLs]
            cases h3 : res ρ1 p with
            | none => rfl
            | some z =>
              simp only []
              cases z with
              | int z =>
                simp only [wZ]
                cases h4 : ρ1[j]?.join with
                | none => rfl
                | some d2 =>
                  simp only []
                  cases h5 : ixN es.length z with
                  | none => rfl
                  | some k =>
                    simp only []
                    cases h6 : es[k]? with
                    | none => rfl
                    | some dk =>
                      cases dk with
                      | list ds =>
                        simp only [wLs]
                        by_cases hl : ds.length < sizeLine
                        · rw [if_pos hl]; exact propext ⟨fun q => ⟨hl, q⟩, fun q => q.2⟩
                        · rw [if_neg hl]; exact propext ⟨False.elim, fun q => hl q.1⟩
                      | _ => rfl
              | _ => rfl
          | _ => rfl
      | _ => rfl
    | _ => rfl
theorem wE_nil : wE (mNil ρ) Q X = Q (.list []) ρ := rfl
/-! ### index, count, of texts -/
theorem ask_strs {x : Str} {xs : List Str} (hx : Ok x) (h : ∀ x ∈ xs, Ok x) : askD f (xs.map .str) (.str x) = (f (xs.map .str) (.str x)).map .int := by
  unfold askD
  have c1 : cmpB (.str x) = true := cmp_str.mpr (ok_iff.mpr hx)
  simp only [c1, plain_strs, shaped_strs h, Bool.and_self, if_true]
theorem count_strs {x : Str} : ∀ xs : List Str, (xs.map PyData.str).countP (fun z => PyData.eqv z (.str x)) = xs.countP (fun y => decide (y = x))
  | [] => rfl
  | y :: xs => by rw [List.map_cons, List.countP_cons, List.countP_cons, count_strs xs, eqv_str]
theorem vo_countStrs {x : Str} {xs : List Str} (hx : Ok x) (h : ∀ x ∈ xs, Ok x) : wV (askD fCount (xs.map .str) (.str x)) K = K (.int (xs.countP fun y => decide (y = x) : Nat)) := by
  rw [ask_strs hx h]
  unfold fCount
  rw [count_strs]; rfl
theorem index_strs {x : Str} : ∀ xs : List Str, (xs.map PyData.str).findIdx? (fun z => PyData.eqv z (.str x)) = xs.findIdx? (fun y => decide (y = x)) := fun xs => by
  rw [List.findIdx?_map]
  congr 1
theorem vo_indexStrs {x : Str} {xs : List Str} {j : Nat} (hx : Ok x) (h : ∀ x ∈ xs, Ok x) (hj : xs[j]? = some x) (hn : ∀ m, m < j → xs[m]? ≠ some x) (k : K (.int j)) : wV (askD fIndex (xs.map .str) (.str x)) K := by
  rw [ask_strs hx h]
  unfold fIndex
  rw [index_strs]
  have e : xs.findIdx? (fun y => decide (y = x)) = some j := by
    obtain ⟨h1, h2⟩ := List.getElem?_eq_some_iff.mp hj
    rw [List.findIdx?_eq_some_iff_getElem]
    refine ⟨h1, by rw [h2]; simp, fun m hm => ?_⟩
    have := hn m hm
    rw [List.getElem?_eq_getElem (by omega)] at this
    simp at this ⊢
    exact this
  rw [e]
  exact k
/-! ### sorted -/
theorem allStr_map : ∀ xs : List Str, allStr (xs.map .str) = some xs
  | [] => rfl
  | x :: xs => by rw [List.map_cons, allStr, allStr_map xs]; rfl
theorem vo_sortS {xs : List Str} (h : xs.length < 64) : wV (oSortA [.list (xs.map .str)]) K = K (.list ((sortStr xs).map .str)) := by
  have e : oSort [.list (xs.map .str)] = some (.list ((sortStr xs).map .str)) := by
    show (if (xs.map PyData.str).length < 64 then (allStr (xs.map .str)).map fun bs => PyData.list ((sortStr bs).map PyData.str) else none) = _
    rw [List.length_map, if_pos h, allStr_map]; rfl
  unfold oSortA
  rw [e]; rfl
theorem keysD_map : ∀ ks : List Key, keysD (ks.map kD) = some ks
  | [] => rfl
  | k :: ks => by
    rw [List.map_cons, keysD, keysD_map ks]
    cases k <;> rfl
theorem tupsKD_map : ∀ ks : List (List Key), tupsKD (ks.map tupD) = some ks
  | [] => rfl
  | k :: ks => by
    rw [List.map_cons, tupsKD, tupsKD_map ks]
    have e : tupKD (tupD k) = some k := keysD_map k
    rw [e]
theorem vo_sortK {ks : List (List Key)} (h : oneShape ks = true) : wV (oSortA [.list (ks.map tupD)]) K = K (.list ((sortK ks).map tupD)) := by
  unfold oSortA
  cases ks with
  | nil =>
    have e : sortK [] = [] := by unfold sortK; simp
    have e2 : sortStr [] = [] := by unfold sortStr; simp
    show wV (some (PyData.list ((sortStr []).map .str))) K = _
    rw [e, e2]; rfl
  | cons k ks =>
    have e : oSort [.list ((k :: ks).map tupD)] = none := by
      unfold oSort
      simp only
      split
      · rfl
      · rfl
    rw [e]
    simp only []
    unfold oSortK
    simp only [tupsKD_map, h, if_true]
    rfl
theorem sortStr_perm (xs : List Str) : (sortStr xs).Perm xs := List.mergeSort_perm xs leS
theorem sortStr_pw (xs : List Str) : (sortStr xs).Pairwise (fun a b => leS a b = true) := List.pairwise_mergeSort (le := leS) (fun _ _ _ => leS_trans) leS_total xs
theorem sortK_perm (xs : List (List Key)) : (sortK xs).Perm xs := List.mergeSort_perm xs leK
theorem sortK_pw (xs : List (List Key)) : (sortK xs).Pairwise (fun a b => leK a b = true) := List.pairwise_mergeSort (le := leK) (fun _ _ _ => leK_trans) leK_total xs
/-! ### comprehensions over what a list maps to -/
theorem wE_mono2 {r : ER} {Q Q' X X' : D → En → Prop} (h : wE r Q X) (h1 : ∀ d ρ, Q d ρ → Q' d ρ) (h2 : ∀ d ρ, X d ρ → X' d ρ) : wE r Q' X' := by
  cases r with
  | ok d ρ => exact h1 _ _ h
  | exn x ρ => exact h2 _ _ h
  | bad => exact h
theorem wV_mono {α : Type} {o : Option α} {K K' : α → Prop} (h : wV o K) (h1 : ∀ x, K x → K' x) : wV o K' := by
  cases o with
  | none => exact h
  | some x => exact h1 x h
theorem lc_filtG {α : Type} {t : Tg} {cnd el : ME} {K : List D → En → Prop} (f g : α → D) (p : α → Bool) (R : En → Prop) (l0 : List α) (hz : l0.length ≤ sizeLine)
    (h : ∀ a ∈ l0, ∀ ρ, R ρ → wV (asg t (f a) ρ) fun ρ1 => wE (cnd ρ1) (fun c ρ2 => c = .bool (p a) ∧ (p a = true → wE (el ρ2) (fun e ρ3 => e = g a ∧ R ρ3) fun _ _ => False) ∧ (p a = false → R ρ2)) fun _ _ => False)
    (k : ∀ ρ, R ρ → K ((l0.filter p).map g) ρ) {ρ : En} (r : R ρ) : wLc t cnd el (l0.map f) [] ρ K ⟨⟩ ⟨⟩ ⟨⟩ := by
  refine lc_inv (fun rs acc ρ => ∃ dn l, l0 = dn ++ l ∧ rs = l.map f ∧ acc = (dn.filter p).map g ∧ R ρ) ?_ ?_ _ _ _ ⟨[], l0, rfl, rfl, rfl, r⟩
  · rintro d ds acc ρ ⟨dn, l, e1, e2, rfl, r⟩
    cases l with
    | nil => cases e2
    | cons a l =>
      simp only [List.map_cons, List.cons.injEq] at e2
      obtain ⟨rfl, rfl⟩ := e2
      refine wV_mono (h a (by rw [e1]; simp) ρ r) fun ρ1 q => wE_mono2 q (fun c ρ2 q => ?_) fun _ _ z => z
      obtain ⟨rfl, q1, q2⟩ := q
      show ((p a = true → _) ∧ (p a = false → _))
      refine ⟨fun z => wE_mono2 (q1 z) (fun e ρ3 q => ?_) fun _ _ z => z, fun z => ⟨dn ++ [a], l, by rw [e1]; simp, rfl, by rw [List.filter_append, List.filter_cons_of_neg (by simp [z])]; simp, q2 z⟩⟩
      obtain ⟨rfl, r3⟩ := q
      refine ⟨?_, dn ++ [a], l, by rw [e1]; simp, rfl, by rw [List.filter_append, List.filter_cons_of_pos z]; simp, r3⟩
      rw [List.length_map]
      have h1 := List.length_filter_le p dn
      have h2 := congrArg List.length e1
      simp at h2
      omega
  · rintro acc ρ ⟨dn, l, e1, e2, rfl, r⟩
    cases l with
    | cons _ _ => cases e2
    | nil =>
      rw [List.append_nil] at e1
      subst e1
      exact k ρ r
theorem lc_mapG {α : Type} {t : Tg} {el : ME} {K : List D → En → Prop} (f g : α → D) (R : En → Prop) (l0 : List α) (hz : l0.length ≤ sizeLine)
    (h : ∀ a ∈ l0, ∀ ρ, R ρ → wV (asg t (f a) ρ) fun ρ1 => wE (el ρ1) (fun e ρ3 => e = g a ∧ R ρ3) fun _ _ => False)
    (k : ∀ ρ, R ρ → K (l0.map g) ρ) {ρ : En} (r : R ρ) : wLc t (mC (.bool true)) el (l0.map f) [] ρ K ⟨⟩ ⟨⟩ ⟨⟩ :=
  lc_filtG f g (fun _ => true) R l0 hz (fun a ha ρ r => wV_mono (h a ha ρ r) fun ρ1 q => by rw [wE_C]; exact ⟨rfl, fun _ => q, fun z => by cases z⟩) (fun ρ r => by
    rw [List.filter_eq_self.mpr fun _ _ => rfl]; exact k ρ r) r
theorem zipD_map {α β : Type} (f : α → D) (g : β → D) : ∀ (xs : List α) (ys : List β), zipD (xs.map f) (ys.map g) = (xs.zip ys).map fun p => .tuple [f p.1, g p.2]
  | [], _ => rfl
  | _ :: _, [] => rfl
  | x :: xs, y :: ys => by
    have := zipD_map f g xs ys
    unfold zipD at this ⊢
    simp only [List.map_cons, List.zipWith_cons_cons, List.zip_cons_cons, this]
/-- the ints of a range, as what a list maps to -/
theorem intsF_map (n : Nat) : intsF 0 n = (List.range n).map fun k => .int k := by
  unfold intsF
  refine List.map_congr_left fun k _ => ?_
  simp
end
end Mr

/-! comprehensions with two for's: [e for t in it if c for t1 in it1 if c1] -/
namespace Mr
open PySem PySem.Spec PyProof.Rows L2
def loopC2 (t : Tg) (cnd : ME) (mi1 : MI) (t1 : Tg) (cnd1 el : ME) : List D → List D → En → Option (List D × En)
  | [], acc, ρ => some (acc, ρ)
  | d :: ds, acc, ρ => match asg t d ρ with
    | none => none
    | some ρ1 => match cnd ρ1 with
      | .ok (.bool b) ρ2 => if b = true then (match mi1 ρ2 with
          | .ok ds1 ρ3 => (match loopC t1 cnd1 el ds1 acc ρ3 with
            | some (acc', ρ4) => loopC2 t cnd mi1 t1 cnd1 el ds acc' ρ4
            | none => none)
          | _ => none) else loopC2 t cnd mi1 t1 cnd1 el ds acc ρ2
      | _ => none
def mLc2 (mi : MI) (t : Tg) (vs : List Nat) (cnd : ME) (mi1 : MI) (t1 : Tg) (cnd1 el : ME) : ME := fun ρ => match mi ρ with
  | .ok ds ρ1 => (match loopC2 t cnd mi1 t1 cnd1 el ds [] ρ1 with
    | some (acc, ρ2) => .ok (.list acc) (restE ρ1 vs ρ2)
    | none => .bad)
  | .exn x ρ1 => .exn x ρ1
  | .bad => .bad
section
variable {X : Cx} {g : Gh} {W : WX} {ms mm msb msb1 : List Md} {elt tg iter tg1 iter1 e : Expr} {ifs ifs1 : List Expr} {scope : Scope} {own : List (Str × Nat)} {vs1 : List Nat} {pos : Pos} {wi wi1 : TI} {gg gg1 : TG} {mi mi1 : MI} {t t1 : Tg} {cnd cnd1 el m : ME} {σ : Sg} {F F' H H' : Hp} {ρ : En} {Q : VK}
/-- the inner walk: taken while the new list is locked, it needs no lock -/
def LU (g : Gh) (D : Addr) (acc : List V) (ms : List Md) (m : MI) : TI := fun σ H R => ∃ F ρ, Rel (g.lock D acc) F ms ρ σ H ∧ match m ρ with
  | .ok ds ρ' => ∀ J F' H', Same F F' → Rel (g.lock D acc) F' ms ρ' σ H' → WalkD g F' J ds → R J H'
  | _ => False
theorem lu_any {K : Fr} {mg : Mg} (g' : Gh) (e1 : g'.K = K) (e2 : g'.mg = mg) (hk : g'.K = X.K) (D : Addr) (acc : List V) : ∀ σ H R, LU g' D acc ms (mIt m) σ H R → iAny X.K (fun σ H Q => ∃ g2 : Gh, g2.K = K ∧ g2.mg = mg ∧ LE g2 W0 ms m σ H Q) σ H R := fun σ H R ⟨F, ρ, r, q⟩ => by
  unfold mIt at q
  cases hm : m ρ with
  | bad => rw [hm] at q; exact q.elim
  | exn x ρ' => rw [hm] at q; exact q.elim
  | ok d ρ' =>
    rw [hm] at q
    cases d with
    | list ds =>
      refine .inl ⟨g'.lock D acc, e1, e2, F, ρ, r, ?_⟩
      rw [hm]
      intro v F' H' s R' rv
      cases rv with
      | lst hs ra =>
        refine ⟨_, rfl, ⟨_, by rw [← hk]; exact (hs.mono R'.sub).sql⟩, q _ F' H' s R' (walkD_list (g := g') hk ra fun F2 ms2 ρ2 σ2 H2 s2 R2 => ?_)⟩
        rw [← hk]
        exact (hs.mono (s2.trans R2.sub)).sql
    | tuple ds =>
      refine .inr (.inl ⟨g'.lock D acc, e1, e2, F, ρ, r, ?_⟩)
      rw [hm]
      intro v F' H' s R' rv
      cases rv with
      | tup hs ra =>
        refine ⟨_, rfl, ⟨_, by rw [← hk]; exact sqT_same R'.sub hs.t⟩, q _ F' H' s R' (walkD_tup (g := g') hk ra fun F2 ms2 ρ2 σ2 H2 s2 R2 => ?_)⟩
        rw [← hk]
        exact sqT_same (s2.trans R2.sub) hs.t
    | str x =>
      refine .inr (.inr ⟨g'.lock D acc, e1, e2, F, ρ, r, ?_⟩)
      rw [hm]
      intro v F' H' s R' rv
      cases rv
      exact ⟨x, rfl, q _ F' H' s R' walkD_str⟩
    | _ => exact q.elim
/-- the inner walk over a slot -/
def stB1 : Md → Bool
  | .bor => true
  | .lk (_ + 1) => true
  | .val => true
  | _ => false
theorem lu_slot {i : Nat} {md : Md} (hm : ms[i]? = some md) (w : stB1 md = true) (g' : Gh) (hk : g'.K = X.K) (D : Addr) (acc : List V) : ∀ σ H R, LU g' D acc ms (mItS i) σ H R → iAny X.K (tVar i) σ H R := fun σ H R ⟨F, ρ, r, q⟩ => by
  unfold mItS mVar at q
  cases h1 : ρ[i]? with
  | none => simp [h1, iK] at q
  | some o => cases o with
    | none => simp [h1, iK] at q
    | some d =>
      simp only [h1, iK] at q
      have nd : md ≠ .dead := fun z => by subst z; cases w
      obtain ⟨v, e, so⟩ := r.slot i md d hm nd h1
      have main : (Rp g'.K g'.mg F v d ∨ ∃ a xs ds, v = .ref a ∧ d = .list ds ∧ RpA g'.K g'.mg F xs ds ∧ H a = some (.lst xs) ∧ ∀ F2 ms2 ρ2 σ2 H2, Same F F2 → Rel g' F2 ms2 ρ2 σ2 H2 → H2 a = some (.lst xs)) := by
        cases md with
        | val => exact .inl so
        | bor =>
          rcases so with so | ⟨a, ⟨xs, ds, e1, e2, e3, ra⟩, hn⟩
          · exact .inl so
          · exact .inr ⟨a, xs, ds, e1, e2, ra, r.frame a _ e3 hn, fun F2 ms2 ρ2 σ2 H2 s2 R2 => R2.frame a _ e3 hn⟩
        | lk k =>
          cases k with
          | zero => cases w
          | succ k =>
            obtain ⟨a, xs, ds, h3, e1, e2, ra⟩ := so
            have h3 : g'.pr[k]? = some (a, xs) := h3
            exact .inr ⟨a, xs, ds, e1, e2, ra, (r.prot _ (List.mem_cons_of_mem _ (List.mem_of_getElem? h3))).1, fun F2 ms2 ρ2 σ2 H2 s2 R2 => (R2.prot _ (List.mem_of_getElem? h3)).1⟩
        | _ => cases w
      rcases main with rv | ⟨a, xs, ds, e1, e2, ra, hH0, hH⟩
      · cases d with
        | list ds =>
          cases rv with
          | lst hs ra =>
            refine .inl ⟨_, e, _, rfl, ⟨_, by rw [← hk]; exact (hs.mono r.sub).sql⟩, q _ F H (Same.refl _) r (walkD_list (g := g') hk ra fun F2 ms2 ρ2 σ2 H2 s2 R2 => ?_)⟩
            rw [← hk]
            exact (hs.mono (s2.trans R2.sub)).sql
        | tuple ds =>
          cases rv with
          | tup hs ra =>
            refine .inr (.inl ⟨_, e, _, rfl, ⟨_, by rw [← hk]; exact sqT_same r.sub hs.t⟩, q _ F H (Same.refl _) r (walkD_tup (g := g') hk ra fun F2 ms2 ρ2 σ2 H2 s2 R2 => ?_)⟩)
            rw [← hk]
            exact sqT_same (s2.trans R2.sub) hs.t
        | str x =>
          cases rv
          exact .inr (.inr ⟨_, e, x, rfl, q _ F H (Same.refl _) r walkD_str⟩)
        | _ => exact q.elim
      · subst e1 e2
        exact .inl ⟨_, e, a, rfl, ⟨xs, .inl (.inl hH0)⟩, q _ F H (Same.refl _) r (walkD_list (g := g') hk ra fun F2 ms2 ρ2 σ2 H2 s2 R2 => .inl (.inl (hH F2 ms2 ρ2 σ2 H2 s2 R2)))⟩
theorem lc2_imp {X' X1 : Cx} (hk : g.K = X'.K) (hk1 : g.K = X1.K) (hg : GT X' tg t (shl (killL ms (own.map (·.2)))) msb gg) (hg1 : GT X1 tg1 t1 (killL msb vs1) msb1 gg1) (hwi : ∀ σ H R, LI g W ms mi σ H R → wi σ H R)
    (hwi1 : ∀ D acc σ H R, LU g D acc msb mi1 σ H R → wi1 σ H R) (hmm : shl mm = killL msb vs1)
    (wb : wkB msb (shl (killL ms (own.map (·.2)))) = true) (wb1 : wkB msb1 (killL msb vs1) = true) (wb2 : wkB (killL msb vs1) (shl (killL ms (own.map (·.2)))) = true) (hsub : vs1.all (fun i => (own.map (·.2)).contains i) = true)
    (hvs : (tgIx t).all (fun i => (own.map (·.2)).contains i) = true) (hvs1 : (tgIx t1).all (fun i => vs1.contains i) = true) (hv : valB ms (own.map (·.2)) = true) :
    ∀ σ H Q, LO g W ms (mLc2 mi t (own.map (·.2)) cnd mi1 t1 cnd1 el) σ H Q → tLc2 wi gg (ttL g msb cnd) wi1 gg1 (ttL g msb1 cnd1) (teL g msb1 el) (own.map (·.2)) vs1 σ H Q := fun σ H Q ⟨F, ρ, R, q⟩ => by
  refine hwi _ _ _ ⟨F, ρ, R, ?_⟩
  unfold mLc2 at q
  cases h1 : mi ρ with
  | bad => simp only [h1] at q; exact q
  | exn x ρ' => simp only [h1] at q; exact q
  | ok ds ρ1 =>
    simp only [h1] at q
    intro J F1 H1 s1 R1 wd D hD
    obtain ⟨G, Y, wk, hG, hY⟩ := wd
    cases h2 : loopC2 t cnd mi1 t1 cnd1 el ds [] ρ1 with
    | none => simp only [h2] at q; exact q.elim
    | some r =>
      obtain ⟨accF, ρF⟩ := r
      simp only [h2] at q
      have Rw := (R1.wiped (own.map (·.2))).ext (Ext.new (o := .lst []) R1.sub hD)
      have fw := (R1.wiped (own.map (·.2))).free (o := .lst []) hD
      let Pv : Nat → Hp → Prop := fun n H2 => ∃ F2 ρ2 acc accd, Same F1 F2 ∧ Rel g F2 (killL ms (own.map (·.2))) ρ2 (wipe σ (own.map (·.2))) H2 ∧ H2 D = some (.lst acc) ∧ RpA g.K g.mg F2 acc accd ∧ Free g F2 H2 (killL ms (own.map (·.2))) ρ2 (wipe σ (own.map (·.2))) D ∧ loopC2 t cnd mi1 t1 cnd1 el (ds.drop n) accd ρ2 = some (accF, ρF)
      -- back to the outer walk
      have back : ∀ {σ3 : Sg} {acc : List V} {F5 H5 : Hp} {ρ5 : En}, (wipe σ (own.map (·.2))).length = σ3.length → (∀ i, i ∉ own.map (·.2) → (wipe σ (own.map (·.2)))[i]? = σ3[i]?) → g.H0 D = none → (∀ p ∈ g.pr, p.1 ≠ D) → Rel (g.lock D acc) F5 (shl (killL ms (own.map (·.2)))) ρ5 σ3 H5 →
          Rel g F5 (killL ms (own.map (·.2))) ρ5 (wipe σ (own.map (·.2))) H5 ∧ Free g F5 H5 (killL ms (own.map (·.2))) ρ5 (wipe σ (own.map (·.2))) D ∧ H5 D = some (.lst acc) := fun {σ3 acc F5 H5 ρ5} l1 l2 h0 hp R6 => by
        obtain ⟨f6, h6⟩ := R6.freeOf h0 hp
        have R7 := R6.unprot.swap l1 l2
        refine ⟨R7, ⟨f6.h0, f6.f, f6.pr, fun j m e u q1 q3 q4 f1 => ?_⟩, h6⟩
        have hj : j ∉ own.map (·.2) := fun z => f1.nd (killL_in z q1)
        rw [l2 j hj] at q4
        exact f6.slots j m e u q1 q3 q4 f1
      have hD0 : g.H0 D = none := fw.h0
      have hDp : ∀ p ∈ g.pr, p.1 ≠ D := fw.pr
      refine ⟨fun i m H => m = ds.length - i ∧ i ≤ ds.length ∧ Pv i H, ⟨ds.length, by simp, Nat.zero_le _, F1, ρ1, [], [], Same.refl _, Rw, upd_same, .nil, fw, h2⟩, ?_⟩
      rintro n m H2 ⟨rfl, hn, p⟩
      have hGn : G H2 := by obtain ⟨F2, ρ2, acc, accd, s2, R2, _⟩ := p; exact hG F2 _ ρ2 _ H2 s2 R2
      by_cases hlt : n < ds.length
      · refine .inr ⟨wk.goes n H2 hlt hGn, Pv (n + 1), fun H' p' => ⟨ds.length - (n + 1), by omega, rfl, hlt, p'⟩, fun x H3 y => ?_⟩
        have y := wk.yields n H2 x H3 hlt hGn y
        obtain ⟨F2, ρ2, acc, accd, s2, R2, hD2, ra, f2, q2⟩ := p
        obtain ⟨d, F3, hd, ex, rp⟩ := hY n F2 H2 x H3 hlt s2 R2.sub y
        have hdr : ds.drop n = d :: ds.drop (n + 1) := by
          obtain ⟨h1, h2⟩ := List.getElem?_eq_some_iff.mp hd
          rw [List.drop_eq_getElem_cons h1, h2]
        rw [hdr] at q2
        unfold loopC2 at q2
        have R3 := (R2.protect f2 hD2).ext ex
        cases ha : asg t d ρ2 with
        | none => simp only [ha] at q2; cases q2
        | some ρ3 =>
          simp only [ha] at q2
          refine hg.run (g.lock D acc) F3 ρ2 ρ3 _ H3 x d _ hk R3 rp ha fun σ3 R4 w3 => ?_
          have w3' : wipe σ3 (own.map (·.2)) = wipe σ (own.map (·.2)) := by
            rw [w3 _ fun i hi => by simpa using List.all_eq_true.mp hvs i hi, wipe_wipe]
          refine ⟨w3', g.lock D acc, rfl, rfl, F3, ρ3, R4, ?_⟩
          have swl : (wipe σ (own.map (·.2))).length = σ3.length := by rw [← w3']; exact wipe_length _ _
          have sw : ∀ i, i ∉ own.map (·.2) → (wipe σ (own.map (·.2)))[i]? = σ3[i]? := by rw [← w3']; exact fun i hi => wipe_out hi
          have hsub' : ∀ i, i ∈ vs1 → i ∈ own.map (·.2) := fun i hi => by simpa using List.all_eq_true.mp hsub i hi
          cases hc : cnd ρ3 with
          | bad => simp only [hc] at q2; cases q2
          | exn x ρ' => simp only [hc] at q2; cases q2
          | ok dc ρ4 =>
            cases dc with
            | bool b =>
              simp only [hc] at q2
              refine ⟨b, rfl, fun F4 H4 s4 R5 => ?_⟩
              cases b with
              | false =>
                rw [if_neg Bool.false_ne_true] at q2 ⊢
                obtain ⟨R6, f6, h6⟩ := back swl sw hD0 hDp (R5.weak wb)
                exact ⟨F4, ρ4, acc, accd, s2.trans (ex.f.trans s4), R6, h6, ra.mono (ex.f.trans s4), f6, q2⟩
              | true =>
                rw [if_pos rfl] at q2 ⊢
                refine hwi1 D acc _ _ _ ⟨F4, ρ4, R5, ?_⟩
                cases hm1 : mi1 ρ4 with
                | bad => simp only [hm1] at q2; cases q2
                | exn x ρ' => simp only [hm1] at q2; cases q2
                | ok ds1 ρ5 =>
                  simp only [hm1] at q2
                  intro J1 F5 H5 s5 R6 wd1
                  obtain ⟨G1, Y1, wk1, hG1, hY1⟩ := wd1
                  cases hl : loopC t1 cnd1 el ds1 accd ρ5 with
                  | none => simp only [hl] at q2; cases q2
                  | some r1 =>
                    obtain ⟨accM, ρM⟩ := r1
                    simp only [hl] at q2
                    have raN : RpA g.K g.mg F5 acc accd := ra.mono (ex.f.trans (s4.trans s5))
                    let Pi : Nat → Hp → Prop := fun k H6 => ∃ F6 ρ6 acc6 accd6, Same F5 F6 ∧ Rel (g.lock D acc6) F6 (killL msb vs1) ρ6 (wipe σ3 vs1) H6 ∧ RpA g.K g.mg F6 acc6 accd6 ∧ loopC t1 cnd1 el (ds1.drop k) accd6 ρ6 = some (accM, ρM)
                    refine ⟨fun i m H => m = ds1.length - i ∧ i ≤ ds1.length ∧ Pi i H, ⟨ds1.length, by simp, Nat.zero_le _, F5, ρ5, acc, accd, Same.refl _, R6.wiped vs1, raN, hl⟩, ?_⟩
                    rintro k m6 H6 ⟨rfl, hk6, p6⟩
                    obtain ⟨F6, ρ6, acc6, accd6, s6, R7, ra6, q6⟩ := p6
                    have R7' : Rel (g.lock D acc6) F6 (shl mm) ρ6 (wipe σ3 vs1) H6 := by rw [hmm]; exact R7
                    have hG6 : G1 H6 := hG1 F6 mm ρ6 _ H6 s6 R7'.unprot
                    by_cases hlt1 : k < ds1.length
                    · refine .inr ⟨wk1.goes k H6 hlt1 hG6, Pi (k + 1), fun H' p' => ⟨ds1.length - (k + 1), by omega, rfl, hlt1, p'⟩, fun x1 H7 y1 => ?_⟩
                      have y1 := wk1.yields k H6 x1 H7 hlt1 hG6 y1
                      obtain ⟨d1, F7, hd1, ex1, rp1⟩ := hY1 k F6 H6 x1 H7 hlt1 s6 R7.sub y1
                      have hdr1 : ds1.drop k = d1 :: ds1.drop (k + 1) := by
                        obtain ⟨h1, h2⟩ := List.getElem?_eq_some_iff.mp hd1
                        rw [List.drop_eq_getElem_cons h1, h2]
                      rw [hdr1] at q6
                      unfold loopC at q6
                      cases ha1 : asg t1 d1 ρ6 with
                      | none => simp only [ha1] at q6; cases q6
                      | some ρ7 =>
                        simp only [ha1] at q6
                        refine hg1.run (g.lock D acc6) F7 ρ6 ρ7 _ H7 x1 d1 _ hk1 (R7.ext ex1) rp1 ha1 fun σ4 R8 w4 => ?_
                        have w4' : wipe σ4 vs1 = wipe σ3 vs1 := by
                          rw [w4 _ fun i hi => by simpa using List.all_eq_true.mp hvs1 i hi, wipe_wipe]
                        refine ⟨w4', g.lock D acc6, rfl, rfl, F7, ρ7, R8, ?_⟩
                        have back1 : ∀ {F8 H8 : Hp} {ρ8 : En}, Rel (g.lock D acc6) F8 msb1 ρ8 σ4 H8 → Rel (g.lock D acc6) F8 (killL msb vs1) ρ8 (wipe σ3 vs1) H8 := fun {F8 H8 ρ8} R9 => by
                          refine (R9.weak wb1).swap ?_ ?_
                          · rw [← w4']; exact wipe_length _ _
                          · rw [← w4']; exact fun i hi => wipe_out hi
                        cases hc1 : cnd1 ρ7 with
                        | bad => simp only [hc1] at q6; cases q6
                        | exn x ρ' => simp only [hc1] at q6; cases q6
                        | ok dc1 ρ8 =>
                          cases dc1 with
                          | bool b1 =>
                            simp only [hc1] at q6
                            refine ⟨b1, rfl, fun F8 H8 s8 R9 => ?_⟩
                            cases b1 with
                            | false =>
                              rw [if_neg Bool.false_ne_true] at q6 ⊢
                              exact ⟨F8, ρ8, acc6, accd6, s6.trans (ex1.f.trans s8), back1 R9, ra6.mono (ex1.f.trans s8), q6⟩
                            | true =>
                              rw [if_pos rfl] at q6 ⊢
                              refine ⟨g.lock D acc6, rfl, rfl, F8, ρ8, R9, ?_⟩
                              cases he : el ρ8 with
                              | bad => simp only [he] at q6; cases q6
                              | exn x ρ' => simp only [he] at q6; cases q6
                              | ok de ρ9 =>
                                simp only [he] at q6
                                intro ye F9 H9 s9 R10 re
                                have R11 := back1 R10
                                rw [← hmm] at R11
                                obtain ⟨f11, h11⟩ := R11.freeOf hD0 hDp
                                by_cases hl9 : accd6.length < sizeLine
                                · rw [if_pos hl9] at q6
                                  obtain ⟨R12, f12⟩ := R11.unprot.updFree f11 (.lst (acc6 ++ [ye]))
                                  have R13 := R12.protect f12 upd_same
                                  rw [hmm] at R13
                                  exact ⟨acc6, h11, by rw [ra6.length]; exact hl9, F9, ρ9, acc6 ++ [ye], accd6 ++ [de], s6.trans (ex1.f.trans (s8.trans s9)), R13, (ra6.mono (ex1.f.trans (s8.trans s9))).append (.cons re .nil), q6⟩
                                · rw [if_neg hl9] at q6; cases q6
                          | _ => simp only [hc1] at q6; cases q6
                    · have e6 : k = ds1.length := by omega
                      subst e6
                      refine .inl ⟨wk1.stops H6 hG6, ?_⟩
                      rw [List.drop_length] at q6
                      unfold loopC at q6
                      cases q6
                      obtain ⟨R8, f8, h8⟩ := back (σ3 := wipe σ3 vs1) (by rw [swl, wipe_length]) (fun i hi => by rw [sw i hi, wipe_out fun z => hi (hsub' i z)]) hD0 hDp (R7.weak wb2)
                      exact ⟨F6, _, acc6, _, s2.trans (ex.f.trans (s4.trans (s5.trans s6))), R8, h8, ra6, f8, q2⟩
            | _ => simp only [hc] at q2; cases q2
      · have en : n = ds.length := by omega
        subst en
        obtain ⟨F2, ρ2, acc, accd, s2, R2, hD2, ra, f2, q2⟩ := p
        refine .inl ⟨wk.stops H2 hGn, ?_⟩
        rw [List.drop_length] at q2
        unfold loopC2 at q2
        cases q2
        have Rf := R1.restore s2 R2 hv
        refine q D F2 H2 (s1.trans s2) Rf ⟨acc, _, rfl, rfl, hD2, ra⟩ ⟨f2.h0, f2.f, f2.pr, fun j m e u h3 h4 h5 f1 => ?_⟩
        have hj : j ∉ own.map (·.2) := fun z => by
          have := List.all_eq_true.mp hv j z
          simp only [h3] at this
          cases m <;> first | exact f1 | cases this
        rw [restE_out hj] at h4
        exact f2.slots j m e u (by rw [killL_out hj]; exact h3) h4 (by rw [wipe_out hj]; exact h5) f1
abbrev PEb (X : Cx) (scope : Scope) (e : Expr) (t : TE) : Prop := ∀ (s : Shared) (H : Hp) (C : Addr) (cl : List (Str × Addr)) (fp : List Addr), PE (X.blk s H scope (compEnvC scope cl C X.env) fp) e t
theorem pe_teL {e : Expr} {m : ME} {ms : List Md} (he : ∀ (s : Shared) (H : Hp) (C : Addr) (cl : List (Str × Addr)) (fp : List Addr) (F0 H0 : Hp) (ios : List Addr) (pr : List (Addr × List V)), PE (X.blk s H scope (compEnvC scope cl C X.env) fp) e (LE ⟨g.K, g.mg, F0, H0, ios, pr⟩ W0 ms m)) (s : Shared) (H : Hp) (C : Addr) (cl : List (Str × Addr)) (fp : List Addr) : PE (X.blk s H scope (compEnvC scope cl C X.env) fp) e (teL g ms m) :=
  ⟨fun pins s' σ H' Q I ⟨g', e1, e2, q⟩ => (by rw [← gh_eta e1 e2]; exact he s H C cl fp _ _ _ _ : PE (X.blk s H scope (compEnvC scope cl C X.env) fp) e (LE g' W0 ms m)).run pins s' σ H' Q I q⟩
theorem pt_ttL {ifs : List Expr} {m : ME} {ms : List Md} (ht : ∀ (s : Shared) (H : Hp) (C : Addr) (cl : List (Str × Addr)) (fp : List Addr) (F0 H0 : Hp) (ios : List Addr) (pr : List (Addr × List V)), PTs (X.blk s H scope (compEnvC scope cl C X.env) fp) ifs (LT ⟨g.K, g.mg, F0, H0, ios, pr⟩ W0 ms m)) (s : Shared) (H : Hp) (C : Addr) (cl : List (Str × Addr)) (fp : List Addr) : PTs (X.blk s H scope (compEnvC scope cl C X.env) fp) ifs (ttL g ms m) :=
  ⟨fun pins s' σ H' Q I ⟨g', e1, e2, q⟩ => (by rw [← gh_eta e1 e2]; exact ht s H C cl fp _ _ _ _ : PTs (X.blk s H scope (compEnvC scope cl C X.env) fp) ifs (LT g' W0 ms m)).run pins s' σ H' Q I q⟩
/-- the inner items: of a value -/
theorem ii_any {m1 : ME} (he : ∀ (s : Shared) (H : Hp) (C : Addr) (cl : List (Str × Addr)) (fp : List Addr) (F0 H0 : Hp) (ios : List Addr) (pr : List (Addr × List V)), PE (X.blk s H scope (compEnvC scope cl C X.env) fp) iter1 (LE ⟨g.K, g.mg, F0, H0, ios, pr⟩ W0 msb m1)) :
    ∃ wi1 : TI, (∀ (s : Shared) (H : Hp) (C : Addr) (cl : List (Str × Addr)) (fp : List Addr), PI (X.blk s H scope (compEnvC scope cl C X.env) fp) tg1 iter1 wi1) ∧ (g.K = X.K → ∀ D acc σ H R, LU g D acc msb (mIt m1) σ H R → wi1 σ H R) :=
  ⟨iAny X.K (teL g msb m1), fun s H C cl fp => pi_any (pe_teL he s H C cl fp), fun hk D acc σ H R q => lu_any (X := X) g rfl rfl hk D acc σ H R q⟩
/-- the inner items: of a slot -/
theorem ii_slot {i : Nat} {md : Md} (hx : ∀ (s : Shared) (H : Hp) (C : Addr) (cl : List (Str × Addr)) (fp : List Addr), PE (X.blk s H scope (compEnvC scope cl C X.env) fp) iter1 (tVar i)) (hm : msb[i]? = some md) (w : stB1 md = true) :
    ∃ wi1 : TI, (∀ (s : Shared) (H : Hp) (C : Addr) (cl : List (Str × Addr)) (fp : List Addr), PI (X.blk s H scope (compEnvC scope cl C X.env) fp) tg1 iter1 wi1) ∧ (g.K = X.K → ∀ D acc σ H R, LU g D acc msb (mItS i) σ H R → wi1 σ H R) :=
  ⟨iAny X.K (tVar i), fun s H C cl fp => pi_any (hx s H C cl fp), fun hk D acc σ H R q => lu_slot (X := X) hm w g hk D acc σ H R q⟩
section
variable {c : Sx} {pos spos : Pos}
theorem lo_lc2 (hk : g.K = X.K) (hc : X.calm = true) (hN : X.N.Nodup) (hi : PI X tg iter wi) (hwi : ∀ σ H R, LI g W ms mi σ H R → wi σ H R) (ok : BlkOk X.N X.env.scope scope own) (hsub : vs1.all (fun i => (own.map (·.2)).contains i) = true)
    (hg : ∀ (s : Shared) (H : Hp) (C : Addr) (cl : List (Str × Addr)) (fp : List Addr), GT (X.blk s H scope (compEnvC scope cl C X.env) fp) tg t (shl (killL ms (own.map (·.2)))) msb gg)
    (ht : ∀ (s : Shared) (H : Hp) (C : Addr) (cl : List (Str × Addr)) (fp : List Addr) (F0 H0 : Hp) (ios : List Addr) (pr : List (Addr × List V)), PTs (X.blk s H scope (compEnvC scope cl C X.env) fp) ifs (LT ⟨g.K, g.mg, F0, H0, ios, pr⟩ W0 msb cnd))
    (hi1 : ∃ wi1 : TI, (∀ (s : Shared) (H : Hp) (C : Addr) (cl : List (Str × Addr)) (fp : List Addr), PI (X.blk s H scope (compEnvC scope cl C X.env) fp) tg1 iter1 wi1) ∧ (g.K = X.K → ∀ D acc σ H R, LU g D acc msb mi1 σ H R → wi1 σ H R))
    (hg1 : ∀ (s : Shared) (H : Hp) (C : Addr) (cl : List (Str × Addr)) (fp : List Addr), GT (X.blk s H scope (compEnvC scope cl C X.env) fp) tg1 t1 (killL msb vs1) msb1 gg1)
    (ht1 : ∀ (s : Shared) (H : Hp) (C : Addr) (cl : List (Str × Addr)) (fp : List Addr) (F0 H0 : Hp) (ios : List Addr) (pr : List (Addr × List V)), PTs (X.blk s H scope (compEnvC scope cl C X.env) fp) ifs1 (LT ⟨g.K, g.mg, F0, H0, ios, pr⟩ W0 msb1 cnd1))
    (he : ∀ (s : Shared) (H : Hp) (C : Addr) (cl : List (Str × Addr)) (fp : List Addr) (F0 H0 : Hp) (ios : List Addr) (pr : List (Addr × List V)), PE (X.blk s H scope (compEnvC scope cl C X.env) fp) elt (LE ⟨g.K, g.mg, F0, H0, ios, pr⟩ W0 msb1 el))
    (hmm : shl mm = killL msb vs1 := by rfl) (wb : wkB msb (shl (killL ms (own.map (·.2)))) = true := by rfl) (wb1 : wkB msb1 (killL msb vs1) = true := by rfl) (wb2 : wkB (killL msb vs1) (shl (killL ms (own.map (·.2)))) = true := by rfl)
    (hvs : (tgIx t).all (fun i => (own.map (·.2)).contains i) = true := by rfl) (hvs1 : (tgIx t1).all (fun i => vs1.contains i) = true := by rfl) (hv : valB ms (own.map (·.2)) = true := by rfl)
    (hs : ∀ x, foldedSetIterable iter X.env x = pure x := by intro _; rfl) (hs1 : ∀ env x, foldedSetIterable iter1 env x = pure x := by intro _ _; rfl) : PE X (.ListComp elt [⟨tg, iter, ifs, 0⟩, ⟨tg1, iter1, ifs1, 0⟩] scope pos) (LO g W ms (mLc2 mi t (own.map (·.2)) cnd mi1 t1 cnd1 el)) := by
  obtain ⟨wi1, hp1, hw1⟩ := hi1
  refine pe_impS (pe_lc2 (tt := ttL g msb cnd) (tt1 := ttL g msb1 cnd1) (te := teL g msb1 el) (vs1 := vs1) hc hN hi ok (fun i hi => by simpa using List.all_eq_true.mp hsub i hi) (fun s H C cl fp => (hg s H C cl fp).pg) (pt_ttL ht) hp1 (fun s H C cl fp => (hg1 s H C cl fp).pg) (pt_ttL ht1) (pe_teL he) hs hs1)
    fun s => lc2_imp (X' := X.blk s (fun _ => none) scope (compEnvC scope [] 0 X.env) []) (X1 := X.blk s (fun _ => none) scope (compEnvC scope [] 0 X.env) []) hk hk (hg s (fun _ => none) 0 [] []) (hg1 s (fun _ => none) 0 [] []) hwi (hw1 hk) hmm wb wb1 wb2 hsub hvs hvs1 hv
theorem ls_setLc2 {j : Nat} {y : Str} {py : Pos} (hk : g.K = X.K) (hc : X.calm = true) (hN : X.N.Nodup) (hy : X.N[j]? = some y) (hyl : X.env.scope.names.lookup y = some .local) (hi : PI X tg iter wi) (hwi : ∀ σ H R, LI g W ms mi σ H R → wi σ H R) (ok : BlkOk X.N X.env.scope scope own) (hsub : vs1.all (fun i => (own.map (·.2)).contains i) = true)
    (hg : ∀ (s : Shared) (H : Hp) (C : Addr) (cl : List (Str × Addr)) (fp : List Addr), GT (X.blk s H scope (compEnvC scope cl C X.env) fp) tg t (shl (killL ms (own.map (·.2)))) msb gg)
    (ht : ∀ (s : Shared) (H : Hp) (C : Addr) (cl : List (Str × Addr)) (fp : List Addr) (F0 H0 : Hp) (ios : List Addr) (pr : List (Addr × List V)), PTs (X.blk s H scope (compEnvC scope cl C X.env) fp) ifs (LT ⟨g.K, g.mg, F0, H0, ios, pr⟩ W0 msb cnd))
    (hi1 : ∃ wi1 : TI, (∀ (s : Shared) (H : Hp) (C : Addr) (cl : List (Str × Addr)) (fp : List Addr), PI (X.blk s H scope (compEnvC scope cl C X.env) fp) tg1 iter1 wi1) ∧ (g.K = X.K → ∀ D acc σ H R, LU g D acc msb mi1 σ H R → wi1 σ H R))
    (hg1 : ∀ (s : Shared) (H : Hp) (C : Addr) (cl : List (Str × Addr)) (fp : List Addr), GT (X.blk s H scope (compEnvC scope cl C X.env) fp) tg1 t1 (killL msb vs1) msb1 gg1)
    (ht1 : ∀ (s : Shared) (H : Hp) (C : Addr) (cl : List (Str × Addr)) (fp : List Addr) (F0 H0 : Hp) (ios : List Addr) (pr : List (Addr × List V)), PTs (X.blk s H scope (compEnvC scope cl C X.env) fp) ifs1 (LT ⟨g.K, g.mg, F0, H0, ios, pr⟩ W0 msb1 cnd1))
    (he : ∀ (s : Shared) (H : Hp) (C : Addr) (cl : List (Str × Addr)) (fp : List Addr) (F0 H0 : Hp) (ios : List Addr) (pr : List (Addr × List V)), PE (X.blk s H scope (compEnvC scope cl C X.env) fp) elt (LE ⟨g.K, g.mg, F0, H0, ios, pr⟩ W0 msb1 el))
    (hsw : swapsWith (.ListComp elt [⟨tg, iter, ifs, 0⟩, ⟨tg1, iter1, ifs1, 0⟩] scope pos) (some (.Name y py)) spos.line X.env = pure true := by exact sw_true rfl rfl rfl (by decide +kernel))
    (hmm : shl mm = killL msb vs1 := by rfl) (wb : wkB msb (shl (killL ms (own.map (·.2)))) = true := by rfl) (wb1 : wkB msb1 (killL msb vs1) = true := by rfl) (wb2 : wkB (killL msb vs1) (shl (killL ms (own.map (·.2)))) = true := by rfl)
    (hvs : (tgIx t).all (fun i => (own.map (·.2)).contains i) = true := by rfl) (hvs1 : (tgIx t1).all (fun i => vs1.contains i) = true := by rfl) (hv : valB ms (own.map (·.2)) = true := by rfl) (hl : j < ms.length := by decide) (wx : wkB ms c.mx = true := by rfl)
    (hs : ∀ x, foldedSetIterable iter X.env x = pure x := by intro _; rfl) (hs1 : ∀ env x, foldedSetIterable iter1 env x = pure x := by intro _ _; rfl) : PS X (.Assign [.Name y py] (.ListComp elt [⟨tg, iter, ifs, 0⟩, ⟨tg1, iter1, ifs1, 0⟩] scope pos) spos) (LS g W c ms (ms.set j .own) (sSet j (mLc2 mi t (own.map (·.2)) cnd mi1 t1 cnd1 el))) := by
  obtain ⟨wi1, hp1, hw1⟩ := hi1
  refine ps_impS (ps_setLc2 (tt := ttL g msb cnd) (tt1 := ttL g msb1 cnd1) (te := teL g msb1 el) (vs1 := vs1) hc hN hy hyl hsw hi ok (fun i hi => by simpa using List.all_eq_true.mp hsub i hi) (fun s H C cl fp => (hg s H C cl fp).pg) (pt_ttL ht) hp1 (fun s H C cl fp => (hg1 s H C cl fp).pg) (pt_ttL ht1) (pe_teL he) hs hs1) fun s D σ H ⟨F, ρ, R, q⟩ => ?_
  exact lc2_imp (X' := X.blk s (fun _ => none) scope (compEnvC scope [] 0 X.env) []) (X1 := X.blk s (fun _ => none) scope (compEnvC scope [] 0 X.env) []) hk hk (hg s (fun _ => none) 0 [] []) (hg1 s (fun _ => none) 0 [] []) hwi (hw1 hk) hmm wb wb1 wb2 hsub hvs hvs1 hv σ H _
    ⟨F, ρ, R, goS_stO wx q fun d ρ' a F' H' _ s R' hl' f q => q F' _ H' (Same.refl _) (R'.setOwn hl f hl')⟩
end
end
end Mr

/-! xs.extend(ys), displays with a star -/
namespace Mr
open PySem PySem.Spec PyProof.Rows L2
def rExtendP (K : Fr) : V → List V → Hp → VK → Prop := fun x vs H Q => ∃ l b xs zs, x = .ref l ∧ vs = [.ref b] ∧ H l = some (.lst xs) ∧ SqP K H b zs ∧ xs.length + zs.length ≤ sizeLine ∧ Q .non (upd H l (.lst (xs ++ zs)))
theorem mt_extendP {X : Cx} : MtM X "list.extend" (rExtendP X.K) := by
  intro pins s σ H x vs v us Q I rx rv h
  obtain ⟨l, b, xs, zs, rfl, rfl, hH, hB, hz, q⟩ := h
  cases rx
  obtain ⟨u, rfl, ru⟩ := rv.one
  cases ru
  obtain ⟨z, its, n, r, hl, e⟩ := I.lstM hH
  obtain ⟨its2, n2, r2, e2⟩ : ∃ (its2 : List Value) (n2 : Nat), Vals zs its2 ∧ s.heap.get? b = some { cls := .type "list", data := .seq its2.toArray n2 } := by
    rcases hB with hB | ⟨its2, n2, hk, hz2, r2⟩
    · obtain ⟨z2, its2, n2, r2, e2⟩ := hB.ok I.hok
      exact ⟨its2, n2, r2, e2⟩
    · exact ⟨its2, n2, r2, I.kIn b _ hk⟩
  have hl2 := r2.length
  have hsz : its.toArray.size + its2.toArray.size ≤ sizeLine := by rw [List.size_toArray, List.size_toArray]; omega
  have hlong : ¬ (!its.toArray.isEmpty && Builtin.List.listTooLong (its.toArray.size + its2.toArray.size)) = true := by
    rw [notLongL hsz, Bool.and_false]
    exact Bool.false_ne_true
  refine call_meets PySem.F.slot_list_extend ⟨_, e, rfl⟩ PySem.F.entry_list_extend (PySem.F.args_list_extend_2 _ _)
    (AutoSeq1.list_extend_list_list_0 l its.toArray n b its2.toArray n2 hlong (by rw [List.size_toArray]; omega) (by omega)) ⟨e, e2, ?_⟩
  refine ⟨.non, _, I.lset (its' := its ++ its2) hH e (by simp) (r.append r2) ?_, rfl, q⟩
  rw [List.length_append]
  omega
def uExtend (es ds : List D) : Option (List D × D) := match ds with
  | [.list zs] => if es.length + zs.length ≤ sizeLine then some (es ++ zs, .none) else none
  | _ => none
theorem mu_extend {K : Fr} {mg : Mg} : MutAdV K mg (rExtendP K) uExtend := fun F H a xs vs ds es es' d Q e ha rx rv hf k => by
  unfold uExtend at hf
  split at hf
  · rename_i zs
    split at hf
    · rename_i hl
      cases hf
      obtain ⟨v, rfl, rw1⟩ : ∃ v, vs = [v] ∧ Rp K mg F v (.list zs) := by
        cases rv with
        | cons h t => cases t; exact ⟨_, rfl, h⟩
      cases rw1 with
      | lst hs ra =>
        rename_i b ys
        exact ⟨a, b, xs, ys, rfl, rfl, ha, hs.mono e, by rw [rx.length, ra.length]; exact hl, k _ _ (rx.append ra) .non⟩
    · cases hf
  · cases hf
section
variable {X : Cx} {g : Gh} {W : WX} {c : Sx} {ms ms' : List Md} {e tg : Expr} {es : List Expr} {pos : Pos} {σ : Sg} {F F' H H' : Hp} {ρ : En} {Q : VK} {m : ME} {os : List Opd}
theorem le_extend {i : Nat} {m : Md} {y : Str} {py apos cpos : Pos} {ea : Expr} {A : Opd} (hk : g.K = X.K) (hm : ms[i]? = some m) (w : wrB m = true) (hx : PE X (.Name y py) (tVar i)) (ha : PE X ea (LP g W ms A))
    (hs : starEach [ea] X.env = (false, eval ea X.env) :: starEach [] X.env := by rfl)
    (hbase : attributeBase (.Name y py) "extend" X.env (eval (.Name y py) X.env) = eval (.Name y py) X.env := by rfl)
    (hfew : ((backTo cpos (starEach [ea] X.env)).all (fun x => !x.1) && (backToKw cpos (keywordEach [] X.env)).all (fun x => x.1.isSome)
      && decide (([ea] : List Expr).length + ([] : List Keyword).length + (if ([] : List Keyword).isEmpty then 0 else 1) < 30)) = true := by rfl)
    (hline : (apos.endLine == cpos.line) = true := by rfl) (hplain : (backTo cpos (starEach [] X.env)).any (·.1) = false := by rfl) :
    PE X (.Call (.Attribute (.Name y py) "extend" apos) [ea] [] cpos) (LE g W ms (mMutV i uExtend [A])) :=
  le_mutV hm w (r := rExtendP X.K) (by rw [← hk]; exact mu_extend) hx (la_cons ha la_nil hs) fun to t h1 h2 => pe_bm PySem.F.plainAttrs_list PySem.F.slot_list_extend PySem.F.type_list_extend mt_extendP h1 h2 hbase hfew hline hs hplain
/-! ### displays with a star -/
inductive DR where
  | ok (ds : List D) (ρ : En) | exn (x : D) (ρ : En) | bad
/-- items, each as it is or with a star -/
def evD : List (Bool × ME) → En → DR
  | [], ρ => .ok [] ρ
  | (b, m) :: r, ρ => match m ρ with
    | .ok d ρ1 => (match (if b = true then (match d with
        | .list zs => some zs
        | .tuple zs => some zs
        | _ => none) else some [d]) with
      | some zs => (match evD r ρ1 with
        | .ok ds ρ2 => .ok (zs ++ ds) ρ2
        | x => x)
      | none => .bad)
    | .exn x ρ' => .exn x ρ'
    | .bad => .bad
def LD (g : Gh) (W : WX) (ms : List Md) (its : List (Bool × ME)) : TA := fun σ H Q => ∃ F ρ, Rel g F ms ρ σ H ∧ match evD its ρ with
  | .bad => False
  | .ok ds ρ' => ∀ vs F' H', Same F F' → Rel g F' ms ρ' σ H' → RpA g.K g.mg F' vs ds → Q vs H'
  | .exn x ρ' => ∀ c dd F' H', Same F F' → Rel g F' ms ρ' σ H' → XOk g.K g.mg F' c dd x → W c dd σ H'
def mLstD (its : List (Bool × ME)) : ME := fun ρ => match evD its ρ with
  | .ok ds ρ' => if ds.length ≤ sizeLine then .ok (.list ds) ρ' else .bad
  | .exn x ρ' => .exn x ρ'
  | .bad => .bad
def mTupD (its : List (Bool × ME)) : ME := fun ρ => match evD its ρ with
  | .ok ds ρ' => if ds.length ≤ sizeLine then .ok (.tuple ds) ρ' else .bad
  | .exn x ρ' => .exn x ρ'
  | .bad => .bad
theorem ld_nil : PA X [] (LD g W ms []) := pa_imp pa_nil fun σ H Q ⟨F, ρ, R, q⟩ => q [] F H (Same.refl _) R .nil
theorem ld_cons {m : ME} {its : List (Bool × ME)} (ha : PE X e (LE g W ms m)) (hr : PA X es (LD g W ms its)) (hs : starEach (e :: es) X.env = (false, eval e X.env) :: starEach es X.env := by rfl) : PA X (e :: es) (LD g W ms ((false, m) :: its)) :=
  pa_imp (pa_cons ha hr hs) fun σ H Q ⟨F, ρ, R, q⟩ => by
    refine ⟨F, ρ, R, ?_⟩
    unfold evD at q
    cases h1 : m ρ with
    | bad => simp only [h1] at q
    | exn x ρ' => simp only [h1] at q; exact q
    | ok d ρ1 =>
      simp only [h1, Bool.false_eq_true, if_false] at q
      intro v F1 H1 s1 R1 p1
      refine ⟨F1, ρ1, R1, ?_⟩
      cases h2 : evD its ρ1 with
      | bad => simp only [h2] at q
      | exn x ρ' => simp only [h2] at q; exact fun c dd F' H' s2 R' xo => q c dd F' H' (s1.trans s2) R' xo
      | ok ds ρ2 =>
        simp only [h2] at q
        exact fun vs F' H' s2 R' ps' => q (v :: vs) F' H' (s1.trans s2) R' (.cons (p1.mono s2) ps')
theorem RpA.app2 {K : Fr} {mg : Mg} {F : Hp} : ∀ {xs ys : List V} {as bs : List D}, RpA K mg F xs as → RpA K mg F ys bs → RpA K mg F (xs ++ ys) (as ++ bs)
  | _, _, _, _, .nil, h => h
  | _, _, _, _, .cons r t, h => .cons r (RpA.app2 t h)
theorem ld_star {m : ME} {its : List (Bool × ME)} {sp : Pos} (hk : g.K = X.K) (ha : PE X e (LE g W ms m)) (hr : PA X es (LD g W ms its)) (hs : starEach (.Starred e sp :: es) X.env = (true, eval e X.env) :: starEach es X.env := by rfl) : PA X (.Starred e sp :: es) (LD g W ms ((true, m) :: its)) :=
  pa_imp (StX.pa_star ha hr hs) fun σ H Q ⟨F, ρ, R, q⟩ => by
    refine ⟨F, ρ, R, ?_⟩
    unfold evD at q
    cases h1 : m ρ with
    | bad => simp only [h1] at q
    | exn x ρ' => simp only [h1] at q; exact q
    | ok d ρ1 =>
      simp only [h1, if_true] at q
      intro v F1 H1 s1 R1 p1
      have main : ∀ (p : Addr) (xs : List V) (zs : List D), v = .ref p → (SqT X.K H1 p xs ∨ SqL X.K H1 p xs) → RpA g.K g.mg F1 xs zs → (match evD its ρ1 with
          | .ok ds ρ2 => ∀ vs F' H', Same F F' → Rel g F' ms ρ2 σ H' → RpA g.K g.mg F' vs (zs ++ ds) → Q vs H'
          | .exn x ρ' => ∀ c dd F' H', Same F F' → Rel g F' ms ρ' σ H' → XOk g.K g.mg F' c dd x → W c dd σ H'
          | .bad => False) → ∃ p xs, v = V.ref p ∧ (SqT X.K H1 p xs ∨ SqL X.K H1 p xs) ∧ LD g W ms its σ H1 fun ys H2 => Q (xs ++ ys) H2 := fun p xs zs ev hx ra q => by
        refine ⟨p, xs, ev, hx, F1, ρ1, R1, ?_⟩
        cases h2 : evD its ρ1 with
        | bad => simp only [h2] at q
        | exn x ρ' => simp only [h2] at q; exact fun c dd F' H' s2 R' xo => q c dd F' H' (s1.trans s2) R' xo
        | ok ds ρ2 =>
          simp only [h2] at q
          exact fun vs F' H' s2 R' ps' => q (xs ++ vs) F' H' (s1.trans s2) R' (RpA.app2 (ra.mono s2) ps')
      cases d with
      | list zs =>
        cases p1 with
        | lst hs2 ra =>
          refine main _ _ zs rfl (.inr (by rw [← hk]; exact (hs2.mono R1.sub).sql)) ra ?_
          cases h2 : evD its ρ1 <;> simp only [h2] at q ⊢ <;> exact q
      | tuple zs =>
        cases p1 with
        | tup hs2 ra =>
          refine main _ _ zs rfl (.inl (by rw [← hk]; exact sqT_same R1.sub hs2.t)) ra ?_
          cases h2 : evD its ρ1 <;> simp only [h2] at q ⊢ <;> exact q
      | _ => exact q.elim
theorem lo_lstD {its : List (Bool × ME)} (ha : PA X es (LD g W ms its)) : PE X (.List es pos) (LO g W ms (mLstD its)) := pe_imp (pe_lst ha) fun σ H Q ⟨F, ρ, R, q⟩ => by
  refine ⟨F, ρ, R, ?_⟩
  unfold mLstD at q
  cases h1 : evD its ρ with
  | bad => simp only [h1] at q; exact q
  | exn x ρ' => simp only [h1] at q; exact q
  | ok ds ρ1 =>
    simp only [h1] at q
    intro vs F1 H1 s1 R1 rp
    by_cases hl : ds.length ≤ sizeLine
    · rw [if_pos hl] at q
      refine ⟨by rw [rp.length]; exact hl, fun p hp => ?_⟩
      exact q p F1 _ s1 (R1.ext (Ext.new (o := .lst vs) R1.sub hp)) ⟨vs, ds, rfl, rfl, upd_same, rp⟩ (R1.free (o := .lst vs) hp)
    · rw [if_neg hl] at q; exact q.elim
theorem le_tupD {its : List (Bool × ME)} {x1} (ha : PA X es (LD g W ms its)) : PE X (.Tuple es x1 pos) (LE g W ms (mTupD its)) := pe_imp (pe_tupF ha) fun σ H Q ⟨F, ρ, R, q⟩ => by
  refine ⟨F, ρ, R, ?_⟩
  unfold mTupD at q
  cases h1 : evD its ρ with
  | bad => simp only [h1] at q; exact q
  | exn x ρ' => simp only [h1] at q; exact q
  | ok ds ρ1 =>
    simp only [h1] at q
    intro vs F1 H1 s1 R1 rp
    by_cases hl : ds.length ≤ sizeLine
    · rw [if_pos hl] at q
      refine ⟨by rw [rp.length]; exact hl, fun p o hp hc hd => ?_⟩
      have x := Ext.frz (o := .frz o (.tup vs)) R1.sub hp
      exact q _ _ _ (s1.trans x.f) (R1.ext x) (.tup (.inl ⟨o, upd_same, hc, hd⟩) (rp.mono x.f))
    · rw [if_neg hl] at q; exact q.elim
end
end Mr

/-! defs with defaults -/
namespace Mr
open PySem PySem.Spec PyProof.Rows L2
abbrev FunE (K : Fr) (x : Str) (st : Stmt) (dvs : List V) (f : Addr) (fd : FuncData) : Prop := FunD K x x (defArgs st) (defBody st) (defScope st) dvs [] f fd
theorem funE_mk {K : Fr} {x : Str} {st : Stmt} {dvs : List V} {f : Addr} {oc : Value} {od an : Option Addr} {osl : Array (Option Value)} {dV kV doc pm cdv ct : Value} (l : K.lookup f = some ⟨oc, od, .func (PySem.W.fnOf x x (defArgs st) (defBody st) (defScope st) dV kV doc pm an cdv ct), osl⟩)
    (c : PySem.W.codeIn K cdv x = true) (k : PySem.W.keepIn K (.ref f) = true) (d : He.dflB K dV dvs = true) : FunE K x st dvs f (PySem.W.fnOf x x (defArgs st) (defBody st) (defScope st) dV kV doc pm an cdv ct) :=
  ⟨⟨oc, od, dV, kV, doc, pm, an, cdv, ct, osl, rfl, l, c, He.dflB_ok d, .inl rfl⟩, k⟩
section
variable {P : Program} {w : World} {K : Fr} {mg : Mg} {base : Heap}
theorem FnG.mkE {x : Str} {st : Stmt} {dvs : List V} {f : Addr} {fd : FuncData} {N ps : List Str} {k : Nat} {sp : Sp} (F : FunE K x st dvs f fd) (S : FnScope N ps (defScope st)) (len : ∀ vs H Q E, sp vs H Q E → vs.length = ps.length)
    (body : ∀ (cdv : Value) (A : Around) (outer : List Env) (s : Shared) (H : Hp) (vs : List V) (Q : VK) (E : XK), (A.deeper (envOfC x (defScope st) s.heap.objs.size f cdv)).guards = some [] → Room k (A.deeper (envOfC x (defScope st) s.heap.objs.size f cdv)) → sp vs H Q E →
      ∃ t, PSs (cxOf (L2.CX P w) P w K mg base N x (defScope st) f cdv A outer s H E) (defBody st) t ∧ t { nx := fun _ H' => Q .non H', rt := Q } (L2.start N vs) H) : FnG P w K mg base (k + 1) f fd ps sp := by
  obtain ⟨oc, od, dV, kV, doc, pm, an, cdv, ct, osl, rfl, lk, hcd, _, _⟩ := F.ex
  refine ⟨len, fun A outer s H args us vs Q E hgu hr e0 hb rv hsp => ?_⟩
  have KX : K.In s.heap := e0.mod.kin.keeps fun b o e => (e0.bs b o e).1
  have hlim : s.heap.NoLimit := e0.mod.nolimit.keeps fun b o e => (e0.bs b o e).1
  have kinds : ∀ y ∈ ps.zip us, (defScope st).names.lookup y.1 = some .local ∨ ((defScope st).names.lookup y.1 = some .cell ∧ ((cellsFrom (s.heap.objs.size + 1) (defScope st).names []).lookup y.1).isSome = true) := by
    rintro ⟨n, u⟩ hy
    rcases S.par n (List.of_mem_zip hy).1 with q | q
    · left; exact q
    · right; exact ⟨q, PySem.W.cellsFrom_some _ _ _ (.inl q)⟩
  refine codeAny_call_function hr.depth (KX _ _ lk) rfl S.co S.gen rfl (PySem.W.codeRec_of KX hcd) (hb _ _ _ _ ?_)
  refine wpAny_newFunctionEnv_cells S.kind kinds fun env he s1 x => ?_
  cases he
  refine ⟨hlim.keeps x.toInCall.keep, codeAny_func ?_⟩
  obtain ⟨t, ht, hq⟩ := body cdv A outer s H vs Q E hgu (hr.deeper _) hsp
  have I := inv_start (CX := L2.CX P w) (E := E) S hr.hd e0 (len _ _ _ _ hsp) rv x
  refine wpAny_mono (ht.run [] s1 (L2.start N vs) H _ I hq) (fun fl s' hs => ?_) fun e s' hs => hs
  cases fl with
  | ret u => obtain ⟨v, σ', H', J, r1, q⟩ := hs; exact ⟨v, H', J.os, J.bare, J.base, J.hok, r1, q⟩
  | next => obtain ⟨σ', H', J, q⟩ := hs; exact ⟨V.non, H', J.os, J.bare, J.base, J.hok, rfl, q⟩
  | brk => obtain ⟨_, _, _, q⟩ := hs; cases q
  | cont => obtain ⟨_, _, _, q⟩ := hs; cases q
theorem ok_ofE {x : Str} {st : Stmt} {dvs : List V} {f : Addr} {fd : FuncData} {N ps : List Str} {k : Nat} (F : FunE K x st dvs f fd) (S : FnScope N ps (defScope st)) {pms lms ms' mx : List Md} {own : Bool} {io : List Nat} {b : MS}
    (hlen : pms.length = ps.length) (hll : pms.length + lms.length = N.length) (hN : ps.length ≤ N.length) (hlm : lms.all (fun m => !isIo m) = true) (hp : ioPos io pms = true) (hb : ioB io pms = true) (hb' : ioB io ms' = true) (hbx : (ioB io mx && decide (io.length = nIo pms)) = true)
    (hbody : ∀ (cdv : Value) (A : Around) (outer : List Env) (s : Shared) (H : Hp) (E : XK) (X : Cx), X = cxOf (L2.CX P w) P w K mg base N x (defScope st) f cdv A outer s H E → X.A.guards = some [] → Room k X.A → ∀ (F0 H0 : Hp) (ios : List Addr) (W : WX), Takes X W → PassesOwn (model X.prog X.w) X.A X.env X.xe →
      PSs X (defBody st) (LS ⟨K, mg, F0, H0, ios, []⟩ W ⟨[], mx, own, io⟩ (pms ++ lms) ms' b)) : FnG P w K mg base (k + 1) f fd ps (spM K mg pms own (runFn N.length io own b)) := by
  simp only [Bool.and_eq_true, decide_eq_true_eq] at hbx
  refine FnG.mkE F S (fun vs H Q E h => ?_) (fun cdv A outer s H vs Q E hgu hr h => ?_)
  · obtain ⟨_, _, _, _, h, _⟩ := h
    rw [h, hlen]
  · exact body_of hlen hll hlm hN hbx.2 (ioPos_iff hp hb) (ioB_get hb') (ioB_get hbx.1) (fun F0 H0 ios => hbody cdv A outer s H E (cxOf (L2.CX P w) P w K mg base N x (defScope st) f cdv A outer s H E) rfl hgu hr F0 H0 ios (fun cls d _ H => E cls d H) (takes_of rfl rfl rfl rfl) (passes_of (K := fun e s'' => L2.CX P w outer H s E e s'') rfl)) h
/-- all of them written -/
theorem FunE.bindsAll {x : Str} {st : Stmt} {dvs : List V} {f : Addr} {fd : FuncData} {ps : List Str} (F : FunE K x st dvs f fd) (hd : dvs ≠ [])
    (h : ∀ (T : Addr) (kV doc pm : Value) (an : Option Addr) (cdv ct : Value) (us its : List Value), us.length = ps.length → its.length = dvs.length →
      ∃ k, bindArgs (PySem.W.fnOf x x (defArgs st) (defBody st) (defScope st) (.ref T) kV doc pm an cdv ct) ⟨us, []⟩ = seqItems? (.ref T) >>= k ∧ k (some its.toArray) = pure (ps.zip (us ++ its.drop dvs.length))) : Binds K fd ps [] := by
  obtain ⟨ds, r, b⟩ := FunD.binds1 F ps.length dvs.length hd (by simp) h
  rw [List.drop_length] at r
  cases r
  exact b
theorem FunE.kwb {x : Str} {st : Stmt} {dvs : List V} {f : Addr} {fd : FuncData} {ps ks : List Str} {np : Nat} {pi : List Nat} (F : FunE K x st dvs f fd) (hd : dvs ≠ [])
    (h : ∀ (T : Addr) (kV doc pm : Value) (an : Option Addr) (cdv ct : Value) (us its ws : List Value), us.length = np → its.length = dvs.length → ws.length = ks.length →
      ∃ k, bindArgs (PySem.W.fnOf x x (defArgs st) (defBody st) (defScope st) (.ref T) kV doc pm an cdv ct) ⟨us, ks.zip ws⟩ = seqItems? (.ref T) >>= k ∧ k (some its.toArray) = pure (ps.zip (permL pi (us ++ ws)))) : KwB K fd ps ks np pi := by
  obtain ⟨its, b⟩ := FunD.kbindsD F np ks (fun us _ ws => permL pi (us ++ ws)) hd (fun r1 _ r3 => Paired.perm (Paired.app r1 r3) pi) h
  exact fun s us ws X l1 l2 => b.to s us ws X l1 l2
end
/-! ### calls that leave the last ones out -/
/-- what a default is -/
def DfA (dvs : List V) (ds : List D) : Prop := ∀ (K : Fr) (mg : Mg) (F : Hp), RpA K mg F dvs ds
section
variable {X : Cx} {g : Gh} {W : WX} {c : Sx} {ms ms' : List Md} {e : Expr} {es : List Expr} {pos : Pos} {σ : Sg} {F F' H H' : Hp} {ρ : En} {Q : VK}
variable {k : Nat} {fa : Addr} {fd : FuncData} {pn : List Str} {x : Str} {p : Pos} {f : Fn} {ioA : List Nat} {os : List Opd} {pms : List Md} {sp : Sp} {E : Sg → XK} {t : TA} {us : List Value} {dvs : List V} {ds : List D}
theorem evs_dfl : ∀ (ds : List D) (ρ : En), evs (ds.map fun d => Opd.ex (mC d)) ρ = .ok (ds.map .inl) ρ
  | [], ρ => rfl
  | d :: ds, ρ => by
    rw [List.map_cons, List.map_cons]
    unfold evs
    rw [show evO (Opd.ex (mC d)) ρ = .ok (.inl d) ρ by first | rfl | simp [evO, mC]]
    simp only [evs_dfl ds ρ]
theorem evs_append : ∀ (os : List Opd) (ds : List D) (ρ : En), evs (os ++ ds.map fun d => Opd.ex (mC d)) ρ = match evs os ρ with
    | .ok ps ρ1 => .ok (ps ++ ds.map .inl) ρ1
    | .exn x ρ1 => .exn x ρ1
    | .bad => .bad
  | [], ds, ρ => by simp only [List.nil_append]; rw [evs_dfl]; rfl
  | o :: os, ds, ρ => by
    rw [List.cons_append]
    unfold evs
    cases h1 : evO o ρ with
    | bad => rfl
    | exn x ρ1 => rfl
    | ok p ρ1 =>
      simp only
      rw [evs_append os ds ρ1]
      cases evs os ρ1 <;> rfl
theorem pvs_dfl : ∀ {dvs : List V} {ds : List D}, RpA g.K g.mg F dvs ds → PvsOk g F ms σ dvs (ds.map .inl)
  | _, _, .nil => .nil
  | _, _, .cons r t => .cons r (pvs_dfl t)
theorem LA_dfl {Q : List V → Hp → Prop} (hd : DfA dvs ds) (h : LA g W ms (os ++ ds.map fun d => Opd.ex (mC d)) σ H Q) : LA g W ms os σ H fun vs H1 => Q (vs ++ dvs) H1 := by
  obtain ⟨F, ρ, R, q⟩ := h
  refine ⟨F, ρ, R, ?_⟩
  rw [evs_append] at q
  cases h1 : evs os ρ with
  | bad => rw [h1] at q; exact q
  | exn x ρ1 => rw [h1] at q; exact q
  | ok ps ρ1 =>
    rw [h1] at q
    exact fun vs F' H' s R' p => q (vs ++ dvs) F' H' s R' (Paired.app p (pvs_dfl (hd g.K g.mg F')))
def tCallE (sp : Sp) (dvs : List V) (E : Sg → XK) (t : TA) : TE := fun σ H Q => t σ H fun vs H1 => sp (vs ++ dvs) H1 Q (E σ)
theorem pe_callE {dvs : List V} (Fk : FnG X.prog X.w X.K X.mg X.base k fa fd pn sp) (hgu : X.A.guards = some []) (hr : Room k X.A) (hg : Gl X x) (hm : X.mg x = some (.ref fa)) (hkp : PySem.W.keepIn X.K (.ref fa) = true) (hb : ∃ ds, Vals dvs ds ∧ Binds X.K fd pn ds) (hx : ∀ σ, PassesAt (L2.CX X.prog X.w) X σ (E σ))
    (ha : PA X (e :: es) t) (hdb : (x == ("__debug__" : Str)) = false := by decide) (he : starEach (e :: es) X.env = (false, eval e X.env) :: starEach es X.env := by rfl) (hpl : (backTo pos (starEach es X.env)).any (·.1) = false := by rfl) :
    PE X (.Call (.Name x p) (e :: es) [] pos) (tCallE sp dvs E t) := by
  obtain ⟨dz, rd, hb⟩ := hb
  refine ⟨fun pins s σ H Q I h => wpAny_Call_Name_kw (ld_glob I hg hm ?_ hdb)⟩
  refine PySem.W.callWith_K (h₀ := X.base) I.ok.mod.kin hkp (thn (ha.run pos pins s σ H _ I h) fun us s1 ⟨vs, H1, I1, r, q⟩ => ⟨I1.kIn, ?_⟩) he hpl
  have hl : (us ++ dz).length = pn.length := by rw [← (r.append rd).length]; exact Fk.len _ _ _ _ q
  exact FnG.go Fk hgu hr (hb s1 us I1.kIn hl) (hx σ) I1 (r.append rd) q
theorem le_callE {dvs : List V} {ds : List D} (hd : DfA dvs ds) (Fk : FnG X.prog X.w X.K X.mg X.base k fa fd pn (spM X.K X.mg pms false f)) (hgu : X.A.guards = some []) (hr : Room k X.A) (hm : X.mg x = some (.ref fa)) (hkp : PySem.W.keepIn X.K (.ref fa) = true) (hbi : ∃ ds, Vals dvs ds ∧ Binds X.K fd pn ds) (tk : Takes X W) (hk : g.K = X.K) (hmg : g.mg = X.mg)
    (ha : PA X (e :: es) (LA g W ms os)) (hg : Gl X x := by rfl) (hb : argB ms ioA pms (os ++ ds.map fun d => Opd.ex (mC d)) = true := by rfl) (hI : ioAB ms ioA pms = true := by rfl) (hdb : (x == ("__debug__" : Str)) = false := by decide) (he : starEach (e :: es) X.env = (false, eval e X.env) :: starEach es X.env := by rfl) (hpl : (backTo pos (starEach es X.env)).any (·.1) = false := by rfl) :
    PE X (.Call (.Name x p) (e :: es) [] pos) (LE g W ms (mCall f ioA (os ++ ds.map fun d => Opd.ex (mC d)))) := pe_imp (pe_callE Fk hgu hr hg hm hkp hbi (fun σ => passAt tk σ) ha hdb he hpl) fun σ H Q q => LA_dfl hd (call_imp hk hmg hb hI σ H Q q)
theorem lo_callE {dvs : List V} {ds : List D} (hd : DfA dvs ds) (Fk : FnG X.prog X.w X.K X.mg X.base k fa fd pn (spM X.K X.mg pms true f)) (hgu : X.A.guards = some []) (hr : Room k X.A) (hm : X.mg x = some (.ref fa)) (hkp : PySem.W.keepIn X.K (.ref fa) = true) (hbi : ∃ ds, Vals dvs ds ∧ Binds X.K fd pn ds) (tk : Takes X W) (hk : g.K = X.K) (hmg : g.mg = X.mg)
    (ha : PA X (e :: es) (LA g W ms os)) (hg : Gl X x := by rfl) (hb : argB ms ioA pms (os ++ ds.map fun d => Opd.ex (mC d)) = true := by rfl) (hI : ioAB ms ioA pms = true := by rfl) (hdb : (x == ("__debug__" : Str)) = false := by decide) (he : starEach (e :: es) X.env = (false, eval e X.env) :: starEach es X.env := by rfl) (hpl : (backTo pos (starEach es X.env)).any (·.1) = false := by rfl) :
    PE X (.Call (.Name x p) (e :: es) [] pos) (LO g W ms (mCall f ioA (os ++ ds.map fun d => Opd.ex (mC d)))) := pe_imp (pe_callE Fk hgu hr hg hm hkp hbi (fun σ => passAt tk σ) ha hdb he hpl) fun σ H Q q => LA_dfl hd (call_impO hk hmg hb hI σ H Q q)
end
end Mr

/-! what the mirrors of Zj, Zk, Zl come to -/
namespace Mr
open PySem PySem.Spec PyProof.Rows L2
section
variable {ρ : En} {Q : D → En → Prop} {X : D → En → Prop} {mi mi1 : MI} {t t1 : Tg} {vs : List Nat} {cnd cnd1 el m : ME}
def wLc2 (t : Tg) (cnd : ME) (mi1 : MI) (t1 : Tg) (cnd1 el : ME) (ds acc : List D) (ρ : En) (K : List D → En → Prop) (_ : Lk K) (_ : Lk cnd) (_ : Lk cnd1) (_ : Lk el) : Prop := ∃ acc' ρ', loopC2 t cnd mi1 t1 cnd1 el ds acc ρ = some (acc', ρ') ∧ K acc' ρ'
theorem wE_lc2 : wE (mLc2 mi t vs cnd mi1 t1 cnd1 el ρ) Q X = wI (mi ρ) (fun ds ρ1 => wLc2 t cnd mi1 t1 cnd1 el ds [] ρ1 (fun acc ρ2 => Q (.list acc) (restE ρ1 vs ρ2)) ⟨⟩ ⟨⟩ ⟨⟩ ⟨⟩) X := by
  unfold mLc2
  cases mi ρ with
  | ok ds ρ1 =>
    simp only [wI, wLc2]
    cases h : loopC2 t cnd mi1 t1 cnd1 el ds [] ρ1 with
    | none => simp [wE]
    | some r =>
      obtain ⟨a, ρ2⟩ := r
      simp only [wE]
      exact propext ⟨fun q => ⟨a, ρ2, rfl, q⟩, fun ⟨_, _, e, q⟩ => by cases e; exact q⟩
  | _ => rfl
/-- a turn of the outer for: its inner list is made at once -/
theorem lc2_inv {K : List D → En → Prop} (I : List D → List D → En → Prop)
    (hs : ∀ d ds acc ρ, I (d :: ds) acc ρ → wV (asg t d ρ) fun ρ1 => wE (cnd ρ1) (fun c ρ2 => c = .bool true ∧ wI (mi1 ρ2) (fun ds1 ρ3 => wLc t1 cnd1 el ds1 acc ρ3 (fun acc' ρ4 => I ds acc' ρ4) ⟨⟩ ⟨⟩ ⟨⟩) fun _ _ => False) fun _ _ => False)
    (h0 : ∀ acc ρ, I [] acc ρ → K acc ρ) : ∀ ds acc ρ, I ds acc ρ → wLc2 t cnd mi1 t1 cnd1 el ds acc ρ K ⟨⟩ ⟨⟩ ⟨⟩ ⟨⟩
  | [], acc, ρ, h => ⟨acc, ρ, rfl, h0 _ _ h⟩
  | d :: ds, acc, ρ, h => by
    have q := hs d ds acc ρ h
    unfold wLc2
    rw [loopC2]
    cases h1 : asg t d ρ with
    | none => rw [h1] at q; exact q.elim
    | some ρ1 =>
      rw [h1] at q
      simp only [wV] at q
      simp only []
      cases h2 : cnd ρ1 with
      | bad => rw [h2] at q; exact q.elim
      | exn x ρ' => rw [h2] at q; exact q.elim
      | ok c ρ2 =>
        rw [h2] at q
        obtain ⟨rfl, q⟩ := q
        simp only [if_true]
        cases h3 : mi1 ρ2 with
        | bad => rw [h3] at q; exact q.elim
        | exn x ρ' => rw [h3] at q; exact q.elim
        | ok ds1 ρ3 =>
          rw [h3] at q
          obtain ⟨acc', ρ4, e, q⟩ := q
          simp only [e]
          exact lc2_inv I hs h0 ds acc' ρ4 q
/-- a comprehension whose target is made of f a, from acc on -/
theorem lc_mapA {α : Type} {t : Tg} {el : ME} {K : List D → En → Prop} (f g : α → D) (R : En → Prop) (acc : List D) (l0 : List α) (hz : acc.length + l0.length ≤ sizeLine)
    (h : ∀ a ∈ l0, ∀ ρ, R ρ → wV (asg t (f a) ρ) fun ρ1 => wE (el ρ1) (fun e ρ3 => e = g a ∧ R ρ3) fun _ _ => False)
    (k : ∀ ρ, R ρ → K (acc ++ l0.map g) ρ) {ρ : En} (r : R ρ) : wLc t (mC (.bool true)) el (l0.map f) acc ρ K ⟨⟩ ⟨⟩ ⟨⟩ := by
  refine lc_inv (fun rs a ρ => ∃ dn l, l0 = dn ++ l ∧ rs = l.map f ∧ a = acc ++ dn.map g ∧ R ρ) ?_ ?_ _ _ _ ⟨[], l0, rfl, rfl, by simp, r⟩
  · rintro d ds a ρ ⟨dn, l, e1, e2, rfl, r⟩
    cases l with
    | nil => cases e2
    | cons x l =>
      simp only [List.map_cons, List.cons.injEq] at e2
      obtain ⟨rfl, rfl⟩ := e2
      refine wV_mono (h x (by rw [e1]; simp) ρ r) fun ρ1 q => ?_
      rw [wE_C]
      refine ⟨fun _ => wE_mono2 q (fun e ρ3 q => ?_) fun _ _ z => z, fun z => by cases z⟩
      obtain ⟨rfl, r3⟩ := q
      refine ⟨?_, dn ++ [x], l, by rw [e1]; simp, rfl, by simp, r3⟩
      have h2 := congrArg List.length e1
      simp at h2 ⊢
      omega
  · rintro a ρ ⟨dn, l, e1, e2, rfl, r⟩
    cases l with
    | cons _ _ => cases e2
    | nil =>
      rw [List.append_nil] at e1
      subst e1
      exact k ρ r
def wDl (r : DR) (Q : List D → En → Prop) (X : D → En → Prop) : Prop := match r with
  | .ok ds ρ => Q ds ρ
  | .exn x ρ => X x ρ
  | .bad => False
def wSt : D → (List D → Prop) → Prop
  | .list zs, K => K zs
  | .tuple zs, K => K zs
  | _, _ => False
theorem wSt_l {ds : List D} {K : List D → Prop} : wSt (.list ds) K = K ds := rfl
theorem wSt_t {ds : List D} {K : List D → Prop} : wSt (.tuple ds) K = K ds := rfl
theorem wDl_nil {Q : List D → En → Prop} : wDl (evD [] ρ) Q X = Q [] ρ := rfl
theorem wDl_f {Q : List D → En → Prop} {r : List (Bool × ME)} : wDl (evD ((false, m) :: r) ρ) Q X = wE (m ρ) (fun d ρ1 => wDl (evD r ρ1) (fun ds ρ2 => Q (d :: ds) ρ2) X) X := by
  rw [evD]
  cases m ρ with
  | ok d ρ1 =>
    simp only [Bool.false_eq_true, if_false, wE]
    cases evD r ρ1 <;> rfl
  | _ => rfl
theorem wDl_t {Q : List D → En → Prop} {r : List (Bool × ME)} : wDl (evD ((true, m) :: r) ρ) Q X = wE (m ρ) (fun d ρ1 => wSt d fun zs => wDl (evD r ρ1) (fun ds ρ2 => Q (zs ++ ds) ρ2) X) X := by
  rw [evD]
  cases m ρ with
  | ok d ρ1 =>
    simp only [if_true, wE]
    cases d with
    | list zs => simp only [wSt]; cases evD r ρ1 <;> rfl
    | tuple zs => simp only [wSt]; cases evD r ρ1 <;> rfl
    | _ => rfl
  | _ => rfl
theorem wE_lstD {r : List (Bool × ME)} : wE (mLstD r ρ) Q X = wDl (evD r ρ) (fun ds ρ1 => ds.length ≤ sizeLine ∧ Q (.list ds) ρ1) X := by
  unfold mLstD
  cases evD r ρ with
  | ok ds ρ1 =>
    simp only [wDl]
    by_cases h : ds.length ≤ sizeLine <;> simp [h, wE]
  | _ => rfl
theorem wE_tupD {r : List (Bool × ME)} : wE (mTupD r ρ) Q X = wDl (evD r ρ) (fun ds ρ1 => ds.length ≤ sizeLine ∧ Q (.tuple ds) ρ1) X := by
  unfold mTupD
  cases evD r ρ with
  | ok ds ρ1 =>
    simp only [wDl]
    by_cases h : ds.length ≤ sizeLine <;> simp [h, wE]
  | _ => rfl
theorem vo_sortT {xs : List Str} {K : D → Prop} : wV (oSortA [.tuple (xs.map .str)]) K = K (.list ((sortStr xs).map .str)) := by
  have e : oSortT [.tuple (xs.map .str)] = some (.list ((sortStr xs).map .str)) := by
    show ((allStr (xs.map .str)).map fun bs => PyData.list ((sortStr bs).map PyData.str)) = _
    rw [allStr_map]; rfl
  have e1 : oSort [PyData.tuple (xs.map .str)] = none := rfl
  have e2 : oSortK [PyData.tuple (xs.map .str)] = none := rfl
  unfold oSortA
  rw [e1]
  simp only []
  rw [e2]
  simp only []
  rw [e]; rfl
theorem u_extend {es zs : List D} {K : List D × D → Prop} : wV (uExtend es [.list zs]) K = (es.length + zs.length ≤ sizeLine ∧ K (es ++ zs, .none)) := by
  by_cases h : es.length + zs.length ≤ sizeLine <;> simp [uExtend, h, wV]
end
end Mr

namespace K15
open PySem PySem.Spec PyProof.Rows L2 Mr
def xn : XN := [("Unknown", ["what", "name"]), ("NoDeed", ["index", "way", "cause"])]
noncomputable def b_store : MS :=
  (sRt (mLst [(.ex (mLc (mItS 0) (.nm 1) [1] (mC (.bool true)) (mApp oInt [(.ex (mVar 1))]))), (.ex (mC (.int 0))), (.ex (mC (.int 0))), (.ex (mC (.int 0))), (.ex (mC (.int 0)))]))
noncomputable def m_store : Fn := runFn 2 [] true b_store
noncomputable def b_take : MS :=
  (sSeq (sIf (mApp cLt [(.sl 1), (.ex (mC (.int 2)))])
  (sRt (mC (.int 0)))
  sNx)
  (sSeq (sIf (mAnd (mApp oEq [(.ex (mApp oIx [(.sl 0), (.ex (mC (.int 3)))])), (.ex (mC (.int 0)))]) (mApp cLt [(.ex (mApp oIx [(.sl 0), (.ex (mC (.int 1)))])), (.ex (mApp oLen [(.ex (mApp oIx [(.sl 0), (.ex (mC (.int 0)))]))]))]))
  (sSeq (sSet 4 (mApp oIx [(.ex (mApp oIx [(.sl 0), (.ex (mC (.int 0)))])), (.ex (mApp oIx [(.sl 0), (.ex (mC (.int 1)))]))]))
  (sSeq (sSub 0 (.ex (mC (.int 1))) (mApp oAdd [(.ex (mApp oIx [(.sl 0), (.ex (mC (.int 1)))])), (.ex (mC (.int 1)))]))
  (sSeq (sSub 0 (.ex (mC (.int 2))) (mApp oMod [(.ex (mApp oInt [(.ex (mApp oAdd [(.ex (mApp oAdd [(.ex (mApp oMul [(.ex (mApp oIx [(.sl 0), (.ex (mC (.int 2)))])), (.ex (mC (.int 31)))])), (.ex (mVar 4))])), (.ex (mC (.int 5)))]))])), (.ex (mC (.int 1000003)))]))
  (sIf (mApp cGe [(.ex (mVar 4)), (.ex (mApp oPow [(.ex (mC (.int 10))), (.ex (mC (.int 18)))]))])
  (sSub 0 (.ex (mC (.int 3))) (mVar 4))
  sNx))))
  sNx)
  (sSeq (sIf (mApp cGt [(.ex (mApp oIx [(.sl 0), (.ex (mC (.int 3)))])), (.ex (mC (.int 0)))])
  (sSeq (sSet 5 (mApp oMod [(.ex (mApp oInt [(.ex (mApp oIx [(.sl 0), (.ex (mC (.int 3)))]))])), (.sl 1)]))
  (sSeq (sSub 0 (.ex (mC (.int 3))) (mApp oDiv [(.ex (mApp oIx [(.sl 0), (.ex (mC (.int 3)))])), (.sl 1)]))
  (sRt (mVar 5))))
  sNx)
  (sSeq (sSub 0 (.ex (mC (.int 4))) (mApp oAdd [(.ex (mApp oIx [(.sl 0), (.ex (mC (.int 4)))])), (.ex (mC (.int 1)))]))
  (sSeq (sSet 2 (mApp oMod [(.ex (mApp oInt [(.ex (mApp oAdd [(.ex (mApp oAdd [(.ex (mApp oMul [(.ex (mApp oIx [(.sl 0), (.ex (mC (.int 2)))])), (.ex (mC (.int 7919)))])), (.ex (mApp oMul [(.ex (mApp oIx [(.sl 0), (.ex (mC (.int 4)))])), (.ex (mC (.int 104729)))]))])), (.ex (mC (.int 17)))]))])), (.ex (mC (.int 1000003)))]))
  (sSeq (sSet 3 (mApp oMod [(.ex (mApp oInt [(.ex (mApp oAdd [(.ex (mApp oMul [(.ex (mApp oAdd [(.ex (mVar 2)), (.ex (mC (.int 101)))])), (.ex (mApp oAdd [(.ex (mApp oDiv [(.ex (mVar 2)), (.ex (mC (.int 1000)))])), (.ex (mC (.int 37)))]))])), (.ex (mVar 2))]))])), (.ex (mC (.int 999983)))]))
  (sRt (mApp oMod [(.ex (mApp oInt [(.ex (mVar 3))])), (.sl 1)]))))))))
noncomputable def m_take : Fn := runFn 6 [0] false b_take
noncomputable def b_one : MS :=
  (sRt (mApp oIx [(.sl 1), (.ex (mCall m_take [0] [(.sl 0), (.ex (mApp oLen [(.sl 1)]))]))]))
noncomputable def m_one : Fn := runFn 2 [0] false b_one
noncomputable def b_range : MS :=
  (sRt (mApp oAdd [(.sl 1), (.ex (mCall m_take [0] [(.sl 0), (.ex (mApp oAdd [(.ex (mApp oSub [(.sl 2), (.sl 1)])), (.ex (mC (.int 1)))]))]))]))
noncomputable def m_range : Fn := runFn 3 [0] false b_range
noncomputable def b_name : MS :=
  (sSeq (sSet 1 (mC (.str "abcdefghijklmnopqrstuvwxyz")))
  (sSeq (sSet 2 (mApp oAdd [(.ex (mVar 1)), (.ex (mC (.str "0123456789")))]))
  (sSeq (sSet 3 (mCall m_take [0] [(.sl 0), (.ex (mC (.int 6)))]))
  (sSeq (sIf (mApp oEq [(.ex (mVar 3)), (.ex (mC (.int 0)))])
  (sRt (mApp oIx [(.ex (mVar 1)), (.ex (mCall m_take [0] [(.sl 0), (.ex (mC (.int 26)))]))]))
  sNx)
  (sSeq (sIf (mApp oEq [(.ex (mVar 3)), (.ex (mC (.int 1)))])
  (sRt (mApp oAdd [(.ex (mApp oIx [(.ex (mC (.str "abuwz"))), (.ex (mCall m_take [0] [(.sl 0), (.ex (mC (.int 5)))]))])), (.ex (mApp oIx [(.ex (mC (.str "0123456789"))), (.ex (mCall m_take [0] [(.sl 0), (.ex (mC (.int 10)))]))]))]))
  sNx)
  (sSeq (sIf (mApp oEq [(.ex (mVar 3)), (.ex (mC (.int 2)))])
  (sRt (mCall m_one [0] [(.sl 0), (.ex (mLst [(.ex (mC (.str "by"))), (.ex (mC (.str "to"))), (.ex (mC (.str "seq"))), (.ex (mC (.str "while"))), (.ex (mC (.str "until"))), (.ex (mC (.str "each"))), (.ex (mC (.str "as"))), (.ex (mC (.str "place"))), (.ex (mC (.str "way"))), (.ex (mC (.str "walkers"))), (.ex (mC (.str "walker"))), (.ex (mC (.str "b0"))), (.ex (mC (.str "b1"))), (.ex (mC (.str "f0"))), (.ex (mC (.str "s0"))), (.ex (mC (.str "s1"))), (.ex (mC (.str "none"))), (.ex (mC (.str "a"))), (.ex (mC (.str "a0"))), (.ex (mC (.str "a00"))), (.ex (mC (.str "aa"))), (.ex (mC (.str "z"))), (.ex (mC (.str "zz"))), (.ex (mC (.str "zzzzzzzz")))]))]))
  sNx)
  (sSeq (sIf (mApp oEq [(.ex (mVar 3)), (.ex (mC (.int 5)))])
  (sSeq (sSet 4 (mCall m_range [0] [(.sl 0), (.ex (mC (.int 2))), (.ex (mC (.int 8)))]))
  (sSeq (sSet 7 (mCall m_take [0] [(.sl 0), (.ex (mVar 4))]))
  (sSeq (sSet 8 (mApp oIx [(.ex (mVar 1)), (.ex (mCall m_take [0] [(.sl 0), (.ex (mC (.int 26)))]))]))
  (sSeq (sIf (mApp cGt [(.ex (mVar 7)), (.ex (mC (.int 0)))])
  (sSet 8 (mApp oIx [(.ex (mVar 2)), (.ex (mCall m_take [0] [(.sl 0), (.ex (mC (.int 36)))]))]))
  sNx)
  (sRt (mApp oAdd [(.ex (mApp oAdd [(.ex (mSl (.ex (mC (.str "aaaaaaaa"))) none (some (.ex (mVar 7))))), (.ex (mVar 8))])), (.ex (mSl (.ex (mC (.str "aaaaaaaa"))) none (some (.ex (mApp oSub [(.ex (mApp oSub [(.ex (mVar 4)), (.ex (mC (.int 1)))])), (.ex (mVar 7))])))))]))))))
  sNx)
  (sSeq (sSet 4 (mC (.int 8)))
  (sSeq (sIf (mApp oEq [(.ex (mVar 3)), (.ex (mC (.int 3)))])
  (sSet 4 (mCall m_range [0] [(.sl 0), (.ex (mC (.int 1))), (.ex (mC (.int 8)))]))
  sNx)
  (sSeq (sSet 5 (mApp oIx [(.ex (mVar 1)), (.ex (mCall m_take [0] [(.sl 0), (.ex (mC (.int 26)))]))]))
  (sSeq (sFor (mRng [(.ex (mApp oSub [(.ex (mVar 4)), (.ex (mC (.int 1)))]))]) (.nm 6)
  (sSet 5 (mApp oAdd [(.ex (mVar 5)), (.ex (mApp oIx [(.ex (mVar 2)), (.ex (mCall m_take [0] [(.sl 0), (.ex (mC (.int 36)))]))]))])))
  (sRt (mVar 5)))))))))))))
noncomputable def m_name : Fn := runFn 9 [0] false b_name
noncomputable def b_new_name : MS :=
  (sSeq (sSet 2 (mC (.str "abcdefghijklmnopqrstuvwxyz0123456789")))
  (sSeq (sSet 3 (mCall m_name [0] [(.sl 0)]))
  (sSeq (sSet 4 (mSl (.ex (mVar 3)) none (some (.ex (mC (.int 6))))))
  (sSeq (sFor (mRng [(.ex (mApp oAdd [(.ex (mApp oLen [(.sl 1)])), (.ex (mC (.int 1)))]))]) (.nm 5)
  (sSeq (sIf (mApp oNotIn [(.ex (mVar 3)), (.sl 1)])
  (sRt (mVar 3))
  sNx)
  (sSet 3 (mApp oAdd [(.ex (mApp oAdd [(.ex (mVar 4)), (.ex (mApp oIx [(.ex (mVar 2)), (.ex (mApp oMod [(.ex (mApp oInt [(.ex (mApp oDiv [(.ex (mVar 5)), (.ex (mC (.int 36)))]))])), (.ex (mC (.int 36)))]))]))])), (.ex (mApp oIx [(.ex (mVar 2)), (.ex (mApp oMod [(.ex (mApp oInt [(.ex (mVar 5))])), (.ex (mC (.int 36)))]))]))]))))
  (sRt (mVar 3))))))
noncomputable def m_new_name : Fn := runFn 6 [0] false b_new_name
noncomputable def b_fresh : MS :=
  (sSeq (sSet 2 (mLst []))
  (sSeq (sFor (mRng [(.sl 1)]) (.nm 3)
  (sEx (mMutV 2 uAppend [(.ex (mCall m_new_name [0] [(.sl 0), (.sl 2)]))])))
  (sRt (mVar 2))))
noncomputable def m_fresh : Fn := runFn 4 [0] true b_fresh
noncomputable def b_build : MS :=
  (sSeq (sSet 4 (mLst []))
  (sSeq (sSet 5 (mLst []))
  (sSeq (sFor (mIt (mApp oSortA [(.sl 1)])) (.nm 6)
  (sSeq (sSet 9 (mApp oSortA [(.ex (mLst [(.ex (mApp oIx [(.ex (mVar 6)), (.ex (mC (.int 1)))])), (.ex (mApp oIx [(.ex (mVar 6)), (.ex (mC (.int 2)))]))]))]))
  (sSeq (sEx (mMutV 4 uAppend [(.ex (mTup [(.ex (mApp oIx [(.ex (mVar 6)), (.ex (mC (.int 0)))])), (.ex (mApp oIx [(.ex (mVar 9)), (.ex (mC (.int 0)))])), (.ex (mApp oIx [(.ex (mVar 9)), (.ex (mC (.int 1)))]))]))]))
  (sEx (mMutV 5 uAppend [(.ex (mApp oIx [(.ex (mVar 6)), (.ex (mC (.int 2)))]))])))))
  (sSeq (sSet 7 (mLst []))
  (sSeq (sFor (mIt (mApp oSortA [(.sl 0)])) (.nm 8)
  (sSeq (sSet 10 (mApp oSumA [(.ex (mLc (mItS 2) (.nm 9) [9] (mApp oEq [(.ex (mApp oIx [(.ex (mVar 9)), (.ex (mC (.int 0)))])), (.ex (mVar 8))]) (mApp oIx [(.ex (mVar 9)), (.ex (mC (.int 1)))])))]))
  (sEx (mMutV 7 uAppend [(.ex (mTup [(.ex (mVar 10)), (.ex (mApp oTuple [(.ex (mApp oSortA [(.ex (mLc (mItS 3) (.nm 9) [9] (mApp oEq [(.ex (mApp oIx [(.ex (mVar 9)), (.ex (mC (.int 1)))])), (.ex (mVar 8))]) (mApp oIx [(.ex (mVar 9)), (.ex (mC (.int 0)))])))]))]))]))]))))
  (sRt (mTup [(.ex (mTup [(.ex (mApp oTuple [(.ex (mApp oSortA [(.sl 0)]))])), (.ex (mApp oTuple [(.sl 4)]))])), (.ex (mApp oTuple [(.sl 5)])), (.ex (mApp oTuple [(.sl 7)]))])))))))
noncomputable def m_build : Fn := runFn 11 [] false b_build
noncomputable def b_upto : MS :=
  (sSeq (sSet 3 (mCall m_take [0] [(.sl 0), (.ex (mC (.int 6)))]))
  (sSeq (sIf (mApp oEq [(.ex (mVar 3)), (.ex (mC (.int 0)))])
  (sRt (mVar 1))
  sNx)
  (sSeq (sIf (mApp oEq [(.ex (mVar 3)), (.ex (mC (.int 1)))])
  (sRt (mApp oMax2 [(.ex (mVar 1)), (.sl 2)]))
  sNx)
  (sRt (mCall m_range [0] [(.sl 0), (.ex (mVar 1)), (.sl 2)])))))
noncomputable def m_upto : Fn := runFn 4 [0] false b_upto
noncomputable def b_some : MS :=
  (sSeq (sSet 3 (mApp oList [(.sl 1)]))
  (sSeq (sSet 4 (mLst []))
  (sSeq (sFor (mRng [(.ex (mApp oMin2 [(.sl 2), (.ex (mApp oLen [(.sl 3)]))]))]) (.nm 5)
  (sEx (mMutV 4 uAppend [(.ex (mMutV 3 uPopAt [(.ex (mCall m_take [0] [(.sl 0), (.ex (mApp oLen [(.sl 3)]))]))]))])))
  (sRt (mVar 4)))))
noncomputable def m_some : Fn := runFn 6 [0] true b_some
noncomputable def b_drawn : MS :=
  (sSeq (sSet 1 (mLst [(.ex (mTup [(.ex (mC (.int 5))), (.ex (mC (.int 7))), (.ex (mC (.int 4)))])), (.ex (mTup [(.ex (mC (.int 3))), (.ex (mC (.int 14))), (.ex (mC (.int 3)))])), (.ex (mTup [(.ex (mC (.int 10))), (.ex (mC (.int 14))), (.ex (mC (.int 8)))])), (.ex (mTup [(.ex (mC (.int 2))), (.ex (mC (.int 4))), (.ex (mC (.int 3)))])), (.ex (mTup [(.ex (mC (.int 10))), (.ex (mC (.int 6))), (.ex (mC (.int 3)))])), (.ex (mTup [(.ex (mC (.int 4))), (.ex (mC (.int 5))), (.ex (mC (.int 5)))])), (.ex (mTup [(.ex (mC (.int 3))), (.ex (mC (.int 4))), (.ex (mC (.int 8)))])), (.ex (mTup [(.ex (mC (.int 5))), (.ex (mC (.int 7))), (.ex (mC (.int 4)))]))]))
  (sSeq (sSet 2 (mCall m_one [0] [(.sl 0), (.ex (mVar 1))]))
  (sSeq (sSet 3 (mCall m_take [0] [(.sl 0), (.ex (mC (.int 8)))]))
  (sSeq (sSet 4 (mApp oInt [(.ex (mApp cGt [(.ex (mVar 3)), (.ex (mC (.int 1)))]))]))
  (sSeq (sSet 5 (mCall m_fresh [0] [(.sl 0), (.ex (mCall m_upto [0] [(.sl 0), (.ex (mC (.int 2))), (.ex (mApp oIx [(.ex (mVar 2)), (.ex (mC (.int 0)))]))]))]))
  (sSeq (sSet 6 (mLst []))
  (sSeq (sFor (mIt (mCall m_fresh [0] [(.sl 0), (.ex (mCall m_upto [0] [(.sl 0), (.ex (mVar 4)), (.ex (mApp oIx [(.ex (mVar 2)), (.ex (mC (.int 1)))]))]))])) (.nm 7)
  (sSeq (sSet 11 (mCall m_some [0] [(.sl 0), (.ex (mVar 5)), (.ex (mC (.int 2)))]))
  (sSeq (sIf (mApp oEq [(.ex (mVar 3)), (.ex (mC (.int 2)))])
  (sSet 11 (mCall m_some [0] [(.sl 0), (.ex (mSl (.ex (mVar 5)) none (some (.ex (mC (.int 2)))))), (.ex (mC (.int 2)))]))
  sNx)
  (sEx (mMutV 6 uAppend [(.ex (mTup [(.ex (mVar 7)), (.ex (mApp oIx [(.ex (mVar 11)), (.ex (mC (.int 0)))])), (.ex (mApp oIx [(.ex (mVar 11)), (.ex (mC (.int 1)))]))]))])))))
  (sSeq (sSet 8 (mLc (mRng [(.ex (mCall m_upto [0] [(.sl 0), (.ex (mVar 4)), (.ex (mApp oIx [(.ex (mVar 2)), (.ex (mC (.int 2)))]))]))]) (.nm 12) [12] (mC (.bool true)) (mCall m_one [0] [(.sl 0), (.ex (mVar 5))])))
  (sSeq (sIf (mApp oEq [(.ex (mVar 4)), (.ex (mC (.int 1)))])
  (sSub 8 (.ex (mC (.int 0))) (mApp oIx [(.ex (mApp oIx [(.sl 6), (.ex (mC (.int 0)))])), (.ex (mC (.int 1)))]))
  sNx)
  (sSeq (sIf (mApp oEq [(.ex (mVar 3)), (.ex (mC (.int 3)))])
  (sSet 8 (mLc (mItS 8) (.nm 13) [13] (mC (.bool true)) (mApp oIx [(.sl 8), (.ex (mC (.int 0)))])))
  sNx)
  (sSeq (sSet 9 (mCall m_fresh [0] [(.sl 0), (.ex (mCall m_upto [0] [(.sl 0), (.ex (mC (.int 0))), (.ex (mApp oLen [(.sl 8)]))]))]))
  (sSeq (sSet 10 (mLc (mRng [(.ex (mApp oLen [(.ex (mVar 9))]))]) (.nm 12) [12] (mC (.bool true)) (mTup [(.ex (mApp oIx [(.ex (mVar 9)), (.ex (mVar 12))])), (.ex (mApp oIx [(.sl 8), (.ex (mVar 12))]))])))
  (sRt (mCall m_build [] [(.ex (mVar 5)), (.sl 6), (.ex (mLc (mIt (mSl (.sl 8) (some (.ex (mApp oLen [(.ex (mVar 9))]))) none)) (.nm 13) [13] (mC (.bool true)) (mTup [(.ex (mVar 13)), (.ex (mC (.int 1)))]))), (.ex (mVar 10))]))))))))))))))
noncomputable def m_drawn : Fn := runFn 14 [0] false b_drawn
noncomputable def b_same : MS :=
  (sSeq (sSet 2 (mLst [(.ex (mTup [(.ex (mVar 0)), (.ex (mVar 1))]))]))
  (sSeq (sFor (mRng [(.ex (mC (.int 200000)))]) (.nm 3)
  (sSeq (sIf (mApp oEq [(.ex (mApp oLen [(.sl 2)])), (.ex (mC (.int 0)))])
  (sRt (mC (.bool true)))
  sNx)
  (sSeq (sSet 4 (mMutV 2 uPop []))
  (sSeq (sSet 5 (mApp oIx [(.ex (mVar 4)), (.ex (mC (.int 0)))]))
  (sSeq (sSet 6 (mApp oIx [(.ex (mVar 4)), (.ex (mC (.int 1)))]))
  (sIf (mOr (mApp tru [(.ex (mApp (oIsK isTup) [(.ex (mVar 6))]))]) (mApp tru [(.ex (mApp (oIsK isLst) [(.ex (mVar 6))]))]))
  (sSeq (sIf (mOr (mApp oNe [(.ex (mApp (oIsK isTup) [(.ex (mVar 6))])), (.ex (mApp (oIsK isTup) [(.ex (mVar 5))]))]) (mApp oNe [(.ex (mApp (oIsK isLst) [(.ex (mVar 6))])), (.ex (mApp (oIsK isLst) [(.ex (mVar 5))]))]))
  (sRt (mC (.bool false)))
  sNx)
  (sSeq (sIf (mApp oNe [(.ex (mApp oLen [(.ex (mVar 5))])), (.ex (mApp oLen [(.ex (mVar 6))]))])
  (sRt (mC (.bool false)))
  sNx)
  (sFor (mRng [(.ex (mApp oLen [(.ex (mVar 6))]))]) (.nm 7)
  (sEx (mMutV 2 uAppend [(.ex (mTup [(.ex (mApp oIx [(.ex (mVar 5)), (.ex (mVar 7))])), (.ex (mApp oIx [(.ex (mVar 6)), (.ex (mVar 7))]))]))])))))
  (sIf (mApp tru [(.ex (mApp (oIsK isStr) [(.ex (mVar 6))]))])
  (sIf (mOr (mNot (mApp tru [(.ex (mApp (oIsK isStr) [(.ex (mVar 5))]))])) (mApp oNe [(.ex (mVar 5)), (.ex (mVar 6))]))
  (sRt (mC (.bool false)))
  sNx)
  (sIf (mApp oIs [(.ex (mVar 6)), (.ex (mC .none))])
  (sIf (mApp oIsNot [(.ex (mVar 5)), (.ex (mC .none))])
  (sRt (mC (.bool false)))
  sNx)
  (sIf (mOr (mApp oIs [(.ex (mVar 6)), (.ex (mC (.bool true)))]) (mApp oIs [(.ex (mVar 6)), (.ex (mC (.bool false)))]))
  (sIf (mOr (mAnd (mApp oIs [(.ex (mVar 6)), (.ex (mC (.bool true)))]) (mApp oIsNot [(.ex (mVar 5)), (.ex (mC (.bool true)))])) (mAnd (mApp oIs [(.ex (mVar 6)), (.ex (mC (.bool false)))]) (mApp oIsNot [(.ex (mVar 5)), (.ex (mC (.bool false)))])))
  (sRt (mC (.bool false)))
  sNx)
  (sIf (mOr (mNot (mApp tru [(.ex (mApp (oIsK isInt) [(.ex (mVar 5))]))])) (mOr (mApp tru [(.ex (mApp (oIsK isBool) [(.ex (mVar 5))]))]) (mApp oNe [(.ex (mVar 5)), (.ex (mVar 6))])))
  (sRt (mC (.bool false)))
  sNx))))))))))
  (sRt (mApp oEq [(.ex (mApp oLen [(.sl 2)])), (.ex (mC (.int 0)))]))))
noncomputable def m_same : Fn := runFn 8 [] false b_same
noncomputable def b_tail : MS :=
  (sSeq (sSet 2 (mApp oIx [(.ex (mApp oIx [(.ex (mApp oIx [(.sl 0), (.ex (mC (.int 0)))])), (.ex (mC (.int 1)))])), (.sl 1)]))
  (sSeq (sIf (mApp oEq [(.ex (mApp oIx [(.ex (mApp oIx [(.sl 0), (.ex (mC (.int 1)))])), (.sl 1)])), (.ex (mApp oIx [(.ex (mVar 2)), (.ex (mC (.int 1)))]))])
  (sRt (mApp oIx [(.ex (mVar 2)), (.ex (mC (.int 2)))]))
  sNx)
  (sRt (mApp oIx [(.ex (mVar 2)), (.ex (mC (.int 1)))]))))
noncomputable def m_tail : Fn := runFn 3 [] false b_tail
noncomputable def b_links : MS :=
  (sRt (mLc (mRng [(.ex (mApp oLen [(.ex (mApp oIx [(.sl 0), (.ex (mC (.int 1)))]))]))]) (.nm 1) [1] (mC (.bool true)) (mTup [(.ex (mApp oIx [(.ex (mApp oIx [(.ex (mApp oIx [(.ex (mApp oIx [(.sl 0), (.ex (mC (.int 0)))])), (.ex (mC (.int 1)))])), (.ex (mVar 1))])), (.ex (mC (.int 0)))])), (.ex (mCall m_tail [] [(.sl 0), (.ex (mVar 1))])), (.ex (mApp oIx [(.ex (mApp oIx [(.sl 0), (.ex (mC (.int 1)))])), (.ex (mVar 1))]))])))
noncomputable def m_links : Fn := runFn 2 [] true b_links
noncomputable def b_plain : MS :=
  (sRt (mLc (mRng [(.ex (mApp oLen [(.ex (mApp oIx [(.sl 0), (.ex (mC (.int 2)))]))]))]) (.nm 1) [1] (mC (.bool true)) (mTup [(.ex (mApp oIx [(.ex (mApp oIx [(.ex (mApp oIx [(.sl 0), (.ex (mC (.int 0)))])), (.ex (mC (.int 0)))])), (.ex (mVar 1))])), (.ex (mApp oIx [(.ex (mApp oIx [(.ex (mApp oIx [(.sl 0), (.ex (mC (.int 2)))])), (.ex (mVar 1))])), (.ex (mC (.int 0)))]))])))
noncomputable def m_plain : Fn := runFn 2 [] true b_plain
noncomputable def b_homes : MS :=
  (sSeq (sSet 1 (mLst []))
  (sSeq (sFor (mRng [(.ex (mApp oLen [(.ex (mApp oIx [(.sl 0), (.ex (mC (.int 2)))]))]))]) (.nm 2)
  (sFor (mIt (mApp oIx [(.ex (mApp oIx [(.ex (mApp oIx [(.sl 0), (.ex (mC (.int 2)))])), (.ex (mVar 2))])), (.ex (mC (.int 1)))])) (.nm 3)
  (sEx (mMutV 1 uAppend [(.ex (mTup [(.ex (mVar 3)), (.ex (mApp oIx [(.ex (mApp oIx [(.ex (mApp oIx [(.sl 0), (.ex (mC (.int 0)))])), (.ex (mC (.int 0)))])), (.ex (mVar 2))]))]))]))))
  (sRt (mApp oSortA [(.sl 1)]))))
noncomputable def m_homes : Fn := runFn 4 [] true b_homes
noncomputable def b_after : MS :=
  (sSeq (sSet 2 (mLst []))
  (sSeq (sSet 3 (mTup [(.ex (mC (.str ""))), (.ex (mC (.str "")))]))
  (sSeq (sFor (mIt (mCall m_links [] [(.sl 0)])) (.nm 4)
  (sIf (mApp oEq [(.ex (mApp oIx [(.ex (mVar 4)), (.ex (mC (.int 0)))])), (.ex (mApp oIx [(.sl 1), (.ex (mC (.int 0)))]))])
  (sSeq (sSet 3 (mTup [(.ex (mApp oIx [(.ex (mVar 4)), (.ex (mC (.int 1)))])), (.ex (mApp oIx [(.ex (mVar 4)), (.ex (mC (.int 2)))]))]))
  (sEx (mMutV 2 uAppend [(.ex (mTup [(.ex (mApp oIx [(.ex (mVar 4)), (.ex (mC (.int 0)))])), (.ex (mApp oIx [(.ex (mVar 4)), (.ex (mC (.int 2)))])), (.ex (mApp oIx [(.ex (mVar 4)), (.ex (mC (.int 1)))]))]))])))
  (sEx (mMutV 2 uAppend [(.ex (mVar 4))]))))
  (sSeq (sSet 5 (mCall m_plain [] [(.sl 0)]))
  (sSeq (sSet 6 (mCall m_homes [] [(.sl 0)]))
  (sSeq (sIf (mApp oIs [(.ex (mApp oIx [(.sl 1), (.ex (mC (.int 1)))])), (.ex (mC .none))])
  (sSet 5 (mApp oAdd [(.ex (mVar 5)), (.ex (mLst [(.ex (mTup [(.ex (mApp oIx [(.ex (mVar 3)), (.ex (mC (.int 0)))])), (.ex (mApp oNeg [(.ex (mC (.int 1)))]))])), (.ex (mTup [(.ex (mApp oIx [(.ex (mVar 3)), (.ex (mC (.int 1)))])), (.ex (mC (.int 1)))]))]))]))
  (sSet 6 (mApp oAdd [(.ex (mLc (mIt (mVar 6)) (.nm 7) [7] (mApp oNe [(.ex (mApp oIx [(.ex (mVar 7)), (.ex (mC (.int 0)))])), (.ex (mApp oIx [(.sl 1), (.ex (mC (.int 1)))]))]) (mVar 7))), (.ex (mLst [(.ex (mTup [(.ex (mApp oIx [(.sl 1), (.ex (mC (.int 1)))])), (.ex (mApp oIx [(.ex (mVar 3)), (.ex (mC (.int 1)))]))]))]))])))
  (sRt (mCall m_build [] [(.ex (mApp oIx [(.ex (mApp oIx [(.sl 0), (.ex (mC (.int 0)))])), (.ex (mC (.int 0)))])), (.sl 2), (.ex (mVar 5)), (.ex (mVar 6))]))))))))
noncomputable def m_after : Fn := runFn 8 [] false b_after
noncomputable def b_way_names : MS :=
  (sRt (mLc (mIt (mApp oIx [(.sl 0), (.ex (mC (.int 1)))])) (.nm 1) [1] (mC (.bool true)) (mApp oIx [(.ex (mVar 1)), (.ex (mC (.int 0)))])))
noncomputable def m_way_names : Fn := runFn 2 [] true b_way_names
noncomputable def b_name_spots : MS :=
  (sRt (mApp oSortA [(.ex (mLc2 (mZip [(.ex (mApp oIx [(.ex (mApp oIx [(.sl 0), (.ex (mC (.int 0)))])), (.ex (mC (.int 0)))])), (.ex (mApp oIx [(.sl 0), (.ex (mC (.int 2)))]))]) (.tup [(.nm 2), (.tup [(.nm 3), (.nm 4)])]) [2, 3, 4, 1] (mC (.bool true)) (mIt (mVar 4)) (.nm 1) (mC (.bool true)) (mTup [(.ex (mVar 1)), (.ex (mVar 2))])))]))
noncomputable def m_name_spots : Fn := runFn 5 [] true b_name_spots
noncomputable def b_walker_names : MS :=
  (sRt (mLc (mIt (mCall m_name_spots [] [(.sl 0)])) (.tup [(.nm 1), (.nm 2)]) [1, 2] (mC (.bool true)) (mVar 1)))
noncomputable def m_walker_names : Fn := runFn 3 [] true b_walker_names
noncomputable def b_check_deeds : MS :=
  (sSeq (sSet 2 (mCall m_way_names [] [(.ex (mApp oIx [(.sl 0), (.ex (mC (.int 0)))]))]))
  (sSeq (sSet 3 (mCall m_walker_names [] [(.sl 0)]))
  (sFor (mItS 1) (.tup [(.nm 4), (.nm 5)])
  (sSeq (sIf (mApp oNotIn [(.ex (mVar 4)), (.ex (mVar 2))])
  (sRaise "Unknown" ["name", "what"] [(.ex (mC (.str "way"))), (.ex (mVar 4))])
  sNx)
  (sIf (mAnd (mApp oIsNot [(.ex (mVar 5)), (.ex (mC .none))]) (mApp oNotIn [(.ex (mVar 5)), (.ex (mVar 3))]))
  (sRaise "Unknown" ["name", "what"] [(.ex (mC (.str "walker"))), (.ex (mVar 5))])
  sNx)))))
noncomputable def m_check_deeds : Fn := runFn 6 [] false b_check_deeds
noncomputable def b_crowd_at : MS :=
  (sRt (mApp oIx [(.ex (mApp oIx [(.sl 0), (.ex (mC (.int 2)))])), (.ex (mAsk fIndex (.ex (mApp oIx [(.ex (mApp oIx [(.sl 0), (.ex (mC (.int 0)))])), (.ex (mC (.int 0)))])) (.sl 1)))]))
noncomputable def m_crowd_at : Fn := runFn 2 [] false b_crowd_at
noncomputable def b_arrows_to : MS :=
  (sSeq (sSet 2 (mLst []))
  (sSeq (sFor (mZip [(.ex (mApp oIx [(.sl 0), (.ex (mC (.int 1)))])), (.sl 1)]) (.tup [(.tup [(.nm 4), (.nm 5), (.nm 6)]), (.nm 3)])
  (sEx (mMutV 2 uAppend [(.ex (mTup [(.ex (mVar 4)), (.ex (mIfE (mApp oEq [(.ex (mVar 3)), (.ex (mVar 5))]) (mVar 6) (mVar 5))), (.ex (mVar 3))]))])))
  (sRt (mVar 2))))
noncomputable def m_arrows_to : Fn := runFn 7 [] true b_arrows_to
noncomputable def b_arrows : MS :=
  (sRt (mCall m_arrows_to [] [(.ex (mApp oIx [(.sl 0), (.ex (mC (.int 0)))])), (.ex (mApp oIx [(.sl 0), (.ex (mC (.int 1)))]))]))
noncomputable def m_arrows : Fn := runFn 1 [] true b_arrows
noncomputable def b_way_at : MS :=
  (sSeq (sSet 2 (mCall m_way_names [] [(.sl 0)]))
  (sSeq (sIf (mApp oNotIn [(.ex (mVar 1)), (.ex (mVar 2))])
  (sRaise "Unknown" ["name", "what"] [(.ex (mC (.str "way"))), (.ex (mVar 1))])
  sNx)
  (sRt (mAsk fIndex (.ex (mVar 2)) (.ex (mVar 1))))))
noncomputable def m_way_at : Fn := runFn 3 [] false b_way_at
noncomputable def b_refusal : MS :=
  (sSeq (sAsg (.tup [(.nm 3), (.nm 4), (.nm 3)]) (mApp oIx [(.ex (mCall m_arrows [] [(.sl 0)])), (.ex (mCall m_way_at [] [(.ex (mApp oIx [(.sl 0), (.ex (mC (.int 0)))])), (.ex (mVar 1))]))]))
  (sSeq (sAsg (.tup [(.nm 5), (.nm 6)]) (mCall m_crowd_at [] [(.sl 0), (.ex (mVar 4))]))
  (sSeq (sIf (mApp oIs [(.sl 2), (.ex (mC .none))])
  (sRt (mIfE (mApp cGt [(.ex (mVar 5)), (.ex (mC (.int 0)))]) (mC .none) (mC (.str "nobody"))))
  sNx)
  (sRt (mIfE (mApp oIn [(.sl 2), (.ex (mVar 6))]) (mC .none) (mC (.str "elsewhere")))))))
noncomputable def m_refusal : Fn := runFn 7 [] false b_refusal
noncomputable def b_without_walker : MS :=
  (sSeq (sAsg (.tup [(.nm 2), (.nm 3)]) (mVar 0))
  (sSeq (sIf (mApp oIs [(.sl 1), (.ex (mC .none))])
  (sRt (mTup [(.ex (mApp oSub [(.ex (mVar 2)), (.ex (mC (.int 1)))])), (.ex (mVar 3))]))
  sNx)
  (sRt (mTup [(.ex (mVar 2)), (.ex (mApp oTuple [(.ex (mLc (mIt (mVar 3)) (.nm 4) [4] (mApp oNe [(.ex (mVar 4)), (.sl 1)]) (mVar 4)))]))]))))
noncomputable def m_without_walker : Fn := runFn 5 [] false b_without_walker
noncomputable def b_with_walker : MS :=
  (sSeq (sAsg (.tup [(.nm 2), (.nm 3)]) (mVar 0))
  (sSeq (sIf (mApp oIs [(.ex (mVar 1)), (.ex (mC .none))])
  (sRt (mTup [(.ex (mApp oAdd [(.ex (mVar 2)), (.ex (mC (.int 1)))])), (.ex (mVar 3))]))
  sNx)
  (sRt (mTup [(.ex (mVar 2)), (.ex (mApp oTuple [(.ex (mApp oSortA [(.ex (mLstD [(true, (mVar 3)), (false, (mVar 1))]))]))]))]))))
noncomputable def m_with_walker : Fn := runFn 4 [] false b_with_walker
noncomputable def b_walked : MS :=
  (sSeq (sAsg (.tup [(.nm 7), (.nm 8), (.nm 9)]) (mVar 0))
  (sSeq (sSet 3 (mCall m_way_at [] [(.ex (mVar 7)), (.ex (mVar 1))]))
  (sSeq (sAsg (.tup [(.nm 10), (.nm 11), (.nm 12)]) (mApp oIx [(.ex (mCall m_arrows [] [(.ex (mVar 0))])), (.ex (mVar 3))]))
  (sSeq (sSet 4 (mApp oIx [(.ex (mVar 7)), (.ex (mC (.int 0)))]))
  (sSeq (sSet 5 (mApp oList [(.ex (mVar 8))]))
  (sSeq (sSub 5 (.ex (mVar 3)) (mVar 11))
  (sSeq (sSet 6 (mApp oList [(.ex (mVar 9))]))
  (sSeq (sSub 6 (.ex (mAsk fIndex (.ex (mVar 4)) (.ex (mVar 11)))) (mCall m_without_walker [] [(.ex (mCall m_crowd_at [] [(.ex (mVar 0)), (.ex (mVar 11))])), (.ex (mVar 2))]))
  (sSeq (sSub 6 (.ex (mAsk fIndex (.ex (mVar 4)) (.ex (mVar 12)))) (mCall m_with_walker [] [(.ex (mCall m_crowd_at [] [(.ex (mVar 0)), (.ex (mVar 12))])), (.ex (mVar 2))]))
  (sRt (mTup [(.ex (mVar 7)), (.ex (mApp oTuple [(.sl 5)])), (.ex (mApp oTuple [(.sl 6)]))])))))))))))
noncomputable def m_walked : Fn := runFn 13 [] false b_walked
noncomputable def b_go : MS :=
  (sSeq (sEx (mCall m_check_deeds [] [(.ex (mVar 0)), (.ex (mLst [(.ex (mTup [(.ex (mVar 1)), (.ex (mVar 2))]))]))]))
  (sSeq (sSet 3 (mCall m_refusal [] [(.ex (mVar 0)), (.ex (mVar 1)), (.ex (mVar 2))]))
  (sSeq (sIf (mApp oIsNot [(.ex (mVar 3)), (.ex (mC .none))])
  (sRaise "NoDeed" ["cause", "way", "index"] [(.ex (mC (.int 0))), (.ex (mVar 1)), (.ex (mVar 3))])
  sNx)
  (sRt (mCall m_walked [] [(.ex (mVar 0)), (.ex (mVar 1)), (.ex (mVar 2))])))))
noncomputable def m_go : Fn := runFn 4 [] false b_go
noncomputable def b_gone : MS :=
  (sSeq (sIf (mAnd (mApp oIs [(.ex (mApp oIx [(.sl 1), (.ex (mC (.int 1)))])), (.ex (mC .none))]) (mApp oEq [(.sl 2), (.ex (mC (.int 0)))]))
  (sRt (mCall m_go [] ([(.ex (mVar 0)), (.ex (mApp oIx [(.sl 1), (.ex (mC (.int 0)))]))] ++ [.none].map fun d => Opd.ex (mC d))))
  sNx)
  (sSeq (sIf (mApp cLt [(.sl 2), (.ex (mC (.int 2)))])
  (sRt (mCall m_go [] [(.ex (mVar 0)), (.ex (mApp oIx [(.sl 1), (.ex (mC (.int 0)))])), (.ex (mApp oIx [(.sl 1), (.ex (mC (.int 1)))]))]))
  sNx)
  (sRt (mCallP m_go [] [2, 1, 0] [] [(.ex (mApp oIx [(.sl 1), (.ex (mC (.int 1)))])), (.ex (mApp oIx [(.sl 1), (.ex (mC (.int 0)))])), (.ex (mVar 0))]))))
noncomputable def m_gone : Fn := runFn 3 [] false b_gone
noncomputable def b_deeds : MS :=
  (sSeq (sSet 1 (mLst []))
  (sSeq (sFor (mRng [(.ex (mApp oLen [(.ex (mApp oIx [(.sl 0), (.ex (mC (.int 1)))]))]))]) (.nm 2)
  (sSeq (sSet 3 (mApp oIx [(.ex (mApp oIx [(.sl 0), (.ex (mC (.int 2)))])), (.ex (mAsk fIndex (.ex (mApp oIx [(.ex (mApp oIx [(.sl 0), (.ex (mC (.int 0)))])), (.ex (mC (.int 0)))])) (.ex (mCall m_tail [] [(.sl 0), (.ex (mVar 2))]))))]))
  (sSeq (sIf (mApp cGt [(.ex (mApp oIx [(.ex (mVar 3)), (.ex (mC (.int 0)))])), (.ex (mC (.int 0)))])
  (sEx (mMutV 1 uAppend [(.ex (mTup [(.ex (mApp oIx [(.ex (mApp oIx [(.ex (mApp oIx [(.ex (mApp oIx [(.sl 0), (.ex (mC (.int 0)))])), (.ex (mC (.int 1)))])), (.ex (mVar 2))])), (.ex (mC (.int 0)))])), (.ex (mC .none))]))]))
  sNx)
  (sFor (mIt (mApp oIx [(.ex (mVar 3)), (.ex (mC (.int 1)))])) (.nm 4)
  (sEx (mMutV 1 uAppend [(.ex (mTup [(.ex (mApp oIx [(.ex (mApp oIx [(.ex (mApp oIx [(.ex (mApp oIx [(.sl 0), (.ex (mC (.int 0)))])), (.ex (mC (.int 1)))])), (.ex (mVar 2))])), (.ex (mC (.int 0)))])), (.ex (mVar 4))]))]))))))
  (sRt (mVar 1))))
noncomputable def m_deeds : Fn := runFn 5 [] true b_deeds
noncomputable def b_moves : MS :=
  (sSeq (sSet 1 (mLst []))
  (sSeq (sFor (mIt (mCall m_arrows [] [(.sl 0)])) (.tup [(.nm 2), (.nm 3), (.nm 4)])
  (sSeq (sAsg (.tup [(.nm 5), (.nm 6)]) (mCall m_crowd_at [] [(.sl 0), (.ex (mVar 3))]))
  (sSeq (sIf (mApp cGt [(.ex (mVar 5)), (.ex (mC (.int 0)))])
  (sEx (mMutV 1 uAppend [(.ex (mTup [(.ex (mVar 2)), (.ex (mC .none))]))]))
  sNx)
  (sEx (mMutV 1 uExtend [(.ex (mLc (mIt (mVar 6)) (.nm 7) [7] (mC (.bool true)) (mTup [(.ex (mVar 2)), (.ex (mVar 7))])))])))))
  (sRt (mVar 1))))
noncomputable def m_moves : Fn := runFn 8 [] true b_moves
noncomputable def b_law : MS :=
  (sSeq (sSet 1 (mCall m_store [] [(.sl 0)]))
  (sSeq (sSet 2 (mCall m_take [1] [(.sl 1), (.ex (mC (.int 3)))]))
  (sSeq (sSet 3 (mCall m_drawn [1] [(.sl 1)]))
  (sSeq (sIf (mApp oEq [(.ex (mApp oLen [(.ex (mCall m_deeds [] [(.ex (mVar 3))]))])), (.ex (mC (.int 0)))])
  (sRt (mCall m_same [] [(.ex (mCall m_moves [] [(.ex (mVar 3))])), (.ex (mLst []))]))
  sNx)
  (sSeq (sSet 4 (mLst [(.ex (mVar 3))]))
  (sSeq (sSet 5 (mLst []))
  (sSeq (sFor (mRng [(.ex (mApp oAdd [(.ex (mC (.int 1))), (.ex (mCall m_take [1] [(.sl 1), (.ex (mC (.int 3)))]))]))]) (.nm 6)
  (sSeq (sSet 7 (mCall m_one [1] [(.sl 1), (.ex (mCall m_deeds [] [(.ex (mApp oIx [(.sl 4), (.ex (mApp oNeg [(.ex (mC (.int 1)))]))]))]))]))
  (sSeq (sSet 8 (mCall m_after [] [(.ex (mApp oIx [(.sl 4), (.ex (mApp oNeg [(.ex (mC (.int 1)))]))])), (.ex (mVar 7))]))
  (sSeq (sSet 9 (mCall m_gone [] [(.ex (mApp oIx [(.sl 4), (.ex (mApp oNeg [(.ex (mC (.int 1)))]))])), (.ex (mVar 7)), (.ex (mVar 2))]))
  (sSeq (sIf (mOr (mNot (mApp tru [(.ex (mCall m_same [] [(.ex (mVar 9)), (.ex (mVar 8))]))])) (mNot (mApp tru [(.ex (mCall m_same [] [(.ex (mCall m_gone [] [(.ex (mVar 9)), (.ex (mVar 7)), (.ex (mC (.int 1)))])), (.ex (mApp oIx [(.sl 4), (.ex (mApp oNeg [(.ex (mC (.int 1)))]))]))]))])))
  (sRt (mC (.bool false)))
  sNx)
  (sSeq (sEx (mMutV 4 uAppend [(.ex (mVar 8))]))
  (sEx (mMutV 5 uAppend [(.ex (mVar 7))]))))))))
  (sSeq (sFor (mIt (mApp oAdd [(.ex (mLst [(.ex (mApp oIx [(.sl 5), (.ex (mC (.int 0)))]))])), (.ex (mCall m_some [1] [(.sl 1), (.ex (mCall m_deeds [] [(.ex (mVar 3))])), (.ex (mC (.int 6)))]))])) (.nm 7)
  (sIf (mNot (mApp tru [(.ex (mCall m_same [] [(.ex (mCall m_gone [] [(.ex (mVar 3)), (.ex (mVar 7)), (.ex (mApp oMod [(.ex (mApp oInt [(.ex (mApp oAdd [(.ex (mVar 2)), (.ex (mC (.int 1)))]))])), (.ex (mC (.int 3)))]))])), (.ex (mCall m_after [] [(.ex (mVar 3)), (.ex (mVar 7))]))]))]))
  (sRt (mC (.bool false)))
  sNx))
  (sRt (mCall m_same [] [(.ex (mCall m_gone [] [(.ex (mApp oIx [(.sl 4), (.ex (mApp oNeg [(.ex (mC (.int 1)))]))])), (.ex (mApp oIx [(.sl 5), (.ex (mApp oNeg [(.ex (mC (.int 1)))]))])), (.ex (mC (.int 2)))])), (.ex (mApp oIx [(.sl 4), (.ex (mApp oNeg [(.ex (mC (.int 2)))]))]))]))))))))))
noncomputable def m_law : Fn := runFn 10 [] false b_law
end K15

namespace K15
open PySem PySem.Spec PyProof.Rows L2 Mr
local macro_rules | `(tactic| walk_at "wp") => `(tactic| simp -implicitDefEqProofs only [↓wE_C, ↓wE_V, ↓wE_app, ↓wA_nil, ↓wA_ex, ↓wA_sl, ↓wR_nil, ↓wR_l, ↓wR_r, ↓dO_nil, ↓dO_l, ↓wE_and, ↓wE_or, ↓wE_not, ↓wE_ifE, ↓wE_tup, ↓wE_lst, ↓wO_ex, ↓wO_sl, ↓r1_l, ↓r1_r, ↓wE_chain, ↓wE_call, ↓wE_callP, setIo_nil, setIo_cons, ↓wS_seq, ↓wS_nx, ↓wS_bk, ↓wS_ct, ↓wS_ex, ↓wS_set, ↓wS_rt, ↓wS_rtN, ↓wS_if, ↓wS_asg, ↓wS_for, ↓asg_nm, ↓asg_tupT, ↓asg_tupL, ↓asgs_nil, ↓asgs_cons, ↓wS_sub, ↓subK_w, ↓wE_mut, ↓wI_any, ↓wI_slot, ↓wG_1, ↓wG_2, ↓ioG_nil, ↓ioG_cons, ↓wV_some, ↓wV_none, ↓wV_map, ↓wB_bool, ↓wE_sl, ↓wE_lc, it_str, it_lst, it_tup, restE_nil, restE_cons, Option.join_none, ↓wP_none, ↓wP_some, ↓wZ_int, Mr.isStr, Mr.isInt, Mr.isBool, Mr.isTup, Mr.isLst, Mr.isNon, Mr.isBl, Mr.noDct, eq_self, not_true_eq_false, not_false_eq_true, beq_self_eq_true, bne_self_eq_false, ↓wLs_list, at0, at1, at2, at3, at4, ix51, ix52, ix53, ix54, Bool.false_eq_true, Bool.true_eq_false, false_implies, true_implies, forall_const, and_true, true_and, ↓vo_addI, ↓vo_addS, ↓vo_addL, ↓vo_addT, ↓vo_addLL, ↓vo_sub, ↓vo_div, ↓vo_mod, ↓vo_pow, ↓vo_neg, ↓vo_mulIL, ↓vo_mulS, ↓vo_mulL, ↓vo_lt, ↓vo_le, ↓vo_gt, ↓vo_ge, ↓vo_eqI, ↓vo_neI, ↓vo_eqS, ↓vo_neS, ↓vo_eqB, ↓vo_neB, ↓vo_isN, ↓vo_isB, ↓vo_isNotN, ↓vo_isNotB, ↓vo_lenL, ↓vo_lenT, ↓vo_lenS, ↓vo_intI, ↓vo_ixL, ↓vo_ixT, ↓vo_ixS, ↓vo_max, ↓vo_min, ↓vo_abs, ↓vo_tupL, ↓vo_tupT, ↓vo_lstL, ↓vo_lstT, ↓vo_truB, ↓vo_truI, ↓vo_truL, ↓vo_truT, ↓vo_isK, ↓vo_inS, ↓vo_notInS, ↓vo_repr, ↓vo_all, ↓vo_any, ↓vo_sum, ↓u_append, ↓u_insert, ↓u_reverse, ↓vo_slL, ↓vo_slT, ↓vo_slS, List.getElem?_cons_zero, List.getElem?_cons_succ, List.set_cons_zero, List.set_cons_succ, Option.join_some, List.map_cons, List.map_nil, List.cons_append, List.nil_append, List.length_cons, List.length_nil, List.replicate, Nat.reduceAdd, Nat.reduceSub, decide_eq_true_eq, decide_eq_false_iff_not, Bool.not_eq_true', Bool.not_eq_false', Bool.not_true, Bool.not_false, permL, List.filterMap_cons, List.filterMap_nil, ↓wS_try, ↓wS_raise, ↓wX_mk, ↓wX_dc, ↓mkX_1, ↓mkX_2, ↓mkX_3, ↓vo_isX, ↓vo_attr, ↓lookD_hd, ↓vo_str, ↓vo_fmtS, ↓vo_fmtI, ↓wE_fs2, ↓wS_augI, empty_app, ↓u_pop2, ↓wI_zip, wZp_2, wKd_l, wKd_t, ↓wE_ask, ↓wE_appIx, ↓wE_nil, ↓wE_lc2, ↓wDl_nil, ↓wDl_f, ↓wDl_t, ↓wSt_l, ↓wSt_t, ↓wE_lstD, ↓wE_tupD, ↓u_extend])

theorem sz_eq : sizeLine = 16777216 := rfl

def Sto (d : D) : Prop := ∃ (cs : List Int) (p : Nat) (a b c : Int), d = .list [.list (cs.map .int), .int p, .int a, .int b, .int c]
theorem fm0 {a n : Int} (h : 0 < n) : 0 ≤ a.fmod n := Int.fmod_nonneg_of_pos a h
theorem fm1 {a n : Int} (h : 0 < n) : a.fmod n < n := Int.fmod_lt_of_pos a h
theorem take_ok {S : D} {n : Int} {QF XF : D → List D → Prop} (hS : Sto S) (hn : n < 1073741824) (h : ∀ r S', Sto S' → 0 ≤ r → r < max n 1 → QF (.int r) [S']) : wF (m_take [S, .int n]) QF XF := by
  obtain ⟨cs, p, a, b, c, rfl⟩ := hS
  have hp : ∀ K : D → Prop, ((p : Int) < ((cs.map PyData.int).length : Int)) → (∀ i, K (.int i)) → wV (atI (cs.map PyData.int) p) K := fun K h1 h2 => by
    refine atI_w (by omega) h1 fun x _ hx => ?_
    obtain ⟨i, _, rfl⟩ := List.mem_map.mp hx
    exact h2 i
  have big : ∀ x : Int, (-18446744073709551616 < x ∧ x < 18446744073709551616 ∨ -18446744073709551616 < 31 ∧ 31 < 18446744073709551616) := fun x => .inr (by decide)
  have fd : ∀ x : Int, 0 ≤ (x.fmod 1000003).fdiv 1000 ∧ (x.fmod 1000003).fdiv 1000 < 1001 := fun x => by
    have h1 := fm0 (a := x) (n := 1000003) (by decide)
    have h2 := fm1 (a := x) (n := 1000003) (by decide)
    rw [Int.fdiv_eq_ediv_of_nonneg _ (by decide)]
    omega
  have big2 : ∀ x : Int, (-18446744073709551616 < x.fmod 1000003 + 101 ∧ x.fmod 1000003 + 101 < 18446744073709551616 ∨ -18446744073709551616 < (x.fmod 1000003).fdiv 1000 + 37 ∧ (x.fmod 1000003).fdiv 1000 + 37 < 18446744073709551616) := fun x => by
    have := fd x
    exact .inr ⟨by omega, by omega⟩
  rw [m_take, wF_run, b_take]
  walk_at "wp"
  repeat' first | (refine And.intro ?_ ?_) | (intro _)
  all_goals try (refine hp _ (by assumption) fun i => ?_)
  all_goals try walk_at "wp"
  all_goals repeat' first | (refine And.intro ?_ ?_) | (intro _)
  all_goals first
    | exact h _ _ ⟨_, _, _, _, _, rfl⟩ (by first | omega | exact fm0 (by omega)) (by first | omega | exact Int.lt_of_lt_of_le (fm1 (by omega)) (by omega))
    | exact h _ _ ⟨cs, p + 1, _, _, _, rfl⟩ (by first | omega | exact fm0 (by omega)) (by first | omega | exact Int.lt_of_lt_of_le (fm1 (by omega)) (by omega))
    | omega
    | decide
    | exact .inr (by decide)
    | exact big2 _

section
variable {S : D} {QF XF : D → List D → Prop}
theorem range_ok {lo hi : Int} (hS : Sto S) (hn : hi - lo + 1 < 1073741824) (hlo : lo ≤ hi) (h : ∀ r S', Sto S' → lo ≤ r → r ≤ hi → QF (.int r) [S']) : wF (m_range [S, .int lo, .int hi]) QF XF := by
  rw [m_range, wF_run, b_range]
  walk_at "wp"
  refine take_ok hS hn fun r S' hS' h0 h1 => ?_
  walk_at "wp"
  exact h _ _ hS' (by omega) (by omega)
end

section
variable {S : D} {QF XF : D → List D → Prop}
theorem upto_ok {lo hi : Int} (hS : Sto S) (hn : hi - lo + 1 < 1073741824) (hlo : lo ≤ hi) (h : ∀ r S', Sto S' → lo ≤ r → r ≤ hi → QF (.int r) [S']) : wF (m_upto [S, .int lo, .int hi]) QF XF := by
  rw [m_upto, wF_run, b_upto]
  walk_at "wp"
  refine take_ok hS (by decide) fun r S' hS' h0 h1 => ?_
  walk_at "wp"
  refine ⟨fun _ => h _ _ hS' (by omega) (by omega), fun _ => ⟨fun _ => h _ _ hS' (by split <;> omega) (by split <;> omega), fun _ => ?_⟩⟩
  refine range_ok hS' hn hlo fun r S' hS' h0 h1 => ?_
  walk_at "wp"
  exact h _ _ hS' h0 h1
end

section
variable {S : D} {QF XF : D → List D → Prop}
theorem one_ok {ds : List D} (hS : Sto S) (hn : 0 < ds.length) (hl : ds.length < 1073741824) (h : ∀ d S', Sto S' → d ∈ ds → QF d [S']) : wF (m_one [S, .list ds]) QF XF := by
  rw [m_one, wF_run, b_one]
  walk_at "wp"
  refine take_ok hS (by omega) fun r S' hS' h0 h1 => ?_
  walk_at "wp"
  exact atI_w h0 (by omega) fun x _ hx => h _ _ hS' hx
end

def smallL : List Nat := (Str.ofString "abcdefghijklmnopqrstuvwxyz").cps.toList
def alnum : List Nat := (Str.ofString "abcdefghijklmnopqrstuvwxyz0123456789").cps.toList
def IsName (x : Str) : Prop := 1 ≤ x.length ∧ x.length ≤ 8 ∧ (∀ c, x.cps.toList[0]? = some c → c ∈ smallL) ∧ ∀ c ∈ x.cps.toList, c ∈ alnum
def nameB (l : List Nat) : Bool := decide (1 ≤ l.length) && decide (l.length ≤ 8) && (match l with | c :: _ => smallL.contains c | [] => false) && l.all fun c => alnum.contains c
theorem isName_of {x : Str} (h : nameB x.cps.toList = true) : IsName x := by
  unfold nameB at h
  simp only [Bool.and_eq_true, decide_eq_true_eq, List.all_eq_true, List.contains_iff_mem] at h
  obtain ⟨⟨⟨h1, h2⟩, h3⟩, h4⟩ := h
  refine ⟨by simpa [Str.length] using h1, by simpa [Str.length] using h2, fun c hc => ?_, fun c hc => h4 c hc⟩
  cases e : x.cps.toList with
  | nil => rw [e] at hc; simp at hc
  | cons a l =>
    rw [e] at hc h3
    simp at hc
    subst hc
    simpa using h3
theorem len_list (x : Str) : x.length = x.cps.toList.length := by simp [Str.length]
theorem toList_app (x y : Str) : (x ++ y).cps.toList = x.cps.toList ++ y.cps.toList := cps_toList_append x y
theorem len_app (x y : Str) : (x ++ y).length = x.length + y.length := by rw [len_list, toList_app, List.length_append, ← len_list, ← len_list]
theorem alnum_ok {x : Str} (h : ∀ c ∈ x.cps.toList, c ∈ alnum) : Ok x := fun c hc => by
  have : ∀ c ∈ alnum, c < 0x110000 := by decide +kernel
  exact this c (h c hc)
theorem name_grow {x : Str} {c : Nat} (h : IsName x) (hl : x.length < 8) (hc : c ∈ alnum) : IsName (x ++ ⟨#[c]⟩) := by
  obtain ⟨h1, h2, h3, h4⟩ := h
  have e : (x ++ ⟨#[c]⟩ : Str).cps.toList = x.cps.toList ++ [c] := toList_app _ _
  refine ⟨by rw [len_app]; omega, by rw [len_app]; show x.length + 1 ≤ 8; omega, fun d hd => ?_, fun d hd => ?_⟩
  · rw [e] at hd
    have h0 : 0 < x.cps.toList.length := by rw [← len_list]; omega
    rw [List.getElem?_append_left h0] at hd
    exact h3 d hd
  · rw [e] at hd
    rcases List.mem_append.mp hd with z | z
    · exact h4 d z
    · rw [List.mem_singleton.mp z]; exact hc
theorem name_one {c : Nat} (hc : c ∈ smallL) : IsName ⟨#[c]⟩ := by
  refine ⟨Nat.le_refl 1, by show 1 ≤ 8; decide, fun d hd => ?_, fun d hd => ?_⟩
  · simp at hd; rw [← hd]; exact hc
  · have : d = c := by simpa using hd
    rw [this]
    have : ∀ c ∈ smallL, c ∈ alnum := by decide +kernel
    exact this c hc
theorem cut_take {z : Str} {k : Int} (h : 0 ≤ k) : (cutS z none (some k)).cps.toList = z.cps.toList.take k.toNat := by
  have e : (cutS z none (some k)).cps.toList = (z.cps.toList.drop 0).take ((if k < 0 then (k + (z.length : Int)).toNat else min k.toNat z.length) - 0) := by
    unfold cutS; simp only [HT.sIx]
  rw [e, if_neg (by omega), List.drop_zero, Nat.sub_zero, len_list]
  by_cases hk : k.toNat ≤ z.cps.toList.length
  · rw [Nat.min_eq_left hk]
  · rw [Nat.min_eq_right (by omega), List.take_of_length_le (Nat.le_refl _), List.take_of_length_le (by omega)]
theorem cut_drop {z : Str} {k : Int} (h : 0 ≤ k) : (cutS z (some k) none).cps.toList = z.cps.toList.drop k.toNat := by
  have e : (cutS z (some k) none).cps.toList = (z.cps.toList.drop (if k < 0 then (k + (z.length : Int)).toNat else min k.toNat z.length)).take (z.length - (if k < 0 then (k + (z.length : Int)).toNat else min k.toNat z.length)) := by
    unfold cutS; simp only [HT.sIx]
  rw [e, if_neg (by omega), len_list]
  by_cases hk : k.toNat ≤ z.cps.toList.length
  · rw [Nat.min_eq_left hk, List.take_of_length_le (by rw [List.length_drop]; exact Nat.le_refl _)]
  · rw [Nat.min_eq_right (by omega), List.drop_eq_nil_of_le (Nat.le_refl _), List.drop_eq_nil_of_le (by omega), List.take_nil]
theorem cut_len {z : Str} {lo hi : Option Int} : (cutS z lo hi).length ≤ z.length := cutS_length z lo hi
theorem small_in {c : Nat} : (c ∈ (Str.ofString "abcdefghijklmnopqrstuvwxyz").cps.toList) = (c ∈ smallL) := rfl
theorem alnum_in {c : Nat} : (c ∈ (Str.ofString "abcdefghijklmnopqrstuvwxyz0123456789").cps.toList) = (c ∈ alnum) := rfl
theorem alnum_in2 {c : Nat} : (c ∈ (Str.ofString "abcdefghijklmnopqrstuvwxyz" ++ Str.ofString "0123456789" : Str).cps.toList) = (c ∈ alnum) := by
  rw [show (Str.ofString "abcdefghijklmnopqrstuvwxyz" ++ Str.ofString "0123456789" : Str).cps.toList = alnum by decide +kernel]
theorem nameB_len {l : List Nat} (h : ¬ (1 ≤ l.length ∧ l.length ≤ 8)) : nameB l = false := by
  unfold nameB
  by_cases h1 : 1 ≤ l.length
  · have h2 : ¬ l.length ≤ 8 := fun q => h ⟨h1, q⟩
    simp [h2]
  · simp [h1]
theorem nameB_cons {c : Nat} {l : List Nat} (h : (c :: l).length ≤ 8) : nameB (c :: l) = (decide (c ∈ smallL) && (c :: l).all fun c => decide (c ∈ alnum)) := by
  unfold nameB
  have h1 : 1 ≤ (c :: l).length := by simp
  simp only [h, h1, decide_true, Bool.true_and, List.contains_eq_mem]
/-- is it a name? -/
def nrB (d : D) : Bool := match d with
  | .str x => nameB x.cps.toList
  | _ => false

section
variable {S : D} {QF XF : D → List D → Prop}
theorem small_len : (Str.ofString "abcdefghijklmnopqrstuvwxyz").cps.toList.length = 26 := by decide +kernel
theorem sign_mem {c : Nat} (h : c ∈ (Str.ofString "abcdefghijklmnopqrstuvwxyz" ++ Str.ofString "0123456789" : Str).cps.toList) : c ∈ alnum := by
  have : ∀ c ∈ (Str.ofString "abcdefghijklmnopqrstuvwxyz" ++ Str.ofString "0123456789" : Str).cps.toList, c ∈ alnum := by decide +kernel
  exact this c h
theorem sign_len : (Str.ofString "abcdefghijklmnopqrstuvwxyz" ++ Str.ofString "0123456789" : Str).cps.toList.length = 36 := by decide +kernel
theorem name_ok (hS : Sto S) (h : ∀ x S', Sto S' → IsName x → QF (.str x) [S']) : wF (m_name [S]) QF XF := by
  rw [m_name, wF_run, b_name]
  walk_at "wp"
  refine ⟨by decide +kernel, ?_⟩
  refine take_ok hS (by decide) fun r S1 hS1 h0 h1 => ?_
  walk_at "wp"
  refine ⟨fun _ => ?_, fun _ => ⟨fun _ => ?_, fun _ => ⟨fun _ => ?_, fun _ => ⟨fun _ => ?_, fun _ => ?_⟩⟩⟩⟩
  · refine take_ok hS1 (by decide) fun r2 S2 hS2 a0 a1 => ?_
    walk_at "wp"
    refine ⟨by decide +kernel, atI_w a0 (by rw [small_len]; omega) fun c _ hc => h _ _ hS2 (name_one hc)⟩
  · refine take_ok hS1 (by decide) fun r2 S2 hS2 a0 a1 => ?_
    walk_at "wp"
    refine ⟨by decide +kernel, atI_w a0 (by rw [show (Str.ofString "abuwz").cps.toList.length = 5 by decide +kernel]; omega) fun c _ hc => ?_⟩
    refine take_ok hS2 (by decide) fun r3 S3 hS3 b0 b1 => ?_
    walk_at "wp"
    refine ⟨by decide +kernel, atI_w b0 (by rw [show (Str.ofString "0123456789").cps.toList.length = 10 by decide +kernel]; omega) fun d _ hd => ⟨show 1 + 1 ≤ sizeLine by decide, h _ _ hS3 (name_grow (name_one ?_) (by show 1 < 8; decide) ?_)⟩⟩
    · have : ∀ c ∈ (Str.ofString "abuwz").cps.toList, c ∈ smallL := by decide +kernel
      exact this c hc
    · have : ∀ c ∈ (Str.ofString "0123456789").cps.toList, c ∈ alnum := by decide +kernel
      exact this d hd
  · refine ⟨by decide, one_ok hS1 (by decide) (by decide) fun d S2 hS2 hd => ?_⟩
    have : ∀ d ∈ [PyData.str "by", .str "to", .str "seq", .str "while", .str "until", .str "each", .str "as", .str "place", .str "way", .str "walkers", .str "walker", .str "b0", .str "b1", .str "f0", .str "s0", .str "s1", .str "none", .str "a", .str "a0", .str "a00", .str "aa", .str "z", .str "zz", .str "zzzzzzzz"],
        (match d with | .str x => nameB x.cps.toList | _ => false) = true := by decide +kernel
    have q := this d hd
    cases d with
    | str x => exact h _ _ hS2 (isName_of q)
    | _ => cases q
  · refine range_ok hS1 (by decide) (by decide) fun n S2 hS2 a0 a1 => ?_
    walk_at "wp"
    refine take_ok hS2 (by omega) fun p S3 hS3 b0 b1 => ?_
    walk_at "wp"
    refine take_ok hS3 (by decide) fun r3 S4 hS4 c0 c1 => ?_
    walk_at "wp"
    refine ⟨by decide +kernel, atI_w c0 (by rw [small_len]; omega) fun c _ hc => ?_⟩
    have build : ∀ (c : Nat) (S5 : D), Sto S5 → c ∈ alnum → (p = 0 → c ∈ smallL) → ((Str.ofString "aaaaaaaa").length ≤ sizeLine ∧ (cutS (Str.ofString "aaaaaaaa") none (some p)).length + ({ cps := #[c] } : Str).length ≤ sizeLine ∧ (Str.ofString "aaaaaaaa").length ≤ sizeLine ∧
        (cutS (Str.ofString "aaaaaaaa") none (some p) ++ { cps := #[c] } : Str).length + (cutS (Str.ofString "aaaaaaaa") none (some (n - 1 - p))).length ≤ sizeLine ∧ QF (.str (cutS (Str.ofString "aaaaaaaa") none (some p) ++ { cps := #[c] } ++ cutS (Str.ofString "aaaaaaaa") none (some (n - 1 - p)))) [S5]) := by
      intro c S5 h5 hc hc0
      have l8 : (Str.ofString "aaaaaaaa").length = 8 := by decide +kernel
      have t1 := cut_take (z := Str.ofString "aaaaaaaa") b0
      have t2 := cut_take (z := Str.ofString "aaaaaaaa") (show 0 ≤ n - 1 - p by omega)
      have ll : (Str.ofString "aaaaaaaa").cps.toList.length = 8 := by decide +kernel
      have m1 : (cutS (Str.ofString "aaaaaaaa") none (some p)).length = p.toNat := by rw [len_list, t1, List.length_take, ll]; omega
      have m2 : (cutS (Str.ofString "aaaaaaaa") none (some (n - 1 - p))).length = (n - 1 - p).toNat := by rw [len_list, t2, List.length_take, ll]; omega
      have al : ∀ c ∈ (Str.ofString "aaaaaaaa").cps.toList, c ∈ smallL ∧ c ∈ alnum := by decide +kernel
      have e1 : ({ cps := #[c] } : Str).length = 1 := rfl
      have sz : sizeLine = 16777216 := rfl
      refine ⟨by rw [l8, sz]; decide, by rw [m1, e1, sz]; omega, by rw [l8, sz]; decide, by rw [len_app, m1, m2, e1, sz]; omega, h _ _ h5 ⟨?_, ?_, fun d hd => ?_, fun d hd => ?_⟩⟩
      · rw [len_app, len_app, m1, m2, e1]; omega
      · rw [len_app, len_app, m1, m2, e1]; omega
      · rw [toList_app, toList_app, t1] at hd
        by_cases hp : p = 0
        · subst hp
          simp at hd
          rw [← hd]; exact hc0 rfl
        · have hq : 0 < (List.take p.toNat (Str.ofString "aaaaaaaa").cps.toList).length := by rw [List.length_take, ll]; omega
          rw [List.getElem?_append_left (by rw [List.length_append]; omega), List.getElem?_append_left hq] at hd
          exact (al d (List.mem_of_mem_take (List.mem_of_getElem? hd))).1
      · rw [toList_app, toList_app, t1, t2] at hd
        rcases List.mem_append.mp hd with z | z
        · rcases List.mem_append.mp z with z | z
          · exact (al d (List.mem_of_mem_take z)).2
          · have : d = c := by simpa using z
            rw [this]; exact hc
        · exact (al d (List.mem_of_mem_take z)).2
    have sm : ∀ c ∈ smallL, c ∈ alnum := by decide +kernel
    refine ⟨fun hp => ?_, fun hp => build c S4 hS4 (sm c hc) fun _ => hc⟩
    refine take_ok hS4 (by decide) fun r4 S5 hS5 d0 d1 => ?_
    walk_at "wp"
    refine ⟨by decide +kernel, atI_w d0 (by rw [sign_len]; omega) fun c hc1 hc => ?_⟩
    exact build c S5 hS5 (sign_mem hc) fun z => by omega
  · refine ⟨fun _ => range_ok hS1 (by decide) (by decide) fun n S2 hS2 a0 a1 => ?_, fun _ => ?_⟩
    · walk_at "wp"
      refine take_ok hS2 (by decide) fun r3 S3 hS3 c0 c1 => ?_
      walk_at "wp"
      refine ⟨by decide +kernel, atI_w c0 (by rw [small_len]; omega) fun c _ hc => ?_⟩
      refine wI_rng ?_
      walk_at "wp"
      refine ⟨by omega, by omega, ?_⟩
      refine loop_inv (fun ds ρ => ∃ (S' : D) (x : Str) (z : Option D), Sto S' ∧ IsName x ∧ x.length + ds.length ≤ 8 ∧ ρ = [some S', some (.str (Str.ofString "abcdefghijklmnopqrstuvwxyz")), some (.str (Str.ofString "abcdefghijklmnopqrstuvwxyz" ++ Str.ofString "0123456789")), some (.int r), some (.int n), some (.str x), z, none, none]) ?_ ?_ _ _
        ⟨S3, ⟨#[c]⟩, none, hS3, name_one hc, by show 1 + (intsF 0 _).length ≤ 8; simp only [intsF, List.length_map, List.length_range]; omega, rfl⟩
      · rintro d ds ρ ⟨S', x, z, hS', hx, hl, rfl⟩
        walk_at "wp"
        refine take_ok hS' (by decide) fun r5 S5 hS5 d0 d1 => ?_
        walk_at "wp"
        have sz : sizeLine = 16777216 := rfl
        refine ⟨by decide +kernel, atI_w d0 (by rw [sign_len]; omega) fun c _ hc => ⟨?_, S5, x ++ ⟨#[c]⟩, some d, hS5, name_grow hx (by simp at hl; omega) (sign_mem hc), ?_, rfl⟩⟩
        · have := hx.2.1; show x.length + 1 ≤ sizeLine; rw [sz]; omega
        · rw [len_app]; show x.length + 1 + ds.length ≤ 8; simp at hl; omega
      · rintro ρ ⟨S', x, z, hS', hx, hl, rfl⟩
        walk_at "wp"
        exact h _ _ hS' hx
    · refine take_ok hS1 (by decide) fun r3 S3 hS3 c0 c1 => ?_
      walk_at "wp"
      refine ⟨by decide +kernel, atI_w c0 (by rw [small_len]; omega) fun c _ hc => ?_⟩
      refine wI_rng ?_
      walk_at "wp"
      refine ⟨by omega, by omega, ?_⟩
      refine loop_inv (fun ds ρ => ∃ (S' : D) (x : Str) (z : Option D), Sto S' ∧ IsName x ∧ x.length + ds.length ≤ 8 ∧ ρ = [some S', some (.str (Str.ofString "abcdefghijklmnopqrstuvwxyz")), some (.str (Str.ofString "abcdefghijklmnopqrstuvwxyz" ++ Str.ofString "0123456789")), some (.int r), some (.int 8), some (.str x), z, none, none]) ?_ ?_ _ _
        ⟨S3, ⟨#[c]⟩, none, hS3, name_one hc, by show 1 + (intsF 0 _).length ≤ 8; simp only [intsF, List.length_map, List.length_range]; omega, rfl⟩
      · rintro d ds ρ ⟨S', x, z, hS', hx, hl, rfl⟩
        walk_at "wp"
        refine take_ok hS' (by decide) fun r5 S5 hS5 d0 d1 => ?_
        walk_at "wp"
        have sz : sizeLine = 16777216 := rfl
        refine ⟨by decide +kernel, atI_w d0 (by rw [sign_len]; omega) fun c _ hc => ⟨?_, S5, x ++ ⟨#[c]⟩, some d, hS5, name_grow hx (by simp at hl; omega) (sign_mem hc), ?_, rfl⟩⟩
        · have := hx.2.1; show x.length + 1 ≤ sizeLine; rw [sz]; omega
        · rw [len_app]; show x.length + 1 + ds.length ≤ 8; simp at hl; omega
      · rintro ρ ⟨S', x, z, hS', hx, hl, rfl⟩
        walk_at "wp"
        exact h _ _ hS' hx
end

/-! ### small numbers as texts -/
def num (k : Nat) : Str := toString (k : Int)
def numL : List Str := (List.range 64).map num
theorem num_in {k : Nat} (h : k < 64) : num k ∈ numL := List.mem_map_of_mem (List.mem_range.mpr h)
theorem num_digits {k : Nat} (h : k < 64) : (∀ c ∈ (num k).cps.toList, c ∈ alnum) ∧ 1 ≤ (num k).length ∧ (num k).length ≤ 2 := by
  have q : ∀ x ∈ numL, ((x.cps.toList.all fun c => alnum.contains c) && (decide (1 ≤ x.length) && decide (x.length ≤ 2))) = true := by decide +kernel
  have := q _ (num_in h)
  simp only [Bool.and_eq_true, List.all_eq_true, List.contains_iff_mem, decide_eq_true_eq] at this
  exact this
theorem num_nodup : numL.Nodup := by decide +kernel
theorem num_inj {i j : Nat} (hi : i < 64) (hj : j < 64) (h : num i = num j) : i = j := by
  have nd := num_nodup
  have li : i < numL.length := by simp [numL]; exact hi
  have lj : j < numL.length := by simp [numL]; exact hj
  have e1 : numL[i] = num i := by simp [numL]
  have e2 : numL[j] = num j := by simp [numL]
  exact (List.getElem_inj nd).mp (by rw [e1, e2, h])
theorem num_log {k : Nat} (h : k < 64) : ((k : Int)).natAbs.log2 < 1920 := by
  have : (k : Int).natAbs = k := by simp
  rw [this]
  have : ∀ k ∈ List.range 64, k.log2 < 1920 := by decide +kernel
  exact this k (List.mem_range.mpr h)
theorem app_cancel {x y z : Str} (h : x ++ y = x ++ z) : y = z := by
  have e := congrArg (fun s : Str => s.cps.toList) h
  simp only [toList_app] at e
  have e2 := List.append_cancel_left e
  cases y; cases z
  congr 1
  exact Array.toList_inj.mp e2
theorem nodup_sub_len {α : Type} [DecidableEq α] : ∀ {l xs : List α}, l.Nodup → (∀ x ∈ l, x ∈ xs) → l.length ≤ xs.length
  | [], _, _, _ => Nat.zero_le _
  | a :: l, xs, nd, h => by
    have nd' := List.nodup_cons.mp nd
    have ha := h a List.mem_cons_self
    have q := nodup_sub_len (l := l) (xs := xs.erase a) nd'.2 fun x hx => (List.mem_erase_of_ne (fun z => nd'.1 (by rw [← z]; exact hx))).mpr (h x (List.mem_cons_of_mem _ hx))
    rw [List.length_erase_of_mem ha] at q
    have := List.length_pos_of_mem ha
    rw [List.length_cons]; omega
/-- the least free number -/
theorem least_free (x : Str) (xs : List Str) (hl : xs.length < 60) : ∃ m, m ≤ xs.length ∧ x ++ num m ∉ xs ∧ ∀ j, j < m → x ++ num j ∈ xs := by
  have ex : ∃ m, m ≤ xs.length ∧ x ++ num m ∉ xs := by
    refine Classical.byContradiction fun hn => ?_
    have all : ∀ m, m ≤ xs.length → x ++ num m ∈ xs := fun m hm => Classical.byContradiction fun z => hn ⟨m, hm, z⟩
    have nd : ((List.range (xs.length + 1)).map fun k => x ++ num k).Nodup := by
      refine List.pairwise_map.mpr ((List.nodup_range (n := xs.length + 1)).imp_of_mem ?_)
      intro i j hi hj ne e
      have := List.mem_range.mp hi
      have := List.mem_range.mp hj
      exact ne (num_inj (by omega) (by omega) (app_cancel e))
    have q := nodup_sub_len nd fun y hy => by
      obtain ⟨k, hk, rfl⟩ := List.mem_map.mp hy
      exact all k (by have := List.mem_range.mp hk; omega)
    rw [List.length_map, List.length_range] at q
    omega
  obtain ⟨m0, h0, h1⟩ := ex
  have key : ∀ n m, n + m = m0 → (∀ j, j < m → x ++ num j ∈ xs) → ∃ m, m ≤ xs.length ∧ x ++ num m ∉ xs ∧ ∀ j, j < m → x ++ num j ∈ xs := by
    intro n
    induction n with
    | zero => intro m e hj; exact ⟨m, by omega, by rw [show m = m0 by omega]; exact h1, hj⟩
    | succ n ih =>
      intro m e hj
      by_cases hm : x ++ num m ∈ xs
      · exact ih (m + 1) (by omega) fun j hj2 => by
          by_cases e2 : j = m
          · rw [e2]; exact hm
          · exact hj j (by omega)
      · exact ⟨m, by omega, hm, hj⟩
  exact key m0 0 (by omega) fun j hj => absurd hj (by omega)

section
variable {S : D} {QF XF : D → List D → Prop}
theorem store_ok {ns : List Int} {QF XF : D → List D → Prop} (hl : ns.length ≤ 63) (h : ∀ S, Sto S → QF S []) : wF (m_store [.list (ns.map .int)]) QF XF := by
  rw [m_store, wF_run, b_store]
  walk_at "wp"
  refine lc_inv (fun rs acc ρ => ∃ (l' dn : List Int) (z : Option D), rs = l'.map PyData.int ∧ acc = dn.map PyData.int ∧ ns = dn ++ l' ∧ ρ = [some (.list (ns.map .int)), z]) ?_ ?_ _ _ _ ⟨ns, [], none, rfl, rfl, rfl, rfl⟩
  · rintro d ds acc ρ ⟨l', dn, z, e1, e2, e3, rfl⟩
    cases l' with
    | nil => cases e1
    | cons c l' =>
      simp only [List.map_cons, List.cons.injEq] at e1
      obtain ⟨rfl, rfl⟩ := e1
      walk_at "wp"
      refine ⟨?_, l', dn ++ [c], _, rfl, by rw [e2]; simp, by rw [e3]; simp, rfl⟩
      rw [e2, List.length_map, sz_eq]
      have := congrArg List.length e3
      simp at this; omega
  · rintro acc ρ ⟨l', dn, z, e1, e2, e3, rfl⟩
    have : l' = [] := by cases l' with | nil => rfl | cons => cases e1
    subst this
    rw [List.append_nil] at e3
    subst e3
    subst e2
    walk_at "wp"
    exact ⟨by decide, h _ ⟨ns, 0, 0, 0, 0, rfl⟩⟩
end

theorem intsF_cons {k n : Nat} {d : D} {ds : List D} (h : d :: ds = intsF k n) : 0 < n ∧ d = .int k ∧ ds = intsF (k + 1 : Nat) (n - 1) := by
  cases n with
  | zero => simp [intsF] at h
  | succ n =>
    unfold intsF at h
    rw [List.range_succ_eq_map, List.map_cons, List.cons.injEq] at h
    refine ⟨Nat.succ_pos n, by simpa using h.1, ?_⟩
    rw [h.2]
    unfold intsF
    rw [List.map_map]
    simp only [Nat.add_sub_cancel]
    congr 1
    funext j
    simp only [Function.comp]
    congr 1
    omega
theorem intsF_nil {k : Int} {n : Nat} (h : [] = intsF k n) : n = 0 := by
  have := congrArg List.length h
  rw [len_intsF] at this
  exact this.symm
theorem take_next {xs : List D} {k : Nat} {x : D} (h : xs[k]? = some x) : xs.take (k + 1) = xs.take k ++ [x] := by
  rw [List.take_add_one, h]; rfl
section
variable {QF XF : D → List D → Prop}
def prD (p : D) : D := .tuple [p, p]
theorem same_ok {d : D} (hd : d.canLay0 = true) (hn : nodes d ≤ 190000) (h : QF (.bool true) []) : wF (m_same [d, d]) QF XF := by
  rw [m_same, wF_run, b_same]
  generalize hm : (200000 : Int) = n
  walk_at "wp"
  refine ⟨by decide, by decide, wI_rng ?_⟩
  walk_at "wp"
  refine ⟨by omega, by omega, ?_⟩
  refine loop_inv (fun rs ρ => ∃ (ps : List D) (z3 z4 z5 z6 z7 : Option D), (∀ p ∈ ps, p.canLay0 = true) ∧ nodesA ps ≤ rs.length ∧ nodesA ps ≤ 190000 ∧ ρ = [some d, some d, some (.list (ps.map prD)), z3, z4, z5, z6, z7]) ?_ ?_ _ _
    ⟨[d], none, none, none, none, none, fun p hp => by rw [List.mem_singleton.mp hp]; exact hd, by rw [len_intsF]; simp only [nodesA]; omega, by simp only [nodesA]; omega, rfl⟩
  · rintro dk rs ρ ⟨ps, z3, z4, z5, z6, z7, hl, hr, hs, rfl⟩
    rcases List.eq_nil_or_concat ps with rfl | ⟨qs, p, rfl⟩
    · walk_at "wp"
      exact ⟨fun _ => h, fun z => absurd z (by simp)⟩
    · rw [List.concat_eq_append] at hl hr hs ⊢
      have hp := hl p (by simp)
      have hq : ∀ q ∈ qs, q.canLay0 = true := fun q hq => hl q (by simp [hq])
      rw [nodesA_app] at hr hs
      simp only [nodesA, List.length_cons] at hr hs
      have np := nodes_pos p
      have kp : noDct p = true := noDct_lay hp
      have lq := nodesA_len qs
      have e0 : (qs ++ [p]).map prD = qs.map prD ++ [.tuple [p, p]] := by simp [prD]
      have ln : ¬ (((qs.map prD ++ [PyData.tuple [p, p]]).length : Int) = 0) := by simp; omega
      rw [e0]
      cases p with
      | list xs =>
        have hx : ∀ x ∈ xs, x.canLay0 = true := canLayA (by simpa [PyData.canLay0] using hp)
        have nx : nodes (.list xs) = 1 + nodesA xs := by simp [nodes]
        have lx := nodesA_len xs
        walk_at "wp"
        refine ⟨fun z => absurd z ln, fun _ => ?_⟩
        refine wI_rng ?_
        walk_at "wp"
        refine ⟨by omega, by omega, ?_⟩
        refine loop_inv (fun js ρ => ∃ (k : Nat) (z7 : Option D), js = intsF k (xs.length - k) ∧ k ≤ xs.length ∧ ρ = [some d, some d, some (.list (qs.map prD ++ (xs.take k).map prD)), some dk, some (.tuple [.list xs, .list xs]), some (.list xs), some (.list xs), z7]) ?_ ?_ _ _ ⟨0, z7, by simp, Nat.zero_le _, by simp⟩
        · rintro dj js ρ ⟨k, z7, e1, hk, rfl⟩
          obtain ⟨hk1, rfl, rfl⟩ := intsF_cons e1
          walk_at "wp"
          refine atI_w (by omega) (by omega) fun x hx1 _ => atI_w (by omega) (by omega) fun y hy1 _ => ?_
          rw [hx1] at hy1; cases hy1
          have sz := sz_eq
          refine ⟨by decide, by simp; omega, k + 1, some (.int k), by rw [show xs.length - (k + 1) = xs.length - k - 1 by omega], by omega, ?_⟩
          rw [take_next (by simpa using hx1)]
          simp [prD]
        · rintro ρ ⟨k, z7, e1, hk, rfl⟩
          have hk2 := intsF_nil e1
          have ek : xs.take k = xs := List.take_of_length_le (by omega)
          have el : qs.map prD ++ (xs.take k).map prD = (qs ++ xs).map prD := by rw [ek, List.map_append]
          rw [el]
          exact ⟨qs ++ xs, _, _, _, _, _, fun q hq2 => (List.mem_append.mp hq2).elim (hq q) (hx q), by rw [nodesA_app]; omega, by rw [nodesA_app]; omega, rfl⟩
      | tuple xs =>
        have hx : ∀ x ∈ xs, x.canLay0 = true := canLayA (by simpa [PyData.canLay0] using hp)
        have nx : nodes (.tuple xs) = 1 + nodesA xs := by simp [nodes]
        have lx := nodesA_len xs
        walk_at "wp"
        refine ⟨fun z => absurd z ln, fun _ => ?_⟩
        refine wI_rng ?_
        walk_at "wp"
        refine ⟨by omega, by omega, ?_⟩
        refine loop_inv (fun js ρ => ∃ (k : Nat) (z7 : Option D), js = intsF k (xs.length - k) ∧ k ≤ xs.length ∧ ρ = [some d, some d, some (.list (qs.map prD ++ (xs.take k).map prD)), some dk, some (.tuple [.tuple xs, .tuple xs]), some (.tuple xs), some (.tuple xs), z7]) ?_ ?_ _ _ ⟨0, z7, by simp, Nat.zero_le _, by simp⟩
        · rintro dj js ρ ⟨k, z7, e1, hk, rfl⟩
          obtain ⟨hk1, rfl, rfl⟩ := intsF_cons e1
          walk_at "wp"
          refine atI_w (by omega) (by omega) fun x hx1 _ => atI_w (by omega) (by omega) fun y hy1 _ => ?_
          rw [hx1] at hy1; cases hy1
          have sz := sz_eq
          refine ⟨by decide, by simp; omega, k + 1, some (.int k), by rw [show xs.length - (k + 1) = xs.length - k - 1 by omega], by omega, ?_⟩
          rw [take_next (by simpa using hx1)]
          simp [prD]
        · rintro ρ ⟨k, z7, e1, hk, rfl⟩
          have hk2 := intsF_nil e1
          have ek : xs.take k = xs := List.take_of_length_le (by omega)
          have el : qs.map prD ++ (xs.take k).map prD = (qs ++ xs).map prD := by rw [ek, List.map_append]
          rw [el]
          exact ⟨qs ++ xs, _, _, _, _, _, fun q hq2 => (List.mem_append.mp hq2).elim (hq q) (hx q), by rw [nodesA_app]; omega, by rw [nodesA_app]; omega, rfl⟩
      | str x =>
        walk_at "wp"
        refine ⟨fun z => absurd z ln, fun _ => ?_⟩
        have hs2 : PyData.strOk x = true := hp
        repeat' first | (refine And.intro ?_ ?_) | (intro z; exact absurd z (by decide)) | (intro z)
        all_goals first
          | exact ⟨qs, _, _, _, _, _, hq, by omega, by omega, rfl⟩
          | exact hs2
      | none =>
        walk_at "wp"
        refine ⟨fun z => absurd z ln, fun _ => ?_⟩
        skip
        repeat' first | (refine And.intro ?_ ?_) | (intro z; exact absurd z (by decide)) | (intro z)
        all_goals first
          | exact ⟨qs, _, _, _, _, _, hq, by omega, by omega, rfl⟩
          | skip
      | bool b =>
        walk_at "wp"
        refine ⟨fun z => absurd z ln, fun _ => ?_⟩
        try (cases b)
        repeat' first | (refine And.intro ?_ ?_) | (intro z; exact absurd z (by decide)) | (intro z)
        all_goals first
          | exact ⟨qs, _, _, _, _, _, hq, by omega, by omega, rfl⟩
          | skip
      | int i =>
        walk_at "wp"
        refine ⟨fun z => absurd z ln, fun _ => ?_⟩
        skip
        repeat' first | (refine And.intro ?_ ?_) | (intro z; exact absurd z (by decide)) | (intro z)
        all_goals first
          | exact ⟨qs, _, _, _, _, _, hq, by omega, by omega, rfl⟩
          | skip
      | dict kv => cases kp
  · rintro ρ ⟨ps, z3, z4, z5, z6, z7, hl, hr, hs, rfl⟩
    have : ps = [] := by
      cases ps with
      | nil => rfl
      | cons p ps => have := nodes_pos p; simp only [nodesA, List.length_nil] at hr; omega
    subst this
    walk_at "wp"
    exact h
end

/-! ### a name that is not taken -/
def cand (x : Str) (k : Nat) : Str := x ++ ⟨#[alnum.getD (k / 36 % 36) 0]⟩ ++ ⟨#[alnum.getD (k % 36) 0]⟩
theorem alnum_len : alnum.length = 36 := by decide +kernel
theorem alnum_nd : alnum.Nodup := by decide +kernel
theorem alnum_get {k : Nat} (h : k < 36) : alnum.getD k 0 ∈ alnum := by
  rw [List.getD_eq_getElem?_getD, List.getElem?_eq_getElem (by rw [alnum_len]; exact h)]
  exact List.getElem_mem _
theorem alnum_inj {i j : Nat} (hi : i < 36) (hj : j < 36) (h : alnum.getD i 0 = alnum.getD j 0) : i = j := by
  rw [List.getD_eq_getElem?_getD, List.getD_eq_getElem?_getD, List.getElem?_eq_getElem (by rw [alnum_len]; exact hi), List.getElem?_eq_getElem (by rw [alnum_len]; exact hj)] at h
  exact (List.getElem_inj alnum_nd).mp h
theorem cand_name {x : Str} {k : Nat} (hx : IsName x) (hl : x.length ≤ 6) : IsName (cand x k) :=
  name_grow (name_grow hx (by omega) (alnum_get (Nat.mod_lt _ (by decide)))) (by rw [len_app]; show x.length + 1 < 8; omega) (alnum_get (Nat.mod_lt _ (by decide)))
theorem cand_inj {x : Str} {i j : Nat} (hi : i < 1296) (hj : j < 1296) (h : cand x i = cand x j) : i = j := by
  have e := congrArg (fun s : Str => s.cps.toList) h
  unfold cand at e
  simp only [toList_app, List.append_assoc] at e
  have e2 := List.append_cancel_left e
  simp only [List.cons_append, List.nil_append, List.cons.injEq, and_true] at e2
  have a := alnum_inj (Nat.mod_lt _ (by decide)) (Nat.mod_lt _ (by decide)) e2.1
  have b := alnum_inj (Nat.mod_lt _ (by decide)) (Nat.mod_lt _ (by decide)) e2.2
  omega
theorem name_cut {x : Str} (hx : IsName x) : IsName (cutS x none (some 6)) ∧ (cutS x none (some 6)).length ≤ 6 := by
  have e := cut_take (z := x) (k := 6) (by decide)
  have l : (cutS x none (some 6)).length = min 6 x.length := by rw [len_list, e, List.length_take, ← len_list]; rfl
  have h1 := hx.1
  refine ⟨⟨by omega, by omega, fun c hc => ?_, fun c hc => ?_⟩, by omega⟩
  · rw [e] at hc
    rw [List.getElem?_take_of_lt (by decide)] at hc
    exact hx.2.2.1 c hc
  · rw [e] at hc
    exact hx.2.2.2 c (List.mem_of_mem_take hc)
section
variable {S : D} {QF XF : D → List D → Prop}
theorem new_ok {xs : List Str} {d : D} (hS : Sto S) (hl : xs.length ≤ 100) (ho : ∀ x ∈ xs, Ok x) (hd : SqD (xs.map .str) d) (h : ∀ y S', Sto S' → IsName y → y ∉ xs → QF (.str y) [S']) : wF (m_new_name [S, d]) QF XF := by
  rw [m_new_name, wF_run, b_new_name]
  have sz := sz_eq
  walk_at "wp"
  refine name_ok hS fun x S1 hS1 hx => ?_
  have xl := hx.2.1
  walk_at "wp"
  refine ⟨by omega, wI_rng ?_⟩
  walk_at "wp"
  rw [vo_lenSq hd]
  walk_at "wp"
  obtain ⟨st, sl⟩ := name_cut hx
  generalize cutS x none (some 6) = y at st sl
  rw [List.length_map]
  refine ⟨by omega, by omega, ?_⟩
  have et : ((xs.length : Int) + 1).toNat = xs.length + 1 := by omega
  rw [et]
  refine loop_inv (fun rs ρ => ∃ (k : Nat) (n : Str) (z : Option D), rs = intsF k (xs.length + 1 - k) ∧ k ≤ xs.length + 1 ∧ IsName n ∧ (k = 0 ∨ (n = cand y (k - 1) ∧ ∀ j, j + 1 < k → cand y j ∈ xs)) ∧
      ρ = [some S1, some d, some (.str (Str.ofString "abcdefghijklmnopqrstuvwxyz0123456789")), some (.str n), some (.str y), z]) ?_ ?_ _ _ ⟨0, x, none, rfl, by omega, hx, .inl rfl, rfl⟩
  · rintro dk rs ρ ⟨k, n, z, e1, hk, hn, hcc, rfl⟩
    obtain ⟨hk1, rfl, rfl⟩ := intsF_cons e1
    have no : Ok n := alnum_ok hn.2.2.2
    have er : intsF ((k + 1 : Nat) : Int) (xs.length + 1 - k - 1) = intsF ((k + 1 : Nat) : Int) (xs.length + 1 - (k + 1)) := by rw [show xs.length + 1 - (k + 1) = xs.length + 1 - k - 1 by omega]
    have e36 : (Str.ofString "abcdefghijklmnopqrstuvwxyz0123456789").length = 36 := by decide +kernel
    have ea : (Str.ofString "abcdefghijklmnopqrstuvwxyz0123456789").cps.toList = alnum := rfl
    walk_at "wp"
    rw [vo_notInStrs no ho hd]
    walk_at "wp"
    refine ⟨fun q => h _ _ hS1 hn (by simpa using q), fun q => ?_⟩
    have q : n ∈ xs := by simpa using q
    have f1 : ((k : Int).fdiv 36).fmod 36 = ((k / 36 % 36 : Nat) : Int) := by
      rw [Int.fdiv_eq_ediv_of_nonneg _ (by decide), Int.fmod_eq_emod_of_nonneg _ (by decide)]; omega
    have f2 : (k : Int).fmod 36 = ((k % 36 : Nat) : Int) := by
      rw [Int.fmod_eq_emod_of_nonneg _ (by decide)]; omega
    simp only [f1, f2]
    have g : ∀ m : Nat, m < 36 → ∀ c, alnum[((m : Nat) : Int).toNat]? = some c → c = alnum.getD m 0 := fun m hm c hc => by
      rw [List.getD_eq_getElem?_getD]
      have : ((m : Nat) : Int).toNat = m := by omega
      rw [this] at hc
      rw [hc]; rfl
    refine ⟨by decide, by decide, by omega, atI_w (by omega) (by rw [ea, alnum_len]; have := Nat.mod_lt (k / 36) (show 0 < 36 by decide); omega) fun c hc _ => ⟨?_, by decide, by omega, atI_w (by omega) (by rw [ea, alnum_len]; have := Nat.mod_lt k (show 0 < 36 by decide); omega) fun c2 hc2 _ => ⟨?_, ?_⟩⟩⟩
    · show y.length + 1 ≤ sizeLine; omega
    · rw [len_app]; show y.length + 1 + 1 ≤ sizeLine; omega
    · rw [ea] at hc hc2
      rw [g _ (Nat.mod_lt _ (by decide)) c hc, g _ (Nat.mod_lt _ (by decide)) c2 hc2]
      refine ⟨k + 1, cand y k, some (.int k), er, by omega, cand_name st sl, .inr ⟨by simp, fun j hj => ?_⟩, rfl⟩
      rcases hcc with hz | ⟨e2, e3⟩
      · omega
      · by_cases ej : j + 1 = k
        · have : j = k - 1 := by omega
          rw [this, ← e2]; exact q
        · exact e3 j (by omega)
  · rintro ρ ⟨k, n, z, e1, hk, hn, hcc, rfl⟩
    have hk2 := intsF_nil e1
    walk_at "wp"
    refine h _ _ hS1 hn fun hin => ?_
    rcases hcc with hz | ⟨e2, e3⟩
    · omega
    · have nd : ((List.range (xs.length + 1)).map fun j => cand y j).Nodup := by
        refine List.pairwise_map.mpr ((List.nodup_range (n := xs.length + 1)).imp_of_mem ?_)
        intro i j hi hj ne e
        have := List.mem_range.mp hi
        have := List.mem_range.mp hj
        exact ne (cand_inj (by omega) (by omega) e)
      have q := nodup_sub_len nd fun w hw => by
        obtain ⟨j, hj, rfl⟩ := List.mem_map.mp hw
        have := List.mem_range.mp hj
        by_cases ej : j + 1 = k
        · have : j = k - 1 := by omega
          rw [this, ← e2]; exact hin
        · exact e3 j (by omega)
      rw [List.length_map, List.length_range] at q
      omega
end

section
variable {S : D} {QF XF : D → List D → Prop}
theorem perm_pop {l : List D} {i : Nat} {x : D} (h : l[i]? = some x) : l.Perm (x :: l.eraseIdx i) := by
  induction l generalizing i with
  | nil => simp at h
  | cons a l ih =>
    cases i with
    | zero => simp at h; subst h; exact .refl _
    | succ i => exact ((ih (by simpa using h)).cons a).trans (.swap _ _ _)
theorem some_ok {ds : List D} {d : D} {many : Int} (hS : Sto S) (hd : SqD ds d) (h0 : 0 ≤ many) (hm : many < 1000000) (hl : ds.length ≤ 1000000)
    (h : ∀ es left S', Sto S' → (es ++ left).Perm ds → es.length = min many.toNat ds.length → QF (.list es) [S']) : wF (m_some [S, d, .int many]) QF XF := by
  rw [m_some, wF_run, b_some]
  walk_at "wp"
  rw [vo_lstSq hd]
  refine ⟨by decide, wI_rng ?_⟩
  walk_at "wp"
  have hm1 : (if (ds.length : Int) < many then (ds.length : Int) else many) = (min many.toNat ds.length : Nat) := by split <;> omega
  rw [hm1]
  refine ⟨by omega, by omega, ?_⟩
  refine loop_inv (fun rs ρ => ∃ (S' : D) (es left : List D) (z : Option D), Sto S' ∧ (es ++ left).Perm ds ∧ es.length + rs.length = min many.toNat ds.length ∧ ρ = [some S', some d, some (.int many), some (.list left), some (.list es), z]) ?_ ?_ _ _
    ⟨S, [], ds, none, hS, .refl _, by rw [len_intsF]; simp, rfl⟩
  · rintro dk rs ρ ⟨S', es, left, z, hS', hp, hn, rfl⟩
    have hlen := hp.length_eq
    rw [List.length_append] at hlen
    simp only [List.length_cons] at hn
    walk_at "wp"
    refine take_ok hS' (by omega) fun r S2 hS2 r0 r1 => ?_
    walk_at "wp"
    refine u_popAt r0 (by omega) (by omega) fun x hx => ?_
    walk_at "wp"
    refine ⟨by rw [sz_eq]; omega, S2, es ++ [x], left.eraseIdx r.toNat, _, hS2, ?_, by simp; omega, rfl⟩
    refine List.Perm.trans ?_ hp
    rw [List.append_assoc]
    exact List.Perm.append_left es (perm_pop hx).symm
  · rintro ρ ⟨S', es, left, z, hS', hp, hn, rfl⟩
    walk_at "wp"
    exact h es left S' hS' hp (by simpa using hn)
end

theorem le_sum : ∀ {l : List Nat} {x : Nat}, x ∈ l → x ≤ l.sum
  | [], x, h => by cases h
  | a :: l, x, h => by
    rw [List.sum_cons]
    rcases List.mem_cons.mp h with rfl | h
    · omega
    · have := le_sum h; omega

/-! ### worlds as data -/
structure Way where
  n : Str
  lo : Str
  hi : Str
structure Wd where
  ps : List Str
  ws : List Way
  hs : List Str
  cr : List (Nat × List Str)
def wayK (w : Way) : List Key := [.inr w.n, .inr w.lo, .inr w.hi]
def wayD (w : Way) : D := .tuple [.str w.n, .str w.lo, .str w.hi]
def crD (p : Nat × List Str) : D := .tuple [.int p.1, .tuple (p.2.map .str)]
def webD (ps : List Str) (ws : List Way) : D := .tuple [.tuple (ps.map .str), .tuple (ws.map wayD)]
def wdD (w : Wd) : D := .tuple [webD w.ps w.ws, .tuple (w.hs.map .str), .tuple (w.cr.map crD)]
theorem way_tup (ws : List Way) : ws.map wayD = (ws.map wayK).map tupD := by rw [List.map_map]; rfl
structure WebOk (ps : List Str) (ws : List Way) : Prop where
  pn : ∀ x ∈ ps, IsName x
  pd : ps.Nodup
  po : ps.Pairwise fun a b => leS a b = true
  p2 : 2 ≤ ps.length
  p10 : ps.length ≤ 10
  wl : ws.length ≤ 14
  wn : ∀ w ∈ ws, IsName w.n
  wd : (ws.map Way.n).Nodup
  wo : ws.Pairwise fun a b => leS a.n b.n = true
  we : ∀ w ∈ ws, w.lo ∈ ps ∧ w.hi ∈ ps ∧ w.lo ≠ w.hi ∧ leS w.lo w.hi = true
theorem WebOk.lo {ps : List Str} {ws : List Way} (h : WebOk ps ws) {w : Way} (hw : w ∈ ws) : IsName w.lo := h.pn _ (h.we w hw).1
theorem WebOk.hi {ps : List Str} {ws : List Way} (h : WebOk ps ws) {w : Way} (hw : w ∈ ws) : IsName w.hi := h.pn _ (h.we w hw).2.1
structure WdOk (w : Wd) : Prop where
  web : WebOk w.ps w.ws
  hl : w.hs.length = w.ws.length
  he : ∀ (k : Nat) (y : Way) (x : Str), w.ws[k]? = some y → w.hs[k]? = some x → x = y.lo ∨ x = y.hi
  cl : w.cr.length = w.ps.length
  cn : ∀ p ∈ w.cr, ∀ x ∈ p.2, IsName x
  cd : (w.cr.flatMap (·.2)).Nodup
  co : ∀ p ∈ w.cr, p.2.Pairwise fun a b => leS a b = true
  cs : (w.cr.map fun p => p.1 + p.2.length).sum ≤ 8
theorem leK_way {a b : Way} (h : leK (wayK a) (wayK b) = true) : leS a.n b.n = true := by
  unfold leK wayK at h
  rw [lexK] at h
  by_cases e : (Sum.inr b.n : Key) = .inr a.n
  · have e : b.n = a.n := Sum.inr.inj e
    rw [e]; unfold leS; rw [ltS_irr]; rfl
  · rw [if_neg e] at h
    exact h
def sortW (ws : List Way) : List Way := ws.mergeSort fun a b => leK (wayK a) (wayK b)
theorem sortW_perm (ws : List Way) : (sortW ws).Perm ws := List.mergeSort_perm ws _
theorem sortW_pw (ws : List Way) : (sortW ws).Pairwise fun a b => leK (wayK a) (wayK b) = true := List.pairwise_mergeSort (le := fun a b => leK (wayK a) (wayK b)) (fun _ _ _ => leK_trans) (fun a b => leK_total _ _) ws
theorem sortW_eq (ws : List Way) : sortK (ws.map wayK) = (sortW ws).map wayK :=
  (sortK_eq ((sortW_perm ws).map wayK) (List.pairwise_map.mpr (sortW_pw ws))).symm
theorem shape_ways (ws : List Way) : oneShape (ws.map wayK) = true := by
  cases ws with
  | nil => rfl
  | cons w ws =>
    rw [List.map_cons]
    unfold oneShape
    simp only [Bool.and_eq_true, List.all_eq_true]
    refine ⟨rfl, fun k hk => ?_⟩
    obtain ⟨y, _, rfl⟩ := List.mem_map.mp hk
    rfl
structure Sz (a b c d e : Int) : Prop where
  a0 : 2 ≤ a
  a1 : a ≤ 10
  b0 : 0 ≤ b
  b1 : b ≤ 14
  e0 : 0 ≤ e
  c0 : e ≤ c
  c1 : c ≤ 8
  d0 : e ≤ d
  d1 : d ≤ 8
theorem names_ok {xs : List Str} (h : ∀ x ∈ xs, IsName x) : ∀ x ∈ xs, Ok x := fun x hx => alnum_ok (h x hx).2.2.2
/-- two texts in order -/
theorem sort_two {x y : Str} (hn : x ≠ y) : ∃ u v, sortStr [x, y] = [u, v] ∧ leS u v = true ∧ u ≠ v ∧ ((u = x ∧ v = y) ∨ (u = y ∧ v = x)) := by
  have p := sortStr_perm [x, y]
  have w := sortStr_pw [x, y]
  cases hs : sortStr [x, y] with
  | nil => rw [hs] at p; have := p.length_eq; simp at this
  | cons u l =>
    cases l with
    | nil => rw [hs] at p; have := p.length_eq; simp at this
    | cons v l =>
      cases l with
      | cons _ _ => rw [hs] at p; have := p.length_eq; simp at this
      | nil =>
        rw [hs] at p w
        have l1 := (List.pairwise_cons.mp w).1 v (by simp)
        have hu : u ∈ [x, y] := p.mem_iff.mp (by simp)
        have hv : v ∈ [x, y] := p.mem_iff.mp (by simp)
        have hx : x ∈ [u, v] := p.symm.mem_iff.mp (by simp)
        have hy : y ∈ [u, v] := p.symm.mem_iff.mp (by simp)
        simp only [List.mem_cons, List.not_mem_nil, or_false] at hu hv hx hy
        refine ⟨u, v, rfl, l1, ?_, ?_⟩
        · rcases hu with rfl | rfl <;> rcases hv with rfl | rfl
          · rcases hy with z | z <;> exact absurd z.symm hn
          · exact hn
          · exact Ne.symm hn
          · rcases hx with z | z <;> exact absurd z hn
        · rcases hu with rfl | rfl <;> rcases hv with rfl | rfl
          · rcases hy with z | z <;> exact absurd z.symm hn
          · exact .inl ⟨rfl, rfl⟩
          · exact .inr ⟨rfl, rfl⟩
          · rcases hx with z | z <;> exact absurd z hn

/-! ### a world as a value: its size, its ways, its walkers -/
def tailS (y : Way) (x : Str) : Str := if x = y.lo then y.hi else y.lo
def pairs (w : Wd) : List (Way × Str) := w.ws.zip w.hs
def tails (w : Wd) : List Str := (pairs w).map fun p => tailS p.1 p.2
def sizesW (w : Wd) : List Nat := w.cr.map fun p => p.1 + p.2.length
def turnedW (w : Wd) : Wd := { w with hs := tails w }
theorem name_fit {x : Str} (h : IsName x) : Fit 0 70 (.str x) := fit_str (alnum_ok h.2.2.2) (by have := h.2.1; omega)
theorem names_fit {xs : List Str} {n : Nat} (h : ∀ x ∈ xs, IsName x) (hn : xs.length ≤ n) : Fit 1 (71 * n) (.tuple (xs.map .str)) :=
  (fit_tup (k := 0) (w := 70) (ds := xs.map PyData.str) fun d hd => by
    obtain ⟨x, hx, rfl⟩ := List.mem_map.mp hd
    exact name_fit (h x hx)).mono (Nat.le_refl _) (by rw [List.length_map]; exact Nat.mul_le_mul_left _ hn)
theorem small_fit {k : Nat} (h : k ≤ 1000) : Fit 0 70 (.int k) := fit_int (by
  have : ((k : Nat) : Int).natAbs = k := by simp
  rw [this]
  exact Nat.lt_of_le_of_lt h (by decide))
theorem way_fit {ps : List Str} {ws : List Way} (h : WebOk ps ws) {y : Way} (hy : y ∈ ws) : Fit 1 213 (wayD y) :=
  fit_tup (k := 0) (w := 70) (ds := [.str y.n, .str y.lo, .str y.hi]) fun d hd => by
    simp only [List.mem_cons, List.not_mem_nil, or_false] at hd
    rcases hd with rfl | rfl | rfl
    · exact name_fit (h.wn y hy)
    · exact name_fit (h.lo hy)
    · exact name_fit (h.hi hy)
theorem web_fit {ps : List Str} {ws : List Way} (h : WebOk ps ws) : Fit 3 5994 (webD ps ws) := by
  have f1 := names_fit (n := 10) h.pn h.p10
  have f2 : Fit 2 2996 (.tuple (ws.map wayD)) := (fit_tup (k := 1) (w := 213) (ds := ws.map wayD) fun d hd => by
    obtain ⟨y, hy, rfl⟩ := List.mem_map.mp hd
    exact way_fit h hy).mono (Nat.le_refl _) (by rw [List.length_map]; exact Nat.mul_le_mul_left 214 h.wl)
  exact fit_tup (k := 2) (w := 2996) (ds := [.tuple (ps.map .str), .tuple (ws.map wayD)]) fun d hd => by
    simp only [List.mem_cons, List.not_mem_nil, or_false] at hd
    rcases hd with rfl | rfl
    · exact f1.mono (by decide) (by decide)
    · exact f2
theorem WdOk.cle {w : Wd} (h : WdOk w) {p : Nat × List Str} (hp : p ∈ w.cr) : p.1 + p.2.length ≤ 8 := by
  have : p.1 + p.2.length ≤ (w.cr.map fun p => p.1 + p.2.length).sum := le_sum (List.mem_map.mpr ⟨p, hp, rfl⟩)
  have := h.cs
  omega
theorem cr_fit {w : Wd} (h : WdOk w) {p : Nat × List Str} (hp : p ∈ w.cr) : Fit 2 1138 (crD p) := by
  have := h.cle hp
  exact fit_tup (k := 1) (w := 568) (ds := [.int p.1, .tuple (p.2.map .str)]) fun d hd => by
    simp only [List.mem_cons, List.not_mem_nil, or_false] at hd
    rcases hd with rfl | rfl
    · exact (small_fit (by omega)).mono (by decide) (by decide)
    · exact names_fit (n := 8) (h.cn p hp) (by omega)
theorem WdOk.pr {w : Wd} (h : WdOk w) {p : Way × Str} (hp : p ∈ pairs w) : p.1 ∈ w.ws ∧ (p.2 = p.1.lo ∨ p.2 = p.1.hi) := by
  obtain ⟨k, hk⟩ := List.mem_iff_getElem?.mp hp
  obtain ⟨q1, q2⟩ := List.getElem?_zip_eq_some.mp hk
  exact ⟨List.mem_of_getElem? q1, h.he k p.1 p.2 q1 q2⟩
theorem WdOk.hn {w : Wd} (h : WdOk w) : ∀ x ∈ w.hs, IsName x ∧ x ∈ w.ps := fun x hx => by
  obtain ⟨k, hk⟩ := List.mem_iff_getElem?.mp hx
  have hl : k < w.ws.length := by rw [← h.hl]; exact (List.getElem?_eq_some_iff.mp hk).1
  have hw := List.getElem_mem hl
  rcases h.he k _ x (List.getElem?_eq_getElem hl) hk with rfl | rfl
  · exact ⟨h.web.lo hw, (h.web.we _ hw).1⟩
  · exact ⟨h.web.hi hw, (h.web.we _ hw).2.1⟩
theorem wd_fit {w : Wd} (h : WdOk w) : Fit 4 34173 (wdD w) := by
  have f1 := web_fit h.web
  have f2 := names_fit (n := 14) (fun x hx => (h.hn x hx).1) (by rw [h.hl]; exact h.web.wl)
  have f3 : Fit 3 11390 (.tuple (w.cr.map crD)) := (fit_tup (k := 2) (w := 1138) (ds := w.cr.map crD) fun d hd => by
    obtain ⟨p, hp, rfl⟩ := List.mem_map.mp hd
    exact cr_fit h hp).mono (Nat.le_refl _) (by rw [List.length_map, h.cl]; exact Nat.mul_le_mul_left 1139 h.web.p10)
  exact fit_tup (k := 3) (w := 11390) (ds := [webD w.ps w.ws, .tuple (w.hs.map .str), .tuple (w.cr.map crD)]) fun d hd => by
    simp only [List.mem_cons, List.not_mem_nil, or_false] at hd
    rcases hd with rfl | rfl | rfl
    · exact f1.mono (by decide) (by decide)
    · exact f2.mono (by decide) (by decide)
    · exact f3
theorem nodesA_le {α : Type} (f : α → D) (c : Nat) : ∀ (l : List α), (∀ a ∈ l, nodes (f a) ≤ c) → nodesA (l.map f) ≤ c * l.length
  | [], _ => by simp [nodesA]
  | a :: l, h => by
    have h1 := h a List.mem_cons_self
    have h2 := nodesA_le f c l fun b hb => h b (List.mem_cons_of_mem _ hb)
    rw [List.map_cons, nodesA, List.length_cons, Nat.mul_add]
    omega
theorem nodes_strs (xs : List Str) : nodes (.tuple (xs.map .str)) ≤ 1 + xs.length := by
  have := nodesA_le PyData.str 1 xs fun a _ => by simp [nodes]
  rw [nodes]; omega
theorem wd_nodes {w : Wd} (h : WdOk w) : nodes (wdD w) ≤ 1000 := by
  have a1 := nodes_strs w.ps
  have a2 := nodes_strs w.hs
  have a3 := nodesA_le wayD 4 w.ws fun y _ => by simp [wayD, nodes, nodesA]
  have a4 := nodesA_le crD 12 w.cr fun p hp => by
    have := nodes_strs p.2
    have := h.cle hp
    simp only [crD, nodes, nodesA] at *
    omega
  have e1 := h.web.p10
  have e2 := h.web.wl
  have e3 := h.hl
  have e4 := h.cl
  simp only [wdD, webD, nodes, nodesA] at *
  omega
theorem tailS_name {w : Wd} (h : WdOk w) {p : Way × Str} (hp : p ∈ pairs w) : IsName (tailS p.1 p.2) ∧ tailS p.1 p.2 ∈ w.ps := by
  obtain ⟨hw, _⟩ := h.pr hp
  unfold tailS
  split
  · exact ⟨h.web.hi hw, (h.web.we _ hw).2.1⟩
  · exact ⟨h.web.lo hw, (h.web.we _ hw).1⟩
theorem pairs_len {w : Wd} (h : WdOk w) : (pairs w).length = w.ws.length := by
  unfold pairs
  rw [List.length_zip, h.hl, Nat.min_self]
theorem tails_len {w : Wd} (h : WdOk w) : (tails w).length = w.ws.length := by
  unfold tails
  rw [List.length_map, pairs_len h]
theorem tails_get {w : Wd} (k : Nat) (y : Way) (x : Str) (h1 : w.ws[k]? = some y) (h2 : w.hs[k]? = some x) : (tails w)[k]? = some (tailS y x) := by
  unfold tails pairs
  rw [List.getElem?_map, List.getElem?_zip_eq_some.mpr (show w.ws[k]? = some (y, x).1 ∧ w.hs[k]? = some (y, x).2 from ⟨h1, h2⟩)]
  rfl
theorem turnedW_ok {w : Wd} (h : WdOk w) : WdOk (turnedW w) :=
  ⟨h.web, tails_len h, fun k y x h1 h2 => by
    have h2 : (tails w)[k]? = some x := h2
    have h1 : w.ws[k]? = some y := h1
    have hk : k < w.hs.length := by rw [h.hl]; exact (List.getElem?_eq_some_iff.mp h1).1
    rw [tails_get k y _ h1 (List.getElem?_eq_getElem hk)] at h2
    cases h2
    unfold tailS
    split
    · exact .inr rfl
    · exact .inl rfl, h.cl, h.cn, h.cd, h.co, h.cs⟩
theorem turned2 {w : Wd} (h : WdOk w) : turnedW (turnedW w) = w := by
  have e : tails (turnedW w) = w.hs := by
    apply List.ext_getElem?
    intro k
    have hlen : (tails (turnedW w)).length = w.hs.length := by rw [tails_len (turnedW_ok h), h.hl]; rfl
    by_cases hk : k < w.ws.length
    · have hk2 : k < w.hs.length := by rw [h.hl]; exact hk
      have h1 := List.getElem?_eq_getElem hk
      have h2 := List.getElem?_eq_getElem hk2
      have h3 := tails_get k _ _ h1 h2
      rw [tails_get (w := turnedW w) k _ _ h1 h3, h2]
      congr 1
      have hw := List.getElem_mem hk
      have hne := (h.web.we _ hw).2.2.1
      rcases h.he k _ _ h1 h2 with e | e
      · unfold tailS
        rw [if_pos e, if_neg (Ne.symm hne), e]
      · unfold tailS
        rw [e, if_neg (Ne.symm hne), if_pos rfl]
    · rw [List.getElem?_eq_none (by rw [hlen, h.hl]; omega), List.getElem?_eq_none (by rw [h.hl]; omega)]
  show ({ (turnedW w) with hs := tails (turnedW w) } : Wd) = w
  rw [e]; rfl

def arrD (p : Way × Str) : D := .tuple [.str p.1.n, .str (tailS p.1 p.2), .str p.2]
section
variable {QF XF : D → List D → Prop} {w : Wd}
theorem okN {x : Str} (h : IsName x) : PyData.strOk x = true := ok_iff.mpr (alnum_ok h.2.2.2)
theorem arrows_to_ok (h : WdOk w) (q : QF (.list ((pairs w).map arrD)) []) : wF (m_arrows_to [webD w.ps w.ws, .tuple (w.hs.map .str)]) QF XF := by
  rw [m_arrows_to, wF_run, b_arrows_to]
  unfold webD
  have sz := sz_eq
  have pl := pairs_len h
  have wl := h.web.wl
  walk_at "wp"
  refine ⟨by decide, ?_⟩
  rw [zipD_map]
  refine loop_inv (fun rs ρ => ∃ (dn l : List (Way × Str)) (z3 z4 z5 z6 : Option D), pairs w = dn ++ l ∧ rs = l.map (fun p => .tuple [wayD p.1, .str p.2]) ∧
    ρ = [some (.tuple [.tuple (w.ps.map .str), .tuple (w.ws.map wayD)]), some (.tuple (w.hs.map .str)), some (.list (dn.map arrD)), z3, z4, z5, z6]) ?_ ?_ _ _ ⟨[], pairs w, none, none, none, none, rfl, rfl, rfl⟩
  · rintro d rs ρ ⟨dn, l, z3, z4, z5, z6, e1, e2, rfl⟩
    cases l with
    | nil => cases e2
    | cons p l =>
      simp only [List.map_cons, List.cons.injEq] at e2
      obtain ⟨rfl, rfl⟩ := e2
      have hp : p ∈ pairs w := by rw [e1]; simp
      obtain ⟨hw, hx⟩ := h.pr hp
      have hl : dn.length < 14 := by have := congrArg List.length e1; simp at this; omega
      have o1 := okN (h.web.lo hw)
      have o2 : PyData.strOk p.2 = true := by rcases hx with e | e <;> rw [e]; exact o1; exact okN (h.web.hi hw)
      unfold wayD
      walk_at "wp"
      refine ⟨⟨o2, o1⟩, fun e => ⟨by decide, by rw [List.length_map]; omega, dn ++ [p], l, some (.str p.2), some (.str p.1.n), some (.str p.1.lo), some (.str p.1.hi), by rw [e1]; simp, rfl, ?_⟩, fun e => ⟨by decide, by rw [List.length_map]; omega, dn ++ [p], l, some (.str p.2), some (.str p.1.n), some (.str p.1.lo), some (.str p.1.hi), by rw [e1]; simp, rfl, ?_⟩⟩
      · rw [List.map_append]
        show _ = [_, _, some (PyData.list (dn.map arrD ++ [arrD p])), _, _, _, _]
        unfold arrD tailS
        rw [if_pos e]
      · rw [List.map_append]
        show _ = [_, _, some (PyData.list (dn.map arrD ++ [arrD p])), _, _, _, _]
        unfold arrD tailS
        rw [if_neg e]
  · rintro ρ ⟨dn, l, z3, z4, z5, z6, e1, e2, rfl⟩
    cases l with
    | cons _ _ => cases e2
    | nil =>
      rw [List.append_nil] at e1
      walk_at "wp"
      rw [← e1]
      exact q
theorem arrows_ok (h : WdOk w) (q : QF (.list ((pairs w).map arrD)) []) : wF (m_arrows [wdD w]) QF XF := by
  rw [m_arrows, wF_run, b_arrows]
  unfold wdD
  walk_at "wp"
  refine arrows_to_ok h ?_
  exact q
theorem tails_names (h : WdOk w) : ∀ x ∈ tails w, IsName x := fun x hx => by
  unfold tails at hx
  obtain ⟨p, hp, rfl⟩ := List.mem_map.mp hx
  exact (tailS_name h hp).1
theorem tail_ok {k : Nat} {x : Str} (h : WdOk w) (hk : (tails w)[k]? = some x) (q : QF (.str x) []) : wF (m_tail [wdD w, .int k]) QF XF := by
  rw [m_tail, wF_run, b_tail]
  have hl : k < w.ws.length := by rw [← tails_len h]; exact (List.getElem?_eq_some_iff.mp hk).1
  have hl2 : k < w.hs.length := by rw [h.hl]; exact hl
  have g1 : w.ws[k]? = some (w.ws[k]'hl) := List.getElem?_eq_getElem _
  have g2 : w.hs[k]? = some (w.hs[k]'hl2) := List.getElem?_eq_getElem _
  have hw := List.getElem_mem hl
  have hx := List.getElem_mem hl2
  generalize w.ws[k]'hl = y at g1 hw
  generalize w.hs[k]'hl2 = z at g2 hx
  rw [tails_get k y z g1 g2] at hk
  cases hk
  have o1 := okN (h.web.lo hw)
  have o2 := okN (h.hn z hx).1
  unfold wdD webD
  walk_at "wp"
  refine atI_w (by omega) (by rw [List.length_map]; omega) fun d hd _ => atI_w (by omega) (by rw [List.length_map]; omega) fun d2 hd2 _ => ?_
  rw [show ((k : Nat) : Int).toNat = k by omega, List.getElem?_map] at hd hd2
  rw [g1] at hd
  rw [g2] at hd2
  cases hd
  cases hd2
  unfold wayD
  walk_at "wp"
  unfold tailS at q
  refine ⟨⟨o2, o1⟩, fun e => ?_, fun e => ?_⟩
  · rw [if_pos e] at q; exact q
  · rw [if_neg e] at q; exact q
end

/-! ### what _law_build makes -/
theorem permS : ∀ {l l' : List Str}, l.Perm l' → l.Pairwise (fun a b => leS a b = true) → l'.Pairwise (fun a b => leS a b = true) → l = l'
  | [], l', p, _, _ => (List.Perm.eq_nil p.symm).symm
  | x :: r, [], p, _, _ => absurd (List.Perm.eq_nil p) (by simp)
  | x :: r, y :: t, p, h1, h2 => by
    have hx : x ∈ y :: t := p.subset List.mem_cons_self
    have hy : y ∈ x :: r := p.symm.subset List.mem_cons_self
    have e : x = y := by
      rcases List.mem_cons.mp hx with e | e
      · exact e
      · rcases List.mem_cons.mp hy with e2 | e2
        · exact e2.symm
        · exact leS_anti ((List.pairwise_cons.mp h1).1 y e2) ((List.pairwise_cons.mp h2).1 x e)
    subst e
    rw [permS ((List.perm_cons x).mp p) (List.pairwise_cons.mp h1).2 (List.pairwise_cons.mp h2).2]
theorem sortStr_eq {xs ys : List Str} (p : ys.Perm xs) (h : ys.Pairwise (fun a b => leS a b = true)) : sortStr xs = ys := (permS (p.trans (sortStr_perm xs).symm) h (sortStr_pw xs)).symm
theorem leS_refl (a : Str) : leS a a = true := by have := leS_total a a; simpa using this
theorem sort_pair (a b : Str) : sortStr [a, b] = if leS a b = true then [a, b] else [b, a] := by
  split
  · rename_i h
    exact sortStr_eq (List.Perm.refl _) (by simp [h])
  · rename_i h
    have := leS_total a b
    have h2 : leS b a = true := by
      rw [Bool.or_eq_true] at this
      rcases this with z | z
      · exact absurd z h
      · exact z
    exact sortStr_eq (List.Perm.swap ..) (by simp [h2])
abbrev Lnk := Str × Str × Str
def lnkK (l : Lnk) : List Key := [.inr l.1, .inr l.2.1, .inr l.2.2]
def lnkD (l : Lnk) : D := .tuple [.str l.1, .str l.2.1, .str l.2.2]
def plD (p : Str × Int) : D := .tuple [.str p.1, .int p.2]
def hoK (h : Str × Str) : List Key := [.inr h.1, .inr h.2]
def hoD (h : Str × Str) : D := .tuple [.str h.1, .str h.2]
def sortL (ls : List Lnk) : List Lnk := ls.mergeSort fun a b => leK (lnkK a) (lnkK b)
theorem sortL_perm (ls : List Lnk) : (sortL ls).Perm ls := List.mergeSort_perm ls _
theorem sortL_pw (ls : List Lnk) : (sortL ls).Pairwise fun a b => leK (lnkK a) (lnkK b) = true := List.pairwise_mergeSort (le := fun a b => leK (lnkK a) (lnkK b)) (fun _ _ _ => leK_trans) (fun a b => leK_total _ _) ls
theorem sortL_K (ls : List Lnk) : sortK (ls.map lnkK) = (sortL ls).map lnkK := (sortK_eq ((sortL_perm ls).map lnkK) (List.pairwise_map.mpr (sortL_pw ls))).symm
theorem lnk_tup (ls : List Lnk) : ls.map lnkD = (ls.map lnkK).map tupD := by rw [List.map_map]; rfl
theorem lnkK_inj {a b : Lnk} (h : lnkK a = lnkK b) : a = b := by
  obtain ⟨a1, a2, a3⟩ := a
  obtain ⟨b1, b2, b3⟩ := b
  simp only [lnkK, List.cons.injEq, Sum.inr.injEq, and_true] at h
  obtain ⟨rfl, rfl, rfl⟩ := h
  rfl
theorem sortL_eq {xs ys : List Lnk} (p : ys.Perm xs) (h : ys.Pairwise fun a b => leK (lnkK a) (lnkK b) = true) : sortL xs = ys := by
  have := permK ((p.trans (sortL_perm xs).symm).map lnkK) (List.pairwise_map.mpr h) (List.pairwise_map.mpr (sortL_pw xs))
  have inj : ∀ (l l' : List Lnk), l.map lnkK = l'.map lnkK → l = l' := by
    intro l
    induction l with
    | nil => intro l' e; cases l' with
      | nil => rfl
      | cons _ _ => cases e
    | cons a l ih =>
      intro l' e
      cases l' with
      | nil => cases e
      | cons b l' =>
        simp only [List.map_cons, List.cons.injEq] at e
        rw [lnkK_inj e.1, ih l' e.2]
  exact (inj _ _ this).symm
theorem shape_lnk (ls : List Lnk) : oneShape (ls.map lnkK) = true := by
  cases ls with
  | nil => rfl
  | cons w ws =>
    rw [List.map_cons]
    unfold oneShape
    simp only [Bool.and_eq_true, List.all_eq_true]
    refine ⟨rfl, fun k hk => ?_⟩
    obtain ⟨y, _, rfl⟩ := List.mem_map.mp hk
    rfl
theorem shape_ho (ls : List (Str × Str)) : oneShape (ls.map hoK) = true := by
  cases ls with
  | nil => rfl
  | cons w ws =>
    rw [List.map_cons]
    unfold oneShape
    simp only [Bool.and_eq_true, List.all_eq_true]
    refine ⟨rfl, fun k hk => ?_⟩
    obtain ⟨y, _, rfl⟩ := List.mem_map.mp hk
    rfl
theorem ho_tup (ls : List (Str × Str)) : ls.map hoD = (ls.map hoK).map tupD := by rw [List.map_map]; rfl
theorem hoK_inj {a b : Str × Str} (h : hoK a = hoK b) : a = b := by
  obtain ⟨a1, a2⟩ := a
  obtain ⟨b1, b2⟩ := b
  simp only [hoK, List.cons.injEq, Sum.inr.injEq, and_true] at h
  obtain ⟨rfl, rfl⟩ := h
  rfl
def sortH (ls : List (Str × Str)) : List (Str × Str) := ls.mergeSort fun a b => leK (hoK a) (hoK b)
theorem sortH_perm (ls : List (Str × Str)) : (sortH ls).Perm ls := List.mergeSort_perm ls _
theorem sortH_K (ls : List (Str × Str)) : sortK (ls.map hoK) = (sortH ls).map hoK :=
  (sortK_eq ((sortH_perm ls).map hoK) (List.pairwise_map.mpr (List.pairwise_mergeSort (le := fun a b => leK (hoK a) (hoK b)) (fun _ _ _ => leK_trans) (fun a b => leK_total _ _) ls))).symm
def wayL (l : Lnk) : Way := if leS l.2.1 l.2.2 = true then ⟨l.1, l.2.1, l.2.2⟩ else ⟨l.1, l.2.2, l.2.1⟩
def sumAt (pl : List (Str × Int)) (x : Str) : Int := ((pl.filter fun p => decide (p.1 = x)).map (·.2)).sum
def namesAt (ho : List (Str × Str)) (x : Str) : List Str := (ho.filter fun p => decide (p.2 = x)).map (·.1)
def bldW (sp : List Str) (ls : List Lnk) (pl : List (Str × Int)) (ho : List (Str × Str)) : Wd :=
  { ps := sortStr sp, ws := (sortL ls).map wayL, hs := (sortL ls).map (·.2.2), cr := (sortStr sp).map fun x => ((sumAt pl x).toNat, sortStr (namesAt ho x)) }

section
variable {S : D} {QF XF : D → List D → Prop}
theorem fresh_ok {many : Int} (hS : Sto S) (h0 : 0 ≤ many) (h1 : many ≤ 100) (h : ∀ (ys : List Str) (S' : D), Sto S' → (∀ x ∈ ys, IsName x) → ys.Nodup → ys.length = many.toNat → QF (.list (ys.map .str)) [S']) : wF (m_fresh [S, .int many]) QF XF := by
  rw [m_fresh, wF_run, b_fresh]
  have sz := sz_eq
  walk_at "wp"
  refine ⟨by decide, wI_rng ?_⟩
  walk_at "wp"
  refine ⟨by omega, by omega, ?_⟩
  refine loop_inv (fun rs ρ => ∃ (S' : D) (ys : List Str) (z : Option D), Sto S' ∧ (∀ x ∈ ys, IsName x) ∧ ys.Nodup ∧ ys.length + rs.length = many.toNat ∧ ρ = [some S', some (.int many), some (.list (ys.map .str)), z]) ?_ ?_ _ _
    ⟨S, [], none, hS, by simp, by simp, by rw [len_intsF]; simp, rfl⟩
  · rintro dk rs ρ ⟨S', ys, z, hS', yn, yd, hl, rfl⟩
    rw [List.length_cons] at hl
    walk_at "wp"
    refine new_ok hS' (by omega) (names_ok yn) .lst fun y S2 hS2 hy hn => ?_
    walk_at "wp"
    refine ⟨by rw [List.length_map]; omega, S2, ys ++ [y], some dk, hS2, fun x hx => ?_, ?_, by simp; omega, by rw [List.map_append]; rfl⟩
    · rcases List.mem_append.mp hx with w | w
      · exact yn x w
      · rw [List.mem_singleton.mp w]; exact hy
    · rw [List.nodup_append]
      refine ⟨yd, by simp, fun x hx w hw e => ?_⟩
      rw [List.mem_singleton] at hw
      subst hw e
      exact hn hx
  · rintro ρ ⟨S', ys, z, hS', yn, yd, hl, rfl⟩
    walk_at "wp"
    exact h ys S' hS' yn yd (by simpa using hl)
end

section
variable {QF XF : D → List D → Prop}
theorem build_ok {sp : List Str} {ls : List Lnk} {pl : List (Str × Int)} {ho : List (Str × Str)} {d : D} (hd : SqD (sp.map .str) d) (hsp : ∀ x ∈ sp, IsName x) (hsl : sp.length ≤ 10) (hll : ls.length ≤ 14) (hpl : pl.length ≤ 100) (hhl : ho.length ≤ 60)
    (hle : ∀ l ∈ ls, IsName l.2.1 ∧ IsName l.2.2) (hpn : ∀ p ∈ pl, IsName p.1) (hhn : ∀ p ∈ ho, IsName p.1 ∧ IsName p.2) (hpos : ∀ x ∈ sp, 0 ≤ sumAt pl x)
    (q : QF (wdD (bldW sp ls pl ho)) []) : wF (m_build [d, .list (ls.map lnkD), .list (pl.map plD), .list (ho.map hoD)]) QF XF := by
  rw [m_build, wF_run, b_build]
  have sz := sz_eq
  have hsort : ∀ K : D → Prop, K (.list ((sortStr sp).map .str)) → wV (oSortA [d]) K := fun K k => by
    cases hd with
    | lst => rw [vo_sortS (by omega)]; exact k
    | tup => rw [vo_sortT]; exact k
  have hsm : ∀ x ∈ sortStr sp, x ∈ sp := fun x hx => (sortStr_perm sp).mem_iff.mp hx
  have hslen : (sortStr sp).length = sp.length := (sortStr_perm sp).length_eq
  have hllen : (sortL ls).length = ls.length := (sortL_perm ls).length_eq
  generalize hL : PyData.list (ls.map lnkD) = L
  have hsL : ∀ K : D → Prop, K (.list ((sortL ls).map lnkD)) → wV (oSortA [L]) K := fun K k => by
    rw [← hL, lnk_tup, vo_sortK (shape_lnk ls), sortL_K, ← lnk_tup]; exact k
  generalize hP : PyData.list (pl.map plD) = P
  generalize hH : PyData.list (ho.map hoD) = H
  refine wS_cut (I := fun ρ => ρ = [some d, some L, some P, some H, some (.list []), none, none, none, none, none, none]) (by walk_at "wp"; decide) ?_
  rintro ρ rfl
  refine wS_cut (I := fun ρ => ρ = [some d, some L, some P, some H, some (.list []), some (.list []), none, none, none, none, none]) (by walk_at "wp"; decide) ?_
  rintro ρ rfl
  refine wS_cut (I := fun ρ => ∃ z6 z9, ρ = [some d, some L, some P, some H, some (.list ((sortL ls).map fun l => wayD (wayL l))), some (.list ((sortL ls).map fun l => .str l.2.2)), z6, none, none, z9, none]) ?_ ?_
  · walk_at "wp"
    refine hsL _ ?_
    walk_at "wp"
    refine loop_inv (fun rs ρ => ∃ (dn l : List Lnk) (z6 z9 : Option D), sortL ls = dn ++ l ∧ rs = l.map lnkD ∧ ρ = [some d, some L, some P, some H, some (.list (dn.map fun l => wayD (wayL l))), some (.list (dn.map fun l => .str l.2.2)), z6, none, none, z9, none]) ?_ ?_ _ _ ⟨[], sortL ls, none, none, rfl, rfl, rfl⟩
    · rintro dk rs ρ ⟨dn, l, z6, z9, e1, e2, rfl⟩
      cases l with
      | nil => cases e2
      | cons x l =>
        simp only [List.map_cons, List.cons.injEq] at e2
        obtain ⟨rfl, rfl⟩ := e2
        have hx : x ∈ ls := (sortL_perm ls).mem_iff.mp (by rw [e1]; simp)
        have hdn : dn.length < 14 := by have := congrArg List.length e1; simp at this; omega
        obtain ⟨n, a, b⟩ := x
        unfold lnkD
        walk_at "wp"
        have e := sort_pair a b
        rw [show ([.str a, .str b] : List D) = [a, b].map .str from rfl, vo_sortS (by show (2 : Nat) < 64; decide), e]
        have fin : ∀ u v : Str, wayL (n, a, b) = ⟨n, u, v⟩ → (dn.map fun l => wayD (wayL l)) ++ [.tuple [.str n, .str u, .str v]] = (dn ++ [(n, a, b)]).map fun l => wayD (wayL l) := fun u v h => by
          rw [List.map_append, List.map_cons, List.map_nil, h]; rfl
        by_cases hle : leS a b = true
        · rw [if_pos hle]
          walk_at "wp"
          refine ⟨by decide, by decide, by rw [List.length_map]; omega, by rw [List.length_map]; omega, dn ++ [(n, a, b)], l, some (.tuple [.str n, .str a, .str b]), some (.list [.str a, .str b]), by rw [e1]; simp, rfl, ?_⟩
          rw [fin a b (by unfold wayL; rw [if_pos hle])]
          simp only [List.map_append, List.map_cons, List.map_nil]
        · rw [if_neg hle]
          walk_at "wp"
          refine ⟨by decide, by decide, by rw [List.length_map]; omega, by rw [List.length_map]; omega, dn ++ [(n, a, b)], l, some (.tuple [.str n, .str a, .str b]), some (.list [.str b, .str a]), by rw [e1]; simp, rfl, ?_⟩
          rw [fin b a (by unfold wayL; rw [if_neg hle])]
          simp only [List.map_append, List.map_cons, List.map_nil]
    · rintro ρ ⟨dn, l, z6, z9, e1, e2, rfl⟩
      cases l with
      | cons _ _ => cases e2
      | nil =>
        rw [List.append_nil] at e1
        rw [e1]
        exact ⟨z6, z9, rfl⟩
  rintro ρ ⟨z6, z9, rfl⟩
  refine wS_cut (I := fun ρ => ρ = [some d, some L, some P, some H, some (.list ((sortL ls).map fun l => wayD (wayL l))), some (.list ((sortL ls).map fun l => .str l.2.2)), z6, some (.list []), none, z9, none]) (by walk_at "wp"; decide) ?_
  rintro ρ rfl
  generalize hR : PyData.list ((sortL ls).map fun l => wayD (wayL l)) = R
  generalize hE : PyData.list ((sortL ls).map fun l => PyData.str l.2.2) = E
  refine wS_cut (I := fun ρ => ∃ z8 z9 z10, ρ = [some d, some L, some P, some H, some R, some E, z6, some (.list ((bldW sp ls pl ho).cr.map crD)), z8, z9, z10]) ?_ ?_
  · walk_at "wp"
    refine hsort _ ?_
    walk_at "wp"
    refine loop_inv (fun rs ρ => ∃ (dn l : List Str) (z8 z9 z10 : Option D), sortStr sp = dn ++ l ∧ rs = l.map .str ∧ ρ = [some d, some L, some P, some H, some R, some E, z6, some (.list (dn.map fun x => crD ((sumAt pl x).toNat, sortStr (namesAt ho x)))), z8, z9, z10]) ?_ ?_ _ _ ⟨[], sortStr sp, none, z9, none, rfl, rfl, rfl⟩
    · rintro dk rs ρ ⟨dn, l, z8, z9, z10, e1, e2, rfl⟩
      cases l with
      | nil => cases e2
      | cons x l =>
        simp only [List.map_cons, List.cons.injEq] at e2
        obtain ⟨rfl, rfl⟩ := e2
        have hx : x ∈ sp := hsm x (by rw [e1]; simp)
        have hxn := hsp x hx
        have hdn : dn.length < 10 := by have := congrArg List.length e1; simp at this; omega
        rw [asg_nm]
        simp only [List.set_cons_succ, List.set_cons_zero]
        refine wS_cut (I := fun ρ => ∃ z9, ρ = [some d, some L, some P, some H, some R, some E, z6, some (.list (dn.map fun x => crD ((sumAt pl x).toNat, sortStr (namesAt ho x)))), some (.str x), z9, some (.int (sumAt pl x))]) ?_ ?_
        · walk_at "wp"
          rw [← hP]
          walk_at "wp"
          rw [hP]
          refine lc_filtG plD (fun p => .int p.2) (fun p => decide (p.1 = x)) (fun ρ => ∃ z9, ρ = [some d, some L, some P, some H, some R, some E, z6, some (.list (dn.map fun x => crD ((sumAt pl x).toNat, sortStr (namesAt ho x)))), some (.str x), z9, z10]) _ (by omega) ?_ ?_ ⟨z9, rfl⟩
          · rintro p hp ρ ⟨z9, rfl⟩
            unfold plD
            walk_at "wp"
            exact ⟨⟨okN (hpn p hp), okN hxn⟩, fun _ => ⟨_, rfl⟩, fun _ => ⟨_, rfl⟩⟩
          · rintro ρ ⟨z9, rfl⟩
            walk_at "wp"
            have e : (pl.filter fun p => decide (p.1 = x)).map (fun p => PyData.int p.2) = ((pl.filter fun p => decide (p.1 = x)).map (·.2)).map .int := by rw [List.map_map]; rfl
            rw [e, vo_sumL]
            exact ⟨_, rfl⟩
        rintro ρ ⟨z9, rfl⟩
        walk_at "wp"
        rw [← hH]
        walk_at "wp"
        rw [hH]
        refine lc_filtG hoD (fun p => .str p.1) (fun p => decide (p.2 = x)) (fun ρ => ∃ z9, ρ = [some d, some L, some P, some H, some R, some E, z6, some (.list (dn.map fun x => crD ((sumAt pl x).toNat, sortStr (namesAt ho x)))), some (.str x), z9, some (.int (sumAt pl x))]) _ (by omega) ?_ ?_ ⟨z9, rfl⟩
        · rintro p hp ρ ⟨z9, rfl⟩
          unfold hoD
          walk_at "wp"
          exact ⟨⟨okN (hhn p hp).2, okN hxn⟩, fun _ => ⟨_, rfl⟩, fun _ => ⟨_, rfl⟩⟩
        · rintro ρ ⟨zz, rfl⟩
          walk_at "wp"
          have e : (ho.filter fun p => decide (p.2 = x)).map (fun p => PyData.str p.1) = (namesAt ho x).map .str := by unfold namesAt; rw [List.map_map]; rfl
          have hln : (namesAt ho x).length ≤ 60 := by unfold namesAt; rw [List.length_map]; exact Nat.le_trans (List.length_filter_le _ _) hhl
          rw [e, vo_sortS (by omega)]
          walk_at "wp"
          refine ⟨by decide, by rw [List.length_map]; omega, dn ++ [x], l, some (.str x), z9, some (.int (sumAt pl x)), by rw [e1]; simp, rfl, ?_⟩
          have e3 : ((sumAt pl x).toNat : Int) = sumAt pl x := Int.toNat_of_nonneg (hpos x hx)
          have e4 : crD ((sumAt pl x).toNat, sortStr (namesAt ho x)) = .tuple [.int (sumAt pl x), .tuple ((sortStr (namesAt ho x)).map .str)] := by
            unfold crD
            simp only [e3]
          rw [List.map_append, List.map_cons, List.map_nil, e4]
    · rintro ρ ⟨dn, l, z8, z9, z10, e1, e2, rfl⟩
      cases l with
      | cons _ _ => cases e2
      | nil =>
        rw [List.append_nil] at e1
        have e : (bldW sp ls pl ho).cr.map crD = dn.map fun x => crD ((sumAt pl x).toNat, sortStr (namesAt ho x)) := by
          unfold bldW
          simp only [e1, List.map_map]
          rfl
        rw [e]
        exact ⟨z8, z9, z10, rfl⟩
  rintro ρ ⟨z8, z9, z10, rfl⟩
  walk_at "wp"
  refine hsort _ ?_
  walk_at "wp"
  rw [← hR, ← hE]
  walk_at "wp"
  refine ⟨by decide, by decide, ?_⟩
  have e : wdD (bldW sp ls pl ho) = .tuple [.tuple [.tuple ((sortStr sp).map .str), .tuple ((sortL ls).map fun l => wayD (wayL l))], .tuple ((sortL ls).map fun l => PyData.str l.2.2), .tuple ((bldW sp ls pl ho).cr.map crD)] := by
    unfold wdD webD
    simp only [bldW, List.map_map]
    rfl
  rw [← e]
  exact q
end

/-! ### a deed: a way turned, a walker moved -/
theorem sum_setG {α : Type} (f : α → Nat) : ∀ (l : List α) (i : Nat) (a x : α), l[i]? = some a → ((l.set i x).map f).sum + f a = (l.map f).sum + f x
  | [], i, a, x, h => by simp at h
  | b :: l, 0, a, x, h => by simp at h; subst h; simp; omega
  | b :: l, i + 1, a, x, h => by
    have := sum_setG f l i a x (by simpa using h)
    simp only [List.set_cons_succ, List.map_cons, List.sum_cons]
    omega
def mnC (p : Nat × List Str) : Option Str → Nat × List Str
  | none => (p.1 - 1, p.2)
  | some x => (p.1, p.2.filter fun y => decide (y ≠ x))
def plC (q : Nat × List Str) : Option Str → Nat × List Str
  | none => (q.1 + 1, q.2)
  | some x => (q.1, sortStr (q.2 ++ [x]))
def canC (p : Nat × List Str) : Option Str → Prop
  | none => 0 < p.1
  | some x => x ∈ p.2
structure Stp (w : Wd) (k i j : Nat) (y : Way) (h : Str) (p q : Nat × List Str) (who : Option Str) : Prop where
  hy : w.ws[k]? = some y
  hh : w.hs[k]? = some h
  pi : w.ps[i]? = some (tailS y h)
  pj : w.ps[j]? = some h
  ci : w.cr[i]? = some p
  cj : w.cr[j]? = some q
  ok : canC p who
def nxt (w : Wd) (k i j : Nat) (y : Way) (h : Str) (p q : Nat × List Str) (who : Option Str) : Wd := { w with hs := w.hs.set k (tailS y h), cr := (w.cr.set i (mnC p who)).set j (plC q who) }
section
variable {w : Wd} {k i j : Nat} {y : Way} {h : Str} {p q : Nat × List Str} {who : Option Str}
theorem tail_ne {y : Way} {h : Str} (hne : y.lo ≠ y.hi) (hh : h = y.lo ∨ h = y.hi) : tailS y h ≠ h := by
  unfold tailS
  rcases hh with e | e
  · rw [if_pos e, e]; exact Ne.symm hne
  · rw [e, if_neg (Ne.symm hne)]; exact hne
theorem tail_tail {y : Way} {h : Str} (hne : y.lo ≠ y.hi) (hh : h = y.lo ∨ h = y.hi) : tailS y (tailS y h) = h := by
  unfold tailS
  rcases hh with e | e
  · rw [if_pos e, if_neg (Ne.symm hne), e]
  · rw [e, if_neg (Ne.symm hne), if_pos rfl]
theorem tail_or (y : Way) (h : Str) : tailS y h = y.lo ∨ tailS y h = y.hi := by
  unfold tailS; split
  · exact .inr rfl
  · exact .inl rfl
theorem Stp.hor (h0 : WdOk w) (s : Stp w k i j y h p q who) : h = y.lo ∨ h = y.hi := h0.he k y h s.hy s.hh
theorem Stp.ne (h0 : WdOk w) (s : Stp w k i j y h p q who) : y.lo ≠ y.hi := (h0.web.we y (List.mem_of_getElem? s.hy)).2.2.1
theorem Stp.ij (h0 : WdOk w) (s : Stp w k i j y h p q who) : i ≠ j := fun e => by
  subst e
  have := s.pi.symm.trans s.pj
  exact tail_ne (s.ne h0) (s.hor h0) (Option.some.inj this)
theorem Stp.il (s : Stp w k i j y h p q who) : i < w.cr.length := (List.getElem?_eq_some_iff.mp s.ci).1
theorem Stp.jl (s : Stp w k i j y h p q who) : j < w.cr.length := (List.getElem?_eq_some_iff.mp s.cj).1
theorem flat_two {l : List (Nat × List Str)} (nd : (l.flatMap (·.2)).Nodup) {i j : Nat} {p q : Nat × List Str} {x : Str} (hi : l[i]? = some p) (hj : l[j]? = some q) (hij : i ≠ j) (hx : x ∈ p.2) : x ∉ q.2 := fun hq => by
  have nd' := nd
  unfold List.Nodup at nd'
  have := List.pairwise_flatMap.mp nd'
  obtain ⟨hil, rfl⟩ := List.getElem?_eq_some_iff.mp hi
  obtain ⟨hjl, rfl⟩ := List.getElem?_eq_some_iff.mp hj
  rcases Nat.lt_or_gt_of_ne hij with z | z
  · exact List.pairwise_iff_getElem.mp this.2 i j hil hjl z x hx x hq rfl
  · exact List.pairwise_iff_getElem.mp this.2 j i hjl hil z x hq x hx rfl
theorem filter_sorted {ns : List Str} {x : Str} (hx : x ∉ ns) (hs : ns.Pairwise fun a b => leS a b = true) : (sortStr (ns ++ [x])).filter (fun y => decide (y ≠ x)) = ns := by
  have e : (sortStr (ns ++ [x])).filter (fun y => decide (y ≠ x)) = sortStr ns := by
    refine (sortStr_eq ?_ ((sortStr_pw _).filter _)).symm
    refine ((sortStr_perm (ns ++ [x])).filter _).trans ?_
    rw [List.filter_append, List.filter_eq_self.mpr fun a ha => by
      rw [decide_eq_true_eq]; exact fun z => hx (z ▸ ha)]
    simp
  rw [e]
  exact sortStr_eq (List.Perm.refl _) hs
theorem sorted_filter {ns : List Str} {x : Str} (hx : x ∈ ns) (nd : ns.Nodup) (hs : ns.Pairwise fun a b => leS a b = true) : sortStr (ns.filter (fun y => decide (y ≠ x)) ++ [x]) = ns := by
  refine sortStr_eq ?_ hs
  have := List.perm_cons_erase hx
  refine this.trans ?_
  rw [nd.erase_eq_filter]
  have e : (ns.filter fun y => decide (y ≠ x)) = ns.filter (fun y => y != x) := List.filter_congr fun a _ => by
    by_cases z : a = x
    · subst z; simp
    · simp [z]
  rw [e]
  exact (List.perm_append_comm (l₁ := [x]))
theorem Stp.back (h0 : WdOk w) (s : Stp w k i j y h p q who) : Stp (nxt w k i j y h p q who) k j i y (tailS y h) (plC q who) (mnC p who) who := by
  have ij := s.ij h0
  have tt := tail_tail (s.ne h0) (s.hor h0)
  refine ⟨s.hy, ?_, ?_, s.pi, ?_, ?_, ?_⟩
  · exact List.getElem?_set_self (List.getElem?_eq_some_iff.mp s.hh).1
  · rw [tt]; exact s.pj
  · show ((w.cr.set i _).set j _)[j]? = _
    exact List.getElem?_set_self (by rw [List.length_set]; exact s.jl)
  · show ((w.cr.set i _).set j _)[i]? = _
    rw [List.getElem?_set_ne (Ne.symm ij)]
    exact List.getElem?_set_self s.il
  · cases who with
    | none => show 0 < q.1 + 1; omega
    | some x => show x ∈ sortStr (q.2 ++ [x]); exact (sortStr_perm _).mem_iff.mpr (by simp)
theorem nodup_at {l : List (Nat × List Str)} (nd : (l.flatMap (·.2)).Nodup) {p : Nat × List Str} (hp : p ∈ l) : p.2.Nodup := (List.pairwise_flatMap.mp nd).1 p hp
theorem Stp.mp (h0 : WdOk w) (s : Stp w k i j y h p q who) : plC (mnC p who) who = p := by
  have hp := List.mem_of_getElem? s.ci
  cases who with
  | none =>
    have : 0 < p.1 := s.ok
    show (p.1 - 1 + 1, p.2) = p
    rw [show p.1 - 1 + 1 = p.1 by omega]
  | some x =>
    show (p.1, sortStr (p.2.filter (fun y => decide (y ≠ x)) ++ [x])) = p
    rw [sorted_filter s.ok (nodup_at h0.cd hp) (h0.co p hp)]
theorem Stp.pm (h0 : WdOk w) (s : Stp w k i j y h p q who) : mnC (plC q who) who = q := by
  have hq := List.mem_of_getElem? s.cj
  cases who with
  | none => show (q.1 + 1 - 1, q.2) = q; rw [show q.1 + 1 - 1 = q.1 by omega]
  | some x =>
    show (q.1, (sortStr (q.2 ++ [x])).filter fun y => decide (y ≠ x)) = q
    rw [filter_sorted (flat_two h0.cd s.ci s.cj (s.ij h0) s.ok) (h0.co q hq)]
theorem set_idG {α : Type} {l : List α} {n : Nat} {a : α} (h : l[n]? = some a) : l.set n a = l := by
  obtain ⟨h1, h2⟩ := List.getElem?_eq_some_iff.mp h
  rw [← h2]; exact List.set_getElem_self h1
theorem Stp.nn (h0 : WdOk w) (s : Stp w k i j y h p q who) : nxt (nxt w k i j y h p q who) k j i y (tailS y h) (plC q who) (mnC p who) who = w := by
  have ij := s.ij h0
  have e1 : (w.hs.set k (tailS y h)).set k (tailS y (tailS y h)) = w.hs := by
    rw [List.set_set, tail_tail (s.ne h0) (s.hor h0)]; exact set_idG s.hh
  have e2 : (((w.cr.set i (mnC p who)).set j (plC q who)).set j (mnC (plC q who) who)).set i (plC (mnC p who) who) = w.cr := by
    rw [List.set_set, s.pm h0, s.mp h0, List.set_comm _ _ (Ne.symm ij), List.set_set, set_idG s.ci, set_idG s.cj]
  unfold nxt
  show ({ ps := w.ps, ws := w.ws, hs := (w.hs.set k (tailS y h)).set k (tailS y (tailS y h)), cr := (((w.cr.set i (mnC p who)).set j (plC q who)).set j (mnC (plC q who) who)).set i (plC (mnC p who) who) } : Wd) = w
  rw [e1, e2]
theorem perm_set2 {l : List (Nat × List Str)} {i : Nat} {p p' : Nat × List Str} (h : l[i]? = some p) : (p'.2 ++ l.flatMap (·.2)).Perm (p.2 ++ (l.set i p').flatMap (·.2)) := by
  induction l generalizing i with
  | nil => simp at h
  | cons b l ih =>
    cases i with
    | zero =>
      simp at h; subst h
      simp only [List.set_cons_zero, List.flatMap_cons, ← List.append_assoc]
      exact List.Perm.append_right _ List.perm_append_comm
    | succ i =>
      have := ih (i := i) (by simpa using h)
      simp only [List.set_cons_succ, List.flatMap_cons]
      refine (List.perm_append_comm_assoc _ _ _).trans ?_
      refine List.Perm.trans ?_ (List.perm_append_comm_assoc _ _ _).symm
      exact List.Perm.append_left _ this
theorem Stp.perm (h0 : WdOk w) (s : Stp w k i j y h p q who) : (((w.cr.set i (mnC p who)).set j (plC q who)).flatMap (·.2)).Perm (w.cr.flatMap (·.2)) := by
  have ij := s.ij h0
  have c2 : (w.cr.set i (mnC p who))[j]? = some q := by rw [List.getElem?_set_ne ij]; exact s.cj
  have a1 := perm_set2 (p' := mnC p who) s.ci
  have a2 := perm_set2 (p' := plC q who) c2
  cases who with
  | none =>
    have a1 : (p.2 ++ w.cr.flatMap (·.2)).Perm (p.2 ++ (w.cr.set i (mnC p none)).flatMap (·.2)) := a1
    have a2 : (q.2 ++ (w.cr.set i (mnC p none)).flatMap (·.2)).Perm (q.2 ++ ((w.cr.set i (mnC p none)).set j (plC q none)).flatMap (·.2)) := a2
    exact ((List.perm_append_left_iff _).mp a2).symm.trans ((List.perm_append_left_iff _).mp a1).symm
  | some x =>
    have b1 : p.2.Perm ((mnC p (some x)).2 ++ [x]) := by
      have := congrArg Prod.snd (s.mp h0)
      have z : sortStr ((mnC p (some x)).2 ++ [x]) = p.2 := this
      have zp := sortStr_perm ((mnC p (some x)).2 ++ [x])
      rw [z] at zp
      exact zp
    have b2 : (plC q (some x)).2.Perm (q.2 ++ [x]) := sortStr_perm _
    have c1 : (w.cr.flatMap (·.2)).Perm ([x] ++ (w.cr.set i (mnC p (some x))).flatMap (·.2)) := by
      refine (List.perm_append_left_iff (mnC p (some x)).2).mp ?_
      refine a1.trans ?_
      rw [← List.append_assoc]
      exact List.Perm.append_right _ b1
    have c3 : ([x] ++ (w.cr.set i (mnC p (some x))).flatMap (·.2)).Perm (((w.cr.set i (mnC p (some x))).set j (plC q (some x))).flatMap (·.2)) := by
      refine (List.perm_append_left_iff q.2).mp ?_
      refine List.Perm.trans ?_ a2
      rw [← List.append_assoc]
      exact List.Perm.append_right _ b2.symm
    exact c3.symm.trans c1.symm
theorem Stp.sum (h0 : WdOk w) (s : Stp w k i j y h p q who) : (((w.cr.set i (mnC p who)).set j (plC q who)).map fun p => p.1 + p.2.length).sum = (w.cr.map fun p => p.1 + p.2.length).sum := by
  have ij := s.ij h0
  have c2 : (w.cr.set i (mnC p who))[j]? = some q := by rw [List.getElem?_set_ne ij]; exact s.cj
  have a1 := sum_setG (fun p : Nat × List Str => p.1 + p.2.length) w.cr i p (mnC p who) s.ci
  have a2 := sum_setG (fun p : Nat × List Str => p.1 + p.2.length) (w.cr.set i (mnC p who)) j q (plC q who) c2
  have m := s.mp h0
  cases who with
  | none =>
    have : 0 < p.1 := s.ok
    simp only [mnC, plC] at a1 a2 ⊢
    omega
  | some x =>
    have b1 : (mnC p (some x)).2.length + 1 = p.2.length := by
      have z : sortStr ((mnC p (some x)).2 ++ [x]) = p.2 := congrArg Prod.snd m
      have zp := (sortStr_perm ((mnC p (some x)).2 ++ [x])).length_eq
      rw [z] at zp
      simp at zp; omega
    have b2 : (plC q (some x)).2.length = q.2.length + 1 := by
      show (sortStr (q.2 ++ [x])).length = _
      rw [(sortStr_perm (q.2 ++ [x])).length_eq]
      simp
    have b3 : (mnC p (some x)).1 = p.1 := rfl
    have b4 : (plC q (some x)).1 = q.1 := rfl
    rw [b3] at a1
    rw [b2, b4] at a2
    omega
theorem nxt_ok (h0 : WdOk w) (s : Stp w k i j y h p q who) : WdOk (nxt w k i j y h p q who) := by
  have hs1 : ∀ (c : Nat) (z : Way) (x : Str), w.ws[c]? = some z → (w.hs.set k (tailS y h))[c]? = some x → x = z.lo ∨ x = z.hi := fun c z x h1 h2 => by
    by_cases hc : c = k
    · subst hc
      rw [List.getElem?_set_self (List.getElem?_eq_some_iff.mp s.hh).1] at h2
      cases h2
      have := s.hy.symm.trans h1
      cases this
      exact tail_or _ _
    · rw [List.getElem?_set_ne (Ne.symm hc)] at h2
      exact h0.he c z x h1 h2
  have pm := s.perm h0
  refine ⟨h0.web, ?_, hs1, ?_, fun r hr x hx => ?_, pm.nodup_iff.mpr h0.cd, fun r hr => ?_, ?_⟩
  · show (w.hs.set k _).length = _; rw [List.length_set]; exact h0.hl
  · show ((w.cr.set i _).set j _).length = _; rw [List.length_set, List.length_set]; exact h0.cl
  · have m : x ∈ w.cr.flatMap (·.2) := pm.mem_iff.mp (List.mem_flatMap.mpr ⟨r, hr, hx⟩)
    obtain ⟨r', hr', hx'⟩ := List.mem_flatMap.mp m
    exact h0.cn r' hr' x hx'
  · rcases List.mem_or_eq_of_mem_set hr with hr | rfl
    · rcases List.mem_or_eq_of_mem_set hr with hr | rfl
      · exact h0.co r hr
      · have := h0.co p (List.mem_of_getElem? s.ci)
        cases who with
        | none => exact this
        | some x => exact this.filter _
    · have := h0.co q (List.mem_of_getElem? s.cj)
      cases who with
      | none => exact this
      | some x => exact sortStr_pw _
  · show (((w.cr.set i (mnC p who)).set j (plC q who)).map fun p => p.1 + p.2.length).sum ≤ 8
    rw [s.sum h0]; exact h0.cs
end

/-! ### the deeds of a world -/
def crAt (w : Wd) (x : Str) : Nat × List Str := ((w.ps.zip w.cr).lookup x).getD (0, [])
def ddD (d : Str × Option Str) : D := .tuple [.str d.1, match d.2 with | none => .none | some x => .str x]
def whoD : Option Str → D
  | none => .none
  | some x => .str x
def dOne (n : Str) (c : Nat × List Str) : List (Str × Option Str) := (if 0 < c.1 then [(n, none)] else []) ++ c.2.map fun x => (n, some x)
def dAt (w : Wd) (p : Way × Str) : List (Str × Option Str) := dOne p.1.n (crAt w (tailS p.1 p.2))
def deedsW (w : Wd) : List (Str × Option Str) := (pairs w).flatMap (dAt w)
section
variable {w : Wd} {QF XF : D → List D → Prop}
theorem lookup_zip {β : Type} {x : Str} : ∀ (ps : List Str) (cr : List β) (i : Nat) (c : β), ps.Nodup → ps[i]? = some x → cr[i]? = some c → (ps.zip cr).lookup x = some c
  | [], _, i, c, _, h, _ => by simp at h
  | _ :: _, [], i, c, _, _, h => by simp at h
  | p :: ps, q :: cr, 0, c, nd, h1, h2 => by
    simp at h1 h2; subst h1 h2
    simp [List.lookup]
  | p :: ps, q :: cr, i + 1, c, nd, h1, h2 => by
    have nd' := List.nodup_cons.mp nd
    have h1 : ps[i]? = some x := by simpa using h1
    have hm := List.mem_of_getElem? h1
    rw [List.zip_cons_cons, List.lookup_cons]
    have e : (x == p) = false := by
      rw [beq_eq_false_iff_ne]
      exact fun z => nd'.1 (z ▸ hm)
    rw [e]
    exact lookup_zip ps cr i c nd'.2 h1 (by simpa using h2)
theorem crAt_eq (h : WdOk w) {i : Nat} {x : Str} {c : Nat × List Str} (h1 : w.ps[i]? = some x) (h2 : w.cr[i]? = some c) : crAt w x = c := by
  unfold crAt
  rw [lookup_zip w.ps w.cr i c h.web.pd h1 h2]; rfl
theorem at_place (h : WdOk w) {x : Str} (hx : x ∈ w.ps) : ∃ i, w.ps[i]? = some x ∧ w.cr[i]? = some (crAt w x) ∧ i < w.ps.length := by
  obtain ⟨i, hi⟩ := List.mem_iff_getElem?.mp hx
  have hl := (List.getElem?_eq_some_iff.mp hi).1
  have hl2 : i < w.cr.length := by rw [h.cl]; exact hl
  have h2 := List.getElem?_eq_getElem hl2
  rw [← crAt_eq h hi h2] at h2
  exact ⟨i, hi, h2, hl⟩
theorem first_at {ps : List Str} (nd : ps.Nodup) {i : Nat} {x : Str} (hi : ps[i]? = some x) : ∀ m, m < i → ps[m]? ≠ some x := fun m hm z => by
  obtain ⟨a1, a2⟩ := List.getElem?_eq_some_iff.mp hi
  obtain ⟨b1, b2⟩ := List.getElem?_eq_some_iff.mp z
  have := (List.getElem_inj nd).mp (a2.trans b2.symm)
  omega
theorem mem_deeds (h : WdOk w) {d : Str × Option Str} (hd : d ∈ deedsW w) : ∃ k i j y hd' p q, Stp w k i j y hd' p q d.2 ∧ d.1 = y.n := by
  unfold deedsW at hd
  obtain ⟨pr, hpr, hd⟩ := List.mem_flatMap.mp hd
  obtain ⟨k, hk⟩ := List.mem_iff_getElem?.mp hpr
  unfold pairs at hk
  obtain ⟨q1, q2⟩ := List.getElem?_zip_eq_some.mp hk
  obtain ⟨tn, tp⟩ := tailS_name h hpr
  obtain ⟨i, a1, a2, a3⟩ := at_place h tp
  obtain ⟨j, b1, b2, b3⟩ := at_place h (h.hn _ (List.mem_of_getElem? q2)).2
  unfold dAt dOne at hd
  rcases List.mem_append.mp hd with z | z
  · by_cases hc : 0 < (crAt w (tailS pr.1 pr.2)).1
    · rw [if_pos hc, List.mem_singleton] at z
      subst z
      exact ⟨k, i, j, pr.1, pr.2, _, _, ⟨q1, q2, a1, b1, a2, b2, hc⟩, rfl⟩
    · rw [if_neg hc] at z; cases z
  · obtain ⟨x, hx, rfl⟩ := List.mem_map.mp z
    exact ⟨k, i, j, pr.1, pr.2, _, _, ⟨q1, q2, a1, b1, a2, b2, hx⟩, rfl⟩
theorem deeds_mem (h : WdOk w) {k i j : Nat} {y : Way} {hd : Str} {p q : Nat × List Str} {who : Option Str} (s : Stp w k i j y hd p q who) : (y.n, who) ∈ deedsW w := by
  unfold deedsW
  refine List.mem_flatMap.mpr ⟨(y, hd), List.mem_of_getElem? (i := k) (List.getElem?_zip_eq_some.mpr ⟨s.hy, s.hh⟩), ?_⟩
  unfold dAt dOne
  rw [crAt_eq h s.pi s.ci]
  have ok := s.ok
  cases who with
  | none =>
    have ok : 0 < p.1 := ok
    rw [if_pos ok]; simp
  | some x =>
    have ok : x ∈ p.2 := ok
    refine List.mem_append_right _ (List.mem_map.mpr ⟨x, ok, rfl⟩)
theorem len_flat {α β : Type} (f : α → List β) (n : Nat) : ∀ l : List α, (∀ a ∈ l, (f a).length ≤ n) → (l.flatMap f).length ≤ n * l.length
  | [], _ => by simp
  | a :: l, h => by
    have := len_flat f n l fun b hb => h b (List.mem_cons_of_mem _ hb)
    have := h a List.mem_cons_self
    rw [List.flatMap_cons, List.length_append, List.length_cons, Nat.mul_add]; omega
theorem crAt_le (h : WdOk w) (x : Str) : (crAt w x).1 + (crAt w x).2.length ≤ 8 := by
  unfold crAt
  cases e : (w.ps.zip w.cr).lookup x with
  | none => simp
  | some c =>
    have : (x, c) ∈ w.ps.zip w.cr := by
      have := List.lookup_eq_some_iff.mp e
      obtain ⟨l1, l2, z, _⟩ := this
      rw [z]; simp
    exact h.cle (List.of_mem_zip this).2
theorem dAt_len (h : WdOk w) (p : Way × Str) : (dAt w p).length ≤ 9 := by
  unfold dAt dOne
  have := crAt_le h (tailS p.1 p.2)
  rw [List.length_append, List.length_map]
  split <;> simp <;> omega
theorem deeds_len (h : WdOk w) : (deedsW w).length ≤ 126 := by
  have := len_flat (dAt w) 9 (pairs w) fun a _ => dAt_len h a
  have := pairs_len h
  have := h.web.wl
  unfold deedsW; omega
theorem crAt_n (h : WdOk w) {x : Str} : ∀ z ∈ (crAt w x).2, IsName z := fun z hz => by
  unfold crAt at hz
  cases e : (w.ps.zip w.cr).lookup x with
  | none => rw [e] at hz; cases hz
  | some c =>
    rw [e] at hz
    obtain ⟨l1, l2, z', _⟩ := List.lookup_eq_some_iff.mp e
    have : (x, c) ∈ w.ps.zip w.cr := by rw [z']; simp
    exact h.cn c (List.of_mem_zip this).2 z hz
theorem crowd_at_ok {x : Str} (h : WdOk w) (hx : x ∈ w.ps) (q : QF (crD (crAt w x)) []) : wF (m_crowd_at [wdD w, .str x]) QF XF := by
  rw [m_crowd_at, wF_run, b_crowd_at]
  obtain ⟨i, a1, a2, a3⟩ := at_place h hx
  have hn := h.web.pn x hx
  unfold wdD webD
  walk_at "wp"
  refine vo_indexStrs (alnum_ok hn.2.2.2) (names_ok h.web.pn) a1 (first_at h.web.pd a1) ?_
  refine atI_w (by omega) (by rw [List.length_map, h.cl]; omega) fun d hd _ => ?_
  rw [show ((i : Nat) : Int).toNat = i by omega, List.getElem?_map, a2] at hd
  cases hd
  exact q
theorem dOne_app (n : Str) (c : Nat × List Str) : (dOne n c).map ddD = (if 0 < c.1 then [.tuple [.str n, .none]] else []) ++ c.2.map fun x => .tuple [.str n, .str x] := by
  unfold dOne
  rw [List.map_append, List.map_map]
  congr 1
  split <;> rfl
theorem moves_ok (h : WdOk w) (q : QF (.list ((deedsW w).map ddD)) []) : wF (m_moves [wdD w]) QF XF := by
  rw [m_moves, wF_run, b_moves]
  have sz := sz_eq
  have pl := pairs_len h
  have wl := h.web.wl
  generalize hB : wdD w = B
  refine wS_cut (I := fun ρ => ρ = [some B, some (.list []), none, none, none, none, none, none]) (by walk_at "wp"; decide) ?_
  rintro ρ rfl
  walk_at "wp"
  rw [← hB]
  refine arrows_ok h ?_
  rw [hB]
  walk_at "wp"
  refine loop_inv (fun rs ρ => ∃ (dn l : List (Way × Str)) (z2 z3 z4 z5 z6 z7 : Option D), pairs w = dn ++ l ∧ rs = l.map arrD ∧ ρ = [some B, some (.list ((dn.flatMap (dAt w)).map ddD)), z2, z3, z4, z5, z6, z7]) ?_ ?_ _ _ ⟨[], pairs w, none, none, none, none, none, none, rfl, rfl, rfl⟩
  · rintro dk rs ρ ⟨dn, l, z2, z3, z4, z5, z6, z7, e1, e2, rfl⟩
    cases l with
    | nil => cases e2
    | cons p l =>
      simp only [List.map_cons, List.cons.injEq] at e2
      obtain ⟨rfl, rfl⟩ := e2
      have hp : p ∈ pairs w := by rw [e1]; simp
      obtain ⟨tn, tp⟩ := tailS_name h hp
      have hdn : dn.length < 14 := by have := congrArg List.length e1; simp at this; omega
      have hfl := len_flat (dAt w) 9 dn fun a _ => dAt_len h a
      have hcl := crAt_le h (tailS p.1 p.2)
      have hfl2 : ((dn.flatMap (dAt w)).map ddD).length ≤ 126 := by rw [List.length_map]; omega
      have fin : ((dn ++ [p]).flatMap (dAt w)).map ddD = (dn.flatMap (dAt w)).map ddD ++ ((if 0 < (crAt w (tailS p.1 p.2)).1 then [.tuple [.str p.1.n, .none]] else []) ++ (crAt w (tailS p.1 p.2)).2.map fun x => .tuple [.str p.1.n, .str x]) := by
        rw [List.flatMap_append, List.map_append, ← dOne_app]
        simp [dAt]
      generalize hacc : (dn.flatMap (dAt w)).map ddD = acc at fin hfl2
      generalize hc : crAt w (tailS p.1 p.2) = c at fin hcl
      unfold arrD
      simp only [asg_tupT, asgs_cons, asgs_nil, asg_nm, wV_some, List.set_cons_succ, List.set_cons_zero]
      refine wS_cut (I := fun ρ => ρ = [some B, some (.list acc), some (.str p.1.n), some (.str (tailS p.1 p.2)), some (.str p.2), some (.int c.1), some (.tuple (c.2.map .str)), z7]) ?_ ?_
      · walk_at "wp"
        rw [← hB]
        refine crowd_at_ok h tp ?_
        rw [hB, hc]
        unfold crD
        walk_at "wp"
      rintro ρ rfl
      refine wS_cut (I := fun ρ => ρ = [some B, some (.list (acc ++ if 0 < c.1 then [.tuple [.str p.1.n, .none]] else [])), some (.str p.1.n), some (.str (tailS p.1 p.2)), some (.str p.2), some (.int c.1), some (.tuple (c.2.map .str)), z7]) ?_ ?_
      · walk_at "wp"
        refine ⟨fun z => ⟨by decide, by omega, ?_⟩, fun z => ?_⟩
        · rw [if_pos (by omega)]
        · rw [if_neg (by omega), List.append_nil]
      rintro ρ rfl
      rw [← List.append_assoc] at fin
      have ha : (acc ++ if 0 < c.1 then [PyData.tuple [.str p.1.n, .none]] else []).length ≤ 127 := by
        rw [List.length_append]; split <;> simp <;> omega
      generalize (acc ++ if 0 < c.1 then [PyData.tuple [.str p.1.n, .none]] else []) = a0 at fin ha
      walk_at "wp"
      refine lc_mapG PyData.str (fun x => .tuple [.str p.1.n, .str x]) (fun ρ => ∃ z, ρ = [some B, some (.list a0), some (.str p.1.n), some (.str (tailS p.1 p.2)), some (.str p.2), some (.int c.1), some (.tuple (c.2.map .str)), z]) _ (by omega) ?_ ?_ ⟨z7, rfl⟩
      · rintro x hx ρ ⟨z, rfl⟩
        walk_at "wp"
        exact ⟨by decide, _, rfl⟩
      · rintro ρ ⟨z, rfl⟩
        walk_at "wp"
        rw [List.length_map]
        refine ⟨by omega, dn ++ [p], l, some (.str p.1.n), some (.str (tailS p.1 p.2)), some (.str p.2), some (.int c.1), some (.tuple (c.2.map .str)), z7, by rw [e1]; simp, rfl, ?_⟩
        rw [fin]
  · rintro ρ ⟨dn, l, z2, z3, z4, z5, z6, z7, e1, e2, rfl⟩
    cases l with
    | cons _ _ => cases e2
    | nil =>
      rw [List.append_nil] at e1
      walk_at "wp"
      unfold deedsW at q
      rw [e1] at q
      exact q
end

/-! ### the law's own parts of a world -/
def linksW (w : Wd) : List Lnk := (pairs w).map fun p => (p.1.n, tailS p.1 p.2, p.2)
def plainW (w : Wd) : List (Str × Int) := (w.ps.zip w.cr).map fun p => (p.1, (p.2.1 : Int))
def homesF (w : Wd) : List (Str × Str) := (w.ps.zip w.cr).flatMap fun p => p.2.2.map fun x => (x, p.1)
theorem range_getD {α : Type} (d : α) (l : List α) : (List.range l.length).map (fun k => l.getD k d) = l := by
  apply List.ext_getElem?
  intro i
  by_cases hi : i < l.length
  · rw [List.getElem?_map, List.getElem?_range hi, List.getElem?_eq_getElem hi]
    show some (l.getD i d) = _
    rw [List.getD_eq_getElem?_getD, List.getElem?_eq_getElem hi]; rfl
  · rw [List.getElem?_eq_none (by simp; omega), List.getElem?_eq_none (by omega)]
section
variable {w : Wd} {QF XF : D → List D → Prop}
theorem pairs_get (h : WdOk w) {k : Nat} (hk : k < w.ws.length) : ∃ y x, (pairs w)[k]? = some (y, x) ∧ w.ws[k]? = some y ∧ w.hs[k]? = some x ∧ (tails w)[k]? = some (tailS y x) := by
  have hk2 : k < w.hs.length := by rw [h.hl]; exact hk
  have g1 := List.getElem?_eq_getElem hk
  have g2 := List.getElem?_eq_getElem hk2
  exact ⟨_, _, List.getElem?_zip_eq_some.mpr ⟨g1, g2⟩, g1, g2, tails_get k _ _ g1 g2⟩
theorem links_ok (h : WdOk w) (q : QF (.list ((linksW w).map lnkD)) []) : wF (m_links [wdD w]) QF XF := by
  rw [m_links, wF_run, b_links]
  have sz := sz_eq
  have pl := pairs_len h
  have wl := h.web.wl
  have ll : ((linksW w).map lnkD).length = w.ws.length := by unfold linksW; rw [List.length_map, List.length_map, pl]
  generalize hB : wdD w = B
  have hW : B = .tuple [.tuple [.tuple (w.ps.map .str), .tuple (w.ws.map wayD)], .tuple (w.hs.map .str), .tuple (w.cr.map crD)] := hB.symm
  walk_at "wp"
  refine wI_rng ?_
  walk_at "wp"
  rw [hW]
  walk_at "wp"
  rw [List.length_map, h.hl, ← hW]
  refine ⟨by omega, by omega, ?_⟩
  rw [show ((w.ws.length : Nat) : Int).toNat = w.ws.length by omega, intsF_map]
  refine lc_mapG (fun k : Nat => .int k) (fun k => ((linksW w).map lnkD).getD k .none) (fun ρ => ∃ z, ρ = [some B, z]) _ (by rw [List.length_range]; omega) ?_ ?_ ⟨none, rfl⟩
  · rintro k hk ρ ⟨z, rfl⟩
    have hk := List.mem_range.mp hk
    obtain ⟨y, x, g1, g2, g3, g4⟩ := pairs_get h hk
    walk_at "wp"
    rw [hW]
    walk_at "wp"
    refine atI_w (by omega) (by rw [List.length_map]; omega) fun d hd _ => ?_
    rw [show ((k : Nat) : Int).toNat = k by omega, List.getElem?_map, g2] at hd
    cases hd
    rw [← hW]
    unfold wayD
    walk_at "wp"
    rw [← hB]
    refine tail_ok h g4 ?_
    rw [hB]
    walk_at "wp"
    rw [hW]
    walk_at "wp"
    refine atI_w (by omega) (by rw [List.length_map, h.hl]; omega) fun d hd _ => ?_
    rw [show ((k : Nat) : Int).toNat = k by omega, List.getElem?_map, g3] at hd
    cases hd
    rw [← hW]
    refine ⟨by decide, ?_, _, rfl⟩
    rw [List.getD_eq_getElem?_getD, List.getElem?_map]
    unfold linksW
    rw [List.getElem?_map, g1]; rfl
  · rintro ρ ⟨z, rfl⟩
    rw [← ll, range_getD]
    exact q
theorem plain_ok (h : WdOk w) (q : QF (.list ((plainW w).map plD)) []) : wF (m_plain [wdD w]) QF XF := by
  rw [m_plain, wF_run, b_plain]
  have sz := sz_eq
  have p10 := h.web.p10
  have zl : (w.ps.zip w.cr).length = w.ps.length := by rw [List.length_zip, h.cl, Nat.min_self]
  have ll : ((plainW w).map plD).length = w.ps.length := by unfold plainW; rw [List.length_map, List.length_map, zl]
  generalize hB : wdD w = B
  have hW : B = .tuple [.tuple [.tuple (w.ps.map .str), .tuple (w.ws.map wayD)], .tuple (w.hs.map .str), .tuple (w.cr.map crD)] := hB.symm
  walk_at "wp"
  refine wI_rng ?_
  walk_at "wp"
  rw [hW]
  walk_at "wp"
  rw [List.length_map, h.cl, ← hW]
  refine ⟨by omega, by omega, ?_⟩
  rw [show ((w.ps.length : Nat) : Int).toNat = w.ps.length by omega, intsF_map]
  refine lc_mapG (fun k : Nat => .int k) (fun k => ((plainW w).map plD).getD k .none) (fun ρ => ∃ z, ρ = [some B, z]) _ (by rw [List.length_range]; omega) ?_ ?_ ⟨none, rfl⟩
  · rintro k hk ρ ⟨z, rfl⟩
    have hk := List.mem_range.mp hk
    have hk2 : k < w.cr.length := by rw [h.cl]; exact hk
    have g1 := List.getElem?_eq_getElem hk
    have g2 := List.getElem?_eq_getElem hk2
    have g3 : (w.ps.zip w.cr)[k]? = some (w.ps[k], w.cr[k]) := List.getElem?_zip_eq_some.mpr ⟨g1, g2⟩
    generalize w.ps[k] = x at g1 g3
    generalize w.cr[k] = c at g2 g3
    walk_at "wp"
    rw [hW]
    walk_at "wp"
    refine atI_w (by omega) (by rw [List.length_map]; omega) fun d hd _ => ?_
    rw [show ((k : Nat) : Int).toNat = k by omega, List.getElem?_map, g1] at hd
    cases hd
    refine atI_w (by omega) (by rw [List.length_map, h.cl]; omega) fun d hd _ => ?_
    rw [show ((k : Nat) : Int).toNat = k by omega, List.getElem?_map, g2] at hd
    cases hd
    rw [← hW]
    unfold crD
    walk_at "wp"
    refine ⟨by decide, ?_, _, rfl⟩
    rw [List.getD_eq_getElem?_getD, List.getElem?_map]
    unfold plainW
    rw [List.getElem?_map, g3]; rfl
  · rintro ρ ⟨z, rfl⟩
    rw [← ll, range_getD]
    exact q
theorem homes_len (h : WdOk w) : (homesF w).length ≤ 8 := by
  have key : ∀ (ps : List Str) (cr : List (Nat × List Str)), ((ps.zip cr).flatMap fun p => p.2.2.map fun x => (x, p.1)).length ≤ (cr.map fun p => p.1 + p.2.length).sum := by
    intro ps
    induction ps with
    | nil => intro cr; simp
    | cons p ps ih =>
      intro cr
      cases cr with
      | nil => simp
      | cons c cr =>
        have := ih cr
        simp only [List.zip_cons_cons, List.flatMap_cons, List.length_append, List.length_map, List.map_cons, List.sum_cons] at this ⊢
        omega
  exact Nat.le_trans (key w.ps w.cr) h.cs
theorem homes_ok (h : WdOk w) (q : QF (.list ((sortH (homesF w)).map hoD)) []) : wF (m_homes [wdD w]) QF XF := by
  rw [m_homes, wF_run, b_homes]
  have sz := sz_eq
  have p10 := h.web.p10
  have zl : (w.ps.zip w.cr).length = w.ps.length := by rw [List.length_zip, h.cl, Nat.min_self]
  generalize hB : wdD w = B
  have hW : B = .tuple [.tuple [.tuple (w.ps.map .str), .tuple (w.ws.map wayD)], .tuple (w.hs.map .str), .tuple (w.cr.map crD)] := hB.symm
  refine wS_cut (I := fun ρ => ρ = [some B, some (.list []), none, none]) (by walk_at "wp"; decide) ?_
  rintro ρ rfl
  refine wS_cut (I := fun ρ => ∃ z2 z3, ρ = [some B, some (.list ((homesF w).map hoD)), z2, z3]) ?_ ?_
  · walk_at "wp"
    refine wI_rng ?_
    walk_at "wp"
    rw [hW]
    walk_at "wp"
    rw [List.length_map, h.cl, ← hW]
    refine ⟨by omega, by omega, ?_⟩
    rw [show ((w.ps.length : Nat) : Int).toNat = w.ps.length by omega]
    refine loop_inv (fun rs ρ => ∃ (k : Nat) (dn l : List (Str × (Nat × List Str))) (z2 z3 : Option D), w.ps.zip w.cr = dn ++ l ∧ dn.length = k ∧ rs = intsF k (w.ps.length - k) ∧ k ≤ w.ps.length ∧ ρ = [some B, some (.list ((dn.flatMap fun p => p.2.2.map fun x => (x, p.1)).map hoD)), z2, z3]) ?_ ?_ _ _ ⟨0, [], w.ps.zip w.cr, none, none, rfl, rfl, rfl, by omega, rfl⟩
    · rintro dk rs ρ ⟨k, dn, l, z2, z3, e1, e2, e3, hk, rfl⟩
      obtain ⟨hk1, rfl, rfl⟩ := intsF_cons e3
      have hk3 : k < w.ps.length := by omega
      have hk2 : k < w.cr.length := by rw [h.cl]; exact hk3
      have g1 := List.getElem?_eq_getElem hk3
      have g2 := List.getElem?_eq_getElem hk2
      have g3 : (w.ps.zip w.cr)[k]? = some (w.ps[k], w.cr[k]) := List.getElem?_zip_eq_some.mpr ⟨g1, g2⟩
      generalize w.ps[k] = x at g1 g3
      generalize w.cr[k] = c at g2 g3
      have hl : l = (x, c) :: l.tail := by
        have := congrArg (fun z => z[k]?) e1
        simp only [g3] at this
        rw [List.getElem?_append_right (by omega), e2, Nat.sub_self] at this
        cases l with
        | nil => simp at this
        | cons a l => simp at this; rw [this]; rfl
      have hcl := h.cle (List.mem_of_getElem? g2)
      have hfl : (dn.flatMap fun p => p.2.2.map fun x => (x, p.1)).length + c.2.length ≤ 8 := by
        have := homes_len h
        unfold homesF at this
        rw [e1, hl] at this
        simp at this ⊢; omega
      walk_at "wp"
      rw [hW]
      walk_at "wp"
      refine atI_w (by omega) (by rw [List.length_map, h.cl]; omega) fun d hd _ => ?_
      rw [show ((k : Nat) : Int).toNat = k by omega, List.getElem?_map, g2] at hd
      cases hd
      rw [← hW]
      unfold crD
      walk_at "wp"
      generalize hacc : (dn.flatMap fun p => p.2.2.map fun x => (x, p.1)) = acc at hfl
      refine loop_inv (fun rs ρ => ∃ (dn2 l2 : List Str) (z3 : Option D), c.2 = dn2 ++ l2 ∧ rs = l2.map .str ∧ ρ = [some B, some (.list ((acc ++ dn2.map fun n => (n, x)).map hoD)), some (.int k), z3]) ?_ ?_ _ _ ⟨[], c.2, z3, rfl, rfl, by simp⟩
      · rintro d2 rs ρ ⟨dn2, l2, z3, f1, f2, rfl⟩
        cases l2 with
        | nil => cases f2
        | cons n l2 =>
          simp only [List.map_cons, List.cons.injEq] at f2
          obtain ⟨rfl, rfl⟩ := f2
          have hln := congrArg List.length f1
          simp at hln
          walk_at "wp"
          rw [hW]
          walk_at "wp"
          refine atI_w (by omega) (by rw [List.length_map]; omega) fun d hd _ => ?_
          rw [show ((k : Nat) : Int).toNat = k by omega, List.getElem?_map, g1] at hd
          cases hd
          rw [← hW]
          refine ⟨by decide, by simp; omega, dn2 ++ [n], l2, some (.str n), by rw [f1]; simp, rfl, ?_⟩
          simp [hoD]
      · rintro ρ ⟨dn2, l2, z3, f1, f2, rfl⟩
        have el : l2 = [] := by cases l2 with | nil => rfl | cons _ _ => cases f2
        subst el
        rw [List.append_nil] at f1
        have hz0 : w.ps.zip w.cr = dn ++ [(x, c)] ++ l.tail := by
          rw [e1, List.append_assoc, List.singleton_append, ← hl]
        refine ⟨k + 1, dn ++ [(x, c)], l.tail, some (.int k), z3, hz0, by simp [e2], by rw [show w.ps.length - (k + 1) = w.ps.length - k - 1 by omega], by omega, ?_⟩
        have f : ([(x, c)] : List (Str × Nat × List Str)).flatMap (fun p => p.2.2.map fun x => (x, p.1)) = dn2.map fun n => (n, x) := by simp [f1]
        rw [List.flatMap_append, hacc, f]
    · rintro ρ ⟨k, dn, l, z2, z3, e1, e2, e3, hk, rfl⟩
      have hz := intsF_nil e3
      have el : l = [] := by
        have := congrArg List.length e1
        rw [zl, List.length_append, e2] at this
        exact List.eq_nil_of_length_eq_zero (by omega)
      subst el
      rw [List.append_nil] at e1
      unfold homesF
      rw [e1]
      exact ⟨z2, z3, rfl⟩
  rintro ρ ⟨z2, z3, rfl⟩
  walk_at "wp"
  rw [ho_tup, vo_sortK (shape_ho _), sortH_K, ← ho_tup]
  exact q
theorem deeds_ok (h : WdOk w) (q : QF (.list ((deedsW w).map ddD)) []) : wF (m_deeds [wdD w]) QF XF := by
  rw [m_deeds, wF_run, b_deeds]
  have sz := sz_eq
  have pl := pairs_len h
  have wl := h.web.wl
  generalize hB : wdD w = B
  have hW : B = .tuple [.tuple [.tuple (w.ps.map .str), .tuple (w.ws.map wayD)], .tuple (w.hs.map .str), .tuple (w.cr.map crD)] := hB.symm
  refine wS_cut (I := fun ρ => ρ = [some B, some (.list []), none, none, none]) (by walk_at "wp"; decide) ?_
  rintro ρ rfl
  refine wS_cut (I := fun ρ => ∃ z2 z3 z4, ρ = [some B, some (.list ((deedsW w).map ddD)), z2, z3, z4]) ?_ ?_
  · walk_at "wp"
    refine wI_rng ?_
    walk_at "wp"
    rw [hW]
    walk_at "wp"
    rw [List.length_map, h.hl, ← hW]
    refine ⟨by omega, by omega, ?_⟩
    rw [show ((w.ws.length : Nat) : Int).toNat = w.ws.length by omega]
    refine loop_inv (fun rs ρ => ∃ (k : Nat) (dn l : List (Way × Str)) (z2 z3 z4 : Option D), pairs w = dn ++ l ∧ dn.length = k ∧ rs = intsF k (w.ws.length - k) ∧ k ≤ w.ws.length ∧ ρ = [some B, some (.list ((dn.flatMap (dAt w)).map ddD)), z2, z3, z4]) ?_ ?_ _ _ ⟨0, [], pairs w, none, none, none, rfl, rfl, rfl, by omega, rfl⟩
    · rintro dk rs ρ ⟨k, dn, l, z2, z3, z4, e1, e2, e3, hk, rfl⟩
      obtain ⟨hk1, rfl, rfl⟩ := intsF_cons e3
      have hk3 : k < w.ws.length := by omega
      obtain ⟨y, x, g1, g2, g3, g4⟩ := pairs_get h hk3
      have hl : l = (y, x) :: l.tail := by
        have := congrArg (fun z => z[k]?) e1
        simp only [g1] at this
        rw [List.getElem?_append_right (by omega), e2, Nat.sub_self] at this
        cases l with
        | nil => simp at this
        | cons a l => simp at this; rw [this]; rfl
      obtain ⟨tn, tp⟩ := tailS_name h (List.mem_of_getElem? g1)
      obtain ⟨i, a1, a2, a3⟩ := at_place h tp
      have hcl := crAt_le h (tailS y x)
      have hfl := len_flat (dAt w) 9 dn fun a _ => dAt_len h a
      have fin : ((dn ++ [(y, x)]).flatMap (dAt w)).map ddD = (dn.flatMap (dAt w)).map ddD ++ ((if 0 < (crAt w (tailS y x)).1 then [.tuple [.str y.n, .none]] else []) ++ (crAt w (tailS y x)).2.map fun z => .tuple [.str y.n, .str z]) := by
        rw [List.flatMap_append, List.map_append, ← dOne_app]
        simp [dAt]
      have hfl2 : ((dn.flatMap (dAt w)).map ddD).length ≤ 126 := by rw [List.length_map]; omega
      generalize hacc : (dn.flatMap (dAt w)).map ddD = acc at fin hfl2
      generalize hc : crAt w (tailS y x) = c at fin hcl a2
      rw [asg_nm]
      simp only [List.set_cons_succ, List.set_cons_zero]
      refine wS_cut (I := fun ρ => ρ = [some B, some (.list acc), some (.int k), some (crD c), z4]) ?_ ?_
      · walk_at "wp"
        rw [hW]
        walk_at "wp"
        rw [← hW, ← hB]
        refine tail_ok h g4 ?_
        rw [hB, hW]
        walk_at "wp"
        refine vo_indexStrs (alnum_ok tn.2.2.2) (names_ok h.web.pn) a1 (first_at h.web.pd a1) ?_
        refine atI_w (by omega) (by rw [List.length_map, h.cl]; omega) fun d hd _ => ?_
        rw [show ((i : Nat) : Int).toNat = i by omega, List.getElem?_map, a2] at hd
        cases hd
        rw [← hW]
      rintro ρ rfl
      unfold crD
      refine wS_cut (I := fun ρ => ρ = [some B, some (.list (acc ++ if 0 < c.1 then [.tuple [.str y.n, .none]] else [])), some (.int k), some (.tuple [.int c.1, .tuple (c.2.map .str)]), z4]) ?_ ?_
      · walk_at "wp"
        rw [hW]
        walk_at "wp"
        rw [← hW]
        refine ⟨fun z => atI_w (by omega) (by rw [List.length_map]; omega) fun d hd _ => ?_, fun z => ?_⟩
        · rw [show ((k : Nat) : Int).toNat = k by omega, List.getElem?_map, g2] at hd
          cases hd
          unfold wayD
          walk_at "wp"
          refine ⟨by decide, by omega, ?_⟩
          rw [if_pos (by omega)]
        · rw [if_neg (by omega), List.append_nil]
      rintro ρ rfl
      rw [← List.append_assoc] at fin
      have ha : (acc ++ if 0 < c.1 then [PyData.tuple [.str y.n, .none]] else []).length ≤ 127 := by
        rw [List.length_append]; split <;> simp <;> omega
      generalize (acc ++ if 0 < c.1 then [PyData.tuple [.str y.n, .none]] else []) = a0 at fin ha
      walk_at "wp"
      refine loop_inv (fun rs ρ => ∃ (dn2 l2 : List Str) (z4 : Option D), c.2 = dn2 ++ l2 ∧ rs = l2.map .str ∧ ρ = [some B, some (.list (a0 ++ dn2.map fun z => .tuple [.str y.n, .str z])), some (.int k), some (.tuple [.int c.1, .tuple (c.2.map .str)]), z4]) ?_ ?_ _ _ ⟨[], c.2, z4, rfl, rfl, by simp⟩
      · rintro d2 rs ρ ⟨dn2, l2, z4, f1, f2, rfl⟩
        cases l2 with
        | nil => cases f2
        | cons n l2 =>
          simp only [List.map_cons, List.cons.injEq] at f2
          obtain ⟨rfl, rfl⟩ := f2
          have hln := congrArg List.length f1
          simp at hln
          walk_at "wp"
          rw [hW]
          walk_at "wp"
          refine atI_w (by omega) (by rw [List.length_map]; omega) fun d hd _ => ?_
          rw [show ((k : Nat) : Int).toNat = k by omega, List.getElem?_map, g2] at hd
          cases hd
          rw [← hW]
          unfold wayD
          walk_at "wp"
          refine ⟨by decide, by simp; omega, dn2 ++ [n], l2, some (.str n), by rw [f1]; simp, rfl, ?_⟩
          simp
      · rintro ρ ⟨dn2, l2, z4, f1, f2, rfl⟩
        have el : l2 = [] := by cases l2 with | nil => rfl | cons _ _ => cases f2
        subst el
        rw [List.append_nil] at f1
        have hz0 : pairs w = dn ++ [(y, x)] ++ l.tail := by
          rw [e1, List.append_assoc, List.singleton_append, ← hl]
        refine ⟨k + 1, dn ++ [(y, x)], l.tail, some (.int k), some (.tuple [.int c.1, .tuple (c.2.map .str)]), z4, hz0, by simp [e2], by rw [show w.ws.length - (k + 1) = w.ws.length - k - 1 by omega], by omega, ?_⟩
        rw [fin, f1]
    · rintro ρ ⟨k, dn, l, z2, z3, z4, e1, e2, e3, hk, rfl⟩
      have hz := intsF_nil e3
      have el : l = [] := by
        have := congrArg List.length e1
        rw [pl, List.length_append, e2] at this
        exact List.eq_nil_of_length_eq_zero (by omega)
      subst el
      rw [List.append_nil] at e1
      unfold deedsW
      rw [e1]
      exact ⟨z2, z3, z4, rfl⟩
  rintro ρ ⟨z2, z3, z4, rfl⟩
  walk_at "wp"
  exact q
end

/-! ### the law's own world behind a deed -/
def turnL (n : Str) (l : Lnk) : Lnk := if l.1 = n then (l.1, l.2.2, l.2.1) else l
def plAdd (t hd : Str) : Option Str → List (Str × Int)
  | none => [(t, -1), (hd, 1)]
  | some _ => []
def hoNew (hd : Str) (ho : List (Str × Str)) : Option Str → List (Str × Str)
  | none => ho
  | some n => (ho.filter fun p => decide (p.1 ≠ n)) ++ [(n, hd)]
section
theorem leK_of_ne {a b : Lnk} (hn : a.1 ≠ b.1) (h : leS a.1 b.1 = true) : leK (lnkK a) (lnkK b) = true := by
  unfold leK lnkK
  rw [lexK, if_neg (fun z => hn (Sum.inr.inj z).symm)]
  exact h
theorem sumAt_app (a b : List (Str × Int)) (x : Str) : sumAt (a ++ b) x = sumAt a x + sumAt b x := by
  unfold sumAt
  rw [List.filter_append, List.map_append, List.sum_append]
theorem filter_zip0 {β : Type} {x : Str} : ∀ (ps : List Str) (cr : List β), x ∉ ps → (ps.zip cr).filter (fun p => decide (p.1 = x)) = []
  | [], _, _ => rfl
  | _ :: _, [], _ => rfl
  | p :: ps, c :: cr, h => by
    rw [List.zip_cons_cons, List.filter_cons_of_neg (by simp; exact fun z => h (by rw [← z]; simp))]
    exact filter_zip0 ps cr fun z => h (List.mem_cons_of_mem _ z)
theorem filter_zip {β : Type} {x : Str} {cc : β} : ∀ (ps : List Str) (cr : List β) (c : Nat), ps.Nodup → ps[c]? = some x → cr[c]? = some cc → (ps.zip cr).filter (fun p => decide (p.1 = x)) = [(x, cc)]
  | [], _, _, _, h, _ => by simp at h
  | _ :: _, [], _, _, _, h => by simp at h
  | p :: ps, d :: cr, 0, nd, h1, h2 => by
    simp at h1 h2; subst h1 h2
    rw [List.zip_cons_cons, List.filter_cons_of_pos (by simp), filter_zip0 ps cr (List.nodup_cons.mp nd).1]
  | p :: ps, d :: cr, c + 1, nd, h1, h2 => by
    have h1 : ps[c]? = some x := by simpa using h1
    have hne : p ≠ x := fun z => (List.nodup_cons.mp nd).1 (by rw [z]; exact List.mem_of_getElem? h1)
    rw [List.zip_cons_cons, List.filter_cons_of_neg (by simpa using hne)]
    exact filter_zip ps cr c (List.nodup_cons.mp nd).2 h1 (by simpa using h2)
theorem namesAt_perm {a b : List (Str × Str)} (h : a.Perm b) (x : Str) : (namesAt a x).Perm (namesAt b x) := (h.filter _).map _
theorem namesAt_app (a b : List (Str × Str)) (x : Str) : namesAt (a ++ b) x = namesAt a x ++ namesAt b x := by
  unfold namesAt
  rw [List.filter_append, List.map_append]
theorem namesAt_flt (n : Str) (a : List (Str × Str)) (x : Str) : namesAt (a.filter fun p => decide (p.1 ≠ n)) x = (namesAt a x).filter fun z => decide (z ≠ n) := by
  unfold namesAt
  rw [List.filter_map, List.filter_filter, List.filter_filter]
  congr 1
  refine List.filter_congr fun p _ => ?_
  simp only [Function.comp, Bool.and_comm]
theorem namesAt_F (l : List (Str × (Nat × List Str))) (x : Str) : namesAt (l.flatMap fun p => p.2.2.map fun z => (z, p.1)) x = (l.filter fun p => decide (p.1 = x)).flatMap fun p => p.2.2 := by
  induction l with
  | nil => rfl
  | cons p l ih =>
    rw [List.flatMap_cons, namesAt_app, ih]
    by_cases e : p.1 = x
    · rw [List.filter_cons_of_pos (by simpa using e), List.flatMap_cons]
      congr 1
      unfold namesAt
      rw [List.filter_map, List.filter_eq_self.mpr fun a _ => by simpa using e, List.map_map]
      exact List.map_id' _
    · rw [List.filter_cons_of_neg (by simpa using e)]
      unfold namesAt
      rw [List.filter_map, List.filter_eq_nil_iff.mpr fun a _ => by simpa using e]
      rfl
end
section
variable {w : Wd} {k i j : Nat} {y : Way} {hd : Str} {p q : Nat × List Str} {who : Option Str} {QF XF : D → List D → Prop}
theorem sum_plain (h : WdOk w) {c : Nat} {x : Str} {cc : Nat × List Str} (h1 : w.ps[c]? = some x) (h2 : w.cr[c]? = some cc) : sumAt (plainW w) x = cc.1 := by
  unfold sumAt plainW
  rw [List.filter_map]
  have e : (w.ps.zip w.cr).filter ((fun p => decide (p.1 = x)) ∘ fun p : Str × (Nat × List Str) => (p.1, (p.2.1 : Int))) = [(x, cc)] := filter_zip w.ps w.cr c h.web.pd h1 h2
  rw [e]
  simp
theorem names_F (h : WdOk w) {c : Nat} {x : Str} {cc : Nat × List Str} (h1 : w.ps[c]? = some x) (h2 : w.cr[c]? = some cc) : namesAt (homesF w) x = cc.2 := by
  unfold homesF
  rw [namesAt_F, filter_zip w.ps w.cr c h.web.pd h1 h2]
  simp
theorem pairs_fst' (h : WdOk w) : (pairs w).map (·.1) = w.ws := List.map_fst_zip (by rw [h.hl]; exact Nat.le_refl _)
theorem pw_ls (h : WdOk w) (n : Str) : ((linksW w).map (turnL n)).Pairwise fun a b => leK (lnkK a) (lnkK b) = true := by
  have e : ∀ l, (turnL n l).1 = l.1 := fun l => by unfold turnL; split <;> rfl
  have e1 : ((linksW w).map (turnL n)).map (·.1) = w.ws.map Way.n := by
    rw [List.map_map]
    unfold linksW
    rw [List.map_map]
    have : ((fun l : Lnk => l.1) ∘ turnL n) ∘ (fun p : Way × Str => ((p.1.n, tailS p.1 p.2, p.2) : Lnk)) = Way.n ∘ fun p : Way × Str => p.1 := by
      funext p; exact e _
    rw [this, ← List.map_map]
    have := pairs_fst' h
    rw [this]
  have pw : (w.ws.map Way.n).Pairwise fun a b => leS a b = true ∧ a ≠ b := by
    refine List.Pairwise.and ?_ h.web.wd
    exact List.pairwise_map.mpr h.web.wo
  rw [← e1, List.pairwise_map] at pw
  exact pw.imp fun z => leK_of_ne z.2 z.1
theorem wayL_of {y : Way} {x : Str} (hne : y.lo ≠ y.hi) (hle : leS y.lo y.hi = true) (hx : x = y.lo ∨ x = y.hi) : wayL (y.n, tailS y x, x) = y ∧ wayL (y.n, x, tailS y x) = y := by
  have hno : ¬ leS y.hi y.lo = true := fun z => hne (leS_anti hle z)
  have a : wayL (y.n, y.lo, y.hi) = y := by unfold wayL; rw [if_pos hle]
  have b : wayL (y.n, y.hi, y.lo) = y := by unfold wayL; rw [if_neg hno]
  rcases hx with rfl | rfl
  · have t : tailS y y.lo = y.hi := by unfold tailS; rw [if_pos rfl]
    rw [t]; exact ⟨b, a⟩
  · have t : tailS y y.hi = y.lo := by unfold tailS; rw [if_neg (Ne.symm hne)]
    rw [t]; exact ⟨a, b⟩
theorem way_ls (h : WdOk w) (n : Str) : ((linksW w).map (turnL n)).map wayL = w.ws := by
  unfold linksW
  rw [List.map_map, List.map_map]
  have e : (pairs w).map ((wayL ∘ turnL n) ∘ fun p => (p.1.n, tailS p.1 p.2, p.2)) = (pairs w).map (·.1) := by
    refine List.map_congr_left fun p hp => ?_
    obtain ⟨a, b⟩ := h.pr hp
    obtain ⟨_, _, c, d⟩ := h.web.we _ a
    obtain ⟨e1, e2⟩ := wayL_of c d b
    show wayL (turnL n (p.1.n, tailS p.1 p.2, p.2)) = p.1
    unfold turnL
    split
    · exact e2
    · exact e1
  rw [e, pairs_fst' h]
theorem heads_ls (h : WdOk w) (hy : w.ws[k]? = some y) (hh : w.hs[k]? = some hd) : ((linksW w).map (turnL y.n)).map (·.2.2) = w.hs.set k (tailS y hd) := by
  have pl := pairs_len h
  apply List.ext_getElem?
  intro c
  unfold linksW
  rw [List.map_map, List.map_map, List.getElem?_map]
  by_cases hc : c < w.ws.length
  · obtain ⟨z, x, g1, g2, g3, _⟩ := pairs_get h hc
    rw [g1]
    show some ((turnL y.n (z.n, tailS z x, x)).2.2) = _
    by_cases e : c = k
    · subst e
      have := hy.symm.trans g2
      cases this
      have := hh.symm.trans g3
      cases this
      rw [List.getElem?_set_self (by rw [h.hl]; exact hc)]
      unfold turnL
      rw [if_pos rfl]
    · rw [List.getElem?_set_ne (Ne.symm e), g3]
      have hne : z.n ≠ y.n := fun en => by
        have a1 : (w.ws.map Way.n)[c]? = some z.n := by rw [List.getElem?_map, g2]; rfl
        have a2 : (w.ws.map Way.n)[k]? = some y.n := by rw [List.getElem?_map, hy]; rfl
        obtain ⟨b1, b2⟩ := List.getElem?_eq_some_iff.mp a1
        obtain ⟨c1, c2⟩ := List.getElem?_eq_some_iff.mp a2
        exact e ((List.getElem_inj h.web.wd).mp (b2.trans (en.trans c2.symm)))
      unfold turnL
      rw [if_neg hne]
  · rw [List.getElem?_eq_none (by omega), List.getElem?_eq_none (by rw [List.length_set, h.hl]; omega)]
    rfl
theorem at_c (h : WdOk w) (s : Stp w k i j y hd p q who) {c : Nat} {x : Str} {cc : Nat × List Str} (h1 : w.ps[c]? = some x) (h2 : w.cr[c]? = some cc) :
    0 ≤ sumAt (plainW w ++ plAdd (tailS y hd) hd who) x ∧ some ((sumAt (plainW w ++ plAdd (tailS y hd) hd who) x).toNat, sortStr (namesAt (hoNew hd (sortH (homesF w)) who) x)) = ((w.cr.set i (mnC p who)).set j (plC q who))[c]? := by
  have ij := s.ij h
  have il := s.il
  have jl := s.jl
  have tne := tail_ne (s.ne h) (s.hor h)
  have cm := List.mem_of_getElem? h2
  have nF := names_F h h1 h2
  have pF := namesAt_perm (sortH_perm (homesF w)) x
  rw [nF] at pF
  have srt : sortStr (namesAt (sortH (homesF w)) x) = cc.2 := sortStr_eq pF.symm (h.co cc cm)
  have same : ∀ {a b : Nat}, w.ps[a]? = some x → w.ps[b]? = some x → a = b := fun {a b} z1 z2 => by
    obtain ⟨a1, a2⟩ := List.getElem?_eq_some_iff.mp z1
    obtain ⟨b1, b2⟩ := List.getElem?_eq_some_iff.mp z2
    exact (List.getElem_inj h.web.pd).mp (a2.trans b2.symm)
  have hxt : x = tailS y hd ↔ c = i := ⟨fun e => same h1 (by rw [e]; exact s.pi), fun e => by subst e; exact Option.some.inj (h1.symm.trans s.pi)⟩
  have hxh : x = hd ↔ c = j := ⟨fun e => same h1 (by rw [e]; exact s.pj), fun e => by subst e; exact Option.some.inj (h1.symm.trans s.pj)⟩
  rw [sumAt_app, sum_plain h h1 h2]
  cases who with
  | none =>
    have ok : 0 < p.1 := s.ok
    show 0 ≤ (cc.1 : Int) + sumAt [(tailS y hd, -1), (hd, 1)] x ∧ some (((cc.1 : Int) + sumAt [(tailS y hd, -1), (hd, 1)] x).toNat, sortStr (namesAt (sortH (homesF w)) x)) = _
    rw [srt]
    by_cases ei : c = i
    · have e1 := hxt.mpr ei
      have e2 : ¬ hd = x := fun z => ij (ei ▸ (hxh.mp z.symm))
      have sm : sumAt [(tailS y hd, -1), (hd, 1)] x = -1 := by unfold sumAt; simp [e1.symm, e2]
      subst ei
      have := s.ci.symm.trans h2
      cases this
      rw [sm, List.getElem?_set_ne (Ne.symm ij), List.getElem?_set_self il]
      refine ⟨by omega, ?_⟩
      show some _ = some (p.1 - 1, p.2)
      rw [show ((p.1 : Int) + -1).toNat = p.1 - 1 by omega]
    · by_cases ej : c = j
      · have e1 := hxh.mpr ej
        have e2 : ¬ tailS y hd = x := fun z => ei (hxt.mp z.symm)
        have sm : sumAt [(tailS y hd, -1), (hd, 1)] x = 1 := by
          unfold sumAt
          rw [List.filter_cons_of_neg (by simpa using e2), List.filter_cons_of_pos (by simpa using e1.symm)]
          rfl
        subst ej
        have := s.cj.symm.trans h2
        cases this
        rw [sm, List.getElem?_set_self (by rw [List.length_set]; exact jl)]
        refine ⟨by omega, ?_⟩
        show some _ = some (q.1 + 1, q.2)
        rw [show ((q.1 : Int) + 1).toNat = q.1 + 1 by omega]
      · have e1 : ¬ tailS y hd = x := fun z => ei (hxt.mp z.symm)
        have e2 : ¬ hd = x := fun z => ej (hxh.mp z.symm)
        have sm : sumAt [(tailS y hd, -1), (hd, 1)] x = 0 := by unfold sumAt; simp [e1, e2]
        rw [sm, List.getElem?_set_ne (Ne.symm ej), List.getElem?_set_ne (Ne.symm ei), h2]
        refine ⟨by omega, ?_⟩
        rw [show ((cc.1 : Int) + 0).toNat = cc.1 by omega]
  | some n =>
    have ok : n ∈ p.2 := s.ok
    have z0 : sumAt ([] : List (Str × Int)) x = 0 := rfl
    show 0 ≤ (cc.1 : Int) + sumAt [] x ∧ some (((cc.1 : Int) + sumAt [] x).toNat, sortStr (namesAt (((sortH (homesF w)).filter fun p => decide (p.1 ≠ n)) ++ [(n, hd)]) x)) = _
    rw [z0, show ((cc.1 : Int) + 0).toNat = cc.1 by omega, namesAt_app, namesAt_flt]
    refine ⟨by omega, ?_⟩
    have pf := pF.filter fun z => decide (z ≠ n)
    by_cases ei : c = i
    · have e2 : ¬ hd = x := fun z => ij (ei ▸ (hxh.mp z.symm))
      have l2 : namesAt [(n, hd)] x = [] := by unfold namesAt; simp [e2]
      subst ei
      have := s.ci.symm.trans h2
      cases this
      rw [l2, List.append_nil, List.getElem?_set_ne (Ne.symm ij), List.getElem?_set_self il]
      show some _ = some (p.1, p.2.filter fun z => decide (z ≠ n))
      rw [sortStr_eq pf.symm ((h.co p cm).filter _)]
    · by_cases ej : c = j
      · have e1 := hxh.mpr ej
        have l2 : namesAt [(n, hd)] x = [n] := by unfold namesAt; simp [e1.symm]
        subst ej
        have := s.cj.symm.trans h2
        cases this
        have nq := flat_two h.cd s.ci s.cj ij ok
        rw [l2, List.getElem?_set_self (by rw [List.length_set]; exact jl)]
        show some _ = some (q.1, sortStr (q.2 ++ [n]))
        have e3 : q.2.filter (fun z => decide (z ≠ n)) = q.2 := List.filter_eq_self.mpr fun a ha => by
          rw [decide_eq_true_eq]; exact fun z => nq (z ▸ ha)
        rw [e3] at pf
        rw [sortStr_eq (((sortStr_perm (q.2 ++ [n]))).trans ((pf.append_right [n]).symm)) (sortStr_pw _)]
      · have e2 : ¬ hd = x := fun z => ej (hxh.mp z.symm)
        have l2 : namesAt [(n, hd)] x = [] := by unfold namesAt; simp [e2]
        have nc := flat_two h.cd s.ci h2 (Ne.symm ei) ok
        have e3 : cc.2.filter (fun z => decide (z ≠ n)) = cc.2 := List.filter_eq_self.mpr fun a ha => by
          rw [decide_eq_true_eq]; exact fun z => nc (z ▸ ha)
        rw [e3] at pf
        rw [l2, List.append_nil, List.getElem?_set_ne (Ne.symm ej), List.getElem?_set_ne (Ne.symm ei), h2, sortStr_eq pf.symm (h.co cc cm)]
theorem bld_nxt (h : WdOk w) (s : Stp w k i j y hd p q who) : bldW w.ps ((linksW w).map (turnL y.n)) (plainW w ++ plAdd (tailS y hd) hd who) (hoNew hd (sortH (homesF w)) who) = nxt w k i j y hd p q who := by
  have e0 : sortStr w.ps = w.ps := sortStr_eq (List.Perm.refl _) h.web.po
  have e1 : sortL ((linksW w).map (turnL y.n)) = (linksW w).map (turnL y.n) := sortL_eq (List.Perm.refl _) (pw_ls h y.n)
  have e2 : w.ps.map (fun x => ((sumAt (plainW w ++ plAdd (tailS y hd) hd who) x).toNat, sortStr (namesAt (hoNew hd (sortH (homesF w)) who) x))) = (w.cr.set i (mnC p who)).set j (plC q who) := by
    apply List.ext_getElem?
    intro c
    by_cases hc : c < w.ps.length
    · have hc2 : c < w.cr.length := by rw [h.cl]; exact hc
      have g1 := List.getElem?_eq_getElem hc
      have g2 := List.getElem?_eq_getElem hc2
      rw [List.getElem?_map, g1]
      exact (at_c h s g1 g2).2
    · rw [List.getElem?_eq_none (by rw [List.length_map]; omega), List.getElem?_eq_none (by rw [List.length_set, List.length_set, h.cl]; omega)]
  unfold bldW nxt
  rw [e0, e1, e2, way_ls h, heads_ls h s.hy s.hh]
end

section
variable {w : Wd} {k i j : Nat} {y : Way} {hd : Str} {p q : Nat × List Str} {who : Option Str} {QF XF : D → List D → Prop}
theorem ho_app (a b : List (Str × Str)) : (a ++ b).map hoD = a.map hoD ++ b.map hoD := List.map_append
theorem ddD_eq (n : Str) (who : Option Str) : ddD (n, who) = .tuple [.str n, whoD who] := by cases who <;> rfl
theorem lnk_mem (h : WdOk w) {l : Lnk} (hl : l ∈ linksW w) : IsName l.1 ∧ IsName l.2.1 ∧ IsName l.2.2 := by
  unfold linksW at hl
  obtain ⟨pr, hp, rfl⟩ := List.mem_map.mp hl
  exact ⟨h.web.wn _ (h.pr hp).1, (tailS_name h hp).1, (h.hn _ (List.of_mem_zip hp).2).1⟩
theorem ho_mem (h : WdOk w) {a : Str × Str} (ha : a ∈ homesF w) : IsName a.1 ∧ IsName a.2 := by
  unfold homesF at ha
  obtain ⟨pr, hp, ha⟩ := List.mem_flatMap.mp ha
  obtain ⟨x, hx, rfl⟩ := List.mem_map.mp ha
  exact ⟨h.cn _ (List.of_mem_zip hp).2 x hx, h.web.pn _ (List.of_mem_zip hp).1⟩
theorem Stp.nm (h : WdOk w) (s : Stp w k i j y hd p q who) : IsName y.n ∧ IsName (tailS y hd) ∧ IsName hd ∧ ∀ x, who = some x → IsName x := by
  refine ⟨h.web.wn _ (List.mem_of_getElem? s.hy), h.web.pn _ (List.mem_of_getElem? s.pi), h.web.pn _ (List.mem_of_getElem? s.pj), fun x e => ?_⟩
  subst e
  exact h.cn p (List.mem_of_getElem? s.ci) x s.ok
theorem after_ok (h : WdOk w) (s : Stp w k i j y hd p q who) (Q : QF (wdD (nxt w k i j y hd p q who)) []) : wF (m_after [wdD w, ddD (y.n, who)]) QF XF := by
  rw [m_after, wF_run, b_after]
  have sz := sz_eq
  have pl := pairs_len h
  have wl := h.web.wl
  have p10 := h.web.p10
  obtain ⟨ny, nt, nh, nw⟩ := s.nm h
  rw [ddD_eq]
  generalize hB : wdD w = B
  have hW : B = .tuple [.tuple [.tuple (w.ps.map .str), .tuple (w.ws.map wayD)], .tuple (w.hs.map .str), .tuple (w.cr.map crD)] := hB.symm
  have ll : (linksW w).length = w.ws.length := by unfold linksW; rw [List.length_map, pl]
  -- the link of the way
  have hmem : (y.n, tailS y hd, hd) ∈ linksW w := by
    unfold linksW
    exact List.mem_map.mpr ⟨(y, hd), List.mem_of_getElem? (i := k) (List.getElem?_zip_eq_some.mpr ⟨s.hy, s.hh⟩), rfl⟩
  have huniq : ∀ l ∈ linksW w, l.1 = y.n → l = (y.n, tailS y hd, hd) := fun l hl e => by
    unfold linksW at hl
    obtain ⟨pr, hp, rfl⟩ := List.mem_map.mp hl
    obtain ⟨c, hc⟩ := List.mem_iff_getElem?.mp hp
    obtain ⟨q1, q2⟩ := List.getElem?_zip_eq_some.mp hc
    have a1 : (w.ws.map Way.n)[c]? = some pr.1.n := by rw [List.getElem?_map, q1]; rfl
    have a2 : (w.ws.map Way.n)[k]? = some y.n := by rw [List.getElem?_map, s.hy]; rfl
    obtain ⟨b1, b2⟩ := List.getElem?_eq_some_iff.mp a1
    obtain ⟨c1, c2⟩ := List.getElem?_eq_some_iff.mp a2
    have e : pr.1.n = y.n := e
    have ck : c = k := (List.getElem_inj h.web.wd).mp (b2.trans (e.trans c2.symm))
    subst ck
    have z1 := q1.symm.trans s.hy
    have z2 := q2.symm.trans s.hh
    obtain ⟨pa, pb⟩ := pr
    cases z1; cases z2; rfl
  refine wS_cut (I := fun ρ => ρ = [some B, some (.tuple [.str y.n, whoD who]), some (.list []), none, none, none, none, none]) (by walk_at "wp"; decide) ?_
  rintro ρ rfl
  refine wS_cut (I := fun ρ => ∃ pr, ρ = [some B, some (.tuple [.str y.n, whoD who]), some (.list []), some pr, none, none, none, none]) (by walk_at "wp"; exact ⟨by decide, _, rfl⟩) ?_
  rintro ρ ⟨pr, rfl⟩
  refine wS_cut (I := fun ρ => ∃ z4, ρ = [some B, some (.tuple [.str y.n, whoD who]), some (.list (((linksW w).map (turnL y.n)).map lnkD)), some (.tuple [.str (tailS y hd), .str hd]), z4, none, none, none]) ?_ ?_
  · walk_at "wp"
    rw [← hB]
    refine links_ok h ?_
    rw [hB]
    walk_at "wp"
    refine loop_inv (fun rs ρ => ∃ (dn l : List Lnk) (pr : D) (z4 : Option D), linksW w = dn ++ l ∧ rs = l.map lnkD ∧ ((y.n, tailS y hd, hd) ∈ dn → pr = .tuple [.str (tailS y hd), .str hd]) ∧ ρ = [some B, some (.tuple [.str y.n, whoD who]), some (.list ((dn.map (turnL y.n)).map lnkD)), some pr, z4, none, none, none]) ?_ ?_ _ _ ⟨[], linksW w, pr, none, rfl, rfl, (fun z => by cases z), rfl⟩
    · rintro dk rs ρ ⟨dn, l, pr, z4, e1, e2, e3, rfl⟩
      cases l with
      | nil => cases e2
      | cons x l =>
        simp only [List.map_cons, List.cons.injEq] at e2
        obtain ⟨rfl, rfl⟩ := e2
        have hx : x ∈ linksW w := by rw [e1]; simp
        have hdn : dn.length < 14 := by have := congrArg List.length e1; simp at this; omega
        have xn := (lnk_mem h hx).1
        have fin : ((dn ++ [x]).map (turnL y.n)).map lnkD = (dn.map (turnL y.n)).map lnkD ++ [lnkD (turnL y.n x)] := by simp
        unfold lnkD
        walk_at "wp"
        rw [show (fun l : Lnk => PyData.tuple [.str l.1, .str l.2.1, .str l.2.2]) = lnkD from rfl]
        refine ⟨⟨okN xn, okN ny⟩, fun e => ⟨by decide, by decide, by simp; omega, dn ++ [x], l, .tuple [.str x.2.1, .str x.2.2], some (lnkD x), by rw [e1]; simp, rfl, fun _ => ?_, ?_⟩, fun e => ⟨by simp; omega, dn ++ [x], l, pr, some (lnkD x), by rw [e1]; simp, rfl, fun z => ?_, ?_⟩⟩
        · rw [huniq x hx e]
        · rw [fin]
          have : lnkD (turnL y.n x) = .tuple [.str x.1, .str x.2.2, .str x.2.1] := by unfold turnL; rw [if_pos e]; rfl
          rw [this]
          rfl
        · rcases List.mem_append.mp z with z | z
          · exact e3 z
          · rw [List.mem_singleton] at z
            exact absurd (by rw [← z]) e
        · rw [fin]
          have : lnkD (turnL y.n x) = lnkD x := by unfold turnL; rw [if_neg e]
          rw [this]
          rfl
    · rintro ρ ⟨dn, l, pr, z4, e1, e2, e3, rfl⟩
      cases l with
      | cons _ _ => cases e2
      | nil =>
        rw [List.append_nil] at e1
        rw [e3 (by rw [← e1]; exact hmem), e1]
        exact ⟨z4, rfl⟩
  rintro ρ ⟨z4, rfl⟩
  refine wS_cut (I := fun ρ => ρ = [some B, some (.tuple [.str y.n, whoD who]), some (.list (((linksW w).map (turnL y.n)).map lnkD)), some (.tuple [.str (tailS y hd), .str hd]), z4, some (.list ((plainW w).map plD)), none, none]) ?_ ?_
  · walk_at "wp"
    rw [← hB]
    exact plain_ok h rfl
  rintro ρ rfl
  refine wS_cut (I := fun ρ => ρ = [some B, some (.tuple [.str y.n, whoD who]), some (.list (((linksW w).map (turnL y.n)).map lnkD)), some (.tuple [.str (tailS y hd), .str hd]), z4, some (.list ((plainW w).map plD)), some (.list ((sortH (homesF w)).map hoD)), none]) ?_ ?_
  · walk_at "wp"
    rw [← hB]
    exact homes_ok h rfl
  rintro ρ rfl
  have hpl : (plainW w).length = w.ps.length := by unfold plainW; rw [List.length_map, List.length_zip, h.cl, Nat.min_self]
  have hhl := homes_len h
  have hsl : (sortH (homesF w)).length = (homesF w).length := (sortH_perm _).length_eq
  have hhm : ∀ a ∈ sortH (homesF w), IsName a.1 ∧ IsName a.2 := fun a ha => ho_mem h ((sortH_perm _).mem_iff.mp ha)
  refine wS_cut (I := fun ρ => ∃ z7, ρ = [some B, some (.tuple [.str y.n, whoD who]), some (.list (((linksW w).map (turnL y.n)).map lnkD)), some (.tuple [.str (tailS y hd), .str hd]), z4, some (.list ((plainW w ++ plAdd (tailS y hd) hd who).map plD)), some (.list ((hoNew hd (sortH (homesF w)) who).map hoD)), z7]) ?_ ?_
  · cases who with
    | none =>
      unfold whoD
      walk_at "wp"
      refine ⟨by decide, by decide, by decide, ?_, none, ?_⟩
      · rw [List.length_map]; omega
      · rw [List.map_append]; rfl
    | some n =>
      unfold whoD
      walk_at "wp"
      have nn := nw n rfl
      refine lc_filtG hoD hoD (fun a => decide (a.1 ≠ n)) (fun ρ => ∃ z7, ρ = [some B, some (.tuple [.str y.n, .str n]), some (.list (((linksW w).map (turnL y.n)).map lnkD)), some (.tuple [.str (tailS y hd), .str hd]), z4, some (.list ((plainW w).map plD)), some (.list ((sortH (homesF w)).map hoD)), z7]) _ (by omega) ?_ ?_ ⟨none, rfl⟩
      · rintro a ha ρ ⟨z7, rfl⟩
        have an := hhm a ha
        unfold hoD
        walk_at "wp"
        exact ⟨⟨okN an.1, okN nn⟩, by simp, fun _ => ⟨_, rfl⟩, fun _ => ⟨_, rfl⟩⟩
      · rintro ρ ⟨z7, rfl⟩
        walk_at "wp"
        have := List.length_filter_le (fun a : Str × Str => decide (a.1 ≠ n)) (sortH (homesF w))
        refine ⟨by decide, by decide, ?_, none, ?_⟩
        · rw [List.length_map]; omega
        · show _ = [_, _, _, _, _, some (PyData.list ((plainW w ++ []).map plD)), some (PyData.list (((sortH (homesF w)).filter (fun p => decide (p.1 ≠ n)) ++ [(n, hd)]).map hoD)), _]
          rw [List.append_nil, List.map_append]
          rfl
  rintro ρ ⟨z7, rfl⟩
  walk_at "wp"
  rw [hW]
  walk_at "wp"
  refine build_ok .tup h.web.pn (by omega) (by rw [List.length_map]; omega) ?_ ?_ ?_ ?_ ?_ ?_ ?_
  · rw [List.length_append]
    have : (plAdd (tailS y hd) hd who).length ≤ 2 := by cases who <;> simp [plAdd]
    omega
  · cases who with
    | none => show (sortH (homesF w)).length ≤ 60; omega
    | some n =>
      show ((sortH (homesF w)).filter (fun p => decide (p.1 ≠ n)) ++ [(n, hd)]).length ≤ 60
      have := List.length_filter_le (fun a : Str × Str => decide (a.1 ≠ n)) (sortH (homesF w))
      rw [List.length_append]
      simp only [List.length_cons, List.length_nil]
      omega
  · intro l hl
    obtain ⟨l', hl', rfl⟩ := List.mem_map.mp hl
    have := (lnk_mem h hl').2
    unfold turnL
    split
    · exact ⟨this.2, this.1⟩
    · exact this
  · intro a ha
    rcases List.mem_append.mp ha with z | z
    · unfold plainW at z
      obtain ⟨pr, hp, rfl⟩ := List.mem_map.mp z
      exact h.web.pn _ (List.of_mem_zip hp).1
    · cases who with
      | none =>
        simp only [plAdd, List.mem_cons, List.not_mem_nil, or_false] at z
        rcases z with rfl | rfl
        · exact nt
        · exact nh
      | some n => cases z
  · intro a ha
    cases who with
    | none => exact hhm a ha
    | some n =>
      have ha : a ∈ (sortH (homesF w)).filter (fun p => decide (p.1 ≠ n)) ++ [(n, hd)] := ha
      rcases List.mem_append.mp ha with z | z
      · exact hhm a (List.mem_filter.mp z).1
      · rw [List.mem_singleton] at z
        subst z
        exact ⟨nw n rfl, nh⟩
  · intro x hx
    obtain ⟨c, a1, a2, a3⟩ := at_place h hx
    exact (at_c h s a1 a2).1
  · rw [bld_nxt h s]
    exact Q
end

section
variable {w : Wd} {k i j : Nat} {y : Way} {hd : Str} {p q : Nat × List Str} {who : Option Str} {QF XF : D → List D → Prop}
theorem way_names_ok (h : WebOk w.ps w.ws) (q : QF (.list ((w.ws.map Way.n).map .str)) []) : wF (m_way_names [webD w.ps w.ws]) QF XF := by
  rw [m_way_names, wF_run, b_way_names]
  have sz := sz_eq
  have wl := h.wl
  unfold webD
  walk_at "wp"
  refine lc_mapG wayD (fun y => .str y.n) (fun ρ => ∃ z, ρ = [some (.tuple [.tuple (w.ps.map .str), .tuple (w.ws.map wayD)]), z]) _ (by omega) ?_ ?_ ⟨none, rfl⟩
  · rintro y hy ρ ⟨z, rfl⟩
    unfold wayD
    walk_at "wp"
    exact ⟨_, rfl⟩
  · rintro ρ ⟨z, rfl⟩
    have e : (w.ws.map Way.n).map PyData.str = w.ws.map fun y => .str y.n := by rw [List.map_map]; rfl
    rw [← e]
    exact q
theorem name_spots_ok (h : WdOk w) (q : QF (.list ((sortH (homesF w)).map hoD)) []) : wF (m_name_spots [wdD w]) QF XF := by
  rw [m_name_spots, wF_run, b_name_spots]
  have sz := sz_eq
  have hh := homes_len h
  generalize hB : wdD w = B
  have hW : B = .tuple [.tuple [.tuple (w.ps.map .str), .tuple (w.ws.map wayD)], .tuple (w.hs.map .str), .tuple (w.cr.map crD)] := hB.symm
  walk_at "wp"
  rw [hW]
  walk_at "wp"
  rw [← hW, zipD_map]
  refine lc2_inv (fun ds acc ρ => ∃ (dn l : List (Str × (Nat × List Str))) (z1 z2 z3 z4 : Option D), w.ps.zip w.cr = dn ++ l ∧ ds = l.map (fun p => .tuple [.str p.1, crD p.2]) ∧ acc = (dn.flatMap fun p => p.2.2.map fun x => (x, p.1)).map hoD ∧ ρ = [some B, z1, z2, z3, z4]) ?_ ?_ _ _ _ ⟨[], w.ps.zip w.cr, none, none, none, none, rfl, rfl, rfl, rfl⟩
  · rintro d ds acc ρ ⟨dn, l, z1, z2, z3, z4, e1, e2, rfl, rfl⟩
    cases l with
    | nil => cases e2
    | cons a l =>
      simp only [List.map_cons, List.cons.injEq] at e2
      obtain ⟨rfl, rfl⟩ := e2
      have hln : (dn.flatMap fun p => p.2.2.map fun x => (x, p.1)).length + a.2.2.length ≤ 8 := by
        unfold homesF at hh
        rw [e1] at hh
        simp at hh ⊢; omega
      unfold crD
      walk_at "wp"
      refine lc_mapA PyData.str (fun x => .tuple [.str x, .str a.1]) (fun ρ => ∃ z1, ρ = [some B, z1, some (.str a.1), some (.int a.2.1), some (.tuple (a.2.2.map .str))]) _ _ (by rw [List.length_map]; omega) ?_ ?_ ⟨z1, rfl⟩
      · rintro x hx ρ ⟨z1, rfl⟩
        walk_at "wp"
        exact ⟨by decide, _, rfl⟩
      · rintro ρ ⟨z1, rfl⟩
        refine ⟨dn ++ [a], l, z1, some (.str a.1), some (.int a.2.1), some (.tuple (a.2.2.map .str)), by rw [e1]; simp, rfl, ?_, rfl⟩
        simp [hoD]
  · rintro acc ρ ⟨dn, l, z1, z2, z3, z4, e1, e2, rfl, rfl⟩
    cases l with
    | cons _ _ => cases e2
    | nil =>
      rw [List.append_nil] at e1
      walk_at "wp"
      have e : (dn.flatMap fun p => p.2.2.map fun x => (x, p.1)) = homesF w := by unfold homesF; rw [e1]
      rw [e, ho_tup, vo_sortK (shape_ho _), sortH_K, ← ho_tup]
      exact q
theorem walker_names_ok (h : WdOk w) (q : QF (.list (((sortH (homesF w)).map (·.1)).map .str)) []) : wF (m_walker_names [wdD w]) QF XF := by
  rw [m_walker_names, wF_run, b_walker_names]
  have sz := sz_eq
  have hh := homes_len h
  have hsl : (sortH (homesF w)).length = (homesF w).length := (sortH_perm _).length_eq
  generalize hB : wdD w = B
  walk_at "wp"
  rw [← hB]
  refine name_spots_ok h ?_
  rw [hB]
  walk_at "wp"
  refine lc_mapG hoD (fun a => .str a.1) (fun ρ => ∃ z1 z2, ρ = [some B, z1, z2]) _ (by omega) ?_ ?_ ⟨none, none, rfl⟩
  · rintro a ha ρ ⟨z1, z2, rfl⟩
    unfold hoD
    walk_at "wp"
    exact ⟨_, _, rfl⟩
  · rintro ρ ⟨z1, z2, rfl⟩
    have e : ((sortH (homesF w)).map (·.1)).map PyData.str = (sortH (homesF w)).map fun a => .str a.1 := by rw [List.map_map]; rfl
    rw [← e]
    exact q
theorem walker_in (h : WdOk w) {n : Str} (s : Stp w k i j y hd p q (some n)) : n ∈ (sortH (homesF w)).map (·.1) := by
  refine List.mem_map.mpr ⟨(n, tailS y hd), (sortH_perm _).mem_iff.mpr ?_, rfl⟩
  unfold homesF
  refine List.mem_flatMap.mpr ⟨(tailS y hd, p), List.mem_of_getElem? (i := i) (List.getElem?_zip_eq_some.mpr ⟨s.pi, s.ci⟩), List.mem_map.mpr ⟨n, s.ok, rfl⟩⟩
theorem check_deeds_ok (h : WdOk w) (s : Stp w k i j y hd p q who) (Q : QF .none []) : wF (m_check_deeds [wdD w, .list [.tuple [.str y.n, whoD who]]]) QF XF := by
  rw [m_check_deeds, wF_run, b_check_deeds]
  have sz := sz_eq
  obtain ⟨ny, nt, nh, nw⟩ := s.nm h
  have yin : y.n ∈ w.ws.map Way.n := List.mem_map.mpr ⟨y, List.mem_of_getElem? s.hy, rfl⟩
  have wn : ∀ x ∈ w.ws.map Way.n, Ok x := names_ok fun x hx => by obtain ⟨a, ha, rfl⟩ := List.mem_map.mp hx; exact h.web.wn a ha
  have hn : ∀ x ∈ (sortH (homesF w)).map (·.1), Ok x := names_ok fun x hx => by
    obtain ⟨a, ha, rfl⟩ := List.mem_map.mp hx
    exact (ho_mem h ((sortH_perm _).mem_iff.mp ha)).1
  generalize hB : wdD w = B
  have hW : B = .tuple [webD w.ps w.ws, .tuple (w.hs.map .str), .tuple (w.cr.map crD)] := hB.symm
  generalize hd0 : PyData.tuple [.str y.n, whoD who] = d0
  refine wS_cut (I := fun ρ => ρ = [some B, some (.list [d0]), some (.list ((w.ws.map Way.n).map .str)), none, none, none]) ?_ ?_
  · walk_at "wp"
    rw [hW]
    walk_at "wp"
    rw [← hW]
    exact way_names_ok h.web rfl
  rintro ρ rfl
  refine wS_cut (I := fun ρ => ρ = [some B, some (.list [d0]), some (.list ((w.ws.map Way.n).map .str)), some (.list (((sortH (homesF w)).map (·.1)).map .str)), none, none]) ?_ ?_
  · walk_at "wp"
    rw [← hB]
    exact walker_names_ok h rfl
  rintro ρ rfl
  walk_at "wp"
  refine loop_inv (fun rs ρ => ∃ z4 z5, (rs = [d0] ∨ rs = []) ∧ ρ = [some B, some (.list [d0]), some (.list ((w.ws.map Way.n).map .str)), some (.list (((sortH (homesF w)).map (·.1)).map .str)), z4, z5]) ?_ ?_ _ _ ⟨none, none, .inl rfl, rfl⟩
  · rintro d rs ρ ⟨z4, z5, e, rfl⟩
    rcases e with e | e
    · cases e
      rw [← hd0]
      cases who with
      | none =>
        unfold whoD
        walk_at "wp"
        rw [vo_notInStrs (alnum_ok ny.2.2.2) wn .lst]
        walk_at "wp"
        exact ⟨fun z => absurd yin (by simpa using z), fun _ => ⟨_, _, .inr trivial, rfl⟩⟩
      | some n =>
        have nn := nw n rfl
        have nin := walker_in h s
        unfold whoD
        walk_at "wp"
        rw [vo_notInStrs (alnum_ok ny.2.2.2) wn .lst]
        walk_at "wp"
        refine ⟨fun z => absurd yin (by simpa using z), fun _ => ?_⟩
        rw [vo_notInStrs (alnum_ok nn.2.2.2) hn .lst]
        walk_at "wp"
        exact ⟨fun z => absurd nin (by simpa using z), fun _ => ⟨_, _, .inr trivial, rfl⟩⟩
    · cases e
  · rintro ρ ⟨z4, z5, e, rfl⟩
    walk_at "wp"
    exact Q
theorem way_at_ok (h : WdOk w) (hy : w.ws[k]? = some y) (Q : QF (.int k) []) : wF (m_way_at [webD w.ps w.ws, .str y.n]) QF XF := by
  rw [m_way_at, wF_run, b_way_at]
  have ny := h.web.wn y (List.mem_of_getElem? hy)
  have yin : y.n ∈ w.ws.map Way.n := List.mem_map.mpr ⟨y, List.mem_of_getElem? hy, rfl⟩
  have yk : (w.ws.map Way.n)[k]? = some y.n := by rw [List.getElem?_map, hy]; rfl
  have wn : ∀ x ∈ w.ws.map Way.n, Ok x := names_ok fun x hx => by obtain ⟨a, ha, rfl⟩ := List.mem_map.mp hx; exact h.web.wn a ha
  generalize hB : webD w.ps w.ws = B
  walk_at "wp"
  rw [← hB]
  refine way_names_ok h.web ?_
  rw [hB]
  walk_at "wp"
  rw [vo_notInStrs (alnum_ok ny.2.2.2) wn .lst]
  walk_at "wp"
  refine ⟨fun z => absurd yin (by simpa using z), fun _ => ?_⟩
  exact vo_indexStrs (alnum_ok ny.2.2.2) wn yk (first_at h.web.wd yk) Q
theorem refusal_ok (h : WdOk w) (s : Stp w k i j y hd p q who) (Q : QF .none []) : wF (m_refusal [wdD w, .str y.n, whoD who]) QF XF := by
  rw [m_refusal, wF_run, b_refusal]
  obtain ⟨ny, nt, nh, nw⟩ := s.nm h
  have pl := pairs_len h
  have hk : k < w.ws.length := (List.getElem?_eq_some_iff.mp s.hy).1
  have wl := h.web.wl
  have gp : (pairs w)[k]? = some (y, hd) := List.getElem?_zip_eq_some.mpr ⟨s.hy, s.hh⟩
  have tin := List.mem_of_getElem? s.pi
  have hc := crAt_eq h s.pi s.ci
  generalize hB : wdD w = B
  have hW : B = .tuple [webD w.ps w.ws, .tuple (w.hs.map .str), .tuple (w.cr.map crD)] := hB.symm
  refine wS_cut (I := fun ρ => ∃ z3, ρ = [some B, some (.str y.n), some (whoD who), z3, some (.str (tailS y hd)), none, none]) ?_ ?_
  · walk_at "wp"
    rw [← hB]
    refine arrows_ok h ?_
    rw [hB]
    walk_at "wp"
    rw [hW]
    walk_at "wp"
    rw [← hW]
    refine way_at_ok h s.hy ?_
    walk_at "wp"
    refine atI_w (by omega) (by rw [List.length_map]; omega) fun d hd' _ => ?_
    rw [show ((k : Nat) : Int).toNat = k by omega, List.getElem?_map, gp] at hd'
    cases hd'
    unfold arrD
    walk_at "wp"
    exact ⟨_, rfl⟩
  rintro ρ ⟨z3, rfl⟩
  refine wS_cut (I := fun ρ => ρ = [some B, some (.str y.n), some (whoD who), z3, some (.str (tailS y hd)), some (.int p.1), some (.tuple (p.2.map .str))]) ?_ ?_
  · walk_at "wp"
    rw [← hB]
    refine crowd_at_ok h tin ?_
    rw [hB, hc]
    unfold crD
    walk_at "wp"
  rintro ρ rfl
  cases who with
  | none =>
    have ok : 0 < p.1 := s.ok
    unfold whoD
    walk_at "wp"
    exact ⟨fun _ => Q, fun z => absurd (show (0 : Int) < p.1 by omega) (by omega)⟩
  | some n =>
    have ok : n ∈ p.2 := s.ok
    have nn := nw n rfl
    unfold whoD
    walk_at "wp"
    rw [vo_inStrs (alnum_ok nn.2.2.2) (names_ok (h.cn p (List.mem_of_getElem? s.ci))) .tup]
    walk_at "wp"
    exact ⟨fun _ => Q, fun z => absurd ok (by simpa using z)⟩
theorem without_ok {c : Nat × List Str} (hn : ∀ x ∈ c.2, IsName x) (hl : c.2.length ≤ 100) (ok : canC c who) (hw : ∀ n, who = some n → IsName n) (Q : QF (crD (mnC c who)) []) : wF (m_without_walker [crD c, whoD who]) QF XF := by
  rw [m_without_walker, wF_run, b_without_walker]
  have sz := sz_eq
  cases who with
  | none =>
    have ok : 0 < c.1 := ok
    unfold whoD crD
    walk_at "wp"
    refine ⟨by decide, ?_⟩
    have e : crD (mnC c none) = .tuple [.int ((c.1 : Int) - 1), .tuple (c.2.map .str)] := by
      unfold crD mnC
      simp only []
      rw [show ((c.1 - 1 : Nat) : Int) = (c.1 : Int) - 1 by omega]
    rw [← e]
    exact Q
  | some n =>
    have nn := hw n rfl
    unfold whoD crD
    walk_at "wp"
    refine lc_filtG PyData.str PyData.str (fun z => decide (z ≠ n)) (fun ρ => ∃ z4, ρ = [some (.tuple [.int c.1, .tuple (c.2.map .str)]), some (.str n), some (.int c.1), some (.tuple (c.2.map .str)), z4]) _ (by omega) ?_ ?_ ⟨none, rfl⟩
    · rintro x hx ρ ⟨z4, rfl⟩
      walk_at "wp"
      exact ⟨⟨okN (hn x hx), okN nn⟩, by simp, fun _ => ⟨_, rfl⟩, fun _ => ⟨_, rfl⟩⟩
    · rintro ρ ⟨z4, rfl⟩
      walk_at "wp"
      exact ⟨by decide, Q⟩
theorem with_ok {c : Nat × List Str} (hl : c.2.length ≤ 60) (Q : QF (crD (plC c who)) []) : wF (m_with_walker [crD c, whoD who]) QF XF := by
  rw [m_with_walker, wF_run, b_with_walker]
  have sz := sz_eq
  cases who with
  | none =>
    unfold whoD crD
    walk_at "wp"
    refine ⟨by decide, ?_⟩
    have e : crD (plC c none) = .tuple [.int ((c.1 : Int) + 1), .tuple (c.2.map .str)] := by
      unfold crD plC
      simp only []
      rw [show ((c.1 + 1 : Nat) : Int) = (c.1 : Int) + 1 by omega]
    rw [← e]
    exact Q
  | some n =>
    unfold whoD crD
    walk_at "wp"
    refine ⟨by simp; omega, ?_⟩
    rw [show c.2.map PyData.str ++ [.str n] = (c.2 ++ [n]).map .str by simp, vo_sortS (by simp; omega)]
    walk_at "wp"
    exact ⟨by decide, Q⟩
end

theorem ixN_w {n : Nat} {i : Int} {K : Nat → Prop} (h0 : 0 ≤ i) (h1 : i < n) (k : K i.toNat) : wV (ixN n i) K := by
  unfold ixN
  rw [if_pos h0, if_pos (by omega)]
  exact k
section
variable {w : Wd} {k i j : Nat} {y : Way} {hd : Str} {p q : Nat × List Str} {who : Option Str} {QF XF : D → List D → Prop}
theorem walked_ok (h : WdOk w) (s : Stp w k i j y hd p q who) (Q : QF (wdD (nxt w k i j y hd p q who)) []) : wF (m_walked [wdD w, .str y.n, whoD who]) QF XF := by
  rw [m_walked, wF_run, b_walked]
  have sz := sz_eq
  obtain ⟨ny, nt, nh, nw⟩ := s.nm h
  have pl := pairs_len h
  have hk : k < w.ws.length := (List.getElem?_eq_some_iff.mp s.hy).1
  have wl := h.web.wl
  have p10 := h.web.p10
  have gp : (pairs w)[k]? = some (y, hd) := List.getElem?_zip_eq_some.mpr ⟨s.hy, s.hh⟩
  have tin := List.mem_of_getElem? s.pi
  have hin := List.mem_of_getElem? s.pj
  have hc := crAt_eq h s.pi s.ci
  have hc2 := crAt_eq h s.pj s.cj
  have pm := List.mem_of_getElem? s.ci
  have qm := List.mem_of_getElem? s.cj
  have pc := h.cle pm
  have qc := h.cle qm
  have il := s.il
  have jl := s.jl
  generalize hB : wdD w = B
  have hW : B = .tuple [webD w.ps w.ws, .tuple (w.hs.map .str), .tuple (w.cr.map crD)] := hB.symm
  generalize hN : whoD who = N
  refine wS_cut (I := fun ρ => ρ = [some B, some (.str y.n), some N, none, none, none, none, some (webD w.ps w.ws), some (.tuple (w.hs.map .str)), some (.tuple (w.cr.map crD)), none, none, none]) ?_ ?_
  · walk_at "wp"
    rw [hW]
    walk_at "wp"
  rintro ρ rfl
  refine wS_cut (I := fun ρ => ρ = [some B, some (.str y.n), some N, some (.int k), none, none, none, some (webD w.ps w.ws), some (.tuple (w.hs.map .str)), some (.tuple (w.cr.map crD)), none, none, none]) ?_ ?_
  · walk_at "wp"
    exact way_at_ok h s.hy rfl
  rintro ρ rfl
  refine wS_cut (I := fun ρ => ∃ z, ρ = [some B, some (.str y.n), some N, some (.int k), none, none, none, some (webD w.ps w.ws), some (.tuple (w.hs.map .str)), some (.tuple (w.cr.map crD)), z, some (.str (tailS y hd)), some (.str hd)]) ?_ ?_
  · walk_at "wp"
    rw [← hB]
    refine arrows_ok h ?_
    rw [hB]
    walk_at "wp"
    refine atI_w (by omega) (by rw [List.length_map]; omega) fun d hd' _ => ?_
    rw [show ((k : Nat) : Int).toNat = k by omega, List.getElem?_map, gp] at hd'
    cases hd'
    unfold arrD
    walk_at "wp"
    exact ⟨_, rfl⟩
  rintro ρ ⟨z, rfl⟩
  refine wS_cut (I := fun ρ => ρ = [some B, some (.str y.n), some N, some (.int k), some (.tuple (w.ps.map .str)), none, none, some (webD w.ps w.ws), some (.tuple (w.hs.map .str)), some (.tuple (w.cr.map crD)), z, some (.str (tailS y hd)), some (.str hd)]) ?_ ?_
  · generalize hV : webD w.ps w.ws = V0
    walk_at "wp"
    rw [← hV]
    unfold webD
    walk_at "wp"
  rintro ρ rfl
  generalize hV : webD w.ps w.ws = V0
  refine wS_cut (I := fun ρ => ρ = [some B, some (.str y.n), some N, some (.int k), some (.tuple (w.ps.map .str)), some (.list (w.hs.map .str)), none, some V0, some (.tuple (w.hs.map .str)), some (.tuple (w.cr.map crD)), z, some (.str (tailS y hd)), some (.str hd)]) (by walk_at "wp") ?_
  rintro ρ rfl
  refine wS_cut (I := fun ρ => ρ = [some B, some (.str y.n), some N, some (.int k), some (.tuple (w.ps.map .str)), some (.list ((w.hs.set k (tailS y hd)).map .str)), none, some V0, some (.tuple (w.hs.map .str)), some (.tuple (w.cr.map crD)), z, some (.str (tailS y hd)), some (.str hd)]) ?_ ?_
  · walk_at "wp"
    refine ixN_w (by omega) (by rw [List.length_map, h.hl]; omega) ?_
    rw [show ((k : Nat) : Int).toNat = k by omega, List.map_set]
  rintro ρ rfl
  refine wS_cut (I := fun ρ => ρ = [some B, some (.str y.n), some N, some (.int k), some (.tuple (w.ps.map .str)), some (.list ((w.hs.set k (tailS y hd)).map .str)), some (.list (w.cr.map crD)), some V0, some (.tuple (w.hs.map .str)), some (.tuple (w.cr.map crD)), z, some (.str (tailS y hd)), some (.str hd)]) (by walk_at "wp") ?_
  rintro ρ rfl
  refine wS_cut (I := fun ρ => ρ = [some B, some (.str y.n), some N, some (.int k), some (.tuple (w.ps.map .str)), some (.list ((w.hs.set k (tailS y hd)).map .str)), some (.list ((w.cr.set i (mnC p who)).map crD)), some V0, some (.tuple (w.hs.map .str)), some (.tuple (w.cr.map crD)), z, some (.str (tailS y hd)), some (.str hd)]) ?_ ?_
  · walk_at "wp"
    rw [← hB]
    refine crowd_at_ok h tin ?_
    rw [hB, hc]
    walk_at "wp"
    rw [← hN]
    refine without_ok (h.cn p pm) (by omega) s.ok nw ?_
    walk_at "wp"
    refine vo_indexStrs (alnum_ok nt.2.2.2) (names_ok h.web.pn) s.pi (first_at h.web.pd s.pi) ?_
    refine ixN_w (by omega) (by rw [List.length_map]; omega) ?_
    rw [show ((i : Nat) : Int).toNat = i by omega]
    simp only [List.map_set]
  rintro ρ rfl
  refine wS_cut (I := fun ρ => ρ = [some B, some (.str y.n), some N, some (.int k), some (.tuple (w.ps.map .str)), some (.list ((w.hs.set k (tailS y hd)).map .str)), some (.list (((w.cr.set i (mnC p who)).set j (plC q who)).map crD)), some V0, some (.tuple (w.hs.map .str)), some (.tuple (w.cr.map crD)), z, some (.str (tailS y hd)), some (.str hd)]) ?_ ?_
  · walk_at "wp"
    rw [← hB]
    refine crowd_at_ok h hin ?_
    rw [hB, hc2]
    walk_at "wp"
    rw [← hN]
    refine with_ok (by omega) ?_
    walk_at "wp"
    refine vo_indexStrs (alnum_ok nh.2.2.2) (names_ok h.web.pn) s.pj (first_at h.web.pd s.pj) ?_
    refine ixN_w (by omega) (by rw [List.length_map, List.length_set]; omega) ?_
    rw [show ((j : Nat) : Int).toNat = j by omega]
    simp only [List.map_set]
  rintro ρ rfl
  walk_at "wp"
  rw [← hV]
  exact ⟨by decide, Q⟩
theorem go_ok (h : WdOk w) (s : Stp w k i j y hd p q who) (Q : QF (wdD (nxt w k i j y hd p q who)) []) : wF (m_go [wdD w, .str y.n, whoD who]) QF XF := by
  rw [m_go, wF_run, b_go]
  generalize hB : wdD w = B
  generalize hN : whoD who = N
  walk_at "wp"
  refine ⟨by decide, by decide, ?_⟩
  rw [← hB, ← hN]
  refine check_deeds_ok h s ?_
  rw [hB, hN]
  walk_at "wp"
  rw [← hB, ← hN]
  refine refusal_ok h s ?_
  walk_at "wp"
  exact walked_ok h s Q
theorem gone_ok {f : Int} (h : WdOk w) (s : Stp w k i j y hd p q who) (Q : QF (wdD (nxt w k i j y hd p q who)) []) : wF (m_gone [wdD w, ddD (y.n, who), .int f]) QF XF := by
  rw [m_gone, wF_run, b_gone, ddD_eq]
  generalize hB : wdD w = B
  cases who with
  | none =>
    have g := go_ok (QF := fun d is => QF d []) (XF := fun x is => XF x []) h s Q
    rw [hB, show whoD none = .none from rfl] at g
    rw [show whoD none = .none from rfl]
    walk_at "wp"
    exact ⟨fun _ => g, fun _ => ⟨fun _ => g, fun _ => g⟩⟩
  | some n =>
    have g := go_ok (QF := fun d is => QF d []) (XF := fun x is => XF x []) h s Q
    rw [hB, show whoD (some n) = .str n from rfl] at g
    rw [show whoD (some n) = .str n from rfl]
    walk_at "wp"
    exact ⟨fun _ => g, fun _ => g⟩
end

theorem sum_ind {a : Str} : ∀ ps : List Str, ps.Nodup → (ps.map fun p => if decide (a = p) = true then 1 else 0).sum = if a ∈ ps then 1 else 0
  | [], _ => rfl
  | p :: ps, nd => by
    have nd' := List.nodup_cons.mp nd
    rw [List.map_cons, List.sum_cons, sum_ind ps nd'.2]
    by_cases e : a = p
    · subst e; simp [nd'.1]
    · simp [e]
theorem sum_add {α : Type} (f g : α → Nat) : ∀ l : List α, (l.map fun a => f a + g a).sum = (l.map f).sum + (l.map g).sum
  | [] => rfl
  | a :: l => by simp only [List.map_cons, List.sum_cons, sum_add f g l]; omega
theorem sum_zero {α : Type} : ∀ l : List α, (l.map fun _ => 0).sum = 0
  | [] => rfl
  | _ :: l => by rw [List.map_cons, List.sum_cons, sum_zero l]
theorem sum_cnt {ps : List Str} (nd : ps.Nodup) : ∀ t : List Str, (∀ x ∈ t, x ∈ ps) → (ps.map fun p => t.countP fun y => decide (y = p)).sum = t.length
  | [], _ => by
    have : (ps.map fun p => ([] : List Str).countP fun y => decide (y = p)) = ps.map fun _ => 0 := rfl
    rw [this, sum_zero]; rfl
  | a :: t, h => by
    have ih := sum_cnt nd t fun x hx => h x (List.mem_cons_of_mem _ hx)
    have e : (ps.map fun p => (a :: t).countP fun y => decide (y = p)) = ps.map fun p => t.countP (fun y => decide (y = p)) + if decide (a = p) = true then 1 else 0 := by
      refine List.map_congr_left fun p _ => ?_
      rw [List.countP_cons]
    rw [e, sum_add, ih, sum_ind ps nd, if_pos (h a List.mem_cons_self), List.length_cons]

section
theorem leK_fst {a b : Lnk} (h : leK (lnkK a) (lnkK b) = true) : leS a.1 b.1 = true := by
  unfold leK lnkK at h
  rw [lexK] at h
  by_cases e : (Sum.inr b.1 : Key) = .inr a.1
  · have e : b.1 = a.1 := Sum.inr.inj e
    rw [e]; exact leS_refl _
  · rw [if_neg e] at h
    exact h
theorem wayL_n (l : Lnk) : (wayL l).n = l.1 := by unfold wayL; split <;> rfl
theorem wayL_e {l : Lnk} (hne : l.2.1 ≠ l.2.2) : ((wayL l).lo = l.2.1 ∧ (wayL l).hi = l.2.2 ∨ (wayL l).lo = l.2.2 ∧ (wayL l).hi = l.2.1) ∧ leS (wayL l).lo (wayL l).hi = true := by
  unfold wayL
  split
  · rename_i h; exact ⟨.inl ⟨rfl, rfl⟩, h⟩
  · rename_i h
    refine ⟨.inr ⟨rfl, rfl⟩, ?_⟩
    have := leS_total l.2.1 l.2.2
    rw [Bool.or_eq_true] at this
    exact this.resolve_left h
theorem sumAt_ones (t : List Str) (x : Str) : sumAt (t.map fun a => (a, (1 : Int))) x = (t.countP fun y => decide (y = x) : Nat) := by
  induction t with
  | nil => rfl
  | cons a t ih =>
    unfold sumAt at ih ⊢
    rw [List.map_cons, List.filter_cons, List.countP_cons]
    by_cases e : a = x
    · simp only [e, decide_true, if_true, List.map_cons, List.sum_cons, ih]
      omega
    · simp only [e, decide_false, Bool.false_eq_true, if_false, ih]
      omega
theorem namesAt_len (ho : List (Str × Str)) (x : Str) : (namesAt ho x).length = (ho.map (·.2)).countP fun y => decide (y = x) := by
  unfold namesAt
  rw [List.length_map, List.countP_map, List.countP_eq_length_filter]
  rfl
theorem fst_inj {ho : List (Str × Str)} (nd : (ho.map (·.1)).Nodup) {z a b : Str} (h1 : (z, a) ∈ ho) (h2 : (z, b) ∈ ho) : a = b := by
  obtain ⟨i, hi⟩ := List.mem_iff_getElem?.mp h1
  obtain ⟨j, hj⟩ := List.mem_iff_getElem?.mp h2
  have a1 : (ho.map (·.1))[i]? = some z := by rw [List.getElem?_map, hi]; rfl
  have a2 : (ho.map (·.1))[j]? = some z := by rw [List.getElem?_map, hj]; rfl
  obtain ⟨b1, b2⟩ := List.getElem?_eq_some_iff.mp a1
  obtain ⟨c1, c2⟩ := List.getElem?_eq_some_iff.mp a2
  have := (List.getElem_inj nd).mp (b2.trans c2.symm)
  subst this
  have := hi.symm.trans hj
  simpa using this
theorem bld_ok {sp : List Str} {ls : List Lnk} {t : List Str} {ho : List (Str × Str)} (pn : ∀ x ∈ sp, IsName x) (pd : sp.Nodup) (p2 : 2 ≤ sp.length) (p10 : sp.length ≤ 10) (wl : ls.length ≤ 14) (wn : ∀ l ∈ ls, IsName l.1) (wd : (ls.map (·.1)).Nodup)
    (we : ∀ l ∈ ls, l.2.1 ∈ sp ∧ l.2.2 ∈ sp ∧ l.2.1 ≠ l.2.2) (ht : ∀ x ∈ t, x ∈ sp) (hp : ∀ a ∈ ho, IsName a.1 ∧ a.2 ∈ sp) (hnd : (ho.map (·.1)).Nodup) (h8 : t.length + ho.length ≤ 8) : WdOk (bldW sp ls (t.map fun a => (a, (1 : Int))) ho) := by
  have sm : ∀ x, x ∈ sortStr sp ↔ x ∈ sp := fun x => (sortStr_perm sp).mem_iff
  have lm : ∀ l, l ∈ sortL ls ↔ l ∈ ls := fun l => (sortL_perm ls).mem_iff
  have sl := (sortStr_perm sp).length_eq
  have ll := (sortL_perm ls).length_eq
  have snd := (sortStr_perm sp).nodup_iff.mpr pd
  have e1 : ((sortL ls).map wayL).map Way.n = (sortL ls).map (·.1) := by
    rw [List.map_map]
    exact List.map_congr_left fun l _ => wayL_n l
  have hdec : ∀ l ∈ sortL ls, (wayL l).lo ∈ sp ∧ (wayL l).hi ∈ sp ∧ (wayL l).lo ≠ (wayL l).hi ∧ leS (wayL l).lo (wayL l).hi = true := fun l hl => by
    obtain ⟨a, b, c⟩ := we l ((lm l).mp hl)
    obtain ⟨d, e⟩ := wayL_e c
    refine ⟨?_, ?_, ?_, e⟩
    · rcases d with ⟨d1, d2⟩ | ⟨d1, d2⟩ <;> rw [d1] <;> assumption
    · rcases d with ⟨d1, d2⟩ | ⟨d1, d2⟩ <;> rw [d2] <;> assumption
    · rcases d with ⟨d1, d2⟩ | ⟨d1, d2⟩ <;> rw [d1, d2]
      · exact c
      · exact Ne.symm c
  refine ⟨⟨fun x hx => pn x ((sm x).mp hx), snd, sortStr_pw sp, by show 2 ≤ (sortStr sp).length; omega, by show (sortStr sp).length ≤ 10; omega, by show ((sortL ls).map wayL).length ≤ 14; rw [List.length_map]; omega, ?_, ?_, ?_, ?_⟩, ?_, ?_, ?_, ?_, ?_, ?_, ?_⟩
  · intro y hy
    obtain ⟨l, hl, rfl⟩ := List.mem_map.mp hy
    rw [wayL_n]; exact wn l ((lm l).mp hl)
  · show (((sortL ls).map wayL).map Way.n).Nodup
    rw [e1]
    exact ((sortL_perm ls).map (·.1)).nodup_iff.mpr wd
  · show ((sortL ls).map wayL).Pairwise fun a b => leS a.n b.n = true
    rw [List.pairwise_map]
    exact (sortL_pw ls).imp fun z => by rw [wayL_n, wayL_n]; exact leK_fst z
  · intro y hy
    obtain ⟨l, hl, rfl⟩ := List.mem_map.mp hy
    obtain ⟨a, b, c, d⟩ := hdec l hl
    exact ⟨(sm _).mpr a, (sm _).mpr b, c, d⟩
  · show ((sortL ls).map (·.2.2)).length = ((sortL ls).map wayL).length
    rw [List.length_map, List.length_map]
  · intro c y x h1 h2
    have h1 : ((sortL ls).map wayL)[c]? = some y := h1
    have h2 : ((sortL ls).map (·.2.2))[c]? = some x := h2
    rw [List.getElem?_map] at h1 h2
    cases g : (sortL ls)[c]? with
    | none => rw [g] at h1; cases h1
    | some l =>
      rw [g] at h1 h2
      cases h1; cases h2
      obtain ⟨d, _⟩ := wayL_e (we l ((lm l).mp (List.mem_of_getElem? g))).2.2
      rcases d with ⟨d1, d2⟩ | ⟨d1, d2⟩
      · exact .inr d2.symm
      · exact .inl d1.symm
  · show ((sortStr sp).map _).length = (sortStr sp).length
    rw [List.length_map]
  · intro p hp' x hx
    obtain ⟨a, ha, rfl⟩ := List.mem_map.mp hp'
    have hx : x ∈ sortStr (namesAt ho a) := hx
    have hx := (sortStr_perm _).mem_iff.mp hx
    unfold namesAt at hx
    obtain ⟨b, hb, rfl⟩ := List.mem_map.mp hx
    exact (hp b (List.mem_filter.mp hb).1).1
  · show (((sortStr sp).map fun x => ((sumAt (t.map fun a => (a, (1 : Int))) x).toNat, sortStr (namesAt ho x))).flatMap (·.2)).Nodup
    rw [List.flatMap_map]
    have mm : ∀ {z x : Str}, z ∈ sortStr (namesAt ho x) → (z, x) ∈ ho := fun {z x} hz => by
      have hz := (sortStr_perm _).mem_iff.mp hz
      unfold namesAt at hz
      obtain ⟨b, hb, rfl⟩ := List.mem_map.mp hz
      obtain ⟨b1, b2⟩ := List.mem_filter.mp hb
      have b2 : b.2 = x := by simpa using b2
      rw [← b2]; exact b1
    unfold List.Nodup
    refine List.pairwise_flatMap.mpr ⟨fun x hx => ?_, ?_⟩
    · show (sortStr (namesAt ho x)).Nodup
      refine (sortStr_perm _).nodup_iff.mpr ?_
      unfold namesAt
      exact hnd.sublist (List.filter_sublist.map _)
    · refine List.Pairwise.imp ?_ snd
      intro a b hab z hz z' hz' e
      subst e
      exact hab (fst_inj hnd (mm hz) (mm hz'))
  · intro p hp'
    obtain ⟨a, ha, rfl⟩ := List.mem_map.mp hp'
    exact sortStr_pw _
  · show (((sortStr sp).map fun x => ((sumAt (t.map fun a => (a, (1 : Int))) x).toNat, sortStr (namesAt ho x))).map fun p => p.1 + p.2.length).sum ≤ 8
    rw [List.map_map]
    have e : (sortStr sp).map ((fun p : Nat × List Str => p.1 + p.2.length) ∘ fun x => ((sumAt (t.map fun a => (a, (1 : Int))) x).toNat, sortStr (namesAt ho x))) = (sortStr sp).map fun x => t.countP (fun y => decide (y = x)) + (ho.map (·.2)).countP fun y => decide (y = x) := by
      refine List.map_congr_left fun x _ => ?_
      show (sumAt (t.map fun a => (a, (1 : Int))) x).toNat + (sortStr (namesAt ho x)).length = _
      rw [sumAt_ones, (sortStr_perm _).length_eq, namesAt_len]
      omega
    rw [e, sum_add, sum_cnt snd t fun x hx => (sm x).mpr (ht x hx), sum_cnt snd (ho.map (·.2)) fun x hx => by
      obtain ⟨a, ha, rfl⟩ := List.mem_map.mp hx
      exact (sm _).mpr (hp a ha).2, List.length_map]
    exact h8
end

section
variable {S : D} {QF XF : D → List D → Prop}
theorem vo_intB {b : Bool} {K : D → Prop} : wV (oInt [.bool b]) K = K (.int (if b = true then 1 else 0)) := rfl
theorem cut_take2 (l : List D) (k : Nat) : Mr.cutD l none (some (k : Int)) = l.take k := by
  unfold Mr.cutD
  rw [HT.sIx_nat]
  show (l.drop 0).take (min k l.length - 0) = l.take k
  rw [List.drop_zero, Nat.sub_zero]
  by_cases h : k ≤ l.length
  · rw [Nat.min_eq_left h]
  · rw [Nat.min_eq_right (by omega), List.take_of_length_le (Nat.le_refl _), List.take_of_length_le (by omega)]
theorem cut_drop2 (l : List D) (k : Nat) : Mr.cutD l (some (k : Int)) none = l.drop k := by
  unfold Mr.cutD
  rw [HT.sIx_nat]
  show (l.drop (min k l.length)).take (l.length - min k l.length) = l.drop k
  by_cases h : k ≤ l.length
  · rw [Nat.min_eq_left h, List.take_of_length_le (by rw [List.length_drop]; exact Nat.le_refl _)]
  · rw [Nat.min_eq_right (by omega), List.drop_eq_nil_of_le (Nat.le_refl _), List.drop_eq_nil_of_le (by omega), List.take_nil]
theorem some2 {sp : List Str} {es left : List D} (p : (es ++ left).Perm (sp.map .str)) (nd : sp.Nodup) (hl : es.length = 2) : ∃ a b, es = [.str a, .str b] ∧ a ∈ sp ∧ b ∈ sp ∧ a ≠ b := by
  match es, hl with
  | [e1, e2], _ =>
    have nd2 : (sp.map PyData.str).Nodup := by
      unfold List.Nodup
      rw [List.pairwise_map]
      exact nd.imp fun z e => z (by cases e; rfl)
    have nd3 := p.nodup_iff.mpr nd2
    have m1 : e1 ∈ sp.map PyData.str := p.mem_iff.mp (by simp)
    have m2 : e2 ∈ sp.map PyData.str := p.mem_iff.mp (by simp)
    obtain ⟨a, ha, rfl⟩ := List.mem_map.mp m1
    obtain ⟨b, hb, rfl⟩ := List.mem_map.mp m2
    refine ⟨a, b, rfl, ha, hb, fun e => ?_⟩
    subst e
    simp at nd3
theorem drawn_ok (hS : Sto S) (h : ∀ (w : Wd) (S' : D), Sto S' → WdOk w → QF (wdD w) [S']) : wF (m_drawn [S]) QF XF := by
  rw [m_drawn, wF_run, b_drawn]
  have sz := sz_eq
  refine wS_cut (I := fun ρ => ∃ M, (∀ d ∈ M, ∃ a b c : Int, d = .tuple [.int a, .int b, .int c] ∧ 2 ≤ a ∧ a ≤ 10 ∧ 1 ≤ b ∧ b ≤ 14 ∧ 1 ≤ c ∧ c ≤ 8) ∧ M.length = 8 ∧ ρ = [some S, some (.list M), none, none, none, none, none, none, none, none, none, none, none, none]) ?_ ?_
  · walk_at "wp"
    refine ⟨by decide, by decide, by decide, by decide, by decide, by decide, by decide, by decide, by decide, _, ?_, ?_, rfl⟩
    · intro d hd
      simp only [List.mem_cons, List.not_mem_nil, or_false] at hd
      rcases hd with rfl | rfl | rfl | rfl | rfl | rfl | rfl | rfl <;> exact ⟨_, _, _, rfl, by decide, by decide, by decide, by decide, by decide, by decide⟩
    · rfl
  rintro ρ ⟨M, hM, hMl, rfl⟩
  refine wS_cut (I := fun ρ => ∃ (S : D) (a b c : Int), Sto S ∧ 2 ≤ a ∧ a ≤ 10 ∧ 1 ≤ b ∧ b ≤ 14 ∧ 1 ≤ c ∧ c ≤ 8 ∧ ρ = [some S, some (.list M), some (.tuple [.int a, .int b, .int c]), none, none, none, none, none, none, none, none, none, none, none]) ?_ ?_
  · walk_at "wp"
    refine one_ok hS (by omega) (by omega) fun d S' hS' hd => ?_
    obtain ⟨a, b, c, rfl, h1, h2, h3, h4, h5, h6⟩ := hM d hd
    exact ⟨S', a, b, c, hS', h1, h2, h3, h4, h5, h6, rfl⟩
  clear hS
  rintro ρ ⟨S, a, b, c, hS, a1, a2, b1, b2, c1, c2, rfl⟩
  generalize hZ : PyData.tuple [.int a, .int b, .int c] = Z
  refine wS_cut (I := fun ρ => ∃ (S : D) (kind : Int), Sto S ∧ ρ = [some S, some (.list M), some Z, some (.int kind), none, none, none, none, none, none, none, none, none, none]) ?_ ?_
  · walk_at "wp"
    exact take_ok hS (by decide) fun r S1 hS1 h0 h1 => ⟨S1, r, hS1, rfl⟩
  clear hS
  rintro ρ ⟨S, kind, hS, rfl⟩
  refine wS_cut (I := fun ρ => ∃ low : Int, (low = 0 ∨ low = 1) ∧ ρ = [some S, some (.list M), some Z, some (.int kind), some (.int low), none, none, none, none, none, none, none, none, none]) ?_ ?_
  · walk_at "wp"
    rw [vo_intB]
    refine ⟨_, ?_, rfl⟩
    split
    · exact .inr rfl
    · exact .inl rfl
  rintro ρ ⟨low, hlow, rfl⟩
  refine wS_cut (I := fun ρ => ∃ (S : D) (sp : List Str), Sto S ∧ (∀ x ∈ sp, IsName x) ∧ sp.Nodup ∧ 2 ≤ sp.length ∧ sp.length ≤ 10 ∧ ρ = [some S, some (.list M), some Z, some (.int kind), some (.int low), some (.list (sp.map .str)), none, none, none, none, none, none, none, none]) ?_ ?_
  · walk_at "wp"
    rw [← hZ]
    walk_at "wp"
    rw [hZ]
    refine upto_ok hS (by omega) a1 fun n S1 hS1 n0 n1 => ?_
    walk_at "wp"
    exact fresh_ok hS1 (by omega) (by omega) fun ys S2 hS2 y1 y2 y3 => ⟨S2, ys, hS2, y1, y2, by omega, by omega, rfl⟩
  clear hS
  rintro ρ ⟨S, sp, hS, pn, pd, p2, p10, rfl⟩
  generalize hM0 : PyData.list M = M0
  refine wS_cut (I := fun ρ => ρ = [some S, some M0, some Z, some (.int kind), some (.int low), some (.list (sp.map .str)), some (.list []), none, none, none, none, none, none, none]) (by walk_at "wp"; decide) ?_
  rintro ρ rfl
  refine wS_cut (I := fun ρ => ∃ (S : D) (ls : List Lnk) (z7 z11 : Option D), Sto S ∧ low ≤ ls.length ∧ ls.length ≤ 14 ∧ (∀ l ∈ ls, IsName l.1) ∧ (ls.map (·.1)).Nodup ∧ (∀ l ∈ ls, l.2.1 ∈ sp ∧ l.2.2 ∈ sp ∧ l.2.1 ≠ l.2.2) ∧
      ρ = [some S, some M0, some Z, some (.int kind), some (.int low), some (.list (sp.map .str)), some (.list (ls.map lnkD)), z7, none, none, none, z11, none, none]) ?_ ?_
  · walk_at "wp"
    rw [← hZ]
    walk_at "wp"
    rw [hZ]
    refine upto_ok hS (by omega) (by omega) fun n S1 hS1 n0 n1 => ?_
    walk_at "wp"
    refine fresh_ok hS1 (by omega) (by omega) fun ys S2 hS2 y1 y2 y3 => ?_
    walk_at "wp"
    refine loop_inv (fun rs ρ => ∃ (S : D) (l : List Str) (ls : List Lnk) (z7 z11 : Option D), Sto S ∧ rs = l.map .str ∧ ys = ls.map (·.1) ++ l ∧ (∀ l ∈ ls, l.2.1 ∈ sp ∧ l.2.2 ∈ sp ∧ l.2.1 ≠ l.2.2) ∧
      ρ = [some S, some M0, some Z, some (.int kind), some (.int low), some (.list (sp.map .str)), some (.list (ls.map lnkD)), z7, none, none, none, z11, none, none]) ?_ ?_ _ _ ⟨S2, ys, [], none, none, hS2, rfl, rfl, (fun _ z => by cases z), rfl⟩
    · rintro dk rs ρ ⟨S, l, ls, z7, z11, hS, e1, e2, we, rfl⟩
      cases l with
      | nil => cases e1
      | cons x l =>
        simp only [List.map_cons, List.cons.injEq] at e1
        obtain ⟨rfl, rfl⟩ := e1
        have hls : ls.length < 14 := by have := congrArg List.length e2; simp at this; omega
        rw [asg_nm]
        simp only [List.set_cons_succ, List.set_cons_zero]
        refine wS_cut (I := fun ρ => ∃ (S : D) (u v : Str), Sto S ∧ u ∈ sp ∧ v ∈ sp ∧ u ≠ v ∧ ρ = [some S, some M0, some Z, some (.int kind), some (.int low), some (.list (sp.map .str)), some (.list (ls.map lnkD)), some (.str x), none, none, none, some (.list [.str u, .str v]), none, none]) ?_ ?_
        · walk_at "wp"
          refine some_ok hS .lst (by decide) (by decide) (by rw [List.length_map]; omega) fun es left S' hS' hp hl => ?_
          rw [List.length_map] at hl
          obtain ⟨u, v, rfl, hu, hv, hn⟩ := some2 hp pd (by omega)
          exact ⟨S', u, v, hS', hu, hv, hn, rfl⟩
        clear hS
        rintro ρ ⟨S, u, v, hS, hu, hv, hn, rfl⟩
        refine wS_cut (I := fun ρ => ∃ (S : D) (u v : Str), Sto S ∧ u ∈ sp ∧ v ∈ sp ∧ u ≠ v ∧ ρ = [some S, some M0, some Z, some (.int kind), some (.int low), some (.list (sp.map .str)), some (.list (ls.map lnkD)), some (.str x), none, none, none, some (.list [.str u, .str v]), none, none]) ?_ ?_
        · walk_at "wp"
          refine ⟨fun _ => ?_, fun _ => ⟨S, u, v, hS, hu, hv, hn, rfl⟩⟩
          rw [show (2 : Int) = ((2 : Nat) : Int) from rfl, cut_take2, ← List.map_take]
          refine some_ok hS .lst (by decide) (by decide) (by rw [List.length_map, List.length_take]; omega) fun es left S' hS' hp hl => ?_
          rw [List.length_map, List.length_take] at hl
          obtain ⟨u, v, rfl, hu, hv, hn⟩ := some2 hp (pd.sublist (List.take_sublist _ _)) (by omega)
          exact ⟨S', u, v, hS', List.mem_of_mem_take hu, List.mem_of_mem_take hv, hn, rfl⟩
        clear hS hu hv hn u v
        rintro ρ ⟨S, u, v, hS, hu, hv, hn, rfl⟩
        walk_at "wp"
        refine ⟨by decide, by rw [List.length_map]; omega, S, l, ls ++ [(x, u, v)], some (.str x), some (.list [.str u, .str v]), hS, rfl, by rw [e2]; simp, fun a ha => ?_, by rw [List.map_append]; rfl⟩
        rcases List.mem_append.mp ha with z | z
        · exact we a z
        · rw [List.mem_singleton.mp z]; exact ⟨hu, hv, hn⟩
    · rintro ρ ⟨S, l, ls, z7, z11, hS, e1, e2, we, rfl⟩
      have el : l = [] := by cases l with | nil => rfl | cons _ _ => cases e1
      subst el
      rw [List.append_nil] at e2
      have hl2 := congrArg List.length e2
      rw [List.length_map] at hl2
      refine ⟨S, ls, z7, z11, hS, by omega, by omega, fun a ha => y1 _ (by rw [e2]; exact List.mem_map.mpr ⟨a, ha, rfl⟩), by rw [← e2]; exact y2, we, rfl⟩
  clear hS
  rintro ρ ⟨S, ls, z7, z11, hS, l0, l14, wn, wd, we, rfl⟩
  refine wS_cut (I := fun ρ => ∃ (S : D) (st : List Str) (z12 : Option D), Sto S ∧ low ≤ st.length ∧ st.length ≤ 8 ∧ (∀ x ∈ st, x ∈ sp) ∧ ρ = [some S, some M0, some Z, some (.int kind), some (.int low), some (.list (sp.map .str)), some (.list (ls.map lnkD)), z7, some (.list (st.map .str)), none, none, z11, z12, none]) ?_ ?_
  · walk_at "wp"
    refine wI_rng ?_
    walk_at "wp"
    rw [← hZ]
    walk_at "wp"
    rw [hZ]
    refine upto_ok hS (by omega) (by omega) fun n S1 hS1 n0 n1 => ?_
    walk_at "wp"
    refine ⟨by omega, by omega, ?_⟩
    refine lc_inv (fun rs acc ρ => ∃ (S : D) (st : List Str) (z12 : Option D), Sto S ∧ st.length + rs.length = n.toNat ∧ (∀ x ∈ st, x ∈ sp) ∧ acc = st.map .str ∧ ρ = [some S, some M0, some Z, some (.int kind), some (.int low), some (.list (sp.map .str)), some (.list (ls.map lnkD)), z7, none, none, none, z11, z12, none]) ?_ ?_ _ _ _ ⟨S1, [], none, hS1, by rw [len_intsF]; simp, (fun _ z => by cases z), rfl, rfl⟩
    · rintro dk rs acc ρ ⟨S, st, z12, hS, hl, hst, rfl, rfl⟩
      rw [List.length_cons] at hl
      walk_at "wp"
      refine one_ok hS (by rw [List.length_map]; omega) (by rw [List.length_map]; omega) fun d S' hS' hd => ?_
      obtain ⟨x, hx, rfl⟩ := List.mem_map.mp hd
      walk_at "wp"
      refine ⟨by rw [List.length_map]; omega, S', st ++ [x], some dk, hS', by simp; omega, fun z hz => ?_, by simp, rfl⟩
      rcases List.mem_append.mp hz with q | q
      · exact hst z q
      · rw [List.mem_singleton.mp q]; exact hx
    · rintro acc ρ ⟨S, st, z12, hS, hl, hst, rfl, rfl⟩
      have hl : st.length = n.toNat := by simpa using hl
      walk_at "wp"
      exact ⟨S, st, _, hS, by omega, by omega, hst, rfl⟩
  clear hS
  rintro ρ ⟨S, st, z12, hS, s0, s8, hst, rfl⟩
  refine wS_cut (I := fun ρ => ∃ (st : List Str), low ≤ st.length ∧ st.length ≤ 8 ∧ (∀ x ∈ st, x ∈ sp) ∧ ρ = [some S, some M0, some Z, some (.int kind), some (.int low), some (.list (sp.map .str)), some (.list (ls.map lnkD)), z7, some (.list (st.map .str)), none, none, z11, z12, none]) ?_ ?_
  · walk_at "wp"
    refine ⟨fun e => ?_, fun _ => ⟨st, s0, s8, hst, rfl⟩⟩
    refine atI_w (by decide) (by rw [List.length_map]; omega) fun d hd _ => ?_
    obtain ⟨l, hl, rfl⟩ := List.mem_map.mp (List.mem_of_getElem? hd)
    unfold lnkD
    walk_at "wp"
    refine ixN_w (by decide) (by rw [List.length_map]; omega) ?_
    refine ⟨st.set 0 l.2.1, by rw [List.length_set]; exact s0, by rw [List.length_set]; exact s8, fun x hx => ?_, ?_⟩
    · rcases List.mem_or_eq_of_mem_set hx with z | rfl
      · exact hst x z
      · exact (we l hl).1
    · rw [List.map_set]
      rfl
  clear s0 s8 hst st
  rintro ρ ⟨st, s0, s8, hst, rfl⟩
  refine wS_cut (I := fun ρ => ∃ (st : List Str) (z13 : Option D), st.length ≤ 8 ∧ (∀ x ∈ st, x ∈ sp) ∧ ρ = [some S, some M0, some Z, some (.int kind), some (.int low), some (.list (sp.map .str)), some (.list (ls.map lnkD)), z7, some (.list (st.map .str)), none, none, z11, z12, z13]) ?_ ?_
  · walk_at "wp"
    refine ⟨fun _ => ?_, fun _ => ⟨st, _, s8, hst, rfl⟩⟩
    cases st with
    | nil =>
      refine lc_mapG PyData.str PyData.str (fun ρ => ∃ z13, ρ = [some S, some M0, some Z, some (.int kind), some (.int low), some (.list (sp.map .str)), some (.list (ls.map lnkD)), z7, some (.list (([] : List Str).map .str)), none, none, z11, z12, z13]) [] (by simp) (fun a ha => by cases ha) ?_ ⟨none, rfl⟩
      rintro ρ ⟨z13, rfl⟩
      walk_at "wp"
      exact ⟨[], _, by simp, (fun _ z => by cases z), rfl⟩
    | cons x st =>
      refine lc_mapG PyData.str (fun _ => .str x) (fun ρ => ∃ z13, ρ = [some S, some M0, some Z, some (.int kind), some (.int low), some (.list (sp.map .str)), some (.list (ls.map lnkD)), z7, some (.list ((x :: st).map .str)), none, none, z11, z12, z13]) _ (by omega) ?_ ?_ ⟨none, rfl⟩
      · rintro a ha ρ ⟨z13, rfl⟩
        walk_at "wp"
        exact ⟨_, rfl⟩
      · rintro ρ ⟨z13, rfl⟩
        walk_at "wp"
        refine ⟨(x :: st).map fun _ => x, _, by rw [List.length_map]; exact s8, fun z hz => ?_, by rw [List.map_map]; rfl⟩
        obtain ⟨_, _, rfl⟩ := List.mem_map.mp hz
        exact hst x (by simp)
  clear s0 s8 hst st
  rintro ρ ⟨st, z13, s8, hst, rfl⟩
  refine wS_cut (I := fun ρ => ∃ (S : D) (ns : List Str), Sto S ∧ (∀ x ∈ ns, IsName x) ∧ ns.Nodup ∧ ns.length ≤ st.length ∧ ρ = [some S, some M0, some Z, some (.int kind), some (.int low), some (.list (sp.map .str)), some (.list (ls.map lnkD)), z7, some (.list (st.map .str)), some (.list (ns.map .str)), none, z11, z12, z13]) ?_ ?_
  · walk_at "wp"
    rw [List.length_map]
    refine upto_ok hS (by omega) (by omega) fun n S1 hS1 n0 n1 => ?_
    walk_at "wp"
    exact fresh_ok hS1 (by omega) (by omega) fun ys S2 hS2 y1 y2 y3 => ⟨S2, ys, hS2, y1, y2, by omega, rfl⟩
  clear hS
  rintro ρ ⟨S, ns, hS, nn, nd, nl, rfl⟩
  have zl : (ns.zip st).length = ns.length := by rw [List.length_zip]; omega
  refine wS_cut (I := fun ρ => ∃ z12, ρ = [some S, some M0, some Z, some (.int kind), some (.int low), some (.list (sp.map .str)), some (.list (ls.map lnkD)), z7, some (.list (st.map .str)), some (.list (ns.map .str)), some (.list ((ns.zip st).map hoD)), z11, z12, z13]) ?_ ?_
  · walk_at "wp"
    refine wI_rng ?_
    walk_at "wp"
    rw [List.length_map]
    refine ⟨by omega, by omega, ?_⟩
    rw [show ((ns.length : Nat) : Int).toNat = ns.length by omega, intsF_map]
    refine lc_mapG (fun k : Nat => .int k) (fun k => ((ns.zip st).map hoD).getD k .none) (fun ρ => ∃ z12, ρ = [some S, some M0, some Z, some (.int kind), some (.int low), some (.list (sp.map .str)), some (.list (ls.map lnkD)), z7, some (.list (st.map .str)), some (.list (ns.map .str)), none, z11, z12, z13]) _ (by rw [List.length_range]; omega) ?_ ?_ ⟨z12, rfl⟩
    · rintro k hk ρ ⟨z12, rfl⟩
      have hk := List.mem_range.mp hk
      have g1 := List.getElem?_eq_getElem hk
      have g2 := List.getElem?_eq_getElem (show k < st.length by omega)
      have g3 : (ns.zip st)[k]? = some (ns[k], st[k]) := List.getElem?_zip_eq_some.mpr ⟨g1, g2⟩
      walk_at "wp"
      refine atI_w (by omega) (by rw [List.length_map]; omega) fun d hd _ => atI_w (by omega) (by rw [List.length_map]; omega) fun d2 hd2 _ => ?_
      rw [show ((k : Nat) : Int).toNat = k by omega, List.getElem?_map] at hd hd2
      rw [g1] at hd
      rw [g2] at hd2
      cases hd
      cases hd2
      refine ⟨by decide, ?_, _, rfl⟩
      rw [List.getD_eq_getElem?_getD, List.getElem?_map, g3]; rfl
    · rintro ρ ⟨z12, rfl⟩
      walk_at "wp"
      have e : (List.range ns.length).map (fun k => ((ns.zip st).map hoD).getD k .none) = (ns.zip st).map hoD := by
        have := range_getD (.none : D) ((ns.zip st).map hoD)
        rw [List.length_map, zl] at this
        exact this
      rw [e]
      exact ⟨_, rfl⟩
  rintro ρ ⟨z12, rfl⟩
  walk_at "wp"
  rw [List.length_map, cut_drop2, ← List.map_drop]
  refine lc_mapG PyData.str (fun x => plD (x, 1)) (fun ρ => ∃ z13, ρ = [some S, some M0, some Z, some (.int kind), some (.int low), some (.list (sp.map .str)), some (.list (ls.map lnkD)), z7, some (.list (st.map .str)), some (.list (ns.map .str)), some (.list ((ns.zip st).map hoD)), z11, z12, z13]) _ (by rw [List.length_drop]; omega) ?_ ?_ ⟨z13, rfl⟩
  · rintro x hx ρ ⟨z13, rfl⟩
    unfold plD
    walk_at "wp"
    exact ⟨by decide, _, rfl⟩
  · rintro ρ ⟨z13, rfl⟩
    walk_at "wp"
    have e : (st.drop ns.length).map (fun x => plD (x, 1)) = ((st.drop ns.length).map fun a => (a, (1 : Int))).map plD := by rw [List.map_map]; rfl
    rw [e]
    have hz : ∀ a ∈ ns.zip st, IsName a.1 ∧ a.2 ∈ sp := fun a ha => ⟨nn _ (List.of_mem_zip ha).1, hst _ (List.of_mem_zip ha).2⟩
    refine build_ok .lst pn p10 l14 (by rw [List.length_map, List.length_drop]; omega) (by omega) (fun l hl => ⟨pn _ (we l hl).1, pn _ (we l hl).2.1⟩) (fun a ha => ?_) (fun a ha => ⟨(hz a ha).1, pn _ (hz a ha).2⟩) (fun x _ => by rw [sumAt_ones]; omega) ?_
    · obtain ⟨x, hx, rfl⟩ := List.mem_map.mp ha
      exact pn _ (hst x (List.mem_of_mem_drop hx))
    · walk_at "wp"
      refine h _ S hS (bld_ok pn pd p2 p10 l14 wn wd we (fun x hx => hst x (List.mem_of_mem_drop hx)) hz ?_ ?_)
      · rw [List.map_fst_zip nl]; exact nd
      · rw [List.length_drop]; omega
end

section
theorem wd_same {w : Wd} (h : WdOk w) {QF XF : D → List D → Prop} (q : QF (.bool true) []) : wF (m_same [wdD w, wdD w]) QF XF :=
  same_ok (wd_fit h).lay (by have := wd_nodes h; omega) q
theorem atI_last {l : List D} {x : D} {K : D → Prop} (k : K x) : wV (atI (l ++ [x]) (-1)) K := by
  have e : atI (l ++ [x]) (-1) = some x := by
    unfold atI ixN
    rw [if_neg (by decide), if_pos (by simp; omega)]
    have : ((-1 : Int) + ((l ++ [x]).length : Int)).toNat = l.length := by simp; omega
    first
      | (rw [this]; simp; done)
      | (simp; done)
  rw [e]; exact k
theorem atI_last2 {l : List D} {x y : D} {K : D → Prop} (k : K x) : wV (atI (l ++ [x, y]) (-2)) K := by
  have e : atI (l ++ [x, y]) (-2) = some x := by
    unfold atI ixN
    rw [if_neg (by decide), if_pos (by simp; omega)]
    have : ((-2 : Int) + ((l ++ [x, y]).length : Int)).toNat = l.length := by simp; omega
    first
      | (rw [this]; simp; done)
      | (simp; done)
  rw [e]; exact k
theorem deed_step {w : Wd} (h : WdOk w) {d : D} (hd : d ∈ (deedsW w).map ddD) : ∃ k i j y x p q who, Stp w k i j y x p q who ∧ d = ddD (y.n, who) := by
  obtain ⟨⟨n, who⟩, hm, rfl⟩ := List.mem_map.mp hd
  obtain ⟨k, i, j, y, x, p, q, s, e⟩ := mem_deeds h hm
  have e : n = y.n := e
  subst e
  exact ⟨k, i, j, y, x, p, q, who, s, rfl⟩
/-- how far the line is -/
def Lne (w0 cur : Wd) (line dl : List D) : Prop := (line = [wdD w0] ∧ dl = [] ∧ cur = w0) ∨
  ∃ (prev : Wd) (pre dpre : List D) (k i j : Nat) (y : Way) (x : Str) (p q : Nat × List Str) (who : Option Str), WdOk prev ∧ Stp prev k i j y x p q who ∧ cur = nxt prev k i j y x p q who ∧ line = pre ++ [wdD prev, wdD cur] ∧ dl = dpre ++ [ddD (y.n, who)] ∧ ∃ d0 ∈ (deedsW w0).map ddD, dl[0]? = some d0
theorem Lne.last {w0 cur : Wd} {line dl : List D} (l : Lne w0 cur line dl) : ∃ pre, line = pre ++ [wdD cur] := by
  rcases l with ⟨rfl, _, rfl⟩ | ⟨prev, pre, dpre, k, i, j, y, x, p, q, who, _, _, _, rfl, _, _⟩
  · exact ⟨[], rfl⟩
  · exact ⟨pre ++ [wdD prev], by simp⟩
theorem law_ok {ns : List Int} (hl : ns.length ≤ 63) : wF (m_law [.list (ns.map .int)]) (fun d is => d = .bool true ∧ is = []) fun _ _ => False := by
  rw [m_law, wF_run, b_law]
  have sz := sz_eq
  generalize hA : PyData.list (ns.map .int) = A
  refine wS_cut (I := fun ρ => ∃ S, Sto S ∧ ρ = [some A, some S, none, none, none, none, none, none, none, none]) ?_ ?_
  · walk_at "wp"
    rw [← hA]
    exact store_ok hl fun S hS => ⟨S, hS, rfl⟩
  rintro ρ ⟨S, hS, rfl⟩
  refine wS_cut (I := fun ρ => ∃ S form, Sto S ∧ ρ = [some A, some S, some (.int form), none, none, none, none, none, none, none]) ?_ ?_
  · walk_at "wp"
    exact take_ok hS (by decide) fun r S1 hS1 h0 h1 => ⟨S1, r, hS1, rfl⟩
  clear hS
  rintro ρ ⟨S, form, hS, rfl⟩
  refine wS_cut (I := fun ρ => ∃ S w, Sto S ∧ WdOk w ∧ ρ = [some A, some S, some (.int form), some (wdD w), none, none, none, none, none, none]) ?_ ?_
  · walk_at "wp"
    exact drawn_ok hS fun w S1 hS1 h => ⟨S1, w, hS1, h, rfl⟩
  clear hS
  rintro ρ ⟨S, w, hS, h, rfl⟩
  generalize hB : wdD w = B
  refine wS_cut (I := fun ρ => deedsW w ≠ [] ∧ ρ = [some A, some S, some (.int form), some B, none, none, none, none, none, none]) ?_ ?_
  · walk_at "wp"
    rw [← hB]
    refine deeds_ok h ?_
    rw [hB]
    walk_at "wp"
    rw [List.length_map]
    refine ⟨fun e => ?_, fun e => fun z => e (by rw [z]; rfl)⟩
    have e0 : deedsW w = [] := List.eq_nil_of_length_eq_zero (by omega)
    rw [← hB]
    refine moves_ok h ?_
    rw [hB, e0]
    walk_at "wp"
    refine ⟨by decide, ?_⟩
    exact same_ok (d := .list []) rfl (by simp [nodes, nodesA]) ⟨rfl, rfl⟩
  rintro ρ ⟨hne, rfl⟩
  refine wS_cut (I := fun ρ => ρ = [some A, some S, some (.int form), some B, some (.list [B]), none, none, none, none, none]) (by walk_at "wp"; decide) ?_
  rintro ρ rfl
  refine wS_cut (I := fun ρ => ρ = [some A, some S, some (.int form), some B, some (.list [B]), some (.list []), none, none, none, none]) (by walk_at "wp"; decide) ?_
  rintro ρ rfl
  refine wS_cut (I := fun ρ => ∃ (S : D) (cur : Wd) (line dl : List D) (z6 z7 z8 z9 : Option D), Sto S ∧ WdOk cur ∧ Lne w cur line dl ∧ dl ≠ [] ∧ ρ = [some A, some S, some (.int form), some B, some (.list line), some (.list dl), z6, z7, z8, z9]) ?_ ?_
  · walk_at "wp"
    refine wI_rng ?_
    walk_at "wp"
    refine take_ok hS (by decide) fun r S1 hS1 r0 r1 => ?_
    walk_at "wp"
    refine ⟨by omega, by omega, ?_⟩
    have r3 : r < 3 := by omega
    refine loop_inv (fun rs ρ => ∃ (S : D) (cur : Wd) (line dl : List D) (z6 z7 z8 z9 : Option D), Sto S ∧ WdOk cur ∧ deedsW cur ≠ [] ∧ Lne w cur line dl ∧ dl.length + rs.length = (1 + r).toNat ∧ line.length = dl.length + 1 ∧ ρ = [some A, some S, some (.int form), some B, some (.list line), some (.list dl), z6, z7, z8, z9]) ?_ ?_ _ _
      ⟨S1, w, [B], [], none, none, none, none, hS1, h, hne, .inl ⟨by rw [hB], rfl, rfl⟩, by rw [len_intsF]; simp, rfl, rfl⟩
    · rintro dk rs ρ ⟨S, cur, line, dl, z6, z7, z8, z9, hS, hc, hcn, hL, hn, hll, rfl⟩
      rw [List.length_cons] at hn
      obtain ⟨pre, rfl⟩ := hL.last
      rw [asg_nm]
      simp only [List.set_cons_succ, List.set_cons_zero]
      refine wS_cut (I := fun ρ => ∃ (S d : D), Sto S ∧ d ∈ (deedsW cur).map ddD ∧ ρ = [some A, some S, some (.int form), some B, some (.list (pre ++ [wdD cur])), some (.list dl), some dk, some d, z8, z9]) ?_ ?_
      · walk_at "wp"
        refine atI_last ?_
        refine deeds_ok hc ?_
        walk_at "wp"
        have l1 := deeds_len hc
        have l2 : 0 < (deedsW cur).length := List.length_pos_iff.mpr hcn
        exact one_ok hS (by rw [List.length_map]; omega) (by rw [List.length_map]; omega) fun d S' hS' hd => ⟨S', d, hS', hd, rfl⟩
      clear hS
      rintro ρ ⟨S, d, hS, hd, rfl⟩
      have hd' := hd
      obtain ⟨k, i, j, y, x, p, q, who, s, rfl⟩ := deed_step hc hd'
      refine wS_cut (I := fun ρ => ρ = [some A, some S, some (.int form), some B, some (.list (pre ++ [wdD cur])), some (.list dl), some dk, some (ddD (y.n, who)), some (wdD (nxt cur k i j y x p q who)), z9]) ?_ ?_
      · walk_at "wp"
        refine atI_last ?_
        exact after_ok hc s rfl
      rintro ρ rfl
      refine wS_cut (I := fun ρ => ρ = [some A, some S, some (.int form), some B, some (.list (pre ++ [wdD cur])), some (.list dl), some dk, some (ddD (y.n, who)), some (wdD (nxt cur k i j y x p q who)), some (wdD (nxt cur k i j y x p q who))]) ?_ ?_
      · walk_at "wp"
        refine atI_last ?_
        exact gone_ok hc s rfl
      rintro ρ rfl
      have hx := nxt_ok hc s
      have sb := s.back hc
      have snn := s.nn hc
      refine wS_cut (I := fun ρ => ρ = [some A, some S, some (.int form), some B, some (.list (pre ++ [wdD cur])), some (.list dl), some dk, some (ddD (y.n, who)), some (wdD (nxt cur k i j y x p q who)), some (wdD (nxt cur k i j y x p q who))]) ?_ ?_
      · walk_at "wp"
        refine wd_same hx ?_
        walk_at "wp"
        refine gone_ok hx sb ?_
        rw [snn]
        walk_at "wp"
        refine atI_last ?_
        refine wd_same hc ?_
        walk_at "wp"
      rintro ρ rfl
      walk_at "wp"
      refine ⟨by omega, by omega, S, nxt cur k i j y x p q who, pre ++ [wdD cur] ++ [wdD (nxt cur k i j y x p q who)], dl ++ [ddD (y.n, who)], some dk, _, _, _, hS, hx, ?_, ?_, by simp; omega, by simp at hll ⊢; omega, rfl⟩
      · have := deeds_mem hx sb
        intro z
        rw [z] at this
        cases this
      · refine .inr ⟨cur, pre, dl, k, i, j, y, x, p, q, who, hc, s, rfl, by simp, rfl, ?_⟩
        rcases hL with ⟨a1, a2, a3⟩ | ⟨_, _, dpre, _, _, _, _, _, _, _, _, _, _, _, _, b1, d0, hd0, b2⟩
        · subst a2 a3
          exact ⟨_, hd, rfl⟩
        · refine ⟨d0, hd0, ?_⟩
          rw [List.getElem?_append_left (by have := (List.getElem?_eq_some_iff.mp b2).1; exact this)]
          exact b2
    · rintro ρ ⟨S, cur, line, dl, z6, z7, z8, z9, hS, hc, hcn, hL, hn, hll, rfl⟩
      refine ⟨S, cur, line, dl, z6, z7, z8, z9, hS, hc, hL, fun z => ?_, rfl⟩
      subst z
      simp at hn
      omega
  clear hS
  rintro ρ ⟨S, cur, line, dl, z6, z7, z8, z9, hS, hc, hL, hdl, rfl⟩
  rcases hL with ⟨_, e, _⟩ | ⟨prev, pre, dpre, k, i, j, y, x, p, q, who, hp, s, rfl, rfl, e, d0, hd0, b2⟩
  · exact absurd e hdl
  have hx := nxt_ok hp s
  have sb := s.back hp
  have snn := s.nn hp
  refine wS_cut (I := fun ρ => ∃ S z7, ρ = [some A, some S, some (.int form), some B, some (.list (pre ++ [wdD prev, wdD (nxt prev k i j y x p q who)])), some (.list dl), z6, z7, z8, z9]) ?_ ?_
  · walk_at "wp"
    refine atI_w (by decide) (by have := List.length_pos_iff.mpr hdl; omega) fun d hd _ => ?_
    have e0 : d = d0 := Option.some.inj (hd.symm.trans b2)
    subst e0
    rw [← hB]
    refine ⟨by decide, deeds_ok h ?_⟩
    rw [hB]
    walk_at "wp"
    have l1 := deeds_len h
    refine some_ok hS .lst (by decide) (by decide) (by rw [List.length_map]; omega) fun es left S' hS' hpm hlen => ?_
    have hes : ∀ d ∈ es, d ∈ (deedsW w).map ddD := fun d hd => hpm.mem_iff.mp (List.mem_append_left _ hd)
    walk_at "wp"
    refine ⟨by rw [List.length_map] at hlen; omega, ?_⟩
    refine loop_inv (fun rs ρ => ∃ z7, (∀ d ∈ rs, d ∈ (deedsW w).map ddD) ∧ ρ = [some A, some S', some (.int form), some B, some (.list (pre ++ [wdD prev, wdD (nxt prev k i j y x p q who)])), some (.list dl), z6, z7, z8, z9]) ?_ ?_ _ _ ⟨z7, ?_, rfl⟩
    · rintro d rs ρ ⟨z7, hrs, rfl⟩
      obtain ⟨k, i, j, y, x, p, q, who, s, rfl⟩ := deed_step h (hrs _ List.mem_cons_self)
      have hx := nxt_ok h s
      walk_at "wp"
      rw [← hB]
      refine ⟨by decide, ?_⟩
      refine gone_ok h s ?_
      walk_at "wp"
      refine after_ok h s ?_
      walk_at "wp"
      refine wd_same hx ?_
      rw [hB]
      walk_at "wp"
      exact ⟨_, fun d hd => hrs d (List.mem_cons_of_mem _ hd), rfl⟩
    · rintro ρ ⟨z7, _, rfl⟩
      exact ⟨S', z7, rfl⟩
    · intro d' hd'
      rcases List.mem_cons.mp hd' with rfl | z
      · exact hd0
      · exact hes d' z
  clear hS
  rintro ρ ⟨S, z7, rfl⟩
  subst e
  walk_at "wp"
  rw [show pre ++ [wdD prev, wdD (nxt prev k i j y x p q who)] = (pre ++ [wdD prev]) ++ [wdD (nxt prev k i j y x p q who)] by simp]
  refine atI_last ?_
  refine atI_last ?_
  refine gone_ok hx sb ?_
  rw [snn, show (pre ++ [wdD prev]) ++ [wdD (nxt prev k i j y x p q who)] = pre ++ [wdD prev, wdD (nxt prev k i j y x p q who)] by simp]
  walk_at "wp"
  refine atI_last2 ?_
  exact wd_same hp ⟨rfl, rfl⟩
theorem law_true : ∀ ns : List Int, ns.length ≤ 63 → m_law [.list (ns.map .int)] = .ok (.bool true) [] := fun ns hl => by
  have q := law_ok hl
  cases h : m_law [.list (ns.map .int)] with
  | bad => rw [h] at q; exact q.elim
  | exn x is => rw [h] at q; exact q.elim
  | ok d is => rw [h] at q; obtain ⟨rfl, rfl⟩ := q; rfl
end

end K15
namespace K15
open PySem PySem.Spec PyProof.Rows L2 Mr
def topS (i : Nat) : Stmt := PySem.Challenge.pw_turnbehind_k15_go_moves_one_walker.main.body.getD i (.Pass ⟨0, 0, 0, 0⟩)
abbrev s_store : Stmt := topS 21
theorem sc_store : FnScope ["script", "cell"] ["script"] (defScope s_store) := ⟨rfl, rfl, rfl, by decide +kernel, rfl, by decide +kernel, by decide +kernel⟩
abbrev s_take : Stmt := topS 22
theorem sc_take : FnScope ["store", "many", "first", "second", "cell", "drawn"] ["store", "many"] (defScope s_take) := ⟨rfl, rfl, rfl, by decide +kernel, rfl, by decide +kernel, by decide +kernel⟩
abbrev s_one : Stmt := topS 25
theorem sc_one : FnScope ["store", "row"] ["store", "row"] (defScope s_one) := ⟨rfl, rfl, rfl, by decide +kernel, rfl, by decide +kernel, by decide +kernel⟩
abbrev s_range : Stmt := topS 23
theorem sc_range : FnScope ["store", "low", "high"] ["store", "low", "high"] (defScope s_range) := ⟨rfl, rfl, rfl, by decide +kernel, rfl, by decide +kernel, by decide +kernel⟩
abbrev s_name : Stmt := topS 27
theorem sc_name : FnScope ["store", "small", "signs", "kind", "many", "found", "k", "at", "sign"] ["store"] (defScope s_name) := ⟨rfl, rfl, rfl, by decide +kernel, rfl, by decide +kernel, by decide +kernel⟩
abbrev s_new_name : Stmt := topS 28
theorem sc_new_name : FnScope ["store", "taken", "signs", "name", "stem", "k"] ["store", "taken"] (defScope s_new_name) := ⟨rfl, rfl, rfl, by decide +kernel, rfl, by decide +kernel, by decide +kernel⟩
abbrev s_fresh : Stmt := topS 36
theorem sc_fresh : FnScope ["store", "many", "found", "k"] ["store", "many"] (defScope s_fresh) := ⟨rfl, rfl, rfl, by decide +kernel, rfl, by decide +kernel, by decide +kernel⟩
abbrev s_build : Stmt := topS 30
theorem sc_build : FnScope ["spots", "links", "plain", "homes", "rows", "points", "row", "crowd", "spot", "pair", "many"] ["spots", "links", "plain", "homes"] (defScope s_build) := ⟨rfl, rfl, rfl, by decide +kernel, rfl, by decide +kernel, by decide +kernel⟩
abbrev s_upto : Stmt := topS 24
theorem sc_upto : FnScope ["store", "low", "high", "kind"] ["store", "low", "high"] (defScope s_upto) := ⟨rfl, rfl, rfl, by decide +kernel, rfl, by decide +kernel, by decide +kernel⟩
abbrev s_some : Stmt := topS 26
theorem sc_some : FnScope ["store", "row", "many", "left", "found", "k"] ["store", "row", "many"] (defScope s_some) := ⟨rfl, rfl, rfl, by decide +kernel, rfl, by decide +kernel, by decide +kernel⟩
abbrev s_drawn : Stmt := topS 37
theorem sc_drawn : FnScope ["store", "menu", "sizes", "kind", "low", "spots", "links", "label", "stands", "names", "homes", "pair", "k", "spot"] ["store"] (defScope s_drawn) := ⟨rfl, rfl, rfl, by decide +kernel, rfl, by decide +kernel, by decide +kernel⟩
abbrev s_same : Stmt := topS 29
theorem sc_same : FnScope ["told", "right", "pairs", "k", "pair", "one", "two", "j"] ["told", "right"] (defScope s_same) := ⟨rfl, rfl, rfl, by decide +kernel, rfl, by decide +kernel, by decide +kernel⟩
abbrev s_tail : Stmt := topS 31
theorem sc_tail : FnScope ["world", "k", "row"] ["world", "k"] (defScope s_tail) := ⟨rfl, rfl, rfl, by decide +kernel, rfl, by decide +kernel, by decide +kernel⟩
abbrev s_links : Stmt := topS 32
theorem sc_links : FnScope ["world", "k"] ["world"] (defScope s_links) := ⟨rfl, rfl, rfl, by decide +kernel, rfl, by decide +kernel, by decide +kernel⟩
abbrev s_plain : Stmt := topS 33
theorem sc_plain : FnScope ["world", "k"] ["world"] (defScope s_plain) := ⟨rfl, rfl, rfl, by decide +kernel, rfl, by decide +kernel, by decide +kernel⟩
abbrev s_homes : Stmt := topS 34
theorem sc_homes : FnScope ["world", "found", "k", "name"] ["world"] (defScope s_homes) := ⟨rfl, rfl, rfl, by decide +kernel, rfl, by decide +kernel, by decide +kernel⟩
abbrev s_after : Stmt := topS 38
theorem sc_after : FnScope ["world", "deed", "links", "pair", "row", "plain", "homes", "home"] ["world", "deed"] (defScope s_after) := ⟨rfl, rfl, rfl, by decide +kernel, rfl, by decide +kernel, by decide +kernel⟩
abbrev s_way_names : Stmt := topS 5
theorem sc_way_names : FnScope ["web", "row"] ["web"] (defScope s_way_names) := ⟨rfl, rfl, rfl, by decide +kernel, rfl, by decide +kernel, by decide +kernel⟩
abbrev s_name_spots : Stmt := topS 9
theorem sc_name_spots : FnScope ["world", "name", "place", "alike", "names"] ["world"] (defScope s_name_spots) := ⟨rfl, rfl, rfl, by decide +kernel, rfl, by decide +kernel, by decide +kernel⟩
abbrev s_walker_names : Stmt := topS 10
theorem sc_walker_names : FnScope ["world", "name", "place"] ["world"] (defScope s_walker_names) := ⟨rfl, rfl, rfl, by decide +kernel, rfl, by decide +kernel, by decide +kernel⟩
abbrev s_check_deeds : Stmt := topS 14
theorem sc_check_deeds : FnScope ["world", "deeds", "ways", "names", "way", "walker"] ["world", "deeds"] (defScope s_check_deeds) := ⟨rfl, rfl, rfl, by decide +kernel, rfl, by decide +kernel, by decide +kernel⟩
abbrev s_crowd_at : Stmt := topS 15
theorem sc_crowd_at : FnScope ["world", "place"] ["world", "place"] (defScope s_crowd_at) := ⟨rfl, rfl, rfl, by decide +kernel, rfl, by decide +kernel, by decide +kernel⟩
abbrev s_arrows_to : Stmt := topS 8
theorem sc_arrows_to : FnScope ["web", "heads", "rows", "head", "way", "low", "high"] ["web", "heads"] (defScope s_arrows_to) := ⟨rfl, rfl, rfl, by decide +kernel, rfl, by decide +kernel, by decide +kernel⟩
abbrev s_arrows : Stmt := topS 7
theorem sc_arrows : FnScope ["world"] ["world"] (defScope s_arrows) := ⟨rfl, rfl, rfl, by decide +kernel, rfl, by decide +kernel, by decide +kernel⟩
abbrev s_way_at : Stmt := topS 6
theorem sc_way_at : FnScope ["web", "way", "names"] ["web", "way"] (defScope s_way_at) := ⟨rfl, rfl, rfl, by decide +kernel, rfl, by decide +kernel, by decide +kernel⟩
abbrev s_refusal : Stmt := topS 16
theorem sc_refusal : FnScope ["world", "way", "walker", "_", "tail", "alike", "names"] ["world", "way", "walker"] (defScope s_refusal) := ⟨rfl, rfl, rfl, by decide +kernel, rfl, by decide +kernel, by decide +kernel⟩
abbrev s_without_walker : Stmt := topS 19
theorem sc_without_walker : FnScope ["pair", "walker", "alike", "names", "name"] ["pair", "walker"] (defScope s_without_walker) := ⟨rfl, rfl, rfl, by decide +kernel, rfl, by decide +kernel, by decide +kernel⟩
abbrev s_with_walker : Stmt := topS 18
theorem sc_with_walker : FnScope ["pair", "walker", "alike", "names"] ["pair", "walker"] (defScope s_with_walker) := ⟨rfl, rfl, rfl, by decide +kernel, rfl, by decide +kernel, by decide +kernel⟩
abbrev s_walked : Stmt := topS 17
theorem sc_walked : FnScope ["world", "way", "walker", "at", "places", "new_heads", "new_crowd", "web", "heads", "crowd", "_", "tail", "head"] ["world", "way", "walker"] (defScope s_walked) := ⟨rfl, rfl, rfl, by decide +kernel, rfl, by decide +kernel, by decide +kernel⟩
abbrev s_go : Stmt := topS 12
theorem sc_go : FnScope ["world", "way", "walker", "cause"] ["world", "way", "walker"] (defScope s_go) := ⟨rfl, rfl, rfl, by decide +kernel, rfl, by decide +kernel, by decide +kernel⟩
abbrev s_gone : Stmt := topS 39
theorem sc_gone : FnScope ["world", "deed", "form"] ["world", "deed", "form"] (defScope s_gone) := ⟨rfl, rfl, rfl, by decide +kernel, rfl, by decide +kernel, by decide +kernel⟩
abbrev s_deeds : Stmt := topS 35
theorem sc_deeds : FnScope ["world", "found", "k", "pair", "name"] ["world"] (defScope s_deeds) := ⟨rfl, rfl, rfl, by decide +kernel, rfl, by decide +kernel, by decide +kernel⟩
abbrev s_moves : Stmt := topS 13
theorem sc_moves : FnScope ["world", "found", "way", "tail", "_", "alike", "names", "name"] ["world"] (defScope s_moves) := ⟨rfl, rfl, rfl, by decide +kernel, rfl, by decide +kernel, by decide +kernel⟩
abbrev s_law : Stmt := topS 40
theorem sc_law : FnScope ["script", "store", "form", "world", "line", "deeds", "k", "deed", "due", "told"] ["script"] (defScope s_law) := ⟨rfl, rfl, rfl, by decide +kernel, rfl, by decide +kernel, by decide +kernel⟩
def clsBody : Stmt → Nat → Stmt
  | .ClassDef _ _ _ b _ _ _ _ _ _ _, j => b.getD j (.Pass ⟨0, 0, 0, 0⟩)
  | s, _ => s
abbrev si_Unknown : Stmt := clsBody (topS 2) 0
theorem sci_Unknown : FnScope ["self", "what", "name"] ["self", "what", "name"] (defScope si_Unknown) := ⟨rfl, rfl, rfl, by decide +kernel, rfl, by decide +kernel, by decide +kernel⟩
abbrev si_NoDeed : Stmt := clsBody (topS 3) 0
theorem sci_NoDeed : FnScope ["self", "index", "way", "cause"] ["self", "index", "way", "cause"] (defScope si_NoDeed) := ⟨rfl, rfl, rfl, by decide +kernel, rfl, by decide +kernel, by decide +kernel⟩
structure Top (K : Fr) (mg : Mg) where
  f_store : Addr
  fd_store : FuncData
  F_store : Fun K "_law_store" "_law_store" s_store f_store fd_store
  g_store : mg "_law_store" = some (.ref f_store)
  f_take : Addr
  fd_take : FuncData
  F_take : Fun K "_law_take" "_law_take" s_take f_take fd_take
  g_take : mg "_law_take" = some (.ref f_take)
  f_one : Addr
  fd_one : FuncData
  F_one : Fun K "_law_one" "_law_one" s_one f_one fd_one
  g_one : mg "_law_one" = some (.ref f_one)
  f_range : Addr
  fd_range : FuncData
  F_range : Fun K "_law_range" "_law_range" s_range f_range fd_range
  g_range : mg "_law_range" = some (.ref f_range)
  f_name : Addr
  fd_name : FuncData
  F_name : Fun K "_law_name" "_law_name" s_name f_name fd_name
  g_name : mg "_law_name" = some (.ref f_name)
  f_new_name : Addr
  fd_new_name : FuncData
  F_new_name : Fun K "_law_new_name" "_law_new_name" s_new_name f_new_name fd_new_name
  g_new_name : mg "_law_new_name" = some (.ref f_new_name)
  f_fresh : Addr
  fd_fresh : FuncData
  F_fresh : Fun K "_law_fresh" "_law_fresh" s_fresh f_fresh fd_fresh
  g_fresh : mg "_law_fresh" = some (.ref f_fresh)
  f_build : Addr
  fd_build : FuncData
  F_build : Fun K "_law_build" "_law_build" s_build f_build fd_build
  g_build : mg "_law_build" = some (.ref f_build)
  f_upto : Addr
  fd_upto : FuncData
  F_upto : Fun K "_law_upto" "_law_upto" s_upto f_upto fd_upto
  g_upto : mg "_law_upto" = some (.ref f_upto)
  f_some : Addr
  fd_some : FuncData
  F_some : Fun K "_law_some" "_law_some" s_some f_some fd_some
  g_some : mg "_law_some" = some (.ref f_some)
  f_drawn : Addr
  fd_drawn : FuncData
  F_drawn : Fun K "_law_drawn" "_law_drawn" s_drawn f_drawn fd_drawn
  g_drawn : mg "_law_drawn" = some (.ref f_drawn)
  f_same : Addr
  fd_same : FuncData
  F_same : Fun K "_law_same" "_law_same" s_same f_same fd_same
  g_same : mg "_law_same" = some (.ref f_same)
  f_tail : Addr
  fd_tail : FuncData
  F_tail : Fun K "_law_tail" "_law_tail" s_tail f_tail fd_tail
  g_tail : mg "_law_tail" = some (.ref f_tail)
  f_links : Addr
  fd_links : FuncData
  F_links : Fun K "_law_links" "_law_links" s_links f_links fd_links
  g_links : mg "_law_links" = some (.ref f_links)
  f_plain : Addr
  fd_plain : FuncData
  F_plain : Fun K "_law_plain" "_law_plain" s_plain f_plain fd_plain
  g_plain : mg "_law_plain" = some (.ref f_plain)
  f_homes : Addr
  fd_homes : FuncData
  F_homes : Fun K "_law_homes" "_law_homes" s_homes f_homes fd_homes
  g_homes : mg "_law_homes" = some (.ref f_homes)
  f_after : Addr
  fd_after : FuncData
  F_after : Fun K "_law_after" "_law_after" s_after f_after fd_after
  g_after : mg "_law_after" = some (.ref f_after)
  f_way_names : Addr
  fd_way_names : FuncData
  F_way_names : Fun K "way_names" "way_names" s_way_names f_way_names fd_way_names
  g_way_names : mg "way_names" = some (.ref f_way_names)
  f_name_spots : Addr
  fd_name_spots : FuncData
  F_name_spots : Fun K "name_spots" "name_spots" s_name_spots f_name_spots fd_name_spots
  g_name_spots : mg "name_spots" = some (.ref f_name_spots)
  f_walker_names : Addr
  fd_walker_names : FuncData
  F_walker_names : Fun K "walker_names" "walker_names" s_walker_names f_walker_names fd_walker_names
  g_walker_names : mg "walker_names" = some (.ref f_walker_names)
  f_check_deeds : Addr
  fd_check_deeds : FuncData
  F_check_deeds : Fun K "check_deeds" "check_deeds" s_check_deeds f_check_deeds fd_check_deeds
  g_check_deeds : mg "check_deeds" = some (.ref f_check_deeds)
  f_crowd_at : Addr
  fd_crowd_at : FuncData
  F_crowd_at : Fun K "crowd_at" "crowd_at" s_crowd_at f_crowd_at fd_crowd_at
  g_crowd_at : mg "crowd_at" = some (.ref f_crowd_at)
  f_arrows_to : Addr
  fd_arrows_to : FuncData
  F_arrows_to : Fun K "arrows_to" "arrows_to" s_arrows_to f_arrows_to fd_arrows_to
  g_arrows_to : mg "arrows_to" = some (.ref f_arrows_to)
  f_arrows : Addr
  fd_arrows : FuncData
  F_arrows : Fun K "arrows" "arrows" s_arrows f_arrows fd_arrows
  g_arrows : mg "arrows" = some (.ref f_arrows)
  f_way_at : Addr
  fd_way_at : FuncData
  F_way_at : Fun K "way_at" "way_at" s_way_at f_way_at fd_way_at
  g_way_at : mg "way_at" = some (.ref f_way_at)
  f_refusal : Addr
  fd_refusal : FuncData
  F_refusal : Fun K "refusal" "refusal" s_refusal f_refusal fd_refusal
  g_refusal : mg "refusal" = some (.ref f_refusal)
  f_without_walker : Addr
  fd_without_walker : FuncData
  F_without_walker : Fun K "without_walker" "without_walker" s_without_walker f_without_walker fd_without_walker
  g_without_walker : mg "without_walker" = some (.ref f_without_walker)
  f_with_walker : Addr
  fd_with_walker : FuncData
  F_with_walker : Fun K "with_walker" "with_walker" s_with_walker f_with_walker fd_with_walker
  g_with_walker : mg "with_walker" = some (.ref f_with_walker)
  f_walked : Addr
  fd_walked : FuncData
  F_walked : Fun K "walked" "walked" s_walked f_walked fd_walked
  g_walked : mg "walked" = some (.ref f_walked)
  f_go : Addr
  fd_go : FuncData
  F_go : FunE K "go" s_go [.non] f_go fd_go
  g_go : mg "go" = some (.ref f_go)
  f_gone : Addr
  fd_gone : FuncData
  F_gone : Fun K "_law_gone" "_law_gone" s_gone f_gone fd_gone
  g_gone : mg "_law_gone" = some (.ref f_gone)
  f_deeds : Addr
  fd_deeds : FuncData
  F_deeds : Fun K "_law_deeds" "_law_deeds" s_deeds f_deeds fd_deeds
  g_deeds : mg "_law_deeds" = some (.ref f_deeds)
  f_moves : Addr
  fd_moves : FuncData
  F_moves : Fun K "moves" "moves" s_moves f_moves fd_moves
  g_moves : mg "moves" = some (.ref f_moves)
  f_law : Addr
  fd_law : FuncData
  F_law : Fun K "law" "law" s_law f_law fd_law
  g_law : mg "law" = some (.ref f_law)
  x_TurnError : Addr
  xg_TurnError : mg "TurnError" = some (.ref x_TurnError)
  x_Unknown : Addr
  x_NoDeed : Addr
  xt : XTab K mg x_TurnError [("Unknown", ["what", "name"], x_Unknown), ("NoDeed", ["index", "way", "cause"], x_NoDeed)]
  fi_Unknown : Addr
  fdi_Unknown : FuncData
  Fi_Unknown : Fun K "__init__" "Unknown.__init__" si_Unknown fi_Unknown fdi_Unknown
  xi_Unknown : PySem.W.findIn K (.ref x_Unknown) "__init__" = some (some (.ref fi_Unknown))
  xy_Unknown : PySem.W.typeIn K (.ref fi_Unknown) = some (.type "function")
  fi_NoDeed : Addr
  fdi_NoDeed : FuncData
  Fi_NoDeed : Fun K "__init__" "NoDeed.__init__" si_NoDeed fi_NoDeed fdi_NoDeed
  xi_NoDeed : PySem.W.findIn K (.ref x_NoDeed) "__init__" = some (some (.ref fi_NoDeed))
  xy_NoDeed : PySem.W.typeIn K (.ref fi_NoDeed) = some (.type "function")
  z_bool : mg "bool" = none
  z_int : mg "int" = none
  z_isinstance : mg "isinstance" = none
  z_len : mg "len" = none
  z_list : mg "list" = none
  z_max : mg "max" = none
  z_min : mg "min" = none
  z_range : mg "range" = none
  z_sorted : mg "sorted" = none
  z_str : mg "str" = none
  z_sum : mg "sum" = none
  z_tuple : mg "tuple" = none
  z_zip : mg "zip" = none
section
variable {P : Program} {w : World} {K : Fr} {mg : Mg} {base : Heap}
theorem xm_Unknown (T : Top K mg) : XM P w K mg base T.x_Unknown T.fi_Unknown T.fdi_Unknown ["self", "what", "name"] ["name", "what"] :=
  ⟨T.xt.xc (p := ("Unknown", ["what", "name"], T.x_Unknown)) (List.mem_of_getElem? (i := 0) rfl), T.xi_Unknown, T.xy_Unknown, init2 (T.xt.xc (p := ("Unknown", ["what", "name"], T.x_Unknown)) (List.mem_of_getElem? (i := 0) rfl)).oex ((T.xt.out (p := ("Unknown", ["what", "name"], T.x_Unknown)) (List.mem_of_getElem? (i := 0) rfl)).fl "what" (by simp)) ((T.xt.out (p := ("Unknown", ["what", "name"], T.x_Unknown)) (List.mem_of_getElem? (i := 0) rfl)).fl "name" (by simp)) T.Fi_Unknown sci_Unknown ⟨by decide, by decide⟩ ⟨by decide, by decide⟩ rfl (.inl rfl) (.inl rfl) (.inl rfl), T.Fi_Unknown.binds fun _ _ _ _ _ _ us hl => match us, hl with | [_, _, _], _ => rfl⟩
theorem xm_NoDeed (T : Top K mg) : XM P w K mg base T.x_NoDeed T.fi_NoDeed T.fdi_NoDeed ["self", "index", "way", "cause"] ["cause", "way", "index"] :=
  ⟨T.xt.xc (p := ("NoDeed", ["index", "way", "cause"], T.x_NoDeed)) (List.mem_of_getElem? (i := 1) rfl), T.xi_NoDeed, T.xy_NoDeed, init3 (T.xt.xc (p := ("NoDeed", ["index", "way", "cause"], T.x_NoDeed)) (List.mem_of_getElem? (i := 1) rfl)).oex ((T.xt.out (p := ("NoDeed", ["index", "way", "cause"], T.x_NoDeed)) (List.mem_of_getElem? (i := 1) rfl)).fl "index" (by simp)) ((T.xt.out (p := ("NoDeed", ["index", "way", "cause"], T.x_NoDeed)) (List.mem_of_getElem? (i := 1) rfl)).fl "way" (by simp)) ((T.xt.out (p := ("NoDeed", ["index", "way", "cause"], T.x_NoDeed)) (List.mem_of_getElem? (i := 1) rfl)).fl "cause" (by simp)) T.Fi_NoDeed sci_NoDeed ⟨by decide, by decide⟩ ⟨by decide, by decide⟩ ⟨by decide, by decide⟩ rfl (.inl rfl) (.inl rfl) (.inl rfl) (.inl rfl), T.Fi_NoDeed.binds fun _ _ _ _ _ _ us hl => match us, hl with | [_, _, _, _], _ => rfl⟩
theorem kb0_go (T : Top K mg) : KwB K T.fd_go ["world", "way", "walker"] ["walker", "way", "world"] 0 [2, 1, 0] := FunE.kwb T.F_go (by simp) fun _ _ _ _ _ _ _ us its ws h1 h2 h3 => match us, its, ws, h1, h2, h3 with | [], [_], [_, _, _], _, _, _ => ⟨_, rfl, rfl⟩
theorem db0_go (T : Top K mg) : ∃ ds, Vals [.non] ds ∧ Binds K T.fd_go ["world", "way", "walker"] ds := FunD.binds1 T.F_go 2 0 (by simp) rfl fun _ _ _ _ _ _ _ us its h1 h2 => match us, its, h1, h2 with | [_, _], [_], _, _ => ⟨_, rfl, rfl⟩
theorem bd_store (T : Top K mg) : Binds K T.fd_store ["script"] [] := T.F_store.binds fun _ _ _ _ _ _ us hl => match us, hl with | [_], _ => rfl
set_option maxHeartbeats 4000000 in
theorem ok_store (T : Top K mg) : FnG P w K mg base 1 T.f_store T.fd_store ["script"] (spM K mg [.bor] true m_store) :=
  ok_of2 (k := 0) T.F_store sc_store (lms := [.val]) (mx := [.dead, .dead]) (ms' := [.dead, .dead]) rfl (by decide) (by decide) (by rfl) (by rfl) (by rfl) (by rfl) (by rfl) fun cdv A outer s H E X hX hgu hr F0 H0 ios W tk hp => by
  subst hX
  have nd := (sc_store).nd
  exact (lss_one (ls_rtO (lo_lst (la_cons (lp_ex (le_of_lo (lo_lc (own := [("cell", 1)]) (msb := [.bor, .val]) rfl rfl nd (pi_any (pv 0)) (li_slot rfl rfl rfl) (blkOk_by (N := ["script", "cell"]) (sc := defScope s_store) (by decide +kernel)) (fun s H C cl fp => (gt_nm (i := 1) nd rfl (by first | exact Or.inl rfl | exact Or.inr rfl))) (fun s H C cl fp F0 H0 ios pr => lt_nil) (fun s H C cl fp F0 H0 ios pr => (le_T call_int1 ad_int T.z_int (la_cons (lp_ex (le_var (pv 1) rfl)) la_nil)))))) (la_cons (lp_ex le_int) (la_cons (lp_ex le_int) (la_cons (lp_ex le_int) (la_cons (lp_ex le_int) la_nil))))))))
theorem bd_take (T : Top K mg) : Binds K T.fd_take ["store", "many"] [] := T.F_take.binds fun _ _ _ _ _ _ us hl => match us, hl with | [_, _], _ => rfl
set_option maxHeartbeats 4000000 in
theorem ok_take (T : Top K mg) : FnG P w K mg base 1 T.f_take T.fd_take ["store", "many"] (spM K mg [.io 0, .bor] false m_take) :=
  ok_of2 (k := 0) T.F_take sc_take (lms := [.val, .val, .val, .val]) (mx := [.io 0, .dead, .dead, .dead, .dead, .dead]) (ms' := [.io 0, .dead, .dead, .dead, .dead, .dead]) rfl (by decide) (by decide) (by rfl) (by rfl) (by rfl) (by rfl) (by rfl) fun cdv A outer s H E X hX hgu hr F0 H0 ios W tk hp => by
  subst hX
  have nd := (sc_take).nd
  exact (lss_cons (ms1 := [.io 0, .bor, .val, .val, .val, .val]) (ls_if (lt_cmpR op_ltC (lp_sl (pv 1) rfl) (lp_ex le_int) ad_cmp)
  (lss_one (ls_rt le_int))
  lss_nil)
  (lss_cons (ms1 := [.io 0, .bor, .val, .val, .val, .val]) (ls_if (PW.pt (lw_and (lt_cmpR (op_eqD (hu64 hr)) (lp_ex (le_ix ix_seq (lp_sl (pv 0) rfl) (lp_ex le_int) ad_ix)) (lp_ex le_int) ad_eq) (lw_and1 (lt_cmpR op_ltC (lp_ex (le_ix ix_seq (lp_sl (pv 0) rfl) (lp_ex le_int) ad_ix)) (lp_ex (le_B call_lenA ad_len T.z_len (la_cons (lp_ex (le_ix ix_seq (lp_sl (pv 0) rfl) (lp_ex le_int) ad_ix)) la_nil))) ad_cmp))))
  (lss_cons (ms1 := [.io 0, .bor, .val, .val, .val, .val]) (ls_set (i := 4) (le_ix ix_seq (lp_ex (le_ix ix_seq (lp_sl (pv 0) rfl) (lp_ex le_int) ad_ix)) (lp_ex (le_ix ix_seq (lp_sl (pv 0) rfl) (lp_ex le_int) ad_ix)) ad_ix) nd rfl (by first | exact Or.inl rfl | exact Or.inr rfl))
  (lss_cons (ms1 := [.io 0, .bor, .val, .val, .val, .val]) (ls_sub (i := 0) rfl rfl (pv 0) (lp_ex le_int) (le_bin op_addA (lp_ex (le_ix ix_seq (lp_sl (pv 0) rfl) (lp_ex le_int) ad_ix)) (lp_ex le_int) ad_add))
  (lss_cons (ms1 := [.io 0, .bor, .val, .val, .val, .val]) (ls_sub (i := 0) rfl rfl (pv 0) (lp_ex le_int) (le_bin op_modN (lp_ex (le_T call_int1 ad_int T.z_int (la_cons (lp_ex (le_bin op_addA (lp_ex (le_bin op_addA (lp_ex (le_bin op_mulA (lp_ex (le_ix ix_seq (lp_sl (pv 0) rfl) (lp_ex le_int) ad_ix)) (lp_ex le_int) ad_mul)) (lp_ex (le_var (pv 4) rfl)) ad_add)) (lp_ex le_int) ad_add)) la_nil))) (lp_ex le_int) ad_mod))
  (lss_one (ls_if (lt_cmpR op_geC (lp_ex (le_var (pv 4) rfl)) (lp_ex (le_bin op_pow (lp_ex le_int) (lp_ex le_int) ad_pow)) ad_cmp)
  (lss_one (ls_sub (i := 0) rfl rfl (pv 0) (lp_ex le_int) (le_var (pv 4) rfl)))
  lss_nil)))))
  lss_nil)
  (lss_cons (ms1 := [.io 0, .bor, .val, .val, .val, .val]) (ls_if (lt_cmpR op_gtC (lp_ex (le_ix ix_seq (lp_sl (pv 0) rfl) (lp_ex le_int) ad_ix)) (lp_ex le_int) ad_cmp)
  (lss_cons (ms1 := [.io 0, .bor, .val, .val, .val, .val]) (ls_set (i := 5) (le_bin op_modN (lp_ex (le_T call_int1 ad_int T.z_int (la_cons (lp_ex (le_ix ix_seq (lp_sl (pv 0) rfl) (lp_ex le_int) ad_ix)) la_nil))) (lp_sl (pv 1) rfl) ad_mod) nd rfl (by first | exact Or.inl rfl | exact Or.inr rfl))
  (lss_cons (ms1 := [.io 0, .bor, .val, .val, .val, .val]) (ls_sub (i := 0) rfl rfl (pv 0) (lp_ex le_int) (le_bin op_fdivN (lp_ex (le_ix ix_seq (lp_sl (pv 0) rfl) (lp_ex le_int) ad_ix)) (lp_sl (pv 1) rfl) ad_div))
  (lss_one (ls_rt (le_var (pv 5) rfl)))))
  lss_nil)
  (lss_cons (ms1 := [.io 0, .bor, .val, .val, .val, .val]) (ls_sub (i := 0) rfl rfl (pv 0) (lp_ex le_int) (le_bin op_addA (lp_ex (le_ix ix_seq (lp_sl (pv 0) rfl) (lp_ex le_int) ad_ix)) (lp_ex le_int) ad_add))
  (lss_cons (ms1 := [.io 0, .bor, .val, .val, .val, .val]) (ls_set (i := 2) (le_bin op_modN (lp_ex (le_T call_int1 ad_int T.z_int (la_cons (lp_ex (le_bin op_addA (lp_ex (le_bin op_addA (lp_ex (le_bin op_mulA (lp_ex (le_ix ix_seq (lp_sl (pv 0) rfl) (lp_ex le_int) ad_ix)) (lp_ex le_int) ad_mul)) (lp_ex (le_bin op_mulA (lp_ex (le_ix ix_seq (lp_sl (pv 0) rfl) (lp_ex le_int) ad_ix)) (lp_ex le_int) ad_mul)) ad_add)) (lp_ex le_int) ad_add)) la_nil))) (lp_ex le_int) ad_mod) nd rfl (by first | exact Or.inl rfl | exact Or.inr rfl))
  (lss_cons (ms1 := [.io 0, .bor, .val, .val, .val, .val]) (ls_set (i := 3) (le_bin op_modN (lp_ex (le_T call_int1 ad_int T.z_int (la_cons (lp_ex (le_bin op_addA (lp_ex (le_bin op_mulA (lp_ex (le_bin op_addA (lp_ex (le_var (pv 2) rfl)) (lp_ex le_int) ad_add)) (lp_ex (le_bin op_addA (lp_ex (le_bin op_fdivN (lp_ex (le_var (pv 2) rfl)) (lp_ex le_int) ad_div)) (lp_ex le_int) ad_add)) ad_mul)) (lp_ex (le_var (pv 2) rfl)) ad_add)) la_nil))) (lp_ex le_int) ad_mod) nd rfl (by first | exact Or.inl rfl | exact Or.inr rfl))
  (lss_one (ls_rt (le_bin op_modN (lp_ex (le_T call_int1 ad_int T.z_int (la_cons (lp_ex (le_var (pv 3) rfl)) la_nil))) (lp_sl (pv 1) rfl) ad_mod)))))))))
theorem bd_one (T : Top K mg) : Binds K T.fd_one ["store", "row"] [] := T.F_one.binds fun _ _ _ _ _ _ us hl => match us, hl with | [_, _], _ => rfl
set_option maxHeartbeats 4000000 in
theorem ok_one (T : Top K mg) : FnG P w K mg base 2 T.f_one T.fd_one ["store", "row"] (spM K mg [.io 0, .bor] false m_one) :=
  ok_of2 (k := 1) T.F_one sc_one (lms := []) (mx := [.io 0, .dead]) (ms' := [.io 0, .dead]) rfl (by decide) (by decide) (by rfl) (by rfl) (by rfl) (by rfl) (by rfl) fun cdv A outer s H E X hX hgu hr F0 H0 ios W tk hp => by
  subst hX
  have nd := (sc_one).nd
  exact (lss_one (ls_rt (le_ix ix_seq (lp_sl (pv 1) rfl) (lp_ex (le_call (ioA := [0]) (ok_take T) hgu (hr.mono (by decide)) T.g_take T.F_take.kp (bd_take T) tk rfl rfl (la_cons (lp_sl (pv 0) rfl) (la_cons (lp_ex (le_B call_lenA ad_len T.z_len (la_cons (lp_sl (pv 1) rfl) la_nil))) la_nil)))) ad_ix)))
theorem bd_range (T : Top K mg) : Binds K T.fd_range ["store", "low", "high"] [] := T.F_range.binds fun _ _ _ _ _ _ us hl => match us, hl with | [_, _, _], _ => rfl
set_option maxHeartbeats 4000000 in
theorem ok_range (T : Top K mg) : FnG P w K mg base 2 T.f_range T.fd_range ["store", "low", "high"] (spM K mg [.io 0, .bor, .bor] false m_range) :=
  ok_of2 (k := 1) T.F_range sc_range (lms := []) (mx := [.io 0, .dead, .dead]) (ms' := [.io 0, .dead, .dead]) rfl (by decide) (by decide) (by rfl) (by rfl) (by rfl) (by rfl) (by rfl) fun cdv A outer s H E X hX hgu hr F0 H0 ios W tk hp => by
  subst hX
  have nd := (sc_range).nd
  exact (lss_one (ls_rt (le_bin op_addA (lp_sl (pv 1) rfl) (lp_ex (le_call (ioA := [0]) (ok_take T) hgu (hr.mono (by decide)) T.g_take T.F_take.kp (bd_take T) tk rfl rfl (la_cons (lp_sl (pv 0) rfl) (la_cons (lp_ex (le_bin op_addA (lp_ex (le_bin (opr_oI0 op_sub) (lp_sl (pv 2) rfl) (lp_sl (pv 1) rfl) ad_sub)) (lp_ex le_int) ad_add)) la_nil)))) ad_add)))
theorem bd_name (T : Top K mg) : Binds K T.fd_name ["store"] [] := T.F_name.binds fun _ _ _ _ _ _ us hl => match us, hl with | [_], _ => rfl
set_option maxHeartbeats 4000000 in
theorem ok_name (T : Top K mg) : FnG P w K mg base 3 T.f_name T.fd_name ["store"] (spM K mg [.io 0] false m_name) :=
  ok_of2 (k := 2) T.F_name sc_name (lms := [.val, .val, .val, .val, .val, .val, .val, .val]) (mx := [.io 0, .dead, .dead, .dead, .dead, .dead, .dead, .dead, .dead]) (ms' := [.io 0, .dead, .dead, .dead, .dead, .dead, .dead, .dead, .dead]) rfl (by decide) (by decide) (by rfl) (by rfl) (by rfl) (by rfl) (by rfl) fun cdv A outer s H E X hX hgu hr F0 H0 ios W tk hp => by
  subst hX
  have nd := (sc_name).nd
  exact (lss_cons (ms1 := [.io 0, .val, .val, .val, .val, .val, .val, .val, .val]) (ls_set (i := 1) le_str nd rfl (by first | exact Or.inl rfl | exact Or.inr rfl))
  (lss_cons (ms1 := [.io 0, .val, .val, .val, .val, .val, .val, .val, .val]) (ls_set (i := 2) (le_bin op_addA (lp_ex (le_var (pv 1) rfl)) (lp_ex le_str) ad_add) nd rfl (by first | exact Or.inl rfl | exact Or.inr rfl))
  (lss_cons (ms1 := [.io 0, .val, .val, .val, .val, .val, .val, .val, .val]) (ls_set (i := 3) (le_call (ioA := [0]) (ok_take T) hgu (hr.mono (by decide)) T.g_take T.F_take.kp (bd_take T) tk rfl rfl (la_cons (lp_sl (pv 0) rfl) (la_cons (lp_ex le_int) la_nil))) nd rfl (by first | exact Or.inl rfl | exact Or.inr rfl))
  (lss_cons (ms1 := [.io 0, .val, .val, .val, .val, .val, .val, .val, .val]) (ls_if (lt_cmpR (op_eqD (hu64 hr)) (lp_ex (le_var (pv 3) rfl)) (lp_ex le_int) ad_eq)
  (lss_one (ls_rt (le_ix ix_seq (lp_ex (le_var (pv 1) rfl)) (lp_ex (le_call (ioA := [0]) (ok_take T) hgu (hr.mono (by decide)) T.g_take T.F_take.kp (bd_take T) tk rfl rfl (la_cons (lp_sl (pv 0) rfl) (la_cons (lp_ex le_int) la_nil)))) ad_ix)))
  lss_nil)
  (lss_cons (ms1 := [.io 0, .val, .val, .val, .val, .val, .val, .val, .val]) (ls_if (lt_cmpR (op_eqD (hu64 hr)) (lp_ex (le_var (pv 3) rfl)) (lp_ex le_int) ad_eq)
  (lss_one (ls_rt (le_bin op_addA (lp_ex (le_ix ix_seq (lp_ex le_str) (lp_ex (le_call (ioA := [0]) (ok_take T) hgu (hr.mono (by decide)) T.g_take T.F_take.kp (bd_take T) tk rfl rfl (la_cons (lp_sl (pv 0) rfl) (la_cons (lp_ex le_int) la_nil)))) ad_ix)) (lp_ex (le_ix ix_seq (lp_ex le_str) (lp_ex (le_call (ioA := [0]) (ok_take T) hgu (hr.mono (by decide)) T.g_take T.F_take.kp (bd_take T) tk rfl rfl (la_cons (lp_sl (pv 0) rfl) (la_cons (lp_ex le_int) la_nil)))) ad_ix)) ad_add)))
  lss_nil)
  (lss_cons (ms1 := [.io 0, .val, .val, .val, .val, .val, .val, .val, .val]) (ls_if (lt_cmpR (op_eqD (hu64 hr)) (lp_ex (le_var (pv 3) rfl)) (lp_ex le_int) ad_eq)
  (lss_one (ls_rt (le_call (ioA := [0]) (ok_one T) hgu (hr.mono (by decide)) T.g_one T.F_one.kp (bd_one T) tk rfl rfl (la_cons (lp_sl (pv 0) rfl) (la_cons (lp_ex (le_of_lo (lo_lst (la_cons (lp_ex le_str) (la_cons (lp_ex le_str) (la_cons (lp_ex le_str) (la_cons (lp_ex le_str) (la_cons (lp_ex le_str) (la_cons (lp_ex le_str) (la_cons (lp_ex le_str) (la_cons (lp_ex le_str) (la_cons (lp_ex le_str) (la_cons (lp_ex le_str) (la_cons (lp_ex le_str) (la_cons (lp_ex le_str) (la_cons (lp_ex le_str) (la_cons (lp_ex le_str) (la_cons (lp_ex le_str) (la_cons (lp_ex le_str) (la_cons (lp_ex le_str) (la_cons (lp_ex le_str) (la_cons (lp_ex le_str) (la_cons (lp_ex le_str) (la_cons (lp_ex le_str) (la_cons (lp_ex le_str) (la_cons (lp_ex le_str) (la_cons (lp_ex le_str) la_nil))))))))))))))))))))))))))) la_nil)))))
  lss_nil)
  (lss_cons (ms1 := [.io 0, .val, .val, .val, .val, .val, .val, .val, .val]) (ls_if (lt_cmpR (op_eqD (hu64 hr)) (lp_ex (le_var (pv 3) rfl)) (lp_ex le_int) ad_eq)
  (lss_cons (ms1 := [.io 0, .val, .val, .val, .val, .val, .val, .val, .val]) (ls_set (i := 4) (le_call (ioA := [0]) (ok_range T) hgu (hr.mono (by decide)) T.g_range T.F_range.kp (bd_range T) tk rfl rfl (la_cons (lp_sl (pv 0) rfl) (la_cons (lp_ex le_int) (la_cons (lp_ex le_int) la_nil)))) nd rfl (by first | exact Or.inl rfl | exact Or.inr rfl))
  (lss_cons (ms1 := [.io 0, .val, .val, .val, .val, .val, .val, .val, .val]) (ls_set (i := 7) (le_call (ioA := [0]) (ok_take T) hgu (hr.mono (by decide)) T.g_take T.F_take.kp (bd_take T) tk rfl rfl (la_cons (lp_sl (pv 0) rfl) (la_cons (lp_ex (le_var (pv 4) rfl)) la_nil))) nd rfl (by first | exact Or.inl rfl | exact Or.inr rfl))
  (lss_cons (ms1 := [.io 0, .val, .val, .val, .val, .val, .val, .val, .val]) (ls_set (i := 8) (le_ix ix_seq (lp_ex (le_var (pv 1) rfl)) (lp_ex (le_call (ioA := [0]) (ok_take T) hgu (hr.mono (by decide)) T.g_take T.F_take.kp (bd_take T) tk rfl rfl (la_cons (lp_sl (pv 0) rfl) (la_cons (lp_ex le_int) la_nil)))) ad_ix) nd rfl (by first | exact Or.inl rfl | exact Or.inr rfl))
  (lss_cons (ms1 := [.io 0, .val, .val, .val, .val, .val, .val, .val, .val]) (ls_if (lt_cmpR op_gtC (lp_ex (le_var (pv 7) rfl)) (lp_ex le_int) ad_cmp)
  (lss_one (ls_set (i := 8) (le_ix ix_seq (lp_ex (le_var (pv 2) rfl)) (lp_ex (le_call (ioA := [0]) (ok_take T) hgu (hr.mono (by decide)) T.g_take T.F_take.kp (bd_take T) tk rfl rfl (la_cons (lp_sl (pv 0) rfl) (la_cons (lp_ex le_int) la_nil)))) ad_ix) nd rfl (by first | exact Or.inl rfl | exact Or.inr rfl)))
  lss_nil)
  (lss_one (ls_rt (le_bin op_addA (lp_ex (le_bin op_addA (lp_ex (le_sl rfl (lp_ex le_str) lr_none (lr_some (lp_ex (le_var (pv 7) rfl))))) (lp_ex (le_var (pv 8) rfl)) ad_add)) (lp_ex (le_sl rfl (lp_ex le_str) lr_none (lr_some (lp_ex (le_bin (opr_oI0 op_sub) (lp_ex (le_bin (opr_oI0 op_sub) (lp_ex (le_var (pv 4) rfl)) (lp_ex le_int) ad_sub)) (lp_ex (le_var (pv 7) rfl)) ad_sub))))) ad_add)))))))
  lss_nil)
  (lss_cons (ms1 := [.io 0, .val, .val, .val, .val, .val, .val, .val, .val]) (ls_set (i := 4) le_int nd rfl (by first | exact Or.inl rfl | exact Or.inr rfl))
  (lss_cons (ms1 := [.io 0, .val, .val, .val, .val, .val, .val, .val, .val]) (ls_if (lt_cmpR (op_eqD (hu64 hr)) (lp_ex (le_var (pv 3) rfl)) (lp_ex le_int) ad_eq)
  (lss_one (ls_set (i := 4) (le_call (ioA := [0]) (ok_range T) hgu (hr.mono (by decide)) T.g_range T.F_range.kp (bd_range T) tk rfl rfl (la_cons (lp_sl (pv 0) rfl) (la_cons (lp_ex le_int) (la_cons (lp_ex le_int) la_nil)))) nd rfl (by first | exact Or.inl rfl | exact Or.inr rfl)))
  lss_nil)
  (lss_cons (ms1 := [.io 0, .val, .val, .val, .val, .val, .val, .val, .val]) (ls_set (i := 5) (le_ix ix_seq (lp_ex (le_var (pv 1) rfl)) (lp_ex (le_call (ioA := [0]) (ok_take T) hgu (hr.mono (by decide)) T.g_take T.F_take.kp (bd_take T) tk rfl rfl (la_cons (lp_sl (pv 0) rfl) (la_cons (lp_ex le_int) la_nil)))) ad_ix) nd rfl (by first | exact Or.inl rfl | exact Or.inr rfl))
  (lss_cons (ms1 := [.io 0, .val, .val, .val, .val, .val, .val, .val, .val]) (ls_for (msh := [.io 0, .val, .val, .val, .val, .val, .val, .val, .val]) (msb := [.io 0, .val, .val, .val, .val, .val, .val, .val, .val]) rfl hp rfl (pi_range1 (by rfl) T.z_range (la_cons (lp_ex (le_bin (opr_oI0 op_sub) (lp_ex (le_var (pv 4) rfl)) (lp_ex le_int) ad_sub)) la_nil)) li_rng1 (gt_nm (i := 6) nd rfl (by first | exact Or.inl rfl | exact Or.inr rfl))
  (lss_one (ls_set (i := 5) (le_bin op_addA (lp_ex (le_var (pv 5) rfl)) (lp_ex (le_ix ix_seq (lp_ex (le_var (pv 2) rfl)) (lp_ex (le_call (ioA := [0]) (ok_take T) hgu (hr.mono (by decide)) T.g_take T.F_take.kp (bd_take T) tk rfl rfl (la_cons (lp_sl (pv 0) rfl) (la_cons (lp_ex le_int) la_nil)))) ad_ix)) ad_add) nd rfl (by first | exact Or.inl rfl | exact Or.inr rfl))))
  (lss_one (ls_rt (le_var (pv 5) rfl))))))))))))))
theorem bd_new_name (T : Top K mg) : Binds K T.fd_new_name ["store", "taken"] [] := T.F_new_name.binds fun _ _ _ _ _ _ us hl => match us, hl with | [_, _], _ => rfl
set_option maxHeartbeats 4000000 in
theorem ok_new_name (T : Top K mg) : FnG P w K mg base 4 T.f_new_name T.fd_new_name ["store", "taken"] (spM K mg [.io 0, .bor] false m_new_name) :=
  ok_of2 (k := 3) T.F_new_name sc_new_name (lms := [.val, .val, .val, .val]) (mx := [.io 0, .dead, .dead, .dead, .dead, .dead]) (ms' := [.io 0, .dead, .dead, .dead, .dead, .dead]) rfl (by decide) (by decide) (by rfl) (by rfl) (by rfl) (by rfl) (by rfl) fun cdv A outer s H E X hX hgu hr F0 H0 ios W tk hp => by
  subst hX
  have nd := (sc_new_name).nd
  exact (lss_cons (ms1 := [.io 0, .bor, .val, .val, .val, .val]) (ls_set (i := 2) le_str nd rfl (by first | exact Or.inl rfl | exact Or.inr rfl))
  (lss_cons (ms1 := [.io 0, .bor, .val, .val, .val, .val]) (ls_set (i := 3) (le_call (ioA := [0]) (ok_name T) hgu (hr.mono (by decide)) T.g_name T.F_name.kp (bd_name T) tk rfl rfl (la_cons (lp_sl (pv 0) rfl) la_nil)) nd rfl (by first | exact Or.inl rfl | exact Or.inr rfl))
  (lss_cons (ms1 := [.io 0, .bor, .val, .val, .val, .val]) (ls_set (i := 4) (le_sl rfl (lp_ex (le_var (pv 3) rfl)) lr_none (lr_some (lp_ex le_int))) nd rfl (by first | exact Or.inl rfl | exact Or.inr rfl))
  (lss_cons (ms1 := [.io 0, .bor, .val, .val, .val, .val]) (ls_for (msh := [.io 0, .bor, .val, .val, .val, .val]) (msb := [.io 0, .bor, .val, .val, .val, .val]) rfl hp rfl (pi_range1 (by rfl) T.z_range (la_cons (lp_ex (le_bin op_addA (lp_ex (le_B call_lenA ad_len T.z_len (la_cons (lp_sl (pv 1) rfl) la_nil))) (lp_ex le_int) ad_add)) la_nil)) li_rng1 (gt_nm (i := 5) nd rfl (by first | exact Or.inl rfl | exact Or.inr rfl))
  (lss_cons (ms1 := [.io 0, .bor, .val, .val, .val, .val]) (ls_if (lt_cmpR (op_notInA (hu65 hr)) (lp_ex (le_var (pv 3) rfl)) (lp_sl (pv 1) rfl) ad_notIn)
  (lss_one (ls_rt (le_var (pv 3) rfl)))
  lss_nil)
  (lss_one (ls_set (i := 3) (le_bin op_addA (lp_ex (le_bin op_addA (lp_ex (le_var (pv 4) rfl)) (lp_ex (le_ix ix_seq (lp_ex (le_var (pv 2) rfl)) (lp_ex (le_bin op_modN (lp_ex (le_T call_int1 ad_int T.z_int (la_cons (lp_ex (le_bin op_fdivN (lp_ex (le_var (pv 5) rfl)) (lp_ex le_int) ad_div)) la_nil))) (lp_ex le_int) ad_mod)) ad_ix)) ad_add)) (lp_ex (le_ix ix_seq (lp_ex (le_var (pv 2) rfl)) (lp_ex (le_bin op_modN (lp_ex (le_T call_int1 ad_int T.z_int (la_cons (lp_ex (le_var (pv 5) rfl)) la_nil))) (lp_ex le_int) ad_mod)) ad_ix)) ad_add) nd rfl (by first | exact Or.inl rfl | exact Or.inr rfl)))))
  (lss_one (ls_rt (le_var (pv 3) rfl)))))))
theorem bd_fresh (T : Top K mg) : Binds K T.fd_fresh ["store", "many"] [] := T.F_fresh.binds fun _ _ _ _ _ _ us hl => match us, hl with | [_, _], _ => rfl
set_option maxHeartbeats 4000000 in
theorem ok_fresh (T : Top K mg) : FnG P w K mg base 5 T.f_fresh T.fd_fresh ["store", "many"] (spM K mg [.io 0, .bor] true m_fresh) :=
  ok_of2 (k := 4) T.F_fresh sc_fresh (lms := [.own, .val]) (mx := [.io 0, .dead, .dead, .dead]) (ms' := [.io 0, .dead, .dead, .dead]) rfl (by decide) (by decide) (by rfl) (by rfl) (by rfl) (by rfl) (by rfl) fun cdv A outer s H E X hX hgu hr F0 H0 ios W tk hp => by
  subst hX
  have nd := (sc_fresh).nd
  exact (lss_cons (ms1 := [.io 0, .bor, .own, .val]) (ls_setO (i := 2) (lo_lst la_nil) nd rfl (by first | exact Or.inl rfl | exact Or.inr rfl))
  (lss_cons (ms1 := [.io 0, .bor, .own, .val]) (ls_for (msh := [.io 0, .bor, .own, .val]) (msb := [.io 0, .bor, .own, .val]) rfl hp rfl (pi_range1 (by rfl) T.z_range (la_cons (lp_sl (pv 1) rfl) la_nil)) li_rng1 (gt_nm (i := 3) nd rfl (by first | exact Or.inl rfl | exact Or.inr rfl))
  (lss_one (ls_ex (le_append (i := 2) rfl rfl (pv 2) (lp_ex (le_call (ioA := [0]) (ok_new_name T) hgu (hr.mono (by decide)) T.g_new_name T.F_new_name.kp (bd_new_name T) tk rfl rfl (la_cons (lp_sl (pv 0) rfl) (la_cons (lp_sl (pv 2) rfl) la_nil))))))))
  (lss_one (ls_rtV (i := 2) (pv 2) rfl))))
theorem bd_build (T : Top K mg) : Binds K T.fd_build ["spots", "links", "plain", "homes"] [] := T.F_build.binds fun _ _ _ _ _ _ us hl => match us, hl with | [_, _, _, _], _ => rfl
set_option maxHeartbeats 4000000 in
theorem ok_build (T : Top K mg) : FnG P w K mg base 1 T.f_build T.fd_build ["spots", "links", "plain", "homes"] (spM K mg [.bor, .bor, .bor, .bor] false m_build) :=
  ok_of2 (k := 0) T.F_build sc_build (lms := [.own, .own, .val, .own, .val, .val, .val]) (mx := [.dead, .dead, .dead, .dead, .dead, .dead, .dead, .dead, .dead, .dead, .dead]) (ms' := [.dead, .dead, .dead, .dead, .dead, .dead, .dead, .dead, .dead, .dead, .dead]) rfl (by decide) (by decide) (by rfl) (by rfl) (by rfl) (by rfl) (by rfl) fun cdv A outer s H E X hX hgu hr F0 H0 ios W tk hp => by
  subst hX
  have nd := (sc_build).nd
  exact (lss_cons (ms1 := [.bor, .bor, .bor, .bor, .own, .own, .val, .own, .val, .val, .val]) (ls_setO (i := 4) (lo_lst la_nil) nd rfl (by first | exact Or.inl rfl | exact Or.inr rfl))
  (lss_cons (ms1 := [.bor, .bor, .bor, .bor, .own, .own, .val, .own, .val, .val, .val]) (ls_setO (i := 5) (lo_lst la_nil) nd rfl (by first | exact Or.inl rfl | exact Or.inr rfl))
  (lss_cons (ms1 := [.bor, .bor, .bor, .bor, .own, .own, .val, .own, .val, .val, .val]) (ls_for (msh := [.bor, .bor, .bor, .bor, .own, .own, .val, .own, .val, .val, .val]) (msb := [.bor, .bor, .bor, .bor, .own, .own, .val, .own, .val, .val, .val]) rfl hp rfl (pi_any (le_of_lo (lo_B cr_sortedA ado_sortA T.z_sorted (la_cons (lp_sl (pv 1) rfl) la_nil)))) (li_any rfl) (gt_nm (i := 6) nd rfl (by first | exact Or.inl rfl | exact Or.inr rfl))
  (lss_cons (ms1 := [.bor, .bor, .bor, .bor, .own, .own, .val, .own, .val, .val, .val]) (ls_set (i := 9) (le_of_lo (lo_B cr_sortedA ado_sortA T.z_sorted (la_cons (lp_ex (le_of_lo (lo_lst (la_cons (lp_ex (le_ix ix_seq (lp_ex (le_var (pv 6) rfl)) (lp_ex le_int) ad_ix)) (la_cons (lp_ex (le_ix ix_seq (lp_ex (le_var (pv 6) rfl)) (lp_ex le_int) ad_ix)) la_nil))))) la_nil))) nd rfl (by first | exact Or.inl rfl | exact Or.inr rfl))
  (lss_cons (ms1 := [.bor, .bor, .bor, .bor, .own, .own, .val, .own, .val, .val, .val]) (ls_ex (le_append (i := 4) rfl rfl (pv 4) (lp_ex (le_tup (la_cons (lp_ex (le_ix ix_seq (lp_ex (le_var (pv 6) rfl)) (lp_ex le_int) ad_ix)) (la_cons (lp_ex (le_ix ix_seq (lp_ex (le_var (pv 9) rfl)) (lp_ex le_int) ad_ix)) (la_cons (lp_ex (le_ix ix_seq (lp_ex (le_var (pv 9) rfl)) (lp_ex le_int) ad_ix)) la_nil)))))))
  (lss_one (ls_ex (le_append (i := 5) rfl rfl (pv 5) (lp_ex (le_ix ix_seq (lp_ex (le_var (pv 6) rfl)) (lp_ex le_int) ad_ix))))))))
  (lss_cons (ms1 := [.bor, .bor, .bor, .bor, .own, .own, .val, .own, .val, .val, .val]) (ls_setO (i := 7) (lo_lst la_nil) nd rfl (by first | exact Or.inl rfl | exact Or.inr rfl))
  (lss_cons (ms1 := [.bor, .bor, .bor, .bor, .own, .own, .val, .own, .val, .val, .val]) (ls_for (msh := [.bor, .bor, .bor, .bor, .own, .own, .val, .own, .val, .val, .val]) (msb := [.bor, .bor, .bor, .bor, .own, .own, .val, .own, .val, .val, .val]) rfl hp rfl (pi_any (le_of_lo (lo_B cr_sortedA ado_sortA T.z_sorted (la_cons (lp_sl (pv 0) rfl) la_nil)))) (li_any rfl) (gt_nm (i := 8) nd rfl (by first | exact Or.inl rfl | exact Or.inr rfl))
  (lss_cons (ms1 := [.bor, .bor, .bor, .bor, .own, .own, .val, .own, .val, .val, .val]) (ls_set (i := 10) (le_B (cr_sumA rfl) ad_sumA T.z_sum (la_cons (lp_ex (le_of_lo (lo_lc (own := [("pair", 9)]) (msb := [.bor, .bor, .bor, .bor, .own, .own, .val, .own, .val, .val, .val]) rfl rfl nd (pi_any (pv 2)) (li_slot rfl rfl rfl) (blkOk_by (N := ["spots", "links", "plain", "homes", "rows", "points", "row", "crowd", "spot", "pair", "many"]) (sc := defScope s_build) (by decide +kernel)) (fun s H C cl fp => (gt_nm (i := 9) nd rfl (by first | exact Or.inl rfl | exact Or.inr rfl))) (fun s H C cl fp F0 H0 ios pr => (lt_one (lt_cmpR (op_eqD (hu64 hr)) (lp_ex (le_ix ix_seq (lp_ex (le_var (pv 9) rfl)) (lp_ex le_int) ad_ix)) (lp_ex (le_var (pv 8) rfl)) ad_eq))) (fun s H C cl fp F0 H0 ios pr => (le_ix ix_seq (lp_ex (le_var (pv 9) rfl)) (lp_ex le_int) ad_ix))))) la_nil)) nd rfl (by first | exact Or.inl rfl | exact Or.inr rfl))
  (lss_one (ls_ex (le_append (i := 7) rfl rfl (pv 7) (lp_ex (le_tup (la_cons (lp_ex (le_var (pv 10) rfl)) (la_cons (lp_ex (le_T call_tupleF ad_tuple T.z_tuple (la_cons (lp_ex (le_of_lo (lo_B cr_sortedA ado_sortA T.z_sorted (la_cons (lp_ex (le_of_lo (lo_lc (own := [("pair", 9)]) (msb := [.bor, .bor, .bor, .bor, .own, .own, .val, .own, .val, .val, .val]) rfl rfl nd (pi_any (pv 3)) (li_slot rfl rfl rfl) (blkOk_by (N := ["spots", "links", "plain", "homes", "rows", "points", "row", "crowd", "spot", "pair", "many"]) (sc := defScope s_build) (by decide +kernel)) (fun s H C cl fp => (gt_nm (i := 9) nd rfl (by first | exact Or.inl rfl | exact Or.inr rfl))) (fun s H C cl fp F0 H0 ios pr => (lt_one (lt_cmpR (op_eqD (hu64 hr)) (lp_ex (le_ix ix_seq (lp_ex (le_var (pv 9) rfl)) (lp_ex le_int) ad_ix)) (lp_ex (le_var (pv 8) rfl)) ad_eq))) (fun s H C cl fp F0 H0 ios pr => (le_ix ix_seq (lp_ex (le_var (pv 9) rfl)) (lp_ex le_int) ad_ix))))) la_nil)))) la_nil))) la_nil)))))))))
  (lss_one (ls_rt (le_tup (la_cons (lp_ex (le_tup (la_cons (lp_ex (le_T call_tupleF ad_tuple T.z_tuple (la_cons (lp_ex (le_of_lo (lo_B cr_sortedA ado_sortA T.z_sorted (la_cons (lp_sl (pv 0) rfl) la_nil)))) la_nil))) (la_cons (lp_ex (le_T call_tupleF ad_tuple T.z_tuple (la_cons (lp_sl (pv 4) rfl) la_nil))) la_nil)))) (la_cons (lp_ex (le_T call_tupleF ad_tuple T.z_tuple (la_cons (lp_sl (pv 5) rfl) la_nil))) (la_cons (lp_ex (le_T call_tupleF ad_tuple T.z_tuple (la_cons (lp_sl (pv 7) rfl) la_nil))) la_nil)))))))))))
theorem bd_upto (T : Top K mg) : Binds K T.fd_upto ["store", "low", "high"] [] := T.F_upto.binds fun _ _ _ _ _ _ us hl => match us, hl with | [_, _, _], _ => rfl
set_option maxHeartbeats 4000000 in
theorem ok_upto (T : Top K mg) : FnG P w K mg base 3 T.f_upto T.fd_upto ["store", "low", "high"] (spM K mg [.io 0, .val, .bor] false m_upto) :=
  ok_of2 (k := 2) T.F_upto sc_upto (lms := [.val]) (mx := [.io 0, .dead, .dead, .dead]) (ms' := [.io 0, .dead, .dead, .dead]) rfl (by decide) (by decide) (by rfl) (by rfl) (by rfl) (by rfl) (by rfl) fun cdv A outer s H E X hX hgu hr F0 H0 ios W tk hp => by
  subst hX
  have nd := (sc_upto).nd
  exact (lss_cons (ms1 := [.io 0, .val, .bor, .val]) (ls_set (i := 3) (le_call (ioA := [0]) (ok_take T) hgu (hr.mono (by decide)) T.g_take T.F_take.kp (bd_take T) tk rfl rfl (la_cons (lp_sl (pv 0) rfl) (la_cons (lp_ex le_int) la_nil))) nd rfl (by first | exact Or.inl rfl | exact Or.inr rfl))
  (lss_cons (ms1 := [.io 0, .val, .bor, .val]) (ls_if (lt_cmpR (op_eqD (hu64 hr)) (lp_ex (le_var (pv 3) rfl)) (lp_ex le_int) ad_eq)
  (lss_one (ls_rt (le_var (pv 1) rfl)))
  lss_nil)
  (lss_cons (ms1 := [.io 0, .val, .bor, .val]) (ls_if (lt_cmpR (op_eqD (hu64 hr)) (lp_ex (le_var (pv 3) rfl)) (lp_ex le_int) ad_eq)
  (lss_one (ls_rt (le_B (call_max2 rfl) ad_max2 T.z_max (la_cons (lp_ex (le_var (pv 1) rfl)) (la_cons (lp_sl (pv 2) rfl) la_nil)))))
  lss_nil)
  (lss_one (ls_rt (le_call (ioA := [0]) (ok_range T) hgu (hr.mono (by decide)) T.g_range T.F_range.kp (bd_range T) tk rfl rfl (la_cons (lp_sl (pv 0) rfl) (la_cons (lp_ex (le_var (pv 1) rfl)) (la_cons (lp_sl (pv 2) rfl) la_nil)))))))))
theorem bd_some (T : Top K mg) : Binds K T.fd_some ["store", "row", "many"] [] := T.F_some.binds fun _ _ _ _ _ _ us hl => match us, hl with | [_, _, _], _ => rfl
set_option maxHeartbeats 4000000 in
theorem ok_some (T : Top K mg) : FnG P w K mg base 2 T.f_some T.fd_some ["store", "row", "many"] (spM K mg [.io 0, .bor, .bor] true m_some) :=
  ok_of2 (k := 1) T.F_some sc_some (lms := [.own, .own, .val]) (mx := [.io 0, .dead, .dead, .dead, .dead, .dead]) (ms' := [.io 0, .dead, .dead, .dead, .dead, .dead]) rfl (by decide) (by decide) (by rfl) (by rfl) (by rfl) (by rfl) (by rfl) fun cdv A outer s H E X hX hgu hr F0 H0 ios W tk hp => by
  subst hX
  have nd := (sc_some).nd
  exact (lss_cons (ms1 := [.io 0, .bor, .bor, .own, .own, .val]) (ls_setO (i := 3) (lo_T call_list_of ado_list T.z_list (la_cons (lp_sl (pv 1) rfl) la_nil)) nd rfl (by first | exact Or.inl rfl | exact Or.inr rfl))
  (lss_cons (ms1 := [.io 0, .bor, .bor, .own, .own, .val]) (ls_setO (i := 4) (lo_lst la_nil) nd rfl (by first | exact Or.inl rfl | exact Or.inr rfl))
  (lss_cons (ms1 := [.io 0, .bor, .bor, .own, .own, .val]) (ls_for (msh := [.io 0, .bor, .bor, .own, .own, .val]) (msb := [.io 0, .bor, .bor, .own, .own, .val]) rfl hp rfl (pi_range1 (by rfl) T.z_range (la_cons (lp_ex (le_B (call_min2 rfl) ad_min2 T.z_min (la_cons (lp_sl (pv 2) rfl) (la_cons (lp_ex (le_B call_lenA ad_len T.z_len (la_cons (lp_sl (pv 3) rfl) la_nil))) la_nil)))) la_nil)) li_rng1 (gt_nm (i := 5) nd rfl (by first | exact Or.inl rfl | exact Or.inr rfl))
  (lss_one (ls_ex (le_append (i := 4) rfl rfl (pv 4) (lp_ex (le_popA (i := 3) rfl rfl (pv 3) (lp_ex (le_call (ioA := [0]) (ok_take T) hgu (hr.mono (by decide)) T.g_take T.F_take.kp (bd_take T) tk rfl rfl (la_cons (lp_sl (pv 0) rfl) (la_cons (lp_ex (le_B call_lenA ad_len T.z_len (la_cons (lp_sl (pv 3) rfl) la_nil))) la_nil))))))))))
  (lss_one (ls_rtV (i := 4) (pv 4) rfl)))))
theorem bd_drawn (T : Top K mg) : Binds K T.fd_drawn ["store"] [] := T.F_drawn.binds fun _ _ _ _ _ _ us hl => match us, hl with | [_], _ => rfl
set_option maxHeartbeats 4000000 in
theorem ok_drawn (T : Top K mg) : FnG P w K mg base 6 T.f_drawn T.fd_drawn ["store"] (spM K mg [.io 0] false m_drawn) :=
  ok_of2 (k := 5) T.F_drawn sc_drawn (lms := [.val, .val, .val, .val, .val, .own, .val, .own, .val, .val, .val, .val, .val]) (mx := [.io 0, .dead, .dead, .dead, .dead, .dead, .dead, .dead, .dead, .dead, .dead, .dead, .dead, .dead]) (ms' := [.io 0, .dead, .dead, .dead, .dead, .dead, .dead, .dead, .dead, .dead, .dead, .dead, .dead, .dead]) rfl (by decide) (by decide) (by rfl) (by rfl) (by rfl) (by rfl) (by rfl) fun cdv A outer s H E X hX hgu hr F0 H0 ios W tk hp => by
  subst hX
  have nd := (sc_drawn).nd
  exact (lss_cons (ms1 := [.io 0, .val, .val, .val, .val, .val, .own, .val, .own, .val, .val, .val, .val, .val]) (ls_set (i := 1) (le_of_lo (lo_lst (la_cons (lp_ex (le_tup (la_cons (lp_ex le_int) (la_cons (lp_ex le_int) (la_cons (lp_ex le_int) la_nil))))) (la_cons (lp_ex (le_tup (la_cons (lp_ex le_int) (la_cons (lp_ex le_int) (la_cons (lp_ex le_int) la_nil))))) (la_cons (lp_ex (le_tup (la_cons (lp_ex le_int) (la_cons (lp_ex le_int) (la_cons (lp_ex le_int) la_nil))))) (la_cons (lp_ex (le_tup (la_cons (lp_ex le_int) (la_cons (lp_ex le_int) (la_cons (lp_ex le_int) la_nil))))) (la_cons (lp_ex (le_tup (la_cons (lp_ex le_int) (la_cons (lp_ex le_int) (la_cons (lp_ex le_int) la_nil))))) (la_cons (lp_ex (le_tup (la_cons (lp_ex le_int) (la_cons (lp_ex le_int) (la_cons (lp_ex le_int) la_nil))))) (la_cons (lp_ex (le_tup (la_cons (lp_ex le_int) (la_cons (lp_ex le_int) (la_cons (lp_ex le_int) la_nil))))) (la_cons (lp_ex (le_tup (la_cons (lp_ex le_int) (la_cons (lp_ex le_int) (la_cons (lp_ex le_int) la_nil))))) la_nil)))))))))) nd rfl (by first | exact Or.inl rfl | exact Or.inr rfl))
  (lss_cons (ms1 := [.io 0, .val, .val, .val, .val, .val, .own, .val, .own, .val, .val, .val, .val, .val]) (ls_set (i := 2) (le_call (ioA := [0]) (ok_one T) hgu (hr.mono (by decide)) T.g_one T.F_one.kp (bd_one T) tk rfl rfl (la_cons (lp_sl (pv 0) rfl) (la_cons (lp_ex (le_var (pv 1) rfl)) la_nil))) nd rfl (by first | exact Or.inl rfl | exact Or.inr rfl))
  (lss_cons (ms1 := [.io 0, .val, .val, .val, .val, .val, .own, .val, .own, .val, .val, .val, .val, .val]) (ls_set (i := 3) (le_call (ioA := [0]) (ok_take T) hgu (hr.mono (by decide)) T.g_take T.F_take.kp (bd_take T) tk rfl rfl (la_cons (lp_sl (pv 0) rfl) (la_cons (lp_ex le_int) la_nil))) nd rfl (by first | exact Or.inl rfl | exact Or.inr rfl))
  (lss_cons (ms1 := [.io 0, .val, .val, .val, .val, .val, .own, .val, .own, .val, .val, .val, .val, .val]) (ls_set (i := 4) (le_T call_int1 ad_int T.z_int (la_cons (lp_ex (le_cmp op_gtC (lp_ex (le_var (pv 3) rfl)) (lp_ex le_int) ad_cmp)) la_nil)) nd rfl (by first | exact Or.inl rfl | exact Or.inr rfl))
  (lss_cons (ms1 := [.io 0, .val, .val, .val, .val, .val, .own, .val, .own, .val, .val, .val, .val, .val]) (ls_set (i := 5) (le_of_lo (lo_call (ioA := [0]) (ok_fresh T) hgu (hr.mono (by decide)) T.g_fresh T.F_fresh.kp (bd_fresh T) tk rfl rfl (la_cons (lp_sl (pv 0) rfl) (la_cons (lp_ex (le_call (ioA := [0]) (ok_upto T) hgu (hr.mono (by decide)) T.g_upto T.F_upto.kp (bd_upto T) tk rfl rfl (la_cons (lp_sl (pv 0) rfl) (la_cons (lp_ex le_int) (la_cons (lp_ex (le_ix ix_seq (lp_ex (le_var (pv 2) rfl)) (lp_ex le_int) ad_ix)) la_nil))))) la_nil)))) nd rfl (by first | exact Or.inl rfl | exact Or.inr rfl))
  (lss_cons (ms1 := [.io 0, .val, .val, .val, .val, .val, .own, .val, .own, .val, .val, .val, .val, .val]) (ls_setO (i := 6) (lo_lst la_nil) nd rfl (by first | exact Or.inl rfl | exact Or.inr rfl))
  (lss_cons (ms1 := [.io 0, .val, .val, .val, .val, .val, .own, .val, .own, .val, .val, .val, .val, .val]) (ls_for (msh := [.io 0, .val, .val, .val, .val, .val, .own, .val, .own, .val, .val, .val, .val, .val]) (msb := [.io 0, .val, .val, .val, .val, .val, .own, .val, .own, .val, .val, .val, .val, .val]) rfl hp rfl (pi_any (le_of_lo (lo_call (ioA := [0]) (ok_fresh T) hgu (hr.mono (by decide)) T.g_fresh T.F_fresh.kp (bd_fresh T) tk rfl rfl (la_cons (lp_sl (pv 0) rfl) (la_cons (lp_ex (le_call (ioA := [0]) (ok_upto T) hgu (hr.mono (by decide)) T.g_upto T.F_upto.kp (bd_upto T) tk rfl rfl (la_cons (lp_sl (pv 0) rfl) (la_cons (lp_ex (le_var (pv 4) rfl)) (la_cons (lp_ex (le_ix ix_seq (lp_ex (le_var (pv 2) rfl)) (lp_ex le_int) ad_ix)) la_nil))))) la_nil))))) (li_any rfl) (gt_nm (i := 7) nd rfl (by first | exact Or.inl rfl | exact Or.inr rfl))
  (lss_cons (ms1 := [.io 0, .val, .val, .val, .val, .val, .own, .val, .own, .val, .val, .val, .val, .val]) (ls_set (i := 11) (le_of_lo (lo_call (ioA := [0]) (ok_some T) hgu (hr.mono (by decide)) T.g_some T.F_some.kp (bd_some T) tk rfl rfl (la_cons (lp_sl (pv 0) rfl) (la_cons (lp_ex (le_var (pv 5) rfl)) (la_cons (lp_ex le_int) la_nil))))) nd rfl (by first | exact Or.inl rfl | exact Or.inr rfl))
  (lss_cons (ms1 := [.io 0, .val, .val, .val, .val, .val, .own, .val, .own, .val, .val, .val, .val, .val]) (ls_if (lt_cmpR (op_eqD (hu64 hr)) (lp_ex (le_var (pv 3) rfl)) (lp_ex le_int) ad_eq)
  (lss_one (ls_set (i := 11) (le_of_lo (lo_call (ioA := [0]) (ok_some T) hgu (hr.mono (by decide)) T.g_some T.F_some.kp (bd_some T) tk rfl rfl (la_cons (lp_sl (pv 0) rfl) (la_cons (lp_ex (le_sl rfl (lp_ex (le_var (pv 5) rfl)) lr_none (lr_some (lp_ex le_int)))) (la_cons (lp_ex le_int) la_nil))))) nd rfl (by first | exact Or.inl rfl | exact Or.inr rfl)))
  lss_nil)
  (lss_one (ls_ex (le_append (i := 6) rfl rfl (pv 6) (lp_ex (le_tup (la_cons (lp_ex (le_var (pv 7) rfl)) (la_cons (lp_ex (le_ix ix_seq (lp_ex (le_var (pv 11) rfl)) (lp_ex le_int) ad_ix)) (la_cons (lp_ex (le_ix ix_seq (lp_ex (le_var (pv 11) rfl)) (lp_ex le_int) ad_ix)) la_nil)))))))))))
  (lss_cons (ms1 := [.io 0, .val, .val, .val, .val, .val, .own, .val, .own, .val, .val, .val, .val, .val]) (ls_setO (i := 8) (lo_lc (own := [("k", 12)]) (msb := [.io 0, .val, .val, .val, .val, .val, .own, .val, .own, .val, .val, .val, .val, .val]) rfl rfl nd (pi_range1 (by rfl) T.z_range (la_cons (lp_ex (le_call (ioA := [0]) (ok_upto T) hgu (hr.mono (by decide)) T.g_upto T.F_upto.kp (bd_upto T) tk rfl rfl (la_cons (lp_sl (pv 0) rfl) (la_cons (lp_ex (le_var (pv 4) rfl)) (la_cons (lp_ex (le_ix ix_seq (lp_ex (le_var (pv 2) rfl)) (lp_ex le_int) ad_ix)) la_nil))))) la_nil)) li_rng1 (blkOk_by (N := ["store", "menu", "sizes", "kind", "low", "spots", "links", "label", "stands", "names", "homes", "pair", "k", "spot"]) (sc := defScope s_drawn) (by decide +kernel)) (fun s H C cl fp => (gt_nm (i := 12) nd rfl (by first | exact Or.inl rfl | exact Or.inr rfl))) (fun s H C cl fp F0 H0 ios pr => lt_nil) (fun s H C cl fp F0 H0 ios pr => (le_call (ioA := [0]) (ok_one T) hgu (hr.mono (by decide)) T.g_one T.F_one.kp (bd_one T) takes0 rfl rfl (la_cons (lp_sl (pv 0) rfl) (la_cons (lp_ex (le_var (pv 5) rfl)) la_nil))))) nd rfl (by first | exact Or.inl rfl | exact Or.inr rfl))
  (lss_cons (ms1 := [.io 0, .val, .val, .val, .val, .val, .own, .val, .own, .val, .val, .val, .val, .val]) (ls_if (lt_cmpR (op_eqD (hu64 hr)) (lp_ex (le_var (pv 4) rfl)) (lp_ex le_int) ad_eq)
  (lss_one (ls_sub (i := 8) rfl rfl (pv 8) (lp_ex le_int) (le_ix ix_seq (lp_ex (le_ix ix_seq (lp_sl (pv 6) rfl) (lp_ex le_int) ad_ix)) (lp_ex le_int) ad_ix)))
  lss_nil)
  (lss_cons (ms1 := [.io 0, .val, .val, .val, .val, .val, .own, .val, .own, .val, .val, .val, .val, .val]) (ls_if (lt_cmpR (op_eqD (hu64 hr)) (lp_ex (le_var (pv 3) rfl)) (lp_ex le_int) ad_eq)
  (lss_one (ls_setO (i := 8) (lo_lcL (i := 8) (own := [("spot", 13)]) (msb := [.io 0, .val, .val, .val, .val, .val, .own, .val, .lk 1, .val, .val, .val, .val, .val]) (pv 8) rfl rfl rfl nd (blkOk_by (N := ["store", "menu", "sizes", "kind", "low", "spots", "links", "label", "stands", "names", "homes", "pair", "k", "spot"]) (sc := defScope s_drawn) (by decide +kernel)) (fun s H C cl fp => (gt_nm (i := 13) nd rfl (by first | exact Or.inl rfl | exact Or.inr rfl))) (fun s H C cl fp F0 H0 ios pr => lt_nil) (fun s H C cl fp F0 H0 ios pr => (le_ix ix_seq (lp_sl (pv 8) rfl) (lp_ex le_int) ad_ix))) nd rfl (by first | exact Or.inl rfl | exact Or.inr rfl)))
  lss_nil)
  (lss_cons (ms1 := [.io 0, .val, .val, .val, .val, .val, .own, .val, .own, .val, .val, .val, .val, .val]) (ls_set (i := 9) (le_of_lo (lo_call (ioA := [0]) (ok_fresh T) hgu (hr.mono (by decide)) T.g_fresh T.F_fresh.kp (bd_fresh T) tk rfl rfl (la_cons (lp_sl (pv 0) rfl) (la_cons (lp_ex (le_call (ioA := [0]) (ok_upto T) hgu (hr.mono (by decide)) T.g_upto T.F_upto.kp (bd_upto T) tk rfl rfl (la_cons (lp_sl (pv 0) rfl) (la_cons (lp_ex le_int) (la_cons (lp_ex (le_B call_lenA ad_len T.z_len (la_cons (lp_sl (pv 8) rfl) la_nil))) la_nil))))) la_nil)))) nd rfl (by first | exact Or.inl rfl | exact Or.inr rfl))
  (lss_cons (ms1 := [.io 0, .val, .val, .val, .val, .val, .own, .val, .own, .val, .val, .val, .val, .val]) (ls_frzP (i := 10) (ls_setLc (j := 10) (own := [("k", 12)]) (msb := [.io 0, .val, .val, .val, .val, .val, .own, .val, .own, .val, .val, .val, .val, .val]) rfl rfl nd rfl rfl (pi_range1 (by rfl) T.z_range (la_cons (lp_ex (le_B call_lenA ad_len T.z_len (la_cons (lp_ex (le_var (pv 9) rfl)) la_nil))) la_nil)) li_rng1 (blkOk_by (N := ["store", "menu", "sizes", "kind", "low", "spots", "links", "label", "stands", "names", "homes", "pair", "k", "spot"]) (sc := defScope s_drawn) (by decide +kernel)) (fun s H C cl fp => (gt_nm (i := 12) nd rfl (by first | exact Or.inl rfl | exact Or.inr rfl))) (fun s H C cl fp F0 H0 ios pr => lt_nil) (fun s H C cl fp F0 H0 ios pr => (le_tup (la_cons (lp_ex (le_ix ix_seq (lp_ex (le_var (pv 9) rfl)) (lp_ex (le_var (pv 12) rfl)) ad_ix)) (la_cons (lp_ex (le_ix ix_seq (lp_sl (pv 8) rfl) (lp_ex (le_var (pv 12) rfl)) ad_ix)) la_nil))))) rfl)
  (lss_one (ls_rt (le_call (ioA := []) (ok_build T) hgu (hr.mono (by decide)) T.g_build T.F_build.kp (bd_build T) tk rfl rfl (la_cons (lp_ex (le_var (pv 5) rfl)) (la_cons (lp_sl (pv 6) rfl) (la_cons (lp_ex (le_of_lo (lo_lc (own := [("spot", 13)]) (msb := [.io 0, .val, .val, .val, .val, .val, .own, .val, .own, .val, .val, .val, .val, .val]) rfl rfl nd (pi_any (le_sl rfl (lp_sl (pv 8) rfl) (lr_some (lp_ex (le_B call_lenA ad_len T.z_len (la_cons (lp_ex (le_var (pv 9) rfl)) la_nil)))) lr_none)) (li_any rfl) (blkOk_by (N := ["store", "menu", "sizes", "kind", "low", "spots", "links", "label", "stands", "names", "homes", "pair", "k", "spot"]) (sc := defScope s_drawn) (by decide +kernel)) (fun s H C cl fp => (gt_nm (i := 13) nd rfl (by first | exact Or.inl rfl | exact Or.inr rfl))) (fun s H C cl fp F0 H0 ios pr => lt_nil) (fun s H C cl fp F0 H0 ios pr => (le_tup (la_cons (lp_ex (le_var (pv 13) rfl)) (la_cons (lp_ex le_int) la_nil))))))) (la_cons (lp_ex (le_var (pv 10) rfl)) la_nil)))))))))))))))))))
theorem bd_same (T : Top K mg) : Binds K T.fd_same ["told", "right"] [] := T.F_same.binds fun _ _ _ _ _ _ us hl => match us, hl with | [_, _], _ => rfl
set_option maxHeartbeats 4000000 in
theorem ok_same (T : Top K mg) : FnG P w K mg base 1 T.f_same T.fd_same ["told", "right"] (spM K mg [.val, .val] false m_same) :=
  ok_of2 (k := 0) T.F_same sc_same (lms := [.own, .val, .val, .val, .val, .val]) (mx := [.dead, .dead, .dead, .dead, .dead, .dead, .dead, .dead]) (ms' := [.dead, .dead, .dead, .dead, .dead, .dead, .dead, .dead]) rfl (by decide) (by decide) (by rfl) (by rfl) (by rfl) (by rfl) (by rfl) fun cdv A outer s H E X hX hgu hr F0 H0 ios W tk hp => by
  subst hX
  have nd := (sc_same).nd
  exact (lss_cons (ms1 := [.val, .val, .own, .val, .val, .val, .val, .val]) (ls_setO (i := 2) (lo_lst (la_cons (lp_ex (le_tup (la_cons (lp_ex (le_var (pv 0) rfl)) (la_cons (lp_ex (le_var (pv 1) rfl)) la_nil)))) la_nil)) nd rfl (by first | exact Or.inl rfl | exact Or.inr rfl))
  (lss_cons (ms1 := [.val, .val, .own, .val, .val, .val, .val, .val]) (ls_for (msh := [.val, .val, .own, .val, .val, .val, .val, .val]) (msb := [.val, .val, .own, .val, .val, .val, .val, .val]) rfl hp rfl (pi_range1 (by rfl) T.z_range (la_cons (lp_ex le_int) la_nil)) li_rng1 (gt_nm (i := 3) nd rfl (by first | exact Or.inl rfl | exact Or.inr rfl))
  (lss_cons (ms1 := [.val, .val, .own, .val, .val, .val, .val, .val]) (ls_if (lt_cmpR (op_eqD (hu64 hr)) (lp_ex (le_B call_lenA ad_len T.z_len (la_cons (lp_sl (pv 2) rfl) la_nil))) (lp_ex le_int) ad_eq)
  (lss_one (ls_rt le_bl))
  lss_nil)
  (lss_cons (ms1 := [.val, .val, .own, .val, .val, .val, .val, .val]) (ls_set (i := 4) (le_pop (i := 2) rfl rfl (pv 2)) nd rfl (by first | exact Or.inl rfl | exact Or.inr rfl))
  (lss_cons (ms1 := [.val, .val, .own, .val, .val, .val, .val, .val]) (ls_set (i := 5) (le_ix ix_seq (lp_ex (le_var (pv 4) rfl)) (lp_ex le_int) ad_ix) nd rfl (by first | exact Or.inl rfl | exact Or.inr rfl))
  (lss_cons (ms1 := [.val, .val, .own, .val, .val, .val, .val, .val]) (ls_set (i := 6) (le_ix ix_seq (lp_ex (le_var (pv 4) rfl)) (lp_ex le_int) ad_ix) nd rfl (by first | exact Or.inl rfl | exact Or.inr rfl))
  (lss_one (ls_if (PW.pt (lw_or (lt_tru rfl (lp_ex (le_isi rfl kit_tup (lp_ex (le_var (pv 6) rfl)) (pe_bltn (by rfl) T.z_tuple (by decide +kernel) rfl) T.z_isinstance))) (lw_or1 (lt_tru rfl (lp_ex (le_isi rfl kit_lst (lp_ex (le_var (pv 6) rfl)) (pe_bltn (by rfl) T.z_list (by decide +kernel) rfl) T.z_isinstance))))))
  (lss_cons (ms1 := [.val, .val, .own, .val, .val, .val, .val, .val]) (ls_if (PW.pt (lw_or (lt_cmpR (op_neD (hu64 hr)) (lp_ex (le_isi rfl kit_tup (lp_ex (le_var (pv 6) rfl)) (pe_bltn (by rfl) T.z_tuple (by decide +kernel) rfl) T.z_isinstance)) (lp_ex (le_isi rfl kit_tup (lp_ex (le_var (pv 5) rfl)) (pe_bltn (by rfl) T.z_tuple (by decide +kernel) rfl) T.z_isinstance)) ad_ne) (lw_or1 (lt_cmpR (op_neD (hu64 hr)) (lp_ex (le_isi rfl kit_lst (lp_ex (le_var (pv 6) rfl)) (pe_bltn (by rfl) T.z_list (by decide +kernel) rfl) T.z_isinstance)) (lp_ex (le_isi rfl kit_lst (lp_ex (le_var (pv 5) rfl)) (pe_bltn (by rfl) T.z_list (by decide +kernel) rfl) T.z_isinstance)) ad_ne))))
  (lss_one (ls_rt le_bl))
  lss_nil)
  (lss_cons (ms1 := [.val, .val, .own, .val, .val, .val, .val, .val]) (ls_if (lt_cmpR (op_neD (hu64 hr)) (lp_ex (le_B call_lenA ad_len T.z_len (la_cons (lp_ex (le_var (pv 5) rfl)) la_nil))) (lp_ex (le_B call_lenA ad_len T.z_len (la_cons (lp_ex (le_var (pv 6) rfl)) la_nil))) ad_ne)
  (lss_one (ls_rt le_bl))
  lss_nil)
  (lss_one (ls_for (msh := [.val, .val, .own, .val, .val, .val, .val, .val]) (msb := [.val, .val, .own, .val, .val, .val, .val, .val]) rfl hp rfl (pi_range1 (by rfl) T.z_range (la_cons (lp_ex (le_B call_lenA ad_len T.z_len (la_cons (lp_ex (le_var (pv 6) rfl)) la_nil))) la_nil)) li_rng1 (gt_nm (i := 7) nd rfl (by first | exact Or.inl rfl | exact Or.inr rfl))
  (lss_one (ls_ex (le_append (i := 2) rfl rfl (pv 2) (lp_ex (le_tup (la_cons (lp_ex (le_ix ix_seq (lp_ex (le_var (pv 5) rfl)) (lp_ex (le_var (pv 7) rfl)) ad_ix)) (la_cons (lp_ex (le_ix ix_seq (lp_ex (le_var (pv 6) rfl)) (lp_ex (le_var (pv 7) rfl)) ad_ix)) la_nil)))))))))))
  (lss_one (ls_if (lt_tru rfl (lp_ex (le_isi rfl kit_str (lp_ex (le_var (pv 6) rfl)) (pe_bltn (by rfl) T.z_str (by decide +kernel) rfl) T.z_isinstance)))
  (lss_one (ls_if (PW.pt (lw_or (lt_not (lt_tru rfl (lp_ex (le_isi rfl kit_str (lp_ex (le_var (pv 5) rfl)) (pe_bltn (by rfl) T.z_str (by decide +kernel) rfl) T.z_isinstance)))) (lw_or1 (lt_cmpR (op_neD (hu64 hr)) (lp_ex (le_var (pv 5) rfl)) (lp_ex (le_var (pv 6) rfl)) ad_ne))))
  (lss_one (ls_rt le_bl))
  lss_nil))
  (lss_one (ls_if (lt_cmpR op_isC (lp_ex (le_var (pv 6) rfl)) (lp_ex le_non) ad_is)
  (lss_one (ls_if (lt_cmpR op_isNotC (lp_ex (le_var (pv 5) rfl)) (lp_ex le_non) ad_isNot)
  (lss_one (ls_rt le_bl))
  lss_nil))
  (lss_one (ls_if (PW.pt (lw_or (lt_cmpR op_isC (lp_ex (le_var (pv 6) rfl)) (lp_ex le_bl) ad_is) (lw_or1 (lt_cmpR op_isC (lp_ex (le_var (pv 6) rfl)) (lp_ex le_bl) ad_is))))
  (lss_one (ls_if (PW.pt (lw_or (PW.pt (lw_and (lt_cmpR op_isC (lp_ex (le_var (pv 6) rfl)) (lp_ex le_bl) ad_is) (lw_and1 (lt_cmpR op_isNotC (lp_ex (le_var (pv 5) rfl)) (lp_ex le_bl) ad_isNot)))) (lw_or1 (PW.pt (lw_and (lt_cmpR op_isC (lp_ex (le_var (pv 6) rfl)) (lp_ex le_bl) ad_is) (lw_and1 (lt_cmpR op_isNotC (lp_ex (le_var (pv 5) rfl)) (lp_ex le_bl) ad_isNot)))))))
  (lss_one (ls_rt le_bl))
  lss_nil))
  (lss_one (ls_if (PW.pt (lw_or (lt_not (lt_tru rfl (lp_ex (le_isi rfl kit_int (lp_ex (le_var (pv 5) rfl)) (pe_bltn (by rfl) T.z_int (by decide +kernel) rfl) T.z_isinstance)))) (lw_or (lt_tru rfl (lp_ex (le_isi rfl kit_bool (lp_ex (le_var (pv 5) rfl)) (pe_bltn (by rfl) T.z_bool (by decide +kernel) rfl) T.z_isinstance))) (lw_or1 (lt_cmpR (op_neD (hu64 hr)) (lp_ex (le_var (pv 5) rfl)) (lp_ex (le_var (pv 6) rfl)) ad_ne)))))
  (lss_one (ls_rt le_bl))
  lss_nil)))))))))))))))
  (lss_one (ls_rt (le_cmp (op_eqD (hu64 hr)) (lp_ex (le_B call_lenA ad_len T.z_len (la_cons (lp_sl (pv 2) rfl) la_nil))) (lp_ex le_int) ad_eq)))))
theorem bd_tail (T : Top K mg) : Binds K T.fd_tail ["world", "k"] [] := T.F_tail.binds fun _ _ _ _ _ _ us hl => match us, hl with | [_, _], _ => rfl
set_option maxHeartbeats 4000000 in
theorem ok_tail (T : Top K mg) : FnG P w K mg base 1 T.f_tail T.fd_tail ["world", "k"] (spM K mg [.bor, .bor] false m_tail) :=
  ok_of2 (k := 0) T.F_tail sc_tail (lms := [.val]) (mx := [.dead, .dead, .dead]) (ms' := [.dead, .dead, .dead]) rfl (by decide) (by decide) (by rfl) (by rfl) (by rfl) (by rfl) (by rfl) fun cdv A outer s H E X hX hgu hr F0 H0 ios W tk hp => by
  subst hX
  have nd := (sc_tail).nd
  exact (lss_cons (ms1 := [.bor, .bor, .val]) (ls_set (i := 2) (le_ix ix_seq (lp_ex (le_ix ix_seq (lp_ex (le_ix ix_seq (lp_sl (pv 0) rfl) (lp_ex le_int) ad_ix)) (lp_ex le_int) ad_ix)) (lp_sl (pv 1) rfl) ad_ix) nd rfl (by first | exact Or.inl rfl | exact Or.inr rfl))
  (lss_cons (ms1 := [.bor, .bor, .val]) (ls_if (lt_cmpR (op_eqD (hu64 hr)) (lp_ex (le_ix ix_seq (lp_ex (le_ix ix_seq (lp_sl (pv 0) rfl) (lp_ex le_int) ad_ix)) (lp_sl (pv 1) rfl) ad_ix)) (lp_ex (le_ix ix_seq (lp_ex (le_var (pv 2) rfl)) (lp_ex le_int) ad_ix)) ad_eq)
  (lss_one (ls_rt (le_ix ix_seq (lp_ex (le_var (pv 2) rfl)) (lp_ex le_int) ad_ix)))
  lss_nil)
  (lss_one (ls_rt (le_ix ix_seq (lp_ex (le_var (pv 2) rfl)) (lp_ex le_int) ad_ix)))))
theorem bd_links (T : Top K mg) : Binds K T.fd_links ["world"] [] := T.F_links.binds fun _ _ _ _ _ _ us hl => match us, hl with | [_], _ => rfl
set_option maxHeartbeats 4000000 in
theorem ok_links (T : Top K mg) : FnG P w K mg base 2 T.f_links T.fd_links ["world"] (spM K mg [.bor] true m_links) :=
  ok_of2 (k := 1) T.F_links sc_links (lms := [.val]) (mx := [.dead, .dead]) (ms' := [.dead, .dead]) rfl (by decide) (by decide) (by rfl) (by rfl) (by rfl) (by rfl) (by rfl) fun cdv A outer s H E X hX hgu hr F0 H0 ios W tk hp => by
  subst hX
  have nd := (sc_links).nd
  exact (lss_one (ls_rtO (lo_lc (own := [("k", 1)]) (msb := [.bor, .val]) rfl rfl nd (pi_range1 (by rfl) T.z_range (la_cons (lp_ex (le_B call_lenA ad_len T.z_len (la_cons (lp_ex (le_ix ix_seq (lp_sl (pv 0) rfl) (lp_ex le_int) ad_ix)) la_nil))) la_nil)) li_rng1 (blkOk_by (N := ["world", "k"]) (sc := defScope s_links) (by decide +kernel)) (fun s H C cl fp => (gt_nm (i := 1) nd rfl (by first | exact Or.inl rfl | exact Or.inr rfl))) (fun s H C cl fp F0 H0 ios pr => lt_nil) (fun s H C cl fp F0 H0 ios pr => (le_tup (la_cons (lp_ex (le_ix ix_seq (lp_ex (le_ix ix_seq (lp_ex (le_ix ix_seq (lp_ex (le_ix ix_seq (lp_sl (pv 0) rfl) (lp_ex le_int) ad_ix)) (lp_ex le_int) ad_ix)) (lp_ex (le_var (pv 1) rfl)) ad_ix)) (lp_ex le_int) ad_ix)) (la_cons (lp_ex (le_call (ioA := []) (ok_tail T) hgu (hr.mono (by decide)) T.g_tail T.F_tail.kp (bd_tail T) takes0 rfl rfl (la_cons (lp_sl (pv 0) rfl) (la_cons (lp_ex (le_var (pv 1) rfl)) la_nil)))) (la_cons (lp_ex (le_ix ix_seq (lp_ex (le_ix ix_seq (lp_sl (pv 0) rfl) (lp_ex le_int) ad_ix)) (lp_ex (le_var (pv 1) rfl)) ad_ix)) la_nil))))))))
theorem bd_plain (T : Top K mg) : Binds K T.fd_plain ["world"] [] := T.F_plain.binds fun _ _ _ _ _ _ us hl => match us, hl with | [_], _ => rfl
set_option maxHeartbeats 4000000 in
theorem ok_plain (T : Top K mg) : FnG P w K mg base 1 T.f_plain T.fd_plain ["world"] (spM K mg [.bor] true m_plain) :=
  ok_of2 (k := 0) T.F_plain sc_plain (lms := [.val]) (mx := [.dead, .dead]) (ms' := [.dead, .dead]) rfl (by decide) (by decide) (by rfl) (by rfl) (by rfl) (by rfl) (by rfl) fun cdv A outer s H E X hX hgu hr F0 H0 ios W tk hp => by
  subst hX
  have nd := (sc_plain).nd
  exact (lss_one (ls_rtO (lo_lc (own := [("k", 1)]) (msb := [.bor, .val]) rfl rfl nd (pi_range1 (by rfl) T.z_range (la_cons (lp_ex (le_B call_lenA ad_len T.z_len (la_cons (lp_ex (le_ix ix_seq (lp_sl (pv 0) rfl) (lp_ex le_int) ad_ix)) la_nil))) la_nil)) li_rng1 (blkOk_by (N := ["world", "k"]) (sc := defScope s_plain) (by decide +kernel)) (fun s H C cl fp => (gt_nm (i := 1) nd rfl (by first | exact Or.inl rfl | exact Or.inr rfl))) (fun s H C cl fp F0 H0 ios pr => lt_nil) (fun s H C cl fp F0 H0 ios pr => (le_tup (la_cons (lp_ex (le_ix ix_seq (lp_ex (le_ix ix_seq (lp_ex (le_ix ix_seq (lp_sl (pv 0) rfl) (lp_ex le_int) ad_ix)) (lp_ex le_int) ad_ix)) (lp_ex (le_var (pv 1) rfl)) ad_ix)) (la_cons (lp_ex (le_ix ix_seq (lp_ex (le_ix ix_seq (lp_ex (le_ix ix_seq (lp_sl (pv 0) rfl) (lp_ex le_int) ad_ix)) (lp_ex (le_var (pv 1) rfl)) ad_ix)) (lp_ex le_int) ad_ix)) la_nil)))))))
theorem bd_homes (T : Top K mg) : Binds K T.fd_homes ["world"] [] := T.F_homes.binds fun _ _ _ _ _ _ us hl => match us, hl with | [_], _ => rfl
set_option maxHeartbeats 4000000 in
theorem ok_homes (T : Top K mg) : FnG P w K mg base 1 T.f_homes T.fd_homes ["world"] (spM K mg [.bor] true m_homes) :=
  ok_of2 (k := 0) T.F_homes sc_homes (lms := [.own, .val, .val]) (mx := [.dead, .dead, .dead, .dead]) (ms' := [.dead, .dead, .dead, .dead]) rfl (by decide) (by decide) (by rfl) (by rfl) (by rfl) (by rfl) (by rfl) fun cdv A outer s H E X hX hgu hr F0 H0 ios W tk hp => by
  subst hX
  have nd := (sc_homes).nd
  exact (lss_cons (ms1 := [.bor, .own, .val, .val]) (ls_setO (i := 1) (lo_lst la_nil) nd rfl (by first | exact Or.inl rfl | exact Or.inr rfl))
  (lss_cons (ms1 := [.bor, .own, .val, .val]) (ls_for (msh := [.bor, .own, .val, .val]) (msb := [.bor, .own, .val, .val]) rfl hp rfl (pi_range1 (by rfl) T.z_range (la_cons (lp_ex (le_B call_lenA ad_len T.z_len (la_cons (lp_ex (le_ix ix_seq (lp_sl (pv 0) rfl) (lp_ex le_int) ad_ix)) la_nil))) la_nil)) li_rng1 (gt_nm (i := 2) nd rfl (by first | exact Or.inl rfl | exact Or.inr rfl))
  (lss_one (ls_for (msh := [.bor, .own, .val, .val]) (msb := [.bor, .own, .val, .val]) rfl hp rfl (pi_any (le_ix ix_seq (lp_ex (le_ix ix_seq (lp_ex (le_ix ix_seq (lp_sl (pv 0) rfl) (lp_ex le_int) ad_ix)) (lp_ex (le_var (pv 2) rfl)) ad_ix)) (lp_ex le_int) ad_ix)) (li_any rfl) (gt_nm (i := 3) nd rfl (by first | exact Or.inl rfl | exact Or.inr rfl))
  (lss_one (ls_ex (le_append (i := 1) rfl rfl (pv 1) (lp_ex (le_tup (la_cons (lp_ex (le_var (pv 3) rfl)) (la_cons (lp_ex (le_ix ix_seq (lp_ex (le_ix ix_seq (lp_ex (le_ix ix_seq (lp_sl (pv 0) rfl) (lp_ex le_int) ad_ix)) (lp_ex le_int) ad_ix)) (lp_ex (le_var (pv 2) rfl)) ad_ix)) la_nil))))))))))
  (lss_one (ls_rtO (lo_B cr_sortedA ado_sortA T.z_sorted (la_cons (lp_sl (pv 1) rfl) la_nil))))))
theorem bd_after (T : Top K mg) : Binds K T.fd_after ["world", "deed"] [] := T.F_after.binds fun _ _ _ _ _ _ us hl => match us, hl with | [_, _], _ => rfl
set_option maxHeartbeats 4000000 in
theorem ok_after (T : Top K mg) : FnG P w K mg base 3 T.f_after T.fd_after ["world", "deed"] (spM K mg [.bor, .bor] false m_after) :=
  ok_of2 (k := 2) T.F_after sc_after (lms := [.own, .val, .val, .val, .val, .val]) (mx := [.dead, .dead, .dead, .dead, .dead, .dead, .dead, .dead]) (ms' := [.dead, .dead, .dead, .dead, .dead, .dead, .dead, .dead]) rfl (by decide) (by decide) (by rfl) (by rfl) (by rfl) (by rfl) (by rfl) fun cdv A outer s H E X hX hgu hr F0 H0 ios W tk hp => by
  subst hX
  have nd := (sc_after).nd
  exact (lss_cons (ms1 := [.bor, .bor, .own, .val, .val, .val, .val, .val]) (ls_setO (i := 2) (lo_lst la_nil) nd rfl (by first | exact Or.inl rfl | exact Or.inr rfl))
  (lss_cons (ms1 := [.bor, .bor, .own, .val, .val, .val, .val, .val]) (ls_set (i := 3) (le_tup (la_cons (lp_ex le_str) (la_cons (lp_ex le_str) la_nil))) nd rfl (by first | exact Or.inl rfl | exact Or.inr rfl))
  (lss_cons (ms1 := [.bor, .bor, .own, .val, .val, .val, .val, .val]) (ls_for (msh := [.bor, .bor, .own, .val, .val, .val, .val, .val]) (msb := [.bor, .bor, .own, .val, .val, .val, .val, .val]) rfl hp rfl (pi_any (le_of_lo (lo_call (ioA := []) (ok_links T) hgu (hr.mono (by decide)) T.g_links T.F_links.kp (bd_links T) tk rfl rfl (la_cons (lp_sl (pv 0) rfl) la_nil)))) (li_any rfl) (gt_nm (i := 4) nd rfl (by first | exact Or.inl rfl | exact Or.inr rfl))
  (lss_one (ls_if (lt_cmpR (op_eqD (hu64 hr)) (lp_ex (le_ix ix_seq (lp_ex (le_var (pv 4) rfl)) (lp_ex le_int) ad_ix)) (lp_ex (le_ix ix_seq (lp_sl (pv 1) rfl) (lp_ex le_int) ad_ix)) ad_eq)
  (lss_cons (ms1 := [.bor, .bor, .own, .val, .val, .val, .val, .val]) (ls_set (i := 3) (le_tup (la_cons (lp_ex (le_ix ix_seq (lp_ex (le_var (pv 4) rfl)) (lp_ex le_int) ad_ix)) (la_cons (lp_ex (le_ix ix_seq (lp_ex (le_var (pv 4) rfl)) (lp_ex le_int) ad_ix)) la_nil))) nd rfl (by first | exact Or.inl rfl | exact Or.inr rfl))
  (lss_one (ls_ex (le_append (i := 2) rfl rfl (pv 2) (lp_ex (le_tup (la_cons (lp_ex (le_ix ix_seq (lp_ex (le_var (pv 4) rfl)) (lp_ex le_int) ad_ix)) (la_cons (lp_ex (le_ix ix_seq (lp_ex (le_var (pv 4) rfl)) (lp_ex le_int) ad_ix)) (la_cons (lp_ex (le_ix ix_seq (lp_ex (le_var (pv 4) rfl)) (lp_ex le_int) ad_ix)) la_nil)))))))))
  (lss_one (ls_ex (le_append (i := 2) rfl rfl (pv 2) (lp_ex (le_var (pv 4) rfl))))))))
  (lss_cons (ms1 := [.bor, .bor, .own, .val, .val, .val, .val, .val]) (ls_set (i := 5) (le_of_lo (lo_call (ioA := []) (ok_plain T) hgu (hr.mono (by decide)) T.g_plain T.F_plain.kp (bd_plain T) tk rfl rfl (la_cons (lp_sl (pv 0) rfl) la_nil))) nd rfl (by first | exact Or.inl rfl | exact Or.inr rfl))
  (lss_cons (ms1 := [.bor, .bor, .own, .val, .val, .val, .val, .val]) (ls_set (i := 6) (le_of_lo (lo_call (ioA := []) (ok_homes T) hgu (hr.mono (by decide)) T.g_homes T.F_homes.kp (bd_homes T) tk rfl rfl (la_cons (lp_sl (pv 0) rfl) la_nil))) nd rfl (by first | exact Or.inl rfl | exact Or.inr rfl))
  (lss_cons (ms1 := [.bor, .bor, .own, .val, .val, .val, .val, .val]) (ls_if (lt_cmpR op_isC (lp_ex (le_ix ix_seq (lp_sl (pv 1) rfl) (lp_ex le_int) ad_ix)) (lp_ex le_non) ad_is)
  (lss_one (ls_set (i := 5) (le_bin op_addA (lp_ex (le_var (pv 5) rfl)) (lp_ex (le_of_lo (lo_lst (la_cons (lp_ex (le_tup (la_cons (lp_ex (le_ix ix_seq (lp_ex (le_var (pv 3) rfl)) (lp_ex le_int) ad_ix)) (la_cons (lp_ex (le_un un_neg (lp_ex le_int) ad_neg)) la_nil)))) (la_cons (lp_ex (le_tup (la_cons (lp_ex (le_ix ix_seq (lp_ex (le_var (pv 3) rfl)) (lp_ex le_int) ad_ix)) (la_cons (lp_ex le_int) la_nil)))) la_nil))))) ad_add) nd rfl (by first | exact Or.inl rfl | exact Or.inr rfl)))
  (lss_one (ls_set (i := 6) (le_bin op_addA (lp_ex (le_of_lo (lo_lc (own := [("home", 7)]) (msb := [.bor, .bor, .own, .val, .val, .val, .val, .val]) rfl rfl nd (pi_any (le_var (pv 6) rfl)) (li_any rfl) (blkOk_by (N := ["world", "deed", "links", "pair", "row", "plain", "homes", "home"]) (sc := defScope s_after) (by decide +kernel)) (fun s H C cl fp => (gt_nm (i := 7) nd rfl (by first | exact Or.inl rfl | exact Or.inr rfl))) (fun s H C cl fp F0 H0 ios pr => (lt_one (lt_cmpR (op_neD (hu64 hr)) (lp_ex (le_ix ix_seq (lp_ex (le_var (pv 7) rfl)) (lp_ex le_int) ad_ix)) (lp_ex (le_ix ix_seq (lp_sl (pv 1) rfl) (lp_ex le_int) ad_ix)) ad_ne))) (fun s H C cl fp F0 H0 ios pr => (le_var (pv 7) rfl))))) (lp_ex (le_of_lo (lo_lst (la_cons (lp_ex (le_tup (la_cons (lp_ex (le_ix ix_seq (lp_sl (pv 1) rfl) (lp_ex le_int) ad_ix)) (la_cons (lp_ex (le_ix ix_seq (lp_ex (le_var (pv 3) rfl)) (lp_ex le_int) ad_ix)) la_nil)))) la_nil)))) ad_add) nd rfl (by first | exact Or.inl rfl | exact Or.inr rfl))))
  (lss_one (ls_rt (le_call (ioA := []) (ok_build T) hgu (hr.mono (by decide)) T.g_build T.F_build.kp (bd_build T) tk rfl rfl (la_cons (lp_ex (le_ix ix_seq (lp_ex (le_ix ix_seq (lp_sl (pv 0) rfl) (lp_ex le_int) ad_ix)) (lp_ex le_int) ad_ix)) (la_cons (lp_sl (pv 2) rfl) (la_cons (lp_ex (le_var (pv 5) rfl)) (la_cons (lp_ex (le_var (pv 6) rfl)) la_nil)))))))))))))
theorem bd_way_names (T : Top K mg) : Binds K T.fd_way_names ["web"] [] := T.F_way_names.binds fun _ _ _ _ _ _ us hl => match us, hl with | [_], _ => rfl
set_option maxHeartbeats 4000000 in
theorem ok_way_names (T : Top K mg) : FnG P w K mg base 1 T.f_way_names T.fd_way_names ["web"] (spM K mg [.bor] true m_way_names) :=
  ok_of2 (k := 0) T.F_way_names sc_way_names (lms := [.val]) (mx := [.dead, .dead]) (ms' := [.dead, .dead]) rfl (by decide) (by decide) (by rfl) (by rfl) (by rfl) (by rfl) (by rfl) fun cdv A outer s H E X hX hgu hr F0 H0 ios W tk hp => by
  subst hX
  have nd := (sc_way_names).nd
  exact (lss_one (ls_rtO (lo_lc (own := [("row", 1)]) (msb := [.bor, .val]) rfl rfl nd (pi_any (le_ix ix_seq (lp_sl (pv 0) rfl) (lp_ex le_int) ad_ix)) (li_any rfl) (blkOk_by (N := ["web", "row"]) (sc := defScope s_way_names) (by decide +kernel)) (fun s H C cl fp => (gt_nm (i := 1) nd rfl (by first | exact Or.inl rfl | exact Or.inr rfl))) (fun s H C cl fp F0 H0 ios pr => lt_nil) (fun s H C cl fp F0 H0 ios pr => (le_ix ix_seq (lp_ex (le_var (pv 1) rfl)) (lp_ex le_int) ad_ix)))))
theorem bd_name_spots (T : Top K mg) : Binds K T.fd_name_spots ["world"] [] := T.F_name_spots.binds fun _ _ _ _ _ _ us hl => match us, hl with | [_], _ => rfl
set_option maxHeartbeats 4000000 in
theorem ok_name_spots (T : Top K mg) : FnG P w K mg base 1 T.f_name_spots T.fd_name_spots ["world"] (spM K mg [.bor] true m_name_spots) :=
  ok_of2 (k := 0) T.F_name_spots sc_name_spots (lms := [.val, .val, .val, .val]) (mx := [.dead, .dead, .dead, .dead, .dead]) (ms' := [.dead, .dead, .dead, .dead, .dead]) rfl (by decide) (by decide) (by rfl) (by rfl) (by rfl) (by rfl) (by rfl) fun cdv A outer s H E X hX hgu hr F0 H0 ios W tk hp => by
  subst hX
  have nd := (sc_name_spots).nd
  exact (lss_one (ls_rtO (lo_B cr_sortedA ado_sortA T.z_sorted (la_cons (lp_ex (le_of_lo (lo_lc2 (own := [("place", 2), ("alike", 3), ("names", 4), ("name", 1)]) (vs1 := [1]) (mm := [.bor, .dead, .val, .val, .val]) (msb := [.bor, .dead, .val, .val, .val]) (msb1 := [.bor, .val, .val, .val, .val]) rfl rfl nd (pi_zipB (by rfl) T.z_zip (la_cons (lp_ex (le_ix ix_seq (lp_ex (le_ix ix_seq (lp_sl (pv 0) rfl) (lp_ex le_int) ad_ix)) (lp_ex le_int) ad_ix)) (la_cons (lp_ex (le_ix ix_seq (lp_sl (pv 0) rfl) (lp_ex le_int) ad_ix)) la_nil))) (li_zip rfl rfl) (blkOk_by (N := ["world", "name", "place", "alike", "names"]) (sc := defScope s_name_spots) (by decide +kernel)) (by rfl) (fun s H C cl fp => (gt_tupK (K := K) rfl rfl (gts_cons (ms1 := [.bor, .dead, .val, .dead, .dead]) (gt_nm (i := 2) nd rfl (by first | exact Or.inl rfl | exact Or.inr rfl)) (gts_cons (ms1 := [.bor, .dead, .val, .val, .val]) (gt_tupK (K := K) rfl rfl (gts_cons (ms1 := [.bor, .dead, .val, .val, .dead]) (gt_nm (i := 3) nd rfl (by first | exact Or.inl rfl | exact Or.inr rfl)) (gts_cons (ms1 := [.bor, .dead, .val, .val, .val]) (gt_nm (i := 4) nd rfl (by first | exact Or.inl rfl | exact Or.inr rfl)) gts_nil))) gts_nil)))) (fun s H C cl fp F0 H0 ios pr => lt_nil) (ii_any (fun s H C cl fp F0 H0 ios pr => (le_var (pv 4) rfl))) (fun s H C cl fp => (gt_nm (i := 1) nd rfl (by first | exact Or.inl rfl | exact Or.inr rfl))) (fun s H C cl fp F0 H0 ios pr => lt_nil) (fun s H C cl fp F0 H0 ios pr => (le_tup (la_cons (lp_ex (le_var (pv 1) rfl)) (la_cons (lp_ex (le_var (pv 2) rfl)) la_nil))))))) la_nil))))
theorem bd_walker_names (T : Top K mg) : Binds K T.fd_walker_names ["world"] [] := T.F_walker_names.binds fun _ _ _ _ _ _ us hl => match us, hl with | [_], _ => rfl
set_option maxHeartbeats 4000000 in
theorem ok_walker_names (T : Top K mg) : FnG P w K mg base 2 T.f_walker_names T.fd_walker_names ["world"] (spM K mg [.bor] true m_walker_names) :=
  ok_of2 (k := 1) T.F_walker_names sc_walker_names (lms := [.val, .val]) (mx := [.dead, .dead, .dead]) (ms' := [.dead, .dead, .dead]) rfl (by decide) (by decide) (by rfl) (by rfl) (by rfl) (by rfl) (by rfl) fun cdv A outer s H E X hX hgu hr F0 H0 ios W tk hp => by
  subst hX
  have nd := (sc_walker_names).nd
  exact (lss_one (ls_rtO (lo_lc (own := [("name", 1), ("place", 2)]) (msb := [.bor, .val, .val]) rfl rfl nd (pi_any (le_of_lo (lo_call (ioA := []) (ok_name_spots T) hgu (hr.mono (by decide)) T.g_name_spots T.F_name_spots.kp (bd_name_spots T) tk rfl rfl (la_cons (lp_sl (pv 0) rfl) la_nil)))) (li_any rfl) (blkOk_by (N := ["world", "name", "place"]) (sc := defScope s_walker_names) (by decide +kernel)) (fun s H C cl fp => (gt_tupK (K := K) rfl rfl (gts_cons (ms1 := [.bor, .val, .dead]) (gt_nm (i := 1) nd rfl (by first | exact Or.inl rfl | exact Or.inr rfl)) (gts_cons (ms1 := [.bor, .val, .val]) (gt_nm (i := 2) nd rfl (by first | exact Or.inl rfl | exact Or.inr rfl)) gts_nil)))) (fun s H C cl fp F0 H0 ios pr => lt_nil) (fun s H C cl fp F0 H0 ios pr => (le_var (pv 1) rfl)))))
theorem bd_check_deeds (T : Top K mg) : Binds K T.fd_check_deeds ["world", "deeds"] [] := T.F_check_deeds.binds fun _ _ _ _ _ _ us hl => match us, hl with | [_, _], _ => rfl
set_option maxHeartbeats 4000000 in
theorem ok_check_deeds (T : Top K mg) : FnG P w K mg base 3 T.f_check_deeds T.fd_check_deeds ["world", "deeds"] (spM K mg [.bor, .bor] false m_check_deeds) :=
  ok_of2 (k := 2) T.F_check_deeds sc_check_deeds (lms := [.val, .val, .val, .val]) (mx := [.dead, .dead, .dead, .dead, .dead, .dead]) (ms' := [.bor, .bor, .val, .val, .val, .val]) rfl (by decide) (by decide) (by rfl) (by rfl) (by rfl) (by rfl) (by rfl) fun cdv A outer s H E X hX hgu hr F0 H0 ios W tk hp => by
  subst hX
  have nd := (sc_check_deeds).nd
  exact (lss_cons (ms1 := [.bor, .bor, .val, .val, .val, .val]) (ls_set (i := 2) (le_of_lo (lo_call (ioA := []) (ok_way_names T) hgu (hr.mono (by decide)) T.g_way_names T.F_way_names.kp (bd_way_names T) tk rfl rfl (la_cons (lp_ex (le_ix ix_seq (lp_sl (pv 0) rfl) (lp_ex le_int) ad_ix)) la_nil))) nd rfl (by first | exact Or.inl rfl | exact Or.inr rfl))
  (lss_cons (ms1 := [.bor, .bor, .val, .val, .val, .val]) (ls_set (i := 3) (le_of_lo (lo_call (ioA := []) (ok_walker_names T) hgu (hr.mono (by decide)) T.g_walker_names T.F_walker_names.kp (bd_walker_names T) tk rfl rfl (la_cons (lp_sl (pv 0) rfl) la_nil))) nd rfl (by first | exact Or.inl rfl | exact Or.inr rfl))
  (lss_one (ls_for (msh := [.bor, .bor, .val, .val, .val, .val]) (msb := [.bor, .bor, .val, .val, .val, .val]) rfl hp rfl (pi_any (pv 1)) (li_slot rfl rfl rfl) (gt_tupK (K := K) rfl rfl (gts_cons (ms1 := [.bor, .bor, .val, .val, .val, .val]) (gt_nm (i := 4) nd rfl (by first | exact Or.inl rfl | exact Or.inr rfl)) (gts_cons (ms1 := [.bor, .bor, .val, .val, .val, .val]) (gt_nm (i := 5) nd rfl (by first | exact Or.inl rfl | exact Or.inr rfl)) gts_nil)))
  (lss_cons (ms1 := [.bor, .bor, .val, .val, .val, .val]) (ls_if (lt_cmpR (op_notInA (hu65 hr)) (lp_ex (le_var (pv 4) rfl)) (lp_ex (le_var (pv 2) rfl)) ad_notIn)
  (lss_one (ls_raise (xm_Unknown T) rfl rfl (T.xt.ok ("Unknown", ["what", "name"], T.x_Unknown) (List.mem_of_getElem? (i := 0) rfl)).1 rfl rfl tk (hr.mono (by decide)) (la_cons (lp_ex le_str) (la_cons (lp_ex (le_var (pv 4) rfl)) la_nil))))
  lss_nil)
  (lss_one (ls_if (PW.pt (lw_and (lt_cmpR op_isNotC (lp_ex (le_var (pv 5) rfl)) (lp_ex le_non) ad_isNot) (lw_and1 (lt_cmpR (op_notInA (hu65 hr)) (lp_ex (le_var (pv 5) rfl)) (lp_ex (le_var (pv 3) rfl)) ad_notIn))))
  (lss_one (ls_raise (xm_Unknown T) rfl rfl (T.xt.ok ("Unknown", ["what", "name"], T.x_Unknown) (List.mem_of_getElem? (i := 0) rfl)).1 rfl rfl tk (hr.mono (by decide)) (la_cons (lp_ex le_str) (la_cons (lp_ex (le_var (pv 5) rfl)) la_nil))))
  lss_nil)))))))
theorem bd_crowd_at (T : Top K mg) : Binds K T.fd_crowd_at ["world", "place"] [] := T.F_crowd_at.binds fun _ _ _ _ _ _ us hl => match us, hl with | [_, _], _ => rfl
set_option maxHeartbeats 4000000 in
theorem ok_crowd_at (T : Top K mg) : FnG P w K mg base 1 T.f_crowd_at T.fd_crowd_at ["world", "place"] (spM K mg [.bor, .bor] false m_crowd_at) :=
  ok_of2 (k := 0) T.F_crowd_at sc_crowd_at (lms := []) (mx := [.dead, .dead]) (ms' := [.dead, .dead]) rfl (by decide) (by decide) (by rfl) (by rfl) (by rfl) (by rfl) (by rfl) fun cdv A outer s H E X hX hgu hr F0 H0 ios W tk hp => by
  subst hX
  have nd := (sc_crowd_at).nd
  exact (lss_one (ls_rt (le_ix ix_seq (lp_ex (le_ix ix_seq (lp_sl (pv 0) rfl) (lp_ex le_int) ad_ix)) (lp_ex (le_ask (f := fIndex) rfl PySem.F.slot_list_index PySem.F.slot_tuple_index PySem.F.type_list_index PySem.F.type_tuple_index (mt_indexL (hu65 hr)) (mt_indexT (hu65 hr)) (lp_ex (le_ix ix_seq (lp_ex (le_ix ix_seq (lp_sl (pv 0) rfl) (lp_ex le_int) ad_ix)) (lp_ex le_int) ad_ix)) (lp_sl (pv 1) rfl))) ad_ix)))
theorem bd_arrows_to (T : Top K mg) : Binds K T.fd_arrows_to ["web", "heads"] [] := T.F_arrows_to.binds fun _ _ _ _ _ _ us hl => match us, hl with | [_, _], _ => rfl
set_option maxHeartbeats 4000000 in
theorem ok_arrows_to (T : Top K mg) : FnG P w K mg base 1 T.f_arrows_to T.fd_arrows_to ["web", "heads"] (spM K mg [.bor, .bor] true m_arrows_to) :=
  ok_of2 (k := 0) T.F_arrows_to sc_arrows_to (lms := [.own, .val, .val, .val, .val]) (mx := [.dead, .dead, .dead, .dead, .dead, .dead, .dead]) (ms' := [.dead, .dead, .dead, .dead, .dead, .dead, .dead]) rfl (by decide) (by decide) (by rfl) (by rfl) (by rfl) (by rfl) (by rfl) fun cdv A outer s H E X hX hgu hr F0 H0 ios W tk hp => by
  subst hX
  have nd := (sc_arrows_to).nd
  exact (lss_cons (ms1 := [.bor, .bor, .own, .val, .val, .val, .val]) (ls_setO (i := 2) (lo_lst la_nil) nd rfl (by first | exact Or.inl rfl | exact Or.inr rfl))
  (lss_cons (ms1 := [.bor, .bor, .own, .val, .val, .val, .val]) (ls_for (msh := [.bor, .bor, .own, .val, .val, .val, .val]) (msb := [.bor, .bor, .own, .val, .val, .val, .val]) rfl hp rfl (pi_zipB (by rfl) T.z_zip (la_cons (lp_ex (le_ix ix_seq (lp_sl (pv 0) rfl) (lp_ex le_int) ad_ix)) (la_cons (lp_sl (pv 1) rfl) la_nil))) (li_zip rfl rfl) (gt_tupK (K := K) rfl rfl (gts_cons (ms1 := [.bor, .bor, .own, .val, .val, .val, .val]) (gt_tupK (K := K) rfl rfl (gts_cons (ms1 := [.bor, .bor, .own, .val, .val, .val, .val]) (gt_nm (i := 4) nd rfl (by first | exact Or.inl rfl | exact Or.inr rfl)) (gts_cons (ms1 := [.bor, .bor, .own, .val, .val, .val, .val]) (gt_nm (i := 5) nd rfl (by first | exact Or.inl rfl | exact Or.inr rfl)) (gts_cons (ms1 := [.bor, .bor, .own, .val, .val, .val, .val]) (gt_nm (i := 6) nd rfl (by first | exact Or.inl rfl | exact Or.inr rfl)) gts_nil)))) (gts_cons (ms1 := [.bor, .bor, .own, .val, .val, .val, .val]) (gt_nm (i := 3) nd rfl (by first | exact Or.inl rfl | exact Or.inr rfl)) gts_nil)))
  (lss_one (ls_ex (le_append (i := 2) rfl rfl (pv 2) (lp_ex (le_tup (la_cons (lp_ex (le_var (pv 4) rfl)) (la_cons (lp_ex (le_ifE (lt_cmpR (op_eqD (hu64 hr)) (lp_ex (le_var (pv 3) rfl)) (lp_ex (le_var (pv 5) rfl)) ad_eq) (le_var (pv 6) rfl) (le_var (pv 5) rfl))) (la_cons (lp_ex (le_var (pv 3) rfl)) la_nil)))))))))
  (lss_one (ls_rtV (i := 2) (pv 2) rfl))))
theorem bd_arrows (T : Top K mg) : Binds K T.fd_arrows ["world"] [] := T.F_arrows.binds fun _ _ _ _ _ _ us hl => match us, hl with | [_], _ => rfl
set_option maxHeartbeats 4000000 in
theorem ok_arrows (T : Top K mg) : FnG P w K mg base 2 T.f_arrows T.fd_arrows ["world"] (spM K mg [.bor] true m_arrows) :=
  ok_of2 (k := 1) T.F_arrows sc_arrows (lms := []) (mx := [.dead]) (ms' := [.dead]) rfl (by decide) (by decide) (by rfl) (by rfl) (by rfl) (by rfl) (by rfl) fun cdv A outer s H E X hX hgu hr F0 H0 ios W tk hp => by
  subst hX
  have nd := (sc_arrows).nd
  exact (lss_one (ls_rtO (lo_call (ioA := []) (ok_arrows_to T) hgu (hr.mono (by decide)) T.g_arrows_to T.F_arrows_to.kp (bd_arrows_to T) tk rfl rfl (la_cons (lp_ex (le_ix ix_seq (lp_sl (pv 0) rfl) (lp_ex le_int) ad_ix)) (la_cons (lp_ex (le_ix ix_seq (lp_sl (pv 0) rfl) (lp_ex le_int) ad_ix)) la_nil)))))
theorem bd_way_at (T : Top K mg) : Binds K T.fd_way_at ["web", "way"] [] := T.F_way_at.binds fun _ _ _ _ _ _ us hl => match us, hl with | [_, _], _ => rfl
set_option maxHeartbeats 4000000 in
theorem ok_way_at (T : Top K mg) : FnG P w K mg base 3 T.f_way_at T.fd_way_at ["web", "way"] (spM K mg [.bor, .val] false m_way_at) :=
  ok_of2 (k := 2) T.F_way_at sc_way_at (lms := [.val]) (mx := [.dead, .dead, .dead]) (ms' := [.dead, .dead, .dead]) rfl (by decide) (by decide) (by rfl) (by rfl) (by rfl) (by rfl) (by rfl) fun cdv A outer s H E X hX hgu hr F0 H0 ios W tk hp => by
  subst hX
  have nd := (sc_way_at).nd
  exact (lss_cons (ms1 := [.bor, .val, .val]) (ls_set (i := 2) (le_of_lo (lo_call (ioA := []) (ok_way_names T) hgu (hr.mono (by decide)) T.g_way_names T.F_way_names.kp (bd_way_names T) tk rfl rfl (la_cons (lp_sl (pv 0) rfl) la_nil))) nd rfl (by first | exact Or.inl rfl | exact Or.inr rfl))
  (lss_cons (ms1 := [.bor, .val, .val]) (ls_if (lt_cmpR (op_notInA (hu65 hr)) (lp_ex (le_var (pv 1) rfl)) (lp_ex (le_var (pv 2) rfl)) ad_notIn)
  (lss_one (ls_raise (xm_Unknown T) rfl rfl (T.xt.ok ("Unknown", ["what", "name"], T.x_Unknown) (List.mem_of_getElem? (i := 0) rfl)).1 rfl rfl tk (hr.mono (by decide)) (la_cons (lp_ex le_str) (la_cons (lp_ex (le_var (pv 1) rfl)) la_nil))))
  lss_nil)
  (lss_one (ls_rt (le_ask (f := fIndex) rfl PySem.F.slot_list_index PySem.F.slot_tuple_index PySem.F.type_list_index PySem.F.type_tuple_index (mt_indexL (hu65 hr)) (mt_indexT (hu65 hr)) (lp_ex (le_var (pv 2) rfl)) (lp_ex (le_var (pv 1) rfl)))))))
theorem bd_refusal (T : Top K mg) : Binds K T.fd_refusal ["world", "way", "walker"] [] := T.F_refusal.binds fun _ _ _ _ _ _ us hl => match us, hl with | [_, _, _], _ => rfl
set_option maxHeartbeats 4000000 in
theorem ok_refusal (T : Top K mg) : FnG P w K mg base 4 T.f_refusal T.fd_refusal ["world", "way", "walker"] (spM K mg [.bor, .val, .bor] false m_refusal) :=
  ok_of2 (k := 3) T.F_refusal sc_refusal (lms := [.val, .val, .val, .val]) (mx := [.dead, .dead, .dead, .dead, .dead, .dead, .dead]) (ms' := [.dead, .dead, .dead, .dead, .dead, .dead, .dead]) rfl (by decide) (by decide) (by rfl) (by rfl) (by rfl) (by rfl) (by rfl) fun cdv A outer s H E X hX hgu hr F0 H0 ios W tk hp => by
  subst hX
  have nd := (sc_refusal).nd
  exact (lss_cons (ms1 := [.bor, .val, .bor, .val, .val, .val, .val]) (ls_asg (ms' := [.bor, .val, .bor, .val, .val, .val, .val]) rfl (le_ix ix_seq (lp_ex (le_of_lo (lo_call (ioA := []) (ok_arrows T) hgu (hr.mono (by decide)) T.g_arrows T.F_arrows.kp (bd_arrows T) tk rfl rfl (la_cons (lp_sl (pv 0) rfl) la_nil)))) (lp_ex (le_call (ioA := []) (ok_way_at T) hgu (hr.mono (by decide)) T.g_way_at T.F_way_at.kp (bd_way_at T) tk rfl rfl (la_cons (lp_ex (le_ix ix_seq (lp_sl (pv 0) rfl) (lp_ex le_int) ad_ix)) (la_cons (lp_ex (le_var (pv 1) rfl)) la_nil)))) ad_ix) (gt_tupK (K := K) rfl rfl (gts_cons (ms1 := [.bor, .val, .bor, .val, .val, .val, .val]) (gt_nm (i := 3) nd rfl (by first | exact Or.inl rfl | exact Or.inr rfl)) (gts_cons (ms1 := [.bor, .val, .bor, .val, .val, .val, .val]) (gt_nm (i := 4) nd rfl (by first | exact Or.inl rfl | exact Or.inr rfl)) (gts_cons (ms1 := [.bor, .val, .bor, .val, .val, .val, .val]) (gt_nm (i := 3) nd rfl (by first | exact Or.inl rfl | exact Or.inr rfl)) gts_nil)))))
  (lss_cons (ms1 := [.bor, .val, .bor, .val, .val, .val, .val]) (ls_asg (ms' := [.bor, .val, .bor, .val, .val, .val, .val]) rfl (le_call (ioA := []) (ok_crowd_at T) hgu (hr.mono (by decide)) T.g_crowd_at T.F_crowd_at.kp (bd_crowd_at T) tk rfl rfl (la_cons (lp_sl (pv 0) rfl) (la_cons (lp_ex (le_var (pv 4) rfl)) la_nil))) (gt_tupK (K := K) rfl rfl (gts_cons (ms1 := [.bor, .val, .bor, .val, .val, .val, .val]) (gt_nm (i := 5) nd rfl (by first | exact Or.inl rfl | exact Or.inr rfl)) (gts_cons (ms1 := [.bor, .val, .bor, .val, .val, .val, .val]) (gt_nm (i := 6) nd rfl (by first | exact Or.inl rfl | exact Or.inr rfl)) gts_nil))))
  (lss_cons (ms1 := [.bor, .val, .bor, .val, .val, .val, .val]) (ls_if (lt_cmpR op_isC (lp_sl (pv 2) rfl) (lp_ex le_non) ad_is)
  (lss_one (ls_rt (le_ifE (lt_cmpR op_gtC (lp_ex (le_var (pv 5) rfl)) (lp_ex le_int) ad_cmp) le_non le_str)))
  lss_nil)
  (lss_one (ls_rt (le_ifE (lt_cmpR (op_inA (hu65 hr)) (lp_sl (pv 2) rfl) (lp_ex (le_var (pv 6) rfl)) ad_in) le_non le_str))))))
theorem bd_without_walker (T : Top K mg) : Binds K T.fd_without_walker ["pair", "walker"] [] := T.F_without_walker.binds fun _ _ _ _ _ _ us hl => match us, hl with | [_, _], _ => rfl
set_option maxHeartbeats 4000000 in
theorem ok_without_walker (T : Top K mg) : FnG P w K mg base 1 T.f_without_walker T.fd_without_walker ["pair", "walker"] (spM K mg [.val, .bor] false m_without_walker) :=
  ok_of2 (k := 0) T.F_without_walker sc_without_walker (lms := [.val, .val, .val]) (mx := [.dead, .dead, .dead, .dead, .dead]) (ms' := [.dead, .dead, .dead, .dead, .dead]) rfl (by decide) (by decide) (by rfl) (by rfl) (by rfl) (by rfl) (by rfl) fun cdv A outer s H E X hX hgu hr F0 H0 ios W tk hp => by
  subst hX
  have nd := (sc_without_walker).nd
  exact (lss_cons (ms1 := [.val, .bor, .val, .val, .val]) (ls_asg (ms' := [.val, .bor, .val, .val, .val]) rfl (le_var (pv 0) rfl) (gt_tupK (K := K) rfl rfl (gts_cons (ms1 := [.val, .bor, .val, .val, .val]) (gt_nm (i := 2) nd rfl (by first | exact Or.inl rfl | exact Or.inr rfl)) (gts_cons (ms1 := [.val, .bor, .val, .val, .val]) (gt_nm (i := 3) nd rfl (by first | exact Or.inl rfl | exact Or.inr rfl)) gts_nil))))
  (lss_cons (ms1 := [.val, .bor, .val, .val, .val]) (ls_if (lt_cmpR op_isC (lp_sl (pv 1) rfl) (lp_ex le_non) ad_is)
  (lss_one (ls_rt (le_tup (la_cons (lp_ex (le_bin (opr_oI0 op_sub) (lp_ex (le_var (pv 2) rfl)) (lp_ex le_int) ad_sub)) (la_cons (lp_ex (le_var (pv 3) rfl)) la_nil)))))
  lss_nil)
  (lss_one (ls_rt (le_tup (la_cons (lp_ex (le_var (pv 2) rfl)) (la_cons (lp_ex (le_T call_tupleF ad_tuple T.z_tuple (la_cons (lp_ex (le_of_lo (lo_lc (own := [("name", 4)]) (msb := [.val, .bor, .val, .val, .val]) rfl rfl nd (pi_any (le_var (pv 3) rfl)) (li_any rfl) (blkOk_by (N := ["pair", "walker", "alike", "names", "name"]) (sc := defScope s_without_walker) (by decide +kernel)) (fun s H C cl fp => (gt_nm (i := 4) nd rfl (by first | exact Or.inl rfl | exact Or.inr rfl))) (fun s H C cl fp F0 H0 ios pr => (lt_one (lt_cmpR (op_neD (hu64 hr)) (lp_ex (le_var (pv 4) rfl)) (lp_sl (pv 1) rfl) ad_ne))) (fun s H C cl fp F0 H0 ios pr => (le_var (pv 4) rfl))))) la_nil))) la_nil)))))))
theorem bd_with_walker (T : Top K mg) : Binds K T.fd_with_walker ["pair", "walker"] [] := T.F_with_walker.binds fun _ _ _ _ _ _ us hl => match us, hl with | [_, _], _ => rfl
set_option maxHeartbeats 4000000 in
theorem ok_with_walker (T : Top K mg) : FnG P w K mg base 1 T.f_with_walker T.fd_with_walker ["pair", "walker"] (spM K mg [.val, .val] false m_with_walker) :=
  ok_of2 (k := 0) T.F_with_walker sc_with_walker (lms := [.val, .val]) (mx := [.dead, .dead, .dead, .dead]) (ms' := [.dead, .dead, .dead, .dead]) rfl (by decide) (by decide) (by rfl) (by rfl) (by rfl) (by rfl) (by rfl) fun cdv A outer s H E X hX hgu hr F0 H0 ios W tk hp => by
  subst hX
  have nd := (sc_with_walker).nd
  exact (lss_cons (ms1 := [.val, .val, .val, .val]) (ls_asg (ms' := [.val, .val, .val, .val]) rfl (le_var (pv 0) rfl) (gt_tupK (K := K) rfl rfl (gts_cons (ms1 := [.val, .val, .val, .val]) (gt_nm (i := 2) nd rfl (by first | exact Or.inl rfl | exact Or.inr rfl)) (gts_cons (ms1 := [.val, .val, .val, .val]) (gt_nm (i := 3) nd rfl (by first | exact Or.inl rfl | exact Or.inr rfl)) gts_nil))))
  (lss_cons (ms1 := [.val, .val, .val, .val]) (ls_if (lt_cmpR op_isC (lp_ex (le_var (pv 1) rfl)) (lp_ex le_non) ad_is)
  (lss_one (ls_rt (le_tup (la_cons (lp_ex (le_bin op_addA (lp_ex (le_var (pv 2) rfl)) (lp_ex le_int) ad_add)) (la_cons (lp_ex (le_var (pv 3) rfl)) la_nil)))))
  lss_nil)
  (lss_one (ls_rt (le_tup (la_cons (lp_ex (le_var (pv 2) rfl)) (la_cons (lp_ex (le_T call_tupleF ad_tuple T.z_tuple (la_cons (lp_ex (le_of_lo (lo_B cr_sortedA ado_sortA T.z_sorted (la_cons (lp_ex (le_of_lo (lo_lstD (ld_star rfl (le_var (pv 3) rfl) (ld_cons (le_var (pv 1) rfl) ld_nil))))) la_nil)))) la_nil))) la_nil)))))))
theorem bd_walked (T : Top K mg) : Binds K T.fd_walked ["world", "way", "walker"] [] := T.F_walked.binds fun _ _ _ _ _ _ us hl => match us, hl with | [_, _, _], _ => rfl
set_option maxHeartbeats 4000000 in
theorem ok_walked (T : Top K mg) : FnG P w K mg base 4 T.f_walked T.fd_walked ["world", "way", "walker"] (spM K mg [.val, .val, .val] false m_walked) :=
  ok_of2 (k := 3) T.F_walked sc_walked (lms := [.val, .val, .own, .own, .val, .val, .val, .val, .val, .val]) (mx := [.dead, .dead, .dead, .dead, .dead, .dead, .dead, .dead, .dead, .dead, .dead, .dead, .dead]) (ms' := [.dead, .dead, .dead, .dead, .dead, .dead, .dead, .dead, .dead, .dead, .dead, .dead, .dead]) rfl (by decide) (by decide) (by rfl) (by rfl) (by rfl) (by rfl) (by rfl) fun cdv A outer s H E X hX hgu hr F0 H0 ios W tk hp => by
  subst hX
  have nd := (sc_walked).nd
  exact (lss_cons (ms1 := [.val, .val, .val, .val, .val, .own, .own, .val, .val, .val, .val, .val, .val]) (ls_asg (ms' := [.val, .val, .val, .val, .val, .own, .own, .val, .val, .val, .val, .val, .val]) rfl (le_var (pv 0) rfl) (gt_tupK (K := K) rfl rfl (gts_cons (ms1 := [.val, .val, .val, .val, .val, .own, .own, .val, .val, .val, .val, .val, .val]) (gt_nm (i := 7) nd rfl (by first | exact Or.inl rfl | exact Or.inr rfl)) (gts_cons (ms1 := [.val, .val, .val, .val, .val, .own, .own, .val, .val, .val, .val, .val, .val]) (gt_nm (i := 8) nd rfl (by first | exact Or.inl rfl | exact Or.inr rfl)) (gts_cons (ms1 := [.val, .val, .val, .val, .val, .own, .own, .val, .val, .val, .val, .val, .val]) (gt_nm (i := 9) nd rfl (by first | exact Or.inl rfl | exact Or.inr rfl)) gts_nil)))))
  (lss_cons (ms1 := [.val, .val, .val, .val, .val, .own, .own, .val, .val, .val, .val, .val, .val]) (ls_set (i := 3) (le_call (ioA := []) (ok_way_at T) hgu (hr.mono (by decide)) T.g_way_at T.F_way_at.kp (bd_way_at T) tk rfl rfl (la_cons (lp_ex (le_var (pv 7) rfl)) (la_cons (lp_ex (le_var (pv 1) rfl)) la_nil))) nd rfl (by first | exact Or.inl rfl | exact Or.inr rfl))
  (lss_cons (ms1 := [.val, .val, .val, .val, .val, .own, .own, .val, .val, .val, .val, .val, .val]) (ls_asg (ms' := [.val, .val, .val, .val, .val, .own, .own, .val, .val, .val, .val, .val, .val]) rfl (le_ix ix_seq (lp_ex (le_of_lo (lo_call (ioA := []) (ok_arrows T) hgu (hr.mono (by decide)) T.g_arrows T.F_arrows.kp (bd_arrows T) tk rfl rfl (la_cons (lp_ex (le_var (pv 0) rfl)) la_nil)))) (lp_ex (le_var (pv 3) rfl)) ad_ix) (gt_tupK (K := K) rfl rfl (gts_cons (ms1 := [.val, .val, .val, .val, .val, .own, .own, .val, .val, .val, .val, .val, .val]) (gt_nm (i := 10) nd rfl (by first | exact Or.inl rfl | exact Or.inr rfl)) (gts_cons (ms1 := [.val, .val, .val, .val, .val, .own, .own, .val, .val, .val, .val, .val, .val]) (gt_nm (i := 11) nd rfl (by first | exact Or.inl rfl | exact Or.inr rfl)) (gts_cons (ms1 := [.val, .val, .val, .val, .val, .own, .own, .val, .val, .val, .val, .val, .val]) (gt_nm (i := 12) nd rfl (by first | exact Or.inl rfl | exact Or.inr rfl)) gts_nil)))))
  (lss_cons (ms1 := [.val, .val, .val, .val, .val, .own, .own, .val, .val, .val, .val, .val, .val]) (ls_set (i := 4) (le_ix ix_seq (lp_ex (le_var (pv 7) rfl)) (lp_ex le_int) ad_ix) nd rfl (by first | exact Or.inl rfl | exact Or.inr rfl))
  (lss_cons (ms1 := [.val, .val, .val, .val, .val, .own, .own, .val, .val, .val, .val, .val, .val]) (ls_setO (i := 5) (lo_T call_list_of ado_list T.z_list (la_cons (lp_ex (le_var (pv 8) rfl)) la_nil)) nd rfl (by first | exact Or.inl rfl | exact Or.inr rfl))
  (lss_cons (ms1 := [.val, .val, .val, .val, .val, .own, .own, .val, .val, .val, .val, .val, .val]) (ls_sub (i := 5) rfl rfl (pv 5) (lp_ex (le_var (pv 3) rfl)) (le_var (pv 11) rfl))
  (lss_cons (ms1 := [.val, .val, .val, .val, .val, .own, .own, .val, .val, .val, .val, .val, .val]) (ls_setO (i := 6) (lo_T call_list_of ado_list T.z_list (la_cons (lp_ex (le_var (pv 9) rfl)) la_nil)) nd rfl (by first | exact Or.inl rfl | exact Or.inr rfl))
  (lss_cons (ms1 := [.val, .val, .val, .val, .val, .own, .own, .val, .val, .val, .val, .val, .val]) (ls_sub (i := 6) rfl rfl (pv 6) (lp_ex (le_ask (f := fIndex) rfl PySem.F.slot_list_index PySem.F.slot_tuple_index PySem.F.type_list_index PySem.F.type_tuple_index (mt_indexL (hu65 hr)) (mt_indexT (hu65 hr)) (lp_ex (le_var (pv 4) rfl)) (lp_ex (le_var (pv 11) rfl)))) (le_call (ioA := []) (ok_without_walker T) hgu (hr.mono (by decide)) T.g_without_walker T.F_without_walker.kp (bd_without_walker T) tk rfl rfl (la_cons (lp_ex (le_call (ioA := []) (ok_crowd_at T) hgu (hr.mono (by decide)) T.g_crowd_at T.F_crowd_at.kp (bd_crowd_at T) tk rfl rfl (la_cons (lp_ex (le_var (pv 0) rfl)) (la_cons (lp_ex (le_var (pv 11) rfl)) la_nil)))) (la_cons (lp_ex (le_var (pv 2) rfl)) la_nil))))
  (lss_cons (ms1 := [.val, .val, .val, .val, .val, .own, .own, .val, .val, .val, .val, .val, .val]) (ls_sub (i := 6) rfl rfl (pv 6) (lp_ex (le_ask (f := fIndex) rfl PySem.F.slot_list_index PySem.F.slot_tuple_index PySem.F.type_list_index PySem.F.type_tuple_index (mt_indexL (hu65 hr)) (mt_indexT (hu65 hr)) (lp_ex (le_var (pv 4) rfl)) (lp_ex (le_var (pv 12) rfl)))) (le_call (ioA := []) (ok_with_walker T) hgu (hr.mono (by decide)) T.g_with_walker T.F_with_walker.kp (bd_with_walker T) tk rfl rfl (la_cons (lp_ex (le_call (ioA := []) (ok_crowd_at T) hgu (hr.mono (by decide)) T.g_crowd_at T.F_crowd_at.kp (bd_crowd_at T) tk rfl rfl (la_cons (lp_ex (le_var (pv 0) rfl)) (la_cons (lp_ex (le_var (pv 12) rfl)) la_nil)))) (la_cons (lp_ex (le_var (pv 2) rfl)) la_nil))))
  (lss_one (ls_rt (le_tup (la_cons (lp_ex (le_var (pv 7) rfl)) (la_cons (lp_ex (le_T call_tupleF ad_tuple T.z_tuple (la_cons (lp_sl (pv 5) rfl) la_nil))) (la_cons (lp_ex (le_T call_tupleF ad_tuple T.z_tuple (la_cons (lp_sl (pv 6) rfl) la_nil))) la_nil)))))))))))))))
theorem bd_go (T : Top K mg) : Binds K T.fd_go ["world", "way", "walker"] [] := FunE.bindsAll T.F_go (by simp) fun _ _ _ _ _ _ _ us its h1 h2 => match us, its, h1, h2 with | [_, _, _], [_], _, _ => ⟨_, rfl, rfl⟩
set_option maxHeartbeats 4000000 in
theorem ok_go (T : Top K mg) : FnG P w K mg base 5 T.f_go T.fd_go ["world", "way", "walker"] (spM K mg [.val, .val, .val] false m_go) :=
  ok_ofE (k := 4) T.F_go sc_go (lms := [.val]) (mx := [.dead, .dead, .dead, .dead]) (ms' := [.dead, .dead, .dead, .dead]) rfl (by decide) (by decide) (by rfl) (by rfl) (by rfl) (by rfl) (by rfl) fun cdv A outer s H E X hX hgu hr F0 H0 ios W tk hp => by
  subst hX
  have nd := (sc_go).nd
  exact (lss_cons (ms1 := [.val, .val, .val, .val]) (ls_ex (le_call (ioA := []) (ok_check_deeds T) hgu (hr.mono (by decide)) T.g_check_deeds T.F_check_deeds.kp (bd_check_deeds T) tk rfl rfl (la_cons (lp_ex (le_var (pv 0) rfl)) (la_cons (lp_ex (le_of_lo (lo_lst (la_cons (lp_ex (le_tup (la_cons (lp_ex (le_var (pv 1) rfl)) (la_cons (lp_ex (le_var (pv 2) rfl)) la_nil)))) la_nil)))) la_nil))))
  (lss_cons (ms1 := [.val, .val, .val, .val]) (ls_set (i := 3) (le_call (ioA := []) (ok_refusal T) hgu (hr.mono (by decide)) T.g_refusal T.F_refusal.kp (bd_refusal T) tk rfl rfl (la_cons (lp_ex (le_var (pv 0) rfl)) (la_cons (lp_ex (le_var (pv 1) rfl)) (la_cons (lp_ex (le_var (pv 2) rfl)) la_nil)))) nd rfl (by first | exact Or.inl rfl | exact Or.inr rfl))
  (lss_cons (ms1 := [.val, .val, .val, .val]) (ls_if (lt_cmpR op_isNotC (lp_ex (le_var (pv 3) rfl)) (lp_ex le_non) ad_isNot)
  (lss_one (ls_raise (xm_NoDeed T) rfl rfl (T.xt.ok ("NoDeed", ["index", "way", "cause"], T.x_NoDeed) (List.mem_of_getElem? (i := 1) rfl)).1 rfl rfl tk (hr.mono (by decide)) (la_cons (lp_ex le_int) (la_cons (lp_ex (le_var (pv 1) rfl)) (la_cons (lp_ex (le_var (pv 3) rfl)) la_nil)))))
  lss_nil)
  (lss_one (ls_rt (le_call (ioA := []) (ok_walked T) hgu (hr.mono (by decide)) T.g_walked T.F_walked.kp (bd_walked T) tk rfl rfl (la_cons (lp_ex (le_var (pv 0) rfl)) (la_cons (lp_ex (le_var (pv 1) rfl)) (la_cons (lp_ex (le_var (pv 2) rfl)) la_nil)))))))))
theorem bd_gone (T : Top K mg) : Binds K T.fd_gone ["world", "deed", "form"] [] := T.F_gone.binds fun _ _ _ _ _ _ us hl => match us, hl with | [_, _, _], _ => rfl
set_option maxHeartbeats 4000000 in
theorem ok_gone (T : Top K mg) : FnG P w K mg base 6 T.f_gone T.fd_gone ["world", "deed", "form"] (spM K mg [.val, .bor, .bor] false m_gone) :=
  ok_of2 (k := 5) T.F_gone sc_gone (lms := []) (mx := [.dead, .dead, .dead]) (ms' := [.dead, .dead, .dead]) rfl (by decide) (by decide) (by rfl) (by rfl) (by rfl) (by rfl) (by rfl) fun cdv A outer s H E X hX hgu hr F0 H0 ios W tk hp => by
  subst hX
  have nd := (sc_gone).nd
  exact (lss_cons (ms1 := [.val, .bor, .bor]) (ls_if (PW.pt (lw_and (lt_cmpR op_isC (lp_ex (le_ix ix_seq (lp_sl (pv 1) rfl) (lp_ex le_int) ad_ix)) (lp_ex le_non) ad_is) (lw_and1 (lt_cmpR (op_eqD (hu64 hr)) (lp_sl (pv 2) rfl) (lp_ex le_int) ad_eq))))
  (lss_one (ls_rt (le_callE (ioA := []) (dvs := [.non]) (ds := [.none]) (fun _ _ _ => .cons .non (.nil)) (ok_go T) hgu (hr.mono (by decide)) T.g_go T.F_go.kp (db0_go T) tk rfl rfl (la_cons (lp_ex (le_var (pv 0) rfl)) (la_cons (lp_ex (le_ix ix_seq (lp_sl (pv 1) rfl) (lp_ex le_int) ad_ix)) la_nil)))))
  lss_nil)
  (lss_cons (ms1 := [.val, .bor, .bor]) (ls_if (lt_cmpR op_ltC (lp_sl (pv 2) rfl) (lp_ex le_int) ad_cmp)
  (lss_one (ls_rt (le_call (ioA := []) (ok_go T) hgu (hr.mono (by decide)) T.g_go T.F_go.kp (bd_go T) tk rfl rfl (la_cons (lp_ex (le_var (pv 0) rfl)) (la_cons (lp_ex (le_ix ix_seq (lp_sl (pv 1) rfl) (lp_ex le_int) ad_ix)) (la_cons (lp_ex (le_ix ix_seq (lp_sl (pv 1) rfl) (lp_ex le_int) ad_ix)) la_nil))))))
  lss_nil)
  (lss_one (ls_rt (le_callK0 (ioA := []) (ok_go T) hgu (hr.mono (by decide)) T.g_go T.F_go.kp (kb0_go T) tk rfl rfl (lk_cons (lp_ex (le_ix ix_seq (lp_sl (pv 1) rfl) (lp_ex le_int) ad_ix)) (lk_cons (lp_ex (le_ix ix_seq (lp_sl (pv 1) rfl) (lp_ex le_int) ad_ix)) (lk_cons (lp_ex (le_var (pv 0) rfl)) lk_nil))) [.val, .val, .val])))))
theorem bd_deeds (T : Top K mg) : Binds K T.fd_deeds ["world"] [] := T.F_deeds.binds fun _ _ _ _ _ _ us hl => match us, hl with | [_], _ => rfl
set_option maxHeartbeats 4000000 in
theorem ok_deeds (T : Top K mg) : FnG P w K mg base 2 T.f_deeds T.fd_deeds ["world"] (spM K mg [.bor] true m_deeds) :=
  ok_of2 (k := 1) T.F_deeds sc_deeds (lms := [.own, .val, .val, .val]) (mx := [.dead, .dead, .dead, .dead, .dead]) (ms' := [.dead, .dead, .dead, .dead, .dead]) rfl (by decide) (by decide) (by rfl) (by rfl) (by rfl) (by rfl) (by rfl) fun cdv A outer s H E X hX hgu hr F0 H0 ios W tk hp => by
  subst hX
  have nd := (sc_deeds).nd
  exact (lss_cons (ms1 := [.bor, .own, .val, .val, .val]) (ls_setO (i := 1) (lo_lst la_nil) nd rfl (by first | exact Or.inl rfl | exact Or.inr rfl))
  (lss_cons (ms1 := [.bor, .own, .val, .val, .val]) (ls_for (msh := [.bor, .own, .val, .val, .val]) (msb := [.bor, .own, .val, .val, .val]) rfl hp rfl (pi_range1 (by rfl) T.z_range (la_cons (lp_ex (le_B call_lenA ad_len T.z_len (la_cons (lp_ex (le_ix ix_seq (lp_sl (pv 0) rfl) (lp_ex le_int) ad_ix)) la_nil))) la_nil)) li_rng1 (gt_nm (i := 2) nd rfl (by first | exact Or.inl rfl | exact Or.inr rfl))
  (lss_cons (ms1 := [.bor, .own, .val, .val, .val]) (ls_set (i := 3) (le_ix ix_seq (lp_ex (le_ix ix_seq (lp_sl (pv 0) rfl) (lp_ex le_int) ad_ix)) (lp_ex (le_ask (f := fIndex) rfl PySem.F.slot_list_index PySem.F.slot_tuple_index PySem.F.type_list_index PySem.F.type_tuple_index (mt_indexL (hu65 hr)) (mt_indexT (hu65 hr)) (lp_ex (le_ix ix_seq (lp_ex (le_ix ix_seq (lp_sl (pv 0) rfl) (lp_ex le_int) ad_ix)) (lp_ex le_int) ad_ix)) (lp_ex (le_call (ioA := []) (ok_tail T) hgu (hr.mono (by decide)) T.g_tail T.F_tail.kp (bd_tail T) tk rfl rfl (la_cons (lp_sl (pv 0) rfl) (la_cons (lp_ex (le_var (pv 2) rfl)) la_nil)))))) ad_ix) nd rfl (by first | exact Or.inl rfl | exact Or.inr rfl))
  (lss_cons (ms1 := [.bor, .own, .val, .val, .val]) (ls_if (lt_cmpR op_gtC (lp_ex (le_ix ix_seq (lp_ex (le_var (pv 3) rfl)) (lp_ex le_int) ad_ix)) (lp_ex le_int) ad_cmp)
  (lss_one (ls_ex (le_append (i := 1) rfl rfl (pv 1) (lp_ex (le_tup (la_cons (lp_ex (le_ix ix_seq (lp_ex (le_ix ix_seq (lp_ex (le_ix ix_seq (lp_ex (le_ix ix_seq (lp_sl (pv 0) rfl) (lp_ex le_int) ad_ix)) (lp_ex le_int) ad_ix)) (lp_ex (le_var (pv 2) rfl)) ad_ix)) (lp_ex le_int) ad_ix)) (la_cons (lp_ex le_non) la_nil)))))))
  lss_nil)
  (lss_one (ls_for (msh := [.bor, .own, .val, .val, .val]) (msb := [.bor, .own, .val, .val, .val]) rfl hp rfl (pi_any (le_ix ix_seq (lp_ex (le_var (pv 3) rfl)) (lp_ex le_int) ad_ix)) (li_any rfl) (gt_nm (i := 4) nd rfl (by first | exact Or.inl rfl | exact Or.inr rfl))
  (lss_one (ls_ex (le_append (i := 1) rfl rfl (pv 1) (lp_ex (le_tup (la_cons (lp_ex (le_ix ix_seq (lp_ex (le_ix ix_seq (lp_ex (le_ix ix_seq (lp_ex (le_ix ix_seq (lp_sl (pv 0) rfl) (lp_ex le_int) ad_ix)) (lp_ex le_int) ad_ix)) (lp_ex (le_var (pv 2) rfl)) ad_ix)) (lp_ex le_int) ad_ix)) (la_cons (lp_ex (le_var (pv 4) rfl)) la_nil))))))))))))
  (lss_one (ls_rtV (i := 1) (pv 1) rfl))))
theorem bd_moves (T : Top K mg) : Binds K T.fd_moves ["world"] [] := T.F_moves.binds fun _ _ _ _ _ _ us hl => match us, hl with | [_], _ => rfl
set_option maxHeartbeats 4000000 in
theorem ok_moves (T : Top K mg) : FnG P w K mg base 3 T.f_moves T.fd_moves ["world"] (spM K mg [.bor] true m_moves) :=
  ok_of2 (k := 2) T.F_moves sc_moves (lms := [.own, .val, .val, .val, .val, .val, .val]) (mx := [.dead, .dead, .dead, .dead, .dead, .dead, .dead, .dead]) (ms' := [.dead, .dead, .dead, .dead, .dead, .dead, .dead, .dead]) rfl (by decide) (by decide) (by rfl) (by rfl) (by rfl) (by rfl) (by rfl) fun cdv A outer s H E X hX hgu hr F0 H0 ios W tk hp => by
  subst hX
  have nd := (sc_moves).nd
  exact (lss_cons (ms1 := [.bor, .own, .val, .val, .val, .val, .val, .val]) (ls_setO (i := 1) (lo_lst la_nil) nd rfl (by first | exact Or.inl rfl | exact Or.inr rfl))
  (lss_cons (ms1 := [.bor, .own, .val, .val, .val, .val, .val, .val]) (ls_for (msh := [.bor, .own, .val, .val, .val, .val, .val, .val]) (msb := [.bor, .own, .val, .val, .val, .val, .val, .val]) rfl hp rfl (pi_any (le_of_lo (lo_call (ioA := []) (ok_arrows T) hgu (hr.mono (by decide)) T.g_arrows T.F_arrows.kp (bd_arrows T) tk rfl rfl (la_cons (lp_sl (pv 0) rfl) la_nil)))) (li_any rfl) (gt_tupK (K := K) rfl rfl (gts_cons (ms1 := [.bor, .own, .val, .val, .val, .val, .val, .val]) (gt_nm (i := 2) nd rfl (by first | exact Or.inl rfl | exact Or.inr rfl)) (gts_cons (ms1 := [.bor, .own, .val, .val, .val, .val, .val, .val]) (gt_nm (i := 3) nd rfl (by first | exact Or.inl rfl | exact Or.inr rfl)) (gts_cons (ms1 := [.bor, .own, .val, .val, .val, .val, .val, .val]) (gt_nm (i := 4) nd rfl (by first | exact Or.inl rfl | exact Or.inr rfl)) gts_nil))))
  (lss_cons (ms1 := [.bor, .own, .val, .val, .val, .val, .val, .val]) (ls_asg (ms' := [.bor, .own, .val, .val, .val, .val, .val, .val]) rfl (le_call (ioA := []) (ok_crowd_at T) hgu (hr.mono (by decide)) T.g_crowd_at T.F_crowd_at.kp (bd_crowd_at T) tk rfl rfl (la_cons (lp_sl (pv 0) rfl) (la_cons (lp_ex (le_var (pv 3) rfl)) la_nil))) (gt_tupK (K := K) rfl rfl (gts_cons (ms1 := [.bor, .own, .val, .val, .val, .val, .val, .val]) (gt_nm (i := 5) nd rfl (by first | exact Or.inl rfl | exact Or.inr rfl)) (gts_cons (ms1 := [.bor, .own, .val, .val, .val, .val, .val, .val]) (gt_nm (i := 6) nd rfl (by first | exact Or.inl rfl | exact Or.inr rfl)) gts_nil))))
  (lss_cons (ms1 := [.bor, .own, .val, .val, .val, .val, .val, .val]) (ls_if (lt_cmpR op_gtC (lp_ex (le_var (pv 5) rfl)) (lp_ex le_int) ad_cmp)
  (lss_one (ls_ex (le_append (i := 1) rfl rfl (pv 1) (lp_ex (le_tup (la_cons (lp_ex (le_var (pv 2) rfl)) (la_cons (lp_ex le_non) la_nil)))))))
  lss_nil)
  (lss_one (ls_ex (le_extend (i := 1) rfl rfl rfl (pv 1) (lp_ex (le_of_lo (lo_lc (own := [("name", 7)]) (msb := [.bor, .own, .val, .val, .val, .val, .val, .val]) rfl rfl nd (pi_any (le_var (pv 6) rfl)) (li_any rfl) (blkOk_by (N := ["world", "found", "way", "tail", "_", "alike", "names", "name"]) (sc := defScope s_moves) (by decide +kernel)) (fun s H C cl fp => (gt_nm (i := 7) nd rfl (by first | exact Or.inl rfl | exact Or.inr rfl))) (fun s H C cl fp F0 H0 ios pr => lt_nil) (fun s H C cl fp F0 H0 ios pr => (le_tup (la_cons (lp_ex (le_var (pv 2) rfl)) (la_cons (lp_ex (le_var (pv 7) rfl)) la_nil)))))))))))))
  (lss_one (ls_rtV (i := 1) (pv 1) rfl))))
theorem bd_law (T : Top K mg) : Binds K T.fd_law ["script"] [] := T.F_law.binds fun _ _ _ _ _ _ us hl => match us, hl with | [_], _ => rfl
set_option maxHeartbeats 4000000 in
theorem ok_law (T : Top K mg) : FnG P w K mg base 7 T.f_law T.fd_law ["script"] (spM K mg [.bor] false m_law) :=
  ok_of2 (k := 6) T.F_law sc_law (lms := [.own, .val, .val, .own, .own, .val, .val, .val, .val]) (mx := [.dead, .dead, .dead, .dead, .dead, .dead, .dead, .dead, .dead, .dead]) (ms' := [.dead, .dead, .dead, .dead, .dead, .dead, .dead, .dead, .dead, .dead]) rfl (by decide) (by decide) (by rfl) (by rfl) (by rfl) (by rfl) (by rfl) fun cdv A outer s H E X hX hgu hr F0 H0 ios W tk hp => by
  subst hX
  have nd := (sc_law).nd
  exact (lss_cons (ms1 := [.bor, .own, .val, .val, .own, .own, .val, .val, .val, .val]) (ls_setO (i := 1) (lo_call (ioA := []) (ok_store T) hgu (hr.mono (by decide)) T.g_store T.F_store.kp (bd_store T) tk rfl rfl (la_cons (lp_sl (pv 0) rfl) la_nil)) nd rfl (by first | exact Or.inl rfl | exact Or.inr rfl))
  (lss_cons (ms1 := [.bor, .own, .val, .val, .own, .own, .val, .val, .val, .val]) (ls_set (i := 2) (le_call (ioA := [1]) (ok_take T) hgu (hr.mono (by decide)) T.g_take T.F_take.kp (bd_take T) tk rfl rfl (la_cons (lp_sl (pv 1) rfl) (la_cons (lp_ex le_int) la_nil))) nd rfl (by first | exact Or.inl rfl | exact Or.inr rfl))
  (lss_cons (ms1 := [.bor, .own, .val, .val, .own, .own, .val, .val, .val, .val]) (ls_set (i := 3) (le_call (ioA := [1]) (ok_drawn T) hgu (hr.mono (by decide)) T.g_drawn T.F_drawn.kp (bd_drawn T) tk rfl rfl (la_cons (lp_sl (pv 1) rfl) la_nil)) nd rfl (by first | exact Or.inl rfl | exact Or.inr rfl))
  (lss_cons (ms1 := [.bor, .own, .val, .val, .own, .own, .val, .val, .val, .val]) (ls_if (lt_cmpR (op_eqD (hu64 hr)) (lp_ex (le_B call_lenA ad_len T.z_len (la_cons (lp_ex (le_of_lo (lo_call (ioA := []) (ok_deeds T) hgu (hr.mono (by decide)) T.g_deeds T.F_deeds.kp (bd_deeds T) tk rfl rfl (la_cons (lp_ex (le_var (pv 3) rfl)) la_nil)))) la_nil))) (lp_ex le_int) ad_eq)
  (lss_one (ls_rt (le_call (ioA := []) (ok_same T) hgu (hr.mono (by decide)) T.g_same T.F_same.kp (bd_same T) tk rfl rfl (la_cons (lp_ex (le_of_lo (lo_call (ioA := []) (ok_moves T) hgu (hr.mono (by decide)) T.g_moves T.F_moves.kp (bd_moves T) tk rfl rfl (la_cons (lp_ex (le_var (pv 3) rfl)) la_nil)))) (la_cons (lp_ex (le_of_lo (lo_lst la_nil))) la_nil)))))
  lss_nil)
  (lss_cons (ms1 := [.bor, .own, .val, .val, .own, .own, .val, .val, .val, .val]) (ls_setO (i := 4) (lo_lst (la_cons (lp_ex (le_var (pv 3) rfl)) la_nil)) nd rfl (by first | exact Or.inl rfl | exact Or.inr rfl))
  (lss_cons (ms1 := [.bor, .own, .val, .val, .own, .own, .val, .val, .val, .val]) (ls_setO (i := 5) (lo_lst la_nil) nd rfl (by first | exact Or.inl rfl | exact Or.inr rfl))
  (lss_cons (ms1 := [.bor, .own, .val, .val, .own, .own, .val, .val, .val, .val]) (ls_for (msh := [.bor, .own, .val, .val, .own, .own, .val, .val, .val, .val]) (msb := [.bor, .own, .val, .val, .own, .own, .val, .val, .val, .val]) rfl hp rfl (pi_range1 (by rfl) T.z_range (la_cons (lp_ex (le_bin op_addA (lp_ex le_int) (lp_ex (le_call (ioA := [1]) (ok_take T) hgu (hr.mono (by decide)) T.g_take T.F_take.kp (bd_take T) tk rfl rfl (la_cons (lp_sl (pv 1) rfl) (la_cons (lp_ex le_int) la_nil)))) ad_add)) la_nil)) li_rng1 (gt_nm (i := 6) nd rfl (by first | exact Or.inl rfl | exact Or.inr rfl))
  (lss_cons (ms1 := [.bor, .own, .val, .val, .own, .own, .val, .val, .val, .val]) (ls_set (i := 7) (le_call (ioA := [1]) (ok_one T) hgu (hr.mono (by decide)) T.g_one T.F_one.kp (bd_one T) tk rfl rfl (la_cons (lp_sl (pv 1) rfl) (la_cons (lp_ex (le_of_lo (lo_call (ioA := []) (ok_deeds T) hgu (hr.mono (by decide)) T.g_deeds T.F_deeds.kp (bd_deeds T) tk rfl rfl (la_cons (lp_ex (le_ix ix_seq (lp_sl (pv 4) rfl) (lp_ex (le_un un_neg (lp_ex le_int) ad_neg)) ad_ix)) la_nil)))) la_nil))) nd rfl (by first | exact Or.inl rfl | exact Or.inr rfl))
  (lss_cons (ms1 := [.bor, .own, .val, .val, .own, .own, .val, .val, .val, .val]) (ls_set (i := 8) (le_call (ioA := []) (ok_after T) hgu (hr.mono (by decide)) T.g_after T.F_after.kp (bd_after T) tk rfl rfl (la_cons (lp_ex (le_ix ix_seq (lp_sl (pv 4) rfl) (lp_ex (le_un un_neg (lp_ex le_int) ad_neg)) ad_ix)) (la_cons (lp_ex (le_var (pv 7) rfl)) la_nil))) nd rfl (by first | exact Or.inl rfl | exact Or.inr rfl))
  (lss_cons (ms1 := [.bor, .own, .val, .val, .own, .own, .val, .val, .val, .val]) (ls_set (i := 9) (le_call (ioA := []) (ok_gone T) hgu (hr.mono (by decide)) T.g_gone T.F_gone.kp (bd_gone T) tk rfl rfl (la_cons (lp_ex (le_ix ix_seq (lp_sl (pv 4) rfl) (lp_ex (le_un un_neg (lp_ex le_int) ad_neg)) ad_ix)) (la_cons (lp_ex (le_var (pv 7) rfl)) (la_cons (lp_ex (le_var (pv 2) rfl)) la_nil)))) nd rfl (by first | exact Or.inl rfl | exact Or.inr rfl))
  (lss_cons (ms1 := [.bor, .own, .val, .val, .own, .own, .val, .val, .val, .val]) (ls_if (PW.pt (lw_or (lt_not (lt_tru rfl (lp_ex (le_call (ioA := []) (ok_same T) hgu (hr.mono (by decide)) T.g_same T.F_same.kp (bd_same T) tk rfl rfl (la_cons (lp_ex (le_var (pv 9) rfl)) (la_cons (lp_ex (le_var (pv 8) rfl)) la_nil)))))) (lw_or1 (lt_not (lt_tru rfl (lp_ex (le_call (ioA := []) (ok_same T) hgu (hr.mono (by decide)) T.g_same T.F_same.kp (bd_same T) tk rfl rfl (la_cons (lp_ex (le_call (ioA := []) (ok_gone T) hgu (hr.mono (by decide)) T.g_gone T.F_gone.kp (bd_gone T) tk rfl rfl (la_cons (lp_ex (le_var (pv 9) rfl)) (la_cons (lp_ex (le_var (pv 7) rfl)) (la_cons (lp_ex le_int) la_nil))))) (la_cons (lp_ex (le_ix ix_seq (lp_sl (pv 4) rfl) (lp_ex (le_un un_neg (lp_ex le_int) ad_neg)) ad_ix)) la_nil)))))))))
  (lss_one (ls_rt le_bl))
  lss_nil)
  (lss_cons (ms1 := [.bor, .own, .val, .val, .own, .own, .val, .val, .val, .val]) (ls_ex (le_append (i := 4) rfl rfl (pv 4) (lp_ex (le_var (pv 8) rfl))))
  (lss_one (ls_ex (le_append (i := 5) rfl rfl (pv 5) (lp_ex (le_var (pv 7) rfl)))))))))))
  (lss_cons (ms1 := [.bor, .own, .val, .val, .own, .own, .val, .val, .val, .val]) (ls_for (msh := [.bor, .own, .val, .val, .own, .own, .val, .val, .val, .val]) (msb := [.bor, .own, .val, .val, .own, .own, .val, .val, .val, .val]) rfl hp rfl (pi_any (le_bin op_addA (lp_ex (le_of_lo (lo_lst (la_cons (lp_ex (le_ix ix_seq (lp_sl (pv 5) rfl) (lp_ex le_int) ad_ix)) la_nil)))) (lp_ex (le_of_lo (lo_call (ioA := [1]) (ok_some T) hgu (hr.mono (by decide)) T.g_some T.F_some.kp (bd_some T) tk rfl rfl (la_cons (lp_sl (pv 1) rfl) (la_cons (lp_ex (le_of_lo (lo_call (ioA := []) (ok_deeds T) hgu (hr.mono (by decide)) T.g_deeds T.F_deeds.kp (bd_deeds T) tk rfl rfl (la_cons (lp_ex (le_var (pv 3) rfl)) la_nil)))) (la_cons (lp_ex le_int) la_nil)))))) ad_add)) (li_any rfl) (gt_nm (i := 7) nd rfl (by first | exact Or.inl rfl | exact Or.inr rfl))
  (lss_one (ls_if (lt_not (lt_tru rfl (lp_ex (le_call (ioA := []) (ok_same T) hgu (hr.mono (by decide)) T.g_same T.F_same.kp (bd_same T) tk rfl rfl (la_cons (lp_ex (le_call (ioA := []) (ok_gone T) hgu (hr.mono (by decide)) T.g_gone T.F_gone.kp (bd_gone T) tk rfl rfl (la_cons (lp_ex (le_var (pv 3) rfl)) (la_cons (lp_ex (le_var (pv 7) rfl)) (la_cons (lp_ex (le_bin op_modN (lp_ex (le_T call_int1 ad_int T.z_int (la_cons (lp_ex (le_bin op_addA (lp_ex (le_var (pv 2) rfl)) (lp_ex le_int) ad_add)) la_nil))) (lp_ex le_int) ad_mod)) la_nil))))) (la_cons (lp_ex (le_call (ioA := []) (ok_after T) hgu (hr.mono (by decide)) T.g_after T.F_after.kp (bd_after T) tk rfl rfl (la_cons (lp_ex (le_var (pv 3) rfl)) (la_cons (lp_ex (le_var (pv 7) rfl)) la_nil)))) la_nil))))))
  (lss_one (ls_rt le_bl))
  lss_nil)))
  (lss_one (ls_rt (le_call (ioA := []) (ok_same T) hgu (hr.mono (by decide)) T.g_same T.F_same.kp (bd_same T) tk rfl rfl (la_cons (lp_ex (le_call (ioA := []) (ok_gone T) hgu (hr.mono (by decide)) T.g_gone T.F_gone.kp (bd_gone T) tk rfl rfl (la_cons (lp_ex (le_ix ix_seq (lp_sl (pv 4) rfl) (lp_ex (le_un un_neg (lp_ex le_int) ad_neg)) ad_ix)) (la_cons (lp_ex (le_ix ix_seq (lp_sl (pv 5) rfl) (lp_ex (le_un un_neg (lp_ex le_int) ad_neg)) ad_ix)) (la_cons (lp_ex le_int) la_nil))))) (la_cons (lp_ex (le_ix ix_seq (lp_sl (pv 4) rfl) (lp_ex (le_un un_neg (lp_ex le_int) ad_neg)) ad_ix)) la_nil)))))))))))))
end
end K15

namespace K15
open PySem PySem.Spec PyProof.Rows L2 Mr
/-! ### what the top has written -/
theorem all_mk {l : PySem.W.OpenLaw} {w : World} {K : Fr} {h : Heap} {mg : Mg} {fa : Addr} (X : K.In h) (G : h.Ns mainGlobals mg) (hfa : mg "law" = some (.ref fa))
    {f0 : Addr} {od0 an0 : Option Addr} {sl0 : Array (Option Value)} {oc0 kV0 dc0 pm0 cd0 ct0 : Value}
    {f1 : Addr} {od1 an1 : Option Addr} {sl1 : Array (Option Value)} {oc1 kV1 dc1 pm1 cd1 ct1 : Value}
    {f2 : Addr} {od2 an2 : Option Addr} {sl2 : Array (Option Value)} {oc2 kV2 dc2 pm2 cd2 ct2 : Value}
    {f3 : Addr} {od3 an3 : Option Addr} {sl3 : Array (Option Value)} {oc3 kV3 dc3 pm3 cd3 ct3 : Value}
    {f4 : Addr} {od4 an4 : Option Addr} {sl4 : Array (Option Value)} {oc4 kV4 dc4 pm4 cd4 ct4 : Value}
    {f5 : Addr} {od5 an5 : Option Addr} {sl5 : Array (Option Value)} {oc5 kV5 dc5 pm5 cd5 ct5 : Value}
    {f6 : Addr} {od6 an6 : Option Addr} {sl6 : Array (Option Value)} {oc6 kV6 dc6 pm6 cd6 ct6 : Value}
    {f7 : Addr} {od7 an7 : Option Addr} {sl7 : Array (Option Value)} {oc7 kV7 dc7 pm7 cd7 ct7 : Value}
    {f8 : Addr} {od8 an8 : Option Addr} {sl8 : Array (Option Value)} {oc8 kV8 dc8 pm8 cd8 ct8 : Value}
    {f9 : Addr} {od9 an9 : Option Addr} {sl9 : Array (Option Value)} {oc9 kV9 dc9 pm9 cd9 ct9 : Value}
    {f10 : Addr} {od10 an10 : Option Addr} {sl10 : Array (Option Value)} {oc10 kV10 dc10 pm10 cd10 ct10 : Value}
    {f11 : Addr} {od11 an11 : Option Addr} {sl11 : Array (Option Value)} {oc11 kV11 dc11 pm11 cd11 ct11 : Value}
    {f12 : Addr} {od12 an12 : Option Addr} {sl12 : Array (Option Value)} {oc12 kV12 dc12 pm12 cd12 ct12 : Value}
    {f13 : Addr} {od13 an13 : Option Addr} {sl13 : Array (Option Value)} {oc13 kV13 dc13 pm13 cd13 ct13 : Value}
    {f14 : Addr} {od14 an14 : Option Addr} {sl14 : Array (Option Value)} {oc14 kV14 dc14 pm14 cd14 ct14 : Value}
    {f15 : Addr} {od15 an15 : Option Addr} {sl15 : Array (Option Value)} {oc15 kV15 dc15 pm15 cd15 ct15 : Value}
    {f16 : Addr} {od16 an16 : Option Addr} {sl16 : Array (Option Value)} {oc16 kV16 dc16 pm16 cd16 ct16 : Value}
    {f17 : Addr} {od17 an17 : Option Addr} {sl17 : Array (Option Value)} {oc17 kV17 dc17 pm17 cd17 ct17 : Value}
    {f18 : Addr} {od18 an18 : Option Addr} {sl18 : Array (Option Value)} {oc18 kV18 dc18 pm18 cd18 ct18 : Value}
    {f19 : Addr} {od19 an19 : Option Addr} {sl19 : Array (Option Value)} {oc19 kV19 dc19 pm19 cd19 ct19 : Value}
    {f20 : Addr} {od20 an20 : Option Addr} {sl20 : Array (Option Value)} {oc20 kV20 dc20 pm20 cd20 ct20 : Value}
    {f21 : Addr} {od21 an21 : Option Addr} {sl21 : Array (Option Value)} {oc21 kV21 dc21 pm21 cd21 ct21 : Value}
    {f22 : Addr} {od22 an22 : Option Addr} {sl22 : Array (Option Value)} {oc22 kV22 dc22 pm22 cd22 ct22 : Value}
    {f23 : Addr} {od23 an23 : Option Addr} {sl23 : Array (Option Value)} {oc23 kV23 dc23 pm23 cd23 ct23 : Value}
    {f24 : Addr} {od24 an24 : Option Addr} {sl24 : Array (Option Value)} {oc24 kV24 dc24 pm24 cd24 ct24 : Value}
    {f25 : Addr} {od25 an25 : Option Addr} {sl25 : Array (Option Value)} {oc25 kV25 dc25 pm25 cd25 ct25 : Value}
    {f26 : Addr} {od26 an26 : Option Addr} {sl26 : Array (Option Value)} {oc26 kV26 dc26 pm26 cd26 ct26 : Value}
    {f27 : Addr} {od27 an27 : Option Addr} {sl27 : Array (Option Value)} {oc27 kV27 dc27 pm27 cd27 ct27 : Value}
    {f28 : Addr} {od28 an28 : Option Addr} {sl28 : Array (Option Value)} {oc28 kV28 dc28 pm28 cd28 ct28 : Value}
    {f29 : Addr} {od29 an29 : Option Addr} {sl29 : Array (Option Value)} {oc29 kV29 dc29 pm29 cd29 ct29 : Value} {dV29 : Value}
    {f30 : Addr} {od30 an30 : Option Addr} {sl30 : Array (Option Value)} {oc30 kV30 dc30 pm30 cd30 ct30 : Value}
    {f31 : Addr} {od31 an31 : Option Addr} {sl31 : Array (Option Value)} {oc31 kV31 dc31 pm31 cd31 ct31 : Value}
    {f32 : Addr} {od32 an32 : Option Addr} {sl32 : Array (Option Value)} {oc32 kV32 dc32 pm32 cd32 ct32 : Value}
    {f33 : Addr} {od33 an33 : Option Addr} {sl33 : Array (Option Value)} {oc33 kV33 dc33 pm33 cd33 ct33 : Value}
    {xTE xa_Unknown xa_NoDeed : Addr}
    {yf_Unknown : Addr} {yd_Unknown yn_Unknown : Option Addr} {ys_Unknown : Array (Option Value)} {y1_Unknown y2_Unknown y3_Unknown y4_Unknown y5_Unknown y6_Unknown : Value}
    {yf_NoDeed : Addr} {yd_NoDeed yn_NoDeed : Option Addr} {ys_NoDeed : Array (Option Value)} {y1_NoDeed y2_NoDeed y3_NoDeed y4_NoDeed y5_NoDeed y6_NoDeed : Value}
    (a0 : PySem.W.nsIn K mainGlobals "_law_store" = some (some (.ref f0))) (l0 : K.lookup f0 = some ⟨oc0, od0, .func (PySem.W.fnOf "_law_store" "_law_store" (defArgs s_store) (defBody s_store) (defScope s_store) .none kV0 dc0 pm0 an0 cd0 ct0), sl0⟩) (c0 : PySem.W.codeIn K cd0 "_law_store" = true) (k0 : PySem.W.keepIn K (.ref f0) = true)
    (a1 : PySem.W.nsIn K mainGlobals "_law_take" = some (some (.ref f1))) (l1 : K.lookup f1 = some ⟨oc1, od1, .func (PySem.W.fnOf "_law_take" "_law_take" (defArgs s_take) (defBody s_take) (defScope s_take) .none kV1 dc1 pm1 an1 cd1 ct1), sl1⟩) (c1 : PySem.W.codeIn K cd1 "_law_take" = true) (k1 : PySem.W.keepIn K (.ref f1) = true)
    (a2 : PySem.W.nsIn K mainGlobals "_law_one" = some (some (.ref f2))) (l2 : K.lookup f2 = some ⟨oc2, od2, .func (PySem.W.fnOf "_law_one" "_law_one" (defArgs s_one) (defBody s_one) (defScope s_one) .none kV2 dc2 pm2 an2 cd2 ct2), sl2⟩) (c2 : PySem.W.codeIn K cd2 "_law_one" = true) (k2 : PySem.W.keepIn K (.ref f2) = true)
    (a3 : PySem.W.nsIn K mainGlobals "_law_range" = some (some (.ref f3))) (l3 : K.lookup f3 = some ⟨oc3, od3, .func (PySem.W.fnOf "_law_range" "_law_range" (defArgs s_range) (defBody s_range) (defScope s_range) .none kV3 dc3 pm3 an3 cd3 ct3), sl3⟩) (c3 : PySem.W.codeIn K cd3 "_law_range" = true) (k3 : PySem.W.keepIn K (.ref f3) = true)
    (a4 : PySem.W.nsIn K mainGlobals "_law_name" = some (some (.ref f4))) (l4 : K.lookup f4 = some ⟨oc4, od4, .func (PySem.W.fnOf "_law_name" "_law_name" (defArgs s_name) (defBody s_name) (defScope s_name) .none kV4 dc4 pm4 an4 cd4 ct4), sl4⟩) (c4 : PySem.W.codeIn K cd4 "_law_name" = true) (k4 : PySem.W.keepIn K (.ref f4) = true)
    (a5 : PySem.W.nsIn K mainGlobals "_law_new_name" = some (some (.ref f5))) (l5 : K.lookup f5 = some ⟨oc5, od5, .func (PySem.W.fnOf "_law_new_name" "_law_new_name" (defArgs s_new_name) (defBody s_new_name) (defScope s_new_name) .none kV5 dc5 pm5 an5 cd5 ct5), sl5⟩) (c5 : PySem.W.codeIn K cd5 "_law_new_name" = true) (k5 : PySem.W.keepIn K (.ref f5) = true)
    (a6 : PySem.W.nsIn K mainGlobals "_law_fresh" = some (some (.ref f6))) (l6 : K.lookup f6 = some ⟨oc6, od6, .func (PySem.W.fnOf "_law_fresh" "_law_fresh" (defArgs s_fresh) (defBody s_fresh) (defScope s_fresh) .none kV6 dc6 pm6 an6 cd6 ct6), sl6⟩) (c6 : PySem.W.codeIn K cd6 "_law_fresh" = true) (k6 : PySem.W.keepIn K (.ref f6) = true)
    (a7 : PySem.W.nsIn K mainGlobals "_law_build" = some (some (.ref f7))) (l7 : K.lookup f7 = some ⟨oc7, od7, .func (PySem.W.fnOf "_law_build" "_law_build" (defArgs s_build) (defBody s_build) (defScope s_build) .none kV7 dc7 pm7 an7 cd7 ct7), sl7⟩) (c7 : PySem.W.codeIn K cd7 "_law_build" = true) (k7 : PySem.W.keepIn K (.ref f7) = true)
    (a8 : PySem.W.nsIn K mainGlobals "_law_upto" = some (some (.ref f8))) (l8 : K.lookup f8 = some ⟨oc8, od8, .func (PySem.W.fnOf "_law_upto" "_law_upto" (defArgs s_upto) (defBody s_upto) (defScope s_upto) .none kV8 dc8 pm8 an8 cd8 ct8), sl8⟩) (c8 : PySem.W.codeIn K cd8 "_law_upto" = true) (k8 : PySem.W.keepIn K (.ref f8) = true)
    (a9 : PySem.W.nsIn K mainGlobals "_law_some" = some (some (.ref f9))) (l9 : K.lookup f9 = some ⟨oc9, od9, .func (PySem.W.fnOf "_law_some" "_law_some" (defArgs s_some) (defBody s_some) (defScope s_some) .none kV9 dc9 pm9 an9 cd9 ct9), sl9⟩) (c9 : PySem.W.codeIn K cd9 "_law_some" = true) (k9 : PySem.W.keepIn K (.ref f9) = true)
    (a10 : PySem.W.nsIn K mainGlobals "_law_drawn" = some (some (.ref f10))) (l10 : K.lookup f10 = some ⟨oc10, od10, .func (PySem.W.fnOf "_law_drawn" "_law_drawn" (defArgs s_drawn) (defBody s_drawn) (defScope s_drawn) .none kV10 dc10 pm10 an10 cd10 ct10), sl10⟩) (c10 : PySem.W.codeIn K cd10 "_law_drawn" = true) (k10 : PySem.W.keepIn K (.ref f10) = true)
    (a11 : PySem.W.nsIn K mainGlobals "_law_same" = some (some (.ref f11))) (l11 : K.lookup f11 = some ⟨oc11, od11, .func (PySem.W.fnOf "_law_same" "_law_same" (defArgs s_same) (defBody s_same) (defScope s_same) .none kV11 dc11 pm11 an11 cd11 ct11), sl11⟩) (c11 : PySem.W.codeIn K cd11 "_law_same" = true) (k11 : PySem.W.keepIn K (.ref f11) = true)
    (a12 : PySem.W.nsIn K mainGlobals "_law_tail" = some (some (.ref f12))) (l12 : K.lookup f12 = some ⟨oc12, od12, .func (PySem.W.fnOf "_law_tail" "_law_tail" (defArgs s_tail) (defBody s_tail) (defScope s_tail) .none kV12 dc12 pm12 an12 cd12 ct12), sl12⟩) (c12 : PySem.W.codeIn K cd12 "_law_tail" = true) (k12 : PySem.W.keepIn K (.ref f12) = true)
    (a13 : PySem.W.nsIn K mainGlobals "_law_links" = some (some (.ref f13))) (l13 : K.lookup f13 = some ⟨oc13, od13, .func (PySem.W.fnOf "_law_links" "_law_links" (defArgs s_links) (defBody s_links) (defScope s_links) .none kV13 dc13 pm13 an13 cd13 ct13), sl13⟩) (c13 : PySem.W.codeIn K cd13 "_law_links" = true) (k13 : PySem.W.keepIn K (.ref f13) = true)
    (a14 : PySem.W.nsIn K mainGlobals "_law_plain" = some (some (.ref f14))) (l14 : K.lookup f14 = some ⟨oc14, od14, .func (PySem.W.fnOf "_law_plain" "_law_plain" (defArgs s_plain) (defBody s_plain) (defScope s_plain) .none kV14 dc14 pm14 an14 cd14 ct14), sl14⟩) (c14 : PySem.W.codeIn K cd14 "_law_plain" = true) (k14 : PySem.W.keepIn K (.ref f14) = true)
    (a15 : PySem.W.nsIn K mainGlobals "_law_homes" = some (some (.ref f15))) (l15 : K.lookup f15 = some ⟨oc15, od15, .func (PySem.W.fnOf "_law_homes" "_law_homes" (defArgs s_homes) (defBody s_homes) (defScope s_homes) .none kV15 dc15 pm15 an15 cd15 ct15), sl15⟩) (c15 : PySem.W.codeIn K cd15 "_law_homes" = true) (k15 : PySem.W.keepIn K (.ref f15) = true)
    (a16 : PySem.W.nsIn K mainGlobals "_law_after" = some (some (.ref f16))) (l16 : K.lookup f16 = some ⟨oc16, od16, .func (PySem.W.fnOf "_law_after" "_law_after" (defArgs s_after) (defBody s_after) (defScope s_after) .none kV16 dc16 pm16 an16 cd16 ct16), sl16⟩) (c16 : PySem.W.codeIn K cd16 "_law_after" = true) (k16 : PySem.W.keepIn K (.ref f16) = true)
    (a17 : PySem.W.nsIn K mainGlobals "way_names" = some (some (.ref f17))) (l17 : K.lookup f17 = some ⟨oc17, od17, .func (PySem.W.fnOf "way_names" "way_names" (defArgs s_way_names) (defBody s_way_names) (defScope s_way_names) .none kV17 dc17 pm17 an17 cd17 ct17), sl17⟩) (c17 : PySem.W.codeIn K cd17 "way_names" = true) (k17 : PySem.W.keepIn K (.ref f17) = true)
    (a18 : PySem.W.nsIn K mainGlobals "name_spots" = some (some (.ref f18))) (l18 : K.lookup f18 = some ⟨oc18, od18, .func (PySem.W.fnOf "name_spots" "name_spots" (defArgs s_name_spots) (defBody s_name_spots) (defScope s_name_spots) .none kV18 dc18 pm18 an18 cd18 ct18), sl18⟩) (c18 : PySem.W.codeIn K cd18 "name_spots" = true) (k18 : PySem.W.keepIn K (.ref f18) = true)
    (a19 : PySem.W.nsIn K mainGlobals "walker_names" = some (some (.ref f19))) (l19 : K.lookup f19 = some ⟨oc19, od19, .func (PySem.W.fnOf "walker_names" "walker_names" (defArgs s_walker_names) (defBody s_walker_names) (defScope s_walker_names) .none kV19 dc19 pm19 an19 cd19 ct19), sl19⟩) (c19 : PySem.W.codeIn K cd19 "walker_names" = true) (k19 : PySem.W.keepIn K (.ref f19) = true)
    (a20 : PySem.W.nsIn K mainGlobals "check_deeds" = some (some (.ref f20))) (l20 : K.lookup f20 = some ⟨oc20, od20, .func (PySem.W.fnOf "check_deeds" "check_deeds" (defArgs s_check_deeds) (defBody s_check_deeds) (defScope s_check_deeds) .none kV20 dc20 pm20 an20 cd20 ct20), sl20⟩) (c20 : PySem.W.codeIn K cd20 "check_deeds" = true) (k20 : PySem.W.keepIn K (.ref f20) = true)
    (a21 : PySem.W.nsIn K mainGlobals "crowd_at" = some (some (.ref f21))) (l21 : K.lookup f21 = some ⟨oc21, od21, .func (PySem.W.fnOf "crowd_at" "crowd_at" (defArgs s_crowd_at) (defBody s_crowd_at) (defScope s_crowd_at) .none kV21 dc21 pm21 an21 cd21 ct21), sl21⟩) (c21 : PySem.W.codeIn K cd21 "crowd_at" = true) (k21 : PySem.W.keepIn K (.ref f21) = true)
    (a22 : PySem.W.nsIn K mainGlobals "arrows_to" = some (some (.ref f22))) (l22 : K.lookup f22 = some ⟨oc22, od22, .func (PySem.W.fnOf "arrows_to" "arrows_to" (defArgs s_arrows_to) (defBody s_arrows_to) (defScope s_arrows_to) .none kV22 dc22 pm22 an22 cd22 ct22), sl22⟩) (c22 : PySem.W.codeIn K cd22 "arrows_to" = true) (k22 : PySem.W.keepIn K (.ref f22) = true)
    (a23 : PySem.W.nsIn K mainGlobals "arrows" = some (some (.ref f23))) (l23 : K.lookup f23 = some ⟨oc23, od23, .func (PySem.W.fnOf "arrows" "arrows" (defArgs s_arrows) (defBody s_arrows) (defScope s_arrows) .none kV23 dc23 pm23 an23 cd23 ct23), sl23⟩) (c23 : PySem.W.codeIn K cd23 "arrows" = true) (k23 : PySem.W.keepIn K (.ref f23) = true)
    (a24 : PySem.W.nsIn K mainGlobals "way_at" = some (some (.ref f24))) (l24 : K.lookup f24 = some ⟨oc24, od24, .func (PySem.W.fnOf "way_at" "way_at" (defArgs s_way_at) (defBody s_way_at) (defScope s_way_at) .none kV24 dc24 pm24 an24 cd24 ct24), sl24⟩) (c24 : PySem.W.codeIn K cd24 "way_at" = true) (k24 : PySem.W.keepIn K (.ref f24) = true)
    (a25 : PySem.W.nsIn K mainGlobals "refusal" = some (some (.ref f25))) (l25 : K.lookup f25 = some ⟨oc25, od25, .func (PySem.W.fnOf "refusal" "refusal" (defArgs s_refusal) (defBody s_refusal) (defScope s_refusal) .none kV25 dc25 pm25 an25 cd25 ct25), sl25⟩) (c25 : PySem.W.codeIn K cd25 "refusal" = true) (k25 : PySem.W.keepIn K (.ref f25) = true)
    (a26 : PySem.W.nsIn K mainGlobals "without_walker" = some (some (.ref f26))) (l26 : K.lookup f26 = some ⟨oc26, od26, .func (PySem.W.fnOf "without_walker" "without_walker" (defArgs s_without_walker) (defBody s_without_walker) (defScope s_without_walker) .none kV26 dc26 pm26 an26 cd26 ct26), sl26⟩) (c26 : PySem.W.codeIn K cd26 "without_walker" = true) (k26 : PySem.W.keepIn K (.ref f26) = true)
    (a27 : PySem.W.nsIn K mainGlobals "with_walker" = some (some (.ref f27))) (l27 : K.lookup f27 = some ⟨oc27, od27, .func (PySem.W.fnOf "with_walker" "with_walker" (defArgs s_with_walker) (defBody s_with_walker) (defScope s_with_walker) .none kV27 dc27 pm27 an27 cd27 ct27), sl27⟩) (c27 : PySem.W.codeIn K cd27 "with_walker" = true) (k27 : PySem.W.keepIn K (.ref f27) = true)
    (a28 : PySem.W.nsIn K mainGlobals "walked" = some (some (.ref f28))) (l28 : K.lookup f28 = some ⟨oc28, od28, .func (PySem.W.fnOf "walked" "walked" (defArgs s_walked) (defBody s_walked) (defScope s_walked) .none kV28 dc28 pm28 an28 cd28 ct28), sl28⟩) (c28 : PySem.W.codeIn K cd28 "walked" = true) (k28 : PySem.W.keepIn K (.ref f28) = true)
    (a29 : PySem.W.nsIn K mainGlobals "go" = some (some (.ref f29))) (l29 : K.lookup f29 = some ⟨oc29, od29, .func (PySem.W.fnOf "go" "go" (defArgs s_go) (defBody s_go) (defScope s_go) dV29 kV29 dc29 pm29 an29 cd29 ct29), sl29⟩) (c29 : PySem.W.codeIn K cd29 "go" = true) (k29 : PySem.W.keepIn K (.ref f29) = true) (v29 : He.dflB K dV29 [.non] = true)
    (a30 : PySem.W.nsIn K mainGlobals "_law_gone" = some (some (.ref f30))) (l30 : K.lookup f30 = some ⟨oc30, od30, .func (PySem.W.fnOf "_law_gone" "_law_gone" (defArgs s_gone) (defBody s_gone) (defScope s_gone) .none kV30 dc30 pm30 an30 cd30 ct30), sl30⟩) (c30 : PySem.W.codeIn K cd30 "_law_gone" = true) (k30 : PySem.W.keepIn K (.ref f30) = true)
    (a31 : PySem.W.nsIn K mainGlobals "_law_deeds" = some (some (.ref f31))) (l31 : K.lookup f31 = some ⟨oc31, od31, .func (PySem.W.fnOf "_law_deeds" "_law_deeds" (defArgs s_deeds) (defBody s_deeds) (defScope s_deeds) .none kV31 dc31 pm31 an31 cd31 ct31), sl31⟩) (c31 : PySem.W.codeIn K cd31 "_law_deeds" = true) (k31 : PySem.W.keepIn K (.ref f31) = true)
    (a32 : PySem.W.nsIn K mainGlobals "moves" = some (some (.ref f32))) (l32 : K.lookup f32 = some ⟨oc32, od32, .func (PySem.W.fnOf "moves" "moves" (defArgs s_moves) (defBody s_moves) (defScope s_moves) .none kV32 dc32 pm32 an32 cd32 ct32), sl32⟩) (c32 : PySem.W.codeIn K cd32 "moves" = true) (k32 : PySem.W.keepIn K (.ref f32) = true)
    (a33 : PySem.W.nsIn K mainGlobals "law" = some (some (.ref f33))) (l33 : K.lookup f33 = some ⟨oc33, od33, .func (PySem.W.fnOf "law" "law" (defArgs s_law) (defBody s_law) (defScope s_law) .none kV33 dc33 pm33 an33 cd33 ct33), sl33⟩) (c33 : PySem.W.codeIn K cd33 "law" = true) (k33 : PySem.W.keepIn K (.ref f33) = true)
    (xaT : PySem.W.nsIn K mainGlobals "TurnError" = some (some (.ref xTE)))
    (xq_Unknown : PySem.W.nsIn K mainGlobals "Unknown" = some (some (.ref xa_Unknown)))
    (xq_NoDeed : PySem.W.nsIn K mainGlobals "NoDeed" = some (some (.ref xa_NoDeed)))
    (xb_Unknown : xcB K xa_Unknown xTE ["what", "name"] = true)
    (xb_NoDeed : xcB K xa_NoDeed xTE ["index", "way", "cause"] = true)
    (xnd : (xTE :: [xa_Unknown, xa_NoDeed]).Nodup) (xt1 : (PySem.W.clsIn K xTE).isSome = true) (xt2 : PySem.W.typeIn K (.ref xTE) = some (.type "type")) (xt3 : PySem.W.subIn K (.ref xTE) (.type "BaseException") = some true) (xsp : PySem.W.specialIn K (.builtin "object.__class__") "__get__" = some (some (.builtin "getset_descriptor.__get__"))) (xtk : PySem.W.takesIn K (.builtin "object.__class__") = some true)
    (yi_Unknown : PySem.W.findIn K (.ref xa_Unknown) "__init__" = some (some (.ref yf_Unknown))) (yl_Unknown : K.lookup yf_Unknown = some ⟨y1_Unknown, yd_Unknown, .func (PySem.W.fnOf "__init__" "Unknown.__init__" (defArgs si_Unknown) (defBody si_Unknown) (defScope si_Unknown) .none y2_Unknown y3_Unknown y4_Unknown yn_Unknown y5_Unknown y6_Unknown), ys_Unknown⟩) (yc_Unknown : PySem.W.codeIn K y5_Unknown "Unknown.__init__" = true) (yk_Unknown : PySem.W.keepIn K (.ref yf_Unknown) = true) (yt_Unknown : PySem.W.typeIn K (.ref yf_Unknown) = some (.type "function"))
    (yi_NoDeed : PySem.W.findIn K (.ref xa_NoDeed) "__init__" = some (some (.ref yf_NoDeed))) (yl_NoDeed : K.lookup yf_NoDeed = some ⟨y1_NoDeed, yd_NoDeed, .func (PySem.W.fnOf "__init__" "NoDeed.__init__" (defArgs si_NoDeed) (defBody si_NoDeed) (defScope si_NoDeed) .none y2_NoDeed y3_NoDeed y4_NoDeed yn_NoDeed y5_NoDeed y6_NoDeed), ys_NoDeed⟩) (yc_NoDeed : PySem.W.codeIn K y5_NoDeed "NoDeed.__init__" = true) (yk_NoDeed : PySem.W.keepIn K (.ref yf_NoDeed) = true) (yt_NoDeed : PySem.W.typeIn K (.ref yf_NoDeed) = some (.type "function"))
    (z_bool : PySem.W.nsIn K mainGlobals "bool" = some none)
    (z_int : PySem.W.nsIn K mainGlobals "int" = some none)
    (z_isinstance : PySem.W.nsIn K mainGlobals "isinstance" = some none)
    (z_len : PySem.W.nsIn K mainGlobals "len" = some none)
    (z_list : PySem.W.nsIn K mainGlobals "list" = some none)
    (z_max : PySem.W.nsIn K mainGlobals "max" = some none)
    (z_min : PySem.W.nsIn K mainGlobals "min" = some none)
    (z_range : PySem.W.nsIn K mainGlobals "range" = some none)
    (z_sorted : PySem.W.nsIn K mainGlobals "sorted" = some none)
    (z_str : PySem.W.nsIn K mainGlobals "str" = some none)
    (z_sum : PySem.W.nsIn K mainGlobals "sum" = some none)
    (z_tuple : PySem.W.nsIn K mainGlobals "tuple" = some none)
    (z_zip : PySem.W.nsIn K mainGlobals "zip" = some none)
    : ∃ fd : FuncData, (∀ (s : Shared) (v : Value), BindsTo s fd ⟨[v], []⟩ [("script", v)]) ∧ ∀ base : Heap, K.In base → base.Ns mainGlobals mg → FnG l.prog w K mg base 7 fa fd ["script"] (fun vs H Q E => ∀ mg, spM K mg [.bor] false m_law vs H Q E) := by
  have e := hfa.symm.trans (PySem.W.mg_of X G a33)
  cases e
  exact ⟨PySem.W.fnOf "law" "law" (defArgs s_law) (defBody s_law) (defScope s_law) .none kV33 dc33 pm33 an33 cd33 ct33, fun s v => .of_eq rfl, fun base _ _ => (ok_law (K := K) (mg := mg) {
    f_store := f0, fd_store := _, F_store := fun_mk (st := s_store) l0 c0 k0, g_store := PySem.W.mg_of X G a0,
    f_take := f1, fd_take := _, F_take := fun_mk (st := s_take) l1 c1 k1, g_take := PySem.W.mg_of X G a1,
    f_one := f2, fd_one := _, F_one := fun_mk (st := s_one) l2 c2 k2, g_one := PySem.W.mg_of X G a2,
    f_range := f3, fd_range := _, F_range := fun_mk (st := s_range) l3 c3 k3, g_range := PySem.W.mg_of X G a3,
    f_name := f4, fd_name := _, F_name := fun_mk (st := s_name) l4 c4 k4, g_name := PySem.W.mg_of X G a4,
    f_new_name := f5, fd_new_name := _, F_new_name := fun_mk (st := s_new_name) l5 c5 k5, g_new_name := PySem.W.mg_of X G a5,
    f_fresh := f6, fd_fresh := _, F_fresh := fun_mk (st := s_fresh) l6 c6 k6, g_fresh := PySem.W.mg_of X G a6,
    f_build := f7, fd_build := _, F_build := fun_mk (st := s_build) l7 c7 k7, g_build := PySem.W.mg_of X G a7,
    f_upto := f8, fd_upto := _, F_upto := fun_mk (st := s_upto) l8 c8 k8, g_upto := PySem.W.mg_of X G a8,
    f_some := f9, fd_some := _, F_some := fun_mk (st := s_some) l9 c9 k9, g_some := PySem.W.mg_of X G a9,
    f_drawn := f10, fd_drawn := _, F_drawn := fun_mk (st := s_drawn) l10 c10 k10, g_drawn := PySem.W.mg_of X G a10,
    f_same := f11, fd_same := _, F_same := fun_mk (st := s_same) l11 c11 k11, g_same := PySem.W.mg_of X G a11,
    f_tail := f12, fd_tail := _, F_tail := fun_mk (st := s_tail) l12 c12 k12, g_tail := PySem.W.mg_of X G a12,
    f_links := f13, fd_links := _, F_links := fun_mk (st := s_links) l13 c13 k13, g_links := PySem.W.mg_of X G a13,
    f_plain := f14, fd_plain := _, F_plain := fun_mk (st := s_plain) l14 c14 k14, g_plain := PySem.W.mg_of X G a14,
    f_homes := f15, fd_homes := _, F_homes := fun_mk (st := s_homes) l15 c15 k15, g_homes := PySem.W.mg_of X G a15,
    f_after := f16, fd_after := _, F_after := fun_mk (st := s_after) l16 c16 k16, g_after := PySem.W.mg_of X G a16,
    f_way_names := f17, fd_way_names := _, F_way_names := fun_mk (st := s_way_names) l17 c17 k17, g_way_names := PySem.W.mg_of X G a17,
    f_name_spots := f18, fd_name_spots := _, F_name_spots := fun_mk (st := s_name_spots) l18 c18 k18, g_name_spots := PySem.W.mg_of X G a18,
    f_walker_names := f19, fd_walker_names := _, F_walker_names := fun_mk (st := s_walker_names) l19 c19 k19, g_walker_names := PySem.W.mg_of X G a19,
    f_check_deeds := f20, fd_check_deeds := _, F_check_deeds := fun_mk (st := s_check_deeds) l20 c20 k20, g_check_deeds := PySem.W.mg_of X G a20,
    f_crowd_at := f21, fd_crowd_at := _, F_crowd_at := fun_mk (st := s_crowd_at) l21 c21 k21, g_crowd_at := PySem.W.mg_of X G a21,
    f_arrows_to := f22, fd_arrows_to := _, F_arrows_to := fun_mk (st := s_arrows_to) l22 c22 k22, g_arrows_to := PySem.W.mg_of X G a22,
    f_arrows := f23, fd_arrows := _, F_arrows := fun_mk (st := s_arrows) l23 c23 k23, g_arrows := PySem.W.mg_of X G a23,
    f_way_at := f24, fd_way_at := _, F_way_at := fun_mk (st := s_way_at) l24 c24 k24, g_way_at := PySem.W.mg_of X G a24,
    f_refusal := f25, fd_refusal := _, F_refusal := fun_mk (st := s_refusal) l25 c25 k25, g_refusal := PySem.W.mg_of X G a25,
    f_without_walker := f26, fd_without_walker := _, F_without_walker := fun_mk (st := s_without_walker) l26 c26 k26, g_without_walker := PySem.W.mg_of X G a26,
    f_with_walker := f27, fd_with_walker := _, F_with_walker := fun_mk (st := s_with_walker) l27 c27 k27, g_with_walker := PySem.W.mg_of X G a27,
    f_walked := f28, fd_walked := _, F_walked := fun_mk (st := s_walked) l28 c28 k28, g_walked := PySem.W.mg_of X G a28,
    f_go := f29, fd_go := _, F_go := funE_mk (st := s_go) l29 c29 k29 v29, g_go := PySem.W.mg_of X G a29,
    f_gone := f30, fd_gone := _, F_gone := fun_mk (st := s_gone) l30 c30 k30, g_gone := PySem.W.mg_of X G a30,
    f_deeds := f31, fd_deeds := _, F_deeds := fun_mk (st := s_deeds) l31 c31 k31, g_deeds := PySem.W.mg_of X G a31,
    f_moves := f32, fd_moves := _, F_moves := fun_mk (st := s_moves) l32 c32 k32, g_moves := PySem.W.mg_of X G a32,
    f_law := fa, fd_law := _, F_law := fun_mk (st := s_law) l33 c33 k33, g_law := PySem.W.mg_of X G a33,
    x_TurnError := xTE, xg_TurnError := PySem.W.mg_of X G xaT,
    x_Unknown := xa_Unknown,
    x_NoDeed := xa_NoDeed,
    xt := ⟨by
      intro p hp
      simp only [List.mem_cons, List.not_mem_nil, or_false] at hp
      rcases hp with rfl | rfl
      · exact ⟨PySem.W.mg_of X G xq_Unknown, xb_Unknown⟩
      · exact ⟨PySem.W.mg_of X G xq_NoDeed, xb_NoDeed⟩, xnd, ⟨xt1, xt2, xt3⟩, xsp, xtk⟩,
    fi_Unknown := yf_Unknown, fdi_Unknown := _, Fi_Unknown := fun_mk (st := si_Unknown) yl_Unknown yc_Unknown yk_Unknown, xi_Unknown := yi_Unknown, xy_Unknown := yt_Unknown,
    fi_NoDeed := yf_NoDeed, fdi_NoDeed := _, Fi_NoDeed := fun_mk (st := si_NoDeed) yl_NoDeed yc_NoDeed yk_NoDeed, xi_NoDeed := yi_NoDeed, xy_NoDeed := yt_NoDeed,
    z_bool := PySem.W.mg_none_of X G z_bool,
    z_int := PySem.W.mg_none_of X G z_int,
    z_isinstance := PySem.W.mg_none_of X G z_isinstance,
    z_len := PySem.W.mg_none_of X G z_len,
    z_list := PySem.W.mg_none_of X G z_list,
    z_max := PySem.W.mg_none_of X G z_max,
    z_min := PySem.W.mg_none_of X G z_min,
    z_range := PySem.W.mg_none_of X G z_range,
    z_sorted := PySem.W.mg_none_of X G z_sorted,
    z_str := PySem.W.mg_none_of X G z_str,
    z_sum := PySem.W.mg_none_of X G z_sum,
    z_tuple := PySem.W.mg_none_of X G z_tuple,
    z_zip := PySem.W.mg_none_of X G z_zip }).imp fun _ _ _ _ q => q mg⟩
end K15
open PySem PySem.W PyProof.Rows
set_option maxHeartbeats 0 in
theorem PySem.Challenge.cw_turnbehind_k15_go_moves_one_walker_holds : PySem.Challenge.rw_turnbehind_k15_go_moves_one_walker.Holds := by
  w_on; o_law; k_head; (case hw => w_witness2)
  k_fill
  refine Mr.walk_G (l := PySem.Challenge.rw_turnbehind_k15_go_moves_one_walker) (n := 63) (k := 7) (x := "script") (sp := fun w vs H Q E => ∀ mg, Mr.spM _ mg [.bor] false K15.m_law vs H Q E) rfl (by decide) rfl ⟨rfl, by decide, by decide⟩ (fun w h Y => PySem.W.kIn_of Y) ?F (fun _ _ a ns hl _ hS mg => Mr.law_sp (by first | exact .inl rfl | exact .inr rfl) hS (K15.law_true ns hl))
  case F =>
    intro w mg fa h KX G hmg
    refine' K15.all_mk KX G hmg ?a0 ?l0 ?c0 ?k0 ?a1 ?l1 ?c1 ?k1 ?a2 ?l2 ?c2 ?k2 ?a3 ?l3 ?c3 ?k3 ?a4 ?l4 ?c4 ?k4 ?a5 ?l5 ?c5 ?k5 ?a6 ?l6 ?c6 ?k6 ?a7 ?l7 ?c7 ?k7 ?a8 ?l8 ?c8 ?k8 ?a9 ?l9 ?c9 ?k9 ?a10 ?l10 ?c10 ?k10 ?a11 ?l11 ?c11 ?k11 ?a12 ?l12 ?c12 ?k12 ?a13 ?l13 ?c13 ?k13 ?a14 ?l14 ?c14 ?k14 ?a15 ?l15 ?c15 ?k15 ?a16 ?l16 ?c16 ?k16 ?a17 ?l17 ?c17 ?k17 ?a18 ?l18 ?c18 ?k18 ?a19 ?l19 ?c19 ?k19 ?a20 ?l20 ?c20 ?k20 ?a21 ?l21 ?c21 ?k21 ?a22 ?l22 ?c22 ?k22 ?a23 ?l23 ?c23 ?k23 ?a24 ?l24 ?c24 ?k24 ?a25 ?l25 ?c25 ?k25 ?a26 ?l26 ?c26 ?k26 ?a27 ?l27 ?c27 ?k27 ?a28 ?l28 ?c28 ?k28 ?a29 ?l29 ?c29 ?k29 ?v29 ?a30 ?l30 ?c30 ?k30 ?a31 ?l31 ?c31 ?k31 ?a32 ?l32 ?c32 ?k32 ?a33 ?l33 ?c33 ?k33 ?xaT ?xq_Unknown ?xq_NoDeed ?xb_Unknown ?xb_NoDeed ?xnd ?xt1 ?xt2 ?xt3 ?xsp ?xtk ?yi_Unknown ?yl_Unknown ?yc_Unknown ?yk_Unknown ?yt_Unknown ?yi_NoDeed ?yl_NoDeed ?yc_NoDeed ?yk_NoDeed ?yt_NoDeed ?z_bool ?z_int ?z_isinstance ?z_len ?z_list ?z_max ?z_min ?z_range ?z_sorted ?z_str ?z_sum ?z_tuple ?z_zip
    (case a0 => k_is); (case l0 => k_is); (case c0 => k_is); (case k0 => k_is); (case a1 => k_is); (case l1 => k_is); (case c1 => k_is); (case k1 => k_is); (case a2 => k_is); (case l2 => k_is); (case c2 => k_is); (case k2 => k_is); (case a3 => k_is); (case l3 => k_is); (case c3 => k_is); (case k3 => k_is); (case a4 => k_is); (case l4 => k_is); (case c4 => k_is); (case k4 => k_is); (case a5 => k_is); (case l5 => k_is); (case c5 => k_is); (case k5 => k_is); (case a6 => k_is); (case l6 => k_is); (case c6 => k_is); (case k6 => k_is); (case a7 => k_is); (case l7 => k_is); (case c7 => k_is); (case k7 => k_is); (case a8 => k_is); (case l8 => k_is); (case c8 => k_is); (case k8 => k_is); (case a9 => k_is); (case l9 => k_is); (case c9 => k_is); (case k9 => k_is); (case a10 => k_is); (case l10 => k_is); (case c10 => k_is); (case k10 => k_is); (case a11 => k_is); (case l11 => k_is); (case c11 => k_is); (case k11 => k_is); (case a12 => k_is); (case l12 => k_is); (case c12 => k_is); (case k12 => k_is); (case a13 => k_is); (case l13 => k_is); (case c13 => k_is); (case k13 => k_is); (case a14 => k_is); (case l14 => k_is); (case c14 => k_is); (case k14 => k_is); (case a15 => k_is); (case l15 => k_is); (case c15 => k_is); (case k15 => k_is); (case a16 => k_is); (case l16 => k_is); (case c16 => k_is); (case k16 => k_is); (case a17 => k_is); (case l17 => k_is); (case c17 => k_is); (case k17 => k_is); (case a18 => k_is); (case l18 => k_is); (case c18 => k_is); (case k18 => k_is); (case a19 => k_is); (case l19 => k_is); (case c19 => k_is); (case k19 => k_is); (case a20 => k_is); (case l20 => k_is); (case c20 => k_is); (case k20 => k_is); (case a21 => k_is); (case l21 => k_is); (case c21 => k_is); (case k21 => k_is); (case a22 => k_is); (case l22 => k_is); (case c22 => k_is); (case k22 => k_is); (case a23 => k_is); (case l23 => k_is); (case c23 => k_is); (case k23 => k_is); (case a24 => k_is); (case l24 => k_is); (case c24 => k_is); (case k24 => k_is); (case a25 => k_is); (case l25 => k_is); (case c25 => k_is); (case k25 => k_is); (case a26 => k_is); (case l26 => k_is); (case c26 => k_is); (case k26 => k_is); (case a27 => k_is); (case l27 => k_is); (case c27 => k_is); (case k27 => k_is); (case a28 => k_is); (case l28 => k_is); (case c28 => k_is); (case k28 => k_is); (case a29 => k_is); (case l29 => k_is); (case c29 => k_is); (case k29 => k_is); (case v29 => kernel_rfl); (case a30 => k_is); (case l30 => k_is); (case c30 => k_is); (case k30 => k_is); (case a31 => k_is); (case l31 => k_is); (case c31 => k_is); (case k31 => k_is); (case a32 => k_is); (case l32 => k_is); (case c32 => k_is); (case k32 => k_is); (case a33 => k_is); (case l33 => k_is); (case c33 => k_is); (case k33 => k_is); (case xaT => k_is); (case xq_Unknown => k_is); (case xq_NoDeed => k_is); (case xb_Unknown => kernel_rfl); (case xb_NoDeed => kernel_rfl); (case xnd => decide); (case xt1 => kernel_rfl); (case xt2 => k_is); (case xt3 => k_is); (case xsp => k_is); (case xtk => k_is); (case yi_Unknown => k_is); (case yl_Unknown => k_is); (case yc_Unknown => k_is); (case yk_Unknown => k_is); (case yt_Unknown => k_is); (case yi_NoDeed => k_is); (case yl_NoDeed => k_is); (case yc_NoDeed => k_is); (case yk_NoDeed => k_is); (case yt_NoDeed => k_is); (case z_bool => k_is); (case z_int => k_is); (case z_isinstance => k_is); (case z_len => k_is); (case z_list => k_is); (case z_max => k_is); (case z_min => k_is); (case z_range => k_is); (case z_sorted => k_is); (case z_str => k_is); (case z_sum => k_is); (case z_tuple => k_is); (case z_zip => k_is)

