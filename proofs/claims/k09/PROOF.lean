import PyProof.Rows.All
import HandS.ForMost
import HandS.TupLe
import HandS.TupAny
import HandS.CallSlots
import HandS.Exc
import HandS.Wide
import HandS.IsInst
import HandS.RaiseMore
import HandS.Flow
import HandS.Style
import HandS.Lambda
import KE.DataCmp
import KE.DataEq
import PyProof.ReprRoads
import HandS.Comp
import HandS.Ends
import HandS.WordsExc
import PyProof.ReprLen
import HandS.Star
import HandS.Iter
import HandS.Text
import KE.GoesEnum
import HandS.TupMul
import HandS.Defaults
import HandS.DictComp
import HandS.Zip
import PyProof.Rows.SetFrom
import PyProof.TupleKey
import HandS.Base
import HandS.Call
import HandS.TupSets
import HandS.ExcInit
import HandS.ExcSuper
import KE.KExcSuper
import HandS.ExcIs
import HandS.ExcField
import KE.KExcIs
import PyProof.Rows.IntBool
import HandS.FStr
import HandS.StrMore
import HandS.SetFor
import PySem.Challenge.RW_farasnothing_k09_stamps_of_any_kind
set_option Elab.async false
set_option linter.all false
set_option maxRecDepth 100000
/-! Mi: a mirror in plain Lean of what a def does, over values W and a store of mutable things; and why a def keeps to its mirror. -/
namespace Mi
open PySem PySem.Spec PyProof.Rows L2

/-- a value as the mirror has it: data as trees, a mutable thing by its number in the store -/
inductive W where
  | non | bl (b : Bool) | int (i : Int) | str (s : Str) | tup (xs : List W) | lst (xs : List W) | frz (xs : List W) | ref (n : Nat) | dic (ks : List Key) (xs : List W)

inductive O where
  | lst (xs : List W)
  /-- an instance of an own class: its class, its fields -/
  | ins (C : Nat) (fs : List (Str × W))
  /-- a dict that will change -/
  | dct (kvs : List (Key × W))

abbrev Store := List O

/-- where the things of a store stand -/
structure Wh where
  ρ : Nat → Addr
  n : Nat
  H : Hp
  /-- lists that are being made, which no value leads to -/
  x : List Addr

def Wh.out (p : Wh) (a : Addr) : Prop := (∀ i, i < p.n → p.ρ i ≠ a) ∧ a ∉ p.x

structure Xc where
  cls : Str
  args : List (Str × W)

inductive Res (α : Type) where
  | ok (a : α) (st : Store)
  | exc (x : Xc) (st : Store)
  | bad

def Res.bind {α β : Type} (r : Res α) (k : α → Store → Res β) : Res β :=
  match r with
  | .ok a st => k a st
  | .exc x st => .exc x st
  | .bad => .bad

/-- where the own classes stand, by numbers of the mirror's -/
class ClsMap where
  pos : Nat → Addr
  /-- the tables of code objects that grow: where they stand, what their lambdas are called -/
  tabs : List (Addr × Str) := []
abbrev cl [c : ClsMap] (n : Nat) : Addr := c.pos n
variable [ClsMap]
/-! ### tables of code objects -/
def NoTbl (o : HO) : Prop := ∀ ps, o ≠ .tbl ps
def NoCode (o : HO) : Prop := ∀ c q, o ≠ LamX.CodeO c q
def TabI (x : List Addr) (H : Hp) : Prop := LamX.Tabs ClsMap.tabs H ∧ ∀ a ps, H a = some (.tbl ps) → a ∈ x
theorem TabI.upd {x : List Addr} {H : Hp} {a : Addr} {o : HO} (t : TabI x H) (h : ∀ o', H a = some o' → NoTbl o' ∧ NoCode o') (no : NoTbl o) : TabI x (upd H a o) := by
  refine ⟨fun p hp => ?_, fun b ps e => ?_⟩
  · obtain ⟨ps, h1, h2, h3⟩ := t.1 p hp
    refine ⟨ps, ?_, h2, fun pos cv hc => ?_⟩
    · rw [upd_ne (fun e => (h _ (by rw [← e]; exact h1)).1 ps rfl)]
      exact h1
    · obtain ⟨c, e1, e2⟩ := h3 pos cv hc
      refine ⟨c, e1, ?_⟩
      rw [upd_ne (fun e => (h _ (by rw [← e]; exact e2)).2 c p.2 rfl)]
      exact e2
  · by_cases hb : b = a
    · rw [hb, upd_same] at e
      exact absurd (Option.some.inj e) (no ps)
    · rw [upd_ne hb] at e
      exact t.2 b ps e
theorem TabI.new {x : List Addr} {H : Hp} {a : Addr} {o : HO} (t : TabI x H) (h : H a = none) (no : NoTbl o) : TabI x (L2.upd H a o) := t.upd (fun o' e => by
  rw [h] at e
  cases e) no
theorem TabI.more {x : List Addr} {H : Hp} {D : Addr} (t : TabI x H) : TabI (D :: x) H := ⟨t.1, fun a ps e => List.mem_cons_of_mem _ (t.2 a ps e)⟩
theorem TabI.less {x : List Addr} {H : Hp} {D : Addr} (t : TabI (D :: x) H) (h : ∀ ps, H D ≠ some (.tbl ps)) : TabI x H := ⟨t.1, fun a ps e => by
  rcases List.mem_cons.mp (t.2 a ps e) with z | z
  · rw [z] at e
    exact absurd e (h ps)
  · exact z⟩
section
variable (K : PySem.W.Frag)
def TupAt (p : Wh) (a : Addr) (vs : List V) : Prop := (Rd p.H a (.tup vs) ∧ p.out a) ∨ SqT K (fun _ => none) a vs
def LstAt (p : Wh) (a : Addr) (vs : List V) : Prop := p.H a = some (.lst vs) ∧ p.out a
def FrzAt (p : Wh) (a : Addr) (vs : List V) : Prop := (Rd p.H a (.lst vs) ∧ p.out a) ∨ SqL K (fun _ => none) a vs

mutual
def RW (p : Wh) : W → V → Prop
  | .non, v => v = .non
  | .bl b, v => v = .bl b
  | .int i, v => v = .int i
  | .str s, v => v = .str s
  | .tup xs, v => ∃ a vs, v = .ref a ∧ TupAt K p a vs ∧ RWs p xs vs
  | .lst xs, v => ∃ a vs, v = .ref a ∧ LstAt p a vs ∧ RWs p xs vs
  | .frz xs, v => ∃ a vs, v = .ref a ∧ FrzAt K p a vs ∧ RWs p xs vs
  | .ref n, v => n < p.n ∧ v = .ref (p.ρ n)
  | .dic ks xs, v => ∃ a gs, v = .ref a ∧ p.H a = some (.dK gs) ∧ p.out a ∧ gs.map (·.1) = ks ∧ RWs p xs (gs.map (·.2))
def RWs (p : Wh) : List W → List V → Prop
  | [], vs => vs = []
  | x :: xs, vs => ∃ v r, vs = v :: r ∧ RW p x v ∧ RWs p xs r
end

def RO (p : Wh) : O → Option HO → Prop
  | .lst xs, h => ∃ vs, h = some (.lst vs) ∧ RWs K p xs vs
  | .ins C fs, h => ∃ dx gs, h = some (.ins (cl C) dx gs) ∧ gs.map (·.1) = fs.map (·.1) ∧ RWs K p (fs.map (·.2)) (gs.map (·.2))
  | .dct fs, h => ∃ gs, h = some (.dK gs) ∧ gs.map (·.1) = fs.map (·.1) ∧ RWs K p (fs.map (·.2)) (gs.map (·.2))

structure SR (p : Wh) (st : Store) : Prop where
  tab : TabI p.x p.H
  len : p.n = st.length
  inj : ∀ i j, i < p.n → j < p.n → p.ρ i = p.ρ j → i = j
  obj : ∀ (i : Nat) (o : O), st[i]? = some o → RO K p o (p.H (p.ρ i))
  hid : ∀ a, a ∈ p.x → p.H a ≠ none ∧ ∀ i, i < p.n → p.ρ i ≠ a
end

/-- from p to q: what values lead to is kept -/
structure Mv (p q : Wh) : Prop where
  le : p.n ≤ q.n
  same : ∀ i, i < p.n → q.ρ i = p.ρ i
  keep : ∀ a o, p.H a = some o → p.out a → q.H a = some o
  new : ∀ i, p.n ≤ i → i < q.n → p.H (q.ρ i) = none ∨ q.ρ i ∈ p.x
  there : ∀ i, i < q.n → q.H (q.ρ i) ≠ none
  hx : ∀ a, a ∈ q.x → a ∈ p.x ∨ p.H a = none
  hth : ∀ a, a ∈ p.x → q.H a ≠ none
structure Step (p q : Wh) : Prop extends Mv p q where
  xs : q.x = p.x
  hk : ∀ a, a ∈ p.x → (∀ ps, p.H a ≠ some (.tbl ps)) → q.H a = p.H a

theorem RO.some {K : PySem.W.Frag} {p : Wh} {o : O} {h : Option HO} (r : RO K p o h) : h ≠ none := by
  cases o with
  | lst xs =>
    obtain ⟨vs, e, _⟩ := r
    rw [e]
    exact fun z => nomatch z
  | ins C fs =>
    obtain ⟨dx, gs, e, _⟩ := r
    rw [e]
    exact fun z => nomatch z
  | dct fs =>
    obtain ⟨gs, e, _⟩ := r
    rw [e]
    exact fun z => nomatch z

theorem RO.plain {K : PySem.W.Frag} {p : Wh} {o : O} {h : HO} (r : RO K p o (Option.some h)) : NoTbl h ∧ NoCode h := by
  cases o with
  | lst xs =>
    obtain ⟨vs, e, _⟩ := r
    cases e
    exact ⟨fun _ z => (nomatch z), fun c q z => by
      unfold LamX.CodeO at z
      cases z⟩
  | ins C fs =>
    obtain ⟨dx, gs, e, _⟩ := r
    cases e
    exact ⟨fun _ z => (nomatch z), fun c q z => by
      unfold LamX.CodeO at z
      cases z⟩
  | dct fs =>
    obtain ⟨gs, e, _⟩ := r
    cases e
    exact ⟨fun _ z => (nomatch z), fun c q z => by
      unfold LamX.CodeO at z
      cases z⟩
theorem noCode_lst {vs : List V} : NoCode (.lst vs) := fun c q z => by
  unfold LamX.CodeO at z
  cases z
theorem noCode_dK {vs : List (Key × V)} : NoCode (.dK vs) := fun c q z => by
  unfold LamX.CodeO at z
  cases z
section
variable {K : PySem.W.Frag} {p q r : Wh} {st st' : Store}
theorem SR.plainAt (s : SR K p st) {n : Nat} (hn : n < p.n) : ∀ o', p.H (p.ρ n) = some o' → NoTbl o' ∧ NoCode o' := fun o' e => by
  have hl : n < st.length := s.len ▸ hn
  have r := s.obj n st[n] (List.getElem?_eq_getElem hl)
  rw [e] at r
  exact r.plain
theorem SR.there (s : SR K p st) (i : Nat) (h : i < p.n) : p.H (p.ρ i) ≠ none := by
  have hl : i < st.length := s.len ▸ h
  exact (s.obj i st[i] (List.getElem?_eq_getElem hl)).some
theorem Step.refl (s : SR K p st) : Step p p :=
  ⟨⟨Nat.le_refl _, fun _ _ => rfl, fun _ _ h _ => h, fun i h1 h2 => absurd h2 (by omega), s.there, fun a h => .inl h, fun a h => (s.hid a h).1⟩, rfl, fun _ _ _ => rfl⟩
theorem Mv.out (s : Mv p q) {a : Addr} {o : HO} (h : p.H a = some o) (u : p.out a) : q.out a := by
  refine ⟨fun i hi e => ?_, fun hx => ?_⟩
  · by_cases hp : i < p.n
    · exact u.1 i hp ((s.same i hp).symm.trans e)
    · rcases s.new i (by omega) hi with z | z
      · rw [e, h] at z
        cases z
      · rw [e] at z
        exact u.2 z
  · rcases s.hx a hx with z | z
    · exact u.2 z
    · rw [h] at z
      cases z
theorem Mv.noneB (s : Mv p q) {a : Addr} (h : q.H a = none) (hx : a ∉ p.x) : p.H a = none := by
  cases e : p.H a with
  | none => rfl
  | some o =>
    exfalso
    by_cases u : ∀ i, i < p.n → p.ρ i ≠ a
    · rw [s.keep _ _ e ⟨u, hx⟩] at h
      cases h
    · have u' : ∃ j, j < p.n ∧ p.ρ j = a := Classical.byContradiction fun c => u fun j hj ej => c ⟨j, hj, ej⟩
      obtain ⟨j, hj, ej⟩ := u'
      have w := s.there j (Nat.lt_of_lt_of_le hj s.le)
      rw [s.same j hj, ej, h] at w
      exact w rfl
theorem Mv.trans (s : Mv p q) (t : Mv q r) : Mv p r := by
  have back : ∀ a, q.H a = none → p.H a = none := fun a h => s.noneB h fun z => s.hth a z h
  refine ⟨Nat.le_trans s.le t.le, fun i h => (t.same i (Nat.lt_of_lt_of_le h s.le)).trans (s.same i h), fun a o h u => t.keep a o (s.keep a o h u) (s.out h u), fun i h1 h2 => ?_, t.there, fun a h => ?_, fun a h => ?_⟩
  · by_cases hq : i < q.n
    · rw [t.same i hq]
      exact s.new i h1 hq
    · rcases t.new i (by omega) h2 with z | z
      · exact .inl (back _ z)
      · exact (s.hx _ z).symm
  · rcases t.hx a h with z | z
    · exact s.hx a z
    · exact .inr (back a z)
  · intro z
    by_cases hq : a ∈ q.x
    · exact t.hth a hq z
    · exact s.hth a h (t.noneB z hq)
theorem Step.trans (s : Step p q) (t : Step q r) : Step p r :=
  ⟨s.toMv.trans t.toMv, t.xs.trans s.xs, fun a h n => (t.hk a (by rw [s.xs]; exact h) (by rw [s.hk a h n]; exact n)).trans (s.hk a h n)⟩
theorem Step.out (s : Step p q) {a : Addr} {o : HO} (h : p.H a = some o) (u : p.out a) : q.out a := s.toMv.out h u

theorem rd_step (s : Mv p q) {a : Addr} {u : HO} (h : Rd p.H a u) (o : p.out a) : Rd q.H a u ∧ q.out a := by
  rcases h with h | ⟨ob, h⟩
  · exact ⟨.inl (s.keep _ _ h o), s.out h o⟩
  · exact ⟨.inr ⟨ob, s.keep _ _ h o⟩, s.out h o⟩

mutual
theorem RW.move (s : Mv p q) : ∀ (w : W) (v : V), RW K p w v → RW K q w v
  | .non, v, h => h
  | .bl b, v, h => h
  | .int i, v, h => h
  | .str x, v, h => h
  | .tup xs, v, ⟨a, vs, e, h, k⟩ => ⟨a, vs, e, h.imp (fun z => rd_step s z.1 z.2) (fun z => z), RWs.move s xs vs k⟩
  | .lst xs, v, ⟨a, vs, e, h, k⟩ => ⟨a, vs, e, ⟨s.keep _ _ h.1 h.2, s.out h.1 h.2⟩, RWs.move s xs vs k⟩
  | .frz xs, v, ⟨a, vs, e, h, k⟩ => ⟨a, vs, e, h.imp (fun z => rd_step s z.1 z.2) (fun z => z), RWs.move s xs vs k⟩
  | .ref n, v, ⟨h, e⟩ => ⟨Nat.lt_of_lt_of_le h s.le, by rw [e, s.same n h]⟩
  | .dic ks xs, v, ⟨a, gs, e, h, o, m, k⟩ => ⟨a, gs, e, s.keep _ _ h o, s.out h o, m, RWs.move s xs _ k⟩
theorem RWs.move (s : Mv p q) : ∀ (ws : List W) (vs : List V), RWs K p ws vs → RWs K q ws vs
  | [], vs, h => h
  | x :: xs, vs, ⟨v, r, e, h, k⟩ => ⟨v, r, e, RW.move s x v h, RWs.move s xs r k⟩
end

theorem RW.step (s : Step p q) (w : W) (v : V) (h : RW K p w v) : RW K q w v := RW.move s.toMv w v h
theorem RWs.step (s : Step p q) (ws : List W) (vs : List V) (h : RWs K p ws vs) : RWs K q ws vs := RWs.move s.toMv ws vs h
theorem RWs.length : ∀ {ws : List W} {vs : List V}, RWs K p ws vs → ws.length = vs.length
  | [], vs, h => by
    have h' : vs = [] := h
    rw [h']
    rfl
  | x :: xs, vs, ⟨v, r, e, _, k⟩ => by
    rw [e, List.length_cons, List.length_cons, RWs.length k]
theorem RWs.get : ∀ {ws : List W} {vs : List V} {i : Nat} {w : W}, RWs K p ws vs → ws[i]? = some w → ∃ v, vs[i]? = some v ∧ RW K p w v
  | [], vs, i, w, _, e => by simp at e
  | x :: xs, vs, 0, w, ⟨v, r, e, h, k⟩, e2 => by
    have e3 : x = w := by simpa using e2
    rw [← e3, e]
    exact ⟨v, rfl, h⟩
  | x :: xs, vs, i + 1, w, ⟨v, r, e, h, k⟩, e2 => by
    rw [e]
    exact RWs.get (i := i) k (by simpa using e2)
theorem RWs.getV : ∀ {ws : List W} {vs : List V} {i : Nat} {v : V}, RWs K p ws vs → vs[i]? = some v → ∃ w, ws[i]? = some w ∧ RW K p w v
  | [], vs, i, v, h, e => by
    have h' : vs = [] := h
    rw [h'] at e
    simp at e
  | x :: xs, vs, 0, v, ⟨v', r, e, h, k⟩, e2 => by
    rw [e] at e2
    have e3 : v' = v := by simpa using e2
    rw [← e3]
    exact ⟨x, rfl, h⟩
  | x :: xs, vs, i + 1, v, ⟨v', r, e, h, k⟩, e2 => by
    rw [e] at e2
    exact RWs.getV (i := i) k (by simpa using e2)
theorem RWs.append : ∀ {ws us : List W} {vs xs : List V}, RWs K p ws vs → RWs K p us xs → RWs K p (ws ++ us) (vs ++ xs)
  | [], us, vs, xs, h, h2 => by
    have h' : vs = [] := h
    rw [h']
    exact h2
  | y :: ys, us, vs, xs, ⟨v, r, e, h, k⟩, h2 => by
    rw [e]
    exact ⟨v, r ++ xs, rfl, h, RWs.append k h2⟩
theorem RWs.drop : ∀ {ws : List W} {vs : List V} (n : Nat), RWs K p ws vs → RWs K p (ws.drop n) (vs.drop n)
  | ws, vs, 0, h => h
  | [], vs, n + 1, h => by
    have h' : vs = [] := h
    rw [h']
    exact (rfl : ([] : List V) = [])
  | y :: ys, vs, n + 1, ⟨v, r, e, h, k⟩ => by
    rw [e]
    exact RWs.drop n k
theorem RWs.take : ∀ {ws : List W} {vs : List V} (n : Nat), RWs K p ws vs → RWs K p (ws.take n) (vs.take n)
  | ws, vs, 0, h => by
    show RWs K p [] (vs.take 0)
    exact (rfl : ([] : List V) = [])
  | [], vs, n + 1, h => by
    have h' : vs = [] := h
    rw [h']
    exact (rfl : ([] : List V) = [])
  | y :: ys, vs, n + 1, ⟨v, r, e, h, k⟩ => by
    rw [e]
    exact ⟨v, r.take n, rfl, h, RWs.take n k⟩
theorem RWs.set : ∀ {ws : List W} {vs : List V} (i : Nat) {w : W} {v : V}, RWs K p ws vs → RW K p w v → RWs K p (ws.set i w) (vs.set i v)
  | [], vs, i, w, v, h, _ => by
    have h' : vs = [] := h
    rw [h']
    exact (rfl : ([] : List V) = [])
  | y :: ys, vs, 0, w, v, ⟨v', r, e, h, k⟩, h2 => by
    rw [e]
    exact ⟨v, r, rfl, h2, k⟩
  | y :: ys, vs, i + 1, w, v, ⟨v', r, e, h, k⟩, h2 => by
    rw [e]
    exact ⟨v', r.set i v, rfl, h, RWs.set i k h2⟩

theorem TupAt.seq {a : Addr} {vs : List V} (h : TupAt K p a vs) : SqT K p.H a vs := by
  rcases h with h | h
  · exact .inl h.1
  · rcases h with h | h
    · rcases h with h | ⟨_, h⟩ <;> cases h
    · exact .inr h
theorem FrzAt.seq {a : Addr} {vs : List V} (h : FrzAt K p a vs) : SqL K p.H a vs := by
  rcases h with h | h
  · exact .inl h.1
  · rcases h with h | h
    · rcases h with h | ⟨_, h⟩ <;> cases h
    · exact .inr h

/-! ### frames -/
abbrev En := List (Option W)
end
section
variable (K : PySem.W.Frag)
structure EnvR (p : Wh) (env : En) (σ : L2.St) : Prop where
  len : env.length = σ.length
  get : ∀ (i : Nat) (w : W), env[i]? = some (some w) → ∃ v, σ[i]? = some (some v) ∧ RW K p w v
end
section
variable {K : PySem.W.Frag} {p q : Wh} {env : En} {σ : L2.St}
theorem EnvR.move (e : EnvR K p env σ) (s : Mv p q) : EnvR K q env σ := ⟨e.len, fun i w h => by
  obtain ⟨v, h1, h2⟩ := e.get i w h
  exact ⟨v, h1, RW.move s w v h2⟩⟩
theorem EnvR.step (e : EnvR K p env σ) (s : Step p q) : EnvR K q env σ := e.move s.toMv
theorem EnvR.set (e : EnvR K p env σ) (i : Nat) {w : W} {v : V} (h : RW K p w v) : EnvR K p (env.set i (some w)) (σ.set i (some v)) := by
  refine ⟨by rw [List.length_set, List.length_set, e.len], fun j w' hj => ?_⟩
  by_cases hi : i = j
  · subst hi
    by_cases hl : i < env.length
    · rw [List.getElem?_set_self hl] at hj
      cases hj
      exact ⟨v, List.getElem?_set_self (e.len ▸ hl), h⟩
    · rw [List.getElem?_eq_none (by simpa using hl)] at hj
      cases hj
  · rw [List.getElem?_set_ne hi] at hj
    rw [List.getElem?_set_ne hi]
    exact e.get j w' hj
theorem EnvR.unset (e : EnvR K p env σ) (i : Nat) (o : Option V) : EnvR K p (env.set i none) (σ.set i o) := by
  refine ⟨by rw [List.length_set, List.length_set, e.len], fun j w' hj => ?_⟩
  by_cases hi : i = j
  · subst hi
    by_cases hl : i < env.length
    · rw [List.getElem?_set_self hl] at hj
      cases hj
    · rw [List.getElem?_eq_none (by simpa using hl)] at hj
      cases hj
  · rw [List.getElem?_set_ne hi] at hj
    rw [List.getElem?_set_ne hi]
    exact e.get j w' hj
end
end Mi

namespace Mi
open PySem PySem.Spec PyProof.Rows L2
variable [ClsMap]

/-! ### what is wanted of a result -/
/-- an exception of an own class, its fields in its own dict -/
def XR (K : PySem.W.Frag) (mg : Str → Option Value) (p : Wh) (x : Xc) (cls : Value) (d : Option Addr) : Prop :=
  ∃ C, mg x.cls = some (.ref C) ∧ cls = .ref C ∧ ∃ dx fs, d = some dx ∧ p.H dx = some (.xd fs) ∧ p.out dx ∧ fs.map (·.1) = x.args.map (·.1) ∧ RWs K p (x.args.map (·.2)) (fs.map (·.2))

def Fin {α β : Type} (K : PySem.W.Frag) (mg : Str → Option Value) (R : Wh → α → β → Prop) (Wx : WX) (p : Wh) (σ : L2.St) (Q : β → Hp → Prop) : Res α → Prop
  | .ok a st => ∀ (q : Wh) (b : β), Step p q → SR K q st → R q a b → Q b q.H
  | .exc x st => ∀ (q : Wh) (cls : Value) (d : Option Addr), Step p q → SR K q st → XR K mg q x cls d → Wx cls d σ q.H
  | .bad => False

abbrev Ev (α : Type) := En → Store → Res α

def tG {α β : Type} (K : PySem.W.Frag) (mg : Str → Option Value) (R : Wh → α → β → Prop) (Wx : WX) (m : Ev α) : L2.St → Hp → (β → Hp → Prop) → Prop := fun σ H Q =>
  ∃ (p : Wh) (st : Store) (env : En), p.H = H ∧ SR K p st ∧ EnvR K p env σ ∧ Fin K mg R Wx p σ Q (m env st)

section
variable {K : PySem.W.Frag} {mg : Str → Option Value} {α β γ δ : Type} {R : Wh → α → β → Prop} {R2 : Wh → γ → δ → Prop} {Wx : WX} {p q : Wh} {σ : L2.St} {Q : β → Hp → Prop} {Q2 : δ → Hp → Prop} {st : Store} {env : En} {H : Hp}
theorem Fin.later {r : Res α} (s : Step p q) (h : Fin K mg R Wx p σ Q r) : Fin K mg R Wx q σ Q r := by
  cases r with
  | ok a st => exact fun z b t => h z b (s.trans t)
  | exc x st => exact fun z c d t => h z c d (s.trans t)
  | bad => exact h
theorem Fin.mono {r : Res α} {Q' : β → Hp → Prop} (h : Fin K mg R Wx p σ Q r) (i : ∀ b H, Q b H → Q' b H) : Fin K mg R Wx p σ Q' r := by
  cases r with
  | ok a st => exact fun z b t s u => i _ _ (h z b t s u)
  | exc x st => exact h
  | bad => exact h
/-- one step, then the rest -/
theorem tG_bind {m : Ev α} {k : α → Store → Res γ} (hp : p.H = H) (S : SR K p st) (E : EnvR K p env σ) (h : Fin K mg R2 Wx p σ Q2 ((m env st).bind k))
    (hq : ∀ (q : Wh) (st' : Store) (a : α) (b : β), Step p q → SR K q st' → EnvR K q env σ → R q a b → Fin K mg R2 Wx q σ Q2 (k a st') → Q b q.H) : tG K mg R Wx m σ H Q := by
  refine ⟨p, st, env, hp, S, E, ?_⟩
  cases e : m env st with
  | ok a st' =>
    rw [e] at h
    exact fun q b t s r => hq q st' a b t s (E.step t) r (Fin.later t h)
  | exc x st' =>
    rw [e] at h
    exact h
  | bad =>
    rw [e] at h
    exact h
theorem tG_mono {m : Ev α} {Q' : β → Hp → Prop} (i : ∀ b H, Q b H → Q' b H) : tG K mg R Wx m σ H Q → tG K mg R Wx m σ H Q' := fun ⟨p, st, env, hp, S, E, h⟩ => ⟨p, st, env, hp, S, E, h.mono i⟩
end

theorem PEimp {X : Cx} {e : Expr} {t t' : TE} (h : PE X e t) (i : ∀ σ H Q, t' σ H Q → t σ H Q) : PE X e t' := ⟨fun pins s σ H Q I z => h.run pins s σ H Q I (i σ H Q z)⟩
theorem PAimp {X : Cx} {e : List Expr} {t t' : TA} (h : PA X e t) (i : ∀ σ H Q, t' σ H Q → t σ H Q) : PA X e t' := ⟨fun pos pins s σ H Q I z => h.run pos pins s σ H Q I (i σ H Q z)⟩
theorem PTimp {X : Cx} {e : Expr} {t t' : TT} (h : PT X e t) (i : ∀ σ H Q, t' σ H Q → t σ H Q) : PT X e t' := ⟨fun pins s σ H Q I z => h.run pins s σ H Q I (i σ H Q z)⟩
theorem PWimp {X : Cx} {e : Expr} {t t' : TT} (h : PW X e t) (i : ∀ σ H Q, t' σ H Q → t σ H Q) : PW X e t' := ⟨fun w pins s σ H Q I z => h.run w pins s σ H Q I (i σ H Q z)⟩

abbrev eqR : Wh → Bool → Bool → Prop := fun _ a b => a = b
abbrev GE (X : Cx) (Wx : WX) (e : Expr) (m : Ev W) : Prop := PE X e (tG X.K X.mg (RW X.K) Wx m)
abbrev GA (X : Cx) (Wx : WX) (e : List Expr) (m : Ev (List W)) : Prop := PA X e (tG X.K X.mg (RWs X.K) Wx m)
abbrev GT (X : Cx) (Wx : WX) (e : Expr) (m : Ev Bool) : Prop := PT X e (tG X.K X.mg eqR Wx m)
abbrev GW (X : Cx) (Wx : WX) (e : Expr) (m : Ev Bool) : Prop := PW X e (tG X.K X.mg eqR Wx m)

/-! ### the mirror's words -/
def mC (w : W) : Ev W := fun _ st => .ok w st
def mV (i : Nat) : Ev W := fun env st => match env[i]? with
  | some (some w) => .ok w st
  | _ => .bad
def mOp (f : W → W → Store → Res W) (a b : Ev W) : Ev W := fun env st => (a env st).bind fun x s1 => (b env s1).bind fun y s2 => f x y s2
def mUn (f : W → Store → Res W) (a : Ev W) : Ev W := fun env st => (a env st).bind fun x s1 => f x s1
def mNil : Ev (List W) := fun _ st => .ok [] st
def mCons (a : Ev W) (r : Ev (List W)) : Ev (List W) := fun env st => (a env st).bind fun x s1 => (r env s1).bind fun xs s2 => .ok (x :: xs) s2
def mCall (f : List W → Store → Res W) (a : Ev (List W)) : Ev W := fun env st => (a env st).bind fun xs s1 => f xs s1
def mTup (a : Ev (List W)) : Ev W := mCall (fun xs st => if xs.length ≤ 100000 then .ok (.tup xs) st else .bad) a
def mLst (a : Ev (List W)) : Ev W := mCall (fun xs st => if xs.length ≤ 100000 then .ok (.lst xs) st else .bad) a
/-- a list that will change -/
def mNew (a : Ev (List W)) : Ev W := mCall (fun xs st => if xs.length ≤ 100000 then .ok (.ref st.length) (st ++ [.lst xs]) else .bad) a
def mIf (t : Ev Bool) (a b : Ev W) : Ev W := fun env st => (t env st).bind fun c s1 => if c = true then a env s1 else b env s1
def asB : W → Store → Res Bool
  | .bl b, st => .ok b st
  | _, _ => .bad
def mB (a : Ev W) : Ev Bool := fun env st => (a env st).bind asB
def mAnd (t u : Ev Bool) : Ev Bool := fun env st => (t env st).bind fun c s1 => if c = true then u env s1 else .ok false s1
def mOr (t u : Ev Bool) : Ev Bool := fun env st => (t env st).bind fun c s1 => if c = true then .ok true s1 else u env s1
def mNot (t : Ev Bool) : Ev Bool := fun env st => (t env st).bind fun c s1 => .ok (!c) s1
def mAndV (a b : Ev W) : Ev W := fun env st => (mB a env st).bind fun c s1 => if c = true then b env s1 else .ok (.bl false) s1
def mOrV (a b : Ev W) : Ev W := fun env st => (mB a env st).bind fun c s1 => if c = true then .ok (.bl true) s1 else b env s1
def mNotV (a : Ev W) : Ev W := fun env st => (mB a env st).bind fun c s1 => .ok (.bl (!c)) s1

section
variable {X : Cx} {Wx : WX} {a b c e : Expr} {es : List Expr} {ma mb : Ev W} {mt mu : Ev Bool} {ml : Ev (List W)} {pos : Pos}
theorem ge_var (i : Nat) {x : Str} (hN : X.N[i]? = some x := by rfl) (hv : Vis X.env.scope x := by first | exact Or.inl rfl | exact Or.inr (Or.inl rfl) | exact Or.inr (Or.inr rfl)) (hd : (x == ("__debug__" : Str)) = false := by decide)
    (hcd : (x == ("__classdict__" : Str)) = false := by decide) : GE X Wx (.Name x pos) (mV i) := by
  refine PEimp (pe_var hN hv hd hcd) fun σ H Q ⟨p, st, env, hp, S, E, h⟩ => ?_
  unfold mV at h
  cases e : env[i]? with
  | none =>
    rw [e] at h
    exact h.elim
  | some o =>
    cases o with
    | none =>
      rw [e] at h
      exact h.elim
    | some w =>
      rw [e] at h
      obtain ⟨v, h1, h2⟩ := E.get i w e
      subst hp
      exact ⟨v, h1, h p v (.refl S) S h2⟩
theorem ge_c {w : W} {v : V} (h : PE X e (tC v)) (r : ∀ p, RW X.K p w v) : GE X Wx e (mC w) := by
  refine PEimp h fun σ H Q ⟨p, st, env, hp, S, E, q⟩ => ?_
  subst hp
  exact q p v (.refl S) S (r p)
theorem ge_int {i j} : GE X Wx (.Constant (.int i) j pos) (mC (.int i)) := ge_c pe_int fun _ => rfl
theorem ge_bl {b j} : GE X Wx (.Constant (.bool b) j pos) (mC (.bl b)) := ge_c pe_bl fun _ => rfl
theorem ge_non {j} : GE X Wx (.Constant .none j pos) (mC .non) := ge_c pe_non fun _ => rfl
theorem ge_str {x j} : GE X Wx (.Constant (.str x) j pos) (mC (.str x)) := ge_c pe_str fun _ => rfl

/-- a rule for an operation on values serves the mirror's f -/
def R2ok (X : Cx) (Wx : WX) (r : R2) (f : W → W → Store → Res W) : Prop :=
  ∀ (p : Wh) (st : Store) (x y : W) (v u : V) (σ : L2.St) (Q : VK), SR X.K p st → RW X.K p x v → RW X.K p y u → Fin X.K X.mg (RW X.K) Wx p σ Q (f x y st) → r v u p.H Q
def R1ok (X : Cx) (Wx : WX) (r : V → Hp → VK → Prop) (f : W → Store → Res W) : Prop :=
  ∀ (p : Wh) (st : Store) (x : W) (v : V) (σ : L2.St) (Q : VK), SR X.K p st → RW X.K p x v → Fin X.K X.mg (RW X.K) Wx p σ Q (f x st) → r v p.H Q
def RCok (X : Cx) (Wx : WX) (r : List V → Hp → VK → Prop) (f : List W → Store → Res W) : Prop :=
  ∀ (p : Wh) (st : Store) (xs : List W) (vs : List V) (σ : L2.St) (Q : VK), SR X.K p st → RWs X.K p xs vs → Fin X.K X.mg (RW X.K) Wx p σ Q (f xs st) → r vs p.H Q

theorem tOp_of {r : R2} {f : W → W → Store → Res W} (hr : R2ok X Wx r f) (σ : L2.St) (H : Hp) (Q : VK) (h : tG X.K X.mg (RW X.K) Wx (mOp f ma mb) σ H Q) : tOp r (tG X.K X.mg (RW X.K) Wx ma) (tG X.K X.mg (RW X.K) Wx mb) σ H Q := by
  obtain ⟨p, st, env, hp, S, E, h⟩ := h
  exact tG_bind hp S E h fun q s1 x v t1 S1 E1 rx h1 => tG_bind rfl S1 E1 h1 fun q2 s2 y u t2 S2 E2 ry h2 => hr q2 s2 x y v u σ Q S2 (RW.step t2 x v rx) ry h2
theorem ge_op {op : Operator} {r : R2} {f : W → W → Store → Res W} (ho : OpR X (binaryOp op) r) (hr : R2ok X Wx r f) (ha : GE X Wx a ma) (hb : GE X Wx b mb) : GE X Wx (.BinOp a op b pos) (mOp f ma mb) :=
  PEimp (pe_op ho ha hb) fun σ H Q h => tOp_of hr σ H Q h
theorem ge_un {op : UnaryOp} {r : V → Hp → VK → Prop} {f : W → Store → Res W} (ho : UnR X (unaryOp op) r) (hr : R1ok X Wx r f) (ha : GE X Wx a ma) : GE X Wx (.UnaryOp op a pos) (mUn f ma) :=
  PEimp (pe_un ho ha) fun σ H Q ⟨p, st, env, hp, S, E, h⟩ => tG_bind hp S E h fun q s1 x v t1 S1 E1 rx h1 => hr q s1 x v σ Q S1 rx h1
theorem ge_cmp {op : CmpOp} {r : R2} {f : W → W → Store → Res W} (ho : OpR X (compareOp op) r) (hr : R2ok X Wx r f) (ha : GE X Wx a ma) (hb : GE X Wx b mb) (hm : behindInMarks op b = false) : GE X Wx (.Compare a [op] [b] pos) (mOp f ma mb) :=
  PEimp (pe_cmpR ho ha hb hm) fun σ H Q h => tOp_of hr σ H Q h
theorem asB_of {σ : L2.St} {H : Hp} {Q : Bool → Hp → Prop} {m : Ev W} (h : tG X.K X.mg eqR Wx (mB m) σ H Q) : tG X.K X.mg (RW X.K) Wx m σ H fun x H' => ∃ k, x = .bl k ∧ Q k H' := by
  obtain ⟨p, st, env, hp, S, E, h⟩ := h
  refine tG_bind hp S E h fun q s1 x v t1 S1 E1 rx h1 => ?_
  cases x with
  | bl k => exact ⟨k, rx, h1 q k (.refl S1) S1 rfl⟩
  | _ => exact h1.elim
theorem gt_cmp {op : CmpOp} {r : R2} {f : W → W → Store → Res W} (ho : OpR X (compareOp op) r) (hr : R2ok X Wx r f) (ha : GE X Wx a ma) (hb : GE X Wx b mb) (hm : behindInMarks op b = false) : GT X Wx (.Compare a [op] [b] pos) (mB (mOp f ma mb)) :=
  PTimp (pt_cmpR ho ha hb hm) fun σ H Q h => tOp_of hr σ H _ (asB_of h)
theorem gt_val (h : GE X Wx e ma) (he : ∀ whole, isTrue e X.env whole = (do let v ← whole; standAt e.pos; holding [v] (truthy v)) := by intro _; rfl) : GT X Wx e (mB ma) :=
  PTimp (pt_val h he) fun σ H Q h => asB_of h
theorem gw_and1 (h : GT X Wx a mt) : GW X Wx (.BoolOp .And [a] pos) mt := pw_and1 h
theorem gw_or1 (h : GT X Wx a mt) : GW X Wx (.BoolOp .Or [a] pos) mt := pw_or1 h
theorem gw_and {rest : List Expr} (h : GT X Wx a mt) (k : GW X Wx (.BoolOp .And (b :: rest) pos) mu) : GW X Wx (.BoolOp .And (a :: b :: rest) pos) (mAnd mt mu) :=
  PWimp (pw_and h k) fun σ H Q ⟨p, st, env, hp, S, E, h⟩ => tG_bind hp S E h fun q s1 x v t1 S1 E1 rx h1 => by
    have rx' : x = v := rx
    subst rx'
    cases x with
    | true => exact ⟨q, s1, env, rfl, S1, E1, h1⟩
    | false => exact h1 q false (.refl S1) S1 rfl
theorem gw_or {rest : List Expr} (h : GT X Wx a mt) (k : GW X Wx (.BoolOp .Or (b :: rest) pos) mu) : GW X Wx (.BoolOp .Or (a :: b :: rest) pos) (mOr mt mu) :=
  PWimp (pw_or h k) fun σ H Q ⟨p, st, env, hp, S, E, h⟩ => tG_bind hp S E h fun q s1 x v t1 S1 E1 rx h1 => by
    have rx' : x = v := rx
    subst rx'
    cases x with
    | false => exact ⟨q, s1, env, rfl, S1, E1, h1⟩
    | true => exact h1 q true (.refl S1) S1 rfl
theorem gt_not (h : GT X Wx a mt) : GT X Wx (.UnaryOp .Not a pos) (mNot mt) :=
  PTimp (pt_not h) fun σ H Q ⟨p, st, env, hp, S, E, h⟩ => tG_bind hp S E h fun q s1 x v t1 S1 E1 rx h1 => by
    have rx' : x = v := rx
    subst rx'
    exact h1 q (!x) (.refl S1) S1 rfl
theorem GW.pt (h : GW X Wx e mt) : GT X Wx e mt := L2.PW.pt h
theorem mB_of {σ : L2.St} {Q : VK} {p : Wh} {st : Store} {env : En} {H : Hp} {k : Bool → Store → Res W} {t : V → Hp → Prop} (hp : p.H = H) (S : SR X.K p st) (E : EnvR X.K p env σ) (h : Fin X.K X.mg (RW X.K) Wx p σ Q ((mB ma env st).bind k))
    (hq : ∀ (q : Wh) (st' : Store) (b : Bool), Step p q → SR X.K q st' → EnvR X.K q env σ → Fin X.K X.mg (RW X.K) Wx q σ Q (k b st') → t (.bl b) q.H) : tG X.K X.mg (RW X.K) Wx ma σ H t := by
  have e : (mB ma env st).bind k = (ma env st).bind fun x s1 => (asB x s1).bind k := by
    unfold mB
    cases ma env st <;> rfl
  rw [e] at h
  refine tG_bind hp S E h fun q s1 x v t1 S1 E1 rx h1 => ?_
  cases x with
  | bl c =>
    have rx' : v = .bl c := rx
    subst rx'
    exact hq q s1 c t1 S1 E1 h1
  | _ => exact h1.elim
theorem ge_one {op} (h : GE X Wx a ma) : GE X Wx (.BoolOp op [a] pos) ma := pe_one h
theorem ge_and {rest : List Expr} (h : GE X Wx a ma) (k : GE X Wx (.BoolOp .And (b :: rest) pos) mb) : GE X Wx (.BoolOp .And (a :: b :: rest) pos) (mAndV ma mb) :=
  PEimp (pe_and h k) fun σ H Q ⟨p, st, env, hp, S, E, h⟩ => mB_of hp S E h fun q s1 c t1 S1 E1 h1 => ⟨c, rfl, by
    cases c with
    | true => exact ⟨q, s1, env, rfl, S1, E1, h1⟩
    | false => exact h1 q _ (.refl S1) S1 rfl⟩
theorem ge_or {rest : List Expr} (h : GE X Wx a ma) (k : GE X Wx (.BoolOp .Or (b :: rest) pos) mb) : GE X Wx (.BoolOp .Or (a :: b :: rest) pos) (mOrV ma mb) :=
  PEimp (pe_or h k) fun σ H Q ⟨p, st, env, hp, S, E, h⟩ => mB_of hp S E h fun q s1 c t1 S1 E1 h1 => ⟨c, rfl, by
    cases c with
    | false => exact ⟨q, s1, env, rfl, S1, E1, h1⟩
    | true => exact h1 q _ (.refl S1) S1 rfl⟩
theorem ge_not (h : GE X Wx a ma) : GE X Wx (.UnaryOp .Not a pos) (mNotV ma) :=
  PEimp (pe_not h) fun σ H Q ⟨p, st, env, hp, S, E, h⟩ => mB_of hp S E h fun q s1 c t1 S1 E1 h1 => ⟨c, rfl, h1 q _ (.refl S1) S1 rfl⟩
theorem ge_if (hc : GT X Wx c mt) (ha : GE X Wx a ma) (hb : GE X Wx b mb) : GE X Wx (.IfExp c a b pos) (mIf mt ma mb) :=
  PEimp (pe_ifExp hc ha hb) fun σ H Q ⟨p, st, env, hp, S, E, h⟩ => tG_bind hp S E h fun q s1 x v t1 S1 E1 rx h1 => by
    have rx' : x = v := rx
    subst rx'
    cases x with
    | true => exact ⟨q, s1, env, rfl, S1, E1, h1⟩
    | false => exact ⟨q, s1, env, rfl, S1, E1, h1⟩

/-! ### argument lists, displays -/
theorem ga_nil : GA X Wx [] mNil := PAimp pa_nil fun σ H Q ⟨p, st, env, hp, S, E, h⟩ => by
  subst hp
  exact h p [] (.refl S) S rfl
theorem ga_cons (ha : GE X Wx e ma) (hr : GA X Wx es ml) (hs : starEach (e :: es) X.env = (false, eval e X.env) :: starEach es X.env := by rfl) : GA X Wx (e :: es) (mCons ma ml) :=
  PAimp (pa_cons ha hr hs) fun σ H Q ⟨p, st, env, hp, S, E, h⟩ => tG_bind hp S E h fun q s1 x v t1 S1 E1 rx h1 => tG_bind rfl S1 E1 h1 fun q2 s2 y u t2 S2 E2 ry h2 =>
    h2 q2 (v :: u) (.refl S2) S2 ⟨v, u, rfl, RW.step t2 x v rx, ry⟩
theorem line_le {n : Nat} (h : n ≤ 100000) : n ≤ sizeLine := Nat.le_trans h (by decide)
/-- a new thing that stands apart -/
theorem fresh_out {K : PySem.W.Frag} {p : Wh} {st : Store} (S : SR K p st) {a : Addr} (h : p.H a = none) : p.out a := ⟨fun i hi e => S.there i hi (by rw [e]; exact h), fun z => (S.hid a z).1 h⟩
theorem step_new {K : PySem.W.Frag} {p : Wh} {st : Store} (S : SR K p st) {a : Addr} {o : HO} (h : p.H a = none) : Step p { p with H := upd p.H a o } := by
  have he : ∀ b u, p.H b = some u → upd p.H a o b = some u := fun b u e => by
    rw [upd_ne (ne_of_none e h)]
    exact e
  have hn : ∀ b, p.H b ≠ none → upd p.H a o b ≠ none := fun b z e => by
    cases q : p.H b with
    | none => exact z q
    | some u =>
      rw [he b u q] at e
      cases e
  refine ⟨⟨Nat.le_refl _, fun _ _ => rfl, fun b u e _ => he b u e, fun i h1 h2 => absurd h2 (Nat.not_lt.mpr h1), fun i hi => hn _ (S.there i hi), fun b z => .inl z, fun b z => hn b (S.hid b z).1⟩, rfl, fun b z _ => ?_⟩
  cases q : p.H b with
  | none => exact absurd q (S.hid b z).1
  | some u => exact (he b u q)
theorem RO.step {K : PySem.W.Frag} {p q : Wh} (s : Step p q) {o : O} {h : Option HO} (r : RO K p o h) : RO K q o h := by
  cases o with
  | lst xs =>
    obtain ⟨vs, e, k⟩ := r
    exact ⟨vs, e, RWs.step s xs vs k⟩
  | ins C fs =>
    obtain ⟨dx, gs, e, l, k⟩ := r
    exact ⟨dx, gs, e, l, RWs.step s _ _ k⟩
  | dct fs =>
    obtain ⟨gs, e, l, k⟩ := r
    exact ⟨gs, e, l, RWs.step s _ _ k⟩
theorem sr_new {K : PySem.W.Frag} {p : Wh} {st : Store} (S : SR K p st) {a : Addr} {o : HO} (h : p.H a = none) (no : NoTbl o := by first | exact fun _ z => nomatch z | assumption) : SR K { p with H := upd p.H a o } st := by
  refine ⟨S.tab.new h no, S.len, S.inj, fun i u e => ?_, fun b z => ⟨(step_new (o := o) S h).hth b z, (S.hid b z).2⟩⟩
  have hi : i < p.n := by
    rw [S.len]
    exact (List.getElem?_eq_some_iff.mp e).1
  have r := (S.obj i u e).step (step_new (o := o) S h)
  show RO K _ u (upd p.H a o (p.ρ i))
  rw [upd_ne (fun e => S.there i hi (by rw [e]; exact h))]
  exact r
theorem new_tup {K : PySem.W.Frag} {p : Wh} {st : Store} (S : SR K p st) {a : Addr} {xs : List W} {vs : List V} (h : p.H a = none) (r : RWs K p xs vs) : RW K { p with H := upd p.H a (.tup vs) } (.tup xs) (.ref a) :=
  ⟨a, vs, rfl, .inl ⟨.inl upd_same, fresh_out S h⟩, RWs.step (step_new S h) xs vs r⟩
theorem new_lst {K : PySem.W.Frag} {p : Wh} {st : Store} (S : SR K p st) {a : Addr} {xs : List W} {vs : List V} (h : p.H a = none) (r : RWs K p xs vs) : RW K { p with H := upd p.H a (.lst vs) } (.lst xs) (.ref a) :=
  ⟨a, vs, rfl, ⟨upd_same, fresh_out S h⟩, RWs.step (step_new S h) xs vs r⟩
theorem ge_tup {x1} (h : GA X Wx es ml) : GE X Wx (.Tuple es x1 pos) (mTup ml) :=
  PEimp (pe_tup h) fun σ H Q ⟨p, st, env, hp, S, E, h⟩ => tG_bind hp S E h fun q s1 xs vs t1 S1 E1 rx h1 => by
    dsimp only at h1
    by_cases hl : xs.length ≤ 100000
    · rw [if_pos hl] at h1
      refine ⟨by rw [← rx.length]; exact line_le hl, fun a ha => ?_⟩
      exact h1 { q with H := upd q.H a (.tup vs) } (.ref a) (step_new S1 ha) (sr_new S1 ha) (new_tup S1 ha rx)
    · rw [if_neg hl] at h1
      exact h1.elim
theorem ge_lst (h : GA X Wx es ml) : GE X Wx (.List es pos) (mLst ml) :=
  PEimp (pe_lst h) fun σ H Q ⟨p, st, env, hp, S, E, h⟩ => tG_bind hp S E h fun q s1 xs vs t1 S1 E1 rx h1 => by
    dsimp only at h1
    by_cases hl : xs.length ≤ 100000
    · rw [if_pos hl] at h1
      refine ⟨by rw [← rx.length]; exact line_le hl, fun a ha => ?_⟩
      exact h1 { q with H := upd q.H a (.lst vs) } (.ref a) (step_new S1 ha) (sr_new S1 ha) (new_lst S1 ha rx)
    · rw [if_neg hl] at h1
      exact h1.elim
/-- a new thing of the store -/
def Wh.more (p : Wh) (a : Addr) (o : HO) : Wh := ⟨fun i => if i = p.n then a else p.ρ i, p.n + 1, upd p.H a o, p.x⟩
theorem step_more {K : PySem.W.Frag} {p : Wh} {st : Store} (S : SR K p st) {a : Addr} {o : HO} (h : p.H a = none) : Step p (p.more a o) := by
  have t := step_new (o := o) S h
  refine ⟨⟨Nat.le_succ _, fun i hi => if_neg (by omega), t.keep, fun i h1 h2 => ?_, fun i hi => ?_, fun b z => .inl z, t.hth⟩, rfl, t.hk⟩
  · have e : i = p.n := Nat.le_antisymm (Nat.lt_succ_iff.mp h2) h1
    refine .inl ?_
    show p.H (if i = p.n then a else p.ρ i) = none
    rw [if_pos e]
    exact h
  · show upd p.H a o (if i = p.n then a else p.ρ i) ≠ none
    by_cases e : i = p.n
    · rw [if_pos e, upd_same]
      exact fun z => nomatch z
    · have hi' : i < p.n + 1 := hi
      rw [if_neg e]
      exact t.there i (show i < p.n by omega)
theorem sr_more {K : PySem.W.Frag} {p : Wh} {st : Store} (S : SR K p st) {a : Addr} {xs : List W} {vs : List V} (h : p.H a = none) (r : RWs K p xs vs) : SR K (p.more a (.lst vs)) (st ++ [.lst xs]) := by
  have t := step_more (o := .lst vs) S h
  refine ⟨S.tab.new h (fun _ z => nomatch z), by rw [List.length_append, ← S.len]; rfl, fun i j hi hj e => ?_, fun i u e => ?_, fun b z => ⟨t.hth b z, fun i hi e => ?_⟩⟩
  · have hi' : i < p.n + 1 := hi
    have hj' : j < p.n + 1 := hj
    have e' : (if i = p.n then a else p.ρ i) = (if j = p.n then a else p.ρ j) := e
    by_cases h1 : i = p.n
    · by_cases h2 : j = p.n
      · omega
      · rw [if_pos h1, if_neg h2] at e'
        exact absurd (by rw [← e']; exact h) (S.there j (by omega))
    · by_cases h2 : j = p.n
      · rw [if_neg h1, if_pos h2] at e'
        exact absurd (by rw [e']; exact h) (S.there i (by omega))
      · rw [if_neg h1, if_neg h2] at e'
        exact S.inj i j (by omega) (by omega) e'
  · show RO K _ u (upd p.H a (.lst vs) (if i = p.n then a else p.ρ i))
    by_cases h1 : i = p.n
    · rw [if_pos h1, upd_same]
      rw [h1, S.len, List.getElem?_append_right (Nat.le_refl _)] at e
      have e' : O.lst xs = u := by simpa using e
      subst e'
      exact ⟨vs, rfl, RWs.step t xs vs r⟩
    · have hi : i < (st ++ [O.lst xs]).length := (List.getElem?_eq_some_iff.mp e).1
      rw [List.length_append, List.length_singleton, ← S.len] at hi
      rw [if_neg h1, upd_ne (fun z => S.there i (by omega) (by rw [z]; exact h))]
      rw [List.getElem?_append_left (by rw [← S.len]; omega)] at e
      exact (S.obj i u e).step t
  · have hi' : i < p.n + 1 := hi
    have e' : (if i = p.n then a else p.ρ i) = b := e
    by_cases h1 : i = p.n
    · rw [if_pos h1] at e'
      exact (S.hid b z).1 (by rw [← e']; exact h)
    · rw [if_neg h1] at e'
      exact (S.hid b z).2 i (by omega) e'
theorem ge_new (h : GA X Wx es ml) : GE X Wx (.List es pos) (mNew ml) :=
  PEimp (pe_lst h) fun σ H Q ⟨p, st, env, hp, S, E, h⟩ => tG_bind hp S E h fun q s1 xs vs t1 S1 E1 rx h1 => by
    dsimp only at h1
    by_cases hl : xs.length ≤ 100000
    · rw [if_pos hl] at h1
      refine ⟨by rw [← rx.length]; exact line_le hl, fun a ha => ?_⟩
      refine h1 (q.more a (.lst vs)) (.ref a) (step_more S1 ha) (sr_more S1 ha rx) ⟨?_, ?_⟩
      · show s1.length < q.n + 1
        rw [S1.len]
        exact Nat.lt_succ_self _
      · show V.ref a = V.ref (if s1.length = q.n then a else q.ρ s1.length)
        rw [if_pos S1.len.symm]
    · rw [if_neg hl] at h1
      exact h1.elim
end
end Mi

namespace Mi
open PySem PySem.Spec PyProof.Rows L2
variable [ClsMap]

/-! ### statements -/
inductive Fl where
  | nx (env : En) | rt (w : W) | bk (env : En) | ct (env : En) | ex (x : Xc) (env : En)
inductive Sr where
  | go (f : Fl) (st : Store)
  | bad
abbrev Sm := En → Store → Sr

def FinS (K : PySem.W.Frag) (mg : Str → Option Value) (Wx : WX) (p : Wh) (D : Ends) : Sr → Prop
  | .go (.nx env) st => ∀ (q : Wh) (σ : L2.St), Step p q → SR K q st → EnvR K q env σ → D.nx σ q.H
  | .go (.bk env) st => ∀ (q : Wh) (σ : L2.St), Step p q → SR K q st → EnvR K q env σ → D.bk σ q.H
  | .go (.ct env) st => ∀ (q : Wh) (σ : L2.St), Step p q → SR K q st → EnvR K q env σ → D.ct σ q.H
  | .go (.rt w) st => ∀ (q : Wh) (v : V), Step p q → SR K q st → RW K q w v → D.rt v q.H
  | .go (.ex x env) st => ∀ (q : Wh) (σ : L2.St) (cls : Value) (d : Option Addr), Step p q → SR K q st → EnvR K q env σ → XR K mg q x cls d → Wx cls d σ q.H
  | .bad => False
def tS (K : PySem.W.Frag) (mg : Str → Option Value) (Wx : WX) (m : Sm) : TS := fun D σ H => ∃ (p : Wh) (st : Store) (env : En), p.H = H ∧ SR K p st ∧ EnvR K p env σ ∧ FinS K mg Wx p D (m env st)
abbrev GS (X : Cx) (Wx : WX) (s : Stmt) (m : Sm) : Prop := PS X s (tS X.K X.mg Wx m)
abbrev GSs (X : Cx) (Wx : WX) (s : List Stmt) (m : Sm) : Prop := PSs X s (tS X.K X.mg Wx m)

def liftE {α : Type} (m : Ev α) (k : α → En → Store → Sr) : Sm := fun env st => match m env st with
  | .ok a s1 => k a env s1
  | .exc x s1 => .go (.ex x env) s1
  | .bad => .bad
def sNx : Sm := fun env st => .go (.nx env) st
def sBk : Sm := fun env st => .go (.bk env) st
def sCt : Sm := fun env st => .go (.ct env) st
def sBad : Sm := fun _ _ => .bad
def sSeq (a b : Sm) : Sm := fun env st => match a env st with
  | .go (.nx e2) s1 => b e2 s1
  | r => r
def sSet (i : Nat) (m : Ev W) : Sm := liftE m fun w env st => .go (.nx (env.set i (some w))) st
def sRet (m : Ev W) : Sm := liftE m fun w _ st => .go (.rt w) st
def sRetN : Sm := fun _ st => .go (.rt .non) st
def sDrop (m : Ev W) : Sm := liftE m fun _ env st => .go (.nx env) st
def sIf (t : Ev Bool) (a b : Sm) : Sm := liftE t fun c env st => if c = true then a env st else b env st
/-- a target that a value goes to -/
def putAll : List Nat → List W → En → En
  | i :: is, w :: ws, env => putAll is ws (env.set i (some w))
  | _, _, env => env
def sUnp (is : List Nat) (m : Ev W) : Sm := liftE m fun w env st => match w with
  | .tup xs => if xs.length = is.length then .go (.nx (putAll is xs env)) st else .bad
  | _ => .bad
def sPar (i j : Nat) (m : Ev (List W)) : Sm := liftE m fun ws env st => match ws with
  | [x, y] => .go (.nx ((env.set i (some x)).set j (some y))) st
  | _ => .bad
/-- o[i] = e -/
def putAt (o : W) (i : W) (v : W) (st : Store) : Option Store :=
  match o, i with
  | .ref n, .int k => match st[n]? with
    | some (.lst xs) => match ixN xs.length k with
      | some j => some (st.set n (.lst (xs.set j v)))
      | none => none
    | _ => none
  | _, _ => none
def sPut (me mo mi : Ev W) : Sm := liftE me fun v env st => liftE mo (fun o env st => liftE mi (fun i env st => match putAt o i v st with
  | some s2 => .go (.nx env) s2
  | none => .bad) env st) env st
/-- for: what one turn makes of an item -/
def forEach (body : Sm) (put : W → En → En) : List W → Sm
  | [] => fun env st => .go (.nx env) st
  | x :: xs => fun env st => match body (put x env) st with
    | .go (.nx e2) s2 => forEach body put xs e2 s2
    | .go (.ct e2) s2 => forEach body put xs e2 s2
    | .go (.bk e2) s2 => .go (.nx e2) s2
    | r => r
def rngW (lo : Int) (n : Nat) : List W := (List.range n).map fun (i : Nat) => W.int (lo + (i : Int))
def as1 : List W → Option Int
  | [.int n] => some n
  | _ => none
def as2 : List W → Option (Int × Int)
  | [.int a, .int b] => some (a, b)
  | _ => none
def sForR1 (m : Ev (List W)) (j : Nat) (body : Sm) : Sm := liftE m fun ws env st => match as1 ws with
  | some n => if -(2 ^ 62) ≤ n ∧ n < 2 ^ 62 then forEach body (fun x e => e.set j (some x)) (rngW 0 n.toNat) env st else .bad
  | none => .bad
def sForR2 (m : Ev (List W)) (j : Nat) (body : Sm) : Sm := liftE m fun ws env st => match as2 ws with
  | some ab => if -(2 ^ 62) ≤ ab.1 ∧ ab.1 < 2 ^ 62 ∧ -(2 ^ 62) ≤ ab.2 ∧ ab.2 < 2 ^ 62 then forEach body (fun x e => e.set j (some x)) (rngW ab.1 (ab.2 - ab.1).toNat) env st else .bad
  | none => .bad
/-- the items that a for goes over -/
def tupOf : W → Option (List W)
  | .tup xs => some xs
  | _ => none
def seqOf : W → Option (List W)
  | .lst xs => some xs
  | .frz xs => some xs
  | _ => none
def sForT (m : Ev W) (put : W → En → En) (body : Sm) : Sm := liftE m fun w env st => match tupOf w with
  | some xs => forEach body put xs env st
  | none => .bad
def sForS (m : Ev W) (put : W → En → En) (body : Sm) : Sm := liftE m fun w env st => match seqOf w with
  | some xs => forEach body put xs env st
  | none => .bad

section
variable {K : PySem.W.Frag} {mg : Str → Option Value} {Wx : WX} {p q : Wh} {D : Ends} {st : Store} {env : En} {σ : L2.St} {H : Hp} {α β : Type} {R : Wh → α → β → Prop}
theorem FinS.later {r : Sr} (s : Step p q) (h : FinS K mg Wx p D r) : FinS K mg Wx q D r := by
  cases r with
  | bad => exact h
  | go f st =>
    cases f with
    | nx e => exact fun z a t => h z a (s.trans t)
    | bk e => exact fun z a t => h z a (s.trans t)
    | ct e => exact fun z a t => h z a (s.trans t)
    | rt w => exact fun z a t => h z a (s.trans t)
    | ex x e => exact fun z a c d t => h z a c d (s.trans t)
theorem lift_of {m : Ev α} {k : α → En → Store → Sr} {Q : β → Hp → Prop} (hp : p.H = H) (S : SR K p st) (E : EnvR K p env σ) (h : FinS K mg Wx p D (liftE m k env st))
    (hq : ∀ (q : Wh) (st' : Store) (a : α) (b : β), Step p q → SR K q st' → EnvR K q env σ → R q a b → FinS K mg Wx q D (k a env st') → Q b q.H) : tG K mg R Wx m σ H Q := by
  refine ⟨p, st, env, hp, S, E, ?_⟩
  unfold liftE at h
  cases e : m env st with
  | ok a s1 =>
    rw [e] at h
    exact fun q b t s r => hq q s1 a b t s (E.step t) r (FinS.later t h)
  | exc x s1 =>
    rw [e] at h
    exact fun q c d t s xr => h q σ c d t s (E.step t) xr
  | bad =>
    rw [e] at h
    exact h
end
theorem PSimp {X : Cx} {e : Stmt} {t t' : TS} (h : PS X e t) (i : ∀ D σ H, t' D σ H → t D σ H) : PS X e t' := ⟨fun pins s σ H D I z => h.run pins s σ H D I (i D σ H z)⟩
theorem PSsimp {X : Cx} {e : List Stmt} {t t' : TS} (h : PSs X e t) (i : ∀ D σ H, t' D σ H → t D σ H) : PSs X e t' := ⟨fun pins s σ H D I z => h.run pins s σ H D I (i D σ H z)⟩
section
variable {X : Cx} {Wx : WX} {a b c e : Expr} {es : List Expr} {ma mb mc me : Ev W} {mt mu : Ev Bool} {ml : Ev (List W)} {pos : Pos} {s : Stmt} {ss : List Stmt} {m1 m2 : Sm} {N : List Str}
theorem gss_nil : GSs X Wx [] sNx := PSsimp pss_nil fun D σ H ⟨p, st, env, hp, S, E, h⟩ => by
  subst hp
  exact h p σ (.refl S) S E
theorem gss_cons (h1 : GS X Wx s m1) (h2 : GSs X Wx ss m2) : GSs X Wx (s :: ss) (sSeq m1 m2) := PSsimp (pss_cons h1 h2) fun D σ H ⟨p, st, env, hp, S, E, h⟩ => by
  refine ⟨p, st, env, hp, S, E, ?_⟩
  unfold sSeq at h
  cases e : m1 env st with
  | bad =>
    rw [e] at h
    exact h
  | go f s1 =>
    rw [e] at h
    cases f with
    | nx e2 => exact fun q σ' t S' E' => ⟨q, s1, e2, rfl, S', E', FinS.later t h⟩
    | bk e2 => exact h
    | ct e2 => exact h
    | rt w => exact h
    | ex x e2 => exact h
theorem gss_one (h1 : GS X Wx s m1) : GSs X Wx [s] m1 := pss_one h1
theorem gs_pass : GS X Wx (.Pass pos) sNx := PSimp ps_pass fun D σ H ⟨p, st, env, hp, S, E, h⟩ => by
  subst hp
  exact h p σ (.refl S) S E
theorem gs_break : GS X Wx (.Break pos) sBk := PSimp ps_break fun D σ H ⟨p, st, env, hp, S, E, h⟩ => by
  subst hp
  exact h p σ (.refl S) S E
theorem gs_continue : GS X Wx (.Continue pos) sCt := PSimp ps_continue fun D σ H ⟨p, st, env, hp, S, E, h⟩ => by
  subst hp
  exact h p σ (.refl S) S E
theorem gs_never : GS X Wx s sBad := PSimp ps_never fun D σ H ⟨p, st, env, hp, S, E, h⟩ => h.elim
theorem gs_set {i : Nat} {x : Str} {pos' : Pos} (hN : X.N.Nodup) (hi : X.N[i]? = some x) (hx : Loc X.env.scope x) (he : GE X Wx e me) (hs : swapsWith e (some (.Name x pos')) pos.line X.env = pure false := by rfl)
    (hf : X.fn x = true ∨ X.env.scope.names.lookup x = some .local := by first | exact .inl rfl | exact .inr rfl | assumption) : GS X Wx (.Assign [.Name x pos'] e pos) (sSet i me) :=
  PSimp (ps_set hN hi hx he hs hf) fun D σ H ⟨p, st, env, hp, S, E, h⟩ => lift_of hp S E h fun q s1 w v t S1 E1 r h1 => h1 q _ (.refl S1) S1 (E1.set i r)
theorem gs_ret (he : GE X Wx e me) : GS X Wx (.Return (some e) pos) (sRet me) :=
  PSimp (ps_ret he) fun D σ H ⟨p, st, env, hp, S, E, h⟩ => lift_of hp S E h fun q s1 w v t S1 E1 r h1 => h1 q v (.refl S1) S1 r
theorem gs_retN : GS X Wx (.Return none pos) sRetN := PSimp ps_retN fun D σ H ⟨p, st, env, hp, S, E, h⟩ => by
  subst hp
  exact h p .non (.refl S) S rfl
theorem gs_expr (he : GE X Wx e me) (hs : swapsWith e none pos.line X.env = pure false := by rfl) : GS X Wx (.Expr e pos) (sDrop me) :=
  PSimp (ps_expr he hs) fun D σ H ⟨p, st, env, hp, S, E, h⟩ => lift_of hp S E h fun q s1 w v t S1 E1 r h1 => h1 q σ (.refl S1) S1 E1
theorem gs_if {sa sb : List Stmt} (hc : GT X Wx c mt) (ha : GSs X Wx sa m1) (hb : GSs X Wx sb m2) : GS X Wx (.If c sa sb pos) (sIf mt m1 m2) :=
  PSimp (ps_if hc ha hb) fun D σ H ⟨p, st, env, hp, S, E, h⟩ => lift_of hp S E h fun q s1 w v t S1 E1 r h1 => by
    have r' : w = v := r
    subst r'
    cases w with
    | true => exact ⟨q, s1, env, rfl, S1, E1, h1⟩
    | false => exact ⟨q, s1, env, rfl, S1, E1, h1⟩
/-- names that a tuple's items go to -/
def gNames : List Nat → TGs
  | [] => gNil
  | i :: is => gCons (gName i) (gNames is)
theorem gNames_of {K : PySem.W.Frag} {q : Wh} : ∀ (is : List Nat) {xs : List W} {vs : List V} {env : En} {σ : L2.St} {Q : L2.St → Hp → Prop}, xs.length = is.length → RWs K q xs vs → EnvR K q env σ → (∀ σ', EnvR K q (putAll is xs env) σ' → Q σ' q.H) → gNames is vs σ q.H Q
  | [], [], vs, env, σ, Q, _, r, E, h => by
    have r' : vs = [] := r
    exact ⟨r', h σ E⟩
  | [], x :: xs, _, _, _, _, hl, _, _, _ => by simp at hl
  | i :: is, [], _, _, _, _, hl, _, _, _ => by simp at hl
  | i :: is, x :: xs, vs, env, σ, Q, hl, ⟨v, r, e, h1, h2⟩, E, h => ⟨v, r, e, gNames_of is (by simpa using hl) h2 (E.set i h1) h⟩
theorem gs_unp {is : List Nat} {ts : List Expr} {tk : Nat} {tp : Pos} (hg : PG X (.Tuple ts tk tp) (gTup X.K is.length (gNames is))) (he : GE X Wx e me)
    (hs : swapsWithSole [.Tuple ts tk tp] e pos.line X.env = pure false := by rfl) (hw : swappedStores [.Tuple ts tk tp] e X.env = pure none := by rfl) : GS X Wx (.Assign [.Tuple ts tk tp] e pos) (sUnp is me) :=
  PSimp (ps_asg he hg hs hw) fun D σ H ⟨p, st, env, hp, S, E, h⟩ => lift_of hp S E h fun q s1 w v t S1 E1 r h1 => by
    cases w with
    | tup xs =>
      obtain ⟨a, vs, e, ta, rs⟩ := r
      dsimp only at h1
      by_cases hl : xs.length = is.length
      · rw [if_pos hl] at h1
        exact ⟨a, vs, e, ta.seq, by rw [← rs.length]; exact hl, gNames_of is hl rs E1 fun σ' E' => h1 q σ' (.refl S1) S1 E'⟩
      · rw [if_neg hl] at h1
        exact h1.elim
    | _ => exact h1.elim
theorem gs_par {i j : Nat} {x y : Str} {px py pt : Pos} {kt k2 pt2} (hc : X.calm = true) (hN : X.N.Nodup) (hi : X.N[i]? = some x) (hj : X.N[j]? = some y) (hij : i ≠ j)
    (hx : X.env.scope.names.lookup x = some .local) (hy : X.env.scope.names.lookup y = some .local) (ha : GA X Wx [a, b] ml) (hw : swappedStores [.Tuple [.Name x px, .Name y py] kt pt] (.Tuple [a, b] k2 pt2) X.env = pure (some [x, y]))
    (hs : swapsWithSole [.Tuple [.Name x px, .Name y py] kt pt] (.Tuple [a, b] k2 pt2) pos.line X.env = pure false := by rfl) :
    GS X Wx (.Assign [.Tuple [.Name x px, .Name y py] kt pt] (.Tuple [a, b] k2 pt2) pos) (sPar i j ml) :=
  PSimp (ps_par hc hN hi hj hij hx hy ha hw hs) fun D σ H ⟨p, st, env, hp, S, E, h⟩ => lift_of hp S E h fun q s1 ws vs t S1 E1 r h1 => by
    match ws, r, h1 with
    | [], _, h1 => exact h1.elim
    | [_], _, h1 => exact h1.elim
    | [x, y], ⟨v, _, e, r1, u, _, e2, r2, e3⟩, h1 =>
      refine ⟨v, u, ?_, h1 q _ (.refl S1) S1 ((E1.set i r1).set j r2)⟩
      have e3' : _ = [] := e3
      rw [e, e2, e3']
    | _ :: _ :: _ :: _, _, h1 => exact h1.elim
/-- a thing of the store changes -/
theorem SR.at {K : PySem.W.Frag} {p : Wh} {st : Store} (S : SR K p st) {n : Nat} {xs : List W} (h : st[n]? = some (.lst xs)) : n < p.n ∧ ∃ vs, p.H (p.ρ n) = some (.lst vs) ∧ RWs K p xs vs := by
  refine ⟨by rw [S.len]; exact (List.getElem?_eq_some_iff.mp h).1, ?_⟩
  exact S.obj n _ h
theorem step_mut {K : PySem.W.Frag} {p : Wh} {st : Store} (S : SR K p st) {n : Nat} (hn : n < p.n) {o : HO} : Step p { p with H := upd p.H (p.ρ n) o } := by
  have hx : ∀ b, b ∈ p.x → upd p.H (p.ρ n) o b = p.H b := fun b z => upd_ne fun e => (S.hid b z).2 n hn e.symm
  refine ⟨⟨Nat.le_refl _, fun _ _ => rfl, fun b u e h => ?_, fun i h1 h2 => absurd h2 (Nat.not_lt.mpr h1), fun i hi => ?_, fun b z => .inl z, fun b z => ?_⟩, rfl, fun b z _ => hx b z⟩
  · show upd p.H (p.ρ n) o b = some u
    rw [upd_ne (fun z => h.1 n hn z.symm)]
    exact e
  · show upd p.H (p.ρ n) o (p.ρ i) ≠ none
    by_cases z : i = n
    · rw [z, upd_same]
      exact fun z => nomatch z
    · rw [upd_ne (fun e => z (S.inj i n hi hn e))]
      exact S.there i hi
  · show upd p.H (p.ρ n) o b ≠ none
    rw [hx b z]
    exact (S.hid b z).1
theorem sr_mut {K : PySem.W.Frag} {p : Wh} {st : Store} (S : SR K p st) {n : Nat} (hn : n < p.n) {xs : List W} {vs : List V} (r : RWs K p xs vs) : SR K { p with H := upd p.H (p.ρ n) (.lst vs) } (st.set n (.lst xs)) := by
  have t : Step p { p with H := upd p.H (p.ρ n) (.lst vs) } := step_mut S hn
  refine ⟨S.tab.upd (S.plainAt hn) (fun _ z => nomatch z), by rw [List.length_set]; exact S.len, S.inj, fun i u e => ?_, fun b z => ⟨t.hth b z, (S.hid b z).2⟩⟩
  show RO K _ u (upd p.H (p.ρ n) (.lst vs) (p.ρ i))
  by_cases z : n = i
  · subst z
    rw [List.getElem?_set_self (by rw [← S.len]; exact hn)] at e
    cases e
    rw [upd_same]
    exact ⟨vs, rfl, RWs.step t xs vs r⟩
  · rw [List.getElem?_set_ne z] at e
    have hi : i < p.n := by
      rw [S.len]
      exact (List.getElem?_eq_some_iff.mp e).1
    rw [upd_ne (fun e => z (S.inj i n hi hn e).symm)]
    exact (S.obj i u e).step t
theorem gs_put {pos2 : Pos} (ho : GE X Wx a ma) (hi : GE X Wx b mb) (he : GE X Wx e me) (hs : swapsWithSole [.Subscript a b pos2] e pos.line X.env = pure false := by rfl) (hw : swappedStores [.Subscript a b pos2] e X.env = pure none := by rfl)
    (hsub : ∀ v, assign (.Subscript a b pos2) X.env v = (do
      let ov ← holding [v] (eval a X.env)
      let iv ← holding [v, ov] (eval b X.env)
      standAt pos2
      holding [v, ov, iv] (setItem ov iv v)
      release [v, ov, iv] []) := by intro _; rfl) : GS X Wx (.Assign [.Subscript a b pos2] e pos) (sPut me ma mb) :=
  PSimp (ps_asg he (pg_sub ho hi set_list hsub) hs hw) fun D σ H ⟨p, st, env, hp, S, E, h⟩ => lift_of hp S E h fun q s1 w v t S1 E1 r h1 =>
    lift_of rfl S1 E1 h1 fun q2 s2 w2 v2 t2 S2 E2 r2 h2 => lift_of rfl S2 E2 h2 fun q3 s3 w3 v3 t3 S3 E3 r3 h3 => by
      have r := RW.step (t2.trans t3) w v r
      have r2 := RW.step t3 w2 v2 r2
      cases w2 with
      | ref n =>
        cases w3 with
        | int k =>
          obtain ⟨hn, rfl⟩ := r2
          have r3' : v3 = .int k := r3
          subst r3'
          dsimp only [putAt] at h3
          cases e1 : s3[n]? with
          | none =>
            rw [e1] at h3
            exact h3.elim
          | some o =>
            cases o with
            | lst xs =>
              rw [e1] at h3
              dsimp only at h3
              cases e2 : ixN xs.length k with
              | none =>
                rw [e2] at h3
                exact h3.elim
              | some j =>
                rw [e2] at h3
                obtain ⟨hn', vs, hH, rs⟩ := S3.at e1
                refine ⟨q3.ρ n, vs, k, j, rfl, rfl, hH, by rw [← rs.length]; exact e2, ?_⟩
                exact h3 { q3 with H := upd q3.H (q3.ρ n) (.lst (vs.set j v)) } σ (step_mut S3 hn') (sr_mut S3 hn' (rs.set j r)) (E3.step (step_mut S3 hn'))
            | _ =>
              rw [e1] at h3
              exact h3.elim
        | _ => exact h3.elim
      | _ => cases w3 <;> exact h3.elim
/-- the rest of a loop -/
theorem for_of {K : PySem.W.Frag} {mg : Str → Option Value} {D : Ends} {body : Sm} {put : W → En → En} {x : W} {xs : List W} {env : En} {st : Store} {p : Wh} (S : SR K p st) {σ : L2.St} (E : EnvR K p (put x env) σ) (h : FinS K mg Wx p D (forEach body put (x :: xs) env st))
    (Nx : L2.St → Hp → Prop) (hN : ∀ q σ' e2 s2, Step p q → SR K q s2 → EnvR K q e2 σ' → FinS K mg Wx q D (forEach body put xs e2 s2) → Nx σ' q.H) : tS K mg Wx body { D with nx := Nx, ct := Nx, bk := D.nx } σ p.H := by
  refine ⟨p, st, put x env, rfl, S, E, ?_⟩
  unfold forEach at h
  cases e : body (put x env) st with
  | bad =>
    rw [e] at h
    exact h
  | go f s1 =>
    rw [e] at h
    cases f with
    | nx e2 => exact fun q σ' t S' E' => hN q σ' e2 s1 t S' E' (FinS.later t h)
    | ct e2 => exact fun q σ' t S' E' => hN q σ' e2 s1 t S' E' (FinS.later t h)
    | bk e2 => exact h
    | rt w => exact h
    | ex x e2 => exact h
theorem rngW_get {lo : Int} {n i : Nat} (h : i < n) : (rngW lo n)[i]? = some (.int (lo + (i : Int))) := by
  unfold rngW
  rw [List.getElem?_map, List.getElem?_range h]
  rfl
theorem rngW_len {lo : Int} {n : Nat} : (rngW lo n).length = n := by
  unfold rngW
  rw [List.length_map, List.length_range]
theorem for_rng {K : PySem.W.Frag} {mg : Str → Option Value} {D : Ends} {body : Sm} {j : Nat} {lo : Int} {n : Nat} {env : En} {st : Store} {p : Wh} {σ : L2.St} (S : SR K p st) (E : EnvR K p env σ)
    (h : FinS K mg Wx p D (forEach body (fun x e => e.set j (some x)) (rngW lo n) env st)) : ∃ W : Nat → Nat → L2.St → Hp → Prop, (∃ m, W 0 m σ p.H) ∧ ∀ i m σ H, W i m σ H →
      ((Itr lo n).stop i H ∧ D.nx σ H) ∨ ((Itr lo n).go i H ∧ ∃ N : L2.St → Hp → Prop, (∀ σ' H', N σ' H' → ∃ m', m' < m ∧ W (i + 1) m' σ' H') ∧ ∀ x H', (Itr lo n).yld i H x H' → gName j x σ H' fun σ2 H2 => tS K mg Wx body { D with nx := N, ct := N, bk := D.nx } σ2 H2) := by
  let Pv : Nat → L2.St → Hp → Prop := fun i σ' H' => ∃ (q : Wh) (e2 : En) (s2 : Store), q.H = H' ∧ SR K q s2 ∧ EnvR K q e2 σ' ∧ FinS K mg Wx q D (forEach body (fun x e => e.set j (some x)) ((rngW lo n).drop i) e2 s2)
  refine for_range (lo := lo) (n := n) (g := gName j) Pv ⟨p, env, st, rfl, S, E, h⟩ (fun i σ' H' hi ⟨q, e2, s2, eH, S2, E2, h2⟩ => ?_) fun σ' H' ⟨q, e2, s2, eH, S2, E2, h2⟩ => ?_
  · subst eH
    have hl : i < (rngW lo n).length := by
      rw [rngW_len]
      exact hi
    rw [List.drop_eq_getElem_cons hl] at h2
    have ex : (rngW lo n)[i] = W.int (lo + (i : Int)) := by
      have z := List.getElem?_eq_getElem hl
      rw [rngW_get hi] at z
      exact (Option.some.inj z).symm
    rw [ex] at h2
    show tS K mg Wx body _ (σ'.set j (some (.int (lo + (i : Int))))) q.H
    exact for_of S2 (E2.set j (show RW K q (.int (lo + (i : Int))) (.int (lo + (i : Int))) from rfl)) h2 (Pv (i + 1)) fun q3 σ3 e3 s3 t S3 E3 h3 => ⟨q3, e3, s3, rfl, S3, E3, h3⟩
  · subst eH
    rw [List.drop_of_length_le (by rw [rngW_len]; exact Nat.le_refl _)] at h2
    exact h2 q σ' (.refl S2) S2 E2
theorem as1_of {K : PySem.W.Frag} {p : Wh} {ws : List W} {vs : List V} {n : Int} (h : as1 ws = some n) (r : RWs K p ws vs) : vs = [.int n] := by
  unfold as1 at h
  split at h
  · cases h
    obtain ⟨v, _, e, r1, e3⟩ := r
    have r1' : v = .int n := r1
    have e3' : _ = [] := e3
    rw [e, r1', e3']
  · cases h
theorem as2_of {K : PySem.W.Frag} {p : Wh} {ws : List W} {vs : List V} {ab : Int × Int} (h : as2 ws = some ab) (r : RWs K p ws vs) : vs = [.int ab.1, .int ab.2] := by
  unfold as2 at h
  split at h
  · cases h
    obtain ⟨v, _, e, r1, v2, _, e2, r2, e3⟩ := r
    have r1' : v = .int _ := r1
    have r2' : v2 = .int _ := r2
    have e3' : _ = [] := e3
    rw [e, e2, r1', r2', e3']
  · cases h
theorem gs_forR1 {i : Nat} {x : Str} {p pos tp fpos : Pos} {body : List Stmt} (hpo : PassesOwn (model X.prog X.w) X.A X.env X.xe) (hc : X.calm = true) (hg : Gl X "range") (hm : X.mg "range" = none) (ha : GA X Wx [a] ml)
    (hN : X.N.Nodup) (hi : X.N[i]? = some x) (hx : Loc X.env.scope x) (hb : GSs X Wx body m1) (hs : starEach [a] X.env = [(false, eval a X.env)] := by rfl)
    (hfo : ∀ z, foldedSetIterable (.Call (.Name "range" p) [a] [] pos) X.env z = pure z := by intro _; rfl)
    (hf : X.fn x = true ∨ X.env.scope.names.lookup x = some .local := by first | exact .inl rfl | exact .inr rfl | assumption) :
    GS X Wx (.For (.Name x tp) (.Call (.Name "range" p) [a] [] pos) body [] fpos) (sForR1 ml i m1) :=
  PSimp (ps_for hpo hc (pi_range1 hg hm ha hs) (pg_name hN hi hx hf) hb hfo) fun D σ H ⟨p, st, env, hp, S, E, h⟩ => lift_of hp S E h fun q s1 ws vs t S1 E1 r h1 => by
    cases e : as1 ws with
    | none =>
      rw [e] at h1
      exact h1.elim
    | some n =>
      rw [e] at h1
      dsimp only at h1
      by_cases hb : -(2 ^ 62) ≤ n ∧ n < 2 ^ 62
      · rw [if_pos hb] at h1
        exact ⟨n, as1_of e r, hb.1, hb.2, for_rng S1 E1 h1⟩
      · rw [if_neg hb] at h1
        exact h1.elim
theorem gs_forR2 {i : Nat} {x : Str} {p pos tp fpos : Pos} {body : List Stmt} (hpo : PassesOwn (model X.prog X.w) X.A X.env X.xe) (hc : X.calm = true) (hg : Gl X "range") (hm : X.mg "range" = none) (ha : GA X Wx [a, b] ml)
    (hN : X.N.Nodup) (hi : X.N[i]? = some x) (hx : Loc X.env.scope x) (hb : GSs X Wx body m1) (hs : starEach [a, b] X.env = [(false, eval a X.env), (false, eval b X.env)] := by rfl) (hs2 : starEach [b] X.env = [(false, eval b X.env)] := by rfl)
    (hfo : ∀ z, foldedSetIterable (.Call (.Name "range" p) [a, b] [] pos) X.env z = pure z := by intro _; rfl)
    (hf : X.fn x = true ∨ X.env.scope.names.lookup x = some .local := by first | exact .inl rfl | exact .inr rfl | assumption) :
    GS X Wx (.For (.Name x tp) (.Call (.Name "range" p) [a, b] [] pos) body [] fpos) (sForR2 ml i m1) :=
  PSimp (ps_for hpo hc (pi_range2 hg hm ha hs hs2) (pg_name hN hi hx hf) hb hfo) fun D σ H ⟨p, st, env, hp, S, E, h⟩ => lift_of hp S E h fun q s1 ws vs t S1 E1 r h1 => by
    cases e : as2 ws with
    | none =>
      rw [e] at h1
      exact h1.elim
    | some ab =>
      rw [e] at h1
      dsimp only at h1
      by_cases hb : -(2 ^ 62) ≤ ab.1 ∧ ab.1 < 2 ^ 62 ∧ -(2 ^ 62) ≤ ab.2 ∧ ab.2 < 2 ^ 62
      · rw [if_pos hb] at h1
        exact ⟨ab.1, ab.2, as2_of e r, hb, for_rng S1 E1 h1⟩
      · rw [if_neg hb] at h1
        exact h1.elim
/-- the loop's state ahead of its i-th turn -/
def Turn (K : PySem.W.Frag) (mg : Str → Option Value) (Wx : WX) (D : Ends) (body : Sm) (put : W → En → En) (xs : List W) (p : Wh) (i : Nat) (σ' : L2.St) (H' : Hp) : Prop :=
  ∃ (q : Wh) (e2 : En) (s2 : Store), q.H = H' ∧ Step p q ∧ SR K q s2 ∧ EnvR K q e2 σ' ∧ FinS K mg Wx q D (forEach body put (xs.drop i) e2 s2)
/-- what a target does with an item -/
def PutOk (K : PySem.W.Frag) (g : TG) (put : W → En → En) (xs : List W) : Prop :=
  ∀ (q : Wh) (w : W) (v : V) (env : En) (σ : L2.St) (Q : L2.St → Hp → Prop), w ∈ xs → RW K q w v → EnvR K q env σ → (∀ σ', EnvR K q (put w env) σ' → Q σ' q.H) → g v σ q.H Q
theorem turn_of {K : PySem.W.Frag} {mg : Str → Option Value} {D : Ends} {body : Sm} {put : W → En → En} {xs : List W} {vs : List V} {p : Wh} {i : Nat} {g : TG} {v : V} {σ : L2.St} {H : Hp} (hg : PutOk K g put xs) (rs : RWs K p xs vs) (hv : vs[i]? = some v)
    (h : Turn K mg Wx D body put xs p i σ H) : g v σ H fun σ2 H2 => tS K mg Wx body { D with nx := Turn K mg Wx D body put xs p (i + 1), ct := Turn K mg Wx D body put xs p (i + 1), bk := D.nx } σ2 H2 := by
  obtain ⟨q, e2, s2, rfl, t, S2, E2, h2⟩ := h
  obtain ⟨w, hw, r⟩ := rs.getV hv
  obtain ⟨hl, hw'⟩ := List.getElem?_eq_some_iff.mp hw
  rw [List.drop_eq_getElem_cons hl, hw'] at h2
  exact hg q w v e2 σ _ (List.mem_of_getElem? hw) (RW.step t w v r) E2 fun σ' E' => for_of S2 E' h2 _ fun q3 σ3 e3 s3 t3 S3 E3 h3 => ⟨q3, e3, s3, rfl, t.trans t3, S3, E3, h3⟩
theorem turn_end {K : PySem.W.Frag} {mg : Str → Option Value} {D : Ends} {body : Sm} {put : W → En → En} {xs : List W} {vs : List V} {p : Wh} {σ : L2.St} {H : Hp} (rs : RWs K p xs vs) (h : Turn K mg Wx D body put xs p vs.length σ H) : D.nx σ H := by
  obtain ⟨q, e2, s2, rfl, t, S2, E2, h2⟩ := h
  rw [List.drop_of_length_le (by rw [rs.length]; exact Nat.le_refl _)] at h2
  exact h2 q σ (.refl S2) S2 E2
theorem frz_step {K : PySem.W.Frag} {p q : Wh} (t : Mv p q) {a : Addr} {vs : List V} (h : FrzAt K p a vs) : FrzAt K q a vs := h.imp (fun z => rd_step t z.1 z.2) (fun z => z)
theorem tup_step {K : PySem.W.Frag} {p q : Wh} (t : Mv p q) {a : Addr} {vs : List V} (h : TupAt K p a vs) : TupAt K q a vs := h.imp (fun z => rd_step t z.1 z.2) (fun z => z)
theorem lst_step {p q : Wh} (t : Mv p q) {a : Addr} {vs : List V} (h : LstAt p a vs) : LstAt q a vs := ⟨t.keep _ _ h.1 h.2, t.out h.1 h.2⟩
theorem LstAt.seq {K : PySem.W.Frag} {p : Wh} {a : Addr} {vs : List V} (h : LstAt p a vs) : SqL K p.H a vs := .inl (.inl h.1)
theorem tupOf_of {K : PySem.W.Frag} {p : Wh} {w : W} {v : V} {xs : List W} (h : tupOf w = some xs) (r : RW K p w v) : ∃ a vs, v = .ref a ∧ TupAt K p a vs ∧ RWs K p xs vs := by
  cases w with
  | tup ys =>
    cases h
    exact r
  | _ => cases h
theorem seqOf_of {K : PySem.W.Frag} {p : Wh} {w : W} {v : V} {xs : List W} (h : seqOf w = some xs) (r : RW K p w v) : ∃ a vs, v = .ref a ∧ (∀ q, Mv p q → SqL K q.H a vs) ∧ RWs K p xs vs := by
  cases w with
  | lst ys =>
    cases h
    obtain ⟨a, vs, e, ta, rs⟩ := r
    exact ⟨a, vs, e, fun q t => (lst_step t ta).seq, rs⟩
  | frz ys =>
    cases h
    obtain ⟨a, vs, e, ta, rs⟩ := r
    exact ⟨a, vs, e, fun q t => (frz_step t ta).seq, rs⟩
  | _ => cases h
theorem gs_forT {fpos : Pos} {tg it : Expr} {body : List Stmt} {g : TG} {put : W → En → En} (hpo : PassesOwn (model X.prog X.w) X.A X.env X.xe) (hc : X.calm = true) (he : GE X Wx it me) (hg : PG X tg g) (hp : ∀ xs, PutOk X.K g put xs) (hb : GSs X Wx body m1)
    (hfo : ∀ z, foldedSetIterable it X.env z = pure z := by intro _; rfl) : GS X Wx (.For tg it body [] fpos) (sForT me put m1) :=
  PSimp (ps_for hpo hc (pi_tup he) hg hb hfo) fun D σ H ⟨p, st, env, hp', S, E, h⟩ => lift_of hp' S E h fun q s1 w v t S1 E1 r h1 => by
    cases e : tupOf w with
    | none =>
      rw [e] at h1
      exact h1.elim
    | some xs =>
      rw [e] at h1
      obtain ⟨a, vs, ev, ta, rs⟩ := tupOf_of e r
      refine ⟨a, ev, ⟨vs, ta.seq⟩, for_tup (xs := vs) (Turn X.K X.mg Wx D m1 put xs q) ⟨q, env, s1, rfl, .refl S1, S1, E1, h1⟩ (fun i σ' H' hi ⟨z, _, _, ez, tz, _, _, _⟩ => ?_) (fun i x σ' H' hx hT => turn_of (hp xs) rs hx hT) fun σ' H' hT => turn_end rs hT⟩
      subst ez
      exact (tup_step tz.toMv ta).seq
theorem gs_forS {fpos : Pos} {tg it : Expr} {body : List Stmt} {g : TG} {put : W → En → En} (hpo : PassesOwn (model X.prog X.w) X.A X.env X.xe) (hc : X.calm = true) (he : GE X Wx it me) (hg : PG X tg g) (hp : ∀ xs, PutOk X.K g put xs) (hb : GSs X Wx body m1)
    (hfo : ∀ z, foldedSetIterable it X.env z = pure z := by intro _; rfl) : GS X Wx (.For tg it body [] fpos) (sForS me put m1) :=
  PSimp (ps_for hpo hc (pi_list he) hg hb hfo) fun D σ H ⟨p, st, env, hp', S, E, h⟩ => lift_of hp' S E h fun q s1 w v t S1 E1 r h1 => by
    cases e : seqOf w with
    | none =>
      rw [e] at h1
      exact h1.elim
    | some xs =>
      rw [e] at h1
      obtain ⟨a, vs, ev, ta, rs⟩ := seqOf_of e r
      refine ⟨a, ev, ⟨vs, ta q (Step.refl S1).toMv⟩, for_list (xs := vs) (Turn X.K X.mg Wx D m1 put xs q) ⟨q, env, s1, rfl, .refl S1, S1, E1, h1⟩ (fun i σ' H' hi ⟨z, _, _, ez, tz, _, _, _⟩ => ?_) (fun i x σ' H' hx hT => turn_of (hp xs) rs hx hT) fun σ' H' hT => turn_end rs hT⟩
      subst ez
      exact ta z tz.toMv
theorem put_name {K : PySem.W.Frag} {j : Nat} {xs : List W} : PutOk K (gName j) (fun x e => e.set j (some x)) xs := fun q w v env σ Q _ r E h => h _ (E.set j r)
end
end Mi

namespace Mi
open PySem PySem.Spec PyProof.Rows L2
variable [ClsMap]

/-! ### defs and their calls -/
def outM : Sr → Res W
  | .go (.rt w) s1 => .ok w s1
  | .go (.nx _) s1 => .ok .non s1
  | .go (.ex x _) s1 => .exc x s1
  | _ => .bad
/-- j parameters, n names -/
def fnM (j n : Nat) (body : Sm) : List W → Store → Res W := fun ws st => if ws.length = j then outM (body (ws.map some ++ List.replicate (n - j) none) st) else .bad
/-- the wish of exceptions without the slots -/
abbrev WxE (E : XK) : WX := fun c d _ H => E c d H

structure FnG (P : Program) (w : World) (K : PySem.W.Frag) (mg : Str → Option Value) (base : Heap) (k : Nat) (f : Addr) (fd : FuncData) (ps : List Str) (m : List W → Store → Res W) : Prop where
  len : ∀ ws st, ws.length ≠ ps.length → m ws st = .bad
  run : ∀ (A : Around) (outer : List Env) (s : Shared) (H : Hp) (args : Args) (us : List Value) (vs : List V) (ws : List W) (p : Wh) (st : Store) (Q : VK) (E : XK),
    Room k A → A.guards = some [] → Env0 P w K mg base A outer s H → BindsTo s fd args (ps.zip us) → Vals vs us → us.length = ps.length → p.H = H → SR K p st → RWs K p ws vs →
    Fin K mg (RW K) (WxE E) p [] Q (m ws st) → codeAny (model P w) A (.call (.ref f) args) (CR (L2.CX P w) outer P w H s Q E) s
theorem FnG.mono {P : Program} {w : World} {K : PySem.W.Frag} {mg : Str → Option Value} {base : Heap} {j k : Nat} {f : Addr} {fd : FuncData} {ps : List Str} {m : List W → Store → Res W} (F : FnG P w K mg base j f fd ps m) (h : j ≤ k) : FnG P w K mg base k f fd ps m :=
  ⟨F.len, fun A o s H a us vs ws p st Q E r => F.run A o s H a us vs ws p st Q E (r.mono h)⟩

section
variable {P : Program} {w : World} {K : PySem.W.Frag} {mg : Str → Option Value} {base : Heap}
theorem env_start {p : Wh} {ws : List W} {vs : List V} {N : List Str} (r : RWs K p ws vs) : EnvR K p (ws.map some ++ List.replicate (N.length - ws.length) none) (L2.start N vs) := by
  unfold L2.start
  refine ⟨by simp [r.length], fun i w h => ?_⟩
  by_cases hi : i < ws.length
  · rw [List.getElem?_append_left (by simpa using hi), List.getElem?_map] at h
    cases e : ws[i]? with
    | none =>
      rw [e] at h
      cases h
    | some x =>
      rw [e] at h
      have h' : x = w := by simpa using h
      subst h'
      obtain ⟨v, hv, rv⟩ := r.get e
      refine ⟨v, ?_, rv⟩
      rw [List.getElem?_append_left (by simpa [← r.length] using hi), List.getElem?_map, hv]
      rfl
  · rw [List.getElem?_append_right (by simpa using hi), List.getElem?_replicate] at h
    split at h <;> cases h
theorem fnG_ofL {x qual : Str} {st : Stmt} {f : Addr} {oc dV kV doc pm cdv ct : Value} {od an : Option Addr} {osl : Array (Option Value)} {N ps : List Str} {k : Nat} {body : Sm}
    (lk : K.lookup f = some ⟨oc, od, .func (PySem.W.fnOf x qual (defArgs st) (defBody st) (defScope st) dV kV doc pm an cdv ct), osl⟩) (hcd : PySem.W.codeIn K cdv qual = true) (S : FnScope N ps (defScope st))
    (hb : ∀ (cdv : Value) (A : Around) (outer : List Env) (s : Shared) (H : Hp) (E : XK), Room k (A.deeper (envOfC qual (defScope st) s.heap.objs.size f cdv)) → A.guards = some [] →
      GSs (cxOf (L2.CX P w) P w K mg base N qual (defScope st) f cdv A outer s H E) (WxE E) (defBody st) body) : FnG P w K mg base (k + 1) f (PySem.W.fnOf x qual (defArgs st) (defBody st) (defScope st) dV kV doc pm an cdv ct) ps (fnM ps.length N.length body) := by
  refine ⟨fun ws st h => if_neg h, fun A outer s H args us vs ws p sto Q E hr hg e0 hbd rv hlen hp S0 rw0 hfin => ?_⟩
  subst hp
  have inK : K.In s.heap := e0.mod.kin.keeps fun b o z => (e0.bs b o z).1
  have noL : s.heap.NoLimit := e0.mod.nolimit.keeps fun b o z => (e0.bs b o z).1
  have hlv : vs.length = ps.length := by rw [rv.length, hlen]
  have kinds : ∀ y ∈ ps.zip us, (defScope st).names.lookup y.1 = some .local ∨
      ((defScope st).names.lookup y.1 = some .cell ∧ ((cellsFrom (s.heap.objs.size + 1) (defScope st).names []).lookup y.1).isSome = true) := by
    rintro ⟨n, v⟩ hy
    have z := S.par n (List.of_mem_zip hy).1
    exact z.imp (fun a => a) fun a => ⟨a, PySem.W.cellsFrom_some _ _ _ (.inl a)⟩
  refine codeAny_call_function hr.depth (inK _ _ lk) rfl S.co S.gen rfl
    (PySem.W.codeRec_of inK hcd) (hbd _ _ _ _ ?_)
  refine wpAny_newFunctionEnv_cells S.kind kinds
    fun env he s1 ic => ?_
  subst he
  refine ⟨noL.keeps ic.toInCall.keep, codeAny_func ?_⟩
  have I0 := inv_start (CX := L2.CX P w) (E := E) (outer := outer) (base := base) (mg := mg) S hr.hd e0 hlv rv ic
  have G := hb cdv A outer s p.H E (hr.deeper _) hg
  have rd : tS K mg (WxE E) body { nx := fun _ H' => Q .non H', rt := Q } (L2.start N vs) p.H := by
    have hw : ws.length = ps.length := by rw [rw0.length, hlv]
    refine ⟨p, sto, _, rfl, S0, env_start (N := N) rw0, ?_⟩
    unfold fnM at hfin
    rw [if_pos hw] at hfin
    rw [hw]
    revert hfin
    cases body (ws.map some ++ List.replicate (N.length - ps.length) none) sto with
    | bad => exact fun z => z
    | go fl s2 =>
      cases fl with
      | nx e => exact fun z q σ t s' _ => z q .non t s' rfl
      | rt w => exact fun z => z
      | bk e => exact fun z => z.elim
      | ct e => exact fun z => z.elim
      | ex x e => exact fun z q σ c d t s' _ xr => z q c d t s' xr
  refine wpAny_mono (G.run [] s1 (L2.start N vs) p.H _ I0 rd) (fun fl s' hs => ?_) fun e s' hs => hs
  have fin : ∀ {σ' : L2.St} {H' : Hp} {v : V} {u : Value}, Inv (cxOf (L2.CX P w) P w K mg base N qual (defScope st) f cdv A outer s p.H E) [] σ' H' s' →
      RelV v u → Q v H' → CE outer P w p.H s Q u s' := fun {σ' H' v u} J rv q => ⟨v, H', J.os, J.bare, J.base, J.hok, rv, q⟩
  cases fl with
  | ret u =>
    obtain ⟨v, σ', H', J, rv, q⟩ := hs
    exact fin J rv q
  | next =>
    obtain ⟨σ', H', J, q⟩ := hs
    exact fin (v := V.non) (u := Value.none) J rfl q
  | brk =>
    obtain ⟨_, _, _, z⟩ := hs
    exact z.elim
  | cont =>
    obtain ⟨_, _, _, z⟩ := hs
    exact z.elim
theorem fnG_of {x qual : Str} {st : Stmt} {f : Addr} {fd : FuncData} {N ps : List Str} {k : Nat} {body : Sm} (F : Fun K x qual st f fd) (S : FnScope N ps (defScope st))
    (hb : ∀ (cdv : Value) (A : Around) (outer : List Env) (s : Shared) (H : Hp) (E : XK), Room k (A.deeper (envOfC qual (defScope st) s.heap.objs.size f cdv)) → A.guards = some [] →
      GSs (cxOf (L2.CX P w) P w K mg base N qual (defScope st) f cdv A outer s H E) (WxE E) (defBody st) body) : FnG P w K mg base (k + 1) f fd ps (fnM ps.length N.length body) := by
  obtain ⟨oc, od, kV, doc, pm, an, cdv, ct, osl, rfl, lk, hcd⟩ := F.ex
  exact fnG_ofL lk hcd S hb
theorem fnG_bad {f : Addr} {fd : FuncData} {ps : List Str} {k : Nat} : FnG P w K mg base k f fd ps (fun _ _ => .bad) := ⟨fun _ _ _ => rfl, by intros; rename_i h; exact h.elim⟩
end

section
variable {X : Cx} {Wx : WX} {k : Nat} {f : Addr} {fd : FuncData} {ps ks : List Str} {m : List W → Store → Res W} {x : Str} {p pos : Pos} {e : Expr} {es : List Expr} {ml : Ev (List W)} {kws : List Keyword}
/-- the callee runs -/
theorem run_G {pins : List (Addr × Obj)} {σ : L2.St} {H : Hp} {s : Shared} {Q : VK} {us us' : List Value} {kw : List (Str × Value)} {vs : List V} {ws : List W} {q : Wh} {st : Store} (F : FnG X.prog X.w X.K X.mg X.base k f fd ps m) (hr : Room k X.A) (hg : X.A.guards = some []) (tk : Takes X Wx)
    (hb : BindsTo s fd ⟨us', kw⟩ (ps.zip us)) (hl : us.length = ps.length) (I : Inv X pins σ H s) (r : Vals vs us) (hq : q.H = H) (S : SR X.K q st) (rs : RWs X.K q ws vs) (h : Fin X.K X.mg (RW X.K) Wx q σ Q (m ws st)) :
    wpAny (model X.prog X.w) X.A (call (.ref f) us' kw) (EP X pins σ Q) X.xe s := by
  have h' : Fin X.K X.mg (RW X.K) (WxE fun c d H' => Wx c d σ H') q [] Q (m ws st) := by
    revert h
    cases m ws st with
    | ok w s1 => exact fun z => z
    | exc x s1 => exact fun z => z
    | bad => exact fun z => z
  have c := F.run X.A X.stack s H ⟨us', kw⟩ us vs ws q st Q _ hr hg I.env0 hb r hl hq S rs h'
  refine wpAny_call (codeAny_mono c fun res s' z => ?_)
  cases res with
  | error u => exact tk u s' (XE.of_call I (fun _ _ _ w => w) z)
  | ok fl =>
    cases fl with
    | ret u => exact I.after z
    | next => exact z.elim
    | brk => exact z.elim
    | cont => exact z.elim
theorem len_of {q : Wh} {σ : L2.St} {Q : VK} {ws : List W} {st : Store} (F : FnG X.prog X.w X.K X.mg X.base k f fd ps m) (h : Fin X.K X.mg (RW X.K) Wx q σ Q (m ws st)) : ws.length = ps.length := by
  by_cases z : ws.length = ps.length
  · exact z
  · rw [F.len ws st z] at h
    exact h.elim
/-- f(e, ..) -/
theorem ge_call (F : FnG X.prog X.w X.K X.mg X.base k f fd ps m) (hr : Room k X.A) (hg : X.A.guards = some []) (tk : Takes X Wx) (gl : Gl X x) (hm : X.mg x = some (.ref f)) (kp : PySem.W.keepIn X.K (.ref f) = true) (hb : Binds X.K fd ps [])
    (ha : GA X Wx (e :: es) ml) (hdb : (x == ("__debug__" : Str)) = false := by decide) (he : starEach (e :: es) X.env = (false, eval e X.env) :: starEach es X.env := by rfl) (hpl : (backTo pos (starEach es X.env)).any (·.1) = false := by rfl) :
    GE X Wx (.Call (.Name x p) (e :: es) [] pos) (mCall m ml) := by
  refine ⟨fun pins s σ H Q I ⟨q0, st, env, hp, S, E, h⟩ => ?_⟩
  refine wpAny_Call_Name_kw (ld_glob I gl hm ?_ hdb)
  have t := tG_bind (R := RWs X.K) (Q := fun vs H' => ∃ (q : Wh) (ws : List W) (s1 : Store), q.H = H' ∧ SR X.K q s1 ∧ RWs X.K q ws vs ∧ Fin X.K X.mg (RW X.K) Wx q σ Q (m ws s1)) hp S E h
    fun q s1 ws vs t S1 E1 r h1 => ⟨q, ws, s1, rfl, S1, r, h1⟩
  refine PySem.W.callWith_K (h₀ := X.base) I.ok.mod.kin kp
    (thn (ha.run pos pins s σ H _ I t) fun us s1 ⟨vs, H1, I1, r, z⟩ => ⟨I1.kIn, ?_⟩) he hpl
  obtain ⟨q, ws, s2, eH, S1, rw1, h1⟩ := z
  have hl : us.length = ps.length := by rw [← r.length, ← rw1.length, len_of F h1]
  have b := hb s1 us I1.kIn (by rw [List.append_nil]; exact hl)
  rw [List.append_nil] at b
  exact run_G F hr hg tk b hl I1 r eH S1 rw1 h1
/-- f(k = e, ..): g puts the keywords' values in the parameters' order -/
structure KwTo (fd : FuncData) (ps ks : List Str) (g : {α : Type} → List α → List α) : Prop where
  to : ∀ ws : List Value, ws.length = ks.length → bindArgs fd ⟨[], ks.zip ws⟩ = pure (ps.zip (g ws))
  len : ∀ {α : Type} (xs : List α), xs.length = ks.length → (g xs).length = ps.length
  rel : ∀ {vs : List V} {us : List Value}, Vals vs us → Vals (g vs) (g us)
  relW : ∀ {K : PySem.W.Frag} {q : Wh} {ws : List W} {vs : List V}, RWs K q ws vs → RWs K q (g ws) (g vs)
end
end Mi

namespace Mi
open PySem PySem.Spec PyProof.Rows L2
variable [ClsMap]

/-! ### values as data -/
mutual
def W.toD : W → Option PyData
  | .non => some .none
  | .bl b => some (.bool b)
  | .int i => some (.int i)
  | .str s => some (.str s)
  | .tup xs => (toDs xs).map PyData.tuple
  | .lst xs => (toDs xs).map PyData.list
  | .frz xs => (toDs xs).map PyData.list
  | .ref _ => none
  | .dic _ _ => none
def toDs : List W → Option (List PyData)
  | [] => some []
  | x :: xs => match x.toD, toDs xs with
    | some d, some ds => some (d :: ds)
    | _, _ => none
end
section
variable {K : PySem.W.Frag} {p : Wh}
mutual
theorem dp_of : ∀ (w : W) (v : V) (d : PyData), w.toD = some d → RW K p w v → Dp K p.H v d
  | .non, v, d, h, r => by
    cases h
    have r' : v = .non := r
    rw [r']
    exact .non
  | .bl b, v, d, h, r => by
    cases h
    have r' : v = .bl b := r
    rw [r']
    exact .bl b
  | .int i, v, d, h, r => by
    cases h
    have r' : v = .int i := r
    rw [r']
    exact .int i
  | .str s, v, d, h, r => by
    cases h
    have r' : v = .str s := r
    rw [r']
    exact .str s
  | .tup xs, v, d, h, r => by
    obtain ⟨a, vs, e, ta, rs⟩ := r
    unfold W.toD at h
    cases e2 : toDs xs with
    | none =>
      rw [e2] at h
      cases h
    | some ds =>
      rw [e2] at h
      have h' : PyData.tuple ds = d := by simpa using h
      rw [e, ← h']
      exact .tup ta.seq (dps_of xs vs ds e2 rs)
  | .lst xs, v, d, h, r => by
    obtain ⟨a, vs, e, ta, rs⟩ := r
    unfold W.toD at h
    cases e2 : toDs xs with
    | none =>
      rw [e2] at h
      cases h
    | some ds =>
      rw [e2] at h
      have h' : PyData.list ds = d := by simpa using h
      rw [e, ← h']
      exact .lst ta.seq (dps_of xs vs ds e2 rs)
  | .frz xs, v, d, h, r => by
    obtain ⟨a, vs, e, ta, rs⟩ := r
    unfold W.toD at h
    cases e2 : toDs xs with
    | none =>
      rw [e2] at h
      cases h
    | some ds =>
      rw [e2] at h
      have h' : PyData.list ds = d := by simpa using h
      rw [e, ← h']
      exact .lst ta.seq (dps_of xs vs ds e2 rs)
  | .ref n, v, d, h, r => by cases h
  | .dic _ _, v, d, h, r => by cases h
theorem dps_of : ∀ (ws : List W) (vs : List V) (ds : List PyData), toDs ws = some ds → RWs K p ws vs → DpAll K p.H vs ds
  | [], vs, ds, h, r => by
    cases h
    have r' : vs = [] := r
    rw [r']
    exact .nil
  | x :: xs, vs, ds, h, r => by
    obtain ⟨v, us, e, r1, rs⟩ := r
    unfold toDs at h
    cases e1 : x.toD with
    | none =>
      rw [e1] at h
      cases h
    | some d1 =>
      cases e2 : toDs xs with
      | none =>
        rw [e1, e2] at h
        cases h
      | some ds2 =>
        rw [e1, e2] at h
        have h' : d1 :: ds2 = ds := by simpa using h
        rw [e, ← h']
        exact .cons (dp_of x v d1 e1 r1) (dps_of xs us ds2 e2 rs)
end
end

/-! ### lists as they stand -/
/-- the items of a list: a tree, or a thing of the store -/
def listIn (st : Store) : W → Option (List W)
  | .lst xs => some xs
  | .frz xs => some xs
  | .ref n => match st[n]? with
    | some (.lst xs) => some xs
    | _ => none
  | _ => none
/-- one that is tracked -/
def trkIn (st : Store) : W → Option (List W)
  | .lst xs => some xs
  | .ref n => match st[n]? with
    | some (.lst xs) => some xs
    | _ => none
  | _ => none
def seqIn (st : Store) (w : W) : Option (List W) := match w with
  | .tup xs => some xs
  | w => listIn st w
section
variable {K : PySem.W.Frag} {p : Wh} {st : Store}
theorem listIn_of (S : SR K p st) {w : W} {v : V} {xs : List W} (h : listIn st w = some xs) (r : RW K p w v) : ∃ a vs, v = .ref a ∧ SqL K p.H a vs ∧ RWs K p xs vs := by
  cases w with
  | lst ys =>
    cases h
    obtain ⟨a, vs, e, ta, rs⟩ := r
    exact ⟨a, vs, e, ta.seq, rs⟩
  | frz ys =>
    cases h
    obtain ⟨a, vs, e, ta, rs⟩ := r
    exact ⟨a, vs, e, ta.seq, rs⟩
  | ref n =>
    dsimp only [listIn] at h
    cases e : st[n]? with
    | none =>
      rw [e] at h
      cases h
    | some o =>
      cases o with
      | lst ys =>
        rw [e] at h
        cases h
        obtain ⟨_, vs, hH, rs⟩ := S.at e
        exact ⟨p.ρ n, vs, r.2, .inl (.inl hH), rs⟩
      | _ =>
        rw [e] at h
        cases h
  | _ => cases h
theorem trkIn_of (S : SR K p st) {w : W} {v : V} {xs : List W} (h : trkIn st w = some xs) (r : RW K p w v) : ∃ a vs, v = .ref a ∧ p.H a = some (.lst vs) ∧ RWs K p xs vs := by
  cases w with
  | lst ys =>
    cases h
    obtain ⟨a, vs, e, ta, rs⟩ := r
    exact ⟨a, vs, e, ta.1, rs⟩
  | ref n =>
    dsimp only [trkIn] at h
    cases e : st[n]? with
    | none =>
      rw [e] at h
      cases h
    | some o =>
      cases o with
      | lst ys =>
        rw [e] at h
        cases h
        obtain ⟨_, vs, hH, rs⟩ := S.at e
        exact ⟨p.ρ n, vs, r.2, hH, rs⟩
      | _ =>
        rw [e] at h
        cases h
  | _ => cases h
theorem seqIn_of (S : SR K p st) {w : W} {v : V} {xs : List W} (h : seqIn st w = some xs) (r : RW K p w v) : ∃ a vs, v = .ref a ∧ (SqL K p.H a vs ∨ SqT K p.H a vs) ∧ RWs K p xs vs := by
  by_cases t : ∃ ys, w = .tup ys
  · obtain ⟨ys, rfl⟩ := t
    cases h
    obtain ⟨a, vs, e, ta, rs⟩ := r
    exact ⟨a, vs, e, .inr ta.seq, rs⟩
  · have h' : listIn st w = some xs := by
      unfold seqIn at h
      split at h
      · exact absurd ⟨_, rfl⟩ t
      · exact h
    obtain ⟨a, vs, e, ta, rs⟩ := listIn_of S h' r
    exact ⟨a, vs, e, .inl ta, rs⟩
end
/-! ### operations on numbers, texts, lists, tuples -/
def fAdd (x y : W) (st : Store) : Res W := match x, y with
  | .int i, .int j => .ok (.int (i + j)) st
  | .str a, .str b => if a.length + b.length ≤ sizeLine then .ok (.str (a ++ b)) st else .bad
  | .tup xs, .tup ys => if xs.length + ys.length ≤ sizeLine then .ok (.tup (xs ++ ys)) st else .bad
  | x, y => match trkIn st x, trkIn st y with
    | some xs, some ys => if xs.length + ys.length ≤ sizeLine then .ok (.lst (xs ++ ys)) st else .bad
    | _, _ => .bad
/-- two ints under a condition -/
def fI (C : Int → Int → Prop) [∀ i j, Decidable (C i j)] (g : Int → Int → W) : W → W → Store → Res W
  | .int i, .int j, st => if C i j then .ok (g i j) st else .bad
  | _, _, _ => .bad
def fSub : W → W → Store → Res W := fI (fun _ _ => True) fun i j => .int (i - j)
def fMul : W → W → Store → Res W := fI (fun i j => i.natAbs.log2 + j.natAbs.log2 < 1000000) fun i j => .int (i * j)
def fDiv : W → W → Store → Res W := fI (fun _ j => 0 < j ∧ j.natAbs.log2 < 9000) fun i j => .int (i / j)
def fMod : W → W → Store → Res W := fI (fun _ j => 0 < j) fun i j => .int (i % j)
def fPow : W → W → Store → Res W := fI (fun i j => 0 ≤ j ∧ j ≤ 1000 ∧ i.natAbs.log2 < 10000) fun i j => .int (i ^ j.toNat)
def fLtI : W → W → Store → Res W := fI (fun _ _ => True) fun i j => .bl (decide (i < j))
/-- data against data -/
def fD (C : PyData → PyData → Bool) (g : PyData → PyData → Bool) : W → W → Store → Res W := fun x y st => match x.toD, y.toD with
  | some d, some e => if C d e = true then .ok (.bl (g d e)) st else .bad
  | _, _ => .bad
def cEq (d e : PyData) : Bool := d.plain && e.plain && decide (d.depth ≤ 60)
def cOrd (d e : PyData) : Bool := PySem.W.alike d e && decide (d.depth ≤ 60) && (match d with | .none => false | _ => true)
def fEq := fD cEq fun d e => PyData.eqv d e
def fNe := fD cEq fun d e => !PyData.eqv d e
def fLt := fD cOrd fun d e => PySem.W.dataLt d e
def fGt := fD cOrd fun d e => PySem.W.dataLt e d
def fLe := fD cOrd fun d e => !PySem.W.dataLt e d
def fGe := fD cOrd fun d e => !PySem.W.dataLt d e
def cIn (d c : PyData) : Bool := d.plain && decide (d.depth ≤ 60) && (match c with | .list xs => PyData.plainAll xs | .tuple xs => PyData.plainAll xs | _ => false)
def gIn (d c : PyData) : Bool := match c with | .list xs => xs.any (fun y => PyData.eqv y d) | .tuple xs => xs.any (fun y => PyData.eqv y d) | _ => false
def fIn := fD cIn gIn
def fNin := fD cIn fun d c => !gIn d c
def isN : W → Bool
  | .non => true
  | _ => false
def fIs : W → W → Store → Res W := fun x y st => if isN y = true then .ok (.bl (isN x)) st else .bad
def fIsNot : W → W → Store → Res W := fun x y st => if isN y = true then .ok (.bl (!isN x)) st else .bad
def fNeg : W → Store → Res W
  | .int i, st => .ok (.int (-i)) st
  | _, _ => .bad

section
variable {X : Cx} {Wx : WX}
theorem fin_ok {p : Wh} {st : Store} {σ : L2.St} {Q : VK} {w : W} {v : V} (S : SR X.K p st) (h : Fin X.K X.mg (RW X.K) Wx p σ Q (.ok w st)) (r : RW X.K p w v) : Q v p.H := h p v (.refl S) S r
theorem r2_int {r : R2} {C : Int → Int → Prop} [∀ i j, Decidable (C i j)] {g : Int → Int → W} {gV : Int → Int → V} (hr : ∀ i j H Q, C i j → Q (gV i j) H → r (.int i) (.int j) H Q) (hg : ∀ p i j, RW X.K p (g i j) (gV i j)) : R2ok X Wx r (fI C g) := by
  intro p st x y v u σ Q S rx ry h
  cases x with
  | int i =>
    cases y with
    | int j =>
      have e1 : v = .int i := rx
      have e2 : u = .int j := ry
      subst e1 e2
      dsimp only [fI] at h
      by_cases c : C i j
      · rw [if_pos c] at h
        exact hr i j _ Q c (fin_ok S h (hg p i j))
      · rw [if_neg c] at h
        exact h.elim
    | _ => exact h.elim
  | _ => exact h.elim
theorem r2_sub : R2ok X Wx (rI0 fun i j => .int (i - j)) fSub := r2_int (fun i j H Q _ q => ⟨i, j, rfl, rfl, q⟩) fun p i j => rfl
theorem r2_mul : R2ok X Wx (rI CMulW fun i j => .int (i * j)) fMul := r2_int (fun i j H Q c q => ⟨i, j, rfl, rfl, c, q⟩) fun p i j => rfl
theorem r2_div : R2ok X Wx (rI CDivW fun i j => .int (i / j)) fDiv := r2_int (fun i j H Q c q => ⟨i, j, rfl, rfl, c, q⟩) fun p i j => rfl
theorem r2_mod : R2ok X Wx (rI (fun _ j => 0 < j) fun i j => .int (i % j)) fMod := r2_int (fun i j H Q c q => ⟨i, j, rfl, rfl, c, q⟩) fun p i j => rfl
def CPowW (i j : Int) : Prop := 0 ≤ j ∧ j ≤ 1000 ∧ i.natAbs.log2 < 10000
theorem op_powW : OpR X (binaryOp .Pow) (rI CPowW fun i j => .int (i ^ j.toNat)) := opI fun i j _ _ _ _ _ hc q => by
  refine pow_int hc.1 ?_ q
  have b : Builtin.Int.intBits i ≤ i.natAbs.log2 + 1 := by
    unfold Builtin.Int.intBits
    split <;> omega
  have h1 := hc.2.1
  have h2 := hc.2.2
  have h0 := hc.1
  have b' : (Builtin.Int.intBits i : Int) ≤ 10000 := by omega
  have m : (Builtin.Int.intBits i : Int) * j ≤ 10000 * 1000 := Int.mul_le_mul b' h1 h0 (by omega)
  omega
theorem r2_pow : R2ok X Wx (rI CPowW fun i j => .int (i ^ j.toNat)) fPow := r2_int (fun i j H Q c q => ⟨i, j, rfl, rfl, c, q⟩) fun p i j => rfl
theorem op_addA : OpR X (binaryOp .Add) (fun x y H Q => (rI0 (fun i j => .int (i + j)) x y H Q) ∨ (∃ i j, x = .str i ∧ y = .str j ∧ i.length + j.length ≤ sizeLine ∧ Q (.str (i ++ j)) H) ∨ rCat x y H Q ∨ rCatA X.K x y H Q) :=
  op_add.or (op_add_str.or (op_cat.or op_catA))
theorem r2_add : R2ok X Wx (fun x y H Q => (rI0 (fun i j => .int (i + j)) x y H Q) ∨ (∃ i j, x = .str i ∧ y = .str j ∧ i.length + j.length ≤ sizeLine ∧ Q (.str (i ++ j)) H) ∨ rCat x y H Q ∨ rCatA X.K x y H Q) fAdd := by
  intro p st x y v u σ Q S rx ry h
  unfold fAdd at h
  split at h
  · rename_i i j
    have e1 : v = .int i := rx
    have e2 : u = .int j := ry
    subst e1 e2
    exact .inl ⟨i, j, rfl, rfl, fin_ok S h rfl⟩
  · rename_i i j
    have e1 : v = .str i := rx
    have e2 : u = .str j := ry
    subst e1 e2
    by_cases c : i.length + j.length ≤ sizeLine
    · rw [if_pos c] at h
      exact .inr (.inl ⟨i, j, rfl, rfl, c, fin_ok S h rfl⟩)
    · rw [if_neg c] at h
      exact h.elim
  · rename_i xs ys
    obtain ⟨a, vs, e1, ta, rs⟩ := rx
    obtain ⟨b, us, e2, tb, rs2⟩ := ry
    subst e1 e2
    by_cases c : xs.length + ys.length ≤ sizeLine
    · rw [if_pos c] at h
      refine .inr (.inr (.inr ⟨a, b, vs, us, rfl, rfl, ta.seq, tb.seq, by rw [← rs.length, ← rs2.length]; exact c, fun z => ?_, fun _ z => ?_, fun _ _ q hq => ?_⟩))
      · have zx : xs = [] := List.length_eq_zero_iff.mp (by rw [rs.length, z]; rfl)
        subst zx
        exact fin_ok S h ⟨b, us, rfl, tb, rs2⟩
      · have zy : ys = [] := List.length_eq_zero_iff.mp (by rw [rs2.length, z]; rfl)
        subst zy
        rw [List.append_nil] at h
        exact fin_ok S h ⟨a, vs, rfl, ta, rs⟩
      · exact h { p with H := upd p.H q (.tup (vs ++ us)) } (.ref q) (step_new S hq) (sr_new S hq) (new_tup S hq (rs.append rs2))
    · rw [if_neg c] at h
      exact h.elim
  · cases ex : trkIn st x with
    | none =>
      rw [ex] at h
      exact h.elim
    | some xs =>
      cases ey : trkIn st y with
      | none =>
        rw [ex, ey] at h
        exact h.elim
      | some ys =>
        rw [ex, ey] at h
        dsimp only at h
        obtain ⟨a, vs, e1, ta, rs⟩ := trkIn_of S ex rx
        obtain ⟨b, us, e2, tb, rs2⟩ := trkIn_of S ey ry
        subst e1 e2
        by_cases c : xs.length + ys.length ≤ sizeLine
        · rw [if_pos c] at h
          refine .inr (.inr (.inl ⟨a, b, vs, us, rfl, rfl, ta, tb, by rw [← rs.length, ← rs2.length]; exact c, fun q hq => ?_⟩))
          exact h { p with H := upd p.H q (.lst (vs ++ us)) } (.ref q) (step_new S hq) (sr_new S hq) (new_lst S hq (rs.append rs2))
        · rw [if_neg c] at h
          exact h.elim
theorem un_of_neg : R1ok X Wx (rU fun i => .int (-i)) fNeg := by
  intro p st x v σ Q S rx h
  cases x with
  | int i =>
    have e1 : v = .int i := rx
    subst e1
    exact ⟨i, rfl, fin_ok S h rfl⟩
  | _ => exact h.elim

/-! ### data -/
def rD (K : PySem.W.Frag) (C : PyData → PyData → Bool) (g : PyData → PyData → Bool) : R2 := fun x y H Q => ∃ d e, Dp K H x d ∧ Dp K H y e ∧ C d e = true ∧ Q (.bl (g d e)) H
theorem r2_data {C : PyData → PyData → Bool} {g : PyData → PyData → Bool} : R2ok X Wx (rD X.K C g) (fD C g) := by
  intro p st x y v u σ Q S rx ry h
  unfold fD at h
  cases e1 : x.toD with
  | none =>
    rw [e1] at h
    exact h.elim
  | some d =>
    cases e2 : y.toD with
    | none =>
      rw [e1, e2] at h
      exact h.elim
    | some e =>
      rw [e1, e2] at h
      dsimp only at h
      by_cases c : C d e = true
      · rw [if_pos c] at h
        exact ⟨d, e, dp_of x v d e1 rx, dp_of y u e e2 ry, c, fin_ok S h rfl⟩
      · rw [if_neg c] at h
        exact h.elim
theorem op_data {op : CmpOp} {C : PyData → PyData → Bool} {g : PyData → PyData → Bool}
    (rule : ∀ (s : Shared) (v u : Value) (d e : PyData) (as bs : List Addr) (Q : Value → Shared → Prop) (E : Value → Shared → Prop), Reads s.heap v d as → Reads s.heap u e bs → C d e = true → Q (.bool (g d e)) s → wpAny (model X.prog X.w) X.A (compareOp op v u) Q E s) :
    OpR X (compareOp op) (rD X.K C g) := by
  intro pins s σ H x y v u Q I rx ry h
  obtain ⟨d, e, hd, he, c, q⟩ := h
  obtain ⟨as, r1⟩ := Dp.reads I d x v hd rx
  obtain ⟨bs, r2⟩ := Dp.reads I e y u he ry
  exact rule s v u d e as bs _ _ r1 r2 c ⟨.bl _, H, I, rfl, q⟩
theorem cEq_of {d e : PyData} (h : cEq d e = true) : d.plain = true ∧ e.plain = true ∧ d.depth ≤ 60 := by
  unfold cEq at h
  rw [Bool.and_eq_true, Bool.and_eq_true, decide_eq_true_eq] at h
  exact ⟨h.1.1, h.1.2, h.2⟩
theorem cOrd_of {d e : PyData} (h : cOrd d e = true) : PySem.W.alike d e = true ∧ d.depth ≤ 60 ∧ d ≠ .none := by
  unfold cOrd at h
  rw [Bool.and_eq_true, Bool.and_eq_true, decide_eq_true_eq] at h
  refine ⟨h.1.1, h.1.2, fun z => ?_⟩
  have h2 := h.2
  rw [z] at h2
  cases h2
theorem room_min {A : Around} {d e : PyData} (hu : A.units + 64 < cLine) (h : d.depth ≤ 60) : A.units + min d.depth e.depth < cLine := by
  have := Nat.min_le_left d.depth e.depth
  omega
theorem op_eqP (hu : X.A.units + 64 < cLine) : OpR X (compareOp .Eq) (rD X.K cEq fun d e => PyData.eqv d e) := op_data fun s v u d e as bs Q E r1 r2 c q => by
  obtain ⟨h1, h2, h3⟩ := cEq_of c
  exact SeqAt.eq_plain r1 r2 h1 h2 (room_min hu h3) q
theorem op_neP (hu : X.A.units + 64 < cLine) : OpR X (compareOp .NotEq) (rD X.K cEq fun d e => !PyData.eqv d e) := op_data fun s v u d e as bs Q E r1 r2 c q => by
  obtain ⟨h1, h2, h3⟩ := cEq_of c
  exact SeqAt.ne_plain r1 r2 h1 h2 (room_min hu h3) q
theorem op_ltP (hu : X.A.units + 64 < cLine) : OpR X (compareOp .Lt) (rD X.K cOrd fun d e => PySem.W.dataLt d e) := op_data fun s v u d e as bs Q E r1 r2 c q => by
  obtain ⟨h1, h2, h3⟩ := cOrd_of c
  exact PySem.W.lt_data r1 r2 h1 h3 (room_min hu h2) q
theorem op_gtP (hu : X.A.units + 64 < cLine) : OpR X (compareOp .Gt) (rD X.K cOrd fun d e => PySem.W.dataLt e d) := op_data fun s v u d e as bs Q E r1 r2 c q => by
  obtain ⟨h1, h2, h3⟩ := cOrd_of c
  exact PySem.W.gt_data r1 r2 h1 h3 (room_min hu h2) q
theorem op_leP (hu : X.A.units + 64 < cLine) : OpR X (compareOp .LtE) (rD X.K cOrd fun d e => !PySem.W.dataLt e d) := op_data fun s v u d e as bs Q E r1 r2 c q => by
  obtain ⟨h1, h2, h3⟩ := cOrd_of c
  exact PySem.W.le_data r1 r2 h1 h3 (room_min hu h2) q
theorem op_geP (hu : X.A.units + 64 < cLine) : OpR X (compareOp .GtE) (rD X.K cOrd fun d e => !PySem.W.dataLt d e) := op_data fun s v u d e as bs Q E r1 r2 c q => by
  obtain ⟨h1, h2, h3⟩ := cOrd_of c
  exact PySem.W.ge_data r1 r2 h1 h3 (room_min hu h2) q
theorem op_inP (hu : X.A.units + 64 < cLine) : OpR X (compareOp .In) (rD X.K cIn gIn) := op_data fun s v u d e as bs Q E r1 r2 c q => by
  unfold cIn at c
  rw [Bool.and_eq_true, Bool.and_eq_true, decide_eq_true_eq] at c
  have hm : ∀ n, min n d.depth ≤ d.depth := fun n => Nat.min_le_right _ _
  cases e with
  | list xs => exact SeqAt.in_list_data r2 r1 c.2 c.1.1 (by have := hm (PyData.depthAll xs); omega) q
  | tuple xs => exact SeqAt.in_tuple_data r2 r1 c.2 c.1.1 (by have := hm (PyData.depthAll xs); omega) q
  | _ => exact absurd c.2 Bool.false_ne_true
theorem op_ninP (hu : X.A.units + 64 < cLine) : OpR X (compareOp .NotIn) (rD X.K cIn fun d c => !gIn d c) := op_data fun s v u d e as bs Q E r1 r2 c q => by
  unfold cIn at c
  rw [Bool.and_eq_true, Bool.and_eq_true, decide_eq_true_eq] at c
  have hm : ∀ n, min n d.depth ≤ d.depth := fun n => Nat.min_le_right _ _
  cases e with
  | list xs => exact SeqAt.notIn_list_data r2 r1 c.2 c.1.1 (by have := hm (PyData.depthAll xs); omega) q
  | tuple xs => exact SeqAt.notIn_tuple_data r2 r1 c.2 c.1.1 (by have := hm (PyData.depthAll xs); omega) q
  | _ => exact absurd c.2 Bool.false_ne_true
theorem isN_of {K : PySem.W.Frag} {p : Wh} {w : W} {v : V} (r : RW K p w v) : decide (v = .non) = isN w := by
  cases w with
  | non =>
    have e : v = .non := r
    rw [e]
    rfl
  | bl b =>
    have e : v = .bl b := r
    rw [e]
    rfl
  | int b =>
    have e : v = .int b := r
    rw [e]
    rfl
  | str b =>
    have e : v = .str b := r
    rw [e]
    rfl
  | tup xs =>
    obtain ⟨a, vs, e, _⟩ := r
    rw [e]
    rfl
  | lst xs =>
    obtain ⟨a, vs, e, _⟩ := r
    rw [e]
    rfl
  | frz xs =>
    obtain ⟨a, vs, e, _⟩ := r
    rw [e]
    rfl
  | ref n =>
    rw [r.2]
    rfl
  | dic ks xs =>
    obtain ⟨a, vs, e, _⟩ := r
    rw [e]
    rfl
theorem non_of {K : PySem.W.Frag} {p : Wh} {w : W} {v : V} (h : isN w = true) (r : RW K p w v) : v = .non := by
  have e := isN_of r
  rw [h] at e
  exact of_decide_eq_true e
theorem r2_is : R2ok X Wx (fun x y H Q => y = .non ∧ Q (.bl (decide (x = .non))) H) fIs := by
  intro p st x y v u σ Q S rx ry h
  unfold fIs at h
  by_cases c : isN y = true
  · rw [if_pos c] at h
    refine ⟨non_of c ry, ?_⟩
    rw [isN_of rx]
    exact fin_ok S h rfl
  · rw [if_neg c] at h
    exact h.elim
theorem r2_isNot : R2ok X Wx (fun x y H Q => y = .non ∧ Q (.bl (!decide (x = .non))) H) fIsNot := by
  intro p st x y v u σ Q S rx ry h
  unfold fIsNot at h
  by_cases c : isN y = true
  · rw [if_pos c] at h
    refine ⟨non_of c ry, ?_⟩
    rw [isN_of rx]
    exact fin_ok S h rfl
  · rw [if_neg c] at h
    exact h.elim
end
end Mi

namespace Mi
open PySem PySem.Spec PyProof.Rows L2
variable [ClsMap]

/-! ### calls of built-ins -/
def fLen : List W → Store → Res W
  | [.str s], st => if s.length ≤ sizeLine then .ok (.int s.length) st else .bad
  | [w], st => match seqIn st w with
    | some xs => .ok (.int xs.length) st
    | none => .bad
  | _, _ => .bad
def fInt : List W → Store → Res W
  | [.int i], st => .ok (.int i) st
  | [.bl b], st => .ok (.int (if b then 1 else 0)) st
  | _, _ => .bad
def fBool : List W → Store → Res W
  | [.int i], st => .ok (.bl (i != 0)) st
  | [.bl b], st => .ok (.bl b) st
  | _, _ => .bad
def fAbs : List W → Store → Res W
  | [.int i], st => .ok (.int (if i < 0 then -i else i)) st
  | _, _ => .bad
def fMax2 : List W → Store → Res W
  | [.int i, .int j], st => .ok (.int (if j > i then j else i)) st
  | _, _ => .bad
def fMin2 : List W → Store → Res W
  | [.int i, .int j], st => .ok (.int (if j < i then j else i)) st
  | _, _ => .bad
def bools : List W → Option (List Bool)
  | [] => some []
  | .bl b :: xs => (bools xs).map (b :: ·)
  | _ :: _ => none
def fAll : List W → Store → Res W
  | [w], st => match listIn st w with
    | some xs => match bools xs with
      | some bs => .ok (.bl (bs.all id)) st
      | none => .bad
    | none => .bad
  | _, _ => .bad
def fAny : List W → Store → Res W
  | [w], st => match listIn st w with
    | some xs => match bools xs with
      | some bs => .ok (.bl (bs.any id)) st
      | none => .bad
    | none => .bad
  | _, _ => .bad
def cRepr (d : PyData) : Bool := d.showable && !d.hasDict && decide (d.depth ≤ 60) && decide (d.shown.length ≤ sizeLine)
def fRepr : List W → Store → Res W
  | [w], st => match w.toD with
    | some d => if cRepr d = true then .ok (.str d.shown) st else .bad
    | none => .bad
  | _, _ => .bad
def fTuple : List W → Store → Res W
  | [w], st => match seqIn st w with
    | some xs => .ok (.tup xs) st
    | none => .bad
  | _, _ => .bad
def fList : List W → Store → Res W
  | [w], st => match seqIn st w with
    | some xs => .ok (.lst xs) st
    | none => .bad
  | _, _ => .bad
/-- isinstance(x, T) for a built-in T -/
def isTy (T : String) : W → Bool
  | .non => false
  | .bl _ => T == "bool" || T == "int"
  | .int _ => T == "int"
  | .str _ => T == "str"
  | .tup _ => T == "tuple"
  | .dic _ _ => T == "dict"
  | _ => T == "list"
def tyName : W → String
  | .non => "NoneType"
  | .bl _ => "bool"
  | .int _ => "int"
  | .str _ => "str"
  | .tup _ => "tuple"
  | .dic _ _ => "dict"
  | _ => "list"
def fIsi (T : String) : W → Store → Res W := fun w st => match w with
  | .ref n => match st[n]? with
    | some (.lst _) => .ok (.bl (T == "list")) st
    | _ => .bad
  | w => .ok (.bl (isTy T w)) st
/-- x[i] -/
def fIx : W → W → Store → Res W := fun x i st => match i with
  | .int k => match x with
    | .str s => if s.length ≤ sizeLine then (match atI s.cps.toList k with | some c => .ok (.str ⟨#[c]⟩) st | none => .bad) else .bad
    | w => match seqIn st w with
      | some xs => match atI xs k with
        | some y => .ok y st
        | none => .bad
      | none => .bad
  | _ => .bad
def fAppend : W → List W → Store → Res W := fun o vs st => match o, vs with
  | .ref n, [v] => match st[n]? with
    | some (.lst xs) => if xs.length < 100000 then .ok .non (st.set n (.lst (xs ++ [v]))) else .bad
    | _ => .bad
  | _, _ => .bad
def fExtend : W → List W → Store → Res W := fun o vs st => match o, vs with
  | .ref n, [v] => match st[n]?, trkIn st v with
    | some (.lst xs), some ys => if xs.length + ys.length ≤ 100000 then .ok .non (st.set n (.lst (xs ++ ys))) else .bad
    | _, _ => .bad
  | _, _ => .bad
/-- a list of the store -/
def isRef (st : Store) : W → Bool
  | .ref n => match st[n]? with
    | some (.lst _) => true
    | _ => false
  | _ => false
def mBM (f : W → List W → Store → Res W) (o : Ev W) (a : Ev (List W)) : Ev W := fun env st => (o env st).bind fun x s1 => if isRef s1 x = true then (a env s1).bind fun vs s2 => f x vs s2 else .bad

section
variable {K : PySem.W.Frag} {p : Wh} {st : Store}
theorem one_of {w : W} {vs : List V} (r : RWs K p [w] vs) : ∃ v, vs = [v] ∧ RW K p w v := by
  obtain ⟨v, us, e, h, h2⟩ := r
  have h2' : us = [] := h2
  rw [h2'] at e
  exact ⟨v, e, h⟩
theorem two_of {w x : W} {vs : List V} (r : RWs K p [w, x] vs) : ∃ v u, vs = [v, u] ∧ RW K p w v ∧ RW K p x u := by
  obtain ⟨v, us, e, h, h2⟩ := r
  obtain ⟨u, e2, h3⟩ := one_of h2
  rw [e2] at e
  exact ⟨v, u, e, h, h3⟩
theorem bools_of : ∀ {xs : List W} {bs : List Bool} {vs : List V}, bools xs = some bs → RWs K p xs vs → vs = bs.map V.bl
  | [], bs, vs, h, r => by
    cases h
    exact r
  | .bl b :: xs, bs, vs, h, r => by
    obtain ⟨v, us, e, h1, h2⟩ := r
    unfold bools at h
    cases e2 : bools xs with
    | none =>
      rw [e2] at h
      cases h
    | some cs =>
      rw [e2] at h
      have h' : b :: cs = bs := by simpa using h
      have h1' : v = .bl b := h1
      rw [e, ← h', h1', bools_of e2 h2]
      rfl
  | .non :: _, _, _, h, _ => by cases h
  | .int _ :: _, _, _, h, _ => by cases h
  | .str _ :: _, _, _, h, _ => by cases h
  | .tup _ :: _, _, _, h, _ => by cases h
  | .lst _ :: _, _, _, h, _ => by cases h
  | .frz _ :: _, _, _, h, _ => by cases h
  | .ref _ :: _, _, _, h, _ => by cases h
  | .dic _ _ :: _, _, _, h, _ => by cases h
end
section
variable {X : Cx} {Wx : WX} {a b e o : Expr} {es : List Expr} {ma mb me mo : Ev W} {ml : Ev (List W)} {pos p : Pos} {x : Str} {id T : String} {r : List V → Hp → VK → Prop} {f : List W → Store → Res W}
theorem ge_callB (hc : CallR X (.builtin id) r) (hr : RCok X Wx r f) (hg : Gl X x) (hm : X.mg x = none) (hv : bootBuiltins x = some (.builtin id)) (ha : GA X Wx (e :: es) ml) (hn : x ≠ "__name__" := by decide) (hdb : (x == ("__debug__" : Str)) = false := by decide)
    (he : starEach (e :: es) X.env = (false, eval e X.env) :: starEach es X.env := by rfl) (hpl : (backTo pos (starEach es X.env)).any (·.1) = false := by rfl) : GE X Wx (.Call (.Name x p) (e :: es) [] pos) (mCall f ml) :=
  PEimp (pe_callB hc hg hm hv ha hn hdb he hpl) fun σ H Q ⟨p, st, env, hp, S, E, h⟩ => tG_bind hp S E h fun q s1 ws vs t S1 E1 r1 h1 => hr q s1 ws vs σ Q S1 r1 h1
theorem ge_callTy (hc : CallR X (.type T) r) (hr : RCok X Wx r f) (hg : Gl X x) (hm : X.mg x = none) (hv : bootBuiltins x = some (.type T)) (ha : GA X Wx (e :: es) ml) (hn : x ≠ "__name__" := by decide) (hdb : (x == ("__debug__" : Str)) = false := by decide)
    (he : starEach (e :: es) X.env = (false, eval e X.env) :: starEach es X.env := by rfl) (hpl : (backTo pos (starEach es X.env)).any (·.1) = false := by rfl) : GE X Wx (.Call (.Name x p) (e :: es) [] pos) (mCall f ml) :=
  PEimp (pe_callTy hc hg hm hv ha hn hdb he hpl) fun σ H Q ⟨p, st, env, hp, S, E, h⟩ => tG_bind hp S E h fun q s1 ws vs t S1 E1 r1 h1 => hr q s1 ws vs σ Q S1 r1 h1

theorem rc_len : RCok X Wx (fun xs H Q => ∃ x n, xs = [x] ∧ LenV X.K x H n ∧ Q (.int n) H) fLen := by
  intro p st xs vs σ Q S rs h
  unfold fLen at h
  split at h
  · obtain ⟨v, rfl, r⟩ := one_of rs
    rename_i s
    have r' : v = .str s := r
    subst r'
    by_cases c : s.length ≤ sizeLine
    · rw [if_pos c] at h
      exact ⟨_, _, rfl, ⟨c, rfl⟩, fin_ok S h rfl⟩
    · rw [if_neg c] at h
      exact h.elim
  · obtain ⟨v, rfl, r⟩ := one_of rs
    rename_i w _
    cases e : seqIn st w with
    | none =>
      rw [e] at h
      exact h.elim
    | some ys =>
      rw [e] at h
      obtain ⟨a, us, rfl, ta, rs2⟩ := seqIn_of S e r
      refine ⟨_, us.length, rfl, ?_, ?_⟩
      · rcases ta with ta | ta
        · exact .inl ⟨us, ta, rfl⟩
        · exact .inr ⟨us, ta, rfl⟩
      · rw [← rs2.length]
        exact fin_ok S h rfl
  · exact h.elim
theorem rc_int : RCok X Wx (fun xs H Q => (∃ i, xs = [.int i] ∧ Q (.int i) H) ∨ ∃ k, xs = [.bl k] ∧ Q (.int (if k then 1 else 0)) H) fInt := by
  intro p st xs vs σ Q S rs h
  unfold fInt at h
  split at h
  · obtain ⟨v, rfl, r⟩ := one_of rs
    rename_i i
    have r' : v = .int i := r
    subst r'
    exact .inl ⟨i, rfl, fin_ok S h rfl⟩
  · obtain ⟨v, rfl, r⟩ := one_of rs
    rename_i i
    have r' : v = .bl i := r
    subst r'
    exact .inr ⟨i, rfl, fin_ok S h rfl⟩
  · exact h.elim
theorem rc_abs : RCok X Wx (fun xs H Q => ∃ i, xs = [.int i] ∧ Q (.int (if i < 0 then -i else i)) H) fAbs := by
  intro p st xs vs σ Q S rs h
  unfold fAbs at h
  split at h
  · obtain ⟨v, rfl, r⟩ := one_of rs
    rename_i i
    have r' : v = .int i := r
    subst r'
    exact ⟨i, rfl, fin_ok S h rfl⟩
  · exact h.elim
theorem rc_max2 : RCok X Wx (fun xs H Q => ∃ i j, xs = [.int i, .int j] ∧ Q (.int (if j > i then j else i)) H) fMax2 := by
  intro p st xs vs σ Q S rs h
  unfold fMax2 at h
  split at h
  · obtain ⟨v, u, rfl, r, r2⟩ := two_of rs
    rename_i i j
    have r' : v = .int i := r
    have r2' : u = .int j := r2
    subst r' r2'
    exact ⟨i, j, rfl, fin_ok S h rfl⟩
  · exact h.elim
theorem rc_min2 : RCok X Wx (fun xs H Q => ∃ i j, xs = [.int i, .int j] ∧ Q (.int (if j < i then j else i)) H) fMin2 := by
  intro p st xs vs σ Q S rs h
  unfold fMin2 at h
  split at h
  · obtain ⟨v, u, rfl, r, r2⟩ := two_of rs
    rename_i i j
    have r' : v = .int i := r
    have r2' : u = .int j := r2
    subst r' r2'
    exact ⟨i, j, rfl, fin_ok S h rfl⟩
  · exact h.elim
theorem rc_all : RCok X Wx (rAll X.K) fAll := by
  intro p st xs vs σ Q S rs h
  unfold fAll at h
  split at h
  · obtain ⟨v, rfl, r⟩ := one_of rs
    rename_i w
    cases e : listIn st w with
    | none =>
      rw [e] at h
      exact h.elim
    | some ys =>
      rw [e] at h
      dsimp only at h
      cases e2 : bools ys with
      | none =>
        rw [e2] at h
        exact h.elim
      | some bs =>
        rw [e2] at h
        obtain ⟨a, us, rfl, ta, rs2⟩ := listIn_of S e r
        rw [bools_of e2 rs2] at ta
        exact ⟨a, bs, rfl, ta, fin_ok S h rfl⟩
  · exact h.elim
theorem rc_any : RCok X Wx (rAny X.K) fAny := by
  intro p st xs vs σ Q S rs h
  unfold fAny at h
  split at h
  · obtain ⟨v, rfl, r⟩ := one_of rs
    rename_i w
    cases e : listIn st w with
    | none =>
      rw [e] at h
      exact h.elim
    | some ys =>
      rw [e] at h
      dsimp only at h
      cases e2 : bools ys with
      | none =>
        rw [e2] at h
        exact h.elim
      | some bs =>
        rw [e2] at h
        obtain ⟨a, us, rfl, ta, rs2⟩ := listIn_of S e r
        rw [bools_of e2 rs2] at ta
        exact ⟨a, bs, rfl, ta, fin_ok S h rfl⟩
  · exact h.elim
/-! ### repr of data -/
def rReprD (K : PySem.W.Frag) : List V → Hp → VK → Prop := fun xs H Q => ∃ v d, xs = [v] ∧ Dp K H v d ∧ cRepr d = true ∧ Q (.str d.shown) H
theorem call_reprD (hg : X.A.guards = some []) (hu : X.A.units + 64 < cLine) : CallR X (.builtin "repr") (rReprD X.K) := by
  intro pins s σ H xs us Q I r h
  obtain ⟨v, d, rfl, hd, hc, q⟩ := h
  obtain ⟨u, rfl, rv⟩ := vals1 r
  obtain ⟨as, rd⟩ := Dp.reads I d v u hd rv
  unfold cRepr at hc
  rw [Bool.and_eq_true, Bool.and_eq_true, Bool.and_eq_true, decide_eq_true_eq, decide_eq_true_eq] at hc
  obtain ⟨⟨⟨h1, h2⟩, h3⟩, h4⟩ := hc
  have hnd : d.hasDict = false := by simpa using h2
  cases rd with
  | none => exact PySem.P.repr_of_none ⟨.str _, H, I.tok _, ⟨_, rfl⟩, q⟩
  | bool b => exact PySem.P.repr_of_bool ⟨.str _, H, I.tok _, ⟨_, rfl⟩, q⟩
  | int i t => exact PySem.P.repr_of_int (by simpa [PyData.showable] using h1) ⟨.str _, H, I.tok _, ⟨_, rfl⟩, q⟩
  | str x t => exact PySem.P.repr_of_str ⟨.str _, H, I.tok _, ⟨_, rfl⟩, q⟩ h4
  | list k1 k2 k3 k4 => exact repr_of_reads' (.list k1 k2 k3 k4) h1 (PyData.noDict_hsm hnd) hg (by omega) (fun _ _ z => z) (fun h' u tk hk => ⟨.str _, H, I.kept hk, ⟨_, rfl⟩, q⟩) h4
  | tuple k1 k2 k3 k4 => exact repr_of_reads' (.tuple k1 k2 k3 k4) h1 (PyData.noDict_hsm hnd) hg (by omega) (fun _ _ z => z) (fun h' u tk hk => ⟨.str _, H, I.kept hk, ⟨_, rfl⟩, q⟩) h4
  | dict k1 k2 k3 k4 k5 => simp [PyData.hasDict] at hnd
theorem rc_repr : RCok X Wx (rReprD X.K) fRepr := by
  intro p st xs vs σ Q S rs h
  unfold fRepr at h
  split at h
  · obtain ⟨v, rfl, r⟩ := one_of rs
    rename_i w
    cases e : w.toD with
    | none =>
      rw [e] at h
      exact h.elim
    | some d =>
      rw [e] at h
      dsimp only at h
      by_cases c : cRepr d = true
      · rw [if_pos c] at h
        exact ⟨v, d, rfl, dp_of w v d e r, c, fin_ok S h rfl⟩
      · rw [if_neg c] at h
        exact h.elim
  · exact h.elim
theorem rc_tuple : RCok X Wx (fun xs H Q => ∃ p ys, xs = [.ref p] ∧ ((SqL X.K H p ys ∧ ∀ l, H l = none → Q (.ref l) (upd H l (.tup ys))) ∨ (SqT X.K H p ys ∧ Q (.ref p) H))) fTuple := by
  intro p st xs vs σ Q S rs h
  unfold fTuple at h
  split at h
  · obtain ⟨v, rfl, r⟩ := one_of rs
    rename_i w
    cases e : seqIn st w with
    | none =>
      rw [e] at h
      exact h.elim
    | some ys =>
      rw [e] at h
      by_cases t : ∃ zs, w = .tup zs
      · obtain ⟨zs, rfl⟩ := t
        cases e
        obtain ⟨a, us, rfl, ta, rs2⟩ := r
        exact ⟨a, us, rfl, .inr ⟨ta.seq, fin_ok S h ⟨a, us, rfl, ta, rs2⟩⟩⟩
      · have e' : listIn st w = some ys := by
          unfold seqIn at e
          split at e
          · exact absurd ⟨_, rfl⟩ t
          · exact e
        obtain ⟨a, us, rfl, ta, rs2⟩ := listIn_of S e' r
        exact ⟨a, us, rfl, .inl ⟨ta, fun l hl => h { p with H := upd p.H l (.tup us) } (.ref l) (step_new S hl) (sr_new S hl) (new_tup S hl rs2)⟩⟩
  · exact h.elim
theorem rc_list : RCok X Wx (fun xs H Q => ∃ p ys, xs = [.ref p] ∧ (SqL X.K H p ys ∨ SqT X.K H p ys) ∧ ∀ l, H l = none → Q (.ref l) (upd H l (.lst ys))) fList := by
  intro p st xs vs σ Q S rs h
  unfold fList at h
  split at h
  · obtain ⟨v, rfl, r⟩ := one_of rs
    rename_i w
    cases e : seqIn st w with
    | none =>
      rw [e] at h
      exact h.elim
    | some ys =>
      rw [e] at h
      obtain ⟨a, us, rfl, ta, rs2⟩ := seqIn_of S e r
      exact ⟨a, us, rfl, ta, fun l hl => h { p with H := upd p.H l (.lst us) } (.ref l) (step_new S hl) (sr_new S hl) (new_lst S hl rs2)⟩
  · exact h.elim

/-! ### subscripts -/
theorem atI_of {K : PySem.W.Frag} {p : Wh} {xs : List W} {vs : List V} {k : Int} {y : W} (h : atI xs k = some y) (rs : RWs K p xs vs) : ∃ v, atI vs k = some v ∧ RW K p y v := by
  unfold atI at h ⊢
  rw [← rs.length]
  cases e : ixN xs.length k with
  | none =>
    rw [e] at h
    cases h
  | some j =>
    rw [e] at h
    exact rs.get h
theorem r2_ix : R2ok X Wx (rIx X.K) fIx := by
  intro p st x y v u σ Q S rx ry h
  cases y with
  | int k =>
    have e2 : u = .int k := ry
    subst e2
    by_cases t : ∃ s, x = .str s
    · obtain ⟨s, rfl⟩ := t
      have e1 : v = .str s := rx
      subst e1
      dsimp only [fIx] at h
      by_cases c : s.length ≤ sizeLine
      · rw [if_pos c] at h
        cases e : atI s.cps.toList k with
        | none =>
          rw [e] at h
          exact h.elim
        | some z =>
          rw [e] at h
          exact .inr (.inr ⟨s, k, z, rfl, rfl, c, e, fin_ok S h rfl⟩)
      · rw [if_neg c] at h
        exact h.elim
    · have h' : Fin X.K X.mg (RW X.K) Wx p σ Q (match seqIn st x with | some xs => (match atI xs k with | some y => .ok y st | none => .bad) | none => .bad) := by
        cases x with
        | str s => exact absurd ⟨_, rfl⟩ t
        | _ => exact h
      cases e : seqIn st x with
      | none =>
        rw [e] at h'
        exact h'.elim
      | some xs =>
        rw [e] at h'
        dsimp only at h'
        cases e3 : atI xs k with
        | none =>
          rw [e3] at h'
          exact h'.elim
        | some z =>
          rw [e3] at h'
          obtain ⟨a, vs, rfl, ta, rs⟩ := seqIn_of S e rx
          obtain ⟨v', hv, rv⟩ := atI_of e3 rs
          rcases ta with ta | ta
          · exact .inl ⟨a, vs, k, v', rfl, rfl, ta, hv, fin_ok S h' rv⟩
          · exact .inr (.inl ⟨a, vs, k, v', rfl, rfl, ta, hv, fin_ok S h' rv⟩)
  | _ => exact h.elim
theorem ge_ix (ha : GE X Wx a ma) (hb : GE X Wx b mb) (hs : PlainIx b) : GE X Wx (.Subscript a b pos) (mOp fIx ma mb) :=
  PEimp (pe_ix ix_seq ha hb hs) fun σ H Q h => tOp_of r2_ix σ H Q h

/-! ### isinstance -/
def TyOk (T : String) : Prop := ∀ (K : PySem.W.Frag) (w : W), PySem.W.kitOne K (.type (tyName w)) (.type T) = some (isTy T w)
theorem isTy_of {T : String} (hT : TyOk T) {p : Wh} {st : Store} {w : W} {v : V}
    (S : SR X.K p st) (r : RW X.K p w v) {σ : L2.St} {Q : VK} (h : Fin X.K X.mg (RW X.K) Wx p σ Q (fIsi T w st)) : rIsi X.K [v, .ty T] p.H Q := by
  have go : TyX X.K p.H v (.type (tyName w)) → Fin X.K X.mg (RW X.K) Wx p σ Q (.ok (.bl (isTy T w)) st) → rIsi X.K [v, .ty T] p.H Q :=
    fun t h => ⟨v, .ty T, _, _, _, rfl, .ty T, t, hT X.K w, fin_ok S h rfl⟩
  cases w with
  | non =>
    have e : v = .non := r
    subst e
    exact go (.base .non) h
  | bl b =>
    have e : v = .bl b := r
    subst e
    exact go (.base (.bl b)) h
  | int b =>
    have e : v = .int b := r
    subst e
    exact go (.base (.int b)) h
  | str b =>
    have e : v = .str b := r
    subst e
    exact go (.base (.str b)) h
  | tup xs =>
    obtain ⟨a, vs, rfl, ta, rs⟩ := r
    refine go ?_ h
    rcases ta.seq with z | ⟨o, its, n, z1, z2, _⟩
    · rcases z with z | ⟨o, z⟩
      · exact .base (.tup z)
      · exact .fTuple z
    · exact .kTuple z1 z2
  | lst xs =>
    obtain ⟨a, vs, rfl, ta, rs⟩ := r
    exact go (.base (.lst ta.1)) h
  | frz xs =>
    obtain ⟨a, vs, rfl, ta, rs⟩ := r
    refine go ?_ h
    rcases ta.seq with z | ⟨o, its, n, z1, z2, _⟩
    · rcases z with z | ⟨o, z⟩
      · exact .base (.lst z)
      · exact .base (.frz z)
    · exact .kList z1 z2
  | dic ks xs =>
    obtain ⟨a, gs, rfl, hH, _⟩ := r
    exact go (.base (.dK hH)) h
  | ref n =>
    dsimp only [fIsi] at h
    cases e : st[n]? with
    | none =>
      rw [e] at h
      exact h.elim
    | some o =>
      cases o with
      | lst ys =>
        rw [e] at h
        obtain ⟨_, vs, hH, rs⟩ := S.at e
        have e2 : v = .ref (p.ρ n) := r.2
        subst e2
        exact go (.base (.lst hH)) h
      | _ =>
        rw [e] at h
        exact h.elim
theorem ge_isi {T : String} {pT : Pos} (hT : TyOk T) (hg : Gl X "isinstance") (hm : X.mg "isinstance" = none) (hgT : Gl X T) (hmT : X.mg T = none) (hvT : bootBuiltins T = some (.type T)) (he : GE X Wx e me)
    (hs : starEach [e, .Name T pT] X.env = (false, eval e X.env) :: starEach [.Name T pT] X.env := by rfl) (hpl : (backTo pos (starEach [.Name T pT] X.env)).any (·.1) = false := by rfl)
    (hs2 : starEach [.Name T pT] X.env = (false, eval (.Name T pT) X.env) :: starEach [] X.env := by rfl) (hn : (T : Str) ≠ "__name__" := by decide) (hd : ((T : Str) == ("__debug__" : Str)) = false := by decide) :
    GE X Wx (.Call (.Name "isinstance" p) [e, .Name T pT] [] pos) (mUn (fIsi T) me) :=
  PEimp (pe_callB call_isi hg hm (by decide +kernel) (pa_cons he (pa_cons (pe_bltn (v := .ty T) hgT hmT hvT rfl hn hd) pa_nil hs2) hs) (he := hs) (hpl := hpl)) fun σ H Q ⟨p, st, env, hp, S, E, h⟩ =>
    tG_bind hp S E h fun q s1 w v t S1 E1 r h1 => isTy_of hT S1 r h1
theorem ty_int : TyOk "int" := fun K w => by cases w <;> rfl
theorem ty_bool : TyOk "bool" := fun K w => by cases w <;> rfl
theorem ty_str : TyOk "str" := fun K w => by cases w <;> rfl
theorem ty_tuple : TyOk "tuple" := fun K w => by cases w <;> rfl
theorem ty_list : TyOk "list" := fun K w => by cases w <;> rfl
theorem ty_dict : TyOk "dict" := fun K w => by cases w <;> rfl
end
end Mi

namespace Mi
open PySem PySem.Spec PyProof.Rows L2
variable [ClsMap]

/-! ### list comprehensions -/
def noX {α : Type} : Res α → Res α
  | .exc _ _ => .bad
  | r => r
def lcEach (put : W → En → En) (tt : Ev Bool) (te : Ev W) (env : En) : List W → List W → Store → Res (List W)
  | [], acc, st => .ok acc st
  | x :: xs, acc, st => (noX (tt (put x env) st)).bind fun b s1 =>
    if b = true then (noX (te (put x env) s1)).bind fun y s2 => if acc.length < 100000 then lcEach put tt te env xs (acc ++ [y]) s2 else .bad else lcEach put tt te env xs acc s1
def wipeE (env : En) : List Nat → En
  | [] => env
  | v :: vs => (wipeE env vs).set v none
def asLst (r : Res (List W)) : Res W := r.bind fun acc s => .ok (.lst acc) s
def yes : Ev Bool := fun _ st => .ok true st
def setN (j : Nat) : W → En → En := fun x e => e.set j (some x)
/-- over a range of n | from a below b | over a list | over a tuple -/
def mLcR1 (vs : List Nat) (put : W → En → En) (ml : Ev (List W)) (tt : Ev Bool) (te : Ev W) : Ev W := fun env st => (ml env st).bind fun ws s1 => match as1 ws with
  | some n => if -(2 ^ 62) ≤ n ∧ n < 2 ^ 62 then asLst (lcEach put tt te (wipeE env vs) (rngW 0 n.toNat) [] s1) else .bad
  | none => .bad
def mLcR2 (vs : List Nat) (put : W → En → En) (ml : Ev (List W)) (tt : Ev Bool) (te : Ev W) : Ev W := fun env st => (ml env st).bind fun ws s1 => match as2 ws with
  | some ab => if -(2 ^ 62) ≤ ab.1 ∧ ab.1 < 2 ^ 62 ∧ -(2 ^ 62) ≤ ab.2 ∧ ab.2 < 2 ^ 62 then asLst (lcEach put tt te (wipeE env vs) (rngW ab.1 (ab.2 - ab.1).toNat) [] s1) else .bad
  | none => .bad
def mLcS (vs : List Nat) (put : W → En → En) (me : Ev W) (tt : Ev Bool) (te : Ev W) : Ev W := fun env st => (me env st).bind fun w s1 => match seqOf w with
  | some xs => asLst (lcEach put tt te (wipeE env vs) xs [] s1)
  | none => .bad
def mLcT (vs : List Nat) (put : W → En → En) (me : Ev W) (tt : Ev Bool) (te : Ev W) : Ev W := fun env st => (me env st).bind fun w s1 => match tupOf w with
  | some xs => asLst (lcEach put tt te (wipeE env vs) xs [] s1)
  | none => .bad

section
variable {K : PySem.W.Frag} {mg : Str → Option Value} {p q : Wh} {st : Store} {env : En} {σ : L2.St} {D : Addr}
theorem RO.move (s : Mv p q) {o : O} {h : Option HO} (r : RO K p o h) : RO K q o h := by
  cases o with
  | lst xs =>
    obtain ⟨vs, e, k⟩ := r
    exact ⟨vs, e, RWs.move s xs vs k⟩
  | ins C fs =>
    obtain ⟨dx, gs, e, l, k⟩ := r
    exact ⟨dx, gs, e, l, RWs.move s _ _ k⟩
  | dct fs =>
    obtain ⟨gs, e, l, k⟩ := r
    exact ⟨gs, e, l, RWs.move s _ _ k⟩
theorem wipe_set {j : Nat} {o : Option V} : ∀ {vs : List Nat}, j ∈ vs → ∀ σ : L2.St, wipe (σ.set j o) vs = wipe σ vs
  | v :: vs, h, σ => by
    unfold wipe
    by_cases e : j ∈ vs
    · rw [wipe_set e σ]
    · have ev : j = v := by
        rcases List.mem_cons.mp h with z | z
        · exact z
        · exact absurd z e
      subst ev
      have out : ∀ (ws : List Nat), j ∉ ws → ∀ σ : L2.St, wipe (σ.set j o) ws = (wipe σ ws).set j o := by
        intro ws
        induction ws with
        | nil => intro _ _; rfl
        | cons a r ih =>
          intro hn σ
          unfold wipe
          rw [ih (fun z => hn (List.mem_cons_of_mem _ z)) σ]
          exact List.set_comm _ _ (fun z => hn (by rw [z]; exact List.mem_cons_self))
      rw [out vs e σ, List.set_set]
theorem wipe_wipe : ∀ {vs : List Nat} (σ : L2.St), wipe (wipe σ vs) vs = wipe σ vs := by
  have go : ∀ (us vs : List Nat) (σ : L2.St), (∀ u ∈ us, u ∈ vs) → wipe (wipe σ us) vs = wipe σ vs := by
    intro us
    induction us with
    | nil => intro _ _ _; rfl
    | cons u r ih =>
      intro vs σ h
      show wipe ((wipe σ r).set u none) vs = wipe σ vs
      rw [wipe_set (h u List.mem_cons_self), ih vs σ (fun z hz => h z (List.mem_cons_of_mem _ hz))]
  exact fun {vs} σ => go vs vs σ fun _ h => h
theorem EnvR.wiped (e : EnvR K p env σ) : ∀ vs : List Nat, EnvR K p (wipeE env vs) (wipe σ vs)
  | [] => e
  | v :: vs => (EnvR.wiped e vs).unset v none
theorem mv_hide (S : SR K p st) (h : p.H D = none) : Mv p { p with H := upd p.H D (.lst []), x := D :: p.x } := by
  have t := step_new (o := .lst []) S h
  refine ⟨Nat.le_refl _, fun _ _ => rfl, t.keep, fun i h1 h2 => absurd h2 (Nat.not_lt.mpr h1), t.there, fun a z => ?_, t.hth⟩
  rcases List.mem_cons.mp z with z | z
  · exact .inr (by rw [z]; exact h)
  · exact .inl z
theorem sr_hide (S : SR K p st) (h : p.H D = none) : SR K { p with H := upd p.H D (.lst []), x := D :: p.x } st := by
  have t := sr_new (o := .lst []) S h
  have m := mv_hide S h
  refine ⟨t.tab.more, t.len, t.inj, fun i u e => ?_, fun a z => ?_⟩
  · have hi : i < p.n := by
      rw [S.len]
      exact (List.getElem?_eq_some_iff.mp e).1
    have r := (S.obj i u e).move m
    show RO K _ u (upd p.H D (.lst []) (p.ρ i))
    rw [upd_ne (fun e => S.there i hi (by rw [e]; exact h))]
    exact r
  · rcases List.mem_cons.mp z with z | z
    · subst z
      refine ⟨?_, fun i hi e => S.there i hi (by rw [e]; exact h)⟩
      show upd p.H a (.lst []) a ≠ none
      rw [upd_same]
      exact fun z => nomatch z
    · exact ⟨m.hth a z, (S.hid a z).2⟩
theorem mv_write (S : SR K p st) (hD : D ∈ p.x) (o : HO) : Mv p { p with H := upd p.H D o } := by
  refine ⟨Nat.le_refl _, fun _ _ => rfl, fun a u e h => ?_, fun i h1 h2 => absurd h2 (Nat.not_lt.mpr h1), fun i hi => ?_, fun a z => .inl z, fun a z => ?_⟩
  · show upd p.H D o a = some u
    rw [upd_ne (fun z => h.2 (by rw [z]; exact hD))]
    exact e
  · show upd p.H D o (p.ρ i) ≠ none
    rw [upd_ne ((S.hid D hD).2 i hi)]
    exact S.there i hi
  · show upd p.H D o a ≠ none
    by_cases e : a = D
    · rw [e, upd_same]
      exact fun z => nomatch z
    · rw [upd_ne e]
      exact (S.hid a z).1
theorem sr_write (S : SR K p st) (hD : D ∈ p.x) (o : HO) (ho : ∀ o', p.H D = some o' → NoTbl o' ∧ NoCode o') (no : NoTbl o := by first | exact fun _ z => nomatch z | assumption) : SR K { p with H := upd p.H D o } st := by
  have m := mv_write S hD o
  refine ⟨S.tab.upd ho no, S.len, S.inj, fun i u e => ?_, fun a z => ⟨m.hth a z, (S.hid a z).2⟩⟩
  have hi : i < p.n := by
    rw [S.len]
    exact (List.getElem?_eq_some_iff.mp e).1
  have r := (S.obj i u e).move m
  show RO K _ u (upd p.H D o (p.ρ i))
  rw [upd_ne ((S.hid D hD).2 i hi)]
  exact r
theorem mv_show (S : SR K p st) {x : List Addr} (hx : ∀ a, a ∈ x → a ∈ p.x) : Mv p { p with x := x } :=
  ⟨Nat.le_refl _, fun _ _ => rfl, fun a o e _ => e, fun i h1 h2 => absurd h2 (Nat.not_lt.mpr h1), S.there, fun a z => .inl (hx a z), fun a z => (S.hid a z).1⟩
theorem sr_show (S : SR K p st) {x : List Addr} (hx : ∀ a, a ∈ x → a ∈ p.x) (ht : TabI x p.H) : SR K { p with x := x } st :=
  ⟨ht, S.len, S.inj, fun i u e => (S.obj i u e).move (mv_show S hx), fun a z => S.hid a (hx a z)⟩

/-- what a comprehension's target does -/
def PutLc (K : PySem.W.Frag) (g : TG) (put : W → En → En) (vs : List Nat) (xs : List W) : Prop :=
  ∀ (q : Wh) (w : W) (v : V) (env : En) (σ : L2.St) (Q : L2.St → Hp → Prop), w ∈ xs → RW K q w v → EnvR K q env σ → (∀ σ', EnvR K q (put w env) σ' → wipe σ' vs = wipe σ vs → Q σ' q.H) → g v σ q.H Q
theorem putLc_name {j : Nat} {vs : List Nat} {xs : List W} (h : j ∈ vs) : PutLc K (gName j) (setN j) vs xs := fun q w v env σ Q _ r E k => k _ (E.set j r) (wipe_set h σ)

abbrev W0 : WX := fun _ _ _ _ => False
/-- ahead of the i-th turn -/
def LcT (K : PySem.W.Frag) (mg : Str → Option Value) (Wx : WX) (put : W → En → En) (tt : Ev Bool) (te : Ev W) (env : En) (p : Wh) (D : Addr) (σ : L2.St) (Q : VK) (xs : List W) (i : Nat) (H' : Hp) : Prop :=
  ∃ (q : Wh) (s2 : Store) (acc : List W) (accV : List V), q.H = H' ∧ q.x = D :: p.x ∧ Mv p q ∧ (∀ a, a ∈ p.x → (∀ ps, p.H a ≠ some (.tbl ps)) → q.H a = p.H a) ∧ SR K q s2 ∧ q.H D = some (.lst accV) ∧ RWs K q acc accV ∧
    Fin K mg (RW K) Wx p σ Q (asLst (lcEach put tt te env (xs.drop i) acc s2))
theorem lc_start {Wx : WX} {put : W → En → En} {tt : Ev Bool} {te : Ev W} {Q : VK} {xs : List W} (S : SR K p st) (hD : p.H D = none) (h : Fin K mg (RW K) Wx p σ Q (asLst (lcEach put tt te env xs [] st))) :
    LcT K mg Wx put tt te env p D σ Q xs 0 (upd p.H D (.lst [])) :=
  ⟨{ p with H := upd p.H D (.lst []), x := D :: p.x }, st, [], [], rfl, rfl, mv_hide S hD, (step_new (o := .lst []) S hD).hk, sr_hide S hD, upd_same, rfl, h⟩
theorem lc_turn {Wx : WX} {put : W → En → En} {tt : Ev Bool} {te : Ev W} {Q : VK} {xs : List W} {vs : List V} {i : Nat} {g : TG} {v : V} {own : List Nat} {H' : Hp} (S : SR K p st) (hD : p.H D = none) (E : EnvR K p env σ) (hg : PutLc K g put own xs) (rs : RWs K p xs vs) (hv : vs[i]? = some v)
    (h : LcT K mg Wx put tt te (wipeE env own) p D σ Q xs i H') : g v (wipe σ own) H' fun σ2 H2 => wipe σ2 own = wipe σ own ∧ tG K mg eqR W0 tt σ2 H2 fun b H3 =>
      if b = true then tG K mg (RW K) W0 te σ2 H3 fun y H4 => ∃ acc, H4 D = some (.lst acc) ∧ acc.length < sizeLine ∧ LcT K mg Wx put tt te (wipeE env own) p D σ Q xs (i + 1) (upd H4 D (.lst (acc ++ [y]))) else LcT K mg Wx put tt te (wipeE env own) p D σ Q xs (i + 1) H3 := by
  obtain ⟨q, s2, acc, accV, rfl, ex, m, hk, S2, hA, ra, hF⟩ := h
  obtain ⟨w, hw, r⟩ := rs.getV hv
  obtain ⟨hl, hw'⟩ := List.getElem?_eq_some_iff.mp hw
  rw [List.drop_eq_getElem_cons hl, hw'] at hF
  refine hg q w v (wipeE env own) (wipe σ own) _ (List.mem_of_getElem? hw) (RW.move m w v r) ((E.wiped own).move m) fun σ2 E2 ew => ⟨ew.trans (wipe_wipe σ), q, s2, put w (wipeE env own), rfl, S2, E2, ?_⟩
  have hDq : D ∈ q.x := by
    rw [ex]
    exact List.mem_cons_self
  unfold asLst lcEach at hF
  cases e1 : tt (put w (wipeE env own)) s2 with
  | bad =>
    rw [e1] at hF
    exact hF
  | exc x s3 =>
    rw [e1] at hF
    exact hF.elim
  | ok b s3 =>
    rw [e1] at hF
    intro q3 b' t3 S3 eb
    have eb' : b = b' := eb
    subst eb'
    have keep3 : ∀ a, a ∈ p.x → (∀ ps, p.H a ≠ some (.tbl ps)) → q3.H a = p.H a := fun a z n => (t3.hk a (by rw [ex]; exact List.mem_cons_of_mem _ z) (by rw [hk a z n]; exact n)).trans (hk a z n)
    have hA3 : q3.H D = some (.lst accV) := (t3.hk D hDq (by rw [hA]; exact fun _ z => nomatch z)).trans hA
    cases b with
    | false => exact ⟨q3, s3, acc, accV, rfl, t3.xs.trans ex, m.trans t3.toMv, keep3, S3, hA3, RWs.step t3 acc accV ra, hF⟩
    | true =>
      refine ⟨q3, s3, put w (wipeE env own), rfl, S3, E2.step t3, ?_⟩
      have hF' : Fin K mg (RW K) Wx p σ Q (((noX (te (put w (wipeE env own)) s3)).bind fun y s2 => if acc.length < 100000 then lcEach put tt te (wipeE env own) (List.drop (i + 1) xs) (acc ++ [y]) s2 else .bad).bind fun acc s => .ok (.lst acc) s) := hF
      cases e2 : te (put w (wipeE env own)) s3 with
      | bad =>
        rw [e2] at hF'
        exact hF'
      | exc x s4 =>
        rw [e2] at hF'
        exact hF'.elim
      | ok y s4 =>
        rw [e2] at hF'
        have hF2 : Fin K mg (RW K) Wx p σ Q ((if acc.length < 100000 then lcEach put tt te (wipeE env own) (List.drop (i + 1) xs) (acc ++ [y]) s4 else .bad).bind fun acc s => .ok (.lst acc) s) := hF'
        by_cases c : acc.length < 100000
        · rw [if_pos c] at hF2
          intro q4 v4 t4 S4 r4
          have hD4 : D ∈ q4.x := by
            rw [t4.xs, t3.xs]
            exact hDq
          have ma := mv_write S4 hD4 (.lst (accV ++ [v4]))
          have hA4 : q4.H D = some (.lst accV) := (t4.hk D (by rw [t3.xs]; exact hDq) (by rw [hA3]; exact fun _ z => nomatch z)).trans hA3
          refine ⟨accV, hA4, by rw [← ra.length]; exact Nat.lt_of_lt_of_le c (by decide), { q4 with H := upd q4.H D (.lst (accV ++ [v4])) }, s4, acc ++ [y], accV ++ [v4], rfl, t4.xs.trans (t3.xs.trans ex), ((m.trans t3.toMv).trans t4.toMv).trans ma,
            fun a z n => ?_, sr_write S4 hD4 _ (fun o' e => by
              rw [hA4] at e
              cases e
              exact ⟨fun _ z => (nomatch z), noCode_lst⟩), upd_same, RWs.append (RWs.move ma acc accV (RWs.step (t3.trans t4) acc accV ra)) ⟨v4, [], rfl, RW.move ma y v4 r4, rfl⟩, hF2⟩
          have hne : a ≠ D := fun e => (S.hid a z).1 (by rw [e]; exact hD)
          show upd q4.H D _ a = p.H a
          rw [upd_ne hne]
          exact (t4.hk a (by rw [t3.xs, ex]; exact List.mem_cons_of_mem _ z) (by rw [keep3 a z n]; exact n)).trans (keep3 a z n)
        · rw [if_neg c] at hF2
          exact hF2.elim
theorem lc_end {Wx : WX} {put : W → En → En} {tt : Ev Bool} {te : Ev W} {Q : VK} {xs : List W} {H' : Hp} {i : Nat} (S : SR K p st) (hD : p.H D = none) (hi : xs.length ≤ i) (h : LcT K mg Wx put tt te env p D σ Q xs i H') : Q (.ref D) H' := by
  obtain ⟨q, s2, acc, accV, rfl, ex, m, hk, S2, hA, ra, hF⟩ := h
  rw [List.drop_of_length_le hi] at hF
  have sub : ∀ a, a ∈ p.x → a ∈ q.x := fun a z => by
    rw [ex]
    exact List.mem_cons_of_mem _ z
  have ms := mv_show S2 sub
  have hDq : D ∈ q.x := by
    rw [ex]
    exact List.mem_cons_self
  exact hF { q with x := p.x } (.ref D) ⟨m.trans ms, rfl, hk⟩ (sr_show S2 sub (TabI.less (by rw [← ex]; exact S2.tab) (by rw [hA]; exact fun _ z => nomatch z))) ⟨D, accV, rfl, ⟨hA, (S2.hid D hDq).2, fun z => (S.hid D z).1 hD⟩, RWs.move ms acc accV ra⟩
end

section
variable {X : Cx} {Wx : WX} {elt tg it : Expr} {ifs : List Expr} {scope : Scope} {own : List (Str × Nat)} {pos p : Pos} {g : TG} {put : W → En → En} {tt : Ev Bool} {te me : Ev W} {ml : Ev (List W)} {a b : Expr}
abbrev GP (X : Cx) (Wx : WX) (e : List Expr) (m : Ev Bool) : Prop := PTs X e (tG X.K X.mg eqR Wx m)
theorem gp_nil : GP X Wx [] yes := ⟨fun pins s σ H Q I h => by
  obtain ⟨p, st, env, rfl, S, E, q⟩ := h
  exact pts_nil.run pins s σ _ Q I (q p true (.refl S) S rfl)⟩
theorem gp_one {c : Expr} (h : GT X Wx c tt) : GP X Wx [c] tt := pts_one h
theorem lcR1_of {σ : L2.St} {H : Hp} {Q : VK} (hg : ∀ xs, PutLc X.K g put (own.map (·.2)) xs) (h : tG X.K X.mg (RW X.K) Wx (mLcR1 (own.map (·.2)) put ml tt te) σ H Q) :
    tLc (iRng1 (tG X.K X.mg (RWs X.K) Wx ml)) g (tG X.K X.mg eqR W0 tt) (tG X.K X.mg (RW X.K) W0 te) (own.map (·.2)) σ H Q := by
  obtain ⟨p, st, env, hp, S, E, h⟩ := h
  refine tG_bind hp S E h fun q s1 ws vs t S1 E1 r h1 => ?_
  cases e : as1 ws with
  | none =>
    rw [e] at h1
    exact h1.elim
  | some n =>
    rw [e] at h1
    dsimp only at h1
    by_cases hb : -(2 ^ 62) ≤ n ∧ n < 2 ^ 62
    · rw [if_pos hb] at h1
      refine ⟨n, as1_of e r, hb.1, hb.2, fun D hD => ?_⟩
      have rs : RWs X.K q (rngW 0 n.toNat) ((List.range n.toNat).map fun (i : Nat) => V.int ((0 : Int) + (i : Int))) := by
        unfold rngW
        generalize List.range n.toNat = l
        induction l with
        | nil => exact (rfl : ([] : List V) = [])
        | cons i l ih => exact ⟨_, _, rfl, rfl, ih⟩
      refine lc_range (LcT X.K X.mg Wx put tt te (wipeE env (own.map (·.2))) q D σ Q (rngW 0 n.toNat)) (lc_start S1 hD h1) (fun i H' hi hT => ?_) fun H' hT => lc_end S1 hD (by rw [rngW_len]; exact Nat.le_refl _) hT
      exact lc_turn S1 hD E1 (hg _) rs (by rw [List.getElem?_map, List.getElem?_range hi]; rfl) hT
    · rw [if_neg hb] at h1
      exact h1.elim
theorem lcR2_of {σ : L2.St} {H : Hp} {Q : VK} (hg : ∀ xs, PutLc X.K g put (own.map (·.2)) xs) (h : tG X.K X.mg (RW X.K) Wx (mLcR2 (own.map (·.2)) put ml tt te) σ H Q) :
    tLc (iRng2 (tG X.K X.mg (RWs X.K) Wx ml)) g (tG X.K X.mg eqR W0 tt) (tG X.K X.mg (RW X.K) W0 te) (own.map (·.2)) σ H Q := by
  obtain ⟨p, st, env, hp, S, E, h⟩ := h
  refine tG_bind hp S E h fun q s1 ws vs t S1 E1 r h1 => ?_
  cases e : as2 ws with
  | none =>
    rw [e] at h1
    exact h1.elim
  | some ab =>
    rw [e] at h1
    dsimp only at h1
    by_cases hb : -(2 ^ 62) ≤ ab.1 ∧ ab.1 < 2 ^ 62 ∧ -(2 ^ 62) ≤ ab.2 ∧ ab.2 < 2 ^ 62
    · rw [if_pos hb] at h1
      refine ⟨ab.1, ab.2, as2_of e r, hb, fun D hD => ?_⟩
      have rs : RWs X.K q (rngW ab.1 (ab.2 - ab.1).toNat) ((List.range (ab.2 - ab.1).toNat).map fun (i : Nat) => V.int (ab.1 + (i : Int))) := by
        unfold rngW
        generalize List.range (ab.2 - ab.1).toNat = l
        induction l with
        | nil => exact (rfl : ([] : List V) = [])
        | cons i l ih => exact ⟨_, _, rfl, rfl, ih⟩
      refine lc_range (LcT X.K X.mg Wx put tt te (wipeE env (own.map (·.2))) q D σ Q (rngW ab.1 (ab.2 - ab.1).toNat)) (lc_start S1 hD h1) (fun i H' hi hT => ?_) fun H' hT => lc_end S1 hD (by rw [rngW_len]; exact Nat.le_refl _) hT
      exact lc_turn S1 hD E1 (hg _) rs (by rw [List.getElem?_map, List.getElem?_range hi]; rfl) hT
    · rw [if_neg hb] at h1
      exact h1.elim
theorem lcS_of {σ : L2.St} {H : Hp} {Q : VK} (hg : ∀ xs, PutLc X.K g put (own.map (·.2)) xs) (h : tG X.K X.mg (RW X.K) Wx (mLcS (own.map (·.2)) put me tt te) σ H Q) :
    tLc (iList X.K (tG X.K X.mg (RW X.K) Wx me)) g (tG X.K X.mg eqR W0 tt) (tG X.K X.mg (RW X.K) W0 te) (own.map (·.2)) σ H Q := by
  obtain ⟨p, st, env, hp, S, E, h⟩ := h
  refine tG_bind hp S E h fun q s1 w v t S1 E1 r h1 => ?_
  cases e : seqOf w with
  | none =>
    rw [e] at h1
    exact h1.elim
  | some xs =>
    rw [e] at h1
    obtain ⟨a, vs, ev, ta, rs⟩ := seqOf_of e r
    refine ⟨a, ev, ⟨vs, ta q (Step.refl S1).toMv⟩, fun D hD => lc_list (xs := vs) (LcT X.K X.mg Wx put tt te (wipeE env (own.map (·.2))) q D σ Q xs) (lc_start S1 hD h1) (fun i H' hi hT => ?_) (fun i x H' hx hT => lc_turn S1 hD E1 (hg _) rs hx hT) fun H' hT => lc_end S1 hD (by rw [rs.length]; exact Nat.le_refl _) hT⟩
    obtain ⟨z, _, _, _, rfl, ez, m, hk, _⟩ := hT
    exact ta z m
theorem lcT_of {σ : L2.St} {H : Hp} {Q : VK} (hg : ∀ xs, PutLc X.K g put (own.map (·.2)) xs) (h : tG X.K X.mg (RW X.K) Wx (mLcT (own.map (·.2)) put me tt te) σ H Q) :
    tLc (iTup X.K (tG X.K X.mg (RW X.K) Wx me)) g (tG X.K X.mg eqR W0 tt) (tG X.K X.mg (RW X.K) W0 te) (own.map (·.2)) σ H Q := by
  obtain ⟨p, st, env, hp, S, E, h⟩ := h
  refine tG_bind hp S E h fun q s1 w v t S1 E1 r h1 => ?_
  cases e : tupOf w with
  | none =>
    rw [e] at h1
    exact h1.elim
  | some xs =>
    rw [e] at h1
    obtain ⟨a, vs, ev, ta, rs⟩ := tupOf_of e r
    refine ⟨a, ev, ⟨vs, ta.seq⟩, fun D hD => lc_tup (xs := vs) (LcT X.K X.mg Wx put tt te (wipeE env (own.map (·.2))) q D σ Q xs) (lc_start S1 hD h1) (fun i H' hi hT => ?_) (fun i x H' hx hT => lc_turn S1 hD E1 (hg _) rs hx hT) fun H' hT => lc_end S1 hD (by rw [rs.length]; exact Nat.le_refl _) hT⟩
    obtain ⟨z, _, _, _, rfl, ez, m, hk, _⟩ := hT
    exact (tup_step m ta).seq
/-- the block's parts, in its own context -/
structure Blk (X : Cx) (scope : Scope) (own : List (Str × Nat)) (tg elt : Expr) (ifs : List Expr) (g : TG) (tt : Ev Bool) (te : Ev W) : Prop where
  ok : BlkOk X.N X.env.scope scope own
  hg : ∀ (s : Shared) (H : Hp) (C : Addr) (cl : List (Str × Addr)) (fp : List Addr), PG (X.blk s H scope (compEnvC scope cl C X.env) fp) tg g
  ht : ∀ (s : Shared) (H : Hp) (C : Addr) (cl : List (Str × Addr)) (fp : List Addr), GP (X.blk s H scope (compEnvC scope cl C X.env) fp) W0 ifs tt
  he : ∀ (s : Shared) (H : Hp) (C : Addr) (cl : List (Str × Addr)) (fp : List Addr), GE (X.blk s H scope (compEnvC scope cl C X.env) fp) W0 elt te
theorem ge_lcR1 {rp : Pos} (B : Blk X scope own tg elt ifs g tt te) (hp : ∀ xs, PutLc X.K g put (own.map (·.2)) xs) (hc : X.calm = true) (hN : X.N.Nodup) (hg : Gl X "range") (hm : X.mg "range" = none) (ha : GA X Wx [a] ml) (hs : starEach [a] X.env = [(false, eval a X.env)] := by rfl)
    (hf : ∀ x, foldedSetIterable (.Call (.Name "range" p) [a] [] rp) X.env x = pure x := by intro _; rfl) :
    GE X Wx (.ListComp elt [⟨tg, .Call (.Name "range" p) [a] [] rp, ifs, 0⟩] scope pos) (mLcR1 (own.map (·.2)) put ml tt te) :=
  PEimp (pe_lc hc hN (pi_range1 hg hm ha hs) B.ok B.hg B.ht B.he hf) fun σ H Q h => lcR1_of hp h
theorem ge_lcR2 {rp : Pos} (B : Blk X scope own tg elt ifs g tt te) (hp : ∀ xs, PutLc X.K g put (own.map (·.2)) xs) (hc : X.calm = true) (hN : X.N.Nodup) (hg : Gl X "range") (hm : X.mg "range" = none) (ha : GA X Wx [a, b] ml) (hs : starEach [a, b] X.env = [(false, eval a X.env), (false, eval b X.env)] := by rfl) (hs2 : starEach [b] X.env = [(false, eval b X.env)] := by rfl)
    (hf : ∀ x, foldedSetIterable (.Call (.Name "range" p) [a, b] [] rp) X.env x = pure x := by intro _; rfl) :
    GE X Wx (.ListComp elt [⟨tg, .Call (.Name "range" p) [a, b] [] rp, ifs, 0⟩] scope pos) (mLcR2 (own.map (·.2)) put ml tt te) :=
  PEimp (pe_lc hc hN (pi_range2 hg hm ha hs hs2) B.ok B.hg B.ht B.he hf) fun σ H Q h => lcR2_of hp h
theorem ge_lcS (B : Blk X scope own tg elt ifs g tt te) (hp : ∀ xs, PutLc X.K g put (own.map (·.2)) xs) (hc : X.calm = true) (hN : X.N.Nodup) (he : GE X Wx it me)
    (hf : ∀ x, foldedSetIterable it X.env x = pure x := by intro _; rfl) : GE X Wx (.ListComp elt [⟨tg, it, ifs, 0⟩] scope pos) (mLcS (own.map (·.2)) put me tt te) :=
  PEimp (pe_lc hc hN (pi_list he) B.ok B.hg B.ht B.he hf) fun σ H Q h => lcS_of hp h
theorem ge_lcT (B : Blk X scope own tg elt ifs g tt te) (hp : ∀ xs, PutLc X.K g put (own.map (·.2)) xs) (hc : X.calm = true) (hN : X.N.Nodup) (he : GE X Wx it me)
    (hf : ∀ x, foldedSetIterable it X.env x = pure x := by intro _; rfl) : GE X Wx (.ListComp elt [⟨tg, it, ifs, 0⟩] scope pos) (mLcT (own.map (·.2)) put me tt te) :=
  PEimp (pe_lc hc hN (pi_tup he) B.ok B.hg B.ht B.he hf) fun σ H Q h => lcT_of hp h
/-- y = [..] on one line, y a local name -/
theorem lc_set {D : Ends} {σ : L2.St} {H : Hp} {i : Nat} {me : Ev W} (h : tS X.K X.mg Wx (sSet i me) D σ H) : tG X.K X.mg (RW X.K) Wx me σ H (fun x H1 => gName i x σ H1 D.nx) := by
  obtain ⟨p, st, env, hp, S, E, h⟩ := h
  exact lift_of hp S E h fun q s1 w v t S1 E1 r h1 => h1 q _ (.refl S1) S1 (E1.set i r)
theorem gs_lcS {i : Nat} {y : Str} {py spos : Pos} (B : Blk X scope own tg elt ifs g tt te) (hp : ∀ xs, PutLc X.K g put (own.map (·.2)) xs) (hc : X.calm = true) (hN : X.N.Nodup) (hy : X.N[i]? = some y) (hyl : X.env.scope.names.lookup y = some .local)
    (hsw : swapsWith (.ListComp elt [⟨tg, it, ifs, 0⟩] scope pos) (some (.Name y py)) spos.line X.env = pure true) (he : GE X Wx it me) (hf : ∀ x, foldedSetIterable it X.env x = pure x := by intro _; rfl) :
    GS X Wx (.Assign [.Name y py] (.ListComp elt [⟨tg, it, ifs, 0⟩] scope pos) spos) (sSet i (mLcS (own.map (·.2)) put me tt te)) :=
  PSimp (ps_setLc hc hN hy hyl hsw (pi_list he) B.ok B.hg B.ht B.he hf) fun D σ H h => lcS_of hp (lc_set h)
theorem gs_lcT {i : Nat} {y : Str} {py spos : Pos} (B : Blk X scope own tg elt ifs g tt te) (hp : ∀ xs, PutLc X.K g put (own.map (·.2)) xs) (hc : X.calm = true) (hN : X.N.Nodup) (hy : X.N[i]? = some y) (hyl : X.env.scope.names.lookup y = some .local)
    (hsw : swapsWith (.ListComp elt [⟨tg, it, ifs, 0⟩] scope pos) (some (.Name y py)) spos.line X.env = pure true) (he : GE X Wx it me) (hf : ∀ x, foldedSetIterable it X.env x = pure x := by intro _; rfl) :
    GS X Wx (.Assign [.Name y py] (.ListComp elt [⟨tg, it, ifs, 0⟩] scope pos) spos) (sSet i (mLcT (own.map (·.2)) put me tt te)) :=
  PSimp (ps_setLc hc hN hy hyl hsw (pi_tup he) B.ok B.hg B.ht B.he hf) fun D σ H h => lcT_of hp (lc_set h)
theorem gs_lcR1 {i : Nat} {y : Str} {py spos rp : Pos} (B : Blk X scope own tg elt ifs g tt te) (hp : ∀ xs, PutLc X.K g put (own.map (·.2)) xs) (hc : X.calm = true) (hN : X.N.Nodup) (hy : X.N[i]? = some y) (hyl : X.env.scope.names.lookup y = some .local)
    (hsw : swapsWith (.ListComp elt [⟨tg, .Call (.Name "range" p) [a] [] rp, ifs, 0⟩] scope pos) (some (.Name y py)) spos.line X.env = pure true) (hg : Gl X "range") (hm : X.mg "range" = none) (ha : GA X Wx [a] ml) (hs : starEach [a] X.env = [(false, eval a X.env)] := by rfl)
    (hf : ∀ x, foldedSetIterable (.Call (.Name "range" p) [a] [] rp) X.env x = pure x := by intro _; rfl) :
    GS X Wx (.Assign [.Name y py] (.ListComp elt [⟨tg, .Call (.Name "range" p) [a] [] rp, ifs, 0⟩] scope pos) spos) (sSet i (mLcR1 (own.map (·.2)) put ml tt te)) :=
  PSimp (ps_setLc hc hN hy hyl hsw (pi_range1 hg hm ha hs) B.ok B.hg B.ht B.he hf) fun D σ H h => lcR1_of hp (lc_set h)

/-! ### methods of lists -/
theorem fApp_of {v : W} {vs : List W} {st : Store} (h : fAppend v vs st ≠ .bad) : ∃ n y xs, v = .ref n ∧ vs = [y] ∧ st[n]? = some (.lst xs) ∧ xs.length < 100000 ∧ fAppend v vs st = .ok .non (st.set n (.lst (xs ++ [y]))) := by
  unfold fAppend at h ⊢
  split at h
  · rename_i n y
    cases e : st[n]? with
    | none =>
      rw [e] at h
      exact absurd rfl h
    | some o =>
      cases o with
      | lst xs =>
        rw [e] at h
        dsimp only at h
        by_cases c : xs.length < 100000
        · refine ⟨n, y, xs, rfl, rfl, e, c, ?_⟩
          simp only [e, if_pos c]
        · rw [if_neg c] at h
          exact absurd rfl h
      | _ =>
        rw [e] at h
        exact absurd rfl h
  · exact absurd rfl h
theorem fExt_of {v : W} {vs : List W} {st : Store} (h : fExtend v vs st ≠ .bad) : ∃ n y xs ys, v = .ref n ∧ vs = [y] ∧ st[n]? = some (.lst xs) ∧ trkIn st y = some ys ∧ xs.length + ys.length ≤ 100000 ∧ fExtend v vs st = .ok .non (st.set n (.lst (xs ++ ys))) := by
  unfold fExtend at h ⊢
  split at h
  · rename_i n y
    cases e : st[n]? with
    | none =>
      rw [e] at h
      exact absurd rfl h
    | some o =>
      cases o with
      | lst xs =>
        cases e2 : trkIn st y with
        | none =>
          rw [e, e2] at h
          exact absurd rfl h
        | some ys =>
          rw [e, e2] at h
          dsimp only at h
          by_cases c : xs.length + ys.length ≤ 100000
          · refine ⟨n, y, xs, ys, rfl, rfl, e, e2, c, ?_⟩
            simp only [e, e2, if_pos c]
          · rw [if_neg c] at h
            exact absurd rfl h
      | _ =>
        rw [e] at h
        exact absurd rfl h
  · exact absurd rfl h
theorem fin_nb {p : Wh} {σ : L2.St} {Q : VK} {r : Res W} (h : Fin X.K X.mg (RW X.K) Wx p σ Q r) : r ≠ .bad := fun e => by
  rw [e] at h
  exact h
/-- a method of a list of the store -/
def RMok (X : Cx) (Wx : WX) (r : V → List V → Hp → VK → Prop) (f : W → List W → Store → Res W) : Prop :=
  ∀ (p : Wh) (st : Store) (x : W) (xs : List W) (v : V) (vs : List V) (σ : L2.St) (Q : VK), SR X.K p st → RW X.K p x v → RWs X.K p xs vs → Fin X.K X.mg (RW X.K) Wx p σ Q (f x xs st) → r v vs p.H Q
theorem tBM_of {to ta : Ev W} {ml : Ev (List W)} {r : V → List V → Hp → VK → Prop} {f : W → List W → Store → Res W} (hr : RMok X Wx r f) {σ : L2.St} {H : Hp} {Q : VK} (h : tG X.K X.mg (RW X.K) Wx (mBM f to ml) σ H Q) :
    tBM X.K "list" r (tG X.K X.mg (RW X.K) Wx to) (tG X.K X.mg (RWs X.K) Wx ml) σ H Q := by
  obtain ⟨p, st, env, hp, S, E, h⟩ := h
  refine tG_bind hp S E h fun q s1 x v t1 S1 E1 rx h1 => ?_
  by_cases c : isRef s1 x = true
  · rw [if_pos c] at h1
    cases x with
    | ref n =>
      have e : v = .ref (q.ρ n) := rx.2
      subst e
      have hl : ∃ vs, q.H (q.ρ n) = some (.lst vs) := by
        dsimp only [isRef] at c
        cases eo : s1[n]? with
        | none =>
          rw [eo] at c
          cases c
        | some o =>
          cases o with
          | lst xs =>
            obtain ⟨_, vs, e1, _⟩ := S1.at eo
            exact ⟨vs, e1⟩
          | _ =>
            rw [eo] at c
            cases c
      obtain ⟨us, hl⟩ := hl
      exact ⟨Or.inl ⟨rfl, us, .inl (.inl hl)⟩, tG_bind rfl S1 E1 h1 fun q2 s2 vs us t2 S2 E2 r2 h2 => hr q2 s2 (.ref n) vs (.ref (q.ρ n)) us σ Q S2 (RW.step t2 (.ref n) _ rx) r2 h2⟩
    | _ => exact absurd c Bool.false_ne_true
  · rw [if_neg c] at h1
    exact h1.elim
theorem rm_append : RMok X Wx rAppend fAppend := by
  intro p st x xs v vs σ Q S rx rs h
  obtain ⟨n, y, ys, rfl, rfl, e, c, ef⟩ := fApp_of (fin_nb h)
  rw [ef] at h
  obtain ⟨hn, us, hH, ru⟩ := S.at e
  obtain ⟨u, rfl, rv⟩ := one_of rs
  have e2 : v = .ref (p.ρ n) := rx.2
  subst e2
  refine ⟨p.ρ n, us, u, rfl, rfl, hH, by rw [← ru.length]; exact Nat.lt_of_lt_of_le c (by decide), ?_⟩
  exact h { p with H := upd p.H (p.ρ n) (.lst (us ++ [u])) } .non (step_mut S hn) (sr_mut S hn (ru.append ⟨u, [], rfl, rv, rfl⟩)) rfl
theorem rm_extend : RMok X Wx rExtend fExtend := by
  intro p st x xs v vs σ Q S rx rs h
  obtain ⟨n, y, ys, zs, rfl, rfl, e, e3, c, ef⟩ := fExt_of (fin_nb h)
  rw [ef] at h
  obtain ⟨hn, us, hH, ru⟩ := S.at e
  obtain ⟨u, rfl, rv⟩ := one_of rs
  obtain ⟨b, ws, rfl, hb, rw2⟩ := trkIn_of S e3 rv
  have e2 : v = .ref (p.ρ n) := rx.2
  subst e2
  refine ⟨p.ρ n, b, us, ws, rfl, rfl, hH, hb, by rw [← ru.length, ← rw2.length]; exact Nat.le_trans c (by decide), ?_⟩
  exact h { p with H := upd p.H (p.ρ n) (.lst (us ++ ws)) } .non (step_mut S hn) (sr_mut S hn (ru.append rw2)) rfl
theorem ge_lm {name : Str} {id : String} {r : V → List V → Hp → VK → Prop} {f : W → List W → Store → Res W} (slot : Slot "list" name id) (hty : typeOf (.builtin id) = pure (.type "method_descriptor")) (hm : MtR X id r) (hr : RMok X Wx r f)
    {o e : Expr} {es : List Expr} {mo : Ev W} {apos cpos : Pos} (ho : GE X Wx o mo) (ha : GA X Wx (e :: es) ml)
    (hbase : attributeBase o name X.env (eval o X.env) = eval o X.env := by rfl)
    (hfew : ((backTo cpos (starEach (e :: es) X.env)).all (fun x => !x.1) && (backToKw cpos (keywordEach [] X.env)).all (fun x => x.1.isSome)
      && decide ((e :: es).length + ([] : List Keyword).length + (if ([] : List Keyword).isEmpty then 0 else 1) < 30)) = true := by rfl)
    (hline : (apos.endLine == cpos.line) = true := by rfl) (hs : starEach (e :: es) X.env = (false, eval e X.env) :: starEach es X.env := by rfl) (hplain : (backTo cpos (starEach es X.env)).any (·.1) = false := by rfl) :
    GE X Wx (.Call (.Attribute o name apos) (e :: es) [] cpos) (mBM f mo ml) :=
  PEimp (pe_bm PySem.F.plainAttrs_list slot hty hm ho ha hbase hfew hline hs hplain) fun σ H Q h => tBM_of (ta := mo) hr h
end

/-! ### calls by keywords alone -/
/-- the places of a list -/
def pick {α : Type} (ix : List Nat) (xs : List α) : List α := ix.filterMap fun i => xs[i]?
section
theorem pick_rws {K : PySem.W.Frag} {q : Wh} {ws : List W} {vs : List V} (r : RWs K q ws vs) : ∀ ix : List Nat, RWs K q (pick ix ws) (pick ix vs)
  | [] => (rfl : ([] : List V) = [])
  | i :: ix => by
    have ih := pick_rws r ix
    unfold pick at ih ⊢
    rw [List.filterMap_cons, List.filterMap_cons]
    cases e : ws[i]? with
    | none =>
      have e2 : vs[i]? = none := by
        rw [List.getElem?_eq_none_iff] at e ⊢
        rw [← r.length]
        exact e
      rw [e2]
      exact ih
    | some w =>
      obtain ⟨v, e2, rv⟩ := r.get e
      rw [e2]
      exact ⟨v, _, rfl, rv, ih⟩
theorem pick_vals {vs : List V} {us : List Value} (r : Vals vs us) : ∀ ix : List Nat, Vals (pick ix vs) (pick ix us)
  | [] => .nil
  | i :: ix => by
    have ih := pick_vals r ix
    unfold pick at ih ⊢
    rw [List.filterMap_cons, List.filterMap_cons]
    cases e : vs[i]? with
    | none =>
      rw [r.none_of e]
      exact ih
    | some w =>
      obtain ⟨v, e2, rv⟩ := r.get e
      rw [e2]
      exact .cons rv ih
variable {X : Cx} {Wx : WX} {k : Nat} {f : Addr} {fd : FuncData} {ps ks : List Str} {m : List W → Store → Res W} {x : Str} {p pos kpos : Pos} {e : Expr} {me : Ev W} {ml : Ev (List W)} {kws : List Keyword} {nm : Option Str}
abbrev GK (X : Cx) (Wx : WX) (e : List Keyword) (m : Ev (List W)) : Prop := PK X e (tG X.K X.mg (RWs X.K) Wx m)
theorem PKimp {X : Cx} {e : List Keyword} {t t' : TA} (h : PK X e t) (i : ∀ σ H Q, t' σ H Q → t σ H Q) : PK X e t' := ⟨fun pos pins s σ H Q I z => h.run pos pins s σ H Q I (i σ H Q z)⟩
theorem gk_nil : GK X Wx [] mNil := PKimp pk_nil fun σ H Q ⟨p, st, env, hp, S, E, h⟩ => by
  subst hp
  exact h p [] (.refl S) S rfl
theorem gk_cons (ha : GE X Wx e me) (hr : GK X Wx kws ml) : GK X Wx (⟨nm, e, kpos⟩ :: kws) (mCons me ml) :=
  PKimp (pk_cons ha hr) fun σ H Q ⟨p, st, env, hp, S, E, h⟩ => tG_bind hp S E h fun q s1 x v t1 S1 E1 rx h1 => tG_bind rfl S1 E1 h1 fun q2 s2 y u t2 S2 E2 ry h2 =>
    h2 q2 (v :: u) (.refl S2) S2 ⟨v, u, rfl, RW.step t2 x v rx, ry⟩
/-- f(k = e, ..): n keywords, and where the parameters' values stand among them -/
def kwM (n : Nat) (ix : List Nat) (m : List W → Store → Res W) : List W → Store → Res W := fun ws st => if ws.length = n then m (pick ix ws) st else .bad
theorem ge_callK {ix : List Nat} {n : Nat} (F : FnG X.prog X.w X.K X.mg X.base k f fd ps m) (hr : Room k X.A) (hg : X.A.guards = some []) (tk : Takes X Wx) (gl : Gl X x) (hm : X.mg x = some (.ref f)) (kp : PySem.W.keepIn X.K (.ref f) = true)
    (hb : ∀ us : List Value, us.length = ks.length → bindArgs fd ⟨[], ks.zip us⟩ = pure (ps.zip (pick ix us)))
    (hkw : GK X Wx kws ml) (hall : (backToKw pos (keywordEach kws X.env)).all (·.1.isSome) = true := by rfl) (hks : (backToKw pos (keywordEach kws X.env)).filterMap (·.1) = ks := by rfl)
    (hn : ks.length = n := by rfl) (hdb : (x == ("__debug__" : Str)) = false := by decide) (hpl : ((backTo pos (starEach [] X.env)).any (·.1) || (backToKw pos (keywordEach kws X.env)).any (·.1.isNone)) = false := by rfl) :
    GE X Wx (.Call (.Name x p) [] kws pos) (mCall (kwM n ix m) ml) := by
  subst hn
  refine ⟨fun pins s σ H Q I ⟨q0, st, env, hp, S, E, h⟩ => ?_⟩
  refine wpAny_Call_Name_kw (ld_glob I gl hm ?_ hdb)
  have t := tG_bind (R := RWs X.K) (Q := fun vs H' => ∃ (q : Wh) (ws : List W) (s1 : Store), q.H = H' ∧ SR X.K q s1 ∧ RWs X.K q ws vs ∧ Fin X.K X.mg (RW X.K) Wx q σ Q (kwM ks.length ix m ws s1)) hp S E h
    fun q s1 ws vs t S1 E1 r h1 => ⟨q, ws, s1, rfl, S1, r, h1⟩
  refine PySem.W.callWith_KW0 (h₀ := X.base) I.ok.mod.kin kp hall (thn (hkw.run pos pins s σ H _ I t)
    fun us s1 ⟨vs, H1, I1, r, z⟩ => ⟨I1.kIn, ?_⟩) hpl
  obtain ⟨q, ws, s2, eH, S1, rw1, h1⟩ := z
  rw [hks]
  have hw : ws.length = ks.length := by
    by_cases c : ws.length = ks.length
    · exact c
    · unfold kwM at h1
      rw [if_neg c] at h1
      exact h1.elim
  unfold kwM at h1
  rw [if_pos hw] at h1
  have hn : (pick ix us).length = ps.length := by rw [← (pick_vals r ix).length, ← (pick_rws rw1 ix).length, len_of F h1]
  have b := BindsTo.of_eq (s := s1) (hb us (by rw [← r.length, ← rw1.length, hw]))
  exact run_G F hr hg tk b hn I1 (pick_vals r ix) eH S1 (pick_rws rw1 ix) h1
end
end Mi

namespace Mi
open PySem PySem.Spec PyProof.Rows L2
variable [ClsMap]

/-! ### the law's own call -/
theorem frz_ints {K : PySem.W.Frag} {p : Wh} : ∀ ns : List Int, RWs K p (ns.map W.int) (ns.map V.int)
  | [] => (rfl : ([] : List V) = [])
  | n :: ns => ⟨.int n, ns.map V.int, rfl, rfl, frz_ints ns⟩
section
variable {P : Program} {w : World} {K : PySem.W.Frag} {mg mb : Str → Option Value} {k : Nat} {fa a : Addr} {fd : FuncData} {x : Str} {s₁ : Shared} {vs : List Value} {ns : List Int} {m : List W → Store → Res W}
/-- from an abstract heap in which the script alone may be tracked -/
theorem law_core (KX : K.In s₁.heap) (hns : s₁.heap.Ns mainGlobals mg) (hb : s₁.heap.Ns builtinsNs mb) (hbb : ∀ x : Str, x ≠ "__name__" → mb x = bootBuiltins x) (hlim : s₁.heap.NoLimit) (hg : s₁.gens = #[])
    (ha : s₁.heap.get? a = some { cls := .type "list", data := .seq vs.toArray }) (hr : Room k callerA) (ht0 : ClsMap.tabs = []) (F : ∀ base : Heap, K.In base → base.Ns mainGlobals mg → FnG P w K mg base k fa fd [x] m)
    (hbind : ∀ (s : Shared) (u : Value), BindsTo s fd ⟨[u], []⟩ [(x, u)]) {st' : Store} (hm : m [.frz (ns.map W.int)] [] = .ok (.bl true) st')
    (H : Hp) (only : Only H) (hS : FrzAt K ⟨fun _ => a, 0, H, []⟩ a (ns.map V.int)) (hok : HOk P w H s₁.heap) (hA : ∀ b, H b ≠ none → b = a) (hK : H a ≠ none → K.lookup a = none) :
    codeAny (model P w) callerA (.call (.ref fa) ⟨[.ref a], []⟩) (fun r s' => r = .ok (.ret (.bool true)) ∧ OldK s₁.heap s'.heap ∧ s'.os = s₁.os ∧ AllBare s'.gens) s₁ := by
  let B := hidT s₁.heap H
  have inB : ∀ {b : Addr} {o : Obj}, s₁.heap.get? b = some o → H b = none → B.get? b = some o := fun e n => hidT_get e n
  have dicts : ∀ {b : Addr} {o : Obj} {es : Array DictEntry} {ep : Nat}, s₁.heap.get? b = some o → o.data = .dict es ep → H b = none := by
    intro b o es ep e d
    cases q : H b with
    | none => rfl
    | some u =>
      have eb := hA b (by rw [q]; exact fun z => nomatch z)
      rw [eb, ha] at e
      cases e
      cases (show Data.seq vs.toArray _ = Data.dict es ep from d)
  have nsB : ∀ {b : Addr} {f : Str → Option Value}, s₁.heap.Ns b f → B.Ns b f := fun ⟨o, es, ep, e, d, r⟩ => ⟨o, es, ep, inB e (dicts e d), d, r⟩
  have KB : K.In B := fun b o e => inB (KX b o e) (by
    cases q : H b with
    | none => rfl
    | some u =>
      exfalso
      have eb := hA b (by rw [q]; exact fun z => nomatch z)
      rw [eb, hK (by rw [← eb, q]; exact fun z => nomatch z)] at e
      cases e)
  obtain ⟨mc, hc1, hc2⟩ := hlim
  have e0 : Env0 P w K mg B callerA [] s₁ H :=
    ⟨rfl, ⟨KB, nsB hns, ⟨mb, nsB hb, hbb⟩, mc, nsB hc1, hc2⟩, fun b o e => of_hidT e, Nat.le_of_eq (hidT_size _ _), trivial, fun b z => (nomatch z), hok, .of_eq hg⟩
  have tab0 : TabI [] H := by
    refine ⟨fun p hp => ?_, fun b ps e => ?_⟩
    · rw [ht0] at hp
      cases hp
    · rcases only b with z | ⟨ob, xs, z⟩
      · rw [e] at z
        cases z
      · rw [e] at z
        cases z
  have S0 : SR K ⟨fun _ => a, 0, H, []⟩ [] := ⟨tab0, rfl, fun i j h => absurd h (Nat.not_lt_zero _), fun i o e => by simp at e, fun b z => (nomatch z)⟩
  refine codeAny_mono ((F B KB (nsB hns)).run callerA [] s₁ H ⟨[.ref a], []⟩ [.ref a] [.ref a] [.frz (ns.map W.int)] ⟨fun _ => a, 0, H, []⟩ [] (fun v H' => v = .bl true) (fun _ _ _ => False)
    hr rfl e0 (hbind s₁ (.ref a)) (.cons rfl .nil) rfl rfl S0 ⟨.ref a, [], rfl, ⟨a, ns.map V.int, rfl, hS, frz_ints ns⟩, rfl⟩ ?_) fun r s' z => ?_
  · rw [hm]
    exact fun q v _ _ r => r
  · cases r with
    | error e =>
      obtain ⟨_, _, _, _, _, _, _, _, _, _, _, _, z⟩ := z
      exact z.elim
    | ok fl =>
      cases fl with
      | next => exact z.elim
      | brk => exact z.elim
      | cont => exact z.elim
      | ret u =>
        obtain ⟨v, H', os, bare, un, hok', r', q⟩ := z
        have q' : v = .bl true := q
        subst q'
        have eu : u = Value.bool true := r'
        subst eu
        refine ⟨rfl, OldK.of_keep fun b o e => ?_, os, bare⟩
        cases q : H b with
        | none => exact un.keep b o e q (fun z => nomatch z) (fun z => nomatch z)
        | some t =>
          rcases only b with z | ⟨ob, xs, z⟩
          · rw [q] at z
            cases z
          · obtain ⟨e1, _⟩ := hok b _ z
            obtain ⟨e2, _⟩ := hok' b _ (un.frzs b ob _ z)
            rw [e] at e1
            cases e1
            exact e2
theorem law_G (KX : K.In s₁.heap) (hns : s₁.heap.Ns mainGlobals mg) (hb : s₁.heap.Ns builtinsNs mb) (hbb : ∀ x : Str, x ≠ "__name__" → mb x = bootBuiltins x) (hlim : s₁.heap.NoLimit) (hg : s₁.gens = #[])
    (ha : s₁.heap.get? a = some { cls := .type "list", data := .seq vs.toArray }) (hi : IntsAre vs ns) (hl : ns.length ≤ sizeLine) (hr : Room k callerA) (ht0 : ClsMap.tabs = []) (F : ∀ base : Heap, K.In base → base.Ns mainGlobals mg → FnG P w K mg base k fa fd [x] m)
    (hbind : ∀ (s : Shared) (u : Value), BindsTo s fd ⟨[u], []⟩ [(x, u)]) {st' : Store} (hm : m [.frz (ns.map W.int)] [] = .ok (.bl true) st') :
    codeAny (model P w) callerA (.call (.ref fa) ⟨[.ref a], []⟩) (fun r s' => r = .ok (.ret (.bool true)) ∧ OldK s₁.heap s'.heap ∧ s'.os = s₁.os ∧ AllBare s'.gens) s₁ := by
  have rv := vals_ints hi
  have out : (Wh.mk (fun _ => a) 0 (fun b => if b = a then some (.frz { cls := .type "list", data := .seq vs.toArray } (.lst (ns.map V.int))) else none) []).out a := ⟨fun i h => absurd h (Nat.not_lt_zero _), fun z => nomatch z⟩
  cases hk : K.lookup a with
  | some o =>
    have e := KX a o hk
    rw [ha] at e
    cases e
    refine law_core KX hns hb hbb hlim hg ha hr ht0 F hbind hm (fun _ => none) (fun _ => .inl rfl) (.inr (.inr ⟨_, vs.toArray, _, hk, rfl, rfl, rfl, ?_, by simpa using rv⟩)) (fun b u z => nomatch (show (none : Option HO) = some u from z)) (fun b z => absurd rfl z) fun z => absurd rfl z
    rw [List.size_toArray, hi.length]
    exact hl
  | none =>
    refine law_core KX hns hb hbb hlim hg ha hr ht0 F hbind hm (fun b => if b = a then some (.frz { cls := .type "list", data := .seq vs.toArray } (.lst (ns.map V.int))) else none)
      (fun b => ?_) (.inl ⟨.inr ⟨{ cls := .type "list", data := .seq vs.toArray }, if_pos rfl⟩, out⟩) (fun b u z => ?_) (fun b z => ?_) fun _ => hk
    · by_cases h : b = a
      · exact .inr ⟨_, _, if_pos h⟩
      · exact .inl (if_neg h)
    · by_cases h : b = a
      · have z' := (if_pos h).symm.trans z
        cases z'
        subst h
        exact ⟨ha, by rw [List.length_map]; exact hl, vs, _, rv, ha⟩
      · have z' := (if_neg h).symm.trans z
        cases z'
    · by_cases h : b = a
      · exact h
      · exact absurd (if_neg h) z
end
/-- the goal that k_head leaves -/
theorem walkG {l : PySem.W.OpenLaw} {n k : Nat} {q : Program} {loose : List Str} {XP : (Str → Option Value) → Heap → Prop} {YP : World → Heap → Prop} {d : DefRec} {K : Params → PySem.W.Frag} {x : Str} {m : List W → Store → Res W}
    (hn : l.most = some n) (hn2 : n ≤ sizeLine) (hdf : d.params.defaults = []) (hr : Room k callerA) (hY : ∀ (w : World) (h : Heap), YP w h → (K w.params).In h)
    (F : ∀ (w : World) (mg : Str → Option Value) (fa : Addr) (h : Heap), (K w.params).In h → h.Ns mainGlobals mg → mg d.name = some (.ref fa) →
      ∃ fd : FuncData, (∀ (s : Shared) (u : Value), BindsTo s fd ⟨[u], []⟩ [(x, u)]) ∧ ∀ base : Heap, (K w.params).In base → base.Ns mainGlobals mg → FnG l.prog w (K w.params) mg base k fa fd [x] m)
    (hm : ∀ ns : List Int, ns.length ≤ n → ∃ st', m [.frz (ns.map W.int)] [] = .ok (.bl true) st') (ht0 : ClsMap.tabs = [] := by rfl) : PySem.W.WalkO q loose XP YP l.row.toRowW d [] (fun f vs => PySem.call f vs) := by
  refine Att.attach_call hn hdf fun w s₀ s₁ mg mb fa o pm cd doc a vs ns G Y ho hd hcd hmg hobj hints hlen hg => ?_
  have KX := hY w _ Y
  obtain ⟨fd, hb, hF⟩ := F w mg fa _ KX G.T.g hmg
  obtain ⟨st', e⟩ := hm ns hlen
  exact law_G KX G.T.g G.T.b G.T.builtins G.T.nolimit hg hobj hints (Nat.le_trans hlen hn2) hr ht0 hF hb e
end Mi

namespace Mi
open PySem PySem.Spec PyProof.Rows L2
variable [ClsMap]

/-! ### truth of any value -/
def truW (st : Store) : W → Option Bool
  | .non => some false
  | .bl b => some b
  | .int i => some (i != 0)
  | .str s => if s.length ≤ sizeLine then some ((s.length : Int) != 0) else none
  | .tup xs => some (!xs.isEmpty)
  | w => (listIn st w).map fun xs => !xs.isEmpty
def mTru (a : Ev W) : Ev Bool := fun env st => (a env st).bind fun w s1 => match truW s1 w with
  | some b => .ok b s1
  | none => .bad
section
variable {X : Cx} {Wx : WX} {a : Expr} {ma : Ev W}
theorem empty_of {K : PySem.W.Frag} {p : Wh} {xs : List W} {vs : List V} (r : RWs K p xs vs) : xs.isEmpty = vs.isEmpty := by
  cases xs with
  | nil =>
    have e : vs = [] := r
    rw [e]
    rfl
  | cons x xs =>
    obtain ⟨v, us, e, _⟩ := r
    rw [e]
    rfl
theorem truV_of {p : Wh} {st : Store} {w : W} {v : V} {b : Bool} (S : SR X.K p st) (r : RW X.K p w v) (h : truW st w = some b) : TruV X.K v p.H b := by
  have lists : ∀ xs, listIn st w = some xs → b = !xs.isEmpty → TruV X.K v p.H b := by
    intro xs e hb
    obtain ⟨a, vs, rfl, ta, rs⟩ := listIn_of S e r
    exact .inl ⟨vs, ta, by rw [hb, empty_of rs]⟩
  cases w with
  | non =>
    have e : v = .non := r
    subst e
    cases h
    exact rfl
  | bl b =>
    have e : v = .bl b := r
    subst e
    cases h
    exact rfl
  | int i =>
    have e : v = .int i := r
    subst e
    cases h
    exact rfl
  | str s =>
    have e : v = .str s := r
    subst e
    dsimp only [truW] at h
    by_cases c : s.length ≤ sizeLine
    · rw [if_pos c] at h
      cases h
      exact ⟨c, rfl⟩
    · rw [if_neg c] at h
      cases h
  | tup xs =>
    obtain ⟨a, vs, rfl, ta, rs⟩ := r
    cases h
    exact .inr (.inl ⟨vs, ta.seq, by rw [empty_of rs]⟩)
  | lst xs =>
    cases h
    exact lists xs rfl rfl
  | frz xs =>
    cases h
    exact lists xs rfl rfl
  | dic ks xs => cases h
  | ref n =>
    dsimp only [truW] at h
    cases e : listIn st (.ref n) with
    | none =>
      rw [e] at h
      cases h
    | some xs =>
      rw [e] at h
      have h' : (!xs.isEmpty) = b := by simpa using h
      exact lists xs e h'.symm
theorem gt_tru (ha : GE X Wx a ma) (he : ∀ whole, isTrue a X.env whole = (do let v ← whole; standAt a.pos; holding [v] (truthy v)) := by intro _; rfl) : GT X Wx a (mTru ma) :=
  PTimp (pt_truth ha he) fun σ H Q ⟨p, st, env, hp, S, E, h⟩ => tG_bind hp S E h fun q s1 w v t S1 E1 r h1 => by
    cases e : truW s1 w with
    | none =>
      rw [e] at h1
      exact h1.elim
    | some b =>
      rw [e] at h1
      exact ⟨b, truV_of S1 r e, h1 q b (.refl S1) S1 rfl⟩
end

/-! ### the defs of a module -/
structure DefAt (K : PySem.W.Frag) (mg : Str → Option Value) (x : Str) (st : Stmt) : Prop where
  ex : ∃ (f : Addr) (fd : FuncData), Fun K x x st f fd ∧ mg x = some (.ref f)
structure DefOk (P : Program) (w : World) (K : PySem.W.Frag) (mg : Str → Option Value) (base : Heap) (x : Str) (st : Stmt) (k : Nat) (ps : List Str) (m : List W → Store → Res W) : Prop where
  ex : ∃ (f : Addr) (fd : FuncData), Fun K x x st f fd ∧ mg x = some (.ref f) ∧ FnG P w K mg base k f fd ps m
theorem defOk_of {P : Program} {w : World} {K : PySem.W.Frag} {mg : Str → Option Value} {base : Heap} {x : Str} {st : Stmt} {N ps : List Str} {k : Nat} {body : Sm} (D : DefAt K mg x st) (S : FnScope N ps (defScope st))
    (hb : ∀ (f : Addr) (cdv : Value) (A : Around) (outer : List Env) (s : Shared) (H : Hp) (E : XK), Room k (A.deeper (envOfC x (defScope st) s.heap.objs.size f cdv)) → A.guards = some [] →
      GSs (cxOf (L2.CX P w) P w K mg base N x (defScope st) f cdv A outer s H E) (WxE E) (defBody st) body) : DefOk P w K mg base x st (k + 1) ps (fnM ps.length N.length body) := by
  obtain ⟨f, fd, F, hm⟩ := D.ex
  exact ⟨f, fd, F, hm, fnG_of F S (hb f)⟩
section
variable {X : Cx} {Wx : WX} {k : Nat} {st : Stmt} {ps ks : List Str} {m : List W → Store → Res W} {x : Str} {p pos : Pos} {e : Expr} {es : List Expr} {ml : Ev (List W)} {kws : List Keyword}
theorem ge_callD (D : DefOk X.prog X.w X.K X.mg X.base x st k ps m) (hr : Room k X.A) (hg : X.A.guards = some []) (tk : Takes X Wx) (gl : Gl X x)
    (hbind : ∀ (kV doc pm : Value) (an : Option Addr) (cdv ct : Value) (us : List Value), us.length = ps.length → bindArgs (PySem.W.fnOf x x (defArgs st) (defBody st) (defScope st) .none kV doc pm an cdv ct) ⟨us, []⟩ = pure (ps.zip us))
    (ha : GA X Wx (e :: es) ml) (hdb : (x == ("__debug__" : Str)) = false := by decide) (he : starEach (e :: es) X.env = (false, eval e X.env) :: starEach es X.env := by rfl) (hpl : (backTo pos (starEach es X.env)).any (·.1) = false := by rfl) :
    GE X Wx (.Call (.Name x p) (e :: es) [] pos) (mCall m ml) := by
  obtain ⟨f, fd, F, hm, G⟩ := D.ex
  exact ge_call G hr hg tk gl hm F.kp (F.binds hbind) ha hdb he hpl
theorem ge_callKD {ix : List Nat} {n : Nat} (D : DefOk X.prog X.w X.K X.mg X.base x st k ps m) (hr : Room k X.A) (hg : X.A.guards = some []) (tk : Takes X Wx) (gl : Gl X x)
    (hbind : ∀ (kV doc pm : Value) (an : Option Addr) (cdv ct : Value) (us : List Value), us.length = ks.length → bindArgs (PySem.W.fnOf x x (defArgs st) (defBody st) (defScope st) .none kV doc pm an cdv ct) ⟨[], ks.zip us⟩ = pure (ps.zip (pick ix us)))
    (hkw : GK X Wx kws ml) (hall : (backToKw pos (keywordEach kws X.env)).all (·.1.isSome) = true := by rfl) (hks : (backToKw pos (keywordEach kws X.env)).filterMap (·.1) = ks := by rfl)
    (hn : ks.length = n := by rfl) (hdb : (x == ("__debug__" : Str)) = false := by decide) (hpl : ((backTo pos (starEach [] X.env)).any (·.1) || (backToKw pos (keywordEach kws X.env)).any (·.1.isNone)) = false := by rfl) :
    GE X Wx (.Call (.Name x p) [] kws pos) (mCall (kwM n ix m) ml) := by
  obtain ⟨f, fd, F, hm, G⟩ := D.ex
  obtain ⟨oc, od, kV, doc, pm, an, cdv, ct, osl, rfl, lk, hcd⟩ := F.ex
  exact ge_callK G hr hg tk gl hm F.kp (hbind kV doc pm an cdv ct) hkw hall hks hn hdb hpl
end
end Mi

namespace Mi
open PySem PySem.Spec PyProof.Rows L2
variable [ClsMap]
/-! ### what the operations give on ints and pairs of ints -/
theorem lt_int (i j : Int) : PySem.W.dataLt (.int i) (.int j) = decide (i < j) := by
  unfold PySem.W.dataLt
  simp only [PySem.W.keyToks, PyProof.Rows.lexLt, PyProof.Rows.itemLt, Bool.and_false, Bool.or_false]
theorem lt_pair (a b c d : Int) : PySem.W.dataLt (.tuple [.int a, .int b]) (.tuple [.int c, .int d]) = decide (a < c ∨ (a = c ∧ b < d)) := by
  unfold PySem.W.dataLt
  simp only [PySem.W.keyToks, PySem.W.keyToksAll, PyProof.Rows.lexLt, PyProof.Rows.itemLt, Bool.and_false, Bool.or_false, List.cons_append, List.nil_append, Int.lt_irrefl, decide_false, Bool.false_or, Bool.not_false, Bool.true_and]
  by_cases h1 : a < c
  · simp [h1]
  · by_cases h2 : c < a
    · have h3 : ¬ a = c := by omega
      simp [h1, h2, h3]
    · have h3 : a = c := by omega
      simp [h1, h2, h3]
theorem fD_ok {C g : PyData → PyData → Bool} {x y : W} {d e : PyData} {st : Store} {b : Bool} (hx : x.toD = some d) (hy : y.toD = some e) (hc : C d e = true) (hb : g d e = b) : fD C g x y st = .ok (.bl b) st := by
  unfold fD
  rw [hx, hy]
  dsimp only
  rw [if_pos hc, hb]
section
variable {st : Store} {i j : Int}
theorem f_lt : fLt (.int i) (.int j) st = .ok (.bl (decide (i < j))) st := fD_ok rfl rfl rfl (lt_int i j)
theorem f_gt : fGt (.int i) (.int j) st = .ok (.bl (decide (j < i))) st := fD_ok rfl rfl rfl (lt_int j i)
theorem f_le : fLe (.int i) (.int j) st = .ok (.bl (decide (i ≤ j))) st := fD_ok rfl rfl rfl (by
  rw [lt_int, ← decide_not]
  exact decide_eq_decide.mpr (by omega))
theorem f_ge : fGe (.int i) (.int j) st = .ok (.bl (decide (j ≤ i))) st := fD_ok rfl rfl rfl (by
  rw [lt_int, ← decide_not]
  exact decide_eq_decide.mpr (by omega))
theorem f_eq : fEq (.int i) (.int j) st = .ok (.bl (decide (i = j))) st := fD_ok rfl rfl rfl (by
  simp only [PyData.eqv]
  rfl)
theorem f_ne : fNe (.int i) (.int j) st = .ok (.bl (decide (i ≠ j))) st := fD_ok rfl rfl rfl (by
  simp only [PyData.eqv, ne_eq, decide_not]
  rfl)
theorem f_eqS {x y : Str} : fEq (.str x) (.str y) st = .ok (.bl (decide (x = y))) st := fD_ok rfl rfl rfl (by
  simp only [PyData.eqv]
  by_cases h : x = y
  · subst h
    simp
  · simp [h])
theorem f_neS {x y : Str} : fNe (.str x) (.str y) st = .ok (.bl (decide (x ≠ y))) st := fD_ok rfl rfl rfl (by
  simp only [PyData.eqv]
  by_cases h : x = y
  · subst h
    simp
  · simp [h])
theorem f_eqB {x y : Bool} : fEq (.bl x) (.bl y) st = .ok (.bl (decide (x = y))) st := fD_ok rfl rfl rfl (by cases x <;> cases y <;> rfl)
theorem f_neB {x y : Bool} : fNe (.bl x) (.bl y) st = .ok (.bl (decide (x ≠ y))) st := fD_ok rfl rfl rfl (by cases x <;> cases y <;> rfl)
/-- a pair of ints -/
abbrev pr (a b : Int) : W := .tup [.int a, .int b]
variable {a b c d : Int}
theorem f_ltP : fLt (pr a b) (pr c d) st = .ok (.bl (decide (a < c ∨ (a = c ∧ b < d)))) st := fD_ok rfl rfl rfl (lt_pair a b c d)
theorem f_gtP : fGt (pr a b) (pr c d) st = .ok (.bl (decide (c < a ∨ (c = a ∧ d < b)))) st := fD_ok rfl rfl rfl (lt_pair c d a b)
theorem f_leP : fLe (pr a b) (pr c d) st = .ok (.bl (decide (a < c ∨ (a = c ∧ b ≤ d)))) st := fD_ok rfl rfl rfl (by
  rw [lt_pair, ← decide_not]
  exact decide_eq_decide.mpr (by omega))
theorem f_geP : fGe (pr a b) (pr c d) st = .ok (.bl (decide (c < a ∨ (a = c ∧ d ≤ b)))) st := fD_ok rfl rfl rfl (by
  rw [lt_pair, ← decide_not]
  exact decide_eq_decide.mpr (by omega))
theorem f_eqP : fEq (pr a b) (pr c d) st = .ok (.bl (decide (a = c ∧ b = d))) st := fD_ok rfl rfl rfl (by
  simp only [PyData.eqv, PyData.eqvAll, Bool.and_true]
  by_cases h1 : a = c <;> by_cases h2 : b = d <;> simp [h1, h2])
theorem f_mod (h : 0 < j) : fMod (.int i) (.int j) st = .ok (.int (i % j)) st := if_pos h
theorem f_add : fAdd (.int i) (.int j) st = .ok (.int (i + j)) st := rfl
theorem f_sub : fSub (.int i) (.int j) st = .ok (.int (i - j)) st := rfl
theorem log_lt {n k : Nat} (h0 : 0 < k) (h : n < 2 ^ k) : n.log2 < k := PySem.Flt.log2_lt_of h0 h
theorem f_div (h : 0 < j) (h2 : j.natAbs < 2 ^ 1000) : fDiv (.int i) (.int j) st = .ok (.int (i / j)) st := if_pos ⟨h, Nat.lt_trans (log_lt (by decide) h2) (by decide)⟩
theorem f_mul (h : i.natAbs < 2 ^ 2000) (h2 : j.natAbs < 2 ^ 2000) : fMul (.int i) (.int j) st = .ok (.int (i * j)) st :=
  if_pos (by
    have := log_lt (by decide) h
    have := log_lt (by decide) h2
    omega)
theorem f_pow (h0 : 0 ≤ j) (h1 : j ≤ 1000) (h : i.natAbs < 2 ^ 2000) : fPow (.int i) (.int j) st = .ok (.int (i ^ j.toNat)) st :=
  if_pos ⟨h0, h1, Nat.lt_trans (log_lt (by decide) h) (by decide)⟩
theorem f_ixL {xs : List W} {n : Nat} {y : W} (h : st[n]? = some (.lst xs)) {k : Int} (ha : atI xs k = some y) : fIx (.ref n) (.int k) st = .ok y st := by
  show (match listIn st (.ref n) with | some xs => (match atI xs k with | some y => Res.ok y st | none => .bad) | none => .bad) = _
  simp only [listIn, h, ha]
theorem f_ixV {xs : List W} {k : Int} {y : W} (ha : atI xs k = some y) : fIx (.lst xs) (.int k) st = .ok y st := by
  show (match atI xs k with | some y => Res.ok y st | none => .bad) = _
  rw [ha]
theorem f_ixT {xs : List W} {k : Int} {y : W} (ha : atI xs k = some y) : fIx (.tup xs) (.int k) st = .ok y st := by
  show (match atI xs k with | some y => Res.ok y st | none => .bad) = _
  rw [ha]
theorem f_ixF {xs : List W} {k : Int} {y : W} (ha : atI xs k = some y) : fIx (.frz xs) (.int k) st = .ok y st := by
  show (match atI xs k with | some y => Res.ok y st | none => .bad) = _
  rw [ha]
end
theorem f_lenV {xs : List W} {st : Store} : fLen [.lst xs] st = .ok (.int xs.length) st := rfl
theorem f_lenF {xs : List W} {st : Store} : fLen [.frz xs] st = .ok (.int xs.length) st := rfl
theorem f_lenT {xs : List W} {st : Store} : fLen [.tup xs] st = .ok (.int xs.length) st := rfl
theorem short_int {a : Int} (h : a.natAbs < 2 ^ 64) : (Str.ofString (toString a)).length ≤ 65 := by
  have e := int_text_length_le (a := a) (k := 64) (by decide) (log_lt (by decide) h)
  rw [PySem.ofString_length]
  exact e
theorem f_reprP {a b : Int} {st : Store} (ha : a.natAbs < 2 ^ 64) (hb : b.natAbs < 2 ^ 64) : fRepr [pr a b] st = .ok (.str (PyData.shown (.tuple [.int a, .int b]))) st := by
  have l1 := Nat.lt_trans (log_lt (by decide) ha) (show 64 < 1920 by decide)
  have l2 := Nat.lt_trans (log_lt (by decide) hb) (show 64 < 1920 by decide)
  have hs : (PyData.shown (.tuple [.int a, .int b])).length ≤ sizeLine := by
    have e := tupleText_len_le [Str.ofString (toString a), Str.ofString (toString b)]
    have e1 := short_int ha
    have e2 := short_int hb
    simp only [List.map_cons, List.map_nil, List.sum_cons, List.sum_nil, List.length_cons, List.length_nil] at e
    have e3 : PyData.shown (.tuple [.int a, .int b]) = tupleText [Str.ofString (toString a), Str.ofString (toString b)] := rfl
    rw [e3, sizeLine_eq]
    omega
  have c : cRepr (.tuple [.int a, .int b]) = true := by
    unfold cRepr
    rw [Bool.and_eq_true, Bool.and_eq_true, Bool.and_eq_true, decide_eq_true_eq, decide_eq_true_eq]
    refine ⟨⟨⟨?_, rfl⟩, (by simp [PyData.depth, PyData.depthAll])⟩, hs⟩
    simp only [PyData.showable, PyData.showableAll, Bool.and_true, Bool.and_eq_true, decide_eq_true_eq]
    exact ⟨l1, l2⟩
  show (if cRepr (.tuple [.int a, .int b]) = true then Res.ok (W.str (PyData.shown (.tuple [.int a, .int b]))) st else .bad) = _
  rw [if_pos c]
/-! ### loops -/
theorem forEach_inv {body : Sm} {put : W → En → En} {xs : List W} (I : Nat → En → Store → Prop)
    (h : ∀ i x env st, xs[i]? = some x → I i env st → ∃ e2 s2, body (put x env) st = .go (.nx e2) s2 ∧ I (i + 1) e2 s2) (env : En) (st : Store) (h0 : I 0 env st) :
    ∃ e2 s2, forEach body put xs env st = .go (.nx e2) s2 ∧ I xs.length e2 s2 := by
  have go : ∀ (ys : List W) (k : Nat) (env : En) (st : Store), (∀ i, ys[i]? = xs[k + i]?) → k + ys.length = xs.length → I k env st → ∃ e2 s2, forEach body put ys env st = .go (.nx e2) s2 ∧ I xs.length e2 s2 := by
    intro ys
    induction ys with
    | nil =>
      intro k env st _ hl hI
      have e : k = xs.length := by simpa using hl
      subst e
      exact ⟨env, st, rfl, hI⟩
    | cons y ys ih =>
      intro k env st hy hl hI
      obtain ⟨e2, s2, e, hI2⟩ := h k y env st (by rw [← Nat.add_zero k, ← hy 0]; rfl) hI
      obtain ⟨e3, s3, e4, hI3⟩ := ih (k + 1) e2 s2 (fun i => by
        have z := hy (i + 1)
        rw [List.getElem?_cons_succ] at z
        rw [z]
        congr 1
        omega) (by rw [List.length_cons] at hl; omega) hI2
      refine ⟨e3, s3, ?_, hI3⟩
      unfold forEach
      rw [e]
      exact e4
  exact go xs 0 env st (fun i => by rw [Nat.zero_add]) (by omega) h0
/-- a comprehension whose elements are all True, while I goes on -/
theorem lc_true {put : W → En → En} {te : Ev W} {env : En} {xs : List W} (I : Nat → Store → Prop) (hn : xs.length ≤ 100000)
    (h : ∀ i x st, xs[i]? = some x → I i st → ∃ s2, te (put x env) st = .ok (.bl true) s2 ∧ I (i + 1) s2) (st : Store) (h0 : I 0 st) :
    ∃ s2, lcEach put yes te env xs [] st = .ok (List.replicate xs.length (.bl true)) s2 ∧ I xs.length s2 := by
  have go : ∀ (ys : List W) (k : Nat) (st : Store), (∀ i, ys[i]? = xs[k + i]?) → k + ys.length = xs.length → I k st → ∃ s2, lcEach put yes te env ys (List.replicate k (.bl true)) st = .ok (List.replicate xs.length (.bl true)) s2 ∧ I xs.length s2 := by
    intro ys
    induction ys with
    | nil =>
      intro k st _ hl hI
      have e : k = xs.length := by simpa using hl
      subst e
      exact ⟨st, rfl, hI⟩
    | cons y ys ih =>
      intro k st hy hl hI
      obtain ⟨s2, e, hI2⟩ := h k y st (by rw [← Nat.add_zero k, ← hy 0]; rfl) hI
      obtain ⟨s3, e4, hI3⟩ := ih (k + 1) s2 (fun i => by
        have z := hy (i + 1)
        rw [List.getElem?_cons_succ] at z
        rw [z]
        congr 1
        omega) (by rw [List.length_cons] at hl; omega) hI2
      refine ⟨s3, ?_, hI3⟩
      unfold lcEach
      rw [List.length_cons] at hl
      have c : (List.replicate k (W.bl true)).length < 100000 := by
        rw [List.length_replicate]
        omega
      simp only [yes, noX, Res.bind, if_true, e, if_pos c, ← List.replicate_succ']
      exact e4
  exact go xs 0 st (fun i => by rw [Nat.zero_add]) (by omega) h0
/-- a comprehension whose elements change nothing -/
theorem lc_map {put : W → En → En} {te : Ev W} {env : En} {xs : List W} {st : Store} (g : W → W) (hn : xs.length ≤ 100000) (h : ∀ x ∈ xs, te (put x env) st = .ok (g x) st) : lcEach put yes te env xs [] st = .ok (xs.map g) st := by
  have go : ∀ (ys acc : List W), (∀ x ∈ ys, te (put x env) st = .ok (g x) st) → acc.length + ys.length ≤ 100000 → lcEach put yes te env ys acc st = .ok (acc ++ ys.map g) st := by
    intro ys
    induction ys with
    | nil =>
      intro acc _ _
      rw [List.map_nil, List.append_nil]
      rfl
    | cons y ys ih =>
      intro acc hy hl
      have e := hy y List.mem_cons_self
      rw [List.length_cons] at hl
      have c : acc.length < 100000 := by omega
      unfold lcEach
      simp only [yes, noX, Res.bind, if_true, e, if_pos c]
      rw [ih (acc ++ [g y]) (fun x hx => hy x (List.mem_cons_of_mem _ hx)) (by rw [List.length_append, List.length_singleton]; omega), List.append_assoc, List.map_cons]
      rfl
  have z := go xs [] h (by simpa using hn)
  rw [List.nil_append] at z
  exact z
theorem mem_rng {lo : Int} {n : Nat} {x : W} (h : x ∈ rngW lo n) : ∃ i : Nat, i < n ∧ x = .int (lo + (i : Int)) := by
  unfold rngW at h
  obtain ⟨i, hi, e⟩ := List.mem_map.mp h
  exact ⟨i, List.mem_range.mp hi, e.symm⟩
theorem bools_rep : ∀ n : Nat, bools (List.replicate n (.bl true)) = some (List.replicate n true)
  | 0 => rfl
  | n + 1 => by
    rw [List.replicate_succ]
    unfold bools
    rw [bools_rep n]
    rfl
theorem f_all {n : Nat} {st : Store} : fAll [.lst (List.replicate n (.bl true))] st = .ok (.bl true) st := by
  show (match bools (List.replicate n (.bl true)) with | some bs => Res.ok (W.bl (bs.all id)) st | none => .bad) = _
  rw [bools_rep n]
  have e : (List.replicate n true).all id = true := by
    rw [List.all_eq_true]
    intro b hb
    rw [(List.mem_replicate.mp hb).2]
    rfl
  show Res.ok (W.bl ((List.replicate n true).all id)) st = _
  rw [e]
/-! ### a result that is had -/
def Got {α : Type} (r : Res α) (R : α → Store → Prop) : Prop := ∃ a st, r = .ok a st ∧ R a st
theorem Got.bind {α β : Type} {r : Res α} {k : α → Store → Res β} {R : α → Store → Prop} {R2 : β → Store → Prop} (h : Got r R) (hk : ∀ a st, R a st → Got (k a st) R2) : Got (r.bind k) R2 := by
  obtain ⟨a, st, rfl, ha⟩ := h
  exact hk a st ha
theorem Got.mono {α : Type} {r : Res α} {R R2 : α → Store → Prop} (h : Got r R) (hk : ∀ a st, R a st → R2 a st) : Got r R2 := by
  obtain ⟨a, st, e, ha⟩ := h
  exact ⟨a, st, e, hk a st ha⟩
theorem Got.of {α : Type} {a : α} {st : Store} {R : α → Store → Prop} (h : R a st) : Got (.ok a st) R := ⟨a, st, rfl, h⟩

/-! ### the draws -/
structure Pot (st : Store) (p : Nat) (c : Int) : Prop where
  ex : ∃ own seed cnt : Int, st[p]? = some (.lst [.int own, .int seed, .int cnt]) ∧ 0 ≤ own ∧ own.natAbs < 2 ^ 1000 ∧ 0 ≤ seed ∧ seed < 2 ^ 61 ∧ 0 ≤ cnt ∧ cnt ≤ c
/-- at most the thing at p has changed, and what is new -/
structure Fr (p : Nat) (st st' : Store) : Prop where
  len : st.length ≤ st'.length
  keep : ∀ i, i < st.length → i ≠ p → st'[i]? = st[i]?
theorem Fr.refl {p : Nat} {st : Store} : Fr p st st := ⟨Nat.le_refl _, fun _ _ _ => rfl⟩
theorem Fr.trans {p : Nat} {a b c : Store} (h : Fr p a b) (k : Fr p b c) : Fr p a c := ⟨Nat.le_trans h.len k.len, fun i hi hp => (k.keep i (Nat.lt_of_lt_of_le hi h.len) hp).trans (h.keep i hi hp)⟩
theorem Pot.mono {st : Store} {p : Nat} {c c' : Int} (h : Pot st p c) (hc : c ≤ c') : Pot st p c' := by
  obtain ⟨o, s, n, h1, h2, h3, h4, h5, h6, h7⟩ := h.ex
  exact ⟨o, s, n, h1, h2, h3, h4, h5, h6, by omega⟩
end Mi

namespace Mi
open PySem PySem.Spec PyProof.Rows L2
variable [ClsMap]

/-! ### two comparisons in one -/
def mChain (f g : W → W → Store → Res W) (a b c : Ev W) : Ev W := fun env st => (a env st).bind fun x s1 => (b env s1).bind fun y s2 => (f x y s2).bind fun z s3 => match z with
  | .bl true => (c env s3).bind fun w s4 => g y w s4
  | .bl false => .ok (.bl false) s3
  | _ => .bad
section
variable {X : Cx} {Wx : WX} {a b c : Expr} {es : List Expr} {ma mb mc : Ev W} {ml : Ev (List W)} {pos p2 : Pos}
theorem Fin.bind_of {α β γ δ : Type} {K : PySem.W.Frag} {mg : Str → Option Value} {R : Wh → α → β → Prop} {R2 : Wh → γ → δ → Prop} {p : Wh} {σ : L2.St} {Q2 : δ → Hp → Prop} {r : Res α} {k : α → Store → Res γ} (h : Fin K mg R2 Wx p σ Q2 (r.bind k)) :
    Fin K mg R Wx p σ (fun b H => ∃ (q : Wh) (st' : Store) (a : α), q.H = H ∧ Step p q ∧ SR K q st' ∧ R q a b ∧ Fin K mg R2 Wx q σ Q2 (k a st')) r := by
  cases r with
  | ok a st' => exact fun q b t s r => ⟨q, st', a, rfl, t, s, r, Fin.later t h⟩
  | exc x st' => exact h
  | bad => exact h
theorem chain_of {r r' : R2} {f g : W → W → Store → Res W} (hr : R2ok X Wx r f) (hr' : R2ok X Wx r' g) {σ : L2.St} {H : Hp} {Q : VK} (h : tG X.K X.mg (RW X.K) Wx (mChain f g ma mb mc) σ H Q) :
    tChain r r' (tG X.K X.mg (RW X.K) Wx ma) (tG X.K X.mg (RW X.K) Wx mb) (tG X.K X.mg (RW X.K) Wx mc) σ H Q := by
  obtain ⟨p, st, env, hp, S, E, h⟩ := h
  refine tG_bind hp S E h fun q s1 x v t1 S1 E1 rx h1 => tG_bind rfl S1 E1 h1 fun q2 s2 y u t2 S2 E2 ry h2 => ?_
  refine hr q2 s2 x y v u σ _ S2 (RW.step t2 x v rx) ry ?_
  refine (Fin.bind_of (R := RW X.K) h2).mono fun z' H' ⟨q3, s3, z, eH, t3, S3, rz, h3⟩ => ?_
  subst eH
  cases z with
  | bl k =>
    have ez : z' = .bl k := rz
    refine ⟨k, ez, ?_⟩
    cases k with
    | true =>
      rw [if_pos rfl]
      exact tG_bind rfl S3 (E2.step t3) h3 fun q4 s4 w v4 t4 S4 E4 rw4 h4 => hr' q4 s4 y w u v4 σ Q S4 (RW.step (t3.trans t4) y u ry) rw4 h4
    | false =>
      rw [if_neg Bool.false_ne_true]
      exact h3 q3 (.bl false) (.refl S3) S3 rfl
  | _ => exact h3.elim
theorem ge_chain {op op' : CmpOp} {r r' : R2} {f g : W → W → Store → Res W} (ho : OpR X (compareOp op) r) (hr : R2ok X Wx r f) (ho' : OpR X (compareOp op') r') (hr' : R2ok X Wx r' g) (ha : GE X Wx a ma) (hb : GE X Wx b mb) (hc : GE X Wx c mc)
    (hm : lastMarks [op, op'] [b, c] = false := by with_unfolding_all rfl) : GE X Wx (.Compare a [op, op'] [b, c] pos) (mChain f g ma mb mc) :=
  PEimp (pe_chain ho ho' ha hb hc hm) fun σ H Q h => chain_of hr hr' h
theorem gt_chain {op op' : CmpOp} {r r' : R2} {f g : W → W → Store → Res W} (ho : OpR X (compareOp op) r) (hr : R2ok X Wx r f) (ho' : OpR X (compareOp op') r') (hr' : R2ok X Wx r' g) (ha : GE X Wx a ma) (hb : GE X Wx b mb) (hc : GE X Wx c mc)
    (hm : lastMarks [op, op'] [b, c] = false := by with_unfolding_all rfl) : GT X Wx (.Compare a [op, op'] [b, c] pos) (mB (mChain f g ma mb mc)) :=
  PTimp (pt_chain ho ho' ha hb hc hm) fun σ H Q h => chain_of hr hr' (asB_of h)

/-! ### a module's constants -/
theorem ge_gInt {x : Str} {i : Int} {t : Tok} (hg : Gl X x) (hm : X.mg x = some (.int i t)) (hd : (x == ("__debug__" : Str)) = false := by decide) : GE X Wx (.Name x pos) (mC (.int i)) :=
  ge_c (pe_glob (v := .int i) hg hm ⟨t, rfl⟩ hd) fun _ => rfl
theorem ge_gStr {x z : Str} {t : Tok} (hg : Gl X x) (hm : X.mg x = some (.str z t)) (hd : (x == ("__debug__" : Str)) = false := by decide) : GE X Wx (.Name x pos) (mC (.str z)) :=
  ge_c (pe_glob (v := .str z) hg hm ⟨t, rfl⟩ hd) fun _ => rfl
theorem ge_gRef {x : Str} {d : Addr} {w : W} (hg : Gl X x) (hm : X.mg x = some (.ref d)) (hw : ∀ p, RW X.K p w (.ref d)) (hd : (x == ("__debug__" : Str)) = false := by decide) : GE X Wx (.Name x pos) (mC w) :=
  ge_c (pe_glob (v := .ref d) hg hm rfl hd) hw

/-! ### slices -/
def cutW (xs : List W) (lo hi : Option Int) : List W := (xs.drop (HT.sIx xs.length 0 lo)).take (HT.sIx xs.length xs.length hi - HT.sIx xs.length 0 lo)
def wholeW (xs : List W) (lo hi : Option Int) : Bool := decide (HT.sIx xs.length 0 lo = 0) && decide (HT.sIx xs.length xs.length hi = xs.length)
def fSl (lo hi : Option Int) : W → Store → Res W
  | .tup xs, st => if wholeW xs lo hi = true then .bad else .ok (.tup (cutW xs lo hi)) st
  | .str z, st => if z.length ≤ sizeLine then .ok (.str (cutS z lo hi)) st else .bad
  | _, _ => .bad
/-- a slice's part -/
def mNoPart : Ev (Option Int) := fun _ st => .ok none st
def mPart (a : Ev W) : Ev (Option Int) := fun env st => (a env st).bind fun w s1 => match w with
  | .int i => .ok (some i) s1
  | _ => .bad
def mSl (a : Ev W) (l h : Ev (Option Int)) : Ev W := fun env st => (a env st).bind fun w s1 => (l env s1).bind fun lo s2 => (h env s2).bind fun hi s3 => fSl lo hi w s3
abbrev eqO : Wh → Option Int → Option Int → Prop := fun _ a b => a = b
abbrev GO (X : Cx) (Wx : WX) (e : Option Expr) (m : Ev (Option Int)) : Prop := PO X e (tG X.K X.mg eqO Wx m)
theorem POimp {e : Option Expr} {t t' : TO} (h : PO X e t) (i : ∀ σ H Q, t' σ H Q → t σ H Q) : PO X e t' := ⟨fun pins s σ H Q I z => h.run pins s σ H Q I (i σ H Q z)⟩
theorem go_none : GO X Wx none mNoPart := POimp po_none fun σ H Q ⟨p, st, env, hp, S, E, h⟩ => by
  subst hp
  exact h p none (.refl S) S rfl
theorem go_some (ha : GE X Wx a ma) : GO X Wx (some a) (mPart ma) := POimp (po_some ha) fun σ H Q ⟨p, st, env, hp, S, E, h⟩ => tG_bind hp S E h fun q s1 w v t S1 E1 r h1 => by
  cases w with
  | int i => exact ⟨i, r, h1 q (some i) (.refl S1) S1 rfl⟩
  | _ => exact h1.elim
theorem cut_rel {K : PySem.W.Frag} {p : Wh} {xs : List W} {vs : List V} (lo hi : Option Int) (r : RWs K p xs vs) : RWs K p (cutW xs lo hi) (cutV vs lo hi) := by
  unfold cutW cutV
  rw [r.length]
  exact RWs.take _ (RWs.drop _ r)
theorem sl_both : SlR X (fun x lo hi H Q => rSlT X.K x lo hi H Q ∨ rSlS x lo hi H Q) := sl_tup.or sl_str
theorem ge_slice {lo hi : Option Expr} {l h : Ev (Option Int)} (ha : GE X Wx a ma) (hl : GO X Wx lo l) (hh : GO X Wx hi h) : GE X Wx (.Subscript a (.Slice lo hi none p2) pos) (mSl ma l h) :=
  PEimp (pe_slice sl_both ha hl hh) fun σ H Q ⟨p, st, env, hp, S, E, h⟩ => tG_bind hp S E h fun q s1 w v t S1 E1 r h1 => tG_bind rfl S1 E1 h1 fun q2 s2 lo' lo t2 S2 E2 r2 h2 => tG_bind rfl S2 E2 h2 fun q3 s3 hi' hi t3 S3 E3 r3 h3 => by
    have e2 : lo' = lo := r2
    have e3 : hi' = hi := r3
    subst e2 e3
    have r := RW.step (t2.trans t3) w v r
    cases w with
    | tup xs =>
      obtain ⟨d, vs, rfl, ta, rs⟩ := r
      dsimp only [fSl] at h3
      cases c : wholeW xs lo' hi' with
      | true =>
        rw [c, if_pos rfl] at h3
        exact h3.elim
      | false =>
        rw [c, if_neg Bool.false_ne_true] at h3
        refine .inl ⟨d, vs, rfl, ta.seq, ?_, fun n hn => ?_⟩
        · intro z
          rw [← rs.length] at z
          unfold wholeW at c
          rw [decide_eq_true z.1, decide_eq_true z.2] at c
          cases c
        · exact h3 { q3 with H := upd q3.H n (.tup (cutV vs lo' hi')) } (.ref n) (step_new S3 hn) (sr_new S3 hn) (new_tup S3 hn (cut_rel lo' hi' rs))
    | str z =>
      have ev : v = .str z := r
      subst ev
      dsimp only [fSl] at h3
      by_cases c : z.length ≤ sizeLine
      · rw [if_pos c] at h3
        exact .inr ⟨z, rfl, c, fin_ok S3 h3 rfl⟩
      · rw [if_neg c] at h3
        exact h3.elim
    | _ => exact h3.elim

/-! ### starred things in a display -/
def spread (st : Store) : W → Option (List W)
  | .tup xs => some xs
  | w => listIn st w
def mStar (a : Ev W) (r : Ev (List W)) : Ev (List W) := fun env st => (a env st).bind fun x s1 => match spread s1 x with
  | some us => (r env s1).bind fun xs s2 => .ok (us ++ xs) s2
  | none => .bad
theorem spread_of {K : PySem.W.Frag} {p : Wh} {st : Store} (S : SR K p st) {w : W} {v : V} {xs : List W} (h : spread st w = some xs) (r : RW K p w v) : ∃ a vs, v = .ref a ∧ (SqT K p.H a vs ∨ SqL K p.H a vs) ∧ RWs K p xs vs := by
  cases w with
  | tup ys =>
    cases h
    obtain ⟨a, vs, e, ta, rs⟩ := r
    exact ⟨a, vs, e, .inl ta.seq, rs⟩
  | non => cases h
  | bl _ => cases h
  | int _ => cases h
  | str _ => cases h
  | dic _ _ => cases h
  | lst ys =>
    obtain ⟨a, vs, e, ta, rs⟩ := listIn_of (w := .lst ys) S h r
    exact ⟨a, vs, e, .inr ta, rs⟩
  | frz ys =>
    obtain ⟨a, vs, e, ta, rs⟩ := listIn_of (w := .frz ys) S h r
    exact ⟨a, vs, e, .inr ta, rs⟩
  | ref n =>
    obtain ⟨a, vs, e, ta, rs⟩ := listIn_of (w := .ref n) S h r
    exact ⟨a, vs, e, .inr ta, rs⟩
theorem ga_star {e : Expr} (he : GE X Wx e ma) (hr : GA X Wx es ml) (hs : starEach (.Starred e p2 :: es) X.env = (true, eval e X.env) :: starEach es X.env := by rfl) : GA X Wx (.Starred e p2 :: es) (mStar ma ml) :=
  PAimp (StX.pa_star he hr hs) fun σ H Q ⟨p, st, env, hp, S, E, h⟩ => tG_bind hp S E h fun q s1 w v t S1 E1 r h1 => by
    cases c : spread s1 w with
    | none =>
      rw [c] at h1
      exact h1.elim
    | some us =>
      rw [c] at h1
      obtain ⟨d, vs, ev, hd, rs⟩ := spread_of S1 c r
      refine ⟨d, vs, ev, hd, tG_bind rfl S1 E1 h1 fun q2 s2 xs ys t2 S2 E2 r2 h2 => ?_⟩
      exact h2 q2 (vs ++ ys) (.refl S2) S2 (RWs.append (RWs.step t2 us vs rs) r2)

/-! ### a sign in a text; is True, is False -/
def fInS : W → W → Store → Res W
  | .str x, .str z, st => if x.cps.size = 1 then .ok (.bl (z.cps.toList.contains (x.cps[0]!))) st else .bad
  | _, _, _ => .bad
theorem r2_inS : R2ok X Wx (fun x y H Q => ∃ (c : Nat) (z : Str), x = .str ⟨#[c]⟩ ∧ y = .str z ∧ Q (.bl (decide (c ∈ z.cps.toList))) H) fInS := by
  intro p st x y v u σ Q S rx ry h
  unfold fInS at h
  split at h
  · rename_i x z
    have e1 : v = .str x := rx
    have e2 : u = .str z := ry
    subst e1 e2
    by_cases c : x.cps.size = 1
    · rw [if_pos c] at h
      have ex : x = ⟨#[x.cps[0]!]⟩ := by
        obtain ⟨⟨l⟩⟩ := x
        match l, c with
        | [k], _ => rfl
      refine ⟨x.cps[0]!, z, by rw [← ex], rfl, ?_⟩
      refine fin_ok S h ?_
      show V.bl _ = V.bl _
      congr 1
      rw [List.contains_eq_mem]
    · rw [if_neg c] at h
      exact h.elim
  · exact h.elim
/-- x is b, b True or False -/
def isBW (b : Bool) : W → Bool
  | .bl c => c == b
  | _ => false
def fIsB : W → W → Store → Res W
  | x, .bl b, st => .ok (.bl (isBW b x)) st
  | _, _, _ => .bad
def fNotB : W → W → Store → Res W
  | x, .bl b, st => .ok (.bl (!isBW b x)) st
  | _, _, _ => .bad
def isBV (b : Bool) : V → Bool
  | .bl c => c == b
  | _ => false
def wV : V → Bool
  | .non | .bl _ | .int _ | .str _ | .ref _ => true
  | _ => false
theorem is_rel {K : PySem.W.Frag} {p : Wh} {w : W} {v : V} (b : Bool) (r : RW K p w v) : isBV b v = isBW b w ∧ wV v = true := by
  cases w with
  | non => have e : v = .non := r; subst e; exact ⟨rfl, rfl⟩
  | bl c => have e : v = .bl c := r; subst e; exact ⟨rfl, rfl⟩
  | int i => have e : v = .int i := r; subst e; exact ⟨rfl, rfl⟩
  | str z => have e : v = .str z := r; subst e; exact ⟨rfl, rfl⟩
  | tup xs => obtain ⟨a, vs, e, _⟩ := r; subst e; exact ⟨rfl, rfl⟩
  | lst xs => obtain ⟨a, vs, e, _⟩ := r; subst e; exact ⟨rfl, rfl⟩
  | frz xs => obtain ⟨a, vs, e, _⟩ := r; subst e; exact ⟨rfl, rfl⟩
  | dic ks xs => obtain ⟨a, vs, e, _⟩ := r; subst e; exact ⟨rfl, rfl⟩
  | ref n => obtain ⟨_, e⟩ := r; subst e; exact ⟨rfl, rfl⟩
theorem op_isB : OpR X (compareOp .Is) (fun x y H Q => ∃ b, y = .bl b ∧ wV x = true ∧ Q (.bl (isBV b x)) H) := by
  intro pins s σ H x y v u Q I rx ry h
  obtain ⟨b, rfl, hw, q⟩ := h
  cases ry
  cases x with
  | non => cases rx; exact PySem.wpAny_is_plain rfl (fin_bl I q rfl)
  | bl c =>
    cases rx
    refine PySem.wpAny_is_plain rfl (fin_bl I q ?_)
    cases b <;> cases c <;> rfl
  | int i => obtain ⟨t, rfl⟩ := rx; exact PySem.wpAny_is_plain rfl (fin_bl I q rfl)
  | str i => obtain ⟨t, rfl⟩ := rx; exact PySem.wpAny_is_plain rfl (fin_bl I q rfl)
  | ref a => cases rx; exact PySem.wpAny_is_plain rfl (fin_bl I q rfl)
  | _ => cases hw
theorem op_notB : OpR X (compareOp .IsNot) (fun x y H Q => ∃ b, y = .bl b ∧ wV x = true ∧ Q (.bl (!isBV b x)) H) := by
  intro pins s σ H x y v u Q I rx ry h
  obtain ⟨b, rfl, hw, q⟩ := h
  cases ry
  cases x with
  | non => cases rx; exact PySem.wpAny_isNot_plain rfl (fin_bl I q rfl)
  | bl c =>
    cases rx
    refine PySem.wpAny_isNot_plain rfl (fin_bl I q ?_)
    cases b <;> cases c <;> rfl
  | int i => obtain ⟨t, rfl⟩ := rx; exact PySem.wpAny_isNot_plain rfl (fin_bl I q rfl)
  | str i => obtain ⟨t, rfl⟩ := rx; exact PySem.wpAny_isNot_plain rfl (fin_bl I q rfl)
  | ref a => cases rx; exact PySem.wpAny_isNot_plain rfl (fin_bl I q rfl)
  | _ => cases hw
theorem r2_isB : R2ok X Wx (fun x y H Q => ∃ b, y = .bl b ∧ wV x = true ∧ Q (.bl (isBV b x)) H) fIsB := by
  intro p st x y v u σ Q S rx ry h
  cases y with
  | bl b =>
    have e : u = .bl b := ry
    obtain ⟨e1, e2⟩ := is_rel b rx
    exact ⟨b, e, e2, by rw [e1]; exact fin_ok S h rfl⟩
  | _ => exact h.elim
theorem r2_notB : R2ok X Wx (fun x y H Q => ∃ b, y = .bl b ∧ wV x = true ∧ Q (.bl (!isBV b x)) H) fNotB := by
  intro p st x y v u σ Q S rx ry h
  cases y with
  | bl b =>
    have e : u = .bl b := ry
    obtain ⟨e1, e2⟩ := is_rel b rx
    exact ⟨b, e, e2, by rw [e1]; exact fin_ok S h rfl⟩
  | _ => exact h.elim
end
end Mi

namespace Mi
open PySem PySem.Spec PyProof.Rows L2
variable [ClsMap]

/-! ### instances of own classes -/
def putW (f : Str) (w : W) : List (Str × W) → List (Str × W)
  | [] => [(f, w)]
  | (g, x) :: r => if g = f then (g, w) :: r else (g, x) :: putW f w r
structure FsR (K : PySem.W.Frag) (p : Wh) (fs : List (Str × W)) (gs : List (Str × V)) : Prop where
  names : gs.map (·.1) = fs.map (·.1)
  vals : RWs K p (fs.map (·.2)) (gs.map (·.2))
section
variable {K : PySem.W.Frag} {p : Wh}
theorem FsR.nil : FsR K p [] [] := ⟨rfl, rfl⟩
theorem FsR.cons {f : Str} {w : W} {v : V} {fs : List (Str × W)} {gs : List (Str × V)} (r : RW K p w v) (h : FsR K p fs gs) : FsR K p ((f, w) :: fs) ((f, v) :: gs) :=
  ⟨by simp only [List.map_cons, h.names], ⟨v, gs.map (·.2), rfl, r, h.vals⟩⟩
theorem FsR.out {f : Str} {w : W} {fs : List (Str × W)} {gs : List (Str × V)} (h : FsR K p ((f, w) :: fs) gs) : ∃ v r, gs = (f, v) :: r ∧ RW K p w v ∧ FsR K p fs r := by
  cases gs with
  | nil =>
    have e := h.names
    cases e
  | cons g r =>
    obtain ⟨v, rs, e, h1, h2⟩ := h.vals
    have e1 := h.names
    simp only [List.map_cons, List.cons.injEq] at e1 e
    obtain ⟨e2, e3⟩ := e1
    refine ⟨v, r, ?_, h1, e3, by rw [e.2]; exact h2⟩
    rw [← e2, ← e.1]
theorem FsR.nilOut {gs : List (Str × V)} (h : FsR K p [] gs) : gs = [] := by
  have e := h.names
  cases gs with
  | nil => rfl
  | cons g r => cases e
theorem FsR.lookup : ∀ {fs : List (Str × W)} {gs : List (Str × V)} {f : Str} {w : W}, FsR K p fs gs → fs.lookup f = some w → ∃ v, gs.lookup f = some v ∧ RW K p w v
  | [], gs, f, w, h, e => by cases e
  | (g, x) :: fs, gs, f, w, h, e => by
    obtain ⟨v, r, rfl, h1, h2⟩ := h.out
    rw [List.lookup_cons] at e ⊢
    cases c : f == g with
    | true =>
      rw [c] at e
      cases e
      exact ⟨v, rfl, h1⟩
    | false =>
      rw [c] at e
      exact h2.lookup e
theorem FsR.put {f : Str} {w : W} {v : V} (hv : RW K p w v) : ∀ {fs : List (Str × W)} {gs : List (Str × V)}, FsR K p fs gs → FsR K p (putW f w fs) (putF f v gs)
  | [], gs, h => by
    rw [h.nilOut]
    exact FsR.nil.cons hv
  | (g, x) :: fs, gs, h => by
    obtain ⟨u, r, rfl, h1, h2⟩ := h.out
    unfold putW putF
    by_cases c : g = f
    · rw [if_pos c, if_pos c]
      exact h2.cons hv
    · rw [if_neg c, if_neg c]
      exact (h2.put hv).cons h1
theorem FsR.length {fs : List (Str × W)} {gs : List (Str × V)} (h : FsR K p fs gs) : gs.length = fs.length := by
  have e := congrArg List.length h.names
  simpa using e
theorem SR.atI {st : Store} (S : SR K p st) {n : Nat} {C : Addr} {fs : List (Str × W)} (h : st[n]? = some (.ins C fs)) : n < p.n ∧ ∃ dx gs, p.H (p.ρ n) = some (.ins (cl C) dx gs) ∧ FsR K p fs gs := by
  refine ⟨by rw [S.len]; exact (List.getElem?_eq_some_iff.mp h).1, ?_⟩
  obtain ⟨dx, gs, e, l, k⟩ := S.obj n _ h
  exact ⟨dx, gs, e, l, k⟩
theorem sr_mutI {st : Store} (S : SR K p st) {n : Nat} (hn : n < p.n) {C : Nat} {dx : Addr} {fs : List (Str × W)} {gs : List (Str × V)} (r : FsR K p fs gs) : SR K { p with H := upd p.H (p.ρ n) (.ins (cl C) dx gs) } (st.set n (.ins C fs)) := by
  have t : Step p { p with H := upd p.H (p.ρ n) (.ins (cl C) dx gs) } := step_mut S hn
  refine ⟨S.tab.upd (S.plainAt hn) (fun _ z => nomatch z), by rw [List.length_set]; exact S.len, S.inj, fun i u e => ?_, fun b z => ⟨t.hth b z, (S.hid b z).2⟩⟩
  show RO K _ u (upd p.H (p.ρ n) (.ins (cl C) dx gs) (p.ρ i))
  by_cases z : n = i
  · subst z
    rw [List.getElem?_set_self (by rw [← S.len]; exact hn)] at e
    cases e
    rw [upd_same]
    exact ⟨dx, gs, rfl, r.names, RWs.step t _ _ r.vals⟩
  · rw [List.getElem?_set_ne z] at e
    have hi : i < p.n := by
      rw [S.len]
      exact (List.getElem?_eq_some_iff.mp e).1
    rw [upd_ne (fun e => z (S.inj i n hi hn e).symm)]
    exact (S.obj i u e).step t
end
/-- o.f, o of the class C -/
def fGet (C : Nat) (f : Str) : W → Store → Res W := fun o st => match o with
  | .ref n => match st[n]? with
    | some (.ins D fs) => if D = C then (match fs.lookup f with | some w => .ok w st | none => .bad) else .bad
    | _ => .bad
  | _ => .bad
/-- o.f = e -/
def putFld (C : Nat) (f : Str) (o v : W) (st : Store) : Option Store := match o with
  | .ref n => match st[n]? with
    | some (.ins D fs) => if D = C ∧ fs.length < 1000 then some (st.set n (.ins D (putW f v fs))) else none
    | _ => none
  | _ => none
def sFldW (C : Nat) (f : Str) (me mo : Ev W) : Sm := liftE me fun v env st => liftE mo (fun o env st => match putFld C f o v st with
  | some s2 => .go (.nx env) s2
  | none => .bad) env st
section
variable {X : Cx} {Wx : WX} {a e : Expr} {ma me : Ev W} {pos p2 : Pos} {f : Str} {C : Nat}
theorem ge_fld (c : Cls X.K (cl C)) (n : NoAttr X.K (cl C) f) (ha : GE X Wx a ma) (hb : attributeBase a f X.env (eval a X.env) = eval a X.env := by rfl) : GE X Wx (.Attribute a f pos) (mUn (fGet C f) ma) :=
  PEimp (pe_fld ha hb) fun σ H Q ⟨p, st, env, hp, S, E, h⟩ => tG_bind hp S E h fun q s1 x v t1 S1 E1 rx h1 => by
    cases x with
    | ref k =>
      dsimp only [fGet] at h1
      cases eo : s1[k]? with
      | none =>
        rw [eo] at h1
        exact h1.elim
      | some o =>
        cases o with
        | lst xs =>
          rw [eo] at h1
          exact h1.elim
        | dct xs =>
          rw [eo] at h1
          exact h1.elim
        | ins D fs =>
          rw [eo] at h1
          dsimp only at h1
          by_cases hD : D = C
          · rw [if_pos hD] at h1
            subst hD
            obtain ⟨hn, dx, gs, hH, r⟩ := S1.atI eo
            cases el : fs.lookup f with
            | none =>
              rw [el] at h1
              exact h1.elim
            | some w =>
              rw [el] at h1
              obtain ⟨u, e2, ru⟩ := r.lookup el
              exact ⟨q.ρ k, cl D, dx, gs, u, rx.2, hH, c, n, e2, fin_ok S1 h1 ru⟩
          · rw [if_neg hD] at h1
            exact h1.elim
    | _ => exact h1.elim
theorem gs_fld (c : Cls X.K (cl C)) (n : NoAttr X.K (cl C) f) (ha : GE X Wx a ma) (he : GE X Wx e me) (hs : swapsWith e (some (.Attribute a f p2)) pos.line X.env = pure false := by rfl) : GS X Wx (.Assign [.Attribute a f p2] e pos) (sFldW C f me ma) :=
  PSimp (ps_fld ha he hs) fun D σ H ⟨p, st, env, hp, S, E, h⟩ => lift_of hp S E h fun q s1 w v t S1 E1 r h1 => lift_of rfl S1 E1 h1 fun q2 s2 x v2 t2 S2 E2 r2 h2 => by
    have r := RW.step t2 w v r
    cases x with
    | ref k =>
      dsimp only [putFld] at h2
      cases eo : s2[k]? with
      | none =>
        rw [eo] at h2
        exact h2.elim
      | some o =>
        cases o with
        | lst xs =>
          rw [eo] at h2
          exact h2.elim
        | dct xs =>
          rw [eo] at h2
          exact h2.elim
        | ins D2 fs =>
          rw [eo] at h2
          dsimp only at h2
          by_cases hD : D2 = C ∧ fs.length < 1000
          · rw [if_pos hD] at h2
            obtain ⟨hD, hl⟩ := hD
            subst hD
            obtain ⟨hn, dx, gs, hH, rf⟩ := S2.atI eo
            refine ⟨q2.ρ k, cl D2, dx, gs, r2.2, hH, c, n, by rw [rf.length]; exact hl, ?_⟩
            exact h2 { q2 with H := upd q2.H (q2.ρ k) (.ins (cl D2) dx (putF f v gs)) } σ (step_mut S2 hn) (sr_mutI S2 hn (rf.put r)) (E2.step (step_mut S2 hn))
          · rw [if_neg hD] at h2
            exact h2.elim
    | _ => exact h2.elim
end
end Mi

namespace Mi
open PySem PySem.Spec PyProof.Rows L2
variable [ClsMap]

/-! ### C(e, ..): a new instance of an own class whose __init__ raises nothing -/
theorem sr_moreO {K : PySem.W.Frag} {p : Wh} {st : Store} (S : SR K p st) {a : Addr} {o : O} {ho : HO} (h : p.H a = none) (r : RO K p o (some ho)) : SR K (p.more a ho) (st ++ [o]) := by
  have t := step_more (o := ho) S h
  refine ⟨S.tab.new h r.plain.1, by rw [List.length_append, ← S.len]; rfl, fun i j hi hj e => ?_, fun i u e => ?_, fun b z => ⟨t.hth b z, fun i hi e => ?_⟩⟩
  · have hi' : i < p.n + 1 := hi
    have hj' : j < p.n + 1 := hj
    have e' : (if i = p.n then a else p.ρ i) = (if j = p.n then a else p.ρ j) := e
    by_cases h1 : i = p.n
    · by_cases h2 : j = p.n
      · omega
      · rw [if_pos h1, if_neg h2] at e'
        exact absurd (by rw [← e']; exact h) (S.there j (by omega))
    · by_cases h2 : j = p.n
      · rw [if_neg h1, if_pos h2] at e'
        exact absurd (by rw [e']; exact h) (S.there i (by omega))
      · rw [if_neg h1, if_neg h2] at e'
        exact S.inj i j (by omega) (by omega) e'
  · show RO K _ u (upd p.H a ho (if i = p.n then a else p.ρ i))
    by_cases h1 : i = p.n
    · rw [if_pos h1, upd_same]
      rw [h1, S.len, List.getElem?_append_right (Nat.le_refl _)] at e
      have e' : o = u := by simpa using e
      subst e'
      exact r.step t
    · have hi : i < (st ++ [o]).length := (List.getElem?_eq_some_iff.mp e).1
      rw [List.length_append, List.length_singleton, ← S.len] at hi
      rw [if_neg h1, upd_ne (fun z => S.there i (by omega) (by rw [z]; exact h))]
      rw [List.getElem?_append_left (by rw [← S.len]; omega)] at e
      exact (S.obj i u e).step t
  · have hi' : i < p.n + 1 := hi
    have e' : (if i = p.n then a else p.ρ i) = b := e
    by_cases h1 : i = p.n
    · rw [if_pos h1] at e'
      exact (S.hid b z).1 (by rw [← e']; exact h)
    · rw [if_neg h1] at e'
      exact (S.hid b z).2 i (by omega) e'
def fMake (C : Nat) (m : List W → Store → Res W) : List W → Store → Res W := fun ws st => match m (.ref st.length :: ws) (st ++ [.ins C []]) with
  | .ok .non s1 => .ok (.ref st.length) s1
  | _ => .bad
section
variable {X : Cx} {Wx : WX} {k : Nat} {f : Addr} {C : Nat} {fd : FuncData} {ps : List Str} {m : List W → Store → Res W} {x : Str} {p pos : Pos} {e : Expr} {es : List Expr} {ml : Ev (List W)}
theorem run_makeG {pins : List (Addr × Obj)} {σ : L2.St} {H : Hp} {s : Shared} {Q : VK} {us : List Value} {vs : List V} {ws : List W} {q : Wh} {st : Store} (M : Mk X.K (cl C) f) (F : FnG X.prog X.w X.K X.mg X.base k f fd ps m) (hr : Room (k + 1) X.A) (hg : X.A.guards = some [])
    (hb : Binds X.K fd ps []) (I : Inv X pins σ H s) (r : Vals vs us) (hq : q.H = H) (S : SR X.K q st) (rs : RWs X.K q ws vs) (h : Fin X.K X.mg (RW X.K) Wx q σ Q (fMake C m ws st)) :
    wpAny (model X.prog X.w) X.A (call (.ref (cl C)) us) (EP X pins σ Q) X.xe s := by
  subst hq
  have hx : q.H (s.heap.objs.size + 1) = none := I.hok.fresh (Nat.le_succ _)
  have hdx : q.H s.heap.objs.size = none := I.hok.fresh (Nat.le_refl _)
  have ne : s.heap.objs.size + 1 ≠ s.heap.objs.size := Nat.succ_ne_self _
  have t1 := step_new (o := HO.own (s.heap.objs.size + 1)) S hdx
  have S1 := sr_new (o := HO.own (s.heap.objs.size + 1)) S hdx
  have hx1 : ({ q with H := upd q.H s.heap.objs.size (.own (s.heap.objs.size + 1)) } : Wh).H (s.heap.objs.size + 1) = none := by
    show upd q.H s.heap.objs.size (.own (s.heap.objs.size + 1)) (s.heap.objs.size + 1) = none
    rw [upd_ne ne]
    exact hx
  have t2 := step_more (o := HO.ins (cl C) s.heap.objs.size []) S1 hx1
  have S2 : SR X.K _ (st ++ [.ins C []]) := sr_moreO (o := .ins C []) (ho := HO.ins (cl C) s.heap.objs.size []) S1 hx1 ⟨s.heap.objs.size, [], rfl, rfl, rfl⟩
  have I2 := Inv.made (C := cl C) I
  have r2 : Vals (V.ref (s.heap.objs.size + 1) :: vs) (Value.ref (s.heap.objs.size + 1) :: us) := .cons rfl r
  have hn : q.ρ = q.ρ := rfl
  have rw2 : RWs X.K (({ q with H := upd q.H s.heap.objs.size (.own (s.heap.objs.size + 1)) } : Wh).more (s.heap.objs.size + 1) (.ins (cl C) s.heap.objs.size [])) (.ref st.length :: ws) (V.ref (s.heap.objs.size + 1) :: vs) := by
    refine ⟨V.ref (s.heap.objs.size + 1), vs, rfl, ⟨?_, ?_⟩, RWs.step (t1.trans t2) ws vs rs⟩
    · show st.length < q.n + 1
      rw [S.len]
      exact Nat.lt_succ_self _
    · show V.ref (s.heap.objs.size + 1) = V.ref (if st.length = q.n then (s.heap.objs.size + 1) else q.ρ st.length)
      rw [if_pos S.len.symm]
  have h2 : Fin X.K X.mg (RW X.K) (WxE fun _ _ _ => False) (({ q with H := upd q.H s.heap.objs.size (.own (s.heap.objs.size + 1)) } : Wh).more (s.heap.objs.size + 1) (.ins (cl C) s.heap.objs.size [])) [] (fun v H2 => v = .non ∧ Q (.ref (s.heap.objs.size + 1)) H2) (m (.ref st.length :: ws) (st ++ [.ins C []])) := by
    unfold fMake at h
    cases e1 : m (.ref st.length :: ws) (st ++ [.ins C []]) with
    | bad =>
      rw [e1] at h
      exact h
    | exc y s1 =>
      rw [e1] at h
      exact h.elim
    | ok w s1 =>
      rw [e1] at h
      cases w with
      | non =>
        intro q' b t' S' rb
        have eb : b = .non := rb
        refine ⟨eb, h q' (.ref (s.heap.objs.size + 1)) ((t1.trans t2).trans t') S' ⟨?_, ?_⟩⟩
        · have z := t'.le
          have z' : q.n + 1 ≤ q'.n := z
          rw [← S.len]
          omega
        · have z := t'.same st.length (show st.length < q.n + 1 by rw [S.len]; exact Nat.lt_succ_self _)
          have z' : q'.ρ st.length = (if st.length = q.n then (s.heap.objs.size + 1) else q.ρ st.length) := z
          rw [if_pos S.len.symm] at z'
          rw [z']
      | _ => exact h.elim
  have hl : (Value.ref (s.heap.objs.size + 1) :: us).length = ps.length := by
    have e1 := r2.length
    have e2 := rw2.length
    by_cases z : (W.ref st.length :: ws).length = ps.length
    · rw [← e1, ← e2]
      exact z
    · rw [F.len _ _ z] at h2
      exact h2.elim
  have b := hb _ (Value.ref (s.heap.objs.size + 1) :: us) I2.kIn (by rw [List.append_nil]; exact hl)
  rw [List.append_nil] at b
  have c := F.run _ X.stack _ _ ⟨Value.ref (s.heap.objs.size + 1) :: us, []⟩ (Value.ref (s.heap.objs.size + 1) :: us) (V.ref (s.heap.objs.size + 1) :: vs) (.ref st.length :: ws) _ (st ++ [.ins C []]) (fun v H2 => v = .non ∧ Q (.ref (s.heap.objs.size + 1)) H2) (fun _ _ _ => False) (hr.make (cl C) us []) hg (I2.env0.make (cl C) us []) b r2 hl rfl S2 rw2 h2
  refine wpAny_call (make_map (f := f) I.kIn M.makes M.init (beq_iff_eq.mp M.fn) (codeAny_mono c fun res s' z => ?_))
  cases res with
  | error u =>
    obtain ⟨_, _, _, _, _, _, _, _, _, _, _, _, z⟩ := z
    exact z.elim
  | ok fl =>
    cases fl with
    | ret u =>
      obtain ⟨v, H', I3, rv, ev, q3⟩ := I2.after z
      subst ev
      exact ⟨rv, ⟨V.ref (s.heap.objs.size + 1), H', I3, rfl, q3⟩⟩
    | next => exact z.elim
    | brk => exact z.elim
    | cont => exact z.elim
theorem ge_make (M : Mk X.K (cl C) f) (F : FnG X.prog X.w X.K X.mg X.base k f fd ps m) (hr : Room (k + 1) X.A) (hg : X.A.guards = some []) (gl : Gl X x) (hm : X.mg x = some (.ref (cl C))) (hb : Binds X.K fd ps [])
    (ha : GA X Wx (e :: es) ml) (hdb : (x == ("__debug__" : Str)) = false := by decide) (he : starEach (e :: es) X.env = (false, eval e X.env) :: starEach es X.env := by rfl) (hpl : (backTo pos (starEach es X.env)).any (·.1) = false := by rfl) :
    GE X Wx (.Call (.Name x p) (e :: es) [] pos) (mCall (fMake C m) ml) := by
  refine ⟨fun pins s σ H Q I ⟨q0, st, env, hp, S, E, h⟩ => ?_⟩
  refine wpAny_Call_Name_kw (ld_glob I gl hm ?_ hdb)
  have t := tG_bind (R := RWs X.K) (Q := fun vs H' => ∃ (q : Wh) (ws : List W) (s1 : Store), q.H = H' ∧ SR X.K q s1 ∧ RWs X.K q ws vs ∧ Fin X.K X.mg (RW X.K) Wx q σ Q (fMake C m ws s1)) hp S E h
    fun q s1 ws vs t S1 E1 r h1 => ⟨q, ws, s1, rfl, S1, r, h1⟩
  refine PySem.W.callWith_K (h₀ := X.base) I.ok.mod.kin M.kp
    (thn (ha.run pos pins s σ H _ I t) fun us s1 ⟨vs, H1, I1, r, z⟩ => ⟨I1.kIn, ?_⟩) he hpl
  obtain ⟨q, ws, s2, eH, S1, rw1, h1⟩ := z
  exact run_makeG M F hr hg hb I1 r eH S1 rw1 h1
end
end Mi

namespace Mi
open PySem PySem.Spec PyProof.Rows L2
variable [ClsMap]

/-! ### enumerate(t), t a tuple -/
abbrev enumObj (it : Addr) : Obj := { cls := .type "enumerate", data := .fields #[.none, .bool false, .ref it, rawInt 0, .none, .none] }
theorem new_enum {v : Value} {o : Obj} {G : Heap → Prop} (B : Begins v o G) : Meets (Builtin.«enumerate.__new__» ⟨[.type "enumerate", v], []⟩) fun _ R s =>
    G s.heap ∧ R (.ok (.ret (.ref (s.heap.push o).objs.size))) { s with heap := (s.heap.push o).push (enumObj s.heap.objs.size) } := .of_wp fun pr w1 A R s both => by
  obtain ⟨hp, gs, dr, tk, os⟩ := s
  obtain ⟨g1, fin⟩ := both
  have sub := sub_enumerate
  have it : ∀ {A2 : Around} {E2 : Value → Shared → Prop} {Q2 : Value → Shared → Prop}, Q2 (.ref hp.objs.size) ⟨hp.push o, gs, dr, tk, os⟩ → wpAny (model pr w1) A2 (pyIter v) Q2 E2 ⟨hp, gs, dr, tk, os⟩ := fun q => B.iter pr w1 _ _ ⟨hp, gs, dr, tk, os⟩ _ g1 q
  wp_walk using it
  refine wpAny_stack_any fun _ => wpAny_pure ?_
  split
  · rename_i cl _ _ _ _ _
    cases (cl == Value.type "enumerate") <;> (wp_walk using it; exact ⟨_, rfl, fin⟩)
  · wp_walk using it
    exact ⟨_, rfl, fin⟩
theorem call_enum {pr : Program} {w1 : World} {A : Around} {E : Value → Shared → Prop} {s : Shared} {v : Value} {o : Obj} {G : Heap → Prop} {Q : Value → Shared → Prop} (B : Begins v o G) (g : G s.heap)
    (fin : ∀ hp, IsEnum hp (s.heap.objs.size + 1) s.heap.objs.size 0 .none → hp.get? s.heap.objs.size = some o → (∀ b u, s.heap.get? b = some u → hp.get? b = some u) → Q (.ref (s.heap.objs.size + 1)) { s with heap := hp }) :
    wpAny (model pr w1) A (call (.type "enumerate") [v]) Q E s := by
  refine callType_new F.called_enumerate (by decide) (F.typeCall_enumerate_1 _) (F.newCall_enumerate_1 _) (fun ob => F.args_object_init_2 ob _) F.entry_enumerate_new (new_enum B) ⟨g, ?_⟩
  have sz : (s.heap.push o).objs.size = s.heap.objs.size + 1 := Heap.size_push ..
  show _ ∧ _
  rw [sz]
  have en : IsEnum ((s.heap.push o).push (enumObj s.heap.objs.size)) (s.heap.objs.size + 1) s.heap.objs.size 0 .none := by
    have z := Heap.get?_push_size (s.heap.push o) (o := enumObj s.heap.objs.size) rfl
    rw [sz] at z
    exact z
  exact ⟨⟨_, en, rfl⟩, fin _ en (Heap.get?_push_of_some _ (Heap.get?_push_size _ B.free)) fun b u x => Heap.get?_push_of_some _ (Heap.get?_push_of_some _ x)⟩
/-- the tuple at a as it stands at each turn, each item in a new pair -/
def IteT (K : PySem.W.Frag) (a : Addr) : It :=
  ⟨fun i H => ∃ (xs : List V) (x : V), SqT K H a xs ∧ xs[i]? = some x, fun i H v H2 => ∃ T x, v = .ref T ∧ H T = none ∧ H2 = upd H T (.tup [.int (i : Nat), x]) ∧ ∀ xs, SqT K H a xs → xs[i]? = some x,
    fun i H => ∃ xs : List V, SqT K H a xs ∧ xs.length ≤ i⟩
theorem turn_enumT {P : Program} {w : World} {K : PySem.W.Frag} {elts : List Expr} {kk : Nat} {tpos : Pos} (a e it : Addr) (hne : a ≠ it) :
    L2.Turn P w K (.Tuple elts kk tpos) (IteT K a) [e, it] e (fun i h => (∃ old, IsEnum h e it ((i : Nat) : Int) old) ∧ h.IsTupleIter it a i ∧ e ≠ it ∧ e ≠ a) where
  mem := List.mem_cons_self
  obj := fun i h st b hb => by
    obtain ⟨⟨old, he⟩, ⟨o, ho, hc, hd⟩, _⟩ := st
    have eb : b = e ∨ b = it := by simpa using hb
    rcases eb with rfl | rfl
    · exact ⟨_, he, fun v q => nomatch q⟩
    · exact ⟨o, ho, fun v q => by rw [hd] at q; cases q⟩
  keep := fun i h h2 st k => ⟨let ⟨old, he⟩ := st.1; ⟨old, k e List.mem_cons_self _ he⟩, st.2.1.at fun o q => k it (by simp) o q, st.2.2⟩
  item := by
    intro X hP hw hK hc i pins s σ H E I hf st hg
    subst hP hw hK
    obtain ⟨⟨old, he⟩, hit, nei, nea⟩ := st
    obtain ⟨xs, x, hq, hx⟩ := hg
    obtain ⟨its, rv, p, hz⟩ := I.tuple hq
    obtain ⟨u, hu, ru⟩ := rv.get hx
    have elt : e < s.heap.objs.size := Heap.lt_size he
    have ilt : it < s.heap.objs.size := by
      obtain ⟨_, q, _⟩ := hit
      exact Heap.lt_size q
    have hi : i < its.toArray.size := by
      have z := (List.getElem?_eq_some_iff.mp hu).1
      simpa using z
    refine wpAny_pyNext_enum_itemD (Draws.tuple (A := X.A.in1) (I.ok.hd hc) it a hne its.toArray) he ⟨hit, p⟩ hi nei (by simp [nei, nea]) fun y hp tk hy out stn hT hsz hk => ?_
    have ey : y = u := by
      have z : its[i]? = some y := by simpa using hy
      rw [hu] at z
      exact (Option.some.inj z).symm
    subst ey
    refine ⟨_, rfl, wpAny_letOwnedTupleGo_enum (s := { s with heap := hp, toks := tk + 1 }) out fun h2 he2 sb => ?_⟩
    have hT2 : h2.get? s.heap.objs.size = some { cls := .type "tuple", data := .seq #[.int i tk, y] } := (sb.2 _ (Nat.ne_of_gt elt)).trans hT
    have new : ObjOk X.prog X.w (upd H s.heap.objs.size (.tup [.int (i : Nat), x])) h2 s.heap.objs.size (.tup [.int (i : Nat), x]) :=
      ⟨by show 2 ≤ sizeLine; decide, [.int i tk, y], .cons ⟨_, rfl⟩ (.cons ru .nil), ⟨_, hT2, rfl, _, rfl⟩⟩
    have I1 : Inv X pins σ (upd H s.heap.objs.size (.tup [.int (i : Nat), x])) { s with heap := h2, toks := tk + 1 } :=
      I.turnedNew (ch := [e, it]) (fun b ob hb q => (sb.2 b fun z => hb (by simp [z])).trans (hk b ob (fun z => hb (by simp [z])) (fun z => hb (by simp [z])) q)) hf (Nat.le_refl _) new
    refine ⟨.ref s.heap.objs.size, _, I1, rfl, ⟨_, x, rfl, I.hok.fresh (Nat.le_refl _), rfl, fun ys hy => by rw [I.tuple_inj hy hq]; exact hx⟩, ⟨⟨y, ?_⟩, stn.1.at fun o q => (sb.2 it nei.symm).trans q, nei, nea⟩, fun b hb => ?_⟩
    · rw [show ((i + 1 : Nat) : Int) = (i : Int) + 1 by omega]
      exact he2
    · have lt : b < s.heap.objs.size := by
        have eb : b = e ∨ b = it := by simpa using hb
        rcases eb with rfl | rfl
        · exact elt
        · exact ilt
      rw [upd_ne (Nat.ne_of_lt lt)]
      exact (hf b hb).1
  done := by
    intro X hP hw hK hc i pins s σ H E I hf st hg
    subst hP hw hK
    obtain ⟨⟨old, he⟩, hit, nei, nea⟩ := st
    obtain ⟨xs, hq, hx⟩ := hg
    obtain ⟨its, rv, p, hz⟩ := I.tuple hq
    obtain ⟨f0, f1, f2, f3, f4, f5⟩ := hf it (by simp)
    have ends : Draws X.prog X.w X.A.in1 it [it, a] i (fun _ _ => True) (fun j h => j = i ∧ h.IsTupleIter it a i ∧ h.IsTuple a its.toArray) := {
      live := fun _ _ st => let ⟨o, ho, _⟩ := st.2.1; ⟨o, ho⟩
      frame := fun _ _ _ st hk => ⟨st.1, st.2.1.at fun o e => hk it (by simp) o e, st.2.2.at fun o e => hk a (by simp) o e⟩
      item := fun j s Q E hj st _ => absurd st.1 (Nat.ne_of_lt hj)
      done := fun s Q E st hE => wpAny_nextOf_tuple_end (I.ok.hd hc) st.2.1 st.2.2 (by
        have hl := rv.length
        simp
        omega) hE }
    exact wpAny_pyNext_enum_endD ends he ⟨rfl, hit, p⟩ fun hp eb => ⟨rfl, I.turned (t' := s.toks) (fun b o hb q => eb b o hb q) f0 f1 f3 f4 f5⟩
  self := fun A i s Q E st h => let ⟨⟨_, he⟩, _⟩ := st; wpAny_pyIter_enum he h
def iEnumT (K : PySem.W.Frag) (ta : TA) : TI := fun σ H R => ta σ H fun vs H1 => ∃ a xs, vs = [.ref a] ∧ SqT K H1 a xs ∧ R (IteT K a) H1
theorem pi_enumT {X : Cx} {e : Expr} {ta : TA} {p pos tpos : Pos} {elts : List Expr} {kk : Nat} (hg : Gl X "enumerate") (hm : X.mg "enumerate" = none) (ha : PA X [e] ta) (hs : starEach [e] X.env = [(false, eval e X.env)] := by rfl) :
    PI X (.Tuple elts kk tpos) (.Call (.Name "enumerate" p) [e] [] pos) (iEnumT X.K ta) := ⟨fun pins s σ H R I h => by
  refine Call_ (ld_blt I hg hm boot_enumerate (PyProof.Rows.callWith_type1 (thn (ha.run pos pins s σ H _ I h) fun us s1 ⟨vs, H1, I1, r1, q1⟩ => ?_) hs rfl))
  obtain ⟨a, xs, ex, hq, q⟩ := q1
  subst ex
  cases r1 with
  | cons r rr =>
    cases rr
    cases r
    obtain ⟨its, rv, p2, hz⟩ := I1.tuple hq
    have alt : a < s1.heap.objs.size := by
      obtain ⟨_, z, _⟩ := p2
      exact Heap.lt_size z
    refine call_enum (begins_tuple a its.toArray) p2 fun hp he hit hk => wpAny_pyIter_enum he ?_
    have I2 : Inv X pins σ H1 { s1 with heap := hp } := I1.kept (t' := s1.toks) hk
    refine ⟨s1.heap.objs.size + 1, [s1.heap.objs.size + 1, s1.heap.objs.size], _, _, H1, rfl, I2, turn_enumT a (s1.heap.objs.size + 1) s1.heap.objs.size (Nat.ne_of_lt alt), ⟨⟨.none, he⟩, ⟨_, hit, rfl, rfl⟩, Nat.succ_ne_self _, Nat.ne_of_gt (Nat.lt_succ_of_lt alt)⟩, fun b hb => ?_, q⟩
    have le : s1.heap.objs.size ≤ b := by
      have eb : b = s1.heap.objs.size + 1 ∨ b = s1.heap.objs.size := by simpa using hb
      rcases eb with rfl | rfl
      · exact Nat.le_succ _
      · exact Nat.le_refl _
    exact I1.fpOk le (I1.hok.fresh le)⟩
end Mi

namespace Mi
open PySem PySem.Spec PyProof.Rows L2
variable [ClsMap]

/-! ### targets that are tuples of names -/
def putTup (is : List Nat) : W → En → En := fun w e => match w with
  | .tup xs => putAll is xs e
  | _ => e
def tupN (n : Nat) : W → Bool
  | .tup xs => xs.length == n
  | _ => false
def allN (n : Nat) (o : Option (List W)) : Option (List W) := match o with
  | some xs => if xs.all (tupN n) = true then some xs else none
  | none => none
def sForTu (is : List Nat) (m : Ev W) (body : Sm) : Sm := liftE m fun w env st => match allN is.length (tupOf w) with
  | some xs => forEach body (putTup is) xs env st
  | none => .bad
def sForSu (is : List Nat) (m : Ev W) (body : Sm) : Sm := liftE m fun w env st => match allN is.length (seqOf w) with
  | some xs => forEach body (putTup is) xs env st
  | none => .bad
theorem allN_of {n : Nat} {o : Option (List W)} {xs : List W} (h : allN n o = some xs) : o = some xs ∧ ∀ w ∈ xs, ∃ ys, w = .tup ys ∧ ys.length = n := by
  cases o with
  | none => cases h
  | some zs =>
    dsimp only [allN] at h
    by_cases c : zs.all (tupN n) = true
    · rw [if_pos c] at h
      cases h
      refine ⟨rfl, fun w hw => ?_⟩
      have z := List.all_eq_true.mp c w hw
      cases w with
      | tup ys => exact ⟨ys, rfl, beq_iff_eq.mp z⟩
      | _ => cases z
    · rw [if_neg c] at h
      cases h
theorem put_tup {K : PySem.W.Frag} {is : List Nat} {xs : List W} (h : ∀ w ∈ xs, ∃ ys, w = .tup ys ∧ ys.length = is.length) : PutOk K (gTup K is.length (gNames is)) (putTup is) xs := fun q w v env σ Q hw r E k => by
  obtain ⟨ys, rfl, hl⟩ := h w hw
  obtain ⟨a, vs, e, ta, rs⟩ := r
  exact ⟨a, vs, e, ta.seq, by rw [← rs.length]; exact hl, gNames_of is hl rs E k⟩
theorem gNames_lc {K : PySem.W.Frag} {q : Wh} {own : List Nat} : ∀ (is : List Nat) {xs : List W} {vs : List V} {env : En} {σ : L2.St} {Q : L2.St → Hp → Prop}, (∀ i ∈ is, i ∈ own) → xs.length = is.length → RWs K q xs vs → EnvR K q env σ →
    (∀ σ', EnvR K q (putAll is xs env) σ' → wipe σ' own = wipe σ own → Q σ' q.H) → gNames is vs σ q.H Q
  | [], [], vs, env, σ, Q, _, _, r, E, h => by
    have r' : vs = [] := r
    exact ⟨r', h σ E rfl⟩
  | [], x :: xs, _, _, _, _, _, hl, _, _, _ => by simp at hl
  | i :: is, [], _, _, _, _, _, hl, _, _, _ => by simp at hl
  | i :: is, x :: xs, vs, env, σ, Q, ho, hl, ⟨v, r, e, h1, h2⟩, E, h =>
    ⟨v, r, e, gNames_lc is (fun j hj => ho j (List.mem_cons_of_mem _ hj)) (by simpa using hl) h2 (E.set i h1) fun σ' E' ew => h σ' E' (ew.trans (wipe_set (ho i List.mem_cons_self) σ))⟩
theorem putLc_tup {K : PySem.W.Frag} {is own : List Nat} {xs : List W} (ho : ∀ i ∈ is, i ∈ own) (h : ∀ w ∈ xs, ∃ ys, w = .tup ys ∧ ys.length = is.length) : PutLc K (gTup K is.length (gNames is)) (putTup is) own xs := fun q w v env σ Q hw r E k => by
  obtain ⟨ys, rfl, hl⟩ := h w hw
  obtain ⟨a, vs, e, ta, rs⟩ := r
  exact ⟨a, vs, e, ta.seq, by rw [← rs.length]; exact hl, gNames_lc is ho hl rs E k⟩
def mLcTu (own is : List Nat) (me : Ev W) (tt : Ev Bool) (te : Ev W) : Ev W := fun env st => (me env st).bind fun w s1 => match allN is.length (tupOf w) with
  | some xs => asLst (lcEach (putTup is) tt te (wipeE env own) xs [] s1)
  | none => .bad
def mLcSu (own is : List Nat) (me : Ev W) (tt : Ev Bool) (te : Ev W) : Ev W := fun env st => (me env st).bind fun w s1 => match allN is.length (seqOf w) with
  | some xs => asLst (lcEach (putTup is) tt te (wipeE env own) xs [] s1)
  | none => .bad
/-- over a text -/
def signs (z : Str) : List W := z.cps.toList.map fun c => .str ⟨#[c]⟩
def strOf : W → Option (List W)
  | .str z => some (signs z)
  | _ => none
def mLcX (own : List Nat) (put : W → En → En) (me : Ev W) (tt : Ev Bool) (te : Ev W) : Ev W := fun env st => (me env st).bind fun w s1 => match strOf w with
  | some xs => asLst (lcEach put tt te (wipeE env own) xs [] s1)
  | none => .bad
section
variable {X : Cx} {Wx : WX} {elt it : Expr} {ifs body : List Stmt} {m1 : Sm} {me : Ev W} {fpos : Pos} {ts : List Expr} {tk : Nat} {tp : Pos} {is : List Nat}
theorem gs_forTu (hpo : PassesOwn (model X.prog X.w) X.A X.env X.xe) (hc : X.calm = true) (he : GE X Wx it me) (hg : PG X (.Tuple ts tk tp) (gTup X.K is.length (gNames is))) (hb : GSs X Wx body m1)
    (hfo : ∀ z, foldedSetIterable it X.env z = pure z := by intro _; rfl) : GS X Wx (.For (.Tuple ts tk tp) it body [] fpos) (sForTu is me m1) :=
  PSimp (ps_for hpo hc (pi_tup he) hg hb hfo) fun D σ H ⟨p, st, env, hp', S, E, h⟩ => lift_of hp' S E h fun q s1 w v t S1 E1 r h1 => by
    cases e : allN is.length (tupOf w) with
    | none =>
      rw [e] at h1
      exact h1.elim
    | some xs =>
      rw [e] at h1
      obtain ⟨e2, hw⟩ := allN_of e
      obtain ⟨a, vs, ev, ta, rs⟩ := tupOf_of e2 r
      refine ⟨a, ev, ⟨vs, ta.seq⟩, for_tup (xs := vs) (Turn X.K X.mg Wx D m1 (putTup is) xs q) ⟨q, env, s1, rfl, .refl S1, S1, E1, h1⟩ (fun i σ' H' hi ⟨z, _, _, ez, tz, _, _, _⟩ => ?_) (fun i x σ' H' hx hT => turn_of (put_tup hw) rs hx hT) fun σ' H' hT => turn_end rs hT⟩
      subst ez
      exact (tup_step tz.toMv ta).seq
theorem gs_forSu (hpo : PassesOwn (model X.prog X.w) X.A X.env X.xe) (hc : X.calm = true) (he : GE X Wx it me) (hg : PG X (.Tuple ts tk tp) (gTup X.K is.length (gNames is))) (hb : GSs X Wx body m1)
    (hfo : ∀ z, foldedSetIterable it X.env z = pure z := by intro _; rfl) : GS X Wx (.For (.Tuple ts tk tp) it body [] fpos) (sForSu is me m1) :=
  PSimp (ps_for hpo hc (pi_list he) hg hb hfo) fun D σ H ⟨p, st, env, hp', S, E, h⟩ => lift_of hp' S E h fun q s1 w v t S1 E1 r h1 => by
    cases e : allN is.length (seqOf w) with
    | none =>
      rw [e] at h1
      exact h1.elim
    | some xs =>
      rw [e] at h1
      obtain ⟨e2, hw⟩ := allN_of e
      obtain ⟨a, vs, ev, ta, rs⟩ := seqOf_of e2 r
      refine ⟨a, ev, ⟨vs, ta q (Step.refl S1).toMv⟩, for_list (xs := vs) (Turn X.K X.mg Wx D m1 (putTup is) xs q) ⟨q, env, s1, rfl, .refl S1, S1, E1, h1⟩ (fun i σ' H' hi ⟨z, _, _, ez, tz, _, _, _⟩ => ?_) (fun i x σ' H' hx hT => turn_of (put_tup hw) rs hx hT) fun σ' H' hT => turn_end rs hT⟩
      subst ez
      exact ta z tz.toMv
end
section
variable {X : Cx} {Wx : WX} {elt tg it : Expr} {ifs : List Expr} {scope : Scope} {own : List (Str × Nat)} {pos p : Pos} {g : TG} {put : W → En → En} {tt : Ev Bool} {te me : Ev W} {ml : Ev (List W)} {a b : Expr} {is : List Nat}
theorem lcSu_of {σ : L2.St} {H : Hp} {Q : VK} (ho : ∀ i ∈ is, i ∈ own.map (·.2)) (h : tG X.K X.mg (RW X.K) Wx (mLcSu (own.map (·.2)) is me tt te) σ H Q) :
    tLc (iList X.K (tG X.K X.mg (RW X.K) Wx me)) (gTup X.K is.length (gNames is)) (tG X.K X.mg eqR W0 tt) (tG X.K X.mg (RW X.K) W0 te) (own.map (·.2)) σ H Q := by
  obtain ⟨p, st, env, hp, S, E, h⟩ := h
  refine tG_bind hp S E h fun q s1 w v t S1 E1 r h1 => ?_
  cases e : allN is.length (seqOf w) with
  | none =>
    rw [e] at h1
    exact h1.elim
  | some xs =>
    rw [e] at h1
    obtain ⟨e2, hw⟩ := allN_of e
    obtain ⟨a, vs, ev, ta, rs⟩ := seqOf_of e2 r
    refine ⟨a, ev, ⟨vs, ta q (Step.refl S1).toMv⟩, fun D hD => lc_list (xs := vs) (LcT X.K X.mg Wx (putTup is) tt te (wipeE env (own.map (·.2))) q D σ Q xs) (lc_start S1 hD h1) (fun i H' hi hT => ?_) (fun i x H' hx hT => lc_turn S1 hD E1 (putLc_tup ho hw) rs hx hT) fun H' hT => lc_end S1 hD (by rw [rs.length]; exact Nat.le_refl _) hT⟩
    obtain ⟨z, _, _, _, rfl, ez, m, hk, _⟩ := hT
    exact ta z m
theorem lcTu_of {σ : L2.St} {H : Hp} {Q : VK} (ho : ∀ i ∈ is, i ∈ own.map (·.2)) (h : tG X.K X.mg (RW X.K) Wx (mLcTu (own.map (·.2)) is me tt te) σ H Q) :
    tLc (iTup X.K (tG X.K X.mg (RW X.K) Wx me)) (gTup X.K is.length (gNames is)) (tG X.K X.mg eqR W0 tt) (tG X.K X.mg (RW X.K) W0 te) (own.map (·.2)) σ H Q := by
  obtain ⟨p, st, env, hp, S, E, h⟩ := h
  refine tG_bind hp S E h fun q s1 w v t S1 E1 r h1 => ?_
  cases e : allN is.length (tupOf w) with
  | none =>
    rw [e] at h1
    exact h1.elim
  | some xs =>
    rw [e] at h1
    obtain ⟨e2, hw⟩ := allN_of e
    obtain ⟨a, vs, ev, ta, rs⟩ := tupOf_of e2 r
    refine ⟨a, ev, ⟨vs, ta.seq⟩, fun D hD => lc_tup (xs := vs) (LcT X.K X.mg Wx (putTup is) tt te (wipeE env (own.map (·.2))) q D σ Q xs) (lc_start S1 hD h1) (fun i H' hi hT => ?_) (fun i x H' hx hT => lc_turn S1 hD E1 (putLc_tup ho hw) rs hx hT) fun H' hT => lc_end S1 hD (by rw [rs.length]; exact Nat.le_refl _) hT⟩
    obtain ⟨z, _, _, _, rfl, ez, m, hk, _⟩ := hT
    exact (tup_step m ta).seq
theorem ge_lcSu (B : Blk X scope own tg elt ifs (gTup X.K is.length (gNames is)) tt te) (ho : ∀ i ∈ is, i ∈ own.map (·.2)) (hc : X.calm = true) (hN : X.N.Nodup) (he : GE X Wx it me)
    (hf : ∀ x, foldedSetIterable it X.env x = pure x := by intro _; rfl) : GE X Wx (.ListComp elt [⟨tg, it, ifs, 0⟩] scope pos) (mLcSu (own.map (·.2)) is me tt te) :=
  PEimp (pe_lc hc hN (pi_list he) B.ok B.hg B.ht B.he hf) fun σ H Q h => lcSu_of ho h
theorem ge_lcTu (B : Blk X scope own tg elt ifs (gTup X.K is.length (gNames is)) tt te) (ho : ∀ i ∈ is, i ∈ own.map (·.2)) (hc : X.calm = true) (hN : X.N.Nodup) (he : GE X Wx it me)
    (hf : ∀ x, foldedSetIterable it X.env x = pure x := by intro _; rfl) : GE X Wx (.ListComp elt [⟨tg, it, ifs, 0⟩] scope pos) (mLcTu (own.map (·.2)) is me tt te) :=
  PEimp (pe_lc hc hN (pi_tup he) B.ok B.hg B.ht B.he hf) fun σ H Q h => lcTu_of ho h
theorem signs_rel {K : PySem.W.Frag} {p : Wh} (z : Str) : RWs K p (signs z) (z.cps.toList.map fun c => V.str ⟨#[c]⟩) := by
  unfold signs
  generalize z.cps.toList = l
  induction l with
  | nil => exact (rfl : ([] : List V) = [])
  | cons c l ih => exact ⟨_, _, rfl, rfl, ih⟩
theorem lcX_of {σ : L2.St} {H : Hp} {Q : VK} (hg : ∀ xs, PutLc X.K g put (own.map (·.2)) xs) (h : tG X.K X.mg (RW X.K) Wx (mLcX (own.map (·.2)) put me tt te) σ H Q) :
    tLc (iStr (tG X.K X.mg (RW X.K) Wx me)) g (tG X.K X.mg eqR W0 tt) (tG X.K X.mg (RW X.K) W0 te) (own.map (·.2)) σ H Q := by
  obtain ⟨p, st, env, hp, S, E, h⟩ := h
  refine tG_bind hp S E h fun q s1 w v t S1 E1 r h1 => ?_
  cases w with
  | str z =>
    have ev : v = .str z := r
    refine ⟨z, ev, fun D hD => ?_⟩
    have rs := signs_rel (K := X.K) (p := q) z
    have hl : (signs z).length = z.cps.size := by
      unfold signs
      rw [List.length_map]
      rfl
    let Pv := LcT X.K X.mg Wx put tt te (wipeE env (own.map (·.2))) q D σ Q (signs z)
    refine ⟨fun i m H => m = z.cps.size - i ∧ i ≤ z.cps.size ∧ Pv i H, ⟨z.cps.size, by simp, Nat.zero_le _, lc_start S1 hD h1⟩, fun i m H ⟨em, hi, hT⟩ => ?_⟩
    by_cases c : i < z.cps.size
    · refine .inr ⟨c, fun H' => Pv (i + 1) H', fun H' hN => ⟨z.cps.size - (i + 1), by omega, rfl, c, hN⟩, fun x H' ⟨eH, k, hk, ex⟩ => ?_⟩
      subst eH
      have hx : (z.cps.toList.map fun c => V.str ⟨#[c]⟩)[i]? = some x := by
        rw [List.getElem?_map, ← Array.getElem?_toList] at *
        rw [hk, ex]
        rfl
      exact lc_turn S1 hD E1 (hg _) rs hx hT
    · exact .inl ⟨Nat.not_lt.mp c, lc_end S1 hD (by rw [hl]; exact Nat.not_lt.mp c) hT⟩
  | _ => exact h1.elim
theorem ge_lcX (B : Blk X scope own tg elt ifs g tt te) (hp : ∀ xs, PutLc X.K g put (own.map (·.2)) xs) (hc : X.calm = true) (hN : X.N.Nodup) (he : GE X Wx it me)
    (hf : ∀ x, foldedSetIterable it X.env x = pure x := by intro _; rfl) : GE X Wx (.ListComp elt [⟨tg, it, ifs, 0⟩] scope pos) (mLcX (own.map (·.2)) put me tt te) :=
  PEimp (pe_lc hc hN (pi_str he) B.ok B.hg B.ht B.he hf) fun σ H Q h => lcX_of hp h
end
end Mi

namespace Mi
open PySem PySem.Spec PyProof.Rows L2
variable [ClsMap]

/-! ### for i, x in enumerate(t) -/
def enumW : Nat → List W → List W
  | _, [] => []
  | k, x :: xs => .tup [.int (k : Nat), x] :: enumW (k + 1) xs
theorem enumW_get : ∀ (xs : List W) (k i : Nat), (enumW k xs)[i]? = (xs[i]?).map fun x => W.tup [.int ((k + i : Nat) : Int), x]
  | [], k, i => by
    unfold enumW
    simp
  | x :: xs, k, 0 => rfl
  | x :: xs, k, i + 1 => by
    unfold enumW
    rw [List.getElem?_cons_succ, List.getElem?_cons_succ, enumW_get xs (k + 1) i, show k + 1 + i = k + (i + 1) by omega]
theorem enumW_len : ∀ (xs : List W) (k : Nat), (enumW k xs).length = xs.length
  | [], _ => rfl
  | x :: xs, k => by
    unfold enumW
    rw [List.length_cons, List.length_cons, enumW_len xs (k + 1)]
def oneTup : List W → Option (List W)
  | [w] => tupOf w
  | _ => none
def sForE (i j : Nat) (m : Ev (List W)) (body : Sm) : Sm := liftE m fun ws env st => match oneTup ws with
  | some xs => forEach body (putTup [i, j]) (enumW 0 xs) env st
  | none => .bad
section
variable {X : Cx} {Wx : WX} {e : Expr} {body : List Stmt} {m1 : Sm} {ml : Ev (List W)} {fpos p pos tp : Pos} {elts : List Expr} {kk i j : Nat}
theorem gs_forE (hpo : PassesOwn (model X.prog X.w) X.A X.env X.xe) (hc : X.calm = true) (hge : Gl X "enumerate") (hme : X.mg "enumerate" = none) (ha : GA X Wx [e] ml) (hg : PG X (.Tuple elts kk tp) (gTup X.K 2 (gNames [i, j]))) (hb : GSs X Wx body m1)
    (hs : starEach [e] X.env = [(false, eval e X.env)] := by rfl)
    (hfo : ∀ z, foldedSetIterable (.Call (.Name "enumerate" p) [e] [] pos) X.env z = pure z := by intro _; rfl) : GS X Wx (.For (.Tuple elts kk tp) (.Call (.Name "enumerate" p) [e] [] pos) body [] fpos) (sForE i j ml m1) :=
  PSimp (ps_for hpo hc (pi_enumT hge hme ha hs) hg hb hfo) fun D σ H ⟨p, st, env, hp', S, E, h⟩ => lift_of hp' S E h fun q s1 ws us t S1 E1 r h1 => by
    cases eo : oneTup ws with
    | none =>
      rw [eo] at h1
      exact h1.elim
    | some xs =>
      rw [eo] at h1
      match ws, eo, r with
      | [w], eo, ⟨v, _, e1, r1, e2⟩ =>
        obtain ⟨a, vs, ev, ta, rs⟩ := tupOf_of (show tupOf w = some xs from eo) r1
        have e2' : _ = [] := e2
        refine ⟨a, vs, by rw [e1, e2', ev], ta.seq, ?_⟩
        have hl : vs.length = xs.length := rs.length.symm
        refine ⟨fun k m σ' H' => m = vs.length - k ∧ k ≤ vs.length ∧ Turn X.K X.mg Wx D m1 (putTup [i, j]) (enumW 0 xs) q k σ' H', ⟨vs.length, by simp, Nat.zero_le _, ⟨q, env, s1, rfl, .refl S1, S1, E1, h1⟩⟩, fun k m σ' H' ⟨em, hk, hT⟩ => ?_⟩
        have sq : SqT X.K H' a vs := by
          obtain ⟨z, _, _, ez, tz, _, _, _⟩ := hT
          subst ez
          exact (tup_step tz.toMv ta).seq
        by_cases c : k < vs.length
        · have hget : vs[k]? = some vs[k] := List.getElem?_eq_getElem c
          refine .inr ⟨⟨vs, vs[k], sq, hget⟩, fun σ2 H2 => Turn X.K X.mg Wx D m1 (putTup [i, j]) (enumW 0 xs) q (k + 1) σ2 H2, fun σ2 H2 hN => ⟨vs.length - (k + 1), by omega, rfl, c, hN⟩, fun x H2 ⟨T, y, ex, hT0, eH, hy⟩ => ?_⟩
          subst ex eH
          have ey : vs[k]? = some y := hy vs sq
          obtain ⟨z, e3, s3, rfl, tz, S3, E3, h3⟩ := hT
          obtain ⟨w2, hw2, rw2⟩ := rs.getV ey
          have hi : (enumW 0 xs)[k]? = some (.tup [.int ((0 + k : Nat) : Int), w2]) := by
            rw [enumW_get, hw2]
            rfl
          rw [Nat.zero_add] at hi
          obtain ⟨hl2, hi2⟩ := List.getElem?_eq_some_iff.mp hi
          rw [List.drop_eq_getElem_cons hl2, hi2] at h3
          have tn := step_new (o := HO.tup [.int (k : Nat), y]) S3 hT0
          have Sn := sr_new (o := HO.tup [.int (k : Nat), y]) S3 hT0
          have rn : RW X.K { z with H := upd z.H T (.tup [.int (k : Nat), y]) } (.tup [.int (k : Nat), w2]) (.ref T) :=
            new_tup S3 hT0 ⟨_, _, rfl, rfl, y, [], rfl, RW.step tz w2 y rw2, rfl⟩
          have h3' := FinS.later tn h3
          exact put_tup (is := [i, j]) (xs := [.tup [.int (k : Nat), w2]]) (fun w hw => ⟨_, List.mem_singleton.mp hw, rfl⟩) _ _ _ e3 σ' _ List.mem_cons_self rn (E3.step tn) fun σ4 E4 =>
            for_of Sn E4 h3' _ fun q5 σ5 e5 s5 t5 S5 E5 h5 => ⟨q5, e5, s5, rfl, (tz.trans tn).trans t5, S5, E5, h5⟩
        · have ek : k = vs.length := Nat.le_antisymm hk (Nat.not_lt.mp c)
          subst ek
          refine .inl ⟨⟨vs, sq, Nat.le_refl _⟩, ?_⟩
          obtain ⟨z, e3, s3, rfl, tz, S3, E3, h3⟩ := hT
          rw [List.drop_of_length_le (by rw [enumW_len, hl]; exact Nat.le_refl _)] at h3
          exact h3 z σ' (.refl S3) S3 E3
end
end Mi

set_option maxHeartbeats 4000000
namespace Mi
open PySem PySem.Spec PyProof.Rows L2

/-! ### tuple * 1, tuple * 0 -/
section
variable (l : Addr) (items : Array Value) (n : Nat) (dd : Option Addr) (sl : Array (Option Value)) (x : Int) (u : Tok)
def tupObj : Obj := { cls := .type "tuple", dict := dd, data := .seq items n, slots := sl }
theorem tuple_mul1 : Meets (Builtin.«tuple.__mul__» ⟨[.ref l, .int 1 u], []⟩) (fun _ R s => s.heap.get? l = some (tupObj items n dd sl) ∧ R (.ok (.ret (.ref l))) s) :=
  .of_wp fun prog w A R s h => by
    obtain ⟨hp, g, d, tk, os⟩ := s
    obtain ⟨hl, h⟩ := h
    unfold tupObj at hl
    have f1 := AutoSeq1.idx_int
    have c0 : (decide ((1 : Int) < -(2 ^ 63)) || decide ((1 : Int) ≥ 2 ^ 63)) = false := by decide
    have c1 : (items.isEmpty || (1 : Int) == 1) = true := by simp
    wp_walk using wpAny_loadPart' hl
    repeat (first
      | (refine wpAny_ite_false (decide_eq_false (by rw [c0]; exact Bool.false_ne_true)) ?_; wp_walk using wpAny_loadPart' hl)
      | (refine wpAny_ite_true (decide_eq_true (by rw [c1])) ?_; wp_walk using wpAny_loadPart' hl))
    exact ⟨_, rfl, h⟩
theorem tuple_mul0 (ne : items.isEmpty = false) : Meets (Builtin.«tuple.__mul__» ⟨[.ref l, .int 0 u], []⟩) (fun _ R s => s.heap.get? l = some (tupObj items n dd sl) ∧
    R (.ok (.ret (.ref s.heap.objs.size))) { s with heap := s.heap.push { cls := .type "tuple", data := .seq #[] } }) :=
  .of_wp fun prog w A R s h => by
    obtain ⟨hp, g, d, tk, os⟩ := s
    obtain ⟨hl, h⟩ := h
    unfold tupObj at hl
    have f1 := AutoSeq1.idx_int
    have c0 : (decide ((0 : Int) < -(2 ^ 63)) || decide ((0 : Int) ≥ 2 ^ 63)) = false := by decide
    have c1 : (items.isEmpty || (0 : Int) == 1) = false := by
      rw [ne]
      decide
    have c2 : (decide ((0 : Int) ≤ 0) || items.isEmpty) = true := by simp
    wp_walk using wpAny_loadPart' hl
    repeat (first
      | (refine wpAny_ite_false (decide_eq_false (by rw [c0]; exact Bool.false_ne_true)) ?_; wp_walk using wpAny_loadPart' hl)
      | (refine wpAny_ite_false (decide_eq_false (by rw [c1]; exact Bool.false_ne_true)) ?_; wp_walk using wpAny_loadPart' hl)
      | (refine wpAny_ite_true (decide_eq_true (by rw [c2])) ?_; wp_walk using wpAny_loadPart' hl))
    exact ⟨_, rfl, h⟩
end
def rRepX (K : PySem.W.Frag) : R2 := fun x y H Q => ∃ l k xs, x = .ref l ∧ y = .int k ∧ SqT K H l xs ∧ xs ≠ [] ∧ ((k = 1 ∧ Q (.ref l) H) ∨ (k = 0 ∧ ∀ p, H p = none → Q (.ref p) (upd H p (.tup []))))
theorem op_repX {X : Cx} : OpR X (binaryOp .Mult) (rRepX X.K) := by
  rintro pins s σ H x y v u Q I rx ry ⟨l, k, xs, rfl, rfl, hT, hne, h⟩
  cases rx
  obtain ⟨t, rfl⟩ := ry
  obtain ⟨its, r, ⟨⟨cls, dd, data, sl⟩, ho, hc, n, hd⟩, hs⟩ := I.tuple hT
  simp only at hc hd
  subst hc hd
  have hi : its.toArray.isEmpty = false := by
    cases its with
    | nil =>
      cases r
      exact absurd rfl hne
    | cons a b => rfl
  rcases h with ⟨rfl, q⟩ | ⟨rfl, q⟩
  · refine wpAny_binaryOp_repeat_ref (T := "tuple") (U := "int") (by decide) ⟨_, ho, rfl⟩ (fun s' => typeIs_int s' 1 t) noFill_tuple_mul F.fills_int_mul F.slot_int_rmul repeat_tuple F.slot_int_index.lookup
      (call_meets F.slot_int_rmul (typeIs_int s 1 t) F.entry_int_rmul (F.args_int_rmul_2 _ _) (int_rmul_tuple 1 t l its.toArray n dd sl)
        ⟨ho, rfl, ⟨_, ho, rfl⟩, call_meets F.slot_tuple_mul ⟨_, ho, rfl⟩ F.entry_tuple_mul (F.args_tuple_mul_2 _ _) (tuple_mul1 l its.toArray n dd sl t) ⟨ho, ⟨V.ref l, H, I, rfl, q⟩⟩⟩)
  · refine wpAny_binaryOp_repeat_ref (T := "tuple") (U := "int") (by decide) ⟨_, ho, rfl⟩ (fun s' => typeIs_int s' 0 t) noFill_tuple_mul F.fills_int_mul F.slot_int_rmul repeat_tuple F.slot_int_index.lookup
      (call_meets F.slot_int_rmul (typeIs_int s 0 t) F.entry_int_rmul (F.args_int_rmul_2 _ _) (int_rmul_tuple 0 t l its.toArray n dd sl)
        ⟨ho, rfl, ⟨_, ho, rfl⟩, call_meets F.slot_tuple_mul ⟨_, ho, rfl⟩ F.entry_tuple_mul (F.args_tuple_mul_2 _ _) (tuple_mul0 l its.toArray n dd sl t hi) ⟨ho, ?_⟩⟩)
    refine ⟨.ref s.heap.objs.size, _, I.laid (t' := s.toks) (o := .tup []) (fun b ob q => Heap.get?_push_of_some _ q) (Nat.le_refl _) ?_, rfl, q _ (I.hok.fresh (Nat.le_refl _))⟩
    exact ⟨Nat.zero_le _, [], .nil, IsTup.new _ _⟩
end Mi

namespace Mi
open PySem PySem.Spec PyProof.Rows L2
variable [ClsMap]

/-! ### xs + ys, a new list of the store -/
def fAddR : W → W → Store → Res W := fun x y st => match trkIn st x, trkIn st y with
  | some xs, some ys => if xs.length + ys.length ≤ 100000 then .ok (.ref st.length) (st ++ [.lst (xs ++ ys)]) else .bad
  | _, _ => .bad
section
variable {X : Cx} {Wx : WX}
theorem r2_addR : R2ok X Wx rCat fAddR := by
  intro p st x y v u σ Q S rx ry h
  dsimp only [fAddR] at h
  cases ex : trkIn st x with
  | none =>
    rw [ex] at h
    exact h.elim
  | some xs =>
    cases ey : trkIn st y with
    | none =>
      rw [ex, ey] at h
      exact h.elim
    | some ys =>
      rw [ex, ey] at h
      dsimp only at h
      by_cases c : xs.length + ys.length ≤ 100000
      · rw [if_pos c] at h
        obtain ⟨a, vs, rfl, ta, rs⟩ := trkIn_of S ex rx
        obtain ⟨b, us, rfl, tb, rs2⟩ := trkIn_of S ey ry
        refine ⟨a, b, vs, us, rfl, rfl, ta, tb, by rw [← rs.length, ← rs2.length]; exact line_le c, fun n hn => ?_⟩
        refine h (p.more n (.lst (vs ++ us))) (.ref n) (step_more S hn) (sr_more S hn (rs.append rs2)) ⟨?_, ?_⟩
        · show st.length < p.n + 1
          rw [S.len]
          exact Nat.lt_succ_self _
        · show V.ref n = V.ref (if st.length = p.n then n else p.ρ st.length)
          rw [if_pos S.len.symm]
      · rw [if_neg c] at h
        exact h.elim
/-! ### t * n -/
def fMulA : W → W → Store → Res W := fun x y st => match x, y with
  | .tup xs, .int n => if xs ≠ [] ∧ 2 ≤ n ∧ n < 1000 ∧ xs.length ≤ 1000 then .ok (.tup (List.replicate n.toNat xs).flatten) st else if xs.isEmpty = false ∧ n = 1 then .ok (.tup xs) st else if xs.isEmpty = false ∧ n = 0 then .ok (.tup []) st else .bad
  | x, y => fMul x y st
theorem reps_rel {K : PySem.W.Frag} {p : Wh} {xs : List W} {vs : List V} (r : RWs K p xs vs) : ∀ n : Nat, RWs K p (List.replicate n xs).flatten (List.replicate n vs).flatten
  | 0 => (rfl : ([] : List V) = [])
  | n + 1 => by
    rw [List.replicate_succ, List.replicate_succ, List.flatten_cons, List.flatten_cons]
    exact r.append (reps_rel r n)
theorem r2_mulA : R2ok X Wx (fun x y H Q => rI CMulW (fun i j => .int (i * j)) x y H Q ∨ rRepT X.K x y H Q ∨ rRepX X.K x y H Q) fMulA := by
  intro p st x y v u σ Q S rx ry h
  cases x with
  | tup xs =>
    cases y with
    | int n =>
      obtain ⟨a, vs, rfl, ta, rs⟩ := rx
      have eu : u = .int n := ry
      subst eu
      dsimp only [fMulA] at h
      by_cases c : xs ≠ [] ∧ 2 ≤ n ∧ n < 1000 ∧ xs.length ≤ 1000
      · rw [if_pos c] at h
        obtain ⟨c1, c2, c3, c4⟩ := c
        refine .inr (.inl ⟨a, n, vs, rfl, rfl, ta.seq, fun z => c1 (List.length_eq_zero_iff.mp (by rw [rs.length, z]; rfl)), c2, Int.le_of_lt c3, by rw [← rs.length]; exact c4, fun q hq => ?_⟩)
        exact h { p with H := upd p.H q (.tup (List.replicate n.toNat vs).flatten) } (.ref q) (step_new S hq) (sr_new S hq) (new_tup S hq (reps_rel rs n.toNat))
      · rw [if_neg c] at h
        have nn : xs.isEmpty = false → vs ≠ [] := fun z e => by
          have l := rs.length
          rw [e] at l
          rw [List.length_eq_zero_iff.mp l] at z
          cases z
        by_cases c1 : xs.isEmpty = false ∧ n = 1
        · rw [if_pos c1] at h
          exact .inr (.inr ⟨a, n, vs, rfl, rfl, ta.seq, nn c1.1, .inl ⟨c1.2, h p (.ref a) (.refl S) S ⟨a, vs, rfl, ta, rs⟩⟩⟩)
        · rw [if_neg c1] at h
          by_cases c2 : xs.isEmpty = false ∧ n = 0
          · rw [if_pos c2] at h
            exact .inr (.inr ⟨a, n, vs, rfl, rfl, ta.seq, nn c2.1, .inr ⟨c2.2, fun q hq => h { p with H := upd p.H q (.tup []) } (.ref q) (step_new S hq) (sr_new S hq) (new_tup S hq (rfl : ([] : List V) = []))⟩⟩)
          · rw [if_neg c2] at h
            exact h.elim
    | _ => exact h.elim
  | int i =>
    cases y with
    | int j => exact .inl (r2_mul p st (.int i) (.int j) v u σ Q S rx ry h)
    | _ => exact h.elim
  | _ => cases y <;> exact h.elim
end
end Mi

namespace Mi
open PySem PySem.Spec PyProof.Rows L2
variable [ClsMap]

/-! ### defs with defaults; defs that call themselves (by steps) -/
structure DefAtF (K : PySem.W.Frag) (mg : Str → Option Value) (x : Str) (st : Stmt) (dvs : List V) : Prop where
  ex : ∃ (f : Addr) (fd : FuncData), FunD K x x (defArgs st) (defBody st) (defScope st) dvs [] f fd ∧ mg x = some (.ref f)
structure DefOkF (P : Program) (w : World) (K : PySem.W.Frag) (mg : Str → Option Value) (base : Heap) (x : Str) (st : Stmt) (dvs : List V) (k : Nat) (ps : List Str) (m : List W → Store → Res W) : Prop where
  ex : ∃ (f : Addr) (fd : FuncData), FunD K x x (defArgs st) (defBody st) (defScope st) dvs [] f fd ∧ mg x = some (.ref f) ∧ FnG P w K mg base k f fd ps m
section
variable {P : Program} {w : World} {K : PySem.W.Frag} {mg : Str → Option Value} {base : Heap} {x : Str} {st : Stmt} {N ps : List Str} {dvs : List V} {k : Nat} {body : Sm}
theorem defOkF_of (D : DefAtF K mg x st dvs) (S : FnScope N ps (defScope st))
    (hb : ∀ (f : Addr) (cdv : Value) (A : Around) (outer : List Env) (s : Shared) (H : Hp) (E : XK), Room k (A.deeper (envOfC x (defScope st) s.heap.objs.size f cdv)) → A.guards = some [] →
      GSs (cxOf (L2.CX P w) P w K mg base N x (defScope st) f cdv A outer s H E) (WxE E) (defBody st) body) : DefOkF P w K mg base x st dvs (k + 1) ps (fnM ps.length N.length body) := by
  obtain ⟨f, fd, F, hm⟩ := D.ex
  refine ⟨f, fd, F, hm, ?_⟩
  obtain ⟨oc, od, dV, kV, doc, pm, an, cdv, ct, osl, rfl, lk, hcd, _, _⟩ := F.ex
  exact fnG_ofL lk hcd S (hb f)
theorem defOkF_bad (D : DefAtF K mg x st dvs) : DefOkF P w K mg base x st dvs k ps (fun _ _ => .bad) := by
  obtain ⟨f, fd, F, hm⟩ := D.ex
  exact ⟨f, fd, F, hm, fnG_bad⟩
theorem defOk_bad (D : DefAt K mg x st) : DefOk P w K mg base x st k ps (fun _ _ => .bad) := by
  obtain ⟨f, fd, F, hm⟩ := D.ex
  exact ⟨f, fd, F, hm, fnG_bad⟩
end
section
variable {X : Cx} {Wx : WX} {k : Nat} {st : Stmt} {ps : List Str} {dvs : List V} {m : List W → Store → Res W} {x : Str} {p pos : Pos} {e : Expr} {es : List Expr} {ml : Ev (List W)}
theorem ge_callF (D : DefOkF X.prog X.w X.K X.mg X.base x st dvs k ps m) (hr : Room k X.A) (hg : X.A.guards = some []) (tk : Takes X Wx) (gl : Gl X x)
    (hbind : ∀ (dV kV doc pm : Value) (an : Option Addr) (cdv ct : Value) (us : List Value), us.length = ps.length → bindArgs (PySem.W.fnOf x x (defArgs st) (defBody st) (defScope st) dV kV doc pm an cdv ct) ⟨us, []⟩ = pure (ps.zip us))
    (ha : GA X Wx (e :: es) ml) (hdb : (x == ("__debug__" : Str)) = false := by decide) (he : starEach (e :: es) X.env = (false, eval e X.env) :: starEach es X.env := by rfl) (hpl : (backTo pos (starEach es X.env)).any (·.1) = false := by rfl) :
    GE X Wx (.Call (.Name x p) (e :: es) [] pos) (mCall m ml) := by
  obtain ⟨f, fd, F, hm, G⟩ := D.ex
  have b : Binds X.K fd ps [] := by
    obtain ⟨oc, od, dV, kV, doc, pm, an, cdv, ct, osl, rfl, lk, hcd, _, _⟩ := F.ex
    exact .all (hbind dV kV doc pm an cdv ct)
  exact ge_call G hr hg tk gl hm F.kp b ha hdb he hpl
/-- the last defaults, from the j-th on, fill up -/
def moreM (wd : List W) (m : List W → Store → Res W) : List W → Store → Res W := fun ws st => m (ws ++ wd) st
theorem ge_callFd {n j : Nat} {wd : List W} (D : DefOkF X.prog X.w X.K X.mg X.base x st dvs k ps m) (hr : Room k X.A) (hg : X.A.guards = some []) (tk : Takes X Wx) (gl : Gl X x)
    (hd : dvs ≠ []) (hn : n + (dvs.length - j) = ps.length) (hwd : ∀ q, RWs X.K q wd (dvs.drop j))
    (hbind : ∀ (T : Addr) (kV doc pm : Value) (an : Option Addr) (cdv ct : Value) (us its : List Value), us.length = n → its.length = dvs.length →
      ∃ k2, bindArgs (PySem.W.fnOf x x (defArgs st) (defBody st) (defScope st) (.ref T) kV doc pm an cdv ct) ⟨us, []⟩ = seqItems? (.ref T) >>= k2 ∧ k2 (some its.toArray) = pure (ps.zip (us ++ its.drop j)))
    (ha : GA X Wx (e :: es) ml) (hdb : (x == ("__debug__" : Str)) = false := by decide) (he : starEach (e :: es) X.env = (false, eval e X.env) :: starEach es X.env := by rfl) (hpl : (backTo pos (starEach es X.env)).any (·.1) = false := by rfl) :
    GE X Wx (.Call (.Name x p) (e :: es) [] pos) (mCall (moreM wd m) ml) := by
  obtain ⟨f, fd, F, hm, G⟩ := D.ex
  obtain ⟨ds, rd, b⟩ := F.binds1 n j hd hn hbind
  refine ⟨fun pins s σ H Q I ⟨q0, sto, env, hp, S, E, h⟩ => ?_⟩
  refine wpAny_Call_Name_kw (ld_glob I gl hm ?_ hdb)
  have t := tG_bind (R := RWs X.K) (Q := fun vs H' => ∃ (q : Wh) (ws : List W) (s1 : Store), q.H = H' ∧ SR X.K q s1 ∧ RWs X.K q ws vs ∧ Fin X.K X.mg (RW X.K) Wx q σ Q (moreM wd m ws s1)) hp S E h
    fun q s1 ws vs t S1 E1 r h1 => ⟨q, ws, s1, rfl, S1, r, h1⟩
  refine PySem.W.callWith_K (h₀ := X.base) I.ok.mod.kin F.kp
    (thn (ha.run pos pins s σ H _ I t) fun us s1 ⟨vs, H1, I1, r, z⟩ => ⟨I1.kIn, ?_⟩) he hpl
  obtain ⟨q, ws, s2, eH, S1, rw1, h1⟩ := z
  have r2 : Vals (vs ++ dvs.drop j) (us ++ ds) := r.append rd
  have rw2 : RWs X.K q (ws ++ wd) (vs ++ dvs.drop j) := RWs.append rw1 (hwd q)
  have hl : (us ++ ds).length = ps.length := by rw [← r2.length, ← rw2.length, len_of G h1]
  exact run_G G hr hg tk (b s1 us I1.kIn hl) hl I1 r2 eH S1 rw2 h1
end
end Mi

namespace Mi
open PySem PySem.Spec PyProof.Rows L2
variable [ClsMap]

/-! ### constants of a module; the __init__ of a class; different keys -/
section
variable {X : Cx} {Wx : WX} {x : Str} {pos : Pos}
theorem ge_gIntE {i : Int} (hg : Gl X x) (h : ∃ t, X.mg x = some (.int i t)) (hd : (x == ("__debug__" : Str)) = false := by decide) : GE X Wx (.Name x pos) (mC (.int i)) := by
  obtain ⟨t, h⟩ := h
  exact ge_gInt hg h hd
theorem ge_gStrE {z : Str} (hg : Gl X x) (h : ∃ t, X.mg x = some (.str z t)) (hd : (x == ("__debug__" : Str)) = false := by decide) : GE X Wx (.Name x pos) (mC (.str z)) := by
  obtain ⟨t, h⟩ := h
  exact ge_gStr hg h hd
theorem ge_gRefE {w : W} (hg : Gl X x) (h : ∃ d, X.mg x = some (.ref d) ∧ ∀ p, RW X.K p w (.ref d)) (hd : (x == ("__debug__" : Str)) = false := by decide) : GE X Wx (.Name x pos) (mC w) := by
  obtain ⟨d, h, hw⟩ := h
  exact ge_gRef hg h hw hd
end
structure InitAt (K : PySem.W.Frag) (mg : Str → Option Value) (x : Str) (C : Nat) (qual : Str) (st : Stmt) : Prop where
  ex : ∃ (f : Addr) (fd : FuncData), Fun K "__init__" qual st f fd ∧ Mk K (cl C) f ∧ mg x = some (.ref (cl C))
structure InitOk (P : Program) (w : World) (K : PySem.W.Frag) (mg : Str → Option Value) (base : Heap) (x : Str) (C : Nat) (qual : Str) (st : Stmt) (k : Nat) (ps : List Str) (m : List W → Store → Res W) : Prop where
  ex : ∃ (f : Addr) (fd : FuncData), Fun K "__init__" qual st f fd ∧ Mk K (cl C) f ∧ mg x = some (.ref (cl C)) ∧ FnG P w K mg base k f fd ps m
theorem initOk_of {P : Program} {w : World} {K : PySem.W.Frag} {mg : Str → Option Value} {base : Heap} {x qual : Str} {C : Nat} {st : Stmt} {N ps : List Str} {k : Nat} {body : Sm} (D : InitAt K mg x C qual st) (S : FnScope N ps (defScope st))
    (hb : ∀ (f : Addr) (cdv : Value) (A : Around) (outer : List Env) (s : Shared) (H : Hp) (E : XK), Room k (A.deeper (envOfC qual (defScope st) s.heap.objs.size f cdv)) → A.guards = some [] →
      GSs (cxOf (L2.CX P w) P w K mg base N qual (defScope st) f cdv A outer s H E) (WxE E) (defBody st) body) : InitOk P w K mg base x C qual st (k + 1) ps (fnM ps.length N.length body) := by
  obtain ⟨f, fd, F, M, hm⟩ := D.ex
  exact ⟨f, fd, F, M, hm, fnG_of F S (hb f)⟩
section
variable {X : Cx} {Wx : WX} {k : Nat} {st : Stmt} {ps : List Str} {m : List W → Store → Res W} {x qual : Str} {C : Nat} {p pos : Pos} {e : Expr} {es : List Expr} {ml : Ev (List W)}
theorem ge_makeD (D : InitOk X.prog X.w X.K X.mg X.base x C qual st k ps m) (hr : Room (k + 1) X.A) (hg : X.A.guards = some []) (gl : Gl X x)
    (hbind : ∀ (kV doc pm : Value) (an : Option Addr) (cdv ct : Value) (us : List Value), us.length = ps.length → bindArgs (PySem.W.fnOf "__init__" qual (defArgs st) (defBody st) (defScope st) .none kV doc pm an cdv ct) ⟨us, []⟩ = pure (ps.zip us))
    (ha : GA X Wx (e :: es) ml) (hdb : (x == ("__debug__" : Str)) = false := by decide) (he : starEach (e :: es) X.env = (false, eval e X.env) :: starEach es X.env := by rfl) (hpl : (backTo pos (starEach es X.env)).any (·.1) = false := by rfl) :
    GE X Wx (.Call (.Name x p) (e :: es) [] pos) (mCall (fMake C m) ml) := by
  obtain ⟨f, fd, F, M, hm, G⟩ := D.ex
  exact ge_make M G hr hg gl hm (F.binds hbind) ha hdb he hpl
end
/-- a text, or a tuple of texts -/
def isTxt : W → Bool
  | .str _ => true
  | _ => false
def keyOk : W → Bool
  | .str _ => true
  | .tup xs => xs.all isTxt
  | _ => false
def sameTxt : W → W → Bool
  | .str a, .str b => a == b
  | _, _ => false
def sameTxts : List W → List W → Bool
  | [], [] => true
  | x :: xs, y :: ys => sameTxt x y && sameTxts xs ys
  | _, _ => false
def sameKey : W → W → Bool
  | .str a, .str b => a == b
  | .tup xs, .tup ys => sameTxts xs ys
  | _, _ => false
def diffW : List W → Bool
  | [] => true
  | x :: xs => !(xs.any (sameKey x)) && diffW xs
def mDiff : List W → Store → Res W := fun ws st => match ws with
  | [w] => match seqOf w with
    | some xs => if xs.all keyOk = true ∧ xs.length ≤ 60 then .ok (.bl (diffW xs)) st else .bad
    | none => .bad
  | _ => .bad
end Mi

namespace Mi
open PySem PySem.Spec PyProof.Rows L2
variable [ClsMap]

/-! ### dicts whose keys are ints and texts, in the store -/
def keyOf : W → Option Key
  | .int i => some (.inl i)
  | .str s => some (.inr s)
  | _ => none
def keq : Key → Key → Bool
  | .inl a, .inl b => a == b
  | .inr a, .inr b => a == b
  | _, _ => false
theorem keq_dec (a b : Key) : keq a b = decide (a = b) := by
  cases a with
  | inl x =>
    cases b with
    | inl y => rw [key_ll]; rfl
    | inr y => rw [key_lr]; rfl
  | inr x =>
    cases b with
    | inl y => rw [key_rl]; rfl
    | inr y =>
      rw [key_rr]
      show (x == y) = decide (x = y)
      by_cases e : x = y
      · subst e
        simp
      · rw [decide_eq_false e]
        exact beq_eq_false_iff_ne.mpr e
def valA : List (Key × W) → Key → Option W
  | [], _ => none
  | (j, w) :: r, k => if keq j k = true then some w else valA r k
def putA (kvs : List (Key × W)) (k : Key) (w : W) : List (Key × W) :=
  if (kvs.any fun kv => keq kv.1 k) = true then kvs.map (fun kv => if keq kv.1 k = true then (kv.1, w) else kv) else kvs ++ [(k, w)]
structure DsR (K : PySem.W.Frag) (p : Wh) (fs : List (Key × W)) (gs : List (Key × V)) : Prop where
  names : gs.map (·.1) = fs.map (·.1)
  vals : RWs K p (fs.map (·.2)) (gs.map (·.2))
section
variable {K : PySem.W.Frag} {p q : Wh}
theorem DsR.nil : DsR K p [] [] := ⟨rfl, rfl⟩
theorem DsR.cons {f : Key} {w : W} {v : V} {fs : List (Key × W)} {gs : List (Key × V)} (r : RW K p w v) (h : DsR K p fs gs) : DsR K p ((f, w) :: fs) ((f, v) :: gs) :=
  ⟨by simp only [List.map_cons, h.names], ⟨v, gs.map (·.2), rfl, r, h.vals⟩⟩
theorem DsR.out {f : Key} {w : W} {fs : List (Key × W)} {gs : List (Key × V)} (h : DsR K p ((f, w) :: fs) gs) : ∃ v r, gs = (f, v) :: r ∧ RW K p w v ∧ DsR K p fs r := by
  cases gs with
  | nil =>
    have e := h.names
    cases e
  | cons g r =>
    obtain ⟨v, rs, e, h1, h2⟩ := h.vals
    have e1 := h.names
    simp only [List.map_cons, List.cons.injEq] at e1 e
    obtain ⟨e2, e3⟩ := e1
    refine ⟨v, r, ?_, h1, e3, by rw [e.2]; exact h2⟩
    rw [← e2, ← e.1]
theorem DsR.nilOut {gs : List (Key × V)} (h : DsR K p [] gs) : gs = [] := by
  have e := h.names
  cases gs with
  | nil => rfl
  | cons g r => cases e
theorem DsR.move (s : Mv p q) {fs : List (Key × W)} {gs : List (Key × V)} (h : DsR K p fs gs) : DsR K q fs gs := ⟨h.names, RWs.move s _ _ h.vals⟩
theorem DsR.val {k : Key} : ∀ {fs : List (Key × W)} {gs : List (Key × V)}, DsR K p fs gs → (∀ w, valA fs k = some w → ∃ v, valV gs k = some v ∧ RW K p w v) ∧ (valA fs k = none → valV gs k = none)
  | [], gs, h => by
    rw [h.nilOut]
    exact ⟨fun w e => (nomatch e), fun _ => rfl⟩
  | (j, x) :: fs, gs, h => by
    obtain ⟨u, r, rfl, h1, h2⟩ := h.out
    unfold valA
    rw [keq_dec]
    by_cases c : j = k
    · rw [if_pos (decide_eq_true c), valV_pos (p := (j, u)) c]
      refine ⟨fun w e => ?_, fun e => (nomatch e)⟩
      cases e
      exact ⟨u, rfl, h1⟩
    · rw [if_neg (by rw [decide_eq_false c]; exact Bool.false_ne_true), valV_neg (p := (j, u)) c]
      exact h2.val
theorem DsR.any {k : Key} : ∀ {fs : List (Key × W)} {gs : List (Key × V)}, DsR K p fs gs → (gs.any fun kv => decide (kv.1 = k)) = fs.any fun kv => keq kv.1 k
  | [], gs, h => by
    rw [h.nilOut]
    rfl
  | (j, x) :: fs, gs, h => by
    obtain ⟨u, r, rfl, h1, h2⟩ := h.out
    rw [List.any_cons, List.any_cons, h2.any, keq_dec]
theorem DsR.over {k : Key} {w : W} {v : V} (hv : RW K p w v) : ∀ {fs : List (Key × W)} {gs : List (Key × V)}, DsR K p fs gs →
    DsR K p (fs.map fun kv => if keq kv.1 k = true then (kv.1, w) else kv) (gs.map fun kv => if kv.1 = k then (kv.1, v) else kv)
  | [], gs, h => by
    rw [h.nilOut]
    exact .nil
  | (j, x) :: fs, gs, h => by
    obtain ⟨u, r, rfl, h1, h2⟩ := h.out
    rw [List.map_cons, List.map_cons, keq_dec]
    by_cases c : j = k
    · rw [if_pos (decide_eq_true c), if_pos c]
      exact (h2.over hv).cons hv
    · rw [if_neg (by rw [decide_eq_false c]; exact Bool.false_ne_true), if_neg c]
      exact (h2.over hv).cons h1
theorem DsR.snoc {k : Key} {w : W} {v : V} (hv : RW K p w v) : ∀ {fs : List (Key × W)} {gs : List (Key × V)}, DsR K p fs gs → DsR K p (fs ++ [(k, w)]) (gs ++ [(k, v)])
  | [], gs, h => by
    rw [h.nilOut]
    exact DsR.nil.cons hv
  | (j, x) :: fs, gs, h => by
    obtain ⟨u, r, rfl, h1, h2⟩ := h.out
    exact (h2.snoc hv).cons h1
theorem DsR.put {k : Key} {w : W} {v : V} {fs : List (Key × W)} {gs : List (Key × V)} (h : DsR K p fs gs) (hv : RW K p w v) : DsR K p (putA fs k w) (putK gs k v) := by
  unfold putA putK
  rw [h.any]
  by_cases c : (fs.any fun kv => keq kv.1 k) = true
  · rw [if_pos c, if_pos c]
    exact h.over hv
  · rw [if_neg c, if_neg c]
    exact h.snoc hv
theorem DsR.length {fs : List (Key × W)} {gs : List (Key × V)} (h : DsR K p fs gs) : gs.length = fs.length := by
  have e := congrArg List.length h.names
  simpa using e
theorem SR.atD {st : Store} (S : SR K p st) {n : Nat} {fs : List (Key × W)} (h : st[n]? = some (.dct fs)) : n < p.n ∧ ∃ gs, p.H (p.ρ n) = some (.dK gs) ∧ DsR K p fs gs := by
  refine ⟨by rw [S.len]; exact (List.getElem?_eq_some_iff.mp h).1, ?_⟩
  obtain ⟨gs, e, l, k⟩ := S.obj n _ h
  exact ⟨gs, e, l, k⟩
theorem sr_mutD {st : Store} (S : SR K p st) {n : Nat} (hn : n < p.n) {fs : List (Key × W)} {gs : List (Key × V)} (r : DsR K p fs gs) : SR K { p with H := upd p.H (p.ρ n) (.dK gs) } (st.set n (.dct fs)) := by
  have t : Step p { p with H := upd p.H (p.ρ n) (.dK gs) } := step_mut S hn
  refine ⟨S.tab.upd (S.plainAt hn) (fun _ z => nomatch z), by rw [List.length_set]; exact S.len, S.inj, fun i u e => ?_, fun b z => ⟨t.hth b z, (S.hid b z).2⟩⟩
  show RO K _ u (upd p.H (p.ρ n) (.dK gs) (p.ρ i))
  by_cases z : n = i
  · subst z
    rw [List.getElem?_set_self (by rw [← S.len]; exact hn)] at e
    cases e
    rw [upd_same]
    exact ⟨gs, rfl, r.names, RWs.step t _ _ r.vals⟩
  · rw [List.getElem?_set_ne z] at e
    have hi : i < p.n := by
      rw [S.len]
      exact (List.getElem?_eq_some_iff.mp e).1
    rw [upd_ne (fun e => z (S.inj i n hi hn e).symm)]
    exact (S.obj i u e).step t
theorem keyOf_of {w : W} {v : V} {k : Key} (h : keyOf w = some k) (r : RW K p w v) : v = kV k := by
  cases w with
  | int i =>
    cases h
    exact r
  | str s =>
    cases h
    exact r
  | _ => cases h
end
/-- the dict that a value leads to -/
def dctOf (st : Store) : W → Option (Nat × List (Key × W))
  | .ref n => match st[n]? with
    | some (.dct kvs) => some (n, kvs)
    | _ => none
  | _ => none
theorem dctOf_of {K : PySem.W.Frag} {p : Wh} {st : Store} (S : SR K p st) {w : W} {v : V} {n : Nat} {kvs : List (Key × W)} (h : dctOf st w = some (n, kvs)) (r : RW K p w v) : w = .ref n ∧ n < p.n ∧ v = .ref (p.ρ n) ∧ ∃ gs, p.H (p.ρ n) = some (.dK gs) ∧ DsR K p kvs gs := by
  cases w with
  | ref m =>
    dsimp only [dctOf] at h
    cases e : st[m]? with
    | none =>
      rw [e] at h
      cases h
    | some o =>
      rw [e] at h
      cases o with
      | dct xs =>
        cases h
        obtain ⟨hn, gs, hH, d⟩ := S.atD e
        exact ⟨rfl, hn, r.2, gs, hH, d⟩
      | _ => cases h
  | _ => cases h
/-- {} | d[k] | k in d | d[k] = v -/
def mNewD : Ev W := fun _ st => .ok (.ref st.length) (st ++ [.dct []])
def fDGet : W → W → Store → Res W := fun o y st => match dctOf st o, keyOf y with
  | some nk, some k => match valA nk.2 k with
    | some w => .ok w st
    | none => .bad
  | _, _ => .bad
def fDIn : W → W → Store → Res W := fun y o st => match dctOf st o, keyOf y with
  | some nk, some k => .ok (.bl (valA nk.2 k).isSome) st
  | _, _ => .bad
def putD (o y v : W) (st : Store) : Option Store := match dctOf st o, keyOf y with
  | some nk, some k => if nk.2.length < 100000 then some (st.set nk.1 (.dct (putA nk.2 k v))) else none
  | _, _ => none
def sDPutM (me mo mi : Ev W) : Sm := liftE me fun v env st => liftE mo (fun o env st => liftE mi (fun y env st => match putD o y v st with
  | some s2 => .go (.nx env) s2
  | none => .bad) env st) env st
section
variable {X : Cx} {Wx : WX} {o i e : Expr} {mo mi me : Ev W} {pos p2 : Pos}
theorem ge_newD : GE X Wx (.Dict [] [] pos) mNewD :=
  PEimp pe_dnewK fun σ H Q ⟨p, st, env, hp, S, E, h⟩ a ha => by
    subst hp
    have t := step_more (o := HO.dK []) S ha
    have S2 := sr_moreO (o := .dct []) (ho := HO.dK []) S ha ⟨[], rfl, rfl, rfl⟩
    refine h _ (.ref a) t S2 ⟨?_, ?_⟩
    · rw [← S.len]
      exact Nat.lt_succ_self _
    · show V.ref a = V.ref (if st.length = p.n then a else p.ρ st.length)
      rw [if_pos S.len.symm]
theorem ge_dget (hu : X.A.units + 1 < cLine) (ho : GE X Wx o mo) (hi : GE X Wx i mi) (hs : NoSl i := by intro _ _; rfl) : GE X Wx (.Subscript o i pos) (mOp fDGet mo mi) :=
  PEimp (pe_dget hu ho hi hs) fun σ H Q ⟨p, st, env, hp, S, E, h⟩ => tG_bind hp S E h fun q s1 x v t1 S1 E1 rx h1 => tG_bind rfl S1 E1 h1 fun q2 s2 y u t2 S2 E2 ry h2 => by
    have rx := RW.step t2 x v rx
    unfold fDGet at h2
    cases ed : dctOf s2 x with
    | none =>
      rw [ed] at h2
      exact h2.elim
    | some nk =>
      cases ek : keyOf y with
      | none =>
        rw [ed, ek] at h2
        exact h2.elim
      | some k =>
        rw [ed, ek] at h2
        dsimp only at h2
        obtain ⟨_, _, ev, gs, hH, d⟩ := dctOf_of S2 (n := nk.1) (kvs := nk.2) ed rx
        cases ew : valA nk.2 k with
        | none =>
          rw [ew] at h2
          exact h2.elim
        | some w =>
          rw [ew] at h2
          obtain ⟨z, hz, rz⟩ := d.val.1 w ew
          have g := DGet.k (k := k) hH
          rw [hz] at g
          rw [keyOf_of ek ry]
          exact ⟨_, z, ev, g, fin_ok S2 h2 rz⟩
theorem din_of {σ : L2.St} {H : Hp} {Q : VK} (h : tG X.K X.mg (RW X.K) Wx (mOp fDIn mi mo) σ H Q) : tDIn (tG X.K X.mg (RW X.K) Wx mi) (tG X.K X.mg (RW X.K) Wx mo) σ H Q := by
  obtain ⟨p, st, env, hp, S, E, h⟩ := h
  refine tG_bind hp S E h fun q s1 y u t1 S1 E1 ry h1 => tG_bind rfl S1 E1 h1 fun q2 s2 x v t2 S2 E2 rx h2 => ?_
  have ry := RW.step t2 y u ry
  unfold fDIn at h2
  cases ed : dctOf s2 x with
  | none =>
    rw [ed] at h2
    exact h2.elim
  | some nk =>
    cases ek : keyOf y with
    | none =>
      rw [ed, ek] at h2
      exact h2.elim
    | some k =>
      rw [ed, ek] at h2
      dsimp only at h2
      obtain ⟨_, _, ev, gs, hH, d⟩ := dctOf_of S2 (n := nk.1) (kvs := nk.2) ed rx
      have g := DGet.k (k := k) hH
      rw [keyOf_of ek ry]
      refine ⟨_, _, ev, g, fin_ok S2 h2 ?_⟩
      cases ew : valA nk.2 k with
      | none =>
        rw [d.val.2 ew]
        exact rfl
      | some w =>
        obtain ⟨z, hz, _⟩ := d.val.1 w ew
        rw [hz]
        exact rfl
theorem ge_din (hu : X.A.units + 1 < cLine) (hi : GE X Wx i mi) (ho : GE X Wx o mo) (hm : behindInMarks .In o = false := by rfl) : GE X Wx (.Compare i [.In] [o] pos) (mOp fDIn mi mo) :=
  PEimp (pe_cmp (pc_din hu hi ho) hm) fun σ H Q h => din_of h
theorem gt_din (hu : X.A.units + 1 < cLine) (hi : GE X Wx i mi) (ho : GE X Wx o mo) (hm : behindInMarks .In o = false := by rfl) : GT X Wx (.Compare i [.In] [o] pos) (mB (mOp fDIn mi mo)) :=
  PTimp (pt_cmp (pc_din hu hi ho) hm) fun σ H Q h => din_of (asB_of h)
theorem gs_dput (hu : X.A.units + 1 < cLine) (ho : GE X Wx o mo) (hi : GE X Wx i mi) (he : GE X Wx e me) (hs : swapsWith e (some (.Subscript o i p2)) pos.line X.env = pure false := by rfl) : GS X Wx (.Assign [.Subscript o i p2] e pos) (sDPutM me mo mi) :=
  PSimp (ps_dput hu ho hi he hs) fun D σ H ⟨p, st, env, hp, S, E, h⟩ => lift_of hp S E h fun q s1 w v t S1 E1 r h1 => lift_of rfl S1 E1 h1 fun q2 s2 x v2 t2 S2 E2 r2 h2 => lift_of rfl S2 E2 h2 fun q3 s3 y v3 t3 S3 E3 r3 h3 => by
    have r := RW.step (t2.trans t3) w v r
    have r2 := RW.step t3 x v2 r2
    unfold putD at h3
    cases ed : dctOf s3 x with
    | none =>
      rw [ed] at h3
      exact h3.elim
    | some nk =>
      cases ek : keyOf y with
      | none =>
        rw [ed, ek] at h3
        exact h3.elim
      | some k =>
        rw [ed, ek] at h3
        dsimp only at h3
        obtain ⟨_, hn, ev, gs, hH, d⟩ := dctOf_of S3 (n := nk.1) (kvs := nk.2) ed r2
        by_cases c : nk.2.length < 100000
        · rw [if_pos c] at h3
          rw [keyOf_of ek r3]
          refine ⟨_, _, ev, DPut.k hH (by rw [d.length]; exact Nat.lt_of_lt_of_le c (by decide)), ?_⟩
          exact h3 { q3 with H := upd q3.H (q3.ρ nk.1) (.dK (putK gs k v)) } σ (step_mut S3 hn) (sr_mutD S3 hn (d.put r)) (E3.step (step_mut S3 hn))
        · rw [if_neg c] at h3
          exact h3.elim
end

/-! ### {k: v for x, y in zip(a, b)} over two tuples -/
def dcEach (put : W → En → En) (tt : Ev Bool) (tk tv : Ev W) (env : En) : List W → List (Key × W) → Store → Res (List (Key × W))
  | [], acc, st => .ok acc st
  | x :: xs, acc, st => (noX (tt (put x env) st)).bind fun b s1 =>
    if b = true then (noX (tk (put x env) s1)).bind fun y s2 => (noX (tv (put x env) s2)).bind fun z s3 => match keyOf y with
      | some k => if acc.length < 100000 then dcEach put tt tk tv env xs (putA acc k z) s3 else .bad
      | none => .bad
    else dcEach put tt tk tv env xs acc s1
def asDct (r : Res (List (Key × W))) : Res W := r.bind fun acc s => .ok (.ref s.length) (s ++ [.dct acc])
def zipW : List W → List W → List W
  | x :: xs, y :: ys => .tup [x, y] :: zipW xs ys
  | _, _ => []
def twoTups : List W → Option (List W × List W)
  | [.tup xs, .tup ys] => some (xs, ys)
  | _ => none
def mDcZ (vs : List Nat) (put : W → En → En) (ml : Ev (List W)) (tt : Ev Bool) (tk tv : Ev W) : Ev W := fun env st => (ml env st).bind fun ws s1 => match twoTups ws with
  | some xy => asDct (dcEach put tt tk tv (wipeE env vs) (zipW xy.1 xy.2) [] s1)
  | none => .bad
section
variable {K : PySem.W.Frag} {mg : Str → Option Value} {p q : Wh} {st : Store} {env : En} {σ : L2.St} {D : Addr}
theorem zipW_get : ∀ {xs ys : List W} {i : Nat} {x y : W}, xs[i]? = some x → ys[i]? = some y → (zipW xs ys)[i]? = some (.tup [x, y])
  | [], _, i, _, _, h, _ => by simp at h
  | _ :: _, [], i, _, _, _, h => by simp at h
  | a :: xs, b :: ys, 0, x, y, h, h2 => by
    simp only [List.getElem?_cons_zero, Option.some.injEq] at h h2
    rw [← h, ← h2]
    rfl
  | a :: xs, b :: ys, i + 1, x, y, h, h2 => by
    simp only [List.getElem?_cons_succ] at h h2
    show (zipW xs ys)[i]? = _
    exact zipW_get h h2
theorem zipW_end : ∀ {xs ys : List W} {i : Nat}, (xs.length ≤ i ∨ ys.length ≤ i) → (zipW xs ys).length ≤ i
  | [], _, i, _ => Nat.zero_le _
  | _ :: _, [], i, _ => Nat.zero_le _
  | a :: xs, b :: ys, 0, h => by simp at h
  | a :: xs, b :: ys, i + 1, h => by
    show (zipW xs ys).length + 1 ≤ i + 1
    exact Nat.succ_le_succ (zipW_end (by simpa using h))
/-- a hidden dict while it is made -/
theorem mv_hideD (S : SR K p st) (h : p.H D = none) (o : HO) : Mv p { p with H := upd p.H D o, x := D :: p.x } := by
  have t := step_new (o := o) S h
  refine ⟨Nat.le_refl _, fun _ _ => rfl, t.keep, fun i h1 h2 => absurd h2 (Nat.not_lt.mpr h1), t.there, fun a z => ?_, t.hth⟩
  rcases List.mem_cons.mp z with z | z
  · exact .inr (by rw [z]; exact h)
  · exact .inl z
theorem sr_hideD (S : SR K p st) (h : p.H D = none) (o : HO) (no : NoTbl o := by first | exact fun _ z => nomatch z | assumption) : SR K { p with H := upd p.H D o, x := D :: p.x } st := by
  have t := sr_new (o := o) S h no
  have m := mv_hideD S h o
  refine ⟨t.tab.more, t.len, t.inj, fun i u e => ?_, fun a z => ?_⟩
  · have hi : i < p.n := by
      rw [S.len]
      exact (List.getElem?_eq_some_iff.mp e).1
    have r := (S.obj i u e).move m
    show RO K _ u (upd p.H D o (p.ρ i))
    rw [upd_ne (fun e => S.there i hi (by rw [e]; exact h))]
    exact r
  · rcases List.mem_cons.mp z with z | z
    · subst z
      refine ⟨?_, fun i hi e => S.there i hi (by rw [e]; exact h)⟩
      show upd p.H a o a ≠ none
      rw [upd_same]
      exact fun z => nomatch z
    · exact ⟨m.hth a z, (S.hid a z).2⟩
/-- what was hidden becomes a thing of the store -/
def Wh.grown (q : Wh) (D : Addr) (x : List Addr) : Wh := ⟨fun i => if i = q.n then D else q.ρ i, q.n + 1, q.H, x⟩
theorem mv_grown (S : SR K q st) (hD : D ∈ q.x) {x : List Addr} (hx : ∀ a, a ∈ x → a ∈ q.x) : Mv q (q.grown D x) := by
  refine ⟨Nat.le_succ _, fun i hi => if_neg (Nat.ne_of_lt hi), fun a o e _ => e, fun i h1 h2 => ?_, fun i hi => ?_, fun a z => .inl (hx a z), fun a z => (S.hid a z).1⟩
  · have e : i = q.n := Nat.le_antisymm (Nat.lt_succ_iff.mp h2) h1
    refine .inr ?_
    show (if i = q.n then D else q.ρ i) ∈ q.x
    rw [if_pos e]
    exact hD
  · show q.H (if i = q.n then D else q.ρ i) ≠ none
    by_cases e : i = q.n
    · rw [if_pos e]
      exact (S.hid D hD).1
    · have hi' : i < q.n + 1 := hi
      rw [if_neg e]
      exact S.there i (by omega)
theorem sr_grown (S : SR K q st) (hD : D ∈ q.x) {x : List Addr} (hx : ∀ a, a ∈ x → a ∈ q.x) (nx : D ∉ x) {o : O} (r : RO K q o (q.H D)) (ht : TabI x q.H) : SR K (q.grown D x) (st ++ [o]) := by
  have m := mv_grown S hD hx
  refine ⟨ht, by rw [List.length_append, ← S.len]; rfl, fun i j hi hj e => ?_, fun i u e => ?_, fun b z => ⟨(S.hid b (hx b z)).1, fun i hi e => ?_⟩⟩
  · have hi' : i < q.n + 1 := hi
    have hj' : j < q.n + 1 := hj
    have e' : (if i = q.n then D else q.ρ i) = (if j = q.n then D else q.ρ j) := e
    by_cases h1 : i = q.n
    · by_cases h2 : j = q.n
      · omega
      · rw [if_pos h1, if_neg h2] at e'
        exact absurd e'.symm ((S.hid D hD).2 j (by omega))
    · by_cases h2 : j = q.n
      · rw [if_neg h1, if_pos h2] at e'
        exact absurd e' ((S.hid D hD).2 i (by omega))
      · rw [if_neg h1, if_neg h2] at e'
        exact S.inj i j (by omega) (by omega) e'
  · show RO K _ u (q.H (if i = q.n then D else q.ρ i))
    by_cases h1 : i = q.n
    · rw [if_pos h1]
      rw [h1, S.len, List.getElem?_append_right (Nat.le_refl _)] at e
      have e' : o = u := by simpa using e
      subst e'
      exact r.move m
    · have hi : i < (st ++ [o]).length := (List.getElem?_eq_some_iff.mp e).1
      rw [List.length_append, List.length_singleton, ← S.len] at hi
      rw [if_neg h1]
      rw [List.getElem?_append_left (by rw [← S.len]; omega)] at e
      exact (S.obj i u e).move m
  · have hi' : i < q.n + 1 := hi
    have e' : (if i = q.n then D else q.ρ i) = b := e
    by_cases h1 : i = q.n
    · rw [if_pos h1] at e'
      exact nx (by rw [e']; exact z)
    · rw [if_neg h1] at e'
      exact (S.hid b (hx b z)).2 i (by omega) e'

def DcT (K : PySem.W.Frag) (mg : Str → Option Value) (Wx : WX) (put : W → En → En) (tt : Ev Bool) (tk tv : Ev W) (env : En) (p : Wh) (D : Addr) (σ : L2.St) (Q : VK) (xs : List W) (i : Nat) (H' : Hp) : Prop :=
  ∃ (q : Wh) (s2 : Store) (acc : List (Key × W)) (accV : List (Key × V)), q.H = H' ∧ q.x = D :: p.x ∧ Mv p q ∧ (∀ a, a ∈ p.x → (∀ ps, p.H a ≠ some (.tbl ps)) → q.H a = p.H a) ∧ SR K q s2 ∧ q.H D = some (.dK accV) ∧ DsR K q acc accV ∧
    Fin K mg (RW K) Wx p σ Q (asDct (dcEach put tt tk tv env (xs.drop i) acc s2))
theorem dc_start {Wx : WX} {put : W → En → En} {tt : Ev Bool} {tk tv : Ev W} {Q : VK} {xs : List W} (S : SR K p st) (hD : p.H D = none) (h : Fin K mg (RW K) Wx p σ Q (asDct (dcEach put tt tk tv env xs [] st))) :
    DcT K mg Wx put tt tk tv env p D σ Q xs 0 (upd p.H D (.dK [])) :=
  ⟨{ p with H := upd p.H D (.dK []), x := D :: p.x }, st, [], [], rfl, rfl, mv_hideD S hD _, (step_new (o := .dK []) S hD).hk, sr_hideD S hD _, upd_same, .nil, h⟩
theorem dc_turn {Wx : WX} {put : W → En → En} {tt : Ev Bool} {tk tv : Ev W} {Q : VK} {xs : List W} {i : Nat} {g : TG} {w : W} {v : V} {own : List Nat} {H' H'2 : Hp} (S : SR K p st) (hD : p.H D = none) (E : EnvR K p env σ) (hg : PutLc K g put own xs) (hw : xs[i]? = some w)
    (h : DcT K mg Wx put tt tk tv (wipeE env own) p D σ Q xs i H')
    (hv : ∀ q : Wh, q.H = H' → q.x = D :: p.x → Mv p q → (∀ a, a ∈ p.x → (∀ ps, p.H a ≠ some (.tbl ps)) → q.H a = p.H a) → ∀ s2, SR K q s2 → ∃ q2 : Wh, Step q q2 ∧ SR K q2 s2 ∧ RW K q2 w v ∧ q2.H = H'2) : g v (wipe σ own) H'2 fun σ2 H2 => wipe σ2 own = wipe σ own ∧ tG K mg eqR W0 tt σ2 H2 fun b H3 =>
      if b = true then tG K mg (RW K) W0 tk σ2 H3 fun y H4 => tG K mg (RW K) W0 tv σ2 H4 fun z H5 => ∃ kvs k, y = kV k ∧ H5 D = some (.dK kvs) ∧ kvs.length < sizeLine ∧ DcT K mg Wx put tt tk tv (wipeE env own) p D σ Q xs (i + 1) (upd H5 D (.dK (putK kvs k z)))
      else DcT K mg Wx put tt tk tv (wipeE env own) p D σ Q xs (i + 1) H3 := by
  obtain ⟨q0, s2, acc, accV, e0, ex, m, hk, S2, hA, ra, hF⟩ := h
  obtain ⟨q, tq, Sq, r, rfl⟩ := hv q0 e0 ex m hk s2 S2
  have hD0 : D ∈ q0.x := by
    rw [ex]
    exact List.mem_cons_self
  have hDq : D ∈ q.x := by
    rw [tq.xs]
    exact hD0
  have exq : q.x = D :: p.x := tq.xs.trans ex
  have m := m.trans tq.toMv
  have hk : ∀ a, a ∈ p.x → (∀ ps, p.H a ≠ some (.tbl ps)) → q.H a = p.H a := fun a z n => (tq.hk a (by rw [ex]; exact List.mem_cons_of_mem _ z) (by rw [hk a z n]; exact n)).trans (hk a z n)
  have hA : q.H D = some (.dK accV) := (tq.hk D hD0 (by rw [hA]; exact fun _ z => nomatch z)).trans hA
  have ra := ra.move tq.toMv
  obtain ⟨hl, hw'⟩ := List.getElem?_eq_some_iff.mp hw
  rw [List.drop_eq_getElem_cons hl, hw'] at hF
  refine hg q w v (wipeE env own) (wipe σ own) _ (List.mem_of_getElem? hw) r ((E.wiped own).move m) fun σ2 E2 ew => ⟨ew.trans (wipe_wipe σ), q, s2, put w (wipeE env own), rfl, Sq, E2, ?_⟩
  unfold asDct dcEach at hF
  cases e1 : tt (put w (wipeE env own)) s2 with
  | bad =>
    rw [e1] at hF
    exact hF
  | exc x s3 =>
    rw [e1] at hF
    exact hF.elim
  | ok b s3 =>
    rw [e1] at hF
    intro q3 b' t3 S3 eb
    have eb' : b = b' := eb
    subst eb'
    have keep3 : ∀ a, a ∈ p.x → (∀ ps, p.H a ≠ some (.tbl ps)) → q3.H a = p.H a := fun a z n => (t3.hk a (by rw [exq]; exact List.mem_cons_of_mem _ z) (by rw [hk a z n]; exact n)).trans (hk a z n)
    have hA3 : q3.H D = some (.dK accV) := (t3.hk D hDq (by rw [hA]; exact fun _ z => nomatch z)).trans hA
    cases b with
    | false => exact ⟨q3, s3, acc, accV, rfl, t3.xs.trans exq, m.trans t3.toMv, keep3, S3, hA3, ra.move t3.toMv, hF⟩
    | true =>
      refine ⟨q3, s3, put w (wipeE env own), rfl, S3, E2.step t3, ?_⟩
      have hF' : Fin K mg (RW K) Wx p σ Q (((noX (tk (put w (wipeE env own)) s3)).bind fun y s2 => (noX (tv (put w (wipeE env own)) s2)).bind fun z s3 => match keyOf y with
        | some k => if acc.length < 100000 then dcEach put tt tk tv (wipeE env own) (List.drop (i + 1) xs) (putA acc k z) s3 else .bad
        | none => .bad).bind fun acc s => .ok (.ref s.length) (s ++ [.dct acc])) := hF
      cases e2 : tk (put w (wipeE env own)) s3 with
      | bad =>
        rw [e2] at hF'
        exact hF'
      | exc x s4 =>
        rw [e2] at hF'
        exact hF'.elim
      | ok y s4 =>
        rw [e2] at hF'
        intro q4 yv t4 S4 r4
        refine ⟨q4, s4, put w (wipeE env own), rfl, S4, E2.step (t3.trans t4), ?_⟩
        have hF2 : Fin K mg (RW K) Wx p σ Q (((noX (tv (put w (wipeE env own)) s4)).bind fun z s3 => match keyOf y with
          | some k => if acc.length < 100000 then dcEach put tt tk tv (wipeE env own) (List.drop (i + 1) xs) (putA acc k z) s3 else .bad
          | none => .bad).bind fun acc s => .ok (.ref s.length) (s ++ [.dct acc])) := hF'
        cases e3 : tv (put w (wipeE env own)) s4 with
        | bad =>
          rw [e3] at hF2
          exact hF2
        | exc x s5 =>
          rw [e3] at hF2
          exact hF2.elim
        | ok z s5 =>
          rw [e3] at hF2
          intro q5 zv t5 S5 r5
          have hF3 : Fin K mg (RW K) Wx p σ Q ((match keyOf y with
            | some k => if acc.length < 100000 then dcEach put tt tk tv (wipeE env own) (List.drop (i + 1) xs) (putA acc k z) s5 else .bad
            | none => .bad : Res (List (Key × W))).bind fun acc s => .ok (.ref s.length) (s ++ [.dct acc])) := hF2
          cases ek : keyOf y with
          | none =>
            rw [ek] at hF3
            exact hF3.elim
          | some k =>
            rw [ek] at hF3
            dsimp only at hF3
            by_cases c : acc.length < 100000
            · rw [if_pos c] at hF3
              have t35 := (t3.trans t4).trans t5
              have hD5 : D ∈ q5.x := by
                rw [t35.xs]
                exact hDq
              have ma := mv_write S5 hD5 (.dK (putK accV k zv))
              have r5' := RW.move ma z zv r5
              have hA5 : q5.H D = some (.dK accV) := (t35.hk D hDq (by rw [hA]; exact fun _ z => nomatch z)).trans hA
              refine ⟨accV, k, keyOf_of ek r4, hA5, by rw [ra.length]; exact Nat.lt_of_lt_of_le c (by decide), { q5 with H := upd q5.H D (.dK (putK accV k zv)) }, s5, putA acc k z, putK accV k zv, rfl, t35.xs.trans exq,
                (m.trans t35.toMv).trans ma, fun a za n => ?_, sr_write S5 hD5 _ (fun o' e => by
                  rw [hA5] at e
                  cases e
                  exact ⟨fun _ z => (nomatch z), noCode_dK⟩), upd_same, ((ra.move t35.toMv).move ma).put r5', hF3⟩
              have hne : a ≠ D := fun e => (S.hid a za).1 (by rw [e]; exact hD)
              show upd q5.H D _ a = p.H a
              rw [upd_ne hne]
              exact (t35.hk a (by rw [exq]; exact List.mem_cons_of_mem _ za) (by rw [hk a za n]; exact n)).trans (hk a za n)
            · rw [if_neg c] at hF3
              exact hF3.elim
theorem dc_end {Wx : WX} {put : W → En → En} {tt : Ev Bool} {tk tv : Ev W} {Q : VK} {xs : List W} {H' : Hp} {i : Nat} (S : SR K p st) (hD : p.H D = none) (hi : xs.length ≤ i) (h : DcT K mg Wx put tt tk tv env p D σ Q xs i H') : Q (.ref D) H' := by
  obtain ⟨q, s2, acc, accV, rfl, ex, m, hk, S2, hA, ra, hF⟩ := h
  rw [List.drop_of_length_le hi] at hF
  have sub : ∀ a, a ∈ p.x → a ∈ q.x := fun a z => by
    rw [ex]
    exact List.mem_cons_of_mem _ z
  have hDq : D ∈ q.x := by
    rw [ex]
    exact List.mem_cons_self
  have nx : D ∉ p.x := fun z => (S.hid D z).1 hD
  have ms := mv_grown S2 hDq sub
  refine hF (q.grown D p.x) (.ref D) ⟨m.trans ms, rfl, hk⟩ (sr_grown S2 hDq sub nx ⟨accV, hA, ra.names, ra.vals⟩ (TabI.less (by rw [← ex]; exact S2.tab) (by rw [hA]; exact fun _ z => nomatch z))) ⟨?_, ?_⟩
  · rw [← S2.len]
    exact Nat.lt_succ_self _
  · show V.ref D = V.ref (if s2.length = q.n then D else q.ρ s2.length)
    rw [if_pos S2.len.symm]
end
end Mi

namespace Mi
open PySem PySem.Spec PyProof.Rows L2
variable [ClsMap]

section
variable {X : Cx}
/-- name = {..} on one line, the name a local -/
theorem ps_setDc {i : Nat} {y : Str} {py : Pos} {kx vx tg iter : Expr} {ifs : List Expr} {scope : Scope} {own : List (Str × Nat)} {pos spos : Pos} {wi : TI} {g : TG} {tt : TT} {tk tv : TE} (hc : X.calm = true) (hN : X.N.Nodup) (hy : X.N[i]? = some y) (hyl : X.env.scope.names.lookup y = some .local)
    (hsw : swapsWith (.DictComp kx vx [⟨tg, iter, ifs, 0⟩] scope pos) (some (.Name y py)) spos.line X.env = pure true) (hi : PI X tg iter wi) (ok : BlkOk X.N X.env.scope scope own)
    (hg : ∀ (s : Shared) (H : Hp) (C : Addr) (cl : List (Str × Addr)) (fp : List Addr), PG (X.blk s H scope (compEnvC scope cl C X.env) fp) tg g) (ht : ∀ (s : Shared) (H : Hp) (C : Addr) (cl : List (Str × Addr)) (fp : List Addr), PTs (X.blk s H scope (compEnvC scope cl C X.env) fp) ifs tt)
    (hk : ∀ (s : Shared) (H : Hp) (C : Addr) (cl : List (Str × Addr)) (fp : List Addr), PE (X.blk s H scope (compEnvC scope cl C X.env) fp) kx tk)
    (he : ∀ (s : Shared) (H : Hp) (C : Addr) (cl : List (Str × Addr)) (fp : List Addr), PE (X.blk s H scope (compEnvC scope cl C X.env) fp) vx tv) (hs : ∀ x, foldedSetIterable iter X.env x = pure x := by intro _; rfl) :
    PS X (.Assign [.Name y py] (.DictComp kx vx [⟨tg, iter, ifs, 0⟩] scope pos) spos) (tAsg (tDc wi g tt tk tv (own.map (·.2))) (gName i)) := by
  refine ⟨fun pins s σ H D I h => ?_⟩
  rw [exec_Assign_Name_used _ _ _ _ hsw]
  refine wpAny_bind (wpAny_standAt (wpAny_bind ?_))
  show wpAny _ X.A (do let _ ← comprehension (.DictComp kx vx [⟨tg, iter, ifs, 0⟩] scope pos) scope X.env (firstIterPos [⟨tg, iter, ifs, 0⟩] pos) newDict false (eval iter X.env) (some (assign (.Name y py) X.env))) _ _ s
  have h : tDc wi g tt tk tv (own.map (·.2)) σ H (fun x H1 => gName i x σ H1 D.nx) := h
  refine wpAny_bind (thn (dc_core (Qf := fun _ s' => SP X pins D .next s') hc hN I hi ok hg ht hk he hs h fun L C s' m H' I' q hn f => ?_) fun _ s' hq => wpAny_pure (wpAny_pure hq))
  show wpAny _ _ (assign (.Name y py) X.env (.ref L)) _ _ _
  obtain ⟨f0, f1, f2, f3, f4, f5⟩ := f
  refine wpAny_assign_Name (store_ok2 (v := V.ref L) I' hN hy (.inl hyl) rfl (fun s2 I2 ⟨a, sb, ha⟩ => ⟨m, hn.sameBut sb ?_, fun h3 sb3 => ?_⟩) (.inr hyl))
  · rcases ha with z | z
    · exact fun e => f1 (e.trans z)
    · exact fun e => f4 y a z e.symm
  · exact ⟨_, H', I2.turned (t' := s2.toks) (fun b o hb e => (sb3.2 b hb).trans e) f0 f1 f3 f4 f5, q⟩
end
theorem zipW_two {xs ys : List W} : ∀ w ∈ zipW xs ys, ∃ zs, w = .tup zs ∧ zs.length = 2 := by
  induction xs generalizing ys with
  | nil =>
    intro w h
    cases ys <;> cases h
  | cons x xs ih =>
    intro w h
    cases ys with
    | nil => cases h
    | cons y ys =>
      rcases List.mem_cons.mp h with z | z
      · exact ⟨[x, y], z, rfl⟩
      · exact ih w z
structure BlkD (X : Cx) (Wx : WX) (scope : Scope) (own : List (Str × Nat)) (tg kx vx : Expr) (ifs : List Expr) (g : TG) (tt : Ev Bool) (tk tv : Ev W) : Prop where
  ok : BlkOk X.N X.env.scope scope own
  hg : ∀ (s : Shared) (H : Hp) (C : Addr) (cl : List (Str × Addr)) (fp : List Addr), PG (X.blk s H scope (compEnvC scope cl C X.env) fp) tg g
  ht : ∀ (s : Shared) (H : Hp) (C : Addr) (cl : List (Str × Addr)) (fp : List Addr), GP (X.blk s H scope (compEnvC scope cl C X.env) fp) W0 ifs tt
  hk : ∀ (s : Shared) (H : Hp) (C : Addr) (cl : List (Str × Addr)) (fp : List Addr), GE (X.blk s H scope (compEnvC scope cl C X.env) fp) W0 kx tk
  he : ∀ (s : Shared) (H : Hp) (C : Addr) (cl : List (Str × Addr)) (fp : List Addr), GE (X.blk s H scope (compEnvC scope cl C X.env) fp) W0 vx tv
section
variable {X : Cx} {Wx : WX} {kx vx tg e e2 : Expr} {ifs : List Expr} {scope : Scope} {own : List (Str × Nat)} {pos p tpos : Pos} {g : TG} {put : W → En → En} {tt : Ev Bool} {tk tv : Ev W} {ml : Ev (List W)} {elts : List Expr} {kk : Nat}
theorem dcZ_of {σ : L2.St} {H : Hp} {Q : VK} (hg : ∀ xs ys, PutLc X.K g put (own.map (·.2)) (zipW xs ys)) (h : tG X.K X.mg (RW X.K) Wx (mDcZ (own.map (·.2)) put ml tt tk tv) σ H Q) :
    tDc (RZ.iZipA X.K (tG X.K X.mg (RWs X.K) Wx ml)) g (tG X.K X.mg eqR W0 tt) (tG X.K X.mg (RW X.K) W0 tk) (tG X.K X.mg (RW X.K) W0 tv) (own.map (·.2)) σ H Q := by
  obtain ⟨p, st, env, hp, S, E, h⟩ := h
  refine tG_bind hp S E h fun q s1 ws vs t S1 E1 r h1 => ?_
  cases ez : twoTups ws with
  | none =>
    rw [ez] at h1
    exact h1.elim
  | some xy =>
    rw [ez] at h1
    dsimp only at h1
    have ew : ws = [.tup xy.1, .tup xy.2] := by
      unfold twoTups at ez
      split at ez
      · cases ez
        rfl
      · cases ez
    subst ew
    obtain ⟨v1, r1, ev, ⟨a, avs, ea, ta, ra⟩, v2, r2, e2, ⟨b, bvs, eb, tb, rb⟩, e3⟩ := r
    have e3' : r2 = [] := e3
    subst e3' ea eb e2 ev
    refine ⟨a, b, avs, bvs, rfl, .inr ⟨ta.seq, tb.seq, fun D hD => ?_⟩⟩
    let Pv := DcT X.K X.mg Wx put tt tk tv (wipeE env (own.map (·.2))) q D σ Q (zipW xy.1 xy.2)
    have sq : ∀ i H', Pv i H' → SqT X.K H' a avs ∧ SqT X.K H' b bvs := by
      rintro i H' ⟨z, _, _, _, rfl, _, m, _⟩
      exact ⟨(tup_step m ta).seq, (tup_step m tb).seq⟩
    refine ⟨fun i m H => m = avs.length - i ∧ Pv i H, ⟨avs.length, by simp, dc_start S1 hD h1⟩, ?_⟩
    rintro i m H' ⟨em, hT⟩
    obtain ⟨sa, sb⟩ := sq i H' hT
    by_cases c : i < avs.length ∧ i < bvs.length
    · obtain ⟨c1, c2⟩ := c
      refine .inr ⟨⟨avs, bvs, avs[i], bvs[i], sa, sb, List.getElem?_eq_getElem c1, List.getElem?_eq_getElem c2⟩, Pv (i + 1), fun H2 nx => ⟨avs.length - (i + 1), by omega, rfl, nx⟩, fun x H2 ⟨T, xv, yv, ex, hTn, eH, hx, hy⟩ => ?_⟩
      obtain ⟨xw, hxw, rx⟩ := ra.getV (hx avs sa)
      obtain ⟨yw, hyw, ry⟩ := rb.getV (hy bvs sb)
      subst ex
      refine dc_turn S1 hD E1 (hg _ _) (zipW_get hxw hyw) hT fun q0 e0 ex0 m0 hk0 s2 S2 => ?_
      subst e0
      refine ⟨{ q0 with H := upd q0.H T (.tup [xv, yv]) }, step_new S2 hTn, sr_new S2 hTn, new_tup S2 hTn ⟨xv, [yv], rfl, RW.move m0 xw xv rx, yv, [], rfl, RW.move m0 yw yv ry, rfl⟩, eH.symm⟩
    · refine .inl ⟨⟨avs, bvs, sa, sb, by omega⟩, dc_end S1 hD (zipW_end (by rw [ra.length, rb.length]; omega)) hT⟩
theorem gs_dcZ {i : Nat} {y : Str} {py spos zp : Pos} (B : BlkD X Wx scope own (.Tuple elts kk tpos) kx vx ifs g tt tk tv) (hp : ∀ xs ys, PutLc X.K g put (own.map (·.2)) (zipW xs ys)) (hc : X.calm = true) (hN : X.N.Nodup) (hy : X.N[i]? = some y) (hyl : X.env.scope.names.lookup y = some .local)
    (hsw : swapsWith (.DictComp kx vx [⟨.Tuple elts kk tpos, .Call (.Name "zip" p) [e, e2] [] zp, ifs, 0⟩] scope pos) (some (.Name y py)) spos.line X.env = pure true) (hg : Gl X "zip") (hm : X.mg "zip" = none) (ha : GA X Wx [e, e2] ml)
    (hs : starEach [e, e2] X.env = (false, eval e X.env) :: starEach [e2] X.env := by rfl) (hpl : (backTo zp (starEach [e2] X.env)).any (·.1) = false := by rfl) (hf : ∀ x, foldedSetIterable (.Call (.Name "zip" p) [e, e2] [] zp) X.env x = pure x := by intro _; rfl) :
    GS X Wx (.Assign [.Name y py] (.DictComp kx vx [⟨.Tuple elts kk tpos, .Call (.Name "zip" p) [e, e2] [] zp, ifs, 0⟩] scope pos) spos) (sSet i (mDcZ (own.map (·.2)) put ml tt tk tv)) :=
  PSimp (ps_setDc hc hN hy hyl hsw (RZ.pi_zipA hg hm ha hs hpl) B.ok B.hg B.ht B.hk B.he hf) fun D σ H h => dcZ_of hp (lc_set h)
end
theorem putLc_zip {K : PySem.W.Frag} {i j : Nat} {own : List Nat} (hi : i ∈ own) (hj : j ∈ own) : ∀ xs ys, PutLc K (gTup K 2 (gNames [i, j])) (putTup [i, j]) own (zipW xs ys) := fun xs ys =>
  putLc_tup (is := [i, j]) (fun k hk => by
    rcases List.mem_cons.mp hk with z | z
    · rw [z]; exact hi
    · rcases List.mem_cons.mp z with z | z
      · rw [z]; exact hj
      · cases z) zipW_two
end Mi

namespace MiSet
open PySem PySem.Spec PyProof.Rows

/-! ### set(l): the set at S grows item by item, J i being what is known of the heap behind i of them -/
def newSet (b : Bool) : Obj := { cls := .type "set", dict := none, data := .set #[] 0 (.fresh 0 0 b) }
def AddOk (pr : Program) (w : World) (A : Around) (S : Addr) (J J2 : Heap → Prop) (v : Value) : Prop :=
  ∀ (E : Value → Shared → Prop) (s : Shared) (Q : Bool → Shared → Prop), J s.heap →
    (∀ b h2 tk, s.toks ≤ tk → Heap.SameBut S s.heap h2 → J2 h2 → Q b { s with heap := h2, toks := tk }) → wpAny (model pr w) A (setAdd S v) Q E s

section
variable {pr : Program} {w : World} {A : Around} {R : Result → Shared → Prop} {I : Addr} {fp wr : List Addr} {G : Array GenState → Array GenState → Prop} {n : Nat} {Pv : Nat → Value → Prop} {St : Nat → Shared → Prop}
theorem grow_loop (Wk : WalksS pr w A.in1 I fp wr G n Pv St) {S : Addr} (nS : S ∉ fp) {J : Nat → Heap → Prop} (keep : ∀ i h h2, J i h → (∀ b o, b ∉ wr → h.get? b = some o → h2.get? b = some o) → J i h2)
    (add : ∀ i v, Pv i v → AddOk pr w A.in1 S (J i) (J (i + 1)) v) : ∀ (k i : Nat) (s : Shared), n = i + k → St i s → J i s.heap →
      (∀ s2, Moved (S :: wr) G s s2 → J n s2.heap → R (.ok (.ret .none)) s2) → codeAny (model pr w) A (.builtin "set.update.loop" ⟨[.ref S, .ref I], []⟩) R s := by
  have more : ∀ b ∈ wr, b ∈ S :: wr := fun _ => List.mem_cons_of_mem _
  intro k
  induction k with
  | zero =>
    rintro i s rfl st j fin
    refine codeAny_builtin PyProof.Rows.F.entry_set_update_loop ?_
    rw [Around.under_plainId PyProof.Rows.F.plain_set_update_loop _]
    show wpAny (model pr w) A.in1 (pyNext (.ref I) >>= _) _ _ s
    refine wpAny_bind (Wk.done s _ _ st ?_)
    intro s2 m
    show wpAny (model pr w) A.in1 (ret .none) _ _ s2
    exact wpAny_pure (fin s2 (m.mono more) (keep _ _ _ j fun b o hb e => m.heap b o hb e))
  | succ k ih =>
    intro i s hn st j fin
    refine codeAny_builtin PyProof.Rows.F.entry_set_update_loop ?_
    rw [Around.under_plainId PyProof.Rows.F.plain_set_update_loop _]
    show wpAny (model pr w) A.in1 (pyNext (.ref I) >>= _) _ _ s
    refine wpAny_bind (Wk.item i s _ _ (by omega) st ?_)
    intro v s2 pv st2 m
    show wpAny (model pr w) A.in1 (holding [v] (setAdd S v) >>= _) _ _ s2
    refine wpAny_bind (wpAny_holding (add i v pv _ s2 _ (keep _ _ _ j fun b o hb e => m.heap b o hb e) ?_))
    intro b h2 tk htk sb j2
    have st3 := Wk.frame _ s2 h2 tk st2 htk fun c hc o e => by
      rw [sb.2 c (fun z : c = S => nS (z ▸ hc))]
      exact e
    refine wpAny_pure ⟨plainId_quiet PyProof.Rows.F.plain_set_update_loop _, ih (i + 1) _ (by omega) st3 j2 fun s4 m4 j4 => fin s4 ?_ j4⟩
    refine Moved.trans Wk.gtrans ((m.mono more).then_heap htk fun c o hc e => ?_) m4
    rw [sb.2 c (fun z : c = S => hc (by rw [z]; exact List.mem_cons_self))]
    exact e
end

section
variable {pr : Program} {w : World} {A : Around} {E : Value → Shared → Prop} {s : Shared}
set_option maxHeartbeats 3200000 in
theorem set_of_list {l : Addr} {items : Array Value} {J : Nat → Heap → Prop} {Q : Value → Shared → Prop} (hh : A.handled = none) (hl : s.heap.IsList l items)
    (start : ∀ (b : Bool) (h : Heap), (∀ c o, s.heap.get? c = some o → h.get? c = some o) → h.get? s.heap.objs.size = some (newSet b) → J 0 h)
    (keep : ∀ i h h2, J i h → (∀ c o, c ≤ s.heap.objs.size → h.get? c = some o → h2.get? c = some o) → J i h2)
    (add : ∀ i v, items[i]? = some v → ∀ A2 : Around, A2.units ≤ A.units + 60 → AddOk pr w A2 s.heap.objs.size (J i) (J (i + 1)) v)
    (fin : ∀ (h2 : Heap) (tk : Nat), J items.size h2 → (∀ c o, c < s.heap.objs.size → s.heap.get? c = some o → h2.get? c = some o) → Q (.ref s.heap.objs.size) { s with heap := h2, toks := tk }) :
    wpAny (model pr w) A (call (.type "set") [.ref l]) Q E s := by
  obtain ⟨mc, mt, hmro⟩ := PySem.F.called_set.mro
  have a1 := PySem.F.called_set.made
  have a2 := PySem.F.called_set.sub
  refine wpAny_call (codeAny_of_tree ?_)
  show wpAny _ _ (callAny (.type "set") ⟨[.ref l], []⟩) _ _ _
  refine wpAny_pure ⟨Code.quiet_builtin _ (by decide +kernel), codeAny_builtin PySem.F.entry_type_call ?_⟩
  rw [Around.under_plain (weight_type_call_type "set" [.ref l] []) rfl]
  have a3 := PySem.F.called_set.notType
  have a4 := PySem.F.called_set.canCreate
  have a5 := PySem.F.typeCall_set_1 (.ref l)
  repeat (any_goals (first | assumption | wp_step))
  refine codeAny_mono (code_set_new_1 (.ref l) (E := E) (Q₁ := fun ob s1 => ∃ b : Bool, ob = .ref s.heap.objs.size ∧ s1 = { s with heap := s.heap.push (newSet b) }) fun b => ⟨b, rfl, rfl⟩) fun r s1 hr => ?_
  cases r with
  | error e => exact hr
  | ok fl =>
   cases fl with
   | ret ob =>
    obtain ⟨b, rfl, rfl⟩ := hr
    have atS : (s.heap.push (newSet b)).get? s.heap.objs.size = some (newSet b) := Heap.get?_push_size _ rfl
    have tyS : Shared.TypeIs { s with heap := s.heap.push (newSet b) } (.ref s.heap.objs.size) "set" := ⟨_, atS, rfl⟩
    have b1 := PySem.F.called_set.init.lookup
    have b2 := PySem.F.called_set.init.bind (.ref s.heap.objs.size)
    repeat (any_goals (first | assumption | wp_step))
    refine codeAny_mono (codeAny_call_builtin (R := wants (fun r s2 => r = .none ∧ ∃ h2 tk, s2 = { s with heap := h2, toks := tk } ∧ J items.size h2 ∧ ∀ c o, c < s.heap.objs.size → s.heap.get? c = some o → h2.get? c = some o) E)
      PySem.F.called_set.init.plain PySem.F.entry_set_init (check_set_init_1 tyS ?_)) fun r2 s2 hr2 => ?_
    · obtain ⟨⟨oc, od, odt, osl⟩, hol, hc, ln, hd⟩ := hl
      simp only at hc hd
      subst hc hd
      have hol2 : (s.heap.push (newSet b)).get? l = some { cls := .type "list", dict := od, data := .seq items ln, slots := osl } := Heap.get?_push_of_some _ hol
      have c1 := PySem.F.sub_list_set
      have c2 := PySem.F.sub_list_frozenset
      have c3 : (Value.type "list" == Value.type "dict") = false := by decide
      have isl : (s.heap.push (newSet b)).IsList l items := ⟨_, hol2, rfl, ln, rfl⟩
      have lt : @LT.lt Nat _ l s.heap.objs.size := Heap.lt_size hol
      have szp : (s.heap.push (newSet b)).objs.size = s.heap.objs.size + 1 := Heap.size_push ..
      unfold Builtin.«set.__init__» noKeywords Builtin.Frozenset.updateFrom
      generalize hPI : pyIter = PI
      wp_walk
      subst hPI
      refine wpAny_pyIter_list isl ?_
      refine wpAny_bind (wpAny_runValue ?_)
      have nl : l ≠ (s.heap.push (newSet b)).objs.size := by
        exact Nat.ne_of_lt (by rw [szp]; exact Nat.lt_succ_of_lt lt)
      have nF : s.heap.objs.size ∉ [(s.heap.push (newSet b)).objs.size, l] := by
        intro z
        rcases List.mem_cons.1 z with z | z
        · exact Nat.ne_of_lt (by rw [szp]; exact Nat.lt_succ_self _) z
        · rcases List.mem_cons.1 z with z | z
          · exact Nat.ne_of_gt lt z
          · cases z
      have nW : ∀ c : Addr, c ≤ s.heap.objs.size → c ∉ [(s.heap.push (newSet b)).objs.size] := by
        intro c hc z
        rcases List.mem_cons.1 z with z | z
        · exact Nat.ne_of_lt (by rw [szp]; exact Nat.lt_succ_of_le hc) z
        · cases z
      refine grow_loop ((Walks.list (by simp [hh]) _ l nl items).toS) (S := s.heap.objs.size) nF (J := J) (fun i h h2 j k => keep i h h2 j fun c o hc e => k c o (nW c hc) e)
        (fun i v hv => add i v hv _ (by simp only [Around.in1_units]; omega)) items.size 0 _ (by omega) ⟨⟨_, Heap.get?_push_size _ rfl, rfl, rfl⟩, isl.push _⟩ (start b _ (fun c o e => Heap.get?_push_of_some _ (Heap.get?_push_of_some _ e)) (Heap.get?_push_of_some _ atS)) ?_
      rintro ⟨h2, g2, d2, tk, os2⟩ m j
      have e1 : g2 = s.gens := m.gens
      have e2 : d2 = s.drawn := m.drawn
      have e3 : os2 = s.os := m.os
      subst e1 e2 e3
      show wpAny _ _ _ _ _ _
      refine wpAny_pure ?_
      show wpAny _ _ (ret Value.none) _ _ _
      refine wpAny_pure ⟨rfl, h2, tk, rfl, j, fun c o hc e => m.heap c o ?_ (Heap.get?_push_of_some _ (Heap.get?_push_of_some _ e))⟩
      intro z
      rcases List.mem_cons.1 z with z | z
      · exact Nat.ne_of_lt hc z
      · exact nW c (Nat.le_of_lt hc) z
    · cases r2 with
      | error e => exact hr2
      | ok fl2 =>
       cases fl2 with
       | ret ob =>
        obtain ⟨rfl, h2, tk, rfl, j, k⟩ := hr2
        repeat (any_goals (first | assumption | wp_step))
        exact fin h2 tk j k
       | _ => exact hr2.elim
   | _ => exact hr.elim
end
end MiSet

namespace MiSet
open PySem PySem.Spec PyProof.Rows L2

section
variable {P : Program} {w : World} {A : Around} {E : Value → Shared → Prop} {s : Shared}
/-- a set of n things: what len asks -/
def SizeIs (h : Heap) (S : Addr) (n : Nat) : Prop := ∃ o es ep t, h.get? S = some o ∧ o.ExactSet ∧ o.data = .set es ep t ∧ t.fits es.size = true ∧ es.size = n
abbrev TxtT (P : Program) (w : World) (h : Heap) (ks : List Str) (b : Addr) : Prop := IsTupleKey (PySem.strKind P w) h ks b
theorem txt_items {k : List Str} {vs : List Value} (h : ItemsAre (PySem.strKind P w) k vs) : ∀ v ∈ vs, ∃ x t, v = Value.str x t := by
  induction h with
  | nil => exact fun _ z => nomatch z
  | cons h1 _ ih =>
    intro v hv
    rcases List.mem_cons.mp hv with e | hv
    · obtain ⟨t, e2⟩ := Value.isStrOf_shape h1
      exact ⟨_, t, by rw [e, e2]⟩
    · exact ih v hv
theorem hashBy_txt (n : Nat) (x : Str) (t : Tok) : hashByValue n (.str x t) = pure false := by
  cases n with
  | zero => rfl
  | succ n => rfl
theorem hashBy_txts {k : List Str} {b : Addr} {Q : Bool → Shared → Prop} (hk : TxtT P w s.heap k b) (h : ∀ c, Q c s) : wpAny (model P w) A (hashByValue 8 (.ref b)) Q E s := by
  have ty := hk.typeIs
  obtain ⟨ob, its, m, hb, _, dt, ia⟩ := hk
  unfold hashByValue
  refine wpAny_bind (wpAny_specialOf ty F.slot_tuple_hash.lookup ?_)
  show wpAny _ _ (seqItems? (.ref b) >>= _) _ _ s
  refine wpAny_bind (wpAny_seqItems hb dt ?_)
  refine wpAny_bind ?_
  show wpAny _ _ (forIn its _ _) _ _ s
  rw [← Array.forIn_toList]
  refine wpAny_forIn_list _ (fun rest r z => r.1 = none ∧ z = s ∧ ∀ v ∈ rest, ∃ x t, v = Value.str x t) _ ?_ ?_ _ _ ⟨rfl, rfl, txt_items ia⟩
  · rintro v rest r z ⟨_, rfl, all⟩
    obtain ⟨x, t, rfl⟩ := all v List.mem_cons_self
    rw [hashBy_txt]
    refine wpAny_bind (wpAny_pure ?_)
    simp only [Bool.not_false, if_true]
    exact wpAny_pure (wpAny_pure (h false))
  · rintro ⟨r1, r2⟩ z ⟨e, rfl, _⟩
    have e' : r1 = none := e
    subst e'
    exact wpAny_pure (h true)
theorem fresh_fits (b : Bool) : (SetTable.fresh 0 0 b).fits (#[] : Array (Int × Value)).size = true := rfl
theorem fresh_tab (b : Bool) : TabOk (SetTable.fresh 0 0 b) [] := ⟨List.Pairwise.nil, rfl, rfl, .inl rfl, fun x hx => (by cases hx), fun i h j hi => (by simp at hi)⟩
/-- a first tuple of texts -/
theorem add_first {S b : Addr} {led : Bool} {k : List Str} {h : Int} {Q : Bool → Shared → Prop} (ho : s.heap.get? S = some (newSet led)) (hk : TxtT P w s.heap k b)
    (hQ : ∀ h2, Heap.SameBut S s.heap h2 → SizeIs h2 S 1 → Q true { s with heap := h2 }) : wpAny (model P w) A (setAddHashed S (.ref b) h) Q E s := by
  have T := fresh_tab led
  have none0 : way 7 h 0 ∉ (SetTable.fresh 0 0 led).place.toList := fun z => nomatch z
  obtain ⟨_, _, q3, _, _, q6, _, _, q9⟩ := T.put (h := h) (K := 0) none0 (fun k hk => absurd hk (Nat.not_lt_zero _))
  unfold setAddHashed
  refine wpAny_holding ?_
  rw [show (100000 : Nat) = 99999 + 1 from rfl, setAddHashedIn_succ]
  refine wpAny_bind (wpAny_setState_of ho rfl (fresh_fits led) ?_)
  dsimp only
  refine wp_if_neg (by simp [byScan, Value.scannable]) ?_
  try refine wpAny_bind (wpAny_pure ?_)
  refine wpAny_bind ?_
  unfold setSearch
  rw [show (100000 : Nat) = 99999 + 1 from rfl, setSearchFrom_succ]
  refine wpAny_bind (wpAny_setState_of ho rfl (fresh_fits led) ?_)
  dsimp only
  refine wp_if_neg (by unfold SetTable.gaveWay; show ¬ ((7 % 2 == 0) = true); decide) ?_
  try refine wpAny_bind (wpAny_pure ?_)
  change wpAny _ _ (Sem.pure (SetFound.free (way 7 h 0) false)) _ _ _
  refine wpAny_pure ?_
  dsimp only
  refine wpAny_bind (wpAny_setState_of ho rfl (fresh_fits led) ?_)
  dsimp only
  have pl : ((SetTable.fresh 0 0 led).put (way 7 h 0)).1.plain = true := q6
  have q3' : TabOk ((SetTable.fresh 0 0 led).put (way 7 h 0)).1 [h] := by
    have z := q3
    simp only [List.take_nil, List.drop_nil, List.nil_append] at z
    exact z
  have q9' : ((SetTable.fresh 0 0 led).put (way 7 h 0)).1.fill = 1 := q9
  have mk : ((SetTable.fresh 0 0 led).put (way 7 h 0)).1.mask = 7 := by assumption
  generalize (SetTable.fresh 0 0 led).put (way 7 h 0) = pt at pl q3' q9' mk ⊢
  obtain ⟨t1, p⟩ := pt
  dsimp only at pl q3' q9' mk ⊢
  first
    | (refine wpAny_bind ?_; refine wp_if_pos pl ?_; refine hashBy_txts hk fun c => ?_)
    | refine wp_if_pos pl (wpAny_bind (hashBy_txts hk fun c => ?_))
  have t2q : ∃ t2 : SetTable, (if c = true then t1 else { t1 with plain := false }) = t2 ∧ t2.fill = 1 ∧ t2.mask = 7 ∧ t2.place.size = 1 := by
    have z := q3'.sz
    rw [List.length_singleton] at z
    cases c with
    | true => exact ⟨_, rfl, q9', mk, z⟩
    | false => exact ⟨_, rfl, q9', mk, z⟩
  obtain ⟨t2, et, tf, tm, tp⟩ := t2q
  rw [et]
  have sz : (SetTable.insertAt (#[] : Array (Int × Value)) p (h, Value.ref b)).size = 1 := by
    rw [← Array.length_toList, SetTable.toList_insertAt]
    simp
  generalize SetTable.insertAt (#[] : Array (Int × Value)) p (h, Value.ref b) = es1 at sz ⊢
  refine wpAny_bind (wpAny_storeSet_of ho rfl ?_ (by rw [sz, sizeLine_eq]; omega))
  have full : ¬ (t2.tooFull = true) := by
    unfold SetTable.tooFull
    rw [tf, tm]
    decide
  have sb : Heap.SameBut S s.heap (s.heap.update S (Obj.putSet es1 t2)) := Heap.SameBut.update ..
  have at1 : (s.heap.update S (Obj.putSet es1 t2)).get? S = some { newSet led with data := .set es1 (0 + 1) t2 } := by
    have z := Heap.get?_update_self (Obj.putSet es1 t2) ho (by rw [putSet_of es1 t2 rfl]; rfl)
    rw [z, putSet_of es1 t2 rfl]
  have fits : t2.fits es1.size = true := by
    unfold SetTable.fits
    rw [sz, tf, tm, tp]
    rfl
  have fin := hQ _ sb ⟨_, es1, 0 + 1, t2, at1, ⟨rfl, rfl, rfl⟩, rfl, fits, sz⟩
  first
    | (refine wp_if_neg (by simp [full]) ?_; exact wpAny_pure fin)
    | (refine wpAny_bind ?_; refine wp_if_neg (by simp [full]) ?_; refine wpAny_pure ?_; exact wpAny_pure fin)
end
end MiSet

namespace MiSet
open PySem PySem.Spec PyProof.Rows L2

/-! ### sets of different tuples of texts -/
section
variable {P : Program} {w : World} {A : Around} {E : Value → Shared → Prop} {s : Shared}
abbrev thx (P : Program) (w : World) (k : List Str) : Int := tupleKeyHash (PySem.strKind P w) k
theorem ofA_txt (n : Nat) (x : Str) (t : Tok) : ofAClassStatement n (.str x t) = pure false := by
  cases n with
  | zero => rfl
  | succ n => rfl
theorem ofA_txts {k : List Str} {b : Addr} {Q : Bool → Shared → Prop} (hk : TxtT P w s.heap k b) (h : Q false s) : wpAny (model P w) A (ofAClassStatement 8 (.ref b)) Q E s := by
  have ty := hk.typeIs
  obtain ⟨ob, its, m, hb, _, dt, ia⟩ := hk
  unfold ofAClassStatement
  refine wpAny_bind (wpAny_typeOf ty ?_)
  dsimp only
  simp only [show (("tuple" : String) == "tuple") = true from by decide, if_true, Bool.not_true, Bool.false_eq_true, if_false]
  try refine wpAny_bind (wpAny_pure ?_)
  try simp only [Bool.not_true, Bool.false_eq_true, if_false]
  refine wpAny_bind (wpAny_seqItems hb dt ?_)
  dsimp only
  refine wpAny_bind ?_
  rw [← Array.forIn_toList]
  refine wpAny_forIn_list _ (fun rest r z => r.1 = none ∧ z = s ∧ ∀ v ∈ rest, ∃ x t, v = Value.str x t) _ ?_ ?_ _ _ ⟨rfl, rfl, txt_items ia⟩
  · rintro v rest r z ⟨er, rfl, all⟩
    obtain ⟨x, t, rfl⟩ := all v List.mem_cons_self
    rw [ofA_txt]
    refine wpAny_bind (wpAny_pure ?_)
    simp only [Bool.false_eq_true, if_false]
    exact wpAny_pure ⟨rfl, rfl, fun u z => all u (List.mem_cons_of_mem _ z)⟩
  · rintro ⟨r1, r2⟩ z ⟨e, rfl, _⟩
    have e' : r1 = none := e
    subst e'
    exact wpAny_pure h
def IsTx (P : Program) (w : World) (h : Heap) (v : Value) : Prop := ∃ k b, v = .ref b ∧ TxtT P w h k b
theorem seen_txts {k : List Str} {b : Addr} {ys : List Value} {Q : Bool → Shared → Prop} (hk : TxtT P w s.heap k b) (hy : ∀ y ∈ ys, IsTx P w s.heap y) (h : Q false s) : wpAny (model P w) A (searchCouldBeSeen (.ref b) ys) Q E s := by
  unfold searchCouldBeSeen
  refine wpAny_bind (wpAny_forIn_list _ (fun rest r z => r.1 = none ∧ z = s ∧ ∀ y ∈ rest, IsTx P w s.heap y) _ ?_ ?_ _ _ ⟨rfl, rfl, hy⟩)
  · rintro v rest r z ⟨er, rfl, all⟩
    have all2 : ∀ y ∈ rest, IsTx P w z.heap y := fun u q => all u (List.mem_cons_of_mem _ q)
    obtain ⟨k2, c, rfl, hc⟩ := all v List.mem_cons_self
    dsimp only
    by_cases q : (b == c || (carriedByValue (.ref b) && carriedByValue (.ref c))) = true
    · exact wp_if_pos q (wpAny_pure ⟨rfl, rfl, all2⟩)
    · refine wp_if_neg q (wpAny_bind (wpAny_eqIsQuiet_tuple hk ?_))
      simp only [Bool.not_true, Bool.false_eq_true, if_false]
      refine wpAny_bind (wpAny_eqIsQuiet_tuple hc ?_)
      simp only [Bool.not_true, Bool.false_eq_true, if_false]
      refine wpAny_bind (ofA_txts hk ?_)
      simp only [Bool.false_eq_true, if_false]
      refine wpAny_bind (ofA_txts hc ?_)
      simp only [Bool.false_eq_true, if_false]
      exact wpAny_pure ⟨rfl, rfl, all2⟩
  · rintro ⟨r1, r2⟩ z ⟨e, rfl, _⟩
    have e' : r1 = none := e
    subst e'
    exact wpAny_pure h
/-- the set at S of the tuples whose texts are ks -/
structure TS (P : Program) (w : World) (h : Heap) (S : Addr) (ks : List (List Str)) (es : Array (Int × Value)) (ep : Nat) (t : SetTable) : Prop where
  ob : ∃ o, h.get? S = some o ∧ o.ExactSet ∧ o.data = .set es ep t
  tab : TabOk t (es.toList.map (·.1))
  keys : ∀ e ∈ es.toList, ∃ k b, k ∈ ks ∧ e = (thx P w k, Value.ref b) ∧ TxtT P w h k b ∧ @LT.lt Nat _ b S
  size : es.size = ks.length
  room : es.size * 5 < t.mask * 3
  few : es.size < 60
variable {S : Addr} {ks : List (List Str)} {es : Array (Int × Value)} {ep : Nat} {t : SetTable}
theorem fits_of (T : TabOk t (es.toList.map (·.1))) (h : es.size ≤ t.mask) : t.fits es.size = true := by
  have z := T.sz
  rw [List.length_map, Array.length_toList] at z
  unfold SetTable.fits SetTable.fill
  rw [T.dm, z, Bool.and_eq_true, beq_iff_eq, decide_eq_true_eq]
  exact ⟨rfl, h⟩
theorem TS.fits (R : TS P w s.heap S ks es ep t) : t.fits es.size = true := fits_of R.tab (by have := R.room; omega)
theorem nth_dummy (m : Nat) : ∀ (n : Nat) (p : SetTable.Probe), p.dummy = none → (nth m p n).dummy = none
  | 0, p, h => h
  | n + 1, p, h => nth_dummy m n (adv m p) (by unfold adv; split <;> exact h)
theorem seek (R : TS P w s.heap S ks es ep t) {x : Addr} {k : List Str} (hx : TxtT P w s.heap k x) (hu : A.units < cLine) (new : k ∉ ks) {K : Nat} (hKf : K < 10 * SetTable.turns t.mask)
    (hK : way t.mask (thx P w k) K ∉ t.place.toList) (hKb : ∀ c, c < K → way t.mask (thx P w k) c ∈ t.place.toList) {Q : SetFound → Shared → Prop} (fin : Q (.free (way t.mask (thx P w k) K) false) s) :
    ∀ (f c : Nat) (stand : Option SetTable.Probe), stand.getD (t.probeStart (thx P w k)) = nth t.mask (runAt t.mask (SetTable.bits (thx P w k) % (t.mask + 1)) (SetTable.bits (thx P w k))) c → c ≤ K → K - c < f →
      wpAny (model P w) A (setSearchFrom S (.ref x) (thx P w k) true f stand) Q E s := by
  intro f
  induction f with
  | zero => exact fun c stand _ _ hf => absurd hf (Nat.not_lt_zero _)
  | succ f ih =>
    intro c stand hst hc hf
    obtain ⟨o, ho, hex, hd⟩ := R.ob
    have hgw : ¬ t.gaveWay = true := by
      unfold SetTable.gaveWay
      rw [mask_odd R.tab.mok]
      decide
    have at1 : ∀ q, (nth t.mask (nth t.mask (runAt t.mask (SetTable.bits (thx P w k) % (t.mask + 1)) (SetTable.bits (thx P w k))) c) q).j = way t.mask (thx P w k) (c + q) := fun q => congrArg SetTable.Probe.j (nth_add t.mask c _ q).symm
    have sp := go_spec t R.tab.ris R.tab.dm (fun i => (es[i]?.map (·.1)).getD 0) (thx P w k) (10 * SetTable.turns t.mask) (K - c) (nth t.mask (runAt t.mask (SetTable.bits (thx P w k) % (t.mask + 1)) (SetTable.bits (thx P w k))) c) (nth_dummy _ _ _ rfl) (by omega)
      (fun q hq => by rw [at1]; exact hKb (c + q) (by omega)) (by rw [at1, show c + (K - c) = K by omega]; exact hK)
    rw [setSearchFrom_succ]
    refine wpAny_bind (wpAny_setState_of ho hd R.fits ?_)
    dsimp only
    refine wp_if_neg hgw ?_
    try refine wpAny_bind (wpAny_pure ?_)
    rcases sp with ⟨q, i, hq, hi, _, _, hpr⟩ | ⟨_, hpr⟩
    · -- one with the same hash, another one
      rw [at1] at hi hpr
      rw [← nth_add] at hpr
      have hpr2 : t.probe (fun i => (es[i]?.map (·.1)).getD 0) (thx P w k) (stand.getD (t.probeStart (thx P w k))) = some (.candidate (way t.mask (thx P w k) (c + q)) i (nth t.mask (runAt t.mask (SetTable.bits (thx P w k) % (t.mask + 1)) (SetTable.bits (thx P w k))) (c + (q + 1)))) := by
        rw [hst]
        exact hpr
      rw [hpr2]
      dsimp only
      have hil : i < es.size := by
        have h1 : i < t.place.toList.length := (List.getElem?_eq_some_iff.mp hi).1
        have h2 := R.tab.sz
        rw [List.length_map, Array.length_toList] at h2
        rw [Array.length_toList] at h1
        omega
      have hei : es[i]? = some es[i] := Array.getElem?_eq_getElem hil
      obtain ⟨k2, b, hk2, hee, hb, _⟩ := R.keys es[i] (Array.getElem_mem_toList hil)
      have hne : k2 ≠ k := fun z => new (z ▸ hk2)
      have rest : wpAny (model P w) A (searchRest S (.ref x) (thx P w k) true f es t (way t.mask (thx P w k) (c + q)) i (nth t.mask (runAt t.mask (SetTable.bits (thx P w k) % (t.mask + 1)) (SetTable.bits (thx P w k))) (c + (q + 1)))) Q E s := by
        have hsl : t.slot (way t.mask (thx P w k) (c + q)) = .live i := slot_live R.tab.ris hi
        unfold searchRest
        rw [hei, hee]
        dsimp only
        refine wpAny_bind (wpAny_holding (wpAny_eqBool_tuple hu hb hx ?_))
        rw [decide_eq_false hne]
        refine wpAny_bind (wpAny_setState_of ho hd R.fits ?_)
        dsimp only
        refine wp_if_neg (by simp) ?_
        try refine wpAny_bind (wpAny_pure ?_)
        rw [sameMem]
        dsimp only
        simp only [if_true, hsl, hei, hee]
        refine wpAny_bind (wpAny_isSame_ref_self (wpAny_bind (wpAny_pure ?_)))
        simp only [if_true]
        refine wp_if_neg (by simp) ?_
        exact ih (c + (q + 1)) _ rfl (by omega) (by omega)
      by_cases hl : t.led = true
      · refine wp_if_neg (by simp [hl]) ?_
        try refine wpAny_bind (wpAny_pure ?_)
        exact rest
      · refine wp_if_pos (by simp [hl]) (wpAny_bind (seen_txts hx (fun y hy => ?_) ?_))
        · obtain ⟨e, he, rfl⟩ := List.mem_map.mp hy
          have he2 : e ∈ es.toList := by
            have he1 : e ∈ es ∧ e.1 = thx P w k := by simpa using he
            simpa using he1.1
          obtain ⟨k3, b3, _, e3, h3, _⟩ := R.keys e he2
          exact ⟨k3, b3, by rw [e3], h3⟩
        · refine wp_if_neg (by decide) ?_
          try refine wpAny_bind (wpAny_pure ?_)
          exact rest
    · have hpr2 : t.probe (fun i => (es[i]?.map (·.1)).getD 0) (thx P w k) (stand.getD (t.probeStart (thx P w k))) = some (.empty (way t.mask (thx P w k) K) none) := by
        rw [hst]
        rw [at1, show c + (K - c) = K by omega] at hpr
        exact hpr
      rw [hpr2]
      exact wpAny_pure fin
end
end MiSet

namespace MiSet
open PySem PySem.Spec PyProof.Rows L2

section
variable {P : Program} {w : World} {A : Around} {E : Value → Shared → Prop} {s : Shared}
theorem order_of (es : Array (Int × Value)) : ∀ l : List Nat, (∀ i ∈ l, i < es.size) → (l.filterMap fun i => es[i]?).length = l.length ∧ ((l.filterMap fun i => es[i]?).map (·.1)) = (l.map fun i => (es.map (·.1)).getD i 0) ∧ ∀ e ∈ l.filterMap fun i => es[i]?, e ∈ es.toList
  | [], _ => ⟨rfl, rfl, fun e h => nomatch h⟩
  | i :: l, h => by
    obtain ⟨a, b, c⟩ := order_of es l fun j hj => h j (List.mem_cons_of_mem _ hj)
    have hi := h i List.mem_cons_self
    have e : es[i]? = some es[i] := Array.getElem?_eq_getElem hi
    have e2 : (es.map (·.1)).getD i 0 = es[i].1 := by
      have z : (es.map (·.1))[i]? = some es[i].1 := by
        rw [Array.getElem?_map, e]
        rfl
      simp [Array.getD_eq_getD_getElem?, z]
    rw [List.filterMap_cons_some e]
    refine ⟨by rw [List.length_cons, List.length_cons, a], by rw [List.map_cons, List.map_cons, b, e2], fun x hx => ?_⟩
    rcases List.mem_cons.mp hx with rfl | hx
    · exact Array.getElem_mem_toList hi
    · exact c x hx
theorem put_at {S : Addr} {o : Obj} {es es2 : Array (Int × Value)} {ep : Nat} {t t2 : SetTable} (ho : s.heap.get? S = some o) (hd : o.data = .set es ep t) : (s.heap.update S (Obj.putSet es2 t2)).get? S = some { o with data := .set es2 (ep + 1) t2 } := by
  have z := Heap.get?_update_self (Obj.putSet es2 t2) ho (by rw [putSet_of es2 t2 hd]; rfl)
  rw [z, putSet_of es2 t2 hd]
theorem txt_same {h h2 : Heap} {k : List Str} {S b : Addr} {o : Obj} {es : Array (Int × Value)} {ep : Nat} {t : SetTable} (hb : TxtT P w h k b) (ho : h.get? S = some o) (hd : o.data = .set es ep t) (sb : Heap.SameBut S h h2) : TxtT P w h2 k b := by
  obtain ⟨o2, its, n, h1, hc, hd2, hi⟩ := hb
  refine ⟨o2, its, n, (sb.2 b fun z => ?_).trans h1, hc, hd2, hi⟩
  rw [z, ho] at h1
  cases h1
  rw [hd] at hd2
  cases hd2
variable {S : Addr} {ks : List (List Str)} {es : Array (Int × Value)} {ep : Nat} {t : SetTable}
/-- the table is laid anew -/
theorem relay_new {o : Obj} (ho : s.heap.get? S = some o) (hex : o.ExactSet) (hd : o.data = .set es ep t) (T : TabOk t (es.toList.map (·.1))) (hfl : es.size ≤ t.mask) (hk : ∀ e ∈ es.toList, ∃ k b, k ∈ ks ∧ e = (thx P w k, Value.ref b) ∧ TxtT P w s.heap k b ∧ @LT.lt Nat _ b S) (sz : es.size = ks.length)
    {wanted M : Nat} (hw : SetTable.sizeAbove wanted - 1 = M) (hM : MaskOk M) (hw2 : SetTable.sizeAbove wanted ≤ 128) (hn : es.size * 5 < M * 3) (few : es.size < 60) {Q : Unit → Shared → Prop}
    (hQ : ∀ h2 es2 ep2 t2, Heap.SameBut S s.heap h2 → TS P w h2 S ks es2 ep2 t2 → Q () { s with heap := h2 }) : wpAny (model P w) A (setRelay S wanted) Q E s := by
  obtain ⟨t2, order, e, hp, T2, em, _, _, _⟩ := relaid_ok t (hs := es.map (·.1)) (wanted := wanted) hw hM (by rw [Array.size_map]; omega)
  rw [Array.size_map] at hp
  obtain ⟨a, b, c⟩ := order_of es order.toList fun i hi => List.mem_range.mp (hp.mem_iff.mp hi)
  have tl : (order.filterMap (es[·]?)).toList = order.toList.filterMap fun i => es[i]? := by simp
  have s2 : (order.filterMap (es[·]?)).size = es.size := by
    rw [← Array.length_toList, tl, a, hp.length_eq, List.length_range]
  rw [← b, ← tl] at T2
  rw [setRelay_eq]
  refine wpAny_bind (wpAny_setState_of ho hd (fits_of T hfl) ?_)
  dsimp only
  refine wp_if_neg (by rw [sizeLine_eq]; omega) ?_
  try refine wpAny_bind (wpAny_pure ?_)
  rw [e]
  dsimp only
  refine wpAny_bind ?_
  refine wp_if_neg (by rw [s2]; simp) ?_
  try refine wpAny_bind (wpAny_pure ?_)
  refine wpAny_pure ?_
  dsimp only
  refine wpAny_storeSet_of ho hd ?_ (by rw [s2, sizeLine_eq]; omega)
  have sb : Heap.SameBut S s.heap (s.heap.update S (Obj.putSet (order.filterMap (es[·]?)) t2)) := Heap.SameBut.update ..
  refine hQ _ _ (ep + 1) t2 sb ⟨⟨_, put_at ho hd, ⟨hex.1, hex.2.1, hex.2.2⟩, rfl⟩, T2, fun x hx => ?_, s2.trans sz, by rw [s2, em]; exact hn, by rw [s2]; exact few⟩
  rw [tl] at hx
  obtain ⟨k, b2, h1, h2, h3, h4⟩ := hk x (c x hx)
  exact ⟨k, b2, h1, h2, txt_same h3 ho hd sb, h4⟩
theorem add_new (R : TS P w s.heap S ks es ep t) {x : Addr} {k : List Str} (hx : TxtT P w s.heap k x) (hu : A.units < cLine) (new : k ∉ ks) (lt : @LT.lt Nat _ x S) (hfew : es.size + 1 < 60) {Q : Bool → Shared → Prop}
    (hQ : ∀ h2 es2 ep2 t2, Heap.SameBut S s.heap h2 → TS P w h2 S (k :: ks) es2 ep2 t2 → Q true { s with heap := h2 }) : wpAny (model P w) A (setAddHashed S (.ref x) (thx P w k)) Q E s := by
  obtain ⟨o, ho, hex, hd⟩ := R.ob
  have room := R.room
  obtain ⟨K, hKf, hK, hKb⟩ := R.tab.first (by rw [List.length_map, Array.length_toList]; omega) (thx P w k)
  have Kf : K < 100000 := by
    have : 10 * SetTable.turns t.mask ≤ 1420 := by
      unfold SetTable.turns
      rcases R.tab.mok with e | e | e <;> omega
    omega
  obtain ⟨q1, q2, q3, q4, _, _, _, _, q9⟩ := R.tab.put hK hKb
  unfold setAddHashed
  refine wpAny_holding ?_
  rw [show (100000 : Nat) = 99999 + 1 from rfl, setAddHashedIn_succ]
  refine wpAny_bind (wpAny_setState_of ho hd R.fits ?_)
  dsimp only
  refine wp_if_neg (by simp [byScan, Value.scannable]) ?_
  try refine wpAny_bind (wpAny_pure ?_)
  refine wpAny_bind ?_
  unfold setSearch
  refine seek R hx hu new hKf hK hKb ?_ 100000 0 none rfl (Nat.zero_le _) (by omega)
  dsimp only
  refine wpAny_bind (wpAny_setState_of ho hd R.fits ?_)
  dsimp only
  generalize hpt : t.put (way t.mask (thx P w k) K) = pt at q1 q3 q4 q9 ⊢
  obtain ⟨t1, p⟩ := pt
  dsimp only at q1 q3 q4 q9 ⊢
  subst q1
  have esl : (SetTable.insertAt es (SetTable.below t.place (way t.mask (thx P w k) K)) (thx P w k, Value.ref x)).toList = es.toList.take (SetTable.below t.place (way t.mask (thx P w k) K)) ++ (thx P w k, Value.ref x) :: es.toList.drop (SetTable.below t.place (way t.mask (thx P w k) K)) := SetTable.toList_insertAt _ _ _
  generalize SetTable.below t.place (way t.mask (thx P w k) K) = p at q2 q3 esl ⊢
  have hes : (SetTable.insertAt es p (thx P w k, Value.ref x)).size = es.size + 1 := by
    have z := congrArg List.length esl
    rw [List.length_map, Array.length_toList] at q2
    rw [Array.length_toList, List.length_append, List.length_cons, List.length_take, List.length_drop, Array.length_toList] at z
    omega
  have hh : (SetTable.insertAt es p (thx P w k, Value.ref x)).toList.map (·.1) = (es.toList.map (·.1)).take p ++ thx P w k :: (es.toList.map (·.1)).drop p := by
    rw [esl, List.map_append, List.map_cons, List.map_take, List.map_drop]
  rw [← hh] at q3
  have hm : ∀ e ∈ (SetTable.insertAt es p (thx P w k, Value.ref x)).toList, e = (thx P w k, Value.ref x) ∨ e ∈ es.toList := by
    intro e he
    rw [esl] at he
    rcases List.mem_append.mp he with z | z
    · exact .inr (List.mem_of_mem_take z)
    · rcases List.mem_cons.mp z with z | z
      · exact .inl z
      · exact .inr (List.mem_of_mem_drop z)
  rw [List.length_map, Array.length_toList] at q9
  generalize SetTable.insertAt es p (thx P w k, Value.ref x) = es1 at hes hh q3 hm ⊢
  have after : ∀ c : Bool, wpAny (model P w) A (do
      storeSet S es1 (if c = true then t1 else { t1 with plain := false })
      if (!false && (if c = true then t1 else { t1 with plain := false }).tooFull) = true then do
        setRelay S (SetTable.grown (es.size + 1))
        return true
      else return true) Q E s := by
    intro c
    have t2q : ∃ t2 : SetTable, (if c = true then t1 else { t1 with plain := false }) = t2 ∧ TabOk t2 (es1.toList.map (·.1)) ∧ t2.mask = t.mask ∧ t2.fill = es.size + 1 := by
      cases c with
      | true => exact ⟨_, rfl, q3, q4, q9⟩
      | false => exact ⟨_, rfl, ⟨q3.ris, q3.dm, q3.sz, q3.mok, q3.bd, q3.reach⟩, q4, q9⟩
    obtain ⟨t2, et, T2, tm, tf⟩ := t2q
    rw [et]
    refine wpAny_bind (wpAny_storeSet_of ho hd ?_ (by rw [hes, sizeLine_eq]; omega))
    have sb : Heap.SameBut S s.heap (s.heap.update S (Obj.putSet es1 t2)) := Heap.SameBut.update ..
    have at1 := put_at (es2 := es1) (t2 := t2) ho hd
    generalize s.heap.update S (Obj.putSet es1 t2) = h1 at sb at1 ⊢
    have keys : ∀ e ∈ es1.toList, ∃ k2 b, k2 ∈ k :: ks ∧ e = (thx P w k2, Value.ref b) ∧ TxtT P w h1 k2 b ∧ @LT.lt Nat _ b S := fun e he => by
      rcases hm e he with rfl | z
      · exact ⟨k, x, List.mem_cons_self, rfl, txt_same hx ho hd sb, lt⟩
      · obtain ⟨k2, b, a1, a2, a3, a4⟩ := R.keys e z
        exact ⟨k2, b, List.mem_cons_of_mem _ a1, a2, txt_same a3 ho hd sb, a4⟩
    have sz : es1.size = (k :: ks).length := by rw [hes, List.length_cons, R.size]
    by_cases hf : t2.tooFull = true
    · refine wp_if_pos (by simp [hf]) (wpAny_bind ?_)
      have full : (es.size + 1) * 5 ≥ t.mask * 3 := by
        have z := hf
        unfold SetTable.tooFull at z
        rw [decide_eq_true_eq, tf, tm] at z
        exact z
      have go : ∀ M, SetTable.sizeAbove (SetTable.grown (es.size + 1)) - 1 = M → MaskOk M → SetTable.sizeAbove (SetTable.grown (es.size + 1)) ≤ 128 → (es.size + 1) * 5 < M * 3 →
          wpAny (model P w) A (setRelay S (SetTable.grown (es.size + 1))) (fun _ s2 => wpAny (model P w) A (pure true) Q E s2) E { s with heap := h1 } := fun M a1 a2 a3 a4 =>
        relay_new (s := { s with heap := h1 }) (ks := k :: ks) at1 ⟨hex.1, hex.2.1, hex.2.2⟩ rfl T2 (by rw [hes, tm]; omega) keys sz a1 a2 a3 (by rw [hes]; exact a4) (by rw [hes]; exact hfew) fun h2 es2 ep2 t3 sb2 R2 => wpAny_pure (hQ h2 es2 ep2 t3 (sb.trans sb2) R2)
      have few := R.few
      rcases R.tab.mok with e | e | e
      · have e4 : es.size = 4 := by
          rw [e] at full room
          omega
        exact go 31 (by rw [e4, size_20]) (.inr (.inl rfl)) (by rw [e4, size_20]; decide) (by omega)
      · have e4 : es.size = 18 := by
          rw [e] at full room
          omega
        exact go 127 (by rw [e4, size_76]) (.inr (.inr rfl)) (by rw [e4, size_76]; decide) (by omega)
      · rw [e] at full
        omega
    · refine wp_if_neg (by simp [hf]) (wpAny_pure (hQ h1 es1 (ep + 1) t2 sb ⟨⟨_, at1, ⟨hex.1, hex.2.1, hex.2.2⟩, rfl⟩, T2, keys, sz, ?_, by rw [hes]; exact hfew⟩))
      have z := hf
      unfold SetTable.tooFull at z
      rw [decide_eq_true_eq, tf, tm] at z
      rw [hes, tm]
      omega
  by_cases pl : t1.plain = true
  · first
      | (refine wpAny_bind ?_; refine wp_if_pos pl ?_; refine hashBy_txts hx fun c => ?_; exact after c)
      | exact wp_if_pos pl (wpAny_bind (hashBy_txts hx fun c => after c))
  · first
      | (refine wpAny_bind ?_; refine wp_if_neg pl ?_; refine wpAny_pure ?_; exact after true)
      | exact wp_if_neg pl (wpAny_bind (wpAny_pure (after true)))
end
end MiSet

namespace Mi
open PySem PySem.Spec PyProof.Rows L2 MiSet
section
variable {P : Program} {w : World} {A : Around} {E : Value → Shared → Prop} {s : Shared}
/-- what stands in the list: tuples of the texts kss -/
def TxtsAt (P : Program) (w : World) (h : Heap) (S : Addr) : List (List Str) → List Value → Prop
  | [], us => us = []
  | ks :: r, us => ∃ b us2, us = .ref b :: us2 ∧ TxtT P w h ks b ∧ @LT.lt Nat _ b S ∧ TxtsAt P w h S r us2
theorem TxtsAt.len {P : Program} {w : World} {h : Heap} {S : Addr} : ∀ {kss : List (List Str)} {us : List Value}, TxtsAt P w h S kss us → us.length = kss.length
  | [], us, e => by rw [show us = [] from e]; rfl
  | ks :: r, us, ⟨b, us2, e, _, _, t⟩ => by rw [e, List.length_cons, List.length_cons, t.len]
theorem TxtsAt.kept {P : Program} {w : World} {h h2 : Heap} {S : Addr} (k : ∀ c o, @LT.lt Nat _ c S → h.get? c = some o → h2.get? c = some o) : ∀ {kss : List (List Str)} {us : List Value}, TxtsAt P w h S kss us → TxtsAt P w h2 S kss us
  | [], us, e => e
  | ks :: r, us, ⟨b, us2, e, ⟨o, its, n, ho, z⟩, lt, t⟩ => ⟨b, us2, e, ⟨o, its, n, k b o lt ho, z⟩, lt, t.kept k⟩
theorem TxtsAt.nth {P : Program} {w : World} {h : Heap} {S : Addr} : ∀ {kss : List (List Str)} {us : List Value}, TxtsAt P w h S kss us → ∀ (i : Nat) (v : Value), us[i]? = some v → ∃ b ks, v = .ref b ∧ kss[i]? = some ks ∧ TxtT P w h ks b ∧ @LT.lt Nat _ b S
  | [], us, e, i, v, hv => by
    rw [show us = [] from e] at hv
    simp at hv
  | ks :: r, us, ⟨b, us2, e, tx, lt, t⟩, i, v, hv => by
    subst e
    cases i with
    | zero =>
      have e : Value.ref b = v := by simpa using hv
      exact ⟨b, ks, e.symm, rfl, tx, lt⟩
    | succ i =>
      obtain ⟨b2, ks2, e1, e2, e3⟩ := t.nth i v (by simpa using hv)
      exact ⟨b2, ks2, e1, by simpa using e2, e3⟩
theorem newTS {h : Heap} {S : Addr} {led : Bool} (at1 : h.get? S = some (MiSet.newSet led)) : TS P w h S [] #[] 0 (SetTable.fresh 0 0 led) :=
  ⟨⟨_, at1, ⟨rfl, rfl, rfl⟩, rfl⟩, fresh_tab led, fun e he => (nomatch he), rfl, (by show 0 < 7 * 3; omega), (by show 0 < 60; omega)⟩
theorem TS.moved {h h2 : Heap} {S : Addr} {ks : List (List Str)} {es : Array (Int × Value)} {ep : Nat} {t : SetTable} (k : ∀ c o, @LE.le Nat _ c S → h.get? c = some o → h2.get? c = some o) (T : TS P w h S ks es ep t) : TS P w h2 S ks es ep t := by
  obtain ⟨o, ho, hex, hd⟩ := T.ob
  refine ⟨⟨o, k S o (Nat.le_refl _) ho, hex, hd⟩, T.tab, fun e he => ?_, T.size, T.room, T.few⟩
  obtain ⟨k2, b, h1, h2, ⟨o2, its, n, h3, z⟩, h4⟩ := T.keys e he
  exact ⟨k2, b, h1, h2, ⟨o2, its, n, k b o2 (Nat.le_of_lt h4) h3, z⟩, h4⟩
theorem take_new {ks : List (List Str)} (nd : ks.Nodup) {i : Nat} {x : List Str} (h : ks[i]? = some x) : x ∉ (ks.take i).reverse := by
  intro z
  have hy := List.mem_reverse.mp z
  obtain ⟨j, hj, ej⟩ := List.getElem_of_mem hy
  have hj2 : j < i := by
    rw [List.length_take] at hj
    omega
  obtain ⟨hi, ei⟩ := List.getElem?_eq_some_iff.mp h
  rw [List.getElem_take] at ej
  exact absurd (ej.trans ei.symm) (List.pairwise_iff_getElem.mp nd j i (by omega) hi hj2)
/-- the set of different tuples of texts -/
theorem set_tups {l : Addr} {us : List Value} {kss : List (List Str)} {Q : Value → Shared → Prop} (hh : A.handled = none) (hu : A.units + 60 < cLine) (hl : s.heap.IsList l us.toArray) (nd : kss.Nodup) (few : kss.length < 60) (r : TxtsAt P w s.heap s.heap.objs.size kss us)
    (fin : ∀ h2 tk, SizeIs h2 s.heap.objs.size kss.length → (∀ c o, c < s.heap.objs.size → s.heap.get? c = some o → h2.get? c = some o) → Q (.ref s.heap.objs.size) { s with heap := h2, toks := tk }) :
    wpAny (model P w) A (call (.type "set") [.ref l]) Q E s := by
  have hn : us.toArray.size = kss.length := by
    rw [List.size_toArray, r.len]
  refine set_of_list (J := fun i h => TxtsAt P w h s.heap.objs.size kss us ∧ ∃ es ep t, TS P w h s.heap.objs.size ((kss.take i).reverse) es ep t) hh hl ?_ ?_ ?_ ?_
  · exact fun led h k at1 => ⟨r.kept fun c o _ ho => k c o ho, _, _, _, newTS at1⟩
  · rintro i h h2 ⟨j1, es, ep, t, j2⟩ k
    exact ⟨j1.kept fun c o hc ho => k c o (Nat.le_of_lt hc) ho, es, ep, t, TS.moved k j2⟩
  · rintro i v hv A2 hA E2 s2 Q2 ⟨j1, es, ep, t, j2⟩ go
    obtain ⟨b, ks, rfl, hk, tx, lt⟩ := j1.nth i v (by simpa using hv)
    have hi : i < kss.length := (List.getElem?_eq_some_iff.mp hk).1
    unfold setAdd
    refine wpAny_holding (wpAny_bind (wpAny_pyHash_tuple (by omega) tx ?_))
    refine add_new (s := { s2 with toks := s2.toks + (ks.length + 1) }) j2 tx (by omega) (take_new nd hk) lt ?_ fun h2 es2 ep2 t2 sb T2 => ?_
    · have z := j2.size
      rw [List.length_reverse, List.length_take] at z
      omega
    · refine go true h2 (s2.toks + (ks.length + 1)) (Nat.le_add_right _ _) sb ⟨j1.kept fun c o hc ho => (sb.2 c (Nat.ne_of_lt hc)).trans ho, es2, ep2, t2, ?_⟩
      rw [List.take_succ, hk]
      simpa using T2
  · rintro h2 tk ⟨_, es, ep, t, T⟩ k
    rw [hn, List.take_length] at T
    obtain ⟨o, ho, hex, hd⟩ := T.ob
    exact fin h2 tk ⟨o, es, ep, t, ho, hex, hd, T.fits (s := { s with heap := h2 }), by rw [T.size, List.length_reverse]⟩ k
end
end Mi

namespace Mi
open PySem PySem.Spec PyProof.Rows L2 MiSet
variable [ClsMap]

/-! ### len(set(xs)) of different texts, and of one tuple of texts -/
def allTxt : List W → Option (List Str)
  | [] => some []
  | .str s :: r => match allTxt r with
    | some ks => some (s :: ks)
    | none => none
  | _ => none
def distinct : List Str → Bool
  | [] => true
  | x :: xs => !(xs.any (x == ·)) && distinct xs
def allTxts : List W → Option (List (List Str))
  | [] => some []
  | .tup ys :: r => match allTxt ys with
    | some k => match allTxts r with
      | some ks => some (k :: ks)
      | none => none
    | none => none
  | _ => none
def distinctR : List (List Str) → Bool
  | [] => true
  | x :: xs => !(xs.any (x == ·)) && distinctR xs
def fLenSet : W → Store → Res W := fun w st => match seqOf w with
  | some xs => match allTxt xs with
    | some ks => if distinct ks = true ∧ ks.length ≤ 60 then .ok (.int ks.length) st else .bad
    | none => match allTxts xs with
      | some ks => if distinctR ks = true ∧ ks.length < 60 then .ok (.int ks.length) st else .bad
      | none => .bad
  | none => .bad
theorem distinctR_nodup : ∀ {ks : List (List Str)}, distinctR ks = true → ks.Nodup
  | [], _ => List.nodup_nil
  | x :: xs, h => by
    unfold distinctR at h
    rw [Bool.and_eq_true, Bool.not_eq_true'] at h
    refine List.nodup_cons.mpr ⟨fun z => ?_, distinctR_nodup h.2⟩
    have z2 : xs.any (x == ·) = true := List.any_eq_true.mpr ⟨x, z, beq_self_eq_true x⟩
    rw [h.1] at z2
    cases z2
theorem distinct_nodup : ∀ {ks : List Str}, distinct ks = true → ks.Nodup
  | [], _ => List.nodup_nil
  | x :: xs, h => by
    unfold distinct at h
    rw [Bool.and_eq_true, Bool.not_eq_true'] at h
    refine List.nodup_cons.mpr ⟨fun z => ?_, distinct_nodup h.2⟩
    have z2 : xs.any (x == ·) = true := List.any_eq_true.mpr ⟨x, z, beq_self_eq_true x⟩
    rw [h.1] at z2
    cases z2
theorem allTxt_of {K : PySem.W.Frag} {p : Wh} : ∀ {ws : List W} {vs : List V} {ks : List Str}, allTxt ws = some ks → RWs K p ws vs → vs = ks.map V.str
  | [], vs, ks, h, r => by
    cases h
    exact r
  | .str s :: ws, vs, ks, h, ⟨v, r, e, h1, h2⟩ => by
    unfold allTxt at h
    cases e2 : allTxt ws with
    | none =>
      rw [e2] at h
      cases h
    | some js =>
      rw [e2] at h
      cases h
      rw [e, allTxt_of e2 h2, show v = V.str s from h1]
      rfl
  | .non :: _, _, _, h, _ => by cases h
  | .bl _ :: _, _, _, h, _ => by cases h
  | .int _ :: _, _, _, h, _ => by cases h
  | .tup _ :: _, _, _, h, _ => by cases h
  | .lst _ :: _, _, _, h, _ => by cases h
  | .frz _ :: _, _, _, h, _ => by cases h
  | .ref _ :: _, _, _, h, _ => by cases h
  | .dic _ _ :: _, _, _, h, _ => by cases h

theorem vals_txt : ∀ {ks : List Str} {us : List Value}, Vals (ks.map V.str) us → ∀ (i : Nat) (v : Value), us[i]? = some v → ∃ x t, ks[i]? = some x ∧ v = .str x t
  | [], _, .nil, i, v, h => by simp at h
  | k :: ks, _, .cons r t, 0, v, h => by
    obtain ⟨t, rfl⟩ := r
    have e : Value.str k t = v := by simpa using h
    exact ⟨k, t, rfl, e.symm⟩
  | k :: ks, _, .cons r t, i + 1, v, h => by
    obtain ⟨x, tk, e1, e2⟩ := vals_txt t i v (by simpa using h)
    exact ⟨x, tk, by simpa using e1, e2⟩
theorem items_txt {P : Program} {w : World} : ∀ {ks : List Str} {us : List Value}, Vals (ks.map V.str) us → ItemsAre (PySem.strKind P w) ks us
  | [], _, .nil => .nil
  | k :: ks, _, .cons r t => by
    obtain ⟨t0, rfl⟩ := r
    exact .cons (by show Value.isStrOf k (.str k t0) = true; simp [Value.isStrOf]) (items_txt t)
theorem take_any {ks : List Str} (nd : ks.Nodup) {i : Nat} {x : Str} (h : ks[i]? = some x) : ((ks.take i).any (· == x)) = false := by
  cases e : (ks.take i).any (· == x) with
  | false => rfl
  | true =>
    obtain ⟨y, hy, ey⟩ := List.any_eq_true.mp e
    have ey' : y = x := eq_of_beq ey
    subst ey'
    obtain ⟨j, hj, ej⟩ := List.getElem_of_mem hy
    have hj2 : j < i := by
      rw [List.length_take] at hj
      omega
    obtain ⟨hi, ei⟩ := List.getElem?_eq_some_iff.mp h
    rw [List.getElem_take] at ej
    exact absurd (ej.trans ei.symm) (List.pairwise_iff_getElem.mp nd j i (by omega) hi hj2)
section
variable {P : Program} {w : World} {A : Around} {E : Value → Shared → Prop} {s : Shared}
/-- the set of different texts -/
theorem set_txts {l : Addr} {us : List Value} {ks : List Str} {Q : Value → Shared → Prop} (hh : A.handled = none) (hl : s.heap.IsList l us.toArray) (nd : ks.Nodup) (few : ks.length ≤ 60) (r : Vals (ks.map V.str) us)
    (fin : ∀ h2 tk, SizeIs h2 s.heap.objs.size ks.length → (∀ c o, c < s.heap.objs.size → s.heap.get? c = some o → h2.get? c = some o) → Q (.ref s.heap.objs.size) { s with heap := h2, toks := tk }) :
    wpAny (model P w) A (call (.type "set") [.ref l]) Q E s := by
  have hn : us.toArray.size = ks.length := by
    have z := r.length
    rw [List.length_map] at z
    rw [List.size_toArray, ← z]
  refine set_of_list (J := fun i h => h.SetOf (PySem.strKind P w) s.heap.objs.size (fun k => (ks.take i).any (· == k)) i) hh hl ?_ ?_ ?_ ?_
  · intro b h _ at1
    exact SetOf_congr ((setObjOf_fresh (knd := PySem.strKind P w) b).setOf at1 (by unfold scanBound; omega)) (fun _ => rfl) rfl
  · rintro i h h2 ⟨o, es, ep, t, ho, z⟩ k
    exact ⟨o, es, ep, t, k _ o (Nat.le_refl _) ho, z⟩
  · intro i v hv A2 _ E2 s2 Q2 j go
    obtain ⟨x, t, hx, rfl⟩ := vals_txt r i v (by simpa using hv)
    have hi : i < ks.length := (List.getElem?_eq_some_iff.mp hx).1
    have no := take_any nd hx
    unfold setAdd
    refine wpAny_holding (wpAny_bind (PySem.wpAny_pyHash_str ?_))
    refine wpAny_setAddHashed_of (knd := PySem.strKind P w) (k := x) (s := { s2 with toks := s2.toks + 1 }) (by show Value.isStrOf x (.str x t) = true; simp [Value.isStrOf]) rfl j (by unfold scanBound; omega) fun h2 sb so => ?_
    refine go _ h2 (s2.toks + 1) (Nat.le_succ _) sb (SetOf_congr so (fun k => ?_) (by rw [no]; rfl))
    rw [List.take_succ, hx]
    show ((ks.take i).any (· == k) || decide (k = x)) = (ks.take i ++ [x]).any (· == k)
    rw [List.any_append]
    congr 1
    by_cases e : k = x
    · subst e
      simp
    · rw [decide_eq_false e]
      have e2 : (x == k) = false := beq_eq_false_iff_ne.mpr fun z => e z.symm
      simp [e2]
  · intro h2 tk j k
    obtain ⟨o, es, ep, t, ho, hex, hd, _, _, _, hf, en⟩ := j
    exact fin h2 tk ⟨o, es, ep, t, ho, hex, hd, hf, en.trans hn⟩ k
end
/-- the values of a list: tuples of the texts kss -/
def RowsTx (K : PySem.W.Frag) (H : Hp) : List (List Str) → List V → Prop
  | [], vs => vs = []
  | ks :: r, vs => ∃ (b : Addr) (vs2 : List V), vs = .ref b :: vs2 ∧ SqT K H b (ks.map V.str) ∧ RowsTx K H r vs2
theorem allTxts_of {K : PySem.W.Frag} {p : Wh} : ∀ {ws : List W} {vs : List V} {ks : List (List Str)}, allTxts ws = some ks → RWs K p ws vs → RowsTx K p.H ks vs
  | [], vs, ks, h, r => by
    cases h
    exact r
  | .tup ys :: ws, vs, ks, h, r => by
    unfold allTxts at h
    cases e1 : allTxt ys with
    | none =>
      rw [e1] at h
      cases h
    | some k =>
      cases e2 : allTxts ws with
      | none =>
        rw [e1, e2] at h
        cases h
      | some js =>
        rw [e1, e2] at h
        cases h
        obtain ⟨v1, r1, ev1, ⟨b, bs, eb, tb, rb⟩, er⟩ := r
        subst eb
        exact ⟨b, r1, ev1, by rw [← allTxt_of e1 rb]; exact tb.seq, allTxts_of e2 er⟩
  | .non :: _, _, _, h, _ => by cases h
  | .bl _ :: _, _, _, h, _ => by cases h
  | .int _ :: _, _, _, h, _ => by cases h
  | .str _ :: _, _, _, h, _ => by cases h
  | .lst _ :: _, _, _, h, _ => by cases h
  | .frz _ :: _, _, _, h, _ => by cases h
  | .ref _ :: _, _, _, h, _ => by cases h
  | .dic _ _ :: _, _, _, h, _ => by cases h
def tLenSetG (K : PySem.W.Frag) (ta : TE) : TE := fun σ H Q => ta σ H fun x H1 => ∃ (l : Addr) (vs : List V) (n : Nat), x = .ref l ∧ SqL K H1 l vs ∧
  ((∃ ks : List Str, vs = ks.map V.str ∧ ks.Nodup ∧ ks.length ≤ 60 ∧ n = ks.length) ∨ ∃ kss : List (List Str), RowsTx K H1 kss vs ∧ kss.Nodup ∧ kss.length < 60 ∧ n = kss.length) ∧ Q (.int (n : Nat)) H1
section
variable {X : Cx} {Wx : WX} {a : Expr} {ta : TE} {me : Ev W} {p p2 q pos : Pos}
theorem rowsTx_at {pins : List (Addr × Obj)} {σ : L2.St} {H : Hp} {s : Shared} (I : Inv X pins σ H s) : ∀ {kss : List (List Str)} {vs : List V} {its : List Value}, RowsTx X.K H kss vs → Vals vs its → TxtsAt X.prog X.w s.heap s.heap.objs.size kss its
  | [], vs, its, e, r => by
    rw [show vs = [] from e] at r
    cases r
    exact rfl
  | ks :: kss, vs, its, ⟨b, vs2, e, hb, t⟩, r => by
    subst e
    cases r with
    | cons r0 rr =>
      cases r0
      obtain ⟨its2, rv2, p2, _⟩ := I.tuple hb
      obtain ⟨o, ho, hcl, n, hd⟩ := p2
      exact ⟨b, _, rfl, ⟨o, its2.toArray, n, ho, hcl, hd, by simpa using items_txt rv2⟩, Heap.lt_size ho, rowsTx_at I t rr⟩
theorem pe_lenSetG (hu : X.A.units + 100 < cLine) (hg : Gl X "len") (hm : X.mg "len" = none) (hg2 : Gl X "set") (hm2 : X.mg "set" = none) (ha : PE X a ta) (hc : X.calm = true)
    (na : starEach [a] X.env = (false, eval a X.env) :: starEach [] X.env := by rfl) : PE X (.Call (.Name "len" p) [.Call (.Name "set" p2) [a] [] q] [] pos) (tLenSetG X.K ta) := by
  refine ⟨fun pins s σ H Q I h => ?_⟩
  refine Call_ (ld_blt I hg hm boot_len (PyProof.Rows.callWith_builtin1 (PyProof.Rows.args_cons ?_ rfl) rfl rfl))
  refine Call_ (ld_blt I hg2 hm2 boot_set (PyProof.Rows.callWith_type1 (PyProof.Rows.args_cons (thn (ha.run pins s σ H _ I h) fun v s1 ⟨x, H1, I1, r1, q1⟩ => PyProof.Rows.args_nil ?_) na) na rfl))
  obtain ⟨l, vs, n, rfl, hq, cs, q1⟩ := q1
  cases r1
  obtain ⟨its, r, pl, hz⟩ := I1.list hq
  have after : ∀ (h2 : Heap) (tk : Nat), n ≤ 60 → SizeIs h2 s1.heap.objs.size n → (∀ c o, c < s1.heap.objs.size → s1.heap.get? c = some o → h2.get? c = some o) → wpAny (model X.prog X.w) X.A (call (.builtin "len") [.ref s1.heap.objs.size]) (EP X pins σ Q) X.xe { s1 with heap := h2, toks := tk } := by
    rintro h2 tk hn ⟨o, es, ep, t, ho, hex, hd, hf, en⟩ k
    have I2 : Inv X pins σ H1 { s1 with heap := h2, toks := tk } := I1.kept fun b o e => k b o (Heap.lt_size e) e
    exact call_len_set ho hex hd hf (by rw [en]; omega) ⟨.int n, H1, I2.tok _, ⟨_, by rw [en]⟩, q1⟩
  rcases cs with ⟨ks, rfl, nd, few, rfl⟩ | ⟨kss, rw2, nd, few, rfl⟩
  · exact set_txts (I1.ok.hd hc) pl.isList nd few r fun h2 tk sz k => PyProof.Rows.args_nil (after h2 tk few sz k)
  · exact set_tups (I1.ok.hd hc) (by omega) pl.isList nd few (rowsTx_at I1 rw2 r) fun h2 tk sz k => PyProof.Rows.args_nil (after h2 tk (by omega) sz k)
theorem ge_lenSet (hu : X.A.units + 100 < cLine) (hg : Gl X "len") (hm : X.mg "len" = none) (hg2 : Gl X "set") (hm2 : X.mg "set" = none) (hc : X.calm = true) (ha : GE X Wx a me)
    (na : starEach [a] X.env = (false, eval a X.env) :: starEach [] X.env := by rfl) : GE X Wx (.Call (.Name "len" p) [.Call (.Name "set" p2) [a] [] q] [] pos) (mUn fLenSet me) :=
  PEimp (pe_lenSetG hu hg hm hg2 hm2 ha hc na) fun σ H Q ⟨p, st, env, hp, S, E, h⟩ => tG_bind hp S E h fun q s1 w v t1 S1 E1 r h1 => by
    unfold fLenSet at h1
    cases e : seqOf w with
    | none =>
      rw [e] at h1
      exact h1.elim
    | some xs =>
      rw [e] at h1
      dsimp only at h1
      obtain ⟨l, vs, ev, ta, rs⟩ := seqOf_of e r
      have hq := ta q (Step.refl S1).toMv
      cases e1 : allTxt xs with
      | some ks =>
        rw [e1] at h1
        dsimp only at h1
        by_cases c : distinct ks = true ∧ ks.length ≤ 60
        · rw [if_pos c] at h1
          exact ⟨l, vs, ks.length, ev, hq, .inl ⟨ks, allTxt_of e1 rs, distinct_nodup c.1, c.2, rfl⟩, fin_ok S1 h1 rfl⟩
        · rw [if_neg c] at h1
          exact h1.elim
      | none =>
        rw [e1] at h1
        dsimp only at h1
        cases e2 : allTxts xs with
        | none =>
          rw [e2] at h1
          exact h1.elim
        | some ks =>
          rw [e2] at h1
          dsimp only at h1
          by_cases c : distinctR ks = true ∧ ks.length < 60
          · rw [if_pos c] at h1
            exact ⟨l, vs, ks.length, ev, hq, .inr ⟨ks, allTxts_of e2 rs, distinctR_nodup c.1, c.2, rfl⟩, fin_ok S1 h1 rfl⟩
          · rw [if_neg c] at h1
            exact h1.elim
end
end Mi

namespace Mi
open PySem PySem.Spec PyProof.Rows L2
variable [ClsMap]

/-! ### xs.pop(i) of a list of the store -/
def fPop : W → List W → Store → Res W := fun o vs st => match o, vs with
  | .ref n, [.int i] => match st[n]? with
    | some (.lst xs) => if -(2 ^ 63) ≤ i ∧ i < 2 ^ 63 then
        (match seqIndex? i xs.length with
        | some k => match xs[k]? with
          | some y => .ok y (st.set n (.lst (xs.eraseIdx k)))
          | none => .bad
        | none => .bad) else .bad
    | _ => .bad
  | _, _ => .bad
theorem RWs.erase {K : PySem.W.Frag} {p : Wh} : ∀ {ws : List W} {vs : List V} (k : Nat), RWs K p ws vs → RWs K p (ws.eraseIdx k) (vs.eraseIdx k)
  | [], vs, k, r => by
    rw [show vs = [] from r]
    exact (rfl : ([] : List V) = [])
  | w :: ws, vs, 0, ⟨v, r, e, h1, h2⟩ => by
    subst e
    exact h2
  | w :: ws, vs, k + 1, ⟨v, r, e, h1, h2⟩ => by
    subst e
    exact ⟨v, r.eraseIdx k, rfl, h1, RWs.erase k h2⟩
theorem fPop_of {v : W} {vs : List W} {st : Store} (h : fPop v vs st ≠ .bad) : ∃ n i xs k y, v = .ref n ∧ vs = [.int i] ∧ st[n]? = some (.lst xs) ∧ -(2 ^ 63) ≤ i ∧ i < 2 ^ 63 ∧ seqIndex? i xs.length = some k ∧ xs[k]? = some y ∧ fPop v vs st = .ok y (st.set n (.lst (xs.eraseIdx k))) := by
  unfold fPop at h ⊢
  split at h
  · rename_i n i
    cases e : st[n]? with
    | none =>
      rw [e] at h
      exact absurd rfl h
    | some o =>
      cases o with
      | lst xs =>
        rw [e] at h
        dsimp only at h
        by_cases c : -(2 ^ 63) ≤ i ∧ i < 2 ^ 63
        · rw [if_pos c] at h
          cases e2 : seqIndex? i xs.length with
          | none =>
            rw [e2] at h
            exact absurd rfl h
          | some k =>
            rw [e2] at h
            dsimp only at h
            cases e3 : xs[k]? with
            | none =>
              rw [e3] at h
              exact absurd rfl h
            | some y =>
              refine ⟨n, i, xs, k, y, rfl, rfl, e, c.1, c.2, e2, e3, ?_⟩
              simp only [e, if_pos c, e2, e3]
        · rw [if_neg c] at h
          exact absurd rfl h
      | _ =>
        rw [e] at h
        exact absurd rfl h
  · exact absurd rfl h
section
variable {X : Cx} {Wx : WX}
theorem rm_pop : RMok X Wx rPopAt fPop := by
  intro p st x xs v vs σ Q S rx rs h
  obtain ⟨n, i, ys, k, y, rfl, rfl, e, c1, c2, e2, e3, ef⟩ := fPop_of (fin_nb h)
  rw [ef] at h
  obtain ⟨hn, us, hH, ru⟩ := S.at e
  obtain ⟨u, rfl, rv⟩ := one_of rs
  have e4 : u = .int i := rv
  have e5 : v = .ref (p.ρ n) := rx.2
  subst e4 e5
  obtain ⟨w, hw, rw2⟩ := ru.get e3
  refine ⟨p.ρ n, us, i, k, w, rfl, rfl, hH, c1, c2, by rw [← ru.length]; exact e2, hw, ?_⟩
  exact h { p with H := upd p.H (p.ρ n) (.lst (us.eraseIdx k)) } w (step_mut S hn) (sr_mut S hn (ru.erase k)) (RW.step (step_mut S hn) y _ rw2)
end
end Mi

namespace Mi
open PySem PySem.Spec PyProof.Rows L2
variable [ClsMap]

/-! ### super().__init__(..) of an own error -/
section
variable {prog : Program} {w : World} {A : Around} {E : Value → Shared → Prop} {h : Heap} {g : Array GenState} {d : Drawn} {t : Nat} {os : OsState}
theorem call_mw {u e t0 C : Addr} {rest : List Value} {Q : Value → Shared → Prop}
    {nm q : Str} {N : Addr} {bs bm : List Value} {hdct : Bool} {sn : List Str} {sub : List Value} {ab : Bool} {col : Option Bool} {dd : Option Addr} {k0 k1 k2 k3 k5 : Option Value}
    (hC : h.get? C = some (excClassObj nm q C N bs bm hdct sn sub ab col dd k0 k1 k2 k3 k5 "ValueError.__new__")) (he : h.get? e = some (HandSPX.excO C t0)) (hu : h.get? u = some (W.kxs_mw "ValueError.__init__" e)) (hn : rest.length ≤ sizeLine)
    (k : ∀ (h' : Heap) (t1 : Addr), (∀ (b : Addr) (o : Obj), b ≠ e → h.get? b = some o → h'.get? b = some o) → h'.get? e = some (HandSPX.excO C t1) → Q .none { heap := h', gens := g, drawn := d, toks := t, os := os }) :
    wpAny (model prog w) A (call (.ref u) rest) Q E { heap := h, gens := g, drawn := d, toks := t, os := os } := by
  refine wpAny_call (codeAny_of_tree ?_)
  show wpAny _ _ (callAny (.ref u) ⟨rest, []⟩) _ _ _
  unfold callAny
  refine wpAny_bind (wpAny_load hu ?_)
  dsimp only
  refine W.KFB.if_so (by decide) ?_
  show wpAny _ _ (if ((Value.type "method-wrapper") != Value.type "method") = true then (checkBoundCall "ValueError.__init__" { pos := Value.ref e :: rest } >>= fun _ => again (Code.builtin "ValueError.__init__" { pos := Value.ref e :: rest })) else again (Code.call (.builtin "ValueError.__init__") { pos := Value.ref e :: rest })) _ _ _
  refine W.KFB.if_so (by decide) ?_
  have F := PySem.F.excBase_ValueError.toExcCallFacts
  refine wpAny_bind (W.check_bound_init F hC he rfl ?_)
  refine wpAny_pure ⟨plainId_quiet F.init.plain _, codeAny_builtin F.initEntry ?_⟩
  refine W.exc_init_tree (c2 := .none) (c3 := .none) (b4 := .bool false) (dv := none) he hn fun h' k1 k2 _ => ?_
  exact k h' _ k1 k2
/-- what is known of the code of such an __init__ -/
structure SupAt (prog : Program) (K : PySem.W.Frag) (scope : Scope) (fd : FuncData) (f cda cc D : Addr) (ar : Arg) : Prop where
  kind : scope.kind = .function
  sup : scope.names.lookup ("super" : Str) = some .globalImplicit
  cls : scope.names.lookup ("__class__" : Str) = some .free
  lf : ∃ oc od osl, K.lookup f = some ⟨oc, od, .func fd, osl⟩
  head : (fd.params.posonlyargs ++ fd.params.args).head? = some ar
  self : scope.names.lookup ar.arg = some .local
  lcd : ∃ ccl cdd vs ccs file tf, K.lookup cda = some ⟨ccl, cdd, .fields vs, ccs⟩ ∧ vs[2]? = some (.str file tf) ∧ (prog.main.file == file) = true
  lcc : ∃ cl cld csl, K.lookup cc = some ⟨cl, cld, .cell (some (.ref D)), csl⟩
  lD : ∃ dcl dd cdD dsl, K.lookup D = some ⟨dcl, dd, .cls cdD, dsl⟩
  none : (prog.main.scope.names.lookup ("super" : Str)).isSome = false
theorem super_at {s : Shared} {K : PySem.W.Frag} {mg mb m : Str → Option Value} {scope : Scope} {fd : FuncData} {f cda cc D C e t0 L : Addr} {ar : Arg} {q attr : Str} {body : List Stmt} {p0 p1 : Pos} {whole : Sem Value} {Q : Value → Shared → Prop}
    (T : SupAt prog K scope fd f cda cc D ar) (inK : K.In s.heap) (hg : s.heap.Ns mainGlobals mg) (mgS : mg "super" = none) (hb : s.heap.Ns builtinsNs mb) (mbS : mb "super" = some (.type "super"))
    (ns : s.heap.Ns L m) (ms : m ar.arg = some (.ref e)) (he : s.heap.get? e = some (HandSPX.excO C t0)) (hm : PySem.W.mroIn K C (.ref D) = some true) (ha : (attr == ("__class__" : Str)) = false)
    (k : ∀ h', h'.get? s.heap.objs.size = some (W.ks_superObj D e C) → (∀ (y : Addr) (o : Obj), s.heap.get? y = some o → h'.get? y = some o) → Q (.ref s.heap.objs.size) { s with heap := h' }) :
    PySem.wpAt (model prog w) A (Code.func body (W.ksEnv q scope L f (.ref cda) cc)) (attributeBase (.Call (.Name "super" p0) [] [] p1) attr (W.ksEnv q scope L f (.ref cda) cc) whole) Q E s := by
  obtain ⟨oc, od, osl, lf⟩ := T.lf
  obtain ⟨ccl, cdd, vs, ccs, file, tf, lcd, hv, hf⟩ := T.lcd
  obtain ⟨cl, cld, csl, lcc⟩ := T.lcc
  obtain ⟨dcl, dd, cdD, dsl, lD⟩ := T.lD
  refine ks_wpAt_super_base (env := W.ksEnv q scope L f (.ref cda) cc) T.sup T.cls ha rfl (inK _ _ lf) rfl T.head rfl (inK _ _ lcd) rfl hv hf T.none ?_
  refine W.ks_loadName_global T.kind T.sup (Calls.loadGlobal_builtin hg mgS hb mbS ⟨rfl, ?_⟩)
  refine wpAny_loadName_free (c := cc) (v := .ref D) T.kind T.cls rfl ⟨_, inK _ _ lcc, rfl⟩ ?_
  refine wpAny_loadName_local T.kind T.self ns ms ?_
  refine ks_wpAny_isType_cls (inK _ _ lD) rfl ⟨rfl, ?_⟩
  exact ks_wpAny_call_super (inK _ _ lD) rfl he rfl (fun c z => nomatch z) (W.looks_mroIn inK hm) k
theorem super_meth {h : Heap} {K : PySem.W.Frag} {so D e C t0 : Addr} {pl : Sem Bool} {Q : Value × List Value → Shared → Prop} {cd : ClassData}
    (inK : K.In h) (hso : h.get? so = some (W.ks_superObj D e C)) (he : h.get? e = some (HandSPX.excO C t0)) (any : PySem.W.nsIn K cStatics "thirdparty.any" = some none)
    (hcd : PySem.W.clsIn K C = some cd) (hin : PySem.W.ks_superIn K C D "__init__" = some (some (.builtin "ValueError.__init__"))) (hsub : PySem.W.subIn K (.ref C) (.type "ValueError") = some true)
    (k : Q (.ref h.objs.size, []) { heap := h.push (W.kxs_mw "ValueError.__init__" e), gens := g, drawn := d, toks := t + 1, os := os }) :
    wpAny (model prog w) A (getMethod (.ref so) "__init__" pl) Q E { heap := h, gens := g, drawn := d, toks := t, os := os } := by
  have ia : PySem.W.InstAt h e (HandSPX.excO C t0) C none := ⟨he, rfl, rfl, trivial⟩
  unfold PySem.W.ks_superIn at hin
  rw [hcd, Option.bind_some] at hin
  exact W.kxs_getMethod W.kxs_ValueError hso (W.looks_opaque inK any) (W.Looks.andThen (W.looks_clsIn inK hcd) W.Looks.now) rfl inK hin (W.Looks.andThen ia.type (W.looks_subIn inK hsub)) (W.ks_ne inK ia hcd) rfl k
abbrev supCall (p0 p1 p2 p3 p4 : Pos) (msg : Str) (j : Nat) : Expr := .Call (.Attribute (.Call (.Name "super" p0) [] [] p1) "__init__" p2) [.Constant (.str msg) j p3] [] p4
theorem super_stmt {s : Shared} {K : PySem.W.Frag} {mg mb m : Str → Option Value} {scope : Scope} {fd : FuncData} {f cda cc D C e t0 L : Addr} {ar : Arg} {q msg : Str} {body : List Stmt} {j : Nat} {p0 p1 p2 p3 p4 p5 : Pos} {Q : Flow → Shared → Prop} {cd : ClassData} {pl : Sem Bool}
    {nm qn : Str} {N : Addr} {bs bm : List Value} {hdct : Bool} {sn : List Str} {sub : List Value} {ab : Bool} {col : Option Bool} {dd : Option Addr} {k0 k1 k2 k3 k5 : Option Value}
    (T : SupAt prog K scope fd f cda cc D ar) (inK : K.In s.heap) (hg : s.heap.Ns mainGlobals mg) (mgS : mg "super" = none) (hb : s.heap.Ns builtinsNs mb) (mbS : mb "super" = some (.type "super"))
    (ns : s.heap.Ns L m) (ms : m ar.arg = some (.ref e)) (he : s.heap.get? e = some (HandSPX.excO C t0)) (hm : PySem.W.mroIn K C (.ref D) = some true)
    (any : PySem.W.nsIn K cStatics "thirdparty.any" = some none) (hcd : PySem.W.clsIn K C = some cd) (hin : PySem.W.ks_superIn K C D "__init__" = some (some (.builtin "ValueError.__init__"))) (hsub : PySem.W.subIn K (.ref C) (.type "ValueError") = some true)
    (hC : s.heap.get? C = some (excClassObj nm qn C N bs bm hdct sn sub ab col dd k0 k1 k2 k3 k5 "ValueError.__new__"))
    (hi : interactive (W.ksEnv q scope L f (.ref cda) cc) = false) (hsw : swapsWith (supCall p0 p1 p2 p3 p4 msg j) none p5.line (W.ksEnv q scope L f (.ref cda) cc) = pure false)
    (hev : eval (supCall p0 p1 p2 p3 p4 msg j) (W.ksEnv q scope L f (.ref cda) cc) = (do
      let ov ← attributeBase (.Call (.Name "super" p0) [] [] p1) "__init__" (W.ksEnv q scope L f (.ref cda) cc) (eval (.Call (.Name "super" p0) [] [] p1) (W.ksEnv q scope L f (.ref cda) cc))
      standAt p2.atName
      let x ← holding [ov] (getMethod ov "__init__" pl)
      match x with
      | (ff, first) => callWith p4 ff first (backTo p4 (starEach [.Constant (.str msg) j p3] (W.ksEnv q scope L f (.ref cda) cc))) []))
    (k : ∀ (h' : Heap) (t1 : Addr) (tk : Nat), (∀ (b : Addr) (o : Obj), b ≠ e → s.heap.get? b = some o → h'.get? b = some o) → h'.get? e = some (HandSPX.excO C t1) → Q .next { s with heap := h', toks := tk }) :
    PySem.wpAt (model prog w) A (Code.func body (W.ksEnv q scope L f (.ref cda) cc)) (exec (.Expr (supCall p0 p1 p2 p3 p4 msg j) p5) (W.ksEnv q scope L f (.ref cda) cc)) Q E s := by
  refine ks_wpAt_Expr_any ?_ hi hsw
  refine ks_wpAt_MethodCall (super_at T inK hg mgS hb mbS ns ms he hm rfl fun h1 at1 kp1 => ?_) hev
  have ie1 := kp1 e _ he
  refine super_meth (h := h1) (g := s.gens) (d := s.drawn) (t := s.toks) (os := s.os) (inK.keeps kp1) at1 ie1 any hcd hin hsub ?_
  have kp2 : ∀ (y : Addr) (o : Obj), h1.get? y = some o → (h1.push (W.kxs_mw "ValueError.__init__" e)).get? y = some o := fun y o z => Heap.get?_push_of_some _ z
  have mw := Heap.get?_push_size h1 (o := W.kxs_mw "ValueError.__init__" e) rfl
  have ltL : @LT.lt Nat _ L h1.objs.size := by
    obtain ⟨o, _, _, ho, _⟩ := ns
    exact Heap.lt_size (kp1 L o ho)
  refine W.kxs_callWith1 (h₀ := h1) (L := L) (news := [(h1.objs.size, W.kxs_mw "ValueError.__init__" e)]) (x := e) (i := "ValueError.__init__") (fun p hp => ?_) List.mem_cons_self ?_ rfl rfl
  · cases hp with
    | head => exact ⟨mw, Nat.ne_of_gt ltL, by
      show h1.get? h1.objs.size = none
      simp [Heap.get?]⟩
    | tail _ z => cases z
  · refine PyProof.Rows.args_cons (wpAny_Constant_str ?_) rfl
    refine PyProof.Rows.args_nil ⟨mw, ?_⟩
    exact call_mw (kp2 _ _ (kp1 _ _ hC)) (kp2 _ _ ie1) mw (by simp [sizeLine_eq]) fun h' t1 kp3 at3 => k h' t1 _ (fun b o hb z => kp3 b o hb (kp2 _ _ (kp1 _ _ z))) at3
end
end Mi

namespace Mi
open PySem PySem.Spec PyProof.Rows L2
variable [ClsMap]
/-- the scope of two names -/
def twoScope (x y : Str) : Scope := { (default : Scope) with kind := .function, names := [(x, .local), (y, .local)] }
section
variable {P : Program} {w : World} {K : PySem.W.Frag} {mg : Str → Option Value} {base : Heap}
/-- what __init__(self, value) of an own error promises: super().__init__(text); self.fl = value -/
def spErr (C : Addr) (fl : Str) : Sp := fun vs H Q _ => ∃ (a : Addr) (v : V), vs = [.ref a, v] ∧ H a = some (exo a C none) ∧ ∀ dx, H dx = none → dx ≠ a → Q .non (upd (upd H dx (exd dx [(fl, v)])) a (exo a C (some dx)))
theorem fnOk_err {qual msg sf vl fl : Str} {params : Arguments} {scope : Scope} {dV kV doc pm cdv ct oc : Value} {od an : Option Addr} {osl : Array (Option Value)} {f cda cc C : Addr} {ar : Arg} {k : Nat} {cd : ClassData} {j : Nat} {p0 p1 p2 p3 p4 p5 p6 p7 p8 p9 : Pos} {pl : Sem Bool} {CX : CXT}
    (T : SupAt P K scope (W.ksFn "__init__" qual params [.Expr (supCall p0 p1 p2 p3 p4 msg j) p5, .Assign [.Attribute (.Name sf p6) fl p7] (.Name vl p8) p9] scope dV kV doc pm an (.ref cda) ct cc) f cda cc C ar) (O : OexC K C)
    (hco : scope.isCoroutine = false) (hgen : scope.isGenerator = false) (hcd : PySem.W.codeIn K (.ref cda) qual = true)
    (nc : ∀ x ∈ scope.names, x.2 ≠ .cell) (lv : scope.names.lookup vl = some .local) (esf : ar.arg = sf) (ne : sf ≠ vl)
    (mgS : mg "super" = none) (hm : PySem.W.mroIn K C (.ref C) = some true) (any : PySem.W.nsIn K cStatics "thirdparty.any" = some none) (hcd2 : PySem.W.clsIn K C = some cd)
    (hin : PySem.W.ks_superIn K C C "__init__" = some (some (.builtin "ValueError.__init__"))) (hsub : PySem.W.subIn K (.ref C) (.type "ValueError") = some true) (hfl : PySem.W.findIn K (.ref C) fl = some none)
    (dsf : (sf == ("__debug__" : Str)) = false) (dvl : (vl == ("__debug__" : Str)) = false)
    (hi : ∀ L, interactive (W.ksEnv qual scope L f (.ref cda) cc) = false) (hsw : ∀ L, swapsWith (supCall p0 p1 p2 p3 p4 msg j) none p5.line (W.ksEnv qual scope L f (.ref cda) cc) = pure false)
    (hsw2 : ∀ L, swapsWith (.Name vl p8) (some (.Attribute (.Name sf p6) fl p7)) p9.line (W.ksEnv qual scope L f (.ref cda) cc) = pure false)
    (hev : ∀ L, eval (supCall p0 p1 p2 p3 p4 msg j) (W.ksEnv qual scope L f (.ref cda) cc) = (do
      let ov ← attributeBase (.Call (.Name "super" p0) [] [] p1) "__init__" (W.ksEnv qual scope L f (.ref cda) cc) (eval (.Call (.Name "super" p0) [] [] p1) (W.ksEnv qual scope L f (.ref cda) cc))
      standAt p2.atName
      let x ← holding [ov] (getMethod ov "__init__" pl)
      match x with
      | (ff, first) => callWith p4 ff first (backTo p4 (starEach [.Constant (.str msg) j p3] (W.ksEnv qual scope L f (.ref cda) cc))) [])) :
    FnOk P w K mg base CX (k + 1) f (W.ksFn "__init__" qual params [.Expr (supCall p0 p1 p2 p3 p4 msg j) p5, .Assign [.Attribute (.Name sf p6) fl p7] (.Name vl p8) p9] scope dV kV doc pm an (.ref cda) ct cc) [sf, vl] (spErr C fl) := by
  refine ⟨fun vs H Q E ⟨a, v, e, _⟩ => by rw [e]; rfl, fun A outer s H args us vs Q E hr e0 hbd rv sp => ?_⟩
  obtain ⟨a, v, rfl, hH, fin⟩ := sp
  obtain ⟨ua, us2, rfl, rva, rv2⟩ : ∃ ua us2, us = ua :: us2 ∧ RelV (.ref a) ua ∧ Vals [v] us2 := by
    cases rv with
    | cons h1 h2 => exact ⟨_, _, rfl, h1, h2⟩
  obtain ⟨u, rfl, ru⟩ : ∃ u, us2 = [u] ∧ RelV v u := by
    cases rv2 with
    | cons h1 h2 =>
      cases h2
      exact ⟨_, rfl, h1⟩
  cases rva
  have inK : K.In s.heap := e0.mod.kin.keeps fun b o z => (e0.bs b o z).1
  have noL : s.heap.NoLimit := e0.mod.nolimit.keeps fun b o z => (e0.bs b o z).1
  obtain ⟨oc, od, osl, lf⟩ := T.lf
  have lsf := T.self
  rw [esf] at lsf
  refine codeAny_call_function hr.depth (inK _ _ lf) rfl hco hgen rfl (PySem.W.codeRec_of inK hcd) (hbd _ _ _ _ ?_)
  refine wpAny_newFunctionEnv nc (fun x hx => ?_) (fun h1 ns sb => ?_) T.kind
  · cases hx with
    | head => exact lsf
    | tail _ z =>
      cases z with
      | head => exact lv
      | tail _ z => cases z
  have kp01 : ∀ (b : Addr) (o : Obj), s.heap.get? b = some o → h1.get? b = some o := fun b o z => (sb.2 b (Nat.ne_of_lt (Heap.lt_size z))).trans (Heap.get?_push_of_some _ z)
  obtain ⟨t0, ie⟩ := exo_at e0.hok hH
  have la : @LT.lt Nat _ a s.heap.objs.size := Heap.lt_size ie
  obtain ⟨nm, qn, N, bs, bm, sn, sub, ab, col, dd, k0, k1, k2, k3, k5, lC, _⟩ := O.cls
  obtain ⟨mb, hbN, hbB⟩ := e0.mod.blt
  have S2 : FnScope [sf, vl] [sf, vl] (twoScope sf vl) := ⟨rfl, rfl, rfl, by simp [ne], rfl, fun x hx => .inl (by
    cases hx with
    | head => simp [twoScope]
    | tail _ z =>
      cases z with
      | head => simp [twoScope, List.lookup, beq_false_of_ne (Ne.symm ne)]
      | tail _ z => cases z), fun y hy => by
    cases hy with
    | head => exact fun z => nomatch z
    | tail _ z =>
      cases z with
      | head => exact fun z => nomatch z
      | tail _ z => cases z⟩
  have ic : InCallC s s.heap.objs.size (bindL (envOfC qual (twoScope sf vl) s.heap.objs.size f (.ref cda)).kindOf ([sf, vl].zip [.ref a, u]) fun _ => none) (cellsFrom (s.heap.objs.size + 1) (twoScope sf vl).names []) (bindC (envOfC qual (twoScope sf vl) s.heap.objs.size f (.ref cda)).kindOf ([sf, vl].zip [.ref a, u]) fun _ => none) { s with heap := h1, toks := s.toks + 2 } := by
    refine ⟨⟨⟨_, _, rfl⟩, ?_, kp01, Nat.le_refl _⟩, fun n c z => (nomatch z), List.Pairwise.nil, fun n c z => (nomatch z)⟩
    have e : (bindL (envOfC qual (twoScope sf vl) s.heap.objs.size f (.ref cda)).kindOf ([sf, vl].zip [.ref a, u]) fun _ => none) = fun x => List.lookup x ([sf, vl].zip [.ref a, u]).reverse := by
      funext x
      have q1 : (envOfC qual (twoScope sf vl) s.heap.objs.size f (.ref cda)).kindOf sf = some .local := by
        show List.lookup sf [(sf, NameKind.local), (vl, NameKind.local)] = _
        simp [List.lookup]
      have q2 : (envOfC qual (twoScope sf vl) s.heap.objs.size f (.ref cda)).kindOf vl = some .local := by
        show List.lookup vl [(sf, NameKind.local), (vl, NameKind.local)] = _
        simp [List.lookup, beq_false_of_ne (Ne.symm ne)]
      show bindL _ [(sf, .ref a), (vl, u)] _ x = List.lookup x [(vl, u), (sf, .ref a)]
      rw [bindL.eq_2, bindL.eq_2, bindL.eq_1, if_pos q2, if_pos q1]
      by_cases e1 : x = vl
      · subst e1
        simp [List.lookup]
      · by_cases e2 : x = sf
        · subst e2
          simp [List.lookup, e1, beq_false_of_ne e1]
        · simp [List.lookup, e1, e2, beq_false_of_ne e1, beq_false_of_ne e2]
    rw [e]
    exact ns
  have I1 : Inv (cxOf CX P w K mg base [sf, vl] qual (twoScope sf vl) f (.ref cda) A outer s H E) [] (L2.start [sf, vl] [.ref a, v]) H { s with heap := h1, toks := s.toks + 2 } := inv_start S2 hr.hd e0 rfl (.cons rfl (.cons ru .nil)) ic
  refine ⟨noL.keeps kp01, ks_codeAny_funcAt ?_⟩
  have msf : (fun x => List.lookup x ([sf, vl].zip [Value.ref a, u]).reverse) ar.arg = some (.ref a) := by
    rw [esf]
    show List.lookup sf [(vl, u), (sf, Value.ref a)] = _
    simp [List.lookup, beq_false_of_ne ne]
  have mvl : (fun x => List.lookup x ([sf, vl].zip [Value.ref a, u]).reverse) vl = some u := by
    show List.lookup vl [(vl, u), (sf, Value.ref a)] = _
    simp [List.lookup]
  have ns : h1.Ns s.heap.objs.size (fun x => List.lookup x ([sf, vl].zip [Value.ref a, u]).reverse) := ns
  generalize (fun x => List.lookup x ([sf, vl].zip [Value.ref a, u]).reverse) = m at ns msf mvl
  show PySem.wpAt (model P w) (A.deeper (W.ksEnv qual scope s.heap.objs.size f (.ref cda) cc)) (Code.func _ (W.ksEnv qual scope s.heap.objs.size f (.ref cda) cc)) (execs _ (W.ksEnv qual scope s.heap.objs.size f (.ref cda) cc)) _ _ { s with heap := h1, toks := s.toks + 2 }
  have inB : ∀ (b : Addr) (o : Obj), base.get? b = some o → h1.get? b = some o := fun b o z => kp01 b o (e0.bs b o z).1
  refine ks_wpAt_execs_cons (super_stmt (s := { s with heap := h1, toks := s.toks + 2 }) (t0 := t0) T (inK.keeps kp01) (e0.mod.glob.keeps inB) mgS (hbN.keeps inB) ((hbB _ (by decide)).trans rfl) ns msf (kp01 _ _ ie) hm any hcd2 hin hsub (kp01 _ _ (inK _ _ lC)) (hi _) (hsw _) (hev _) fun h2 t1 tk kp e2 => ?_)
  dsimp only
  have ns2 : h2.Ns s.heap.objs.size m := by
    obtain ⟨o, es, ep, ho, z⟩ := ns
    exact ⟨o, es, ep, kp _ o (Nat.ne_of_gt la) ho, z⟩
  have I2 : Inv (cxOf CX P w K mg base [sf, vl] qual (twoScope sf vl) f (.ref cda) A outer s H E) [] (L2.start [sf, vl] [.ref a, v]) H { s with heap := h2, toks := tk } := by
    have z := I1.write (x := a) (e := a) (o := exo a C none) (h' := h2) (t' := tk) (by rw [hH]; trivial) (.inl rfl) kp ⟨_, e2⟩ (exo_ok e2)
    have ex : upd H a (exo a C none) = H := by
      funext b
      by_cases eb : b = a
      · subst eb
        rw [upd_same, hH]
      · rw [upd_ne eb]
    rw [ex] at z
    exact z
  refine ks_wpAt_execs_cons (ks_wpAt_Assign_Attr (wpAt_of_wpAny (ESX.ldL ns2 mvl ?_ T.kind lv dvl)) (hsw2 _))
  refine ESX.ldL ns2 (by rw [esf] at msf; exact msf) ?_ T.kind lsf dsf
  refine ost_new O I2 hH hfl ru fun dx s3 hd hne I3 => ?_
  dsimp only
  refine wpAt_of_wpAny (wpAny_execs_nil ?_)
  exact ⟨.non, _, I3.os, I3.bare, I3.base, I3.hok, rfl, fin dx hd hne⟩
end
end Mi

namespace Mi
open PySem PySem.Spec PyProof.Rows L2
variable [ClsMap]
/-! ### raise X(e), X an own error with one field -/
def sRaise1 (x fl : Str) (ml : Ev (List W)) : Sm := liftE ml fun ws env st => match ws with
  | [v] => .go (.ex ⟨x, [(fl, v)]⟩ env) st
  | _ => .bad
/-- an own error with one field: how it is made -/
structure ErrAt (P : Program) (w : World) (K : PySem.W.Frag) (mg : Str → Option Value) (base : Heap) (x fl : Str) (C : Addr) : Prop where
  o : OexC K C
  mgx : mg x = some (.ref C)
  made : ∃ (fI : Addr) (fd : FuncData) (sf vl : Str) (k : Nat), PySem.W.findIn K (.ref C) "__init__" = some (some (.ref fI)) ∧ PySem.W.typeIn K (.ref fI) = some (.type "function") ∧ FnOk P w K mg base CX0 k fI fd [sf, vl] (spErr C fl) ∧ Binds K fd [sf, vl] [] ∧ k ≤ 1
section
variable {X : Cx} {Wx : WX} {x fl : Str} {C : Addr} {p pos pos2 : Pos} {e : Expr} {ml : Ev (List W)}
theorem gs_raise (hc : X.calm = true) (tk : Takes X Wx) (M : ErrAt X.prog X.w X.K X.mg X.base x fl C) (hr : Room 2 X.A) (hg : Gl X x) (ha : GA X Wx [e] ml) (hdb : (x == ("__debug__" : Str)) = false := by decide)
    (he : starEach [e] X.env = (false, eval e X.env) :: starEach [] X.env := by rfl) (hpl : (backTo pos (starEach [] X.env)).any (·.1) = false := by rfl) : GS X Wx (.Raise (some (.Call (.Name x p) [e] [] pos)) none pos2) (sRaise1 x fl ml) := by
  obtain ⟨fI, fd, sf, vl, k, iC, tI, F, hb, hk⟩ := M.made
  refine PSimp (ps_raise hc tk (pmk_oex M.o iC tI F (hr.mono (by omega)) hb .nil pass0 hg M.mgx ha hdb he hpl)) fun D σ H ⟨p, st, env, hp, S, E, h⟩ => ?_
  refine lift_of hp S E h fun q s1 ws vs t1 S1 E1 r h1 => ?_
  split at h1
  · rename_i w
    obtain ⟨v, rv⟩ := one_of r
    obtain ⟨rfl, rv⟩ := rv
    refine ⟨by simp, fun a ha => ⟨a, v, rfl, upd_same, fun dx hdx hne => ⟨rfl, dx, [(fl, v)], upd_same, ?_, ?_, ?_⟩⟩⟩
    · rw [upd_ne hne]
      exact upd_same
    · rw [upd_ne hne] at hdx
      exact hdx
    · rw [upd_ne hne] at hdx
      have ex : upd (del (upd (upd (upd q.H a (exo a C none)) dx (exd dx [(fl, v)])) a (exo a C (some dx))) a) dx (.xd [(fl, v)]) = upd q.H dx (.xd [(fl, v)]) := by
        funext b
        by_cases e1 : b = dx
        · rw [e1, upd_same, upd_same]
        · rw [upd_ne e1, upd_ne e1]
          unfold del
          by_cases e2 : b = a
          · rw [if_pos e2, e2, ha]
          · rw [if_neg e2, upd_ne e2, upd_ne e1, upd_ne e2]
      rw [ex]
      have t2 := step_new (o := .xd [(fl, v)]) S1 hdx
      exact h1 { q with H := upd q.H dx (.xd [(fl, v)]) } σ (.ref C) (some dx) t2 (sr_new S1 hdx) (E1.step t2) ⟨C, M.mgx, rfl, dx, [(fl, v)], rfl, upd_same, fresh_out S1 hdx, rfl, v, [], rfl, RW.step t2 w v rv, rfl⟩
  · exact h1.elim
end
end Mi

namespace Mi
open PySem PySem.Spec PyProof.Rows L2
variable [ClsMap]
/-! ### try: .. except X as n: y = n, the error kept -/
/-- an error that was caught and is kept as a value -/
def exk (a : Addr) (cls : Value) (d : Option Addr) : HO := .ext fun h => ∃ oe vs, h.get? a = some oe ∧ Zc cls d oe ∧ oe.data = .fields vs
section
variable {X : Cx} {pins : List (Addr × Obj)} {σ : L2.St} {H : Hp} {s sI : Shared} {a : Addr} {cls : Value} {d : Option Addr}
theorem inv_keep {σ0 : L2.St} (I0 : Inv X pins σ0 H sI) (no : sI.heap.get? a = none) (hH : H a = none) (I : Inv X pins σ H s) (ok : ∃ oe vs, s.heap.get? a = some oe ∧ Zc cls d oe ∧ oe.data = .fields vs) : Inv X pins σ (upd H a (exk a cls d)) s := by
  have apart : ∀ b, (∃ o, sI.heap.get? b = some o) → b ≠ a := fun b ⟨o, z⟩ e => by
    rw [e, no] at z
    cases z
  have old : ∀ b o, X.s_0.heap.get? b = some o → b ∉ X.ex → b ≠ a := fun b o z n => apart b (I0.base.there b o z n)
  have inH : ∀ b u, H b = some u → b ≠ a := fun b u z => ne_of_none z hH
  refine ⟨I.ok, I.os, I.bare, ⟨I.base.keep, I.base.slot, fun b o h1 h2 h3 => ?_, I.base.there, fun b xs z => ?_, fun b o u z => ?_, fun b ps z => ?_⟩, I.loc, I.cell, ?_, fun x c z => ?_, fun p hp => ?_, fun b o z => ?_, I.len⟩
  · rw [upd_ne (old b o h1 h3)]
    exact I.base.free b o h1 h2 h3
  · have q := I.base.tups b xs z
    rw [upd_ne (inH b _ q)]
    exact q
  · have q := I.base.frzs b o u z
    rw [upd_ne (inH b _ q)]
    exact q
  · obtain ⟨more, q⟩ := I.base.tbls b ps z
    refine ⟨more, ?_⟩
    rw [upd_ne (inH b _ q)]
    exact q
  · obtain ⟨m, ⟨o, _, _, ho, _⟩, _⟩ := I0.loc
    rw [upd_ne (apart _ ⟨o, ho⟩)]
    exact I.free
  · obtain ⟨v, o, ho, _⟩ := I0.cell x c z
    rw [upd_ne (apart _ ⟨o, ho⟩)]
    exact I.freeC x c z
  · have q0 := I0.pin p hp
    have q := I.pin p hp
    rw [upd_ne (apart _ ⟨_, q0.1⟩)]
    exact q
  · by_cases e : b = a
    · rw [e, upd_same] at z
      cases z
      rw [e]
      obtain ⟨oe, vs, h1, h2⟩ := ok
      exact ⟨⟨oe, vs, h1, h2⟩, ⟨oe, h1⟩, fun g1 g2 ⟨oe, vs, h1, h2⟩ k => ⟨oe, vs, k _ h1, h2⟩⟩
    · rw [upd_ne e] at z
      refine (I.hok b o z).stay (fun _ _ _ q => q) (fun c q => ?_) fun c xs q => ?_
      · rw [upd_ne (inH c _ q)]
        exact q
      · rw [upd_ne (inH c _ q)]
        exact q
/-- what is wished of an error that comes out of the body -/
def wKeep (K : PySem.W.Frag) (c : Value) (n i j : Nat) (D : Ends) : WX := fun cls d σ H =>
  ∃ b, PySem.W.exmOne K cls c = some b ∧ (b = true → σ.length = n → ∀ a, H a = none → D.nx (((σ.set i (some (.ref a))).set j (some (.ref a))).set i none) (upd H a (exk a cls d))) ∧ (b = false → False)
theorem ps_try_keep {x n y : Str} {c : Value} {i j : Nat} {body : List Stmt} {np pos pos' py pn2 pa : Pos} {tb : WX → TS}
    (hs : X.stack = X.env :: X.outer) (hf : X.env.frame = some X.env.locals) (hN : X.N.Nodup) (hi : X.N[i]? = some n) (hln : X.env.kindOf n = some .local) (hj : X.N[j]? = some y) (hly : X.env.scope.names.lookup y = some .local) (hc : Names X x c)
    (hb : ∀ (W : WX) (pn : List (Addr × Obj)) (xe : Value → Shared → Prop), Takes (X.tr pn xe) W → PassesOwn (model X.prog X.w) X.A X.env xe → PSs (X.tr pn xe) body (tb W))
    (hnd : (n == ("__debug__" : Str)) = false) (hsw : swapsWith (.Name n pn2) (some (.Name y py)) pa.line X.env = pure false) :
    PS X (.Try body [.ExceptHandler (some (.Name x np)) (some n) [.Assign [.Name y py] (.Name n pn2) pa] pos'] [] [] pos) (fun D σ H => tb (wKeep X.K c X.N.length i j D) D σ H) := by
  refine ⟨fun pins s σ H D I h => ?_⟩
  refine wpAny_Try_except ?_
  have fr : X.A.frames = some (X.env :: X.outer) := by rw [I.ok.frames, hs]
  let xe : Value → Shared → Prop := fun e s₁ => wpAny (model X.prog X.w) X.A (noteFrame e X.env) (fun x₁ s₂ => wpAny (model X.prog X.w) X.A (setFlight e none) (fun x₂ s₃ => wpAny (model X.prog X.w) X.A (handleBy e X.env [.ExceptHandler (some (.Name x np)) (some n) [.Assign [.Name y py] (.Name n pn2) pa] pos']) (SP X pins D) X.xe s₃) X.xe s₂) X.xe s₁
  have tk : Takes (X.tr (X.pn ++ pins) xe) (wKeep X.K c X.N.length i j D) := by
    rintro u s' ⟨a, B, sI, pins', σ', H', cls, d, rfl, I', kB, up, sky, hH, os, bare, wk⟩
    have I0 : Inv X pins σ' H' sI := I'.ofTry I.ok
    have sky' : Sky B (X.env :: X.outer) a (Zc cls d) X.env.locals s'.heap := by
      rw [← hs]
      exact sky
    refine Sky.land Zc.steady fr hf sky' fun h1 fly up1 => ?_
    obtain ⟨oe, vs, at1, zc, dt⟩ := fly.there
    have nfr : a ∉ frs (X.env :: X.outer) := fun z => by
      obtain ⟨_, o, ho, hd⟩ := fly.2.2.1.mem z
      rw [at1] at ho
      cases ho
      exact hd vs dt
    have no : sI.heap.get? a = none := by
      cases e : sI.heap.get? a with
      | none => rfl
      | some o =>
        have z := kB a o e (by
          show a ∉ frs X.stack
          rw [hs]
          exact nfr)
        rw [fly.2.1] at z
        cases z
    have I1 : Inv X pins σ' H' { s' with heap := h1 } := I0.landed kB fly.1 (up.trans up1) os bare
    have nl : a ≠ X.env.locals := fun e => by
      obtain ⟨m, ⟨o, _, _, ho, _⟩, _⟩ := I0.loc
      rw [← e, no] at ho
      cases ho
    have I2 := I1.suite at1 dt hH nl (fun z => nfr (by
      obtain ⟨e, he, h⟩ := List.mem_filterMap.mp z
      exact List.mem_filterMap.mpr ⟨e, List.mem_cons_of_mem _ he, h⟩))
    obtain ⟨b, hbm, kt, kf⟩ := wk
    refine wpAny_handleBy_cons (codeAny_handlers_test ?_) (by simp [byPass])
    have test : ∀ (Q : Bool → Shared → Prop) (E : Value → Shared → Prop), Q b { s' with heap := h1 } → wpAny (model X.prog X.w) (X.A.mark (some (.ref a))) (excMatches (.ref a) c) Q E { s' with heap := h1 } := fun Q E q =>
      W.exm_one I1.kIn (fun A Q E s k q => wpAny_typeOf_ref (k a _ at1) (by rw [zc.1]; exact q)) hbm _ _ _ _ (fun _ _ z => z) q
    have test2 : ∀ (Q : Value → Shared → Prop) (E : Value → Shared → Prop), Q c { s' with heap := h1 } → wpAny (model X.prog X.w) (X.A.mark (some (.ref a))) (eval (.Name x np) X.env) Q E { s' with heap := h1 } := fun Q E q => by
      rcases hc.2.2 with z | ⟨z1, z2, z3⟩
      · exact ld_glob I2 hc.1 z q hc.2.1
      · exact ld_blt I2 hc.1 z1 z2 q z3 hc.2.1
    refine test2 _ _ (test _ _ ?_)
    cases b with
    | false => exact (kf rfl).elim
    | true =>
      dsimp only
      refine codeAny_handlers_suite_as (HandSPX.lands_againZ fly fun h2 fly2 up2 => ?_)
      have I3 : Inv X pins σ' H' { s' with heap := h2 } := I0.landed kB fly2.1 (up.trans (up1.trans up2)) os bare
      obtain ⟨oe2, vs2, at2, zc2, dt2⟩ := fly2.there
      have I4 := inv_keep (d := d) (cls := cls) I0 no hH I3 ⟨oe2, vs2, at2, zc2, dt2⟩
      have lenI : @LT.lt Nat _ i σ'.length := by
        rw [I4.len]
        exact (List.getElem?_eq_some_iff.mp hi).1
      refine store_ok (v := .ref a) I4 hN hi (.inl hln) rfl (fun s5 I5 => ?_) (.inr hln)
      refine wpAny_execs_cons ?_
      refine wpAny_Assign_Name (wpAny_Name ?_ hnd) hsw
      obtain ⟨m, nm, lk⟩ := I5.loc
      obtain ⟨u, ru, lu⟩ := lk i n (.ref a) hi (by rw [List.getElem?_set_self lenI]) (.inl hln)
      have eu : u = .ref a := ru
      subst eu
      have mu : m n = some (.ref a) := by
        rcases lu with ⟨_, z⟩ | ⟨z, _⟩
        · exact z
        · rcases z with z | z
          · rw [hln] at z
            cases z
          · rw [hln] at z
            cases z
      refine wpAny_loadName_local I.ok.kind hln nm mu ?_
      refine store_ok (v := .ref a) I5 hN hj (.inl hly) rfl (fun s6 I6 => ?_) (.inr hly)
      dsimp only
      refine wpAny_execs_nil ?_
      exact gone_ok I6 hN hi hln fun s7 I7 => ⟨_, _, I7, kt rfl (by rw [← I3.len]) a hH⟩
  refine wpAny_mono ((hb _ _ xe tk PassesOwn.looking).run [] s σ H D (I.toTry xe) h) (fun f s' hh => ?_) fun e s' he => he
  cases f with
  | next =>
    obtain ⟨σ', H', J, q⟩ := hh
    exact wpAny_execs_nil ⟨σ', H', J.ofTry I.ok, q⟩
  | brk =>
    obtain ⟨σ', H', J, q⟩ := hh
    exact ⟨σ', H', J.ofTry I.ok, q⟩
  | cont =>
    obtain ⟨σ', H', J, q⟩ := hh
    exact ⟨σ', H', J.ofTry I.ok, q⟩
  | ret u =>
    obtain ⟨v, σ', H', J, q⟩ := hh
    exact ⟨v, σ', H', J.ofTry I.ok, q⟩
end
end Mi

namespace Mi
open PySem PySem.Spec PyProof.Rows L2
variable [ClsMap]
/-! ### isinstance and the field of an error that is kept -/
section
variable {X : Cx} {pins : List (Addr × Obj)} {σ : L2.St} {H : Hp} {s : Shared}
theorem exk_inst (I : Inv X pins σ H s) {a D dx : Addr} {fs : List (Str × V)} (h1 : H a = some (exk a (.ref D) (some dx))) (h2 : H dx = some (.xd fs)) :
    ∃ oe od, PySem.W.InstAt s.heap a oe D (some od) ∧ ∃ mA : Str → Option Value, (∀ name, PySem.W.lookIn name od = some (mA name)) ∧ ∀ f, RelO (fs.lookup f) (mA f) := by
  obtain ⟨⟨oe, vs, at1, zc, dt⟩, _⟩ := I.hok a _ h1
  obtain ⟨mA, ns, rel⟩ := I.hok dx _ h2
  obtain ⟨od, hod, look⟩ := lookIn_ns ns
  refine ⟨oe, od, ⟨at1, zc.1, ?_, ?_⟩, mA, look, rel⟩
  · unfold PySem.W.notCls
    rw [dt]
  · rw [zc.2]
    exact hod
def rIsK (K : PySem.W.Frag) : List V → Hp → VK → Prop := fun xs H Q =>
  ∃ (a D dx : Addr) (fs : List (Str × V)) (c : V) (cv : Value) (b : Bool), xs = [.ref a, c] ∧ ExcC K D ∧ (PySem.W.clsIn K D).isSome = true ∧ H a = some (exk a (.ref D) (some dx)) ∧ H dx = some (.xd fs) ∧ (∀ u, RelV c u → u = cv) ∧ PySem.W.kitOne K (.ref D) cv = some b ∧ Q (.bl b) H
theorem call_isK : CallR X (.builtin "isinstance") (rIsK X.K) := by
  rintro pins s σ H xs us Q I r ⟨a, D, dx, fs, c, cv, b, rfl, C, hcl, h1, h2, hu, hb, q⟩
  obtain ⟨oe, od, inst, _⟩ := exk_inst I h1 h2
  cases r with
  | cons r0 rr =>
    cases rr with
    | cons r1 r2 =>
      cases r2
      cases r0
      have e := hu _ r1
      subst e
      exact PySem.W.kia_one (PySem.W.kitx_exc hcl C.hg C.hk C.hs C.ha C.hn C.ht C.hm) I.kIn inst hb (fun z => nomatch z) fun tk => ⟨.bl b, H, I.kept (fun _ _ z => z), rfl, q⟩
theorem pe_xk {e : Expr} {te : TE} {pos : Pos} {n : Str} (he : PE X e te) (hb : attributeBase e n X.env (eval e X.env) = eval e X.env := by rfl) :
    PE X (.Attribute e n pos) (fun σ H Q => te σ H fun x H1 => ∃ (a C dx : Addr) (fs : List (Str × V)) (v : V), x = .ref a ∧ XfC X.K C ∧ PySem.W.findIn X.K (.ref C) n = some none ∧ H1 a = some (exk a (.ref C) (some dx)) ∧ H1 dx = some (.xd fs) ∧ fs.lookup n = some v ∧ Q v H1) := by
  refine ⟨fun pins s σ H Q I h => attr_of hb (thn (he.run pins s σ H _ I h) fun u s1 ⟨x, H1, I1, r1, a, C, dx, fs, v, ex, T, hn, h1, h2, hl, q⟩ => ?_)⟩
  subst ex
  cases r1
  obtain ⟨oe, od, inst, mA, look, rel⟩ := exk_inst I1 h1 h2
  have z := rel n
  rw [hl] at z
  obtain ⟨u, e, ru⟩ := z.some_of
  exact HandSPX.exc_get I1.kIn inst T.ga T.gg T.exC (PySem.W.findObj_own T.hdC hn rfl (by rw [look n, e])) (handed_of ru) ⟨v, H1, I1.kept (fun _ _ z => z), ru, q⟩
end
end Mi

namespace Mi
open PySem PySem.Spec PyProof.Rows L2
variable [ClsMap]

/-! ### a def that is given data alone and gives data alone may be evaluated on the empty store -/
mutual
def noRef : W → Bool
  | .ref _ => false
  | .tup xs => noRefs xs
  | .lst xs => noRefs xs
  | .frz xs => noRefs xs
  | .dic _ _ => false
  | _ => true
def noRefs : List W → Bool
  | [] => true
  | x :: xs => noRef x && noRefs xs
end
mutual
def pureW : W → Bool
  | .ref _ => false
  | .dic _ _ => false
  | .lst _ => false
  | .frz _ => false
  | .tup xs => pureWs xs
  | _ => true
def pureWs : List W → Bool
  | [] => true
  | x :: xs => pureW x && pureWs xs
end
def boxR (st : Store) : Res W → Res W
  | .ok w _ => if pureW w = true then .ok w st else .bad
  | .exc x _ => if pureWs (x.args.map (·.2)) = true then .exc x st else .bad
  | .bad => .bad
def mBox (m : List W → Store → Res W) : List W → Store → Res W := fun ws st => if noRefs ws = true then boxR st (m ws []) else .bad

def Wh.bare (p : Wh) : Wh := { p with n := 0 }
section
variable {K : PySem.W.Frag} {p q : Wh}
theorem Wh.bare_out {a : Addr} (h : p.out a) : p.bare.out a := ⟨fun i hi => absurd hi (Nat.not_lt_zero _), h.2⟩
mutual
theorem rw_bare : ∀ (w : W) (v : V), noRef w = true → RW K p w v → RW K p.bare w v
  | .non, v, _, h => h
  | .bl b, v, _, h => h
  | .int i, v, _, h => h
  | .str x, v, _, h => h
  | .tup xs, v, e, ⟨a, vs, ev, h, k⟩ => ⟨a, vs, ev, h.imp (fun z => ⟨z.1, Wh.bare_out z.2⟩) (fun z => z), rws_bare xs vs e k⟩
  | .lst xs, v, e, ⟨a, vs, ev, h, k⟩ => ⟨a, vs, ev, ⟨h.1, Wh.bare_out h.2⟩, rws_bare xs vs e k⟩
  | .frz xs, v, e, ⟨a, vs, ev, h, k⟩ => ⟨a, vs, ev, h.imp (fun z => ⟨z.1, Wh.bare_out z.2⟩) (fun z => z), rws_bare xs vs e k⟩
  | .ref n, v, e, _ => (nomatch e)
  | .dic _ _, v, e, _ => (nomatch e)
theorem rws_bare : ∀ (ws : List W) (vs : List V), noRefs ws = true → RWs K p ws vs → RWs K p.bare ws vs
  | [], vs, _, h => h
  | x :: xs, vs, e, ⟨v, r, ev, h, k⟩ => by
    unfold noRefs at e
    rw [Bool.and_eq_true] at e
    exact ⟨v, r, ev, rw_bare x v e.1 h, rws_bare xs r e.2 k⟩
end
theorem sr_bare {st : Store} (S : SR K p st) : SR K p.bare [] :=
  ⟨S.tab, rfl, fun i j hi => absurd hi (Nat.not_lt_zero _), fun i o h => by simp at h, fun a h => ⟨(S.hid a h).1, fun i hi => absurd hi (Nat.not_lt_zero _)⟩⟩
/-- the store as it was, the heap as it is -/
def Wh.back (p q : Wh) : Wh := { p with H := q.H }
theorem kept_bare {st : Store} (S : SR K p st) (t : Step p.bare q) {i : Nat} (hi : i < p.n) : q.H (p.ρ i) = p.H (p.ρ i) := by
  cases e : p.H (p.ρ i) with
  | none => exact absurd e (S.there i hi)
  | some o => exact t.keep _ _ e ⟨fun j hj => absurd hj (Nat.not_lt_zero _), fun z => (S.hid _ z).2 i hi rfl⟩
theorem step_back {st : Store} (S : SR K p st) (t : Step p.bare q) : Step p (p.back q) := by
  refine ⟨⟨Nat.le_refl _, fun _ _ => rfl, fun a o e u => t.keep a o e (Wh.bare_out u), fun i h1 h2 => absurd h2 (Nat.not_lt.mpr h1), fun i hi => ?_, fun a z => .inl z, fun a z => t.hth a z⟩, rfl, t.hk⟩
  show q.H (p.ρ i) ≠ none
  rw [kept_bare S t hi]
  exact S.there i hi
theorem sr_back {st s1 : Store} (S : SR K p st) (t : Step p.bare q) (Sq : SR K q s1) : SR K (p.back q) st := by
  have t2 := step_back S t
  refine ⟨by
    have z := Sq.tab
    rw [t.xs] at z
    exact z, S.len, S.inj, fun i o h => ?_, fun a z => ⟨t.hth a z, (S.hid a z).2⟩⟩
  have hi : i < p.n := by
    rw [S.len]
    exact (List.getElem?_eq_some_iff.mp h).1
  show RO K _ o (q.H (p.ρ i))
  rw [kept_bare S t hi]
  exact (S.obj i o h).step t2
theorem ro_nontup {o : O} {h : Option HO} (r : RO K p o h) : (∀ vs, h ≠ some (.tup vs)) ∧ (∀ ob u, h ≠ some (.frz ob u)) ∧ ∀ fs, h ≠ some (.xd fs) := by
  cases o with
  | lst xs =>
    obtain ⟨vs, e, _⟩ := r
    rw [e]
    exact ⟨fun _ z => (nomatch z), fun _ _ z => (nomatch z), fun _ z => (nomatch z)⟩
  | ins C fs =>
    obtain ⟨dx, gs, e, _⟩ := r
    rw [e]
    exact ⟨fun _ z => (nomatch z), fun _ _ z => (nomatch z), fun _ z => (nomatch z)⟩
  | dct fs =>
    obtain ⟨gs, e, _⟩ := r
    rw [e]
    exact ⟨fun _ z => (nomatch z), fun _ _ z => (nomatch z), fun _ z => (nomatch z)⟩
theorem out_back {st s1 : Store} (S : SR K p st) (t : Step p.bare q) (Sq : SR K q s1) {a : Addr} (u : q.out a) (no : ∀ (i : Nat) (o : O), st[i]? = some o → RO K (p.back q) o (q.H a) → False) : (p.back q).out a := by
  refine ⟨fun i hi e => ?_, fun z => u.2 (by rw [t.xs]; exact z)⟩
  have hi' : i < p.n := hi
  have e' : p.ρ i = a := e
  have hl : i < st.length := by
    rw [← S.len]
    exact hi'
  have r := (sr_back S t Sq).obj i st[i] (List.getElem?_eq_getElem hl)
  have r' : RO K (p.back q) st[i] (q.H (p.ρ i)) := r
  rw [e'] at r'
  exact no i _ (List.getElem?_eq_getElem hl) r'
mutual
theorem rw_back {st s1 : Store} (S : SR K p st) (t : Step p.bare q) (Sq : SR K q s1) : ∀ (w : W) (v : V), pureW w = true → RW K q w v → RW K (p.back q) w v
  | .non, v, _, h => h
  | .bl b, v, _, h => h
  | .int i, v, _, h => h
  | .str x, v, _, h => h
  | .tup xs, v, e, ⟨a, vs, ev, h, k⟩ => ⟨a, vs, ev, h.imp (fun z => ⟨z.1, out_back S t Sq z.2 fun i o _ r => by
      obtain ⟨r1, r2, _⟩ := ro_nontup r
      rcases z.1 with c | ⟨ob, c⟩
      · exact r1 _ c
      · exact r2 _ _ c⟩) (fun z => z), rws_back S t Sq xs vs e k⟩
  | .lst xs, v, e, _ => (nomatch e)
  | .frz xs, v, e, _ => (nomatch e)
  | .ref n, v, e, _ => (nomatch e)
  | .dic _ _, v, e, _ => (nomatch e)
theorem rws_back {st s1 : Store} (S : SR K p st) (t : Step p.bare q) (Sq : SR K q s1) : ∀ (ws : List W) (vs : List V), pureWs ws = true → RWs K q ws vs → RWs K (p.back q) ws vs
  | [], vs, _, h => h
  | x :: xs, vs, e, ⟨v, r, ev, h, k⟩ => by
    unfold pureWs at e
    rw [Bool.and_eq_true] at e
    exact ⟨v, r, ev, rw_back S t Sq x v e.1 h, rws_back S t Sq xs r e.2 k⟩
end
end
theorem FnG.box {P : Program} {w : World} {K : PySem.W.Frag} {mg : Str → Option Value} {base : Heap} {k : Nat} {f : Addr} {fd : FuncData} {ps : List Str} {m : List W → Store → Res W} (F : FnG P w K mg base k f fd ps m) : FnG P w K mg base k f fd ps (mBox m) := by
  refine ⟨fun ws st h => ?_, fun A outer s H args us vs ws p st Q E hr hg e0 hb rv hl hp S rs h => ?_⟩
  · unfold mBox
    rw [F.len ws [] h]
    split <;> rfl
  · unfold mBox at h
    by_cases c : noRefs ws = true
    · rw [if_pos c] at h
      refine F.run A outer s H args us vs ws p.bare [] Q E hr hg e0 hb rv hl hp (sr_bare S) (rws_bare ws vs c rs) ?_
      cases e : m ws [] with
      | ok w0 s1 =>
        rw [e] at h
        unfold boxR at h
        dsimp only at h
        by_cases c2 : pureW w0 = true
        · rw [if_pos c2] at h
          exact fun q b t S1 r => h (p.back q) b (step_back S t) (sr_back S t S1) (rw_back S t S1 w0 b c2 r)
        · rw [if_neg c2] at h
          exact h.elim
      | exc x s1 =>
        rw [e] at h
        unfold boxR at h
        dsimp only at h
        by_cases c2 : pureWs (x.args.map (·.2)) = true
        · rw [if_pos c2] at h
          intro q cls d t S1 xr
          obtain ⟨C, h1, h2, dx, fs, h3, h4, h5, h6, h7⟩ := xr
          refine h (p.back q) cls d (step_back S t) (sr_back S t S1) ⟨C, h1, h2, dx, fs, h3, h4, out_back S t S1 h5 fun i o _ r => (ro_nontup r).2.2 _ h4, h6, rws_back S t S1 _ _ c2 h7⟩
        · rw [if_neg c2] at h
          exact h.elim
      | bad =>
        rw [e] at h
        exact h.elim
    · rw [if_neg c] at h
      exact h.elim
end Mi

namespace Mi
open PySem PySem.Spec PyProof.Rows L2
variable [ClsMap]

theorem u_1 {k : Nat} {A : Around} (r : Room k A) : A.units + 1 < cLine := by
  have z := r.un
  omega
theorem u_100 {k : Nat} {A : Around} (r : Room k A) : A.units + 100 < cLine := by
  have z := r.un
  omega
theorem sw_trueD {kx vx : Expr} {gs : List Comprehension} {scope : Scope} {pos py : Pos} {y : Str} {l : Nat} {env : Env} (hk : env.scope.kind = .function) (hy : env.scope.names.lookup y = some .local) (hl : (py.line == pos.line) = true)
    (ha : (scope.names.any fun (n, k) => n == y && (k == .local || k == .cell)) = false) : swapsWith (.DictComp kx vx gs scope pos) (some (.Name y py)) l env = pure true := by
  have e1 : env.kindOf y = some .local := hy
  have e2 : env.blockKind = .function := by
    unfold Env.blockKind
    rw [hk]
    rfl
  unfold swapsWith
  simp only [e2, e1, ha, Expr.pos, hl]
  rfl
theorem DefOk.box {P : Program} {w : World} {K : PySem.W.Frag} {mg : Str → Option Value} {base : Heap} {x : Str} {st : Stmt} {k : Nat} {ps : List Str} {m : List W → Store → Res W} (D : DefOk P w K mg base x st k ps m) : DefOk P w K mg base x st k ps (mBox m) := by
  obtain ⟨f, fd, F, hm, g⟩ := D.ex
  exact ⟨f, fd, F, hm, g.box⟩
/-! ### texts as numbers, kinds as numbers: what the kernel reckons quickly -/
def isK (t : Nat) : W → Bool
  | .non => false
  | .bl _ => Nat.beq t 0 || Nat.beq t 1
  | .int _ => Nat.beq t 0
  | .str _ => Nat.beq t 2
  | .tup _ => Nat.beq t 3
  | .dic _ _ => Nat.beq t 5
  | _ => Nat.beq t 4
def fIsK (t : Nat) : W → Store → Res W := fun w st => match w with
  | .ref n => match st[n]? with
    | some (.lst _) => .ok (.bl (Nat.beq t 4)) st
    | _ => .bad
  | w => .ok (.bl (isK t w)) st
theorem isk_of {T : String} {t : Nat} (h : ∀ w, isTy T w = isK t w) (h2 : (T == "list") = Nat.beq t 4) : fIsi T = fIsK t := by
  funext w st
  cases w with
  | ref n =>
    unfold fIsi fIsK
    dsimp only
    rw [h2]
    try
      cases st[n]? with
      | none => rfl
      | some o => cases o <;> rfl
  | _ =>
    unfold fIsi fIsK
    dsimp only
    rw [h]
theorem isk_int : fIsi "int" = fIsK 0 := isk_of (fun w => by cases w <;> rfl) (by decide)
theorem isk_bool : fIsi "bool" = fIsK 1 := isk_of (fun w => by cases w <;> rfl) (by decide)
theorem isk_str : fIsi "str" = fIsK 2 := isk_of (fun w => by cases w <;> rfl) (by decide)
theorem isk_tuple : fIsi "tuple" = fIsK 3 := isk_of (fun w => by cases w <;> rfl) (by decide)
theorem isk_list : fIsi "list" = fIsK 4 := isk_of (fun w => by cases w <;> rfl) (by decide)
section
variable {X : Cx} {Wx : WX} {a e : Expr} {me ma : Ev W} {p pos p2 : Pos} {x : Str} {f z : Str} {C : Nat}
theorem ge_isiZ {T : String} {k : W → Store → Res W} {pT : Pos} (hk : fIsi T = k) (hT : TyOk T) (hg : Gl X "isinstance") (hm : X.mg "isinstance" = none) (hgT : Gl X T) (hmT : X.mg T = none) (hvT : bootBuiltins T = some (.type T)) (he : GE X Wx e me)
    (hs : starEach [e, .Name T pT] X.env = (false, eval e X.env) :: starEach [.Name T pT] X.env := by rfl) (hpl : (backTo pos (starEach [.Name T pT] X.env)).any (·.1) = false := by rfl)
    (hs2 : starEach [.Name T pT] X.env = (false, eval (.Name T pT) X.env) :: starEach [] X.env := by rfl) (hn : (T : Str) ≠ "__name__" := by decide) (hd : ((T : Str) == ("__debug__" : Str)) = false := by decide) :
    GE X Wx (.Call (.Name "isinstance" p) [e, .Name T pT] [] pos) (mUn k me) := by
  rw [← hk]
  exact ge_isi hT hg hm hgT hmT hvT he hs hpl hs2 hn hd
theorem ge_strZ {j} (h : x = z) : GE X Wx (.Constant (.str x) j pos) (mC (.str z)) := by
  rw [← h]
  exact ge_str
theorem ge_gStrZ {y : Str} (hz : y = z) (hg : Gl X x) (h : ∃ t, X.mg x = some (.str y t)) (hd : (x == ("__debug__" : Str)) = false := by decide) : GE X Wx (.Name x pos) (mC (.str z)) := by
  rw [← hz]
  exact ge_gStrE hg h hd
theorem ge_fldE (h : f = z) (c : Cls X.K (cl C)) (n : NoAttr X.K (cl C) f) (ha : GE X Wx a ma) (hb : attributeBase a f X.env (eval a X.env) = eval a X.env := by rfl) : GE X Wx (.Attribute a f pos) (mUn (fGet C z) ma) := by
  rw [← h]
  exact ge_fld c n ha hb
theorem gs_fldE (h : f = z) (c : Cls X.K (cl C)) (n : NoAttr X.K (cl C) f) (ha : GE X Wx a ma) (he : GE X Wx e me) (hs : swapsWith e (some (.Attribute a f p2)) pos.line X.env = pure false := by rfl) : GS X Wx (.Assign [.Attribute a f p2] e pos) (sFldW C z me ma) := by
  rw [← h]
  exact gs_fld c n ha he hs
end
/-- the answer is True -/
def saysTrue : Res W → Bool
  | .ok (.bl true) _ => true
  | _ => false
theorem box_true {m : List W → Store → Res W} {ws : List W} {st : Store} (h1 : noRefs ws = true) (h : saysTrue (m ws []) = true) : mBox m ws st = .ok (.bl true) st := by
  unfold mBox
  rw [if_pos h1]
  cases e : m ws [] with
  | ok w s =>
    rw [e] at h
    cases w with
    | bl b =>
      cases b with
      | true => rfl
      | false => cases h
    | _ => cases h
  | exc x s =>
    rw [e] at h
    cases h
  | bad =>
    rw [e] at h
    cases h
end Mi

namespace Mi
open PySem PySem.Spec PyProof.Rows L2
variable [ClsMap]

/-! ### less work for the kernel: what is asked twice is reckoned once -/
mutual
def eqW : W → W → Bool
  | .non, .non => true
  | .bl a, .bl b => a == b
  | .int i, .int j => i == j
  | .str x, .str y => x == y
  | .tup xs, .tup ys => eqWs xs ys
  | .lst xs, .lst ys => eqWs xs ys
  | .frz xs, .frz ys => eqWs xs ys
  | .ref n, .ref m => n == m
  | _, _ => false
def eqWs : List W → List W → Bool
  | [], [] => true
  | x :: xs, y :: ys => eqW x y && eqWs xs ys
  | _, _ => false
end
mutual
theorem eqW_of : ∀ (x y : W), eqW x y = true → x = y
  | .non, y, h => by
    cases y with
    | non => rfl
    | _ => cases h
  | .bl a, y, h => by
    cases y with
    | bl b => exact congrArg W.bl (eq_of_beq h)
    | _ => cases h
  | .int i, y, h => by
    cases y with
    | int j => exact congrArg W.int (eq_of_beq h)
    | _ => cases h
  | .str a, y, h => by
    cases y with
    | str b => exact congrArg W.str (eq_of_beq h)
    | _ => cases h
  | .tup xs, y, h => by
    cases y with
    | tup ys => exact congrArg W.tup (eqWs_of xs ys h)
    | _ => cases h
  | .lst xs, y, h => by
    cases y with
    | lst ys => exact congrArg W.lst (eqWs_of xs ys h)
    | _ => cases h
  | .frz xs, y, h => by
    cases y with
    | frz ys => exact congrArg W.frz (eqWs_of xs ys h)
    | _ => cases h
  | .ref n, y, h => by
    cases y with
    | ref m => exact congrArg W.ref (eq_of_beq h)
    | _ => cases h
  | .dic _ _, y, h => by
    cases y with
    | _ => cases h
theorem eqWs_of : ∀ (xs ys : List W), eqWs xs ys = true → xs = ys
  | [], [], _ => rfl
  | [], _ :: _, h => by cases h
  | _ :: _, [], h => by cases h
  | x :: xs, y :: ys, h => by
    unfold eqWs at h
    rw [Bool.and_eq_true] at h
    rw [eqW_of x y h.1, eqWs_of xs ys h.2]
end
section
variable {X : Cx} {Wx : WX} {e : Expr} {ss : List Stmt}
theorem gss_weak {m m' : Sm} (h : GSs X Wx ss m') (le : ∀ env st, m env st = .bad ∨ m env st = m' env st) : GSs X Wx ss m :=
  PSsimp h fun D σ H ⟨p, st, env, hp, S, E, z⟩ => ⟨p, st, env, hp, S, E, by
    rcases le env st with c | c
    · rw [c] at z
      exact z.elim
    · rw [← c]
      exact z⟩
theorem ge_weak {m m' : Ev W} (h : GE X Wx e m') (le : ∀ env st, m env st = .bad ∨ m env st = m' env st) : GE X Wx e m :=
  PEimp h fun σ H Q ⟨p, st, env, hp, S, E, z⟩ => ⟨p, st, env, hp, S, E, by
    rcases le env st with c | c
    · rw [c] at z
      exact z.elim
    · rw [← c]
      exact z⟩
theorem gt_weak {m m' : Ev Bool} (h : GT X Wx e m') (le : ∀ env st, m env st = .bad ∨ m env st = m' env st) : GT X Wx e m :=
  PTimp h fun σ H Q ⟨p, st, env, hp, S, E, z⟩ => ⟨p, st, env, hp, S, E, by
    rcases le env st with c | c
    · rw [c] at z
      exact z.elim
    · rw [← c]
      exact z⟩
end
/-- repr(a) == repr(b), a and b alike -/
def mEqRep (a b : Ev W) : Ev W := fun env st => match a env st with
  | .ok x s1 => match b env s1 with
    | .ok y s2 => if eqW x y = true then (match fRepr [x] s1 with
      | .ok _ _ => .ok (.bl true) s2
      | _ => .bad) else .bad
    | _ => .bad
  | _ => .bad
theorem eq_str (t : Str) (st : Store) : fEq (.str t) (.str t) st = .ok (.bl true) st := by
  show (if cEq (.str t) (.str t) = true then Res.ok (W.bl (PyData.eqv (.str t) (.str t))) st else .bad) = _
  have h1 : cEq (.str t) (.str t) = true := by
    unfold cEq
    rfl
  have h2 : PyData.eqv (.str t) (.str t) = true := by simp [PyData.eqv]
  rw [if_pos h1, h2]
theorem repr_cases (x : W) : (∀ s, fRepr [x] s = .bad) ∨ ∃ t, ∀ s, fRepr [x] s = .ok (.str t) s := by
  cases ed : x.toD with
  | none =>
    refine .inl fun s => ?_
    unfold fRepr
    dsimp only
    rw [ed]
  | some d =>
    by_cases c : cRepr d = true
    · refine .inr ⟨d.shown, fun s => ?_⟩
      unfold fRepr
      dsimp only
      rw [ed]
      exact if_pos c
    · refine .inl fun s => ?_
      unfold fRepr
      dsimp only
      rw [ed]
      exact if_neg c
theorem eqRep_le (a b : Ev W) (env : En) (st : Store) : mEqRep a b env st = .bad ∨ mEqRep a b env st = mOp fEq (mCall fRepr (mCons a mNil)) (mCall fRepr (mCons b mNil)) env st := by
  cases e1 : a env st with
  | exc x s => exact .inl (by simp only [mEqRep, e1])
  | bad => exact .inl (by simp only [mEqRep, e1])
  | ok x s1 =>
    rcases repr_cases x with r | ⟨t, r⟩
    · refine .inl ?_
      cases e2 : b env s1 with
      | exc y s => simp only [mEqRep, e1, e2]
      | bad => simp only [mEqRep, e1, e2]
      | ok y s2 =>
        simp only [mEqRep, e1, e2, r]
        split <;> rfl
    · cases e2 : b env s1 with
      | exc y s => exact .inl (by simp only [mEqRep, e1, e2])
      | bad => exact .inl (by simp only [mEqRep, e1, e2])
      | ok y s2 =>
        by_cases c : eqW x y = true
        · obtain rfl := eqW_of x y c
          refine .inr ?_
          simp only [mEqRep, mOp, mCall, mCons, mNil, Res.bind, e1, e2, r, c, if_pos, eq_str]
        · refine .inl ?_
          simp only [mEqRep, e1, e2]
          rw [if_neg c]
theorem eqRep_leB (a b : Ev W) (env : En) (st : Store) : mB (mEqRep a b) env st = .bad ∨ mB (mEqRep a b) env st = mB (mOp fEq (mCall fRepr (mCons a mNil)) (mCall fRepr (mCons b mNil))) env st := by
  unfold mB
  rcases eqRep_le a b env st with e | e
  · exact .inl (by rw [e]; rfl)
  · exact .inr (by rw [e])
/-- y = f(..); z = f(k=..), with the same arguments; then the rest -/
def sTwice (i j n : Nat) (ix : List Nat) (m : List W → Store → Res W) (a1 a2 : Ev (List W)) (R : Sm) : Sm := fun env st => match a1 env st with
  | .ok ws1 s1 => match mBox m ws1 s1 with
    | .ok w s2 => match a2 (env.set i (some w)) s2 with
      | .ok ws2 s3 => if ws2.length = n ∧ eqWs (pick ix ws2) ws1 = true then R ((env.set i (some w)).set j (some w)) s3 else .bad
      | _ => .bad
    | _ => .bad
  | _ => .bad
theorem box_again {m : List W → Store → Res W} {ws : List W} {s1 s2 : Store} {w : W} (h : mBox m ws s1 = .ok w s2) (s3 : Store) : s2 = s1 ∧ mBox m ws s3 = .ok w s3 := by
  unfold mBox at h ⊢
  by_cases c : noRefs ws = true
  · rw [if_pos c] at h ⊢
    cases e : m ws [] with
    | ok w0 s0 =>
      rw [e] at h
      unfold boxR at h ⊢
      dsimp only at h ⊢
      by_cases c2 : pureW w0 = true
      · rw [if_pos c2] at h ⊢
        cases h
        exact ⟨rfl, rfl⟩
      · rw [if_neg c2] at h
        cases h
    | exc x s0 =>
      rw [e] at h
      unfold boxR at h
      dsimp only at h
      split at h <;> cases h
    | bad =>
      rw [e] at h
      cases h
  · rw [if_neg c] at h
    cases h
theorem twice_le (i j n : Nat) (ix : List Nat) (m : List W → Store → Res W) (a1 a2 : Ev (List W)) (R : Sm) (env : En) (st : Store) :
    sTwice i j n ix m a1 a2 R env st = .bad ∨ sTwice i j n ix m a1 a2 R env st = sSeq (sSet i (mCall (mBox m) a1)) (sSeq (sSet j (mCall (kwM n ix (mBox m)) a2)) R) env st := by
  cases e1 : a1 env st with
  | exc x s => exact .inl (by simp only [sTwice, e1])
  | bad => exact .inl (by simp only [sTwice, e1])
  | ok ws1 s1 =>
    cases e2 : mBox m ws1 s1 with
    | exc x s => exact .inl (by simp only [sTwice, e1, e2])
    | bad => exact .inl (by simp only [sTwice, e1, e2])
    | ok w s2 =>
      cases e3 : a2 (env.set i (some w)) s2 with
      | exc x s => exact .inl (by simp only [sTwice, e1, e2, e3])
      | bad => exact .inl (by simp only [sTwice, e1, e2, e3])
      | ok ws2 s3 =>
        by_cases c : ws2.length = n ∧ eqWs (pick ix ws2) ws1 = true
        · refine .inr ?_
          have k : kwM n ix (mBox m) ws2 s3 = .ok w s3 := by
            unfold kwM
            rw [if_pos c.1, eqWs_of _ _ c.2, (box_again e2 s3).2]
          simp only [sTwice, sSeq, sSet, mCall, liftE, Res.bind, e1, e2, e3, k]
          rw [if_pos c]
        · refine .inl ?_
          simp only [sTwice, e1, e2, e3]
          rw [if_neg c]
end Mi

namespace Mi
open PySem PySem.Spec PyProof.Rows L2
variable [ClsMap]

/-! ### {k: v, ..}, a new dict of the store -/
def mPairs : List (Ev W × Ev W) → En → Store → Res (List (Key × W))
  | [], _, st => .ok [] st
  | (k, v) :: r, env, st => (noX (k env st)).bind fun x s1 => (noX (v env s1)).bind fun y s2 => match keyOf x with
    | some key => (mPairs r env s2).bind fun ps s3 => .ok ((key, y) :: ps) s3
    | none => .bad
def putAll2 (acc more : List (Key × W)) : List (Key × W) := match more with
  | [] => acc
  | kv :: r => putAll2 (putA acc kv.1 kv.2) r
def mDisp (es : List (Ev W × Ev W)) : Ev W := fun env st => match mPairs es env st with
  | .ok ps s => if ps.length ≤ 15 then .ok (.ref s.length) (s ++ [.dct (putAll2 [] ps)]) else .bad
  | _ => .bad
section
variable {X : Cx} {Wx : WX} {pos : Pos} {σ : L2.St}
abbrev trG (X : Cx) (Wx : WX) (es : List (Ev W × Ev W)) : List (TE × TE) := es.map fun m => (tG X.K X.mg (RW X.K) Wx m.1, tG X.K X.mg (RW X.K) Wx m.2)
theorem DsR.merge {K : PySem.W.Frag} {p : Wh} : ∀ {more : List (Key × W)} {gs : List (Key × V)} {acc : List (Key × W)} {bs : List (Key × V)}, DsR K p more gs → DsR K p acc bs → DsR K p (putAll2 acc more) (mergeK bs gs)
  | [], gs, acc, bs, h, r => by
    rw [h.nilOut]
    exact r
  | (k, w) :: more, gs, acc, bs, h, r => by
    obtain ⟨v, r2, rfl, h1, h2⟩ := h.out
    show DsR K p (putAll2 (putA acc k w) more) (mergeK (putK bs k v) r2)
    exact DsR.merge h2 (r.put h1)
theorem pairs_of : ∀ (es : List (Ev W × Ev W)) (q : Wh) (st : Store) (env : En) (ps : List (Key × W)) (s2 : Store) (Qf : List (V × V) → Hp → Prop), SR X.K q st → EnvR X.K q env σ → mPairs es env st = .ok ps s2 →
    (∀ (q2 : Wh) (gs : List (Key × V)), Step q q2 → SR X.K q2 s2 → DsR X.K q2 ps gs → Qf (gs.map fun kv => (kV kv.1, kv.2)) q2.H) → tPairs (trG X Wx es) σ q.H Qf
  | [], q, st, env, ps, s2, Qf, S, E, e, h => by
    cases e
    exact h q [] (.refl S) S .nil
  | (mk, mv) :: es, q, st, env, ps, s2, Qf, S, E, e, h => by
    unfold mPairs at e
    cases e1 : mk env st with
    | exc x s =>
      rw [e1] at e
      cases e
    | bad =>
      rw [e1] at e
      cases e
    | ok x s1 =>
      rw [e1] at e
      refine ⟨q, st, env, rfl, S, E, ?_⟩
      show Fin _ _ _ _ _ _ _ (mk env st)
      rw [e1]
      intro q1 v1 t1 S1 r1
      refine ⟨q1, s1, env, rfl, S1, E.step t1, ?_⟩
      show Fin _ _ _ _ _ _ _ (mv env s1)
      have e' : ((noX (mv env s1)).bind fun y s2 => match keyOf x with
        | some key => (mPairs es env s2).bind fun ps s3 => .ok ((key, y) :: ps) s3
        | none => .bad) = .ok ps s2 := e
      cases e2 : mv env s1 with
      | exc y s =>
        rw [e2] at e'
        cases e'
      | bad =>
        rw [e2] at e'
        cases e'
      | ok y s3 =>
        rw [e2] at e'
        intro q3 v3 t3 S3 r3
        have e3 : (match keyOf x with
          | some key => (mPairs es env s3).bind fun ps s3 => .ok ((key, y) :: ps) s3
          | none => .bad : Res (List (Key × W))) = .ok ps s2 := e'
        cases ek : keyOf x with
        | none =>
          rw [ek] at e3
          cases e3
        | some key =>
          rw [ek] at e3
          dsimp only at e3
          cases e4 : mPairs es env s3 with
          | exc z s =>
            rw [e4] at e3
            cases e3
          | bad =>
            rw [e4] at e3
            cases e3
          | ok ps' s4 =>
            rw [e4] at e3
            have e5 : Res.ok ((key, y) :: ps') s4 = .ok ps s2 := e3
            cases e5
            refine pairs_of es q3 s3 env ps' _ _ S3 (E.step (t1.trans t3)) e4 fun q4 gs t4 S4 d => ?_
            have hk := keyOf_of ek r1
            have z := h q4 ((key, v3) :: gs) ((t1.trans t3).trans t4) S4 (d.cons (RW.step t4 y v3 r3))
            rw [List.map_cons, ← hk] at z
            exact z
theorem disp_of {es : List (Ev W × Ev W)} {H : Hp} {Q : VK} (h : tG X.K X.mg (RW X.K) Wx (mDisp es) σ H Q) : tDisp (trG X Wx es) σ H Q := by
  obtain ⟨p, st, env, hp, S, E, h⟩ := h
  subst hp
  intro D hD
  unfold mDisp at h
  cases e : mPairs es env st with
  | exc x s =>
    rw [e] at h
    exact h.elim
  | bad =>
    rw [e] at h
    exact h.elim
  | ok ps s2 =>
    rw [e] at h
    dsimp only at h
    by_cases c : ps.length ≤ 15
    · rw [if_pos c] at h
      have m0 := mv_hideD S hD (.dK [])
      refine pairs_of es { p with H := upd p.H D (.dK []), x := D :: p.x } st env ps s2 _ (sr_hideD S hD _) (E.move m0) e fun q gs t Sq d => ?_
      have hDq : D ∈ q.x := by
        rw [t.xs]
        exact List.mem_cons_self
      have at0 : q.H D = some (.dK []) := (t.hk D List.mem_cons_self (by show ∀ ps, upd p.H D (.dK []) D ≠ _; rw [upd_same]; exact fun _ z => nomatch z)).trans upd_same
      refine ⟨at0, gs, rfl, by rw [d.length]; exact c, ?_⟩
      have m1 := mv_write Sq hDq (.dK (mergeK [] gs))
      have S1 := sr_write Sq hDq (.dK (mergeK [] gs)) (fun o' e => by
        rw [at0] at e
        cases e
        exact ⟨fun _ z => (nomatch z), noCode_dK⟩)
      have hD1 : D ∈ ({ q with H := upd q.H D (.dK (mergeK [] gs)) } : Wh).x := hDq
      have sub : ∀ a, a ∈ p.x → a ∈ ({ q with H := upd q.H D (.dK (mergeK [] gs)) } : Wh).x := fun a z => by
        show a ∈ q.x
        rw [t.xs]
        exact List.mem_cons_of_mem _ z
      have nx : D ∉ p.x := fun z => (S.hid D z).1 hD
      have ms := mv_grown S1 hD1 sub
      have dm := ((d.merge (acc := []) (bs := []) .nil).move m1)
      refine h (({ q with H := upd q.H D (.dK (mergeK [] gs)) } : Wh).grown D p.x) (.ref D) ⟨((m0.trans t.toMv).trans m1).trans ms, rfl, fun a z n => ?_⟩ (sr_grown S1 hD1 sub nx ⟨_, upd_same, dm.names, dm.vals⟩ (TabI.less (by
        have tt := S1.tab
        have ex : ({ q with H := upd q.H D (.dK (mergeK [] gs)) } : Wh).x = D :: p.x := t.xs
        rw [ex] at tt
        exact tt) (by
        show ∀ ps, upd q.H D (.dK (mergeK [] gs)) D ≠ _
        rw [upd_same]
        exact fun _ z => nomatch z))) ⟨?_, ?_⟩
      · have hne : a ≠ D := fun e => nx (by rw [← e]; exact z)
        show upd q.H D _ a = p.H a
        rw [upd_ne hne]
        refine (t.hk a (List.mem_cons_of_mem _ z) (by show ∀ ps, upd p.H D (.dK []) a ≠ _; rw [upd_ne hne]; exact n)).trans ?_
        show upd p.H D _ a = p.H a
        rw [upd_ne hne]
      · rw [← Sq.len]
        exact Nat.lt_succ_self _
      · show V.ref D = V.ref (if s2.length = q.n then D else q.ρ s2.length)
        rw [if_pos Sq.len.symm]
    · rw [if_neg c] at h
      exact h.elim
abbrev GPP (X : Cx) (Wx : WX) (pos : Pos) (ks : List (Option Expr)) (vs : List Expr) (es : List (Ev W × Ev W)) : Prop := PPs X pos ks vs (trG X Wx es)
theorem gpp_nil : GPP X Wx pos [] [] [] := pps_nil
theorem gpp_cons {k v : Expr} {ks : List (Option Expr)} {vs : List Expr} {mk mv : Ev W} {es : List (Ev W × Ev W)} (hk : GE X Wx k mk) (hv : GE X Wx v mv) (hr : GPP X Wx pos ks vs es) : GPP X Wx pos (some k :: ks) (v :: vs) ((mk, mv) :: es) := pps_cons hk hv hr
theorem ge_disp {ks : List (Option Expr)} {vs : List Expr} {es : List (Ev W × Ev W)} (h : GPP X Wx pos ks vs es) (hall : ks.all (·.isSome) = true := by rfl) (hl : ks.length = vs.length := by rfl) (h0 : ks ≠ [] := by exact fun z => nomatch z) (h15 : ks.length ≤ 15 := by decide) :
    GE X Wx (.Dict ks vs pos) (mDisp es) := PEimp (pe_disp h hall hl h0 h15) fun σ H Q z => disp_of z
end
end Mi

namespace Mi
open PySem PySem.Spec PyProof.Rows L2
variable [ClsMap]
/-! ### dicts in data: how they are shown; a tuple against () -/
def keyD : Key → PyData
  | .inl i => .int i
  | .inr x => .str x
mutual
def W.toE : W → Option PyData
  | .non => some .none
  | .bl b => some (.bool b)
  | .int i => some (.int i)
  | .str s => some (.str s)
  | .tup xs => (toEs xs).map PyData.tuple
  | .lst xs => (toEs xs).map PyData.list
  | .frz _ => none
  | .ref _ => none
  | .dic ks xs => (toEs xs).map fun ds => PyData.dict ((ks.map keyD).zip ds)
def toEs : List W → Option (List PyData)
  | [] => some []
  | x :: xs => match x.toE, toEs xs with
    | some d, some ds => some (d :: ds)
    | _, _ => none
end
theorem toEs_len : ∀ {xs : List W} {ds : List PyData}, toEs xs = some ds → ds.length = xs.length
  | [], ds, h => by
    cases h
    rfl
  | x :: xs, ds, h => by
    unfold toEs at h
    cases e1 : x.toE with
    | none =>
      rw [e1] at h
      cases h
    | some d1 =>
      cases e2 : toEs xs with
      | none =>
        rw [e1, e2] at h
        cases h
      | some ds2 =>
        rw [e1, e2] at h
        cases h
        rw [List.length_cons, List.length_cons, toEs_len e2]
/-- the table of modules is there -/
def SmB (base : Heap) : Prop := ∃ o, base.get? sysModules = some o
/-- not the table of modules -/
def NoSm (b : Addr) : Prop := (b == sysModules) = false
theorem keys_read {P : Program} {w : World} {h : Heap} {es : List DictEntry} {vs : List (Key × Value)} (p : Pairs (mixKind P w) es vs) : ReadsAll h (es.map (·.key)) ((vs.map (·.1)).map keyD) [] ∧ es.map (·.val) = vs.map (·.2) := by
  induction p with
  | nil => exact ⟨.nil, rfl⟩
  | @cons e kv es kvs h1 h2 _ ih =>
    refine ⟨?_, by rw [List.map_cons, List.map_cons, ih.2, h2]⟩
    rw [List.map_cons, List.map_cons, List.map_cons]
    rcases keyIs_shape h1 with ⟨i, t, e1, e2⟩ | ⟨x, t, e1, e2⟩
    · rw [e1, e2]
      exact ReadsAll.cons (as := []) (Reads.int i t) ih.1
    · rw [e1, e2]
      exact ReadsAll.cons (as := []) (Reads.str x t) ih.1
theorem kv_vals {gs : List (Key × V)} {vs : List (Key × Value)} (r : KV gs vs) : Vals (gs.map (·.2)) (vs.map (·.2)) := by
  unfold KV at r
  induction r with
  | nil => exact .nil
  | cons h t ih => exact .cons h.2 ih
section
variable {X : Cx} {pins : List (Addr × Obj)} {σ : L2.St} {s : Shared} {p : Wh}
theorem sm_none {H : Hp} (sm : SmB X.base) (I : Inv X pins σ H s) : H sysModules = none := by
  obtain ⟨o, ho⟩ := sm
  exact (I.bs sysModules o ho).2
mutual
theorem reads_of (sm : SmB X.base) (I : Inv X pins σ p.H s) : ∀ (w : W) (v : V) (d : PyData) (u : Value), w.toE = some d → RW X.K p w v → RelV v u → ∃ as, Reads s.heap u d as ∧ ∀ b ∈ as, NoSm b
  | .non, v, d, u, h, r, rv => by
    cases h
    have r' : v = .non := r
    subst r'
    cases rv
    exact ⟨_, .none, fun _ z => nomatch z⟩
  | .bl b, v, d, u, h, r, rv => by
    cases h
    have r' : v = .bl b := r
    subst r'
    cases rv
    exact ⟨_, .bool b, fun _ z => nomatch z⟩
  | .int i, v, d, u, h, r, rv => by
    cases h
    have r' : v = .int i := r
    subst r'
    obtain ⟨t, rfl⟩ := rv
    exact ⟨_, .int i t, fun _ z => nomatch z⟩
  | .str x, v, d, u, h, r, rv => by
    cases h
    have r' : v = .str x := r
    subst r'
    obtain ⟨t, rfl⟩ := rv
    exact ⟨_, .str x t, fun _ z => nomatch z⟩
  | .tup xs, v, d, u, h, r, rv => by
    obtain ⟨a, vs, e, ta, rs⟩ := r
    subst e
    cases rv
    unfold W.toE at h
    cases e2 : toEs xs with
    | none =>
      rw [e2] at h
      cases h
    | some ds =>
      rw [e2] at h
      cases h
      obtain ⟨its, rv, ⟨o, ho, hc, n, hd⟩, _⟩ := I.tuple ta.seq
      obtain ⟨as, hr, ha⟩ := readsAll_of sm I xs vs ds its e2 rs rv
      exact ⟨_, .tuple ho hc hd hr, ha⟩
  | .lst xs, v, d, u, h, r, rv => by
    obtain ⟨a, vs, e, ta, rs⟩ := r
    subst e
    cases rv
    unfold W.toE at h
    cases e2 : toEs xs with
    | none =>
      rw [e2] at h
      cases h
    | some ds =>
      rw [e2] at h
      cases h
      obtain ⟨its, rv, ⟨o, n, ho, hc, _, hd⟩, _⟩ := I.list (.inl (.inl ta.1))
      obtain ⟨as, hr, ha⟩ := readsAll_of sm I xs vs ds its e2 rs rv
      refine ⟨_, .list ho hc hd hr, fun b hb => ?_⟩
      rcases List.mem_cons.mp hb with e | hb
      · rw [e]
        exact beq_false_of_ne fun z => by
          have q := ta.1
          rw [z, sm_none sm I] at q
          cases q
      · exact ha b hb
  | .frz xs, v, d, u, h, r, rv => by cases h
  | .ref n, v, d, u, h, r, rv => by cases h
  | .dic ks xs, v, d, u, h, r, rv => by
    obtain ⟨a, gs, e, hH, _, hm, rs⟩ := r
    subst e
    cases rv
    unfold W.toE at h
    cases e2 : toEs xs with
    | none =>
      rw [e2] at h
      cases h
    | some ds =>
      rw [e2] at h
      cases h
      obtain ⟨_, hs, vs, kv, o, es, ep, ho, ex, hd, _, prs, _⟩ := dk_of I.hok hH
      obtain ⟨kr, ev⟩ := keys_read (h := s.heap) prs
      obtain ⟨as, hr, ha⟩ := readsAll_of sm I xs _ ds (vs.map (·.2)) e2 rs (kv_vals kv)
      have l : (ks.map keyD).length = ds.length := by
        rw [toEs_len e2, rs.length, List.length_map, List.length_map, ← hm, List.length_map]
      refine ⟨_, .dict (as := []) (bs := as) ho ex.1 hd ?_ ?_, fun b hb => ?_⟩
      · rw [List.map_fst_zip (Nat.le_of_eq l), ← hm, kv.keys]
        exact kr
      · rw [List.map_snd_zip (Nat.le_of_eq l.symm), ev]
        exact hr
      · rcases List.mem_cons.mp hb with e | hb
        · rw [e]
          exact hs
        · exact ha b hb
theorem readsAll_of (sm : SmB X.base) (I : Inv X pins σ p.H s) : ∀ (ws : List W) (vs : List V) (ds : List PyData) (us : List Value), toEs ws = some ds → RWs X.K p ws vs → Vals vs us → ∃ as, ReadsAll s.heap us ds as ∧ ∀ b ∈ as, NoSm b
  | [], vs, ds, us, h, r, rv => by
    cases h
    have r' : vs = [] := r
    subst r'
    cases rv
    exact ⟨_, .nil, fun _ z => nomatch z⟩
  | x :: xs, vs, ds, us, h, r, rv => by
    obtain ⟨v, vr, e, r1, rs⟩ := r
    subst e
    unfold toEs at h
    cases e1 : x.toE with
    | none =>
      rw [e1] at h
      cases h
    | some d1 =>
      cases e2 : toEs xs with
      | none =>
        rw [e1, e2] at h
        cases h
      | some ds2 =>
        rw [e1, e2] at h
        cases h
        cases rv with
        | cons r2 rr =>
          obtain ⟨as, q1, a1⟩ := reads_of sm I x v d1 _ e1 r1 r2
          obtain ⟨bs, q2, a2⟩ := readsAll_of sm I xs vr ds2 _ e2 rs rr
          refine ⟨_, .cons q1 q2, fun b hb => ?_⟩
          rcases List.mem_append.mp hb with z | z
          · exact a1 b z
          · exact a2 b z
end
end
def cReprE (d : PyData) : Bool := d.showable && decide (d.depth ≤ 60) && decide (d.shown.length ≤ sizeLine)
def fReprE : List W → Store → Res W
  | [w], st => match w.toE with
    | some d => if cReprE d = true then .ok (.str d.shown) st else .bad
    | none => .bad
  | _, _ => .bad
def rReprE (K : PySem.W.Frag) : List V → Hp → VK → Prop := fun xs H Q => ∃ (v : V) (p : Wh) (w : W) (d : PyData), xs = [v] ∧ p.H = H ∧ RW K p w v ∧ w.toE = some d ∧ cReprE d = true ∧ Q (.str d.shown) H
section
variable {X : Cx} {Wx : WX}
theorem call_reprE (sm : SmB X.base) (hg : X.A.guards = some []) (hu : X.A.units + 64 < cLine) : CallR X (.builtin "repr") (rReprE X.K) := by
  intro pins s σ H xs us Q I r h
  obtain ⟨v, p, w, d, rfl, hp, rw', hd, hc, q⟩ := h
  subst hp
  obtain ⟨u, rfl, rv⟩ := vals1 r
  obtain ⟨as, rd, ns⟩ := reads_of sm I w v d u hd rw' rv
  unfold cReprE at hc
  rw [Bool.and_eq_true, Bool.and_eq_true, decide_eq_true_eq, decide_eq_true_eq] at hc
  obtain ⟨⟨h1, h3⟩, h4⟩ := hc
  have hsm : sysModules ∉ as := fun z => absurd (ns _ z) (by unfold NoSm; decide)
  cases rd with
  | none => exact PySem.P.repr_of_none ⟨.str _, _, I.tok _, ⟨_, rfl⟩, q⟩
  | bool b => exact PySem.P.repr_of_bool ⟨.str _, _, I.tok _, ⟨_, rfl⟩, q⟩
  | int i t => exact PySem.P.repr_of_int (by simpa [PyData.showable] using h1) ⟨.str _, _, I.tok _, ⟨_, rfl⟩, q⟩
  | str x t => exact PySem.P.repr_of_str ⟨.str _, _, I.tok _, ⟨_, rfl⟩, q⟩ h4
  | list k1 k2 k3 k4 => exact repr_of_reads' (.list k1 k2 k3 k4) h1 (fun _ => hsm) hg (by omega) (fun _ _ z => z) (fun h' u tk hk => ⟨.str _, _, I.kept hk, ⟨_, rfl⟩, q⟩) h4
  | tuple k1 k2 k3 k4 => exact repr_of_reads' (.tuple k1 k2 k3 k4) h1 (fun _ => hsm) hg (by omega) (fun _ _ z => z) (fun h' u tk hk => ⟨.str _, _, I.kept hk, ⟨_, rfl⟩, q⟩) h4
  | dict k1 k2 k3 k4 k5 => exact repr_of_reads' (.dict k1 k2 k3 k4 k5) h1 (fun _ => hsm) hg (by omega) (fun _ _ z => z) (fun h' u tk hk => ⟨.str _, _, I.kept hk, ⟨_, rfl⟩, q⟩) h4
theorem rc_reprE : RCok X Wx (rReprE X.K) fReprE := by
  intro p st xs vs σ Q S rs h
  unfold fReprE at h
  split at h
  · obtain ⟨v, rfl, r⟩ := one_of rs
    rename_i w
    cases e : w.toE with
    | none =>
      rw [e] at h
      exact h.elim
    | some d =>
      rw [e] at h
      dsimp only at h
      by_cases c : cReprE d = true
      · rw [if_pos c] at h
        exact ⟨v, p, w, d, rfl, rfl, r, e, c, fin_ok S h rfl⟩
      · rw [if_neg c] at h
        exact h.elim
  · exact h.elim
/-! ### {} as data -/
theorem ge_dic0 {pos : Pos} : GE X Wx (.Dict [] [] pos) (mC (.dic [] [])) :=
  PEimp pe_dnewK fun σ H Q ⟨p, st, env, hp, S, E, h⟩ a ha => by
    subst hp
    exact h { p with H := upd p.H a (.dK []) } (.ref a) (step_new S ha) (sr_new S ha) ⟨a, [], rfl, upd_same, fresh_out S ha, rfl, rfl⟩
/-! ### t == () -/
def fEq0 : W → W → Store → Res W
  | .tup xs, .tup [], st => .ok (.bl xs.isEmpty) st
  | _, _, _ => .bad
def rEq0 (K : PySem.W.Frag) : R2 := fun x y H Q => ∃ a b xs, x = .ref a ∧ y = .ref b ∧ SqT K H a xs ∧ SqT K H b [] ∧ Q (.bl xs.isEmpty) H
theorem op_eq0 (hu : X.A.units + 64 < cLine) : OpR X (compareOp .Eq) (rEq0 X.K) := by
  intro pins s σ H x y v u Q I rx ry h
  obtain ⟨a, b, xs, rfl, rfl, ha, hb, q⟩ := h
  cases rx
  cases ry
  obtain ⟨its, r1, p1, _⟩ := I.tuple ha
  obtain ⟨its2, r2, p2, _⟩ := I.tuple hb
  cases r2
  refine SeqAt.RcAt.tuples (e := fun _ => true) p1 p2 (by omega) (fun j h1 h2 => absurd h2 (Nat.not_lt_zero _)) X.prog X.w _ _ ?_
  have e : (((List.range (min its.toArray.size ([] : List Value).toArray.size)).all fun _ => true) && its.toArray.size == ([] : List Value).toArray.size) = xs.isEmpty := by
    cases r1 with
    | nil => rfl
    | cons z zs => simp
  rw [e]
  exact ⟨.bl _, H, I, rfl, q⟩
theorem r2_eq0 : R2ok X Wx (rEq0 X.K) fEq0 := by
  intro p st x y v u σ Q S rx ry h
  cases x with
  | tup xs =>
    cases y with
    | tup ys =>
      cases ys with
      | nil =>
        obtain ⟨a, vs, rfl, ta, rs⟩ := rx
        obtain ⟨b, us, rfl, tb, rs2⟩ := ry
        have e2 : us = [] := rs2
        subst e2
        have e : vs.isEmpty = xs.isEmpty := (empty_of rs).symm
        refine ⟨a, b, vs, rfl, rfl, ta.seq, tb.seq, ?_⟩
        rw [e]
        exact fin_ok S h rfl
      | cons _ _ => exact h.elim
    | _ => exact h.elim
  | _ => exact h.elim
end
end Mi

namespace Mi
open PySem PySem.Spec PyProof.Rows L2 HT
/-! ### t[::-1] -/
section
variable {prog : Program} {w : World} {A : Around} {E : Value → Shared → Prop} {s : Shared}
theorem places_rev (n : Nat) : Builtin.Slice.slicePlaces ((n : Int) - 1) (-1) (-1) = n := by
  unfold Builtin.Slice.slicePlaces
  rw [if_neg (by decide)]
  by_cases h : (n : Int) - 1 > -1
  · rw [if_pos h]
    have e : ((n : Int) - 1 - -1 - 1) / (- -1) + 1 = n := by
      rw [show (- -1 : Int) = 1 by decide, Int.ediv_one]
      omega
    rw [e, Int.toNat_natCast]
  · rw [if_neg h]
    have : n = 0 := by omega
    rw [this]
    rfl
theorem sliceApplied_rev {sl : Addr} {n : Nat} {t : Tok} {Q : Int × Int × Nat → Shared → Prop} (hs : s.heap.IsSliceOf sl .none .none (.int (-1) t))
    (h : Q ((n : Int) - 1, -1, n) s) : wpAny (model prog w) A (Builtin.Slice.sliceApplied (.ref sl) (pure (n : Int))) Q E s := by
  obtain ⟨os, hos, hcs, hds⟩ := id hs
  unfold Builtin.Slice.sliceApplied Builtin.Slice.sliceFields
  refine wpAny_bind (wpAny_bind (wpAny_field hos hds (x := .none) rfl (wpAny_bind (wpAny_field hos hds (x := .none) rfl (wpAny_bind (wpAny_field hos hds (x := .int (-1) t) rfl (wpAny_pure ?_)))))))
  refine wpAny_bind (slicePart_int ?_)
  show wpAny _ _ (if ((-1 : Int) == 0) = true then _ else _) _ _ s
  rw [if_neg (by decide)]
  refine wpAny_bind (slicePart_none (wpAny_bind (slicePart_none (wpAny_bind (wpAny_pure ?_)))))
  show wpAny _ _ (pure ((n : Int) - 1, (-1 : Int), Builtin.Slice.slicePlaces ((n : Int) - 1) (-1) (-1))) _ _ s
  rw [places_rev]
  exact wpAny_pure h
theorem pick_rev (xs : List Value) : ((List.range xs.length).filterMap fun (m : Nat) => xs.toArray[((xs.length : Int) - 1 + (m : Int) * -1).toNat]?) = xs.reverse := by
  have e : ∀ k, k ≤ xs.length → ((List.range k).filterMap fun (m : Nat) => xs.toArray[((xs.length : Int) - 1 + (m : Int) * -1).toNat]?) = xs.reverse.take k := by
    intro k
    induction k with
    | zero => intro _; rfl
    | succ k ih =>
      intro hk
      rw [List.range_succ, List.filterMap_append, ih (by omega), List.take_add_one]
      congr 1
      have e1 : ((xs.length : Int) - 1 + (k : Int) * -1).toNat = xs.length - 1 - k := by omega
      have e2 : xs.reverse[k]? = xs[xs.length - 1 - k]? := List.getElem?_reverse (by omega)
      rw [e2]
      simp only [List.filterMap_cons, List.filterMap_nil, List.getElem?_toArray, e1]
      cases xs[xs.length - 1 - k]? <;> rfl
  rw [e _ (Nat.le_refl _), List.take_of_length_le (by rw [List.length_reverse]; exact Nat.le_refl _)]
theorem getItem_tuple_rev {t sl : Addr} {its : List Value} {tk : Tok} {Q : Value → Shared → Prop} (ht : IsTup s.heap t its.toArray) (hs : s.heap.IsSliceOf sl .none .none (.int (-1) tk))
    (h : Q (.ref s.heap.objs.size) { s with heap := s.heap.push { cls := .type "tuple", data := .seq its.reverse.toArray } })
    (hsz : its.length ≤ sizeLine) : wpAny (model prog w) A (getItem (.ref t) (.ref sl)) Q E s := by
  have htake : sizeOk (.seq its.reverse.toArray) := by
    show its.reverse.toArray.size ≤ sizeLine
    rw [List.size_toArray, List.length_reverse]
    exact hsz
  obtain ⟨os, hos, hcs, hds⟩ := id hs
  have hTs : s.TypeIs (.ref sl) "slice" := ⟨os, hos, hcs⟩
  unfold getItem
  try with_reducible refine wpAny_holding ?_
  first | refine wpAny_bind (wpAny_pure ?_) | skip
  refine wpAny_bind (wpAny_sequenceKey ht.typeIs (by decide) ?_)
  refine wpAny_bind (wpAny_callSpecial?_slot (name := Str.ofString "__getitem__") ht.typeIs PyProof.Rows.slot_tuple_getitem
    (wpAny_call_entry PyProof.Rows.slot_tuple_getitem ht.typeIs entry_tuple_getitem ?_ (args_tuple_getitem _ _)))
  show wpAny _ _ (Builtin.Tuple.tupleItemsOf (.ref t) >>= _) _ _ s
  refine wpAny_bind (tupleItemsOf_ ht ?_)
  refine wpAny_bind (wpAny_typeOf hTs ?_)
  rw [if_pos (by decide)]
  refine wpAny_bind (sliceApplied_rev (n := its.toArray.size) hs ?_)
  show wpAny _ _ (if ((((its.toArray.size : Nat) : Int) - 1 == 0 && (-1 : Int) == 1 && its.toArray.size == its.toArray.size)) = true then _ else _) _ _ s
  rw [if_neg (by simp)]
  have ep := pick_rev its
  rw [← List.size_toArray] at ep
  first
    | rw [ep]
    | skip
  first
    | exact wpAny_bind (m := Builtin.Tuple.tupleExact _) (wpAny_newObj_type (wpAny_pure ⟨_, rfl, wpAny_pure h⟩) htake)
    | exact wpAny_bind (m := Builtin.Tuple.tupleExact _) (wpAny_newObj_type (wpAny_bind (wpAny_pure (wpAny_pure ⟨_, rfl, wpAny_pure h⟩))) htake)
    | exact wpAny_bind (wpAny_bind (m := Builtin.Tuple.tupleExact _) (wpAny_newObj_type (wpAny_pure (wpAny_pure ⟨_, rfl, wpAny_pure h⟩)) htake))
    | exact wpAny_bind (wpAny_bind (m := Builtin.Tuple.tupleExact _) (wpAny_newObj_type (wpAny_pure ⟨_, rfl, wpAny_pure h⟩) htake))
end
def rRev (K : PySem.W.Frag) : V → Hp → VK → Prop := fun x H Q => ∃ a xs, x = .ref a ∧ SqT K H a xs ∧ ∀ p, H p = none → Q (.ref p) (upd H p (.tup xs.reverse))
theorem Vals.rev : ∀ {vs : List V} {us : List Value}, Vals vs us → Vals vs.reverse us.reverse
  | _, _, .nil => .nil
  | _, _, .cons r rs => by
    rw [List.reverse_cons, List.reverse_cons]
    exact (Vals.rev rs).append (.cons r .nil)
section
variable {X : Cx} {e : Expr} {te : TE} {p2 p3 p4 pos : Pos} {j : Nat}
theorem pe_rev (he : PE X e te) : PE X (.Subscript e (.Slice none none (some (.UnaryOp .USub (.Constant (.int 1) j p3) p4)) p2) pos) (fun σ H Q => te σ H fun x H1 => rRev X.K x H1 Q) := by
  refine ⟨fun pins s σ H Q I h => ?_⟩
  refine Subscript_ (thn (he.run pins s σ H _ I h) fun v s1 ⟨x, H1, I1, r1, q1⟩ => ?_)
  refine wpAny_Slice ?_
  rw [evalPart_none]
  refine wpAny_pure (wpAny_pure ?_)
  rw [evalPart_some]
  have st := (pe_un (X := X) (pos := p4) un_neg (pe_int (i := 1) (pos := p3) (j := j))).run pins s1 σ H1 (fun y H2 => y = .int (-1) ∧ H2 = H1) I1 ⟨1, rfl, rfl, rfl⟩
  refine thn st fun vs s3 ⟨y, H2, I3, r3, ey, eH⟩ => ?_
  subst ey eH
  obtain ⟨tk, rfl⟩ := r3
  obtain ⟨a, xs, rfl, hx, q⟩ := q1
  cases r1
  have I4 : Inv X pins σ H2 { s3 with heap := s3.heap.push { cls := .type "slice", data := .fields #[.none, .none, .int (-1) tk] } } := I3.kept (t' := s3.toks) fun b ob q => Heap.get?_push_of_some _ q
  obtain ⟨its, r, ht, hz⟩ := I4.tuple hx
  show wpAny (model X.prog X.w) X.A (subscriptTail e (.Slice none none (some (.UnaryOp .USub (.Constant (.int 1) j p3) p4)) p2) (.ref a) (.ref s3.heap.objs.size)) (EP X pins σ Q) X.xe { s3 with heap := s3.heap.push { cls := .type "slice", data := .fields #[.none, .none, .int (-1) tk] } }
  refine tail_any (T := "tuple") (ops := [.ref a, .ref s3.heap.objs.size]) ht.typeIs PyProof.Rows.slot_tuple_getitem.lookup ?_ (by with_unfolding_all rfl)
  refine getItem_tuple_rev ht (Heap.IsSliceOf.new ..) ?_ (by rw [← r.length]; exact hz)
  refine ⟨.ref _, _, I4.laid (t' := s3.toks) (o := .tup xs.reverse) (fun b ob q => Heap.get?_push_of_some _ q) (Nat.le_refl _) ?_, rfl, q _ (I4.hok.fresh (Nat.le_refl _))⟩
  exact ⟨by rw [List.length_reverse]; exact hz, its.reverse, Vals.rev r, IsTup.new _ _⟩
end
variable [ClsMap]
theorem RWs.reverse {K : PySem.W.Frag} {p : Wh} : ∀ {ws : List W} {vs : List V}, RWs K p ws vs → RWs K p ws.reverse vs.reverse
  | [], vs, h => by
    have h' : vs = [] := h
    subst h'
    exact (rfl : ([] : List V) = [])
  | x :: xs, vs, ⟨v, r, e, h, k⟩ => by
    subst e
    rw [List.reverse_cons, List.reverse_cons]
    exact RWs.append (RWs.reverse k) ⟨v, [], rfl, h, rfl⟩
def fRev : W → Store → Res W
  | .tup xs, st => .ok (.tup xs.reverse) st
  | _, _ => .bad
/-! ### t[lo:hi], the whole of it, too -/
def fSlA (lo hi : Option Int) : W → Store → Res W
  | .tup xs, st => .ok (.tup (cutW xs lo hi)) st
  | .str z, st => if z.length ≤ sizeLine then .ok (.str (cutS z lo hi)) st else .bad
  | _, _ => .bad
def mSlA (a : Ev W) (l h : Ev (Option Int)) : Ev W := fun env st => (a env st).bind fun w s1 => (l env s1).bind fun lo s2 => (h env s2).bind fun hi s3 => fSlA lo hi w s3
theorem sl_bothA {X : Cx} : SlR X (fun x lo hi H Q => rSlA X.K x lo hi H Q ∨ rSlS x lo hi H Q) := sl_tupA.or sl_str
section
variable {X : Cx} {Wx : WX} {a e : Expr} {ma me : Ev W} {pos p2 p3 p4 : Pos} {j : Nat}
theorem ge_rev (he : GE X Wx e me) : GE X Wx (.Subscript e (.Slice none none (some (.UnaryOp .USub (.Constant (.int 1) j p3) p4)) p2) pos) (mUn fRev me) :=
  PEimp (pe_rev he) fun σ H Q ⟨p, st, env, hp, S, E, h⟩ => tG_bind hp S E h fun q s1 w v t S1 E1 r h1 => by
    unfold fRev at h1
    split at h1
    · rename_i xs
      obtain ⟨d, vs, rfl, ta, rs⟩ := r
      exact ⟨d, vs, rfl, ta.seq, fun n hn => h1 { q with H := upd q.H n (.tup vs.reverse) } (.ref n) (step_new S1 hn) (sr_new S1 hn) (new_tup S1 hn rs.reverse)⟩
    · exact h1.elim
theorem ge_sliceA {lo hi : Option Expr} {l h : Ev (Option Int)} (ha : GE X Wx a ma) (hl : GO X Wx lo l) (hh : GO X Wx hi h) : GE X Wx (.Subscript a (.Slice lo hi none p2) pos) (mSlA ma l h) :=
  PEimp (pe_slice sl_bothA ha hl hh) fun σ H Q ⟨p, st, env, hp, S, E, h⟩ => tG_bind hp S E h fun q s1 w v t S1 E1 r h1 => tG_bind rfl S1 E1 h1 fun q2 s2 lo' lo t2 S2 E2 r2 h2 => tG_bind rfl S2 E2 h2 fun q3 s3 hi' hi t3 S3 E3 r3 h3 => by
    have e2 : lo' = lo := r2
    have e3 : hi' = hi := r3
    subst e2 e3
    have r := RW.step (t2.trans t3) w v r
    cases w with
    | tup xs =>
      obtain ⟨d, vs, rfl, ta, rs⟩ := r
      dsimp only [fSlA] at h3
      refine .inl ⟨d, vs, rfl, ta.seq, fun z => ?_, fun _ n hn => ?_⟩
      · have e : cutW xs lo' hi' = xs := by
          unfold cutW
          rw [rs.length, z.1, z.2, List.drop_zero, Nat.sub_zero, ← rs.length, List.take_length]
        rw [e] at h3
        exact fin_ok S3 h3 ⟨d, vs, rfl, ta, rs⟩
      · exact h3 { q3 with H := upd q3.H n (.tup (cutV vs lo' hi')) } (.ref n) (step_new S3 hn) (sr_new S3 hn) (new_tup S3 hn (cut_rel lo' hi' rs))
    | str z =>
      have ev : v = .str z := r
      subst ev
      dsimp only [fSlA] at h3
      by_cases c : z.length ≤ sizeLine
      · rw [if_pos c] at h3
        exact .inr ⟨z, rfl, c, fin_ok S3 h3 rfl⟩
      · rw [if_neg c] at h3
        exact h3.elim
    | _ => exact h3.elim
end
end Mi

namespace Mi
open PySem PySem.Spec PyProof.Rows L2
variable [ClsMap]
/-! ### f'..{x}..' -/
def fFmt : W → Store → Res W
  | .str y, st => if y.length ≤ sizeLine then .ok (.str y) st else .bad
  | .int i, st => if i.natAbs.log2 < 1920 then .ok (.str (toString i)) st else .bad
  | _, _ => .bad
def mJs : List (Ev W) → Str → Ev W
  | [], acc => fun _ st => .ok (.str acc) st
  | m :: ms, acc => fun env st => (m env st).bind fun w s1 => match w with
    | .str y => if (acc ++ y).length ≤ sizeLine then mJs ms (acc ++ y) env s1 else .bad
    | _ => .bad
section
variable {X : Cx} {Wx : WX} {e v1 v2 a o : Expr} {es : List Expr} {me m mo : Ev W} {ms : List (Ev W)} {pos apos : Pos}
theorem ge_fmt (h : GE X Wx e me) : GE X Wx (.FormattedValue e (-1) none pos) (mUn fFmt me) :=
  PEimp (pe_fmt h) fun σ H Q ⟨p, st, env, hp, S, E, h⟩ => tG_bind hp S E h fun q s1 w v t S1 E1 r h1 => by
    cases w with
    | str y =>
      have ev : v = .str y := r
      subst ev
      dsimp only [fFmt] at h1
      by_cases c : y.length ≤ sizeLine
      · rw [if_pos c] at h1
        exact .inl ⟨y, rfl, c, fin_ok S1 h1 rfl⟩
      · rw [if_neg c] at h1
        exact h1.elim
    | int i =>
      have ev : v = .int i := r
      subst ev
      dsimp only [fFmt] at h1
      by_cases c : i.natAbs.log2 < 1920
      · rw [if_pos c] at h1
        exact .inr ⟨i, rfl, c, fin_ok S1 h1 rfl⟩
      · rw [if_neg c] at h1
        exact h1.elim
    | _ => exact h1.elim
abbrev GJ (X : Cx) (Wx : WX) (es : List Expr) (ms : List (Ev W)) : Prop := PJ X es (ms.map fun m => tG X.K X.mg (RW X.K) Wx m)
theorem gj_nil : GJ X Wx [] [] := .nil
theorem gj_cons (h : GE X Wx e m) (r : GJ X Wx es ms) : GJ X Wx (e :: es) (m :: ms) := .cons h r
theorem js_of : ∀ (ms : List (Ev W)) (acc : Str) (σ : L2.St) (H : Hp) (Q : VK), tG X.K X.mg (RW X.K) Wx (mJs ms acc) σ H Q → tJs (ms.map fun m => tG X.K X.mg (RW X.K) Wx m) acc σ H fun out H1 => Q (.str out) H1
  | [], acc, σ, H, Q, ⟨p, st, env, hp, S, E, h⟩ => by
    subst hp
    exact fin_ok S h rfl
  | m :: ms, acc, σ, H, Q, ⟨p, st, env, hp, S, E, h⟩ => by
    refine tG_bind hp S E h fun q s1 w v t S1 E1 r h1 => ?_
    cases w with
    | str y =>
      have ev : v = .str y := r
      subst ev
      dsimp only at h1
      by_cases c : (acc ++ y).length ≤ sizeLine
      · rw [if_pos c] at h1
        exact ⟨y, rfl, c, js_of ms (acc ++ y) σ q.H Q ⟨q, s1, env, rfl, S1, E1, h1⟩⟩
      · rw [if_neg c] at h1
        exact h1.elim
    | _ => exact h1.elim
theorem ge_joined {m2 : Ev W} (h : GJ X Wx (v1 :: v2 :: es) (m :: m2 :: ms)) : GE X Wx (.JoinedStr (v1 :: v2 :: es) pos) (mJs (m :: m2 :: ms) Str.empty) :=
  PEimp (pe_joined h) fun σ H Q h => js_of _ _ σ H Q h
/-! ### str(x), s.strip(signs), sep.join(texts) -/
def fStr : List W → Store → Res W
  | [.int i], st => if i.natAbs.log2 < 1920 then .ok (.str (toString i)) st else .bad
  | [.bl b], st => .ok (.str (if b then "True" else "False")) st
  | _, _ => .bad
theorem call_strB : CallR X (.type "str") (fun xs H Q => (∃ i, xs = [.int i] ∧ i.natAbs.log2 < 1920 ∧ Q (.str (toString i)) H) ∨ ∃ b, xs = [.bl b] ∧ Q (.str (if b then "True" else "False")) H) := by
  intro pins s σ H xs us Q I r h
  rcases h with h | ⟨b, rfl, q⟩
  · exact call_str_int pins s σ H xs us Q I r h
  · obtain ⟨u, rfl, rv⟩ := vals1 r
    cases rv
    exact PySem.P.str_of_bool ⟨.str _, H, I.tok _, ⟨_, rfl⟩, q⟩
theorem rc_str : RCok X Wx (fun xs H Q => (∃ i, xs = [.int i] ∧ i.natAbs.log2 < 1920 ∧ Q (.str (toString i)) H) ∨ ∃ b, xs = [.bl b] ∧ Q (.str (if b then "True" else "False")) H) fStr := by
  intro p st xs vs σ Q S rs h
  unfold fStr at h
  split at h
  · rename_i i
    obtain ⟨v, rfl, r⟩ := one_of rs
    have ev : v = .int i := r
    subst ev
    by_cases c : i.natAbs.log2 < 1920
    · rw [if_pos c] at h
      exact .inl ⟨i, rfl, c, fin_ok S h rfl⟩
    · rw [if_neg c] at h
      exact h.elim
  · rename_i b
    obtain ⟨v, rfl, r⟩ := one_of rs
    have ev : v = .bl b := r
    subst ev
    exact .inr ⟨b, rfl, fin_ok S h rfl⟩
  · exact h.elim
/-- s.name(e) of a text s -/
def mM1 (f : Str → W → Store → Res W) (o e : Ev W) : Ev W := fun env st => (o env st).bind fun x s1 => match x with
  | .str a => (e env s1).bind fun y s2 => f a y s2
  | _ => .bad
theorem m1_of {r : V → List V → Hp → VK → Prop} {f : Str → W → Store → Res W} (hr : ∀ (p : Wh) (st : Store) (a : Str) (y : W) (u : V) (σ : L2.St) (Q : VK), SR X.K p st → RW X.K p y u → Fin X.K X.mg (RW X.K) Wx p σ Q (f a y st) → r (.str a) [u] p.H Q)
    (σ : L2.St) (H : Hp) (Q : VK) (h : tG X.K X.mg (RW X.K) Wx (mM1 f mo me) σ H Q) : tM1 r (tG X.K X.mg (RW X.K) Wx mo) (tG X.K X.mg (RW X.K) Wx me) σ H Q := by
  obtain ⟨p, st, env, hp, S, E, h⟩ := h
  refine tG_bind hp S E h fun q s1 w v t S1 E1 r1 h1 => ?_
  cases w with
  | str a =>
    have ev : v = .str a := r1
    subst ev
    exact ⟨⟨a, rfl⟩, tG_bind rfl S1 E1 h1 fun q2 s2 w2 v2 t2 S2 E2 r2 h2 => hr q2 s2 a w2 v2 σ Q S2 r2 h2⟩
  | _ => exact h1.elim
def fStrip : Str → W → Store → Res W
  | a, .str b, st => if a.length ≤ sizeLine then .ok (.str (Txt.stripChars a b)) st else .bad
  | _, _, _ => .bad
theorem ge_strip (ho : GE X Wx o mo) (he : GE X Wx e me) (hs : starEach [e] X.env = [(false, eval e X.env)] := by rfl) (hbase : attributeBase o "strip" X.env (eval o X.env) = eval o X.env := by rfl) (hline : (apos.endLine == pos.line) = true := by rfl) :
    GE X Wx (.Call (.Attribute o "strip" apos) [e] [] pos) (mM1 fStrip mo me) :=
  PEimp (pe_m1 PySem.F.slot_str_strip PySem.F.type_str_strip mt_stripChars ho he hs hbase hline) fun σ H Q h => m1_of (fun p st a y u σ Q S ry h => by
    cases y with
    | str b =>
      have ev : u = .str b := ry
      subst ev
      dsimp only [fStrip] at h
      by_cases c : a.length ≤ sizeLine
      · rw [if_pos c] at h
        exact ⟨a, b, rfl, rfl, c, fin_ok S h rfl⟩
      · rw [if_neg c] at h
        exact h.elim
    | _ => exact h.elim) σ H Q h
def fJoin : Str → W → Store → Res W := fun a y st => match seqIn st y with
  | some xs => match allTxt xs with
    | some ks => if (ks.map (·.length)).sum + ks.length * a.length ≤ 16777216 then .ok (.str (Txt.join a ks)) st else .bad
    | none => .bad
  | none => .bad
theorem ge_join (ho : GE X Wx o mo) (he : GE X Wx e me) (hs : starEach [e] X.env = [(false, eval e X.env)] := by rfl) (hbase : attributeBase o "join" X.env (eval o X.env) = eval o X.env := by rfl) (hline : (apos.endLine == pos.line) = true := by rfl) :
    GE X Wx (.Call (.Attribute o "join" apos) [e] [] pos) (mM1 fJoin mo me) :=
  PEimp (pe_join ho he hs hbase hline) fun σ H Q h => m1_of (fun p st a y u σ Q S ry h => by
    unfold fJoin at h
    cases e1 : seqIn st y with
    | none =>
      rw [e1] at h
      exact h.elim
    | some xs =>
      rw [e1] at h
      dsimp only at h
      cases e2 : allTxt xs with
      | none =>
        rw [e2] at h
        exact h.elim
      | some ks =>
        rw [e2] at h
        dsimp only at h
        by_cases c : (ks.map (·.length)).sum + ks.length * a.length ≤ 16777216
        · rw [if_pos c] at h
          obtain ⟨d, vs, rfl, ta, rs⟩ := seqIn_of S e1 ry
          have ev := allTxt_of e2 rs
          subst ev
          exact ⟨a, d, ks, rfl, rfl, ta, c, fin_ok S h rfl⟩
        · rw [if_neg c] at h
          exact h.elim) σ H Q h
/-! ### [..] * k, a truth among ints -/
def fMulL : W → W → Store → Res W := fun x y st => match trkIn st x, y with
  | some xs, .int k => if -(2 ^ 63) ≤ k ∧ k < 2 ^ 63 ∧ xs.length * k.toNat ≤ sizeLine then .ok (.lst (List.replicate k.toNat xs).flatten) st else .bad
  | _, _ => .bad
theorem r2_mulL : R2ok X Wx rRep fMulL := by
  intro p st x y v u σ Q S rx ry h
  unfold fMulL at h
  split at h
  · rename_i xs k e1
    have eu : u = .int k := ry
    subst eu
    by_cases c : -(2 ^ 63) ≤ k ∧ k < 2 ^ 63 ∧ xs.length * k.toNat ≤ sizeLine
    · rw [if_pos c] at h
      obtain ⟨d, vs, rfl, hd, rs⟩ := trkIn_of S e1 rx
      refine ⟨d, k, vs, rfl, rfl, hd, c.1, c.2.1, by rw [← rs.length]; exact c.2.2, fun q hq => ?_⟩
      exact h { p with H := upd p.H q (.lst (List.replicate k.toNat vs).flatten) } (.ref q) (step_new S hq) (sr_new S hq) (new_lst S hq (reps_rel rs k.toNat))
    · rw [if_neg c] at h
      exact h.elim
  · exact h.elim
def fAddE : W → W → Store → Res W
  | .bl b, .int j, st => .ok (.int ((if b = true then (1 : Int) else 0) + j)) st
  | x, y, st => fAdd x y st
def rAddB : R2 := fun x y H Q => ∃ b j, x = .bl b ∧ y = .int j ∧ Q (.int ((if b = true then (1 : Int) else 0) + j)) H
theorem op_addB : OpR X (binaryOp .Add) rAddB := by
  intro pins s σ H x y v u Q I rx ry h
  obtain ⟨b, j, rfl, rfl, q⟩ := h
  cases rx
  obtain ⟨t, rfl⟩ := ry
  exact PySem.IntBool.add_bool_int ⟨.int _, H, I.tok _, ⟨_, rfl⟩, q⟩
theorem r2_addE : R2ok X Wx (fun x y H Q => rAddB x y H Q ∨ ((rI0 (fun i j => .int (i + j)) x y H Q) ∨ (∃ i j, x = .str i ∧ y = .str j ∧ i.length + j.length ≤ sizeLine ∧ Q (.str (i ++ j)) H) ∨ rCat x y H Q ∨ rCatA X.K x y H Q)) fAddE := by
  intro p st x y v u σ Q S rx ry h
  unfold fAddE at h
  split at h
  · rename_i b j
    have e1 : v = .bl b := rx
    have e2 : u = .int j := ry
    subst e1 e2
    exact .inl ⟨b, j, rfl, rfl, fin_ok S h rfl⟩
  · exact .inr (r2_add p st _ _ v u σ Q S rx ry h)
def fSubE : W → W → Store → Res W
  | .int i, .bl b, st => .ok (.int (i - if b = true then (1 : Int) else 0)) st
  | x, y, st => fSub x y st
def rSubB : R2 := fun x y H Q => ∃ i b, x = .int i ∧ y = .bl b ∧ Q (.int (i - if b = true then (1 : Int) else 0)) H
theorem op_subB : OpR X (binaryOp .Sub) rSubB := by
  intro pins s σ H x y v u Q I rx ry h
  obtain ⟨i, b, rfl, rfl, q⟩ := h
  obtain ⟨t, rfl⟩ := rx
  cases ry
  exact PySem.IntBool.sub_int_bool ⟨.int _, H, I.tok _, ⟨_, rfl⟩, q⟩
theorem r2_subE : R2ok X Wx (fun x y H Q => rSubB x y H Q ∨ rI0 (fun i j => .int (i - j)) x y H Q) fSubE := by
  intro p st x y v u σ Q S rx ry h
  unfold fSubE at h
  split at h
  · rename_i i b
    have e1 : v = .int i := rx
    have e2 : u = .bl b := ry
    subst e1 e2
    exact .inl ⟨i, b, rfl, rfl, fin_ok S h rfl⟩
  · exact .inr (r2_sub p st _ _ v u σ Q S rx ry h)
end
end Mi

namespace Mi
open PySem PySem.Spec PyProof.Rows L2
variable [ClsMap]
/-! ### list.count of flat values -/
def rCountF (K : PySem.W.Frag) : V → List V → Hp → VK → Prop := fun x xs H Q =>
  ∃ (p : Addr) (ys : List V) (y : V), x = .ref p ∧ xs = [y] ∧ flatV y = true ∧ SqL K H p ys ∧ ys.all flatV = true ∧ Q (.int (ys.countP fun z => eqV z y : Nat)) H
theorem countF : ∀ {y : V} {ys : List V} {us : List Value}, Vals ys us → ys.all flatV = true → us.countP (eqU y) = ys.countP fun z => eqV z y
  | y, [], _, .nil, _ => rfl
  | y, z :: ys, _, .cons r t, h => by
    rw [List.all_cons, Bool.and_eq_true] at h
    rw [List.countP_cons, List.countP_cons, countF t h.2, eqU_of r h.1]
theorem mt_countF {X : Cx} : MtR X "list.count" (rCountF X.K) := by
  rintro pins s σ H x xs v us Q I rx r ⟨p, ys, y, rfl, rfl, fy, hq, fys, q⟩
  cases r with
  | cons ru r2 =>
    cases r2
    cases rx
    obtain ⟨its, rv, pl, hz⟩ := I.list hq
    obtain ⟨⟨oc, od, odt, osl⟩, hol, hc, ln, hd⟩ := pl.isList
    simp only at hc hd
    subst hc hd
    refine call_meets PySem.F.slot_list_count ⟨_, hol, rfl⟩ PySem.F.entry_list_count (PySem.F.args_list_count_2 _ _) (SeqAt.list_countAt p its.toArray ln od osl _ (eqU y)) ⟨hol, fun z hz => mem_eqAt ru fy rv fys z (by simpa using hz), ?_⟩
    exact ⟨.int (ys.countP fun z => eqV z y : Nat), H, I.tok _, ⟨_, by rw [show its.toArray.toList = its from rfl, countF rv fys]⟩, q⟩
end Mi

namespace Mi
open PySem PySem.Spec PyProof.Rows L2
variable [ClsMap]
/-! ### what becomes of a caught error: which of two classes, its field -/
section
variable {X : Cx} {h t k c1 c2 w0 w1 w2 w3 fl : Str} {A1 A2 : Addr} {q1 q2 q3 q4 q5 q6 q7 q8 q9 r1 r2 r3 r4 r5 r6 r7 r8 r9 u1 u2 u3 u4 u5 u6 u7 u8 u9 v1 v2 v3 v4 v5 v6 v7 v8 v9 : Pos} {s1 s2 s3 s4 s5 s6 s7 s8 s9 z1 z2 z3 : Pos} {i1 i2 i3 j1 j2 j3 j4 j5 j6 j7 j8 j9 : Nat}
theorem pe_ty {x : Str} {T : String} {pos : Pos} (hg : Gl X x) (hm : X.mg x = none) (hv : bootBuiltins x = some (.type T)) (hn : x ≠ "__name__" := by decide) (hdb : (x == ("__debug__" : Str)) = false := by decide) : PE X (.Name x pos) (tC (.ty T)) :=
  ⟨fun pins s σ H Q I z => ld_blt I hg hm hv ⟨.ty T, H, I, rfl, z⟩ hn hdb⟩
/-- the wish of the tail: no error, or one of two classes -/
def tTail (K : PySem.W.Frag) (A1 A2 : Addr) (w0 w2 w3 fl : Str) : TS := fun D σ H =>
  (∃ v, σ[1]? = some (some .non) ∧ σ[2]? = some (some v) ∧ ∀ p, H p = none → D.rt (.ref p) (upd H p (.tup [.str w0, v]))) ∨
  ∃ (a C dx : Addr) (fs : List (Str × V)) (v : V) (b : Bool), σ[1]? = some (some (.ref a)) ∧ 4 < σ.length ∧ ExcC K C ∧ XfC K C ∧ (PySem.W.clsIn K C).isSome = true ∧ PySem.W.findIn K (.ref C) fl = some none ∧
    H a = some (exk a (.ref C) (some dx)) ∧ H dx = some (.xd fs) ∧ fs.lookup fl = some v ∧ PySem.W.kitOne K (.ref C) (.ref A1) = some b ∧ PySem.W.kitOne K (.ref C) (.ref A2) = some (!b) ∧ PySem.W.kitOne K (.ref C) (.type "ValueError") = some true ∧
    ∀ l, H l = none → ∀ l2, upd H l (.lst [.bl b, .bl (!b)]) l2 = none → ∀ r, upd (upd H l (.lst [.bl b, .bl (!b)])) l2 (.lst [.str w2, .str w3]) r = none →
      D.rt (.ref r) (upd (upd (upd H l (.lst [.bl b, .bl (!b)])) l2 (.lst [.str w2, .str w3])) r (.tup [.str (if b = true then w2 else w3), v]))
theorem tail_ok (hc : X.calm = true) (hN : X.N.Nodup) (hh : X.N[1]? = some h) (ht : X.N[2]? = some t) (hk : X.N[4]? = some k) (vh : Vis X.env.scope h) (vt : Vis X.env.scope t) (vk : Vis X.env.scope k) (lk : Loc X.env.scope k)
    (dh : (h == ("__debug__" : Str)) = false) (dt : (t == ("__debug__" : Str)) = false) (dk : (k == ("__debug__" : Str)) = false) (eh : (h == ("__classdict__" : Str)) = false) (et : (t == ("__classdict__" : Str)) = false) (ek : (k == ("__classdict__" : Str)) = false)
    (gi : Gl X "isinstance") (mi : X.mg "isinstance" = none) (g1 : Gl X c1) (m1 : X.mg c1 = some (.ref A1)) (g2 : Gl X c2) (m2 : X.mg c2 = some (.ref A2)) (d1 : (c1 == ("__debug__" : Str)) = false) (d2 : (c2 == ("__debug__" : Str)) = false) (gv : Gl X "ValueError") (mv : X.mg "ValueError" = none)
    (lk2 : X.fn k = true ∨ X.env.scope.names.lookup k = some .local) (l1 : (u3.endLine == u5.line) = true) (l2 : (v3.endLine == v5.line) = true)
    (sw : swapsWith (.List [.Call (.Name "isinstance" r1) [.Name h r2, .Name c1 r3] [] r4, .Call (.Name "isinstance" r5) [.Name h r6, .Name c2 r7] [] r8] r9) (some (.Name k q9)) u1.line X.env = pure false) :
    PSs X [
      .If (.Compare (.Name h q1) [.Is] [.Constant .none j1 q2] q3) [.Return (some (.Tuple [.Constant (.str w0) j2 q4, .Name t q5] i1 q6)) q7] [] q8,
      .Assign [.Name k q9] (.List [.Call (.Name "isinstance" r1) [.Name h r2, .Name c1 r3] [] r4, .Call (.Name "isinstance" r5) [.Name h r6, .Name c2 r7] [] r8] r9) u1,
      .If (.BoolOp .Or [.Compare (.Call (.Attribute (.Name k u2) "count" u3) [.Constant (.bool true) j3 u4] [] u5) [.NotEq] [.Constant (.int 1) j4 u6] u7, .UnaryOp .Not (.Call (.Name "isinstance" u8) [.Name h u9, .Name "ValueError" v1] [] v2) v6] v7)
        [.Return (some (.Tuple [.Constant (.str w1) j5 v8, .Constant .none j6 v9] i2 s1)) s2] [] s3,
      .Return (some (.Tuple [.Subscript (.List [.Constant (.str w2) j7 s4, .Constant (.str w3) j8 s5] s6) (.Call (.Attribute (.Name k s7) "index" v3) [.Constant (.bool true) j9 v4] [] v5) s8, .Attribute (.Name h s9) fl z1] i3 z2)) z3] (tTail X.K A1 A2 w0 w2 w3 fl) := by
  refine PSsimp (pss_cons (ps_if (pt_cmpR op_isN (pv 1 hh vh dh eh) pe_non rfl) (pss_one (ps_ret (pe_tup (pa_cons pe_str (pa_cons (pv 2 ht vt dt et) pa_nil))))) pss_nil)
    (pss_cons (ps_set hN hk lk (pe_lst (pa_cons (pe_callB call_isK gi mi rfl (pa_cons (pv 1 hh vh dh eh) (pa_cons (pe_glob (v := .ref A1) g1 m1 rfl d1) pa_nil))) (pa_cons (pe_callB call_isK gi mi rfl (pa_cons (pv 1 hh vh dh eh) (pa_cons (pe_glob (v := .ref A2) g2 m2 rfl d2) pa_nil))) pa_nil))) sw lk2)
    (pss_cons (ps_if (PW.pt (pw_or (pt_cmpR op_ne (pe_bm PySem.F.plainAttrs_list PySem.F.slot_list_count PySem.F.type_list_count mt_countF (pv 4 hk vk dk ek) (pa_cons pe_bl pa_nil) (hline := l1)) pe_int rfl) (pw_or1 (pt_not (pt_val (pe_callB call_isK gi mi rfl (pa_cons (pv 1 hh vh dh eh) (pa_cons (pe_ty gv mv rfl) pa_nil)))))))) (pss_one (ps_ret (pe_tup (pa_cons pe_str (pa_cons pe_non pa_nil))))) pss_nil)
    (pss_one (ps_ret (pe_tup (pa_cons (pe_ix ix_seq (pe_lst (pa_cons pe_str (pa_cons pe_str pa_nil))) (pe_bm PySem.F.plainAttrs_list PySem.F.slot_list_index PySem.F.type_list_index mt_index (pv 4 hk vk dk ek) (pa_cons pe_bl pa_nil) (hline := l2)) (fun _ _ => rfl)) (pa_cons (pe_xk (pv 1 hh vh dh eh)) pa_nil)))))))) fun D σ H h => ?_
  rcases h with ⟨v, h1, h2, fin⟩ | ⟨a, C, dx, fs, v, b, h1, len, hE, hX, hcl, hfl, hH, hd, hv, k1, k2, k3, fin⟩
  · refine ⟨.non, h1, rfl, true, by simp, v, h2, by simp [sizeLine_eq], fun p hp => fin p hp⟩
  · have inH : ∀ c u, H c = some u → ∀ l o, H l = none → upd H l o c = some u := fun c u z l o n => by
      rw [upd_ne (ne_of_none z n)]
      exact z
    refine ⟨.ref a, h1, rfl, false, by simp, ?_⟩
    refine ⟨.ref a, h1, a, C, dx, fs, .ref A1, .ref A1, b, rfl, hE, hcl, hH, hd, fun u z => z, k1, ?_⟩
    refine ⟨.ref a, h1, a, C, dx, fs, .ref A2, .ref A2, !b, rfl, hE, hcl, hH, hd, fun u z => z, k2, ?_⟩
    refine ⟨by simp [sizeLine_eq], fun l hl => ?_⟩
    have s4 : (σ.set 4 (some (.ref l)))[4]? = some (some (.ref l)) := by rw [List.getElem?_set_self len]
    have s1 : (σ.set 4 (some (.ref l)))[1]? = some (some (.ref a)) := by
      rw [List.getElem?_set_ne (by decide)]
      exact h1
    have sl : SqL X.K (upd H l (.lst [.bl b, .bl (!b)])) l [.bl b, .bl (!b)] := .inl (.inl upd_same)
    have cnt : ([V.bl b, V.bl (!b)].countP fun z => eqV z (.bl true)) = 1 := by cases b <;> rfl
    refine ⟨.ref l, s4, .inl ⟨rfl, _, sl⟩, l, _, .bl true, rfl, rfl, rfl, sl, by cases b <;> rfl, ?_⟩
    rw [cnt]
    refine ⟨rfl, false, by simp, ?_⟩
    refine ⟨.ref a, s1, a, C, dx, fs, .ty "ValueError", .type "ValueError", true, rfl, hE, hcl, inH _ _ hH _ _ hl, inH _ _ hd _ _ hl, fun u z => z, k3, ?_⟩
    refine ⟨true, rfl, ?_⟩
    refine ⟨by simp [sizeLine_eq], fun l2 hl2 => ?_⟩
    have sl2 : SqL X.K (upd (upd H l (.lst [.bl b, .bl (!b)])) l2 (.lst [.str w2, .str w3])) l [.bl b, .bl (!b)] := .inl (.inl (by
      rw [upd_ne (ne_of_none upd_same hl2)]
      exact upd_same))
    refine ⟨.ref l, s4, .inl ⟨rfl, _, sl2⟩, ?_⟩
    have hH2 : upd (upd H l (.lst [.bl b, .bl (!b)])) l2 (.lst [.str w2, .str w3]) a = some (exk a (.ref C) (some dx)) := by
      have z := inH _ _ hH l (.lst [.bl b, .bl (!b)]) hl
      rw [upd_ne (ne_of_none z hl2)]
      exact z
    have hd2 : upd (upd H l (.lst [.bl b, .bl (!b)])) l2 (.lst [.str w2, .str w3]) dx = some (.xd fs) := by
      have z := inH _ _ hd l (.lst [.bl b, .bl (!b)]) hl
      rw [upd_ne (ne_of_none z hl2)]
      exact z
    have f2 := fin l hl l2 hl2
    cases b with
    | true =>
      refine ⟨l, _, .bl true, 0, .bl true, rfl, rfl, sl2, rfl, rfl, rfl, rfl, fun m z' hm => absurd hm (Nat.not_lt_zero _), ?_⟩
      refine .inl ⟨l2, _, 0, .str w2, rfl, rfl, .inl (.inl upd_same), rfl, ?_⟩
      exact ⟨.ref a, s1, a, C, dx, fs, v, rfl, hX, hfl, hH2, hd2, hv, by simp [sizeLine_eq], fun r hr => f2 r hr⟩
    | false =>
      refine ⟨l, _, .bl true, 1, .bl true, rfl, rfl, sl2, rfl, rfl, rfl, rfl, fun m z' hm hz => ?_, ?_⟩
      · obtain rfl : m = 0 := by omega
        cases hz
        rfl
      refine .inl ⟨l2, _, 1, .str w3, rfl, rfl, .inl (.inl upd_same), rfl, ?_⟩
      exact ⟨.ref a, s1, a, C, dx, fs, v, rfl, hX, hfl, hH2, hd2, hv, by simp [sizeLine_eq], fun r hr => f2 r hr⟩
end
end Mi

namespace Mi
open PySem PySem.Spec PyProof.Rows L2 LamX
variable [ClsMap]
/-! ### def caught(call): which error comes of a call without arguments -/
/-- what is wished of an error of one of two classes -/
def eCaught (K : PySem.W.Frag) (FAR A1 A2 : Addr) (w2 w3 fl : Str) (Q : VK) : XK := fun cls d H =>
  ∃ (C dx : Addr) (fs : List (Str × V)) (v : V) (b : Bool), cls = .ref C ∧ d = some dx ∧ PySem.W.exmOne K (.ref C) (.ref FAR) = some true ∧ ExcC K C ∧ XfC K C ∧ (PySem.W.clsIn K C).isSome = true ∧ PySem.W.findIn K (.ref C) fl = some none ∧
    H dx = some (.xd fs) ∧ fs.lookup fl = some v ∧ PySem.W.kitOne K (.ref C) (.ref A1) = some b ∧ PySem.W.kitOne K (.ref C) (.ref A2) = some (!b) ∧ PySem.W.kitOne K (.ref C) (.type "ValueError") = some true ∧
    ∀ a, H a = none → ∀ l, upd H a (exk a (.ref C) (some dx)) l = none → ∀ l2, upd (upd H a (exk a (.ref C) (some dx))) l (.lst [.bl b, .bl (!b)]) l2 = none →
      ∀ r, upd (upd (upd H a (exk a (.ref C) (some dx))) l (.lst [.bl b, .bl (!b)])) l2 (.lst [.str w2, .str w3]) r = none →
      Q (.ref r) (upd (upd (upd (upd H a (exk a (.ref C) (some dx))) l (.lst [.bl b, .bl (!b)])) l2 (.lst [.str w2, .str w3])) r (.tup [.str (if b = true then w2 else w3), v]))
def dCaught (K : PySem.W.Frag) (A1 A2 : Addr) (w0 w2 w3 fl : Str) (Q : VK) : Ends := { nx := tTail K A1 A2 w0 w2 w3 fl { nx := fun _ H' => Q .non H', rt := Q }, rt := Q }
def eC (K : PySem.W.Frag) (FAR A1 A2 : Addr) (w0 w2 w3 fl : Str) (Q : VK) : XK := fun cls d H => ∀ σ', wKeep K (.ref FAR) 5 3 1 (dCaught K A1 A2 w0 w2 w3 fl Q) cls d σ' H
def qC (K : PySem.W.Frag) (A1 A2 : Addr) (w0 w2 w3 fl : Str) (Q : VK) (f : Addr) : VK := fun v H1 => tTail K A1 A2 w0 w2 w3 fl { nx := fun _ H' => Q .non H', rt := Q } [some (.ref f), some .non, some v, none, none] H1
def tCaught (K : PySem.W.Frag) (FAR A1 A2 : Addr) (w0 w2 w3 fl : Str) : (XK → Hp → VK → Prop) → Hp → VK → Prop := fun tl H Q => ∀ f : Addr, tl (eC K FAR A1 A2 w0 w2 w3 fl Q) H (qC K A1 A2 w0 w2 w3 fl Q f)
theorem qC_of {K : PySem.W.Frag} {A1 A2 : Addr} {w0 w2 w3 fl : Str} {Q : VK} {f : Addr} {v : V} {H : Hp} (h : ∀ p, H p = none → Q (.ref p) (upd H p (.tup [.str w0, v]))) : qC K A1 A2 w0 w2 w3 fl Q f v H := .inl ⟨v, rfl, rfl, h⟩
theorem eC_of {K : PySem.W.Frag} {FAR A1 A2 : Addr} {w0 w2 w3 fl : Str} {Q : VK} {cls : Value} {d : Option Addr} {H : Hp} (h : eCaught K FAR A1 A2 w2 w3 fl Q cls d H) : eC K FAR A1 A2 w0 w2 w3 fl Q cls d H := by
  obtain ⟨C, dx, fs, v, b, rfl, rfl, hm, hE, hX, hcl, hfl, hd, hv, k1, k2, k3, fin⟩ := h
  intro σ'
  refine ⟨true, hm, fun _ hl a ha => .inr ⟨a, C, dx, fs, v, b, ?_, by simp [hl], hE, hX, hcl, hfl, upd_same, ?_, hv, k1, k2, k3, fin a ha⟩, fun z => nomatch z⟩
  · rw [List.getElem?_set_ne (by decide), List.getElem?_set_self (by simp [hl])]
  · rw [upd_ne (ne_of_none hd ha)]
    exact hd
section
variable {X : Cx} {x q a h t e k far c1 c2 w0 w1 w2 w3 fl : Str} {sg : Scope} {g FAR A1 A2 : Addr} {cdg : Value} {q1 q2 q3 q4 q5 q6 q7 q8 q9 r1 r2 r3 r4 r5 r6 r7 r8 r9 u1 u2 u3 u4 u5 u6 u7 u8 u9 v1 v2 v3 v4 v5 v6 v7 v8 v9 : Pos} {s1 s2 s3 s4 s5 s6 s7 s8 s9 z1 z2 z3 y1 y2 y3 y4 y5 y6 y7 y8 y9 x1 x2 x3 x4 x5 x6 x7 x8 x9 : Pos} {i1 i2 i3 j1 j2 j3 j4 j5 j6 j7 j8 j9 n1 n2 n3 n4 : Nat}
theorem caught_gives (nd : [a, h, t, e, k].Nodup) (lh : sg.names.lookup h = some .local) (lt : sg.names.lookup t = some .local) (le : sg.names.lookup e = some .local) (lk : sg.names.lookup k = some .local)
    (dh : (h == ("__debug__" : Str)) = false) (dt : (t == ("__debug__" : Str)) = false) (de : (e == ("__debug__" : Str)) = false) (dk : (k == ("__debug__" : Str)) = false) (eh : (h == ("__classdict__" : Str)) = false) (et : (t == ("__classdict__" : Str)) = false) (ek : (k == ("__classdict__" : Str)) = false)
    (gi : sg.names.lookup ("isinstance" : Str) = some .globalImplicit) (mi : X.mg "isinstance" = none) (g1 : sg.names.lookup c1 = some .globalImplicit) (m1 : X.mg c1 = some (.ref A1)) (g2 : sg.names.lookup c2 = some .globalImplicit) (m2 : X.mg c2 = some (.ref A2))
    (gf : sg.names.lookup far = some .globalImplicit) (mf : X.mg far = some (.ref FAR)) (df : (far == ("__debug__" : Str)) = false)
    (d1 : (c1 == ("__debug__" : Str)) = false) (d2 : (c2 == ("__debug__" : Str)) = false) (gv : sg.names.lookup ("ValueError" : Str) = some .globalImplicit) (mv : X.mg "ValueError" = none)
    (l1 : (u3.endLine == u5.line) = true) (l2 : (v3.endLine == v5.line) = true)
    (sw : ∀ L, swapsWith (.List [.Call (.Name "isinstance" r1) [.Name h r2, .Name c1 r3] [] r4, .Call (.Name "isinstance" r5) [.Name h r6, .Name c2 r7] [] r8] r9) (some (.Name k q9)) u1.line (envOfC x sg L g cdg) = pure false)
    (sw2 : ∀ L, swappedStores [.Tuple [.Name h x1, .Name t x2] n1 x3] (.Tuple [.Constant .none n2 x4, .Constant .none n3 x5] n4 x6) (envOfC x sg L g cdg) = pure (some [h, t]))
    (sw3 : ∀ L, swapsWithSole [.Tuple [.Name h x1, .Name t x2] n1 x3] (.Tuple [.Constant .none n2 x4, .Constant .none n3 x5] n4 x6) x7.line (envOfC x sg L g cdg) = pure false)
    (sw4 : ∀ L, swapsWith (.Call (.Name a y1) [] [] y2) (some (.Name t y3)) y4.line (envOfC x sg L g cdg) = pure false)
    (sw5 : ∀ L, swapsWith (.Name e y5) (some (.Name h y6)) y7.line (envOfC x sg L g cdg) = pure false) :
    GivesTo X [a, h, t, e, k] x sg g cdg [
      .Assign [.Tuple [.Name h x1, .Name t x2] n1 x3] (.Tuple [.Constant .none n2 x4, .Constant .none n3 x5] n4 x6) x7,
      .Try [.Assign [.Name t y3] (.Call (.Name a y1) [] [] y2) y4] [.ExceptHandler (some (.Name far y8)) (some e) [.Assign [.Name h y6] (.Name e y5) y7] y9] [] [] x8,
      .If (.Compare (.Name h q1) [.Is] [.Constant .none j1 q2] q3) [.Return (some (.Tuple [.Constant (.str w0) j2 q4, .Name t q5] i1 q6)) q7] [] q8,
      .Assign [.Name k q9] (.List [.Call (.Name "isinstance" r1) [.Name h r2, .Name c1 r3] [] r4, .Call (.Name "isinstance" r5) [.Name h r6, .Name c2 r7] [] r8] r9) u1,
      .If (.BoolOp .Or [.Compare (.Call (.Attribute (.Name k u2) "count" u3) [.Constant (.bool true) j3 u4] [] u5) [.NotEq] [.Constant (.int 1) j4 u6] u7, .UnaryOp .Not (.Call (.Name "isinstance" u8) [.Name h u9, .Name "ValueError" v1] [] v2) v6] v7)
        [.Return (some (.Tuple [.Constant (.str w1) j5 v8, .Constant .none j6 v9] i2 s1)) s2] [] s3,
      .Return (some (.Tuple [.Subscript (.List [.Constant (.str w2) j7 s4, .Constant (.str w3) j8 s5] s6) (.Call (.Attribute (.Name k s7) "index" v3) [.Constant (.bool true) j9 v4] [] v5) s8, .Attribute (.Name h s9) fl z1] i3 z2)) z3]
      a q (tCaught X.K FAR A1 A2 w0 w2 w3 fl) := by
  intro f c' s H Q tl hcall hc' hT
  refine ⟨_, pss_cons (ps_par (i := 1) (j := 2) rfl nd rfl rfl (by decide) lh lt (pa_cons pe_non (pa_cons pe_non pa_nil)) (sw2 _) (sw3 _))
    (pss_cons (ps_try_keep (i := 3) (j := 1) (c := .ref FAR) rfl rfl nd rfl le rfl lh ⟨gf, df, .inl mf⟩ (fun W pn xe tk _ => pss_one (ps_set (i := 2) nd rfl (.inl lt) (hcall W pn xe (fun cls d H => ∀ σ', W cls d σ' H) _ _ tk fun _ _ σ' _ z => z σ') (sw4 _) (.inr lt))) de (sw5 _))
      (tail_ok rfl nd rfl rfl rfl (.inl lh) (.inl lt) (.inl lk) (.inl lk) dh dt dk eh et ek gi mi g1 m1 g2 m2 d1 d2 gv mv (.inr lk) l1 l2 (sw _))), ?_⟩
  refine ⟨.non, .non, rfl, rfl, hc', ?_⟩
  exact hT f
end
end Mi

namespace Mi
open PySem PySem.Spec PyProof.Rows L2
variable [ClsMap]
/-! ### raise X(e), X's place unsaid -/
def ErrOk (P : Program) (w : World) (K : PySem.W.Frag) (mg : Str → Option Value) (base : Heap) (x fl : Str) : Prop := ∃ C, ErrAt P w K mg base x fl C
section
variable {X : Cx} {Wx : WX} {x fl : Str} {p pos pos2 : Pos} {e : Expr} {ml : Ev (List W)}
theorem gs_raiseE (hc : X.calm = true) (tk : Takes X Wx) (M : ErrOk X.prog X.w X.K X.mg X.base x fl) (hr : Room 2 X.A) (hg : Gl X x) (ha : GA X Wx [e] ml) (hdb : (x == ("__debug__" : Str)) = false := by decide)
    (he : starEach [e] X.env = (false, eval e X.env) :: starEach [] X.env := by rfl) (hpl : (backTo pos (starEach [] X.env)).any (·.1) = false := by rfl) : GS X Wx (.Raise (some (.Call (.Name x p) [e] [] pos)) none pos2) (sRaise1 x fl ml) := by
  obtain ⟨C, M⟩ := M
  exact gs_raise hc tk M hr hg ha hdb he hpl
end
/-! ### try: t = f(a) .. except far as e: h = e; what came, or the error's field -/
def keptX (cn fl : Str) (x : Xc) : Option W := if x.cls = cn then (match x.args with | [(f, v)] => if f = fl then some v else none | _ => none) else none
def sKept (m : Ev W) (cn fl w0 w1 : Str) : Sm := fun env st => match env with
  | [_, some .non, some .non, none, none] => match m env st with
    | .ok t s1 => .go (.rt (.tup [.str w0, t])) s1
    | .exc x s1 => match keptX cn fl x with
      | some v => .go (.rt (.tup [.str w1, v])) s1
      | none => .bad
    | .bad => .bad
  | _ => .bad
/-- what is known of the error's class -/
structure KeptAt (K : PySem.W.Frag) (mg : Str → Option Value) (cn far c2 fl : Str) (C FAR A2 : Addr) : Prop where
  mC : mg cn = some (.ref C)
  mF : mg far = some (.ref FAR)
  m2 : mg c2 = some (.ref A2)
  em : PySem.W.exmOne K (.ref C) (.ref FAR) = some true
  hE : ExcC K C
  hX : XfC K C
  cl : (PySem.W.clsIn K C).isSome = true
  fl : PySem.W.findIn K (.ref C) fl = some none
  k1 : PySem.W.kitOne K (.ref C) (.ref C) = some true
  k2 : PySem.W.kitOne K (.ref C) (.ref A2) = some false
  k3 : PySem.W.kitOne K (.ref C) (.type "ValueError") = some true
def KeptOk (K : PySem.W.Frag) (mg : Str → Option Value) (cn far c2 fl : Str) : Prop := ∃ C FAR A2, KeptAt K mg cn far c2 fl C FAR A2
section
variable {X : Cx} {Wx : WX} {h t k e far cn c2 w0 w1 w2 fl : Str} {q1 q2 q3 q4 q5 q6 q7 q8 q9 r1 r2 r3 r4 r5 r6 r7 r8 r9 u1 u2 u3 u4 u5 u6 u7 u8 u9 v1 v2 v3 v4 v5 v6 v7 v8 v9 : Pos} {s1 s2 s3 s4 s5 s6 s7 s8 s9 z1 z2 z3 y3 y4 y5 y6 y7 y8 y9 x8 : Pos} {i1 i2 i3 j1 j2 j3 j4 j5 j6 j7 j8 j9 : Nat} {be : Expr} {mb : Ev W}
def tTail1 (K : PySem.W.Frag) (C A2 : Addr) (w0 w1 fl : Str) : TS := fun D σ H =>
  (∃ v, σ[1]? = some (some .non) ∧ σ[2]? = some (some v) ∧ ∀ p, H p = none → D.rt (.ref p) (upd H p (.tup [.str w0, v]))) ∨
  ∃ (a dx : Addr) (fs : List (Str × V)) (v : V), σ[1]? = some (some (.ref a)) ∧ 4 < σ.length ∧ H a = some (exk a (.ref C) (some dx)) ∧ H dx = some (.xd fs) ∧ fs.lookup fl = some v ∧ ∀ r, H r = none → D.rt (.ref r) (upd H r (.tup [.str w1, v]))
theorem tail_ok1 {C FAR A2 : Addr} (M : KeptAt X.K X.mg cn far c2 fl C FAR A2) (hN : X.N.Nodup) (hh : X.N[1]? = some h) (ht : X.N[2]? = some t) (hk : X.N[4]? = some k) (vh : Vis X.env.scope h) (vt : Vis X.env.scope t) (vk : Vis X.env.scope k) (lk : Loc X.env.scope k)
    (dh : (h == ("__debug__" : Str)) = false) (dt : (t == ("__debug__" : Str)) = false) (dk : (k == ("__debug__" : Str)) = false) (eh : (h == ("__classdict__" : Str)) = false) (et : (t == ("__classdict__" : Str)) = false) (ek : (k == ("__classdict__" : Str)) = false)
    (gi : Gl X "isinstance") (mi : X.mg "isinstance" = none) (g1 : Gl X cn) (g2 : Gl X c2) (d1 : (cn == ("__debug__" : Str)) = false) (d2 : (c2 == ("__debug__" : Str)) = false) (gv : Gl X "ValueError") (mv : X.mg "ValueError" = none)
    (lk2 : X.fn k = true ∨ X.env.scope.names.lookup k = some .local)
    (sw : swapsWith (.BoolOp .And [.Call (.Name "isinstance" r1) [.Name h r2, .Name cn r3] [] r4, .UnaryOp .Not (.Call (.Name "isinstance" r5) [.Name h r6, .Name c2 r7] [] r8) r9, .Call (.Name "isinstance" u8) [.Name h u9, .Name "ValueError" v1] [] v2] v6) (some (.Name k q9)) u1.line X.env = pure false) :
    PSs X [
      .If (.Compare (.Name h q1) [.Is] [.Constant .none j1 q2] q3) [.Return (some (.Tuple [.Constant (.str w0) j2 q4, .Name t q5] i1 q6)) q7] [] q8,
      .Assign [.Name k q9] (.BoolOp .And [.Call (.Name "isinstance" r1) [.Name h r2, .Name cn r3] [] r4, .UnaryOp .Not (.Call (.Name "isinstance" r5) [.Name h r6, .Name c2 r7] [] r8) r9, .Call (.Name "isinstance" u8) [.Name h u9, .Name "ValueError" v1] [] v2] v6) u1,
      .Return (some (.IfExp (.Name k s1) (.Tuple [.Constant (.str w1) j5 v8, .Attribute (.Name h s9) fl z1] i3 z2) (.Tuple [.Constant (.str w2) j7 s4, .Constant .none j8 s5] i2 s6) s7)) s8] (tTail1 X.K C A2 w0 w1 fl) := by
  refine PSsimp (pss_cons (ps_if (pt_cmpR op_isN (pv 1 hh vh dh eh) pe_non rfl) (pss_one (ps_ret (pe_tup (pa_cons pe_str (pa_cons (pv 2 ht vt dt et) pa_nil))))) pss_nil)
    (pss_cons (ps_set hN hk lk (pe_and (pe_callB call_isK gi mi rfl (pa_cons (pv 1 hh vh dh eh) (pa_cons (pe_glob (v := .ref C) g1 M.mC rfl d1) pa_nil))) (pe_and (pe_not (pe_callB call_isK gi mi rfl (pa_cons (pv 1 hh vh dh eh) (pa_cons (pe_glob (v := .ref A2) g2 M.m2 rfl d2) pa_nil)))) (pe_one (pe_callB call_isK gi mi rfl (pa_cons (pv 1 hh vh dh eh) (pa_cons (pe_ty gv mv rfl) pa_nil)))))) sw lk2)
    (pss_one (ps_ret (pe_ifExp (pt_val (pv 4 hk vk dk ek)) (pe_tup (pa_cons pe_str (pa_cons (pe_xk (pv 1 hh vh dh eh)) pa_nil))) (pe_tup (pa_cons pe_str (pa_cons pe_non pa_nil)))))))) fun D σ H hT => ?_
  rcases hT with ⟨v, h1, h2, fin⟩ | ⟨a, dx, fs, v, h1, len, hH, hd, hv, fin⟩
  · refine ⟨.non, h1, rfl, true, by simp, v, h2, by simp [sizeLine_eq], fun p hp => fin p hp⟩
  · refine ⟨.ref a, h1, rfl, false, by simp, ?_⟩
    refine ⟨.ref a, h1, a, C, dx, fs, .ref C, .ref C, true, rfl, M.hE, M.cl, hH, hd, fun u z => z, M.k1, true, rfl, ?_⟩
    refine ⟨.ref a, h1, a, C, dx, fs, .ref A2, .ref A2, false, rfl, M.hE, M.cl, hH, hd, fun u z => z, M.k2, false, rfl, true, rfl, ?_⟩
    refine ⟨.ref a, h1, a, C, dx, fs, .ty "ValueError", .type "ValueError", true, rfl, M.hE, M.cl, hH, hd, fun u z => z, M.k3, ?_⟩
    have s4 : (σ.set 4 (some (.bl true)))[4]? = some (some (.bl true)) := by rw [List.getElem?_set_self len]
    have s1 : (σ.set 4 (some (.bl true)))[1]? = some (some (.ref a)) := by
      rw [List.getElem?_set_ne (by decide)]
      exact h1
    refine ⟨.bl true, s4, true, rfl, ?_⟩
    exact ⟨.ref a, s1, a, C, dx, fs, v, rfl, M.hX, M.fl, hH, hd, hv, by simp [sizeLine_eq], fun r hr => fin r hr⟩
theorem keptX_of {x : Xc} {v : W} (e : keptX cn fl x = some v) : x.cls = cn ∧ x.args = [(fl, v)] := by
  unfold keptX at e
  by_cases c : x.cls = cn
  · rw [if_pos c] at e
    refine ⟨c, ?_⟩
    split at e
    · rename_i f u ea
      by_cases c2 : f = fl
      · rw [if_pos c2] at e
        cases e
        rw [ea, c2]
      · rw [if_neg c2] at e
        cases e
    · cases e
  · rw [if_neg c] at e
    cases e
theorem gss_kept (K0 : KeptOk X.K X.mg cn far c2 fl) (hs : X.stack = X.env :: X.outer) (hf : X.env.frame = some X.env.locals) (hN : X.N.Nodup) (hl : X.N.length = 5) (hh : X.N[1]? = some h) (ht : X.N[2]? = some t) (he : X.N[3]? = some e) (hk : X.N[4]? = some k)
    (lh : X.env.scope.names.lookup h = some .local) (lt : X.env.scope.names.lookup t = some .local) (le : X.env.kindOf e = some .local) (lk : X.env.scope.names.lookup k = some .local)
    (dh : (h == ("__debug__" : Str)) = false) (dt : (t == ("__debug__" : Str)) = false) (de : (e == ("__debug__" : Str)) = false) (dk : (k == ("__debug__" : Str)) = false) (eh : (h == ("__classdict__" : Str)) = false) (et : (t == ("__classdict__" : Str)) = false) (ek : (k == ("__classdict__" : Str)) = false)
    (gi : Gl X "isinstance") (mi : X.mg "isinstance" = none) (gf : Gl X far) (df : (far == ("__debug__" : Str)) = false) (g1 : Gl X cn) (g2 : Gl X c2) (d1 : (cn == ("__debug__" : Str)) = false) (d2 : (c2 == ("__debug__" : Str)) = false) (gv : Gl X "ValueError") (mv : X.mg "ValueError" = none)
    (hb : ∀ (W : WX) (pn : List (Addr × Obj)) (xe : Value → Shared → Prop), Takes (X.tr pn xe) W → GSs (X.tr pn xe) W [.Assign [.Name t y3] be y4] (sSet 2 mb))
    (sw5 : swapsWith (.Name e y5) (some (.Name h y6)) y7.line X.env = pure false)
    (sw : swapsWith (.BoolOp .And [.Call (.Name "isinstance" r1) [.Name h r2, .Name cn r3] [] r4, .UnaryOp .Not (.Call (.Name "isinstance" r5) [.Name h r6, .Name c2 r7] [] r8) r9, .Call (.Name "isinstance" u8) [.Name h u9, .Name "ValueError" v1] [] v2] v6) (some (.Name k q9)) u1.line X.env = pure false) :
    GSs X Wx [
      .Try [.Assign [.Name t y3] be y4] [.ExceptHandler (some (.Name far y8)) (some e) [.Assign [.Name h y6] (.Name e y5) y7] y9] [] [] x8,
      .If (.Compare (.Name h q1) [.Is] [.Constant .none j1 q2] q3) [.Return (some (.Tuple [.Constant (.str w0) j2 q4, .Name t q5] i1 q6)) q7] [] q8,
      .Assign [.Name k q9] (.BoolOp .And [.Call (.Name "isinstance" r1) [.Name h r2, .Name cn r3] [] r4, .UnaryOp .Not (.Call (.Name "isinstance" r5) [.Name h r6, .Name c2 r7] [] r8) r9, .Call (.Name "isinstance" u8) [.Name h u9, .Name "ValueError" v1] [] v2] v6) u1,
      .Return (some (.IfExp (.Name k s1) (.Tuple [.Constant (.str w1) j5 v8, .Attribute (.Name h s9) fl z1] i3 z2) (.Tuple [.Constant (.str w2) j7 s4, .Constant .none j8 s5] i2 s6) s7)) s8] (sKept mb cn fl w0 w1) := by
  obtain ⟨C, FAR, A2, M⟩ := K0
  refine PSsimp (pss_cons (ps_try_keep (tb := fun W => tS X.K X.mg W (sSet 2 mb)) (i := 3) (j := 1) (c := .ref FAR) hs hf hN he le hh lh ⟨gf, df, .inl M.mF⟩ (fun W pn xe tk _ => hb W pn xe tk) de sw5)
    (tail_ok1 M hN hh ht hk (.inl lh) (.inl lt) (.inl lk) (.inl lk) dh dt dk eh et ek gi mi g1 g2 d1 d2 gv mv (.inr lk) sw)) fun D σ H ⟨p, st, env, hp, S, E, hF⟩ => ?_
  unfold sKept at hF
  split at hF
  · rename_i o
    refine ⟨p, st, _, hp, S, E, ?_⟩
    unfold sSet liftE
    cases em : mb [o, some .non, some .non, none, none] st with
    | bad =>
      rw [em] at hF
      exact hF.elim
    | ok u s1 =>
      rw [em] at hF
      intro q σ' t1 S1 E1
      obtain ⟨v1, g1, r1⟩ := E1.get 1 .non rfl
      obtain ⟨v2, g2, r2⟩ := E1.get 2 u rfl
      have r1' : v1 = .non := r1
      subst r1'
      exact .inl ⟨v2, g1, g2, fun a ha => hF { q with H := upd q.H a (.tup [.str w0, v2]) } (.ref a) (t1.trans (step_new S1 ha)) (sr_new S1 ha) (new_tup S1 ha ⟨.str w0, [v2], rfl, rfl, ⟨v2, [], rfl, r2, rfl⟩⟩)⟩
    | exc x s1 =>
      rw [em] at hF
      dsimp only at hF
      cases e2 : keptX cn fl x with
      | none =>
        rw [e2] at hF
        exact hF.elim
      | some v =>
        rw [e2] at hF
        obtain ⟨ec, ea⟩ := keptX_of e2
        intro q σ' cls d t1 S1 E1 ⟨C', mC', ecls, dx, fs, ed, hd, hout, names, rs⟩
        rw [ec, M.mC] at mC'
        cases mC'
        subst ecls ed
        rw [ea] at names rs
        obtain ⟨v', rfl, rv⟩ : ∃ v', fs = [(fl, v')] ∧ RW X.K q v v' := by
          match fs, names, rs with
          | [(f, v')], names, rs =>
            obtain ⟨z, zs, ez, rz, _⟩ := rs
            have e1 : f = fl := by simpa using names
            have e3 : v' = z := by
              have := congrArg List.head? ez
              simpa using this
            subst e1 e3
            exact ⟨v', rfl, rz⟩
        refine ⟨true, M.em, fun _ hl' a ha => .inr ⟨a, dx, [(fl, v')], v', ?_, by simp [hl', hl], upd_same, ?_, by simp [List.lookup], fun r hr => ?_⟩, fun z => nomatch z⟩
        · rw [List.getElem?_set_ne (by decide), List.getElem?_set_self (by simp [hl', hl])]
        · rw [upd_ne (ne_of_none hd ha)]
          exact hd
        · have t2 := step_new (o := exk a (.ref C) (some dx)) S1 ha
          have S2 := sr_new (o := exk a (.ref C) (some dx)) S1 ha
          exact hF { q with H := upd (upd q.H a (exk a (.ref C) (some dx))) r (.tup [.str w1, v']) } (.ref r) ((t1.trans t2).trans (step_new S2 hr)) (sr_new S2 hr) (new_tup S2 hr ⟨.str w1, [v'], rfl, rfl, ⟨v', [], rfl, RW.step t2 v v' rv, rfl⟩⟩)
  · exact hF.elim
theorem gss_keptZ {zz0 zz1 : Str} (ez0 : w0 = zz0) (ez1 : w1 = zz1) (K0 : KeptOk X.K X.mg cn far c2 fl) (hs : X.stack = X.env :: X.outer) (hf : X.env.frame = some X.env.locals) (hN : X.N.Nodup) (hl : X.N.length = 5) (hh : X.N[1]? = some h) (ht : X.N[2]? = some t) (he : X.N[3]? = some e) (hk : X.N[4]? = some k)
    (lh : X.env.scope.names.lookup h = some .local) (lt : X.env.scope.names.lookup t = some .local) (le : X.env.kindOf e = some .local) (lk : X.env.scope.names.lookup k = some .local)
    (dh : (h == ("__debug__" : Str)) = false) (dt : (t == ("__debug__" : Str)) = false) (de : (e == ("__debug__" : Str)) = false) (dk : (k == ("__debug__" : Str)) = false) (eh : (h == ("__classdict__" : Str)) = false) (et : (t == ("__classdict__" : Str)) = false) (ek : (k == ("__classdict__" : Str)) = false)
    (gi : Gl X "isinstance") (mi : X.mg "isinstance" = none) (gf : Gl X far) (df : (far == ("__debug__" : Str)) = false) (g1 : Gl X cn) (g2 : Gl X c2) (d1 : (cn == ("__debug__" : Str)) = false) (d2 : (c2 == ("__debug__" : Str)) = false) (gv : Gl X "ValueError") (mv : X.mg "ValueError" = none)
    (hb : ∀ (W : WX) (pn : List (Addr × Obj)) (xe : Value → Shared → Prop), Takes (X.tr pn xe) W → GSs (X.tr pn xe) W [.Assign [.Name t y3] be y4] (sSet 2 mb))
    (sw5 : swapsWith (.Name e y5) (some (.Name h y6)) y7.line X.env = pure false)
    (sw : swapsWith (.BoolOp .And [.Call (.Name "isinstance" r1) [.Name h r2, .Name cn r3] [] r4, .UnaryOp .Not (.Call (.Name "isinstance" r5) [.Name h r6, .Name c2 r7] [] r8) r9, .Call (.Name "isinstance" u8) [.Name h u9, .Name "ValueError" v1] [] v2] v6) (some (.Name k q9)) u1.line X.env = pure false) :
    GSs X Wx [
      .Try [.Assign [.Name t y3] be y4] [.ExceptHandler (some (.Name far y8)) (some e) [.Assign [.Name h y6] (.Name e y5) y7] y9] [] [] x8,
      .If (.Compare (.Name h q1) [.Is] [.Constant .none j1 q2] q3) [.Return (some (.Tuple [.Constant (.str w0) j2 q4, .Name t q5] i1 q6)) q7] [] q8,
      .Assign [.Name k q9] (.BoolOp .And [.Call (.Name "isinstance" r1) [.Name h r2, .Name cn r3] [] r4, .UnaryOp .Not (.Call (.Name "isinstance" r5) [.Name h r6, .Name c2 r7] [] r8) r9, .Call (.Name "isinstance" u8) [.Name h u9, .Name "ValueError" v1] [] v2] v6) u1,
      .Return (some (.IfExp (.Name k s1) (.Tuple [.Constant (.str w1) j5 v8, .Attribute (.Name h s9) fl z1] i3 z2) (.Tuple [.Constant (.str w2) j7 s4, .Constant .none j8 s5] i2 s6) s7)) s8] (sKept mb cn fl zz0 zz1) := by
  subst ez0 ez1
  exact gss_kept K0 hs hf hN hl hh ht he hk lh lt le lk dh dt de dk eh et ek gi mi gf df g1 g2 d1 d2 gv mv hb sw5 sw
end
section
variable {X : Cx} {Wx : WX} {elt tg it : Expr} {ifs : List Expr} {scope : Scope} {own : List (Str × Nat)} {pos : Pos} {tt : Ev Bool} {te me : Ev W} {is : List Nat}
theorem gs_lcTu {i : Nat} {y : Str} {py spos : Pos} (B : Blk X scope own tg elt ifs (gTup X.K is.length (gNames is)) tt te) (ho : ∀ i ∈ is, i ∈ own.map (·.2)) (hc : X.calm = true) (hN : X.N.Nodup) (hy : X.N[i]? = some y) (hyl : X.env.scope.names.lookup y = some .local)
    (hsw : swapsWith (.ListComp elt [⟨tg, it, ifs, 0⟩] scope pos) (some (.Name y py)) spos.line X.env = pure true) (he : GE X Wx it me) (hf : ∀ x, foldedSetIterable it X.env x = pure x := by intro _; rfl) :
    GS X Wx (.Assign [.Name y py] (.ListComp elt [⟨tg, it, ifs, 0⟩] scope pos) spos) (sSet i (mLcTu (own.map (·.2)) is me tt te)) :=
  PSimp (ps_setLc hc hN hy hyl hsw (pi_tup he) B.ok B.hg B.ht B.he hf) fun D σ H h => lcTu_of ho (lc_set h)
end
/-! ### facts of own errors from what the base says -/
section
variable {K : PySem.W.Frag} {C A D FAR : Addr} {cd cdF cdA : ClassData}
theorem super_in {n : Str} {r : Option (Option Value)} (h1 : PySem.W.clsIn K C = some cd) (h2 : PySem.W.clsIn K FAR = some cdF) (h3 : (cd.mro.dropWhile (· != .ref C)).drop 1 = cdF.mro) (h4 : PySem.W.findIn K (.ref FAR) n = r) : PySem.W.ks_superIn K C C n = r := by
  unfold PySem.W.ks_superIn
  rw [h1, Option.bind_some, h3, ← h4]
  unfold PySem.W.clsIn at h2
  unfold PySem.W.findIn
  dsimp only
  cases e : K.lookup FAR with
  | none =>
    rw [e] at h2
    cases h2
  | some o =>
    rw [e] at h2
    obtain ⟨c, d, da, sl⟩ := o
    cases da with
    | cls z =>
      cases h2
      rfl
    | _ => cases h2
theorem cls_of {nm q nw : Str} {N : Addr} {bs bm : List Value} {hdct : Bool} {sn : List Str} {sub : List Value} {ab : Bool} {col : Option Bool} {dd : Option Addr} {k0 k1 k2 k3 k5 : Option Value} {w : String}
    (h : K.lookup C = some (excClassObj nm q C N bs bm hdct sn sub ab col dd k0 k1 k2 k3 k5 w)) : ∃ dcl dd cdD dsl, K.lookup C = some ⟨dcl, dd, .cls cdD, dsl⟩ := ⟨_, _, _, _, h⟩
theorem exm_of (h1 : PySem.W.subIn K (.ref FAR) (.type "BaseException") = some true) (h2 : PySem.W.clsIn K FAR = some cdF) (h3 : PySem.W.typeIn K (.ref FAR) = some (.type "type")) (h4 : PySem.W.subIn K (.ref C) (.ref FAR) = some true) : PySem.W.exmOne K (.ref C) (.ref FAR) = some true := by
  unfold PySem.W.exmOne
  rw [h1, if_pos (by decide)]
  unfold PySem.W.kitCls
  dsimp only
  rw [h2, h3]
  refine (if_pos ?_).trans h4
  simp
theorem kit_self : PySem.W.kitOne K (.ref C) (.ref C) = some true := by
  unfold PySem.W.kitOne
  rw [if_pos (by simp)]
theorem kit_ref {b : Bool} (h0 : (Value.ref C == Value.ref A) = false) (h2 : PySem.W.clsIn K A = some cdA) (h3 : PySem.W.typeIn K (.ref A) = some (.type "type")) (h4 : PySem.W.subIn K (.ref C) (.ref A) = some b) : PySem.W.kitOne K (.ref C) (.ref A) = some b := by
  unfold PySem.W.kitOne
  rw [if_neg (by rw [h0]; exact Bool.false_ne_true)]
  unfold PySem.W.kitCls
  dsimp only
  rw [h2, h3]
  refine (if_pos ?_).trans h4
  simp
theorem kit_ty {T : String} {b : Bool} (h0 : (Value.ref C == Value.type T) = false) (h2 : PySem.W.kitMeta T = true) (h4 : PySem.W.subIn K (.ref C) (.type T) = some b) : PySem.W.kitOne K (.ref C) (.type T) = some b := by
  unfold PySem.W.kitOne
  rw [if_neg (by rw [h0]; exact Bool.false_ne_true)]
  unfold PySem.W.kitCls
  dsimp only
  rw [if_pos h2, h4]
end
end Mi

namespace Mi
open PySem PySem.Spec PyProof.Rows L2
variable [ClsMap]
section
variable {P : Program} {w : World} {K : PySem.W.Frag} {mg mb : Str → Option Value} {k : Nat} {fa a : Addr} {fd : FuncData} {x : Str} {s₁ : Shared} {vs : List Value} {ns : List Int} {m : List W → Store → Res W}
/-- from an abstract heap in which the script alone may be tracked -/
theorem law_core2 (KX : K.In s₁.heap) (hns : s₁.heap.Ns mainGlobals mg) (hb : s₁.heap.Ns builtinsNs mb) (hbb : ∀ x : Str, x ≠ "__name__" → mb x = bootBuiltins x) (hsm : ∃ mm, s₁.heap.Ns sysModules mm) (hlim : s₁.heap.NoLimit) (hg : s₁.gens = #[])
    (ha : s₁.heap.get? a = some { cls := .type "list", data := .seq vs.toArray }) (hr : Room k callerA) (ht0 : ClsMap.tabs = []) (F : ∀ base : Heap, K.In base → base.Ns mainGlobals mg → SmB base → FnG P w K mg base k fa fd [x] m)
    (hbind : ∀ (s : Shared) (u : Value), BindsTo s fd ⟨[u], []⟩ [(x, u)]) {st' : Store} (hm : m [.frz (ns.map W.int)] [] = .ok (.bl true) st')
    (H : Hp) (only : Only H) (hS : FrzAt K ⟨fun _ => a, 0, H, []⟩ a (ns.map V.int)) (hok : HOk P w H s₁.heap) (hA : ∀ b, H b ≠ none → b = a) (hK : H a ≠ none → K.lookup a = none) :
    codeAny (model P w) callerA (.call (.ref fa) ⟨[.ref a], []⟩) (fun r s' => r = .ok (.ret (.bool true)) ∧ OldK s₁.heap s'.heap ∧ s'.os = s₁.os ∧ AllBare s'.gens) s₁ := by
  let B := hidT s₁.heap H
  have inB : ∀ {b : Addr} {o : Obj}, s₁.heap.get? b = some o → H b = none → B.get? b = some o := fun e n => hidT_get e n
  have dicts : ∀ {b : Addr} {o : Obj} {es : Array DictEntry} {ep : Nat}, s₁.heap.get? b = some o → o.data = .dict es ep → H b = none := by
    intro b o es ep e d
    cases q : H b with
    | none => rfl
    | some u =>
      have eb := hA b (by rw [q]; exact fun z => nomatch z)
      rw [eb, ha] at e
      cases e
      cases (show Data.seq vs.toArray _ = Data.dict es ep from d)
  have nsB : ∀ {b : Addr} {f : Str → Option Value}, s₁.heap.Ns b f → B.Ns b f := fun ⟨o, es, ep, e, d, r⟩ => ⟨o, es, ep, inB e (dicts e d), d, r⟩
  have KB : K.In B := fun b o e => inB (KX b o e) (by
    cases q : H b with
    | none => rfl
    | some u =>
      exfalso
      have eb := hA b (by rw [q]; exact fun z => nomatch z)
      rw [eb, hK (by rw [← eb, q]; exact fun z => nomatch z)] at e
      cases e)
  obtain ⟨mc, hc1, hc2⟩ := hlim
  have smB : SmB B := by
    obtain ⟨mm, o, es, ep, e, d, _⟩ := hsm
    exact ⟨o, inB e (dicts e d)⟩
  have e0 : Env0 P w K mg B callerA [] s₁ H :=
    ⟨rfl, ⟨KB, nsB hns, ⟨mb, nsB hb, hbb⟩, mc, nsB hc1, hc2⟩, fun b o e => of_hidT e, Nat.le_of_eq (hidT_size _ _), trivial, fun b z => (nomatch z), hok, .of_eq hg⟩
  have tab0 : TabI [] H := by
    refine ⟨fun p hp => ?_, fun b ps e => ?_⟩
    · rw [ht0] at hp
      cases hp
    · rcases only b with z | ⟨ob, xs, z⟩
      · rw [e] at z
        cases z
      · rw [e] at z
        cases z
  have S0 : SR K ⟨fun _ => a, 0, H, []⟩ [] := ⟨tab0, rfl, fun i j h => absurd h (Nat.not_lt_zero _), fun i o e => by simp at e, fun b z => (nomatch z)⟩
  refine codeAny_mono ((F B KB (nsB hns) smB).run callerA [] s₁ H ⟨[.ref a], []⟩ [.ref a] [.ref a] [.frz (ns.map W.int)] ⟨fun _ => a, 0, H, []⟩ [] (fun v H' => v = .bl true) (fun _ _ _ => False)
    hr rfl e0 (hbind s₁ (.ref a)) (.cons rfl .nil) rfl rfl S0 ⟨.ref a, [], rfl, ⟨a, ns.map V.int, rfl, hS, frz_ints ns⟩, rfl⟩ ?_) fun r s' z => ?_
  · rw [hm]
    exact fun q v _ _ r => r
  · cases r with
    | error e =>
      obtain ⟨_, _, _, _, _, _, _, _, _, _, _, _, z⟩ := z
      exact z.elim
    | ok fl =>
      cases fl with
      | next => exact z.elim
      | brk => exact z.elim
      | cont => exact z.elim
      | ret u =>
        obtain ⟨v, H', os, bare, un, hok', r', q⟩ := z
        have q' : v = .bl true := q
        subst q'
        have eu : u = Value.bool true := r'
        subst eu
        refine ⟨rfl, OldK.of_keep fun b o e => ?_, os, bare⟩
        cases q : H b with
        | none => exact un.keep b o e q (fun z => nomatch z) (fun z => nomatch z)
        | some t =>
          rcases only b with z | ⟨ob, xs, z⟩
          · rw [q] at z
            cases z
          · obtain ⟨e1, _⟩ := hok b _ z
            obtain ⟨e2, _⟩ := hok' b _ (un.frzs b ob _ z)
            rw [e] at e1
            cases e1
            exact e2
theorem law_G2 (KX : K.In s₁.heap) (hns : s₁.heap.Ns mainGlobals mg) (hb : s₁.heap.Ns builtinsNs mb) (hbb : ∀ x : Str, x ≠ "__name__" → mb x = bootBuiltins x) (hsm : ∃ mm, s₁.heap.Ns sysModules mm) (hlim : s₁.heap.NoLimit) (hg : s₁.gens = #[])
    (ha : s₁.heap.get? a = some { cls := .type "list", data := .seq vs.toArray }) (hi : IntsAre vs ns) (hl : ns.length ≤ sizeLine) (hr : Room k callerA) (ht0 : ClsMap.tabs = []) (F : ∀ base : Heap, K.In base → base.Ns mainGlobals mg → SmB base → FnG P w K mg base k fa fd [x] m)
    (hbind : ∀ (s : Shared) (u : Value), BindsTo s fd ⟨[u], []⟩ [(x, u)]) {st' : Store} (hm : m [.frz (ns.map W.int)] [] = .ok (.bl true) st') :
    codeAny (model P w) callerA (.call (.ref fa) ⟨[.ref a], []⟩) (fun r s' => r = .ok (.ret (.bool true)) ∧ OldK s₁.heap s'.heap ∧ s'.os = s₁.os ∧ AllBare s'.gens) s₁ := by
  have rv := vals_ints hi
  have out : (Wh.mk (fun _ => a) 0 (fun b => if b = a then some (.frz { cls := .type "list", data := .seq vs.toArray } (.lst (ns.map V.int))) else none) []).out a := ⟨fun i h => absurd h (Nat.not_lt_zero _), fun z => nomatch z⟩
  cases hk : K.lookup a with
  | some o =>
    have e := KX a o hk
    rw [ha] at e
    cases e
    refine law_core2 KX hns hb hbb hsm hlim hg ha hr ht0 F hbind hm (fun _ => none) (fun _ => .inl rfl) (.inr (.inr ⟨_, vs.toArray, _, hk, rfl, rfl, rfl, ?_, by simpa using rv⟩)) (fun b u z => nomatch (show (none : Option HO) = some u from z)) (fun b z => absurd rfl z) fun z => absurd rfl z
    rw [List.size_toArray, hi.length]
    exact hl
  | none =>
    refine law_core2 KX hns hb hbb hsm hlim hg ha hr ht0 F hbind hm (fun b => if b = a then some (.frz { cls := .type "list", data := .seq vs.toArray } (.lst (ns.map V.int))) else none)
      (fun b => ?_) (.inl ⟨.inr ⟨{ cls := .type "list", data := .seq vs.toArray }, if_pos rfl⟩, out⟩) (fun b u z => ?_) (fun b z => ?_) fun _ => hk
    · by_cases h : b = a
      · exact .inr ⟨_, _, if_pos h⟩
      · exact .inl (if_neg h)
    · by_cases h : b = a
      · have z' := (if_pos h).symm.trans z
        cases z'
        subst h
        exact ⟨ha, by rw [List.length_map]; exact hl, vs, _, rv, ha⟩
      · have z' := (if_neg h).symm.trans z
        cases z'
    · by_cases h : b = a
      · exact h
      · exact absurd (if_neg h) z
end
/-- the goal that k_head leaves -/
theorem walkG2 {l : PySem.W.OpenLaw} {n k : Nat} {q : Program} {loose : List Str} {XP : (Str → Option Value) → Heap → Prop} {YP : World → Heap → Prop} {d : DefRec} {K : Params → PySem.W.Frag} {x : Str} {m : List W → Store → Res W}
    (himp : importsNone q = true) (hn : l.most = some n) (hn2 : n ≤ sizeLine) (hdf : d.params.defaults = []) (hr : Room k callerA) (hY : ∀ (w : World) (h : Heap), YP w h → (K w.params).In h)
    (F : ∀ (w : World) (mg : Str → Option Value) (fa : Addr) (h : Heap), (K w.params).In h → h.Ns mainGlobals mg → mg d.name = some (.ref fa) →
      ∃ fd : FuncData, (∀ (s : Shared) (u : Value), BindsTo s fd ⟨[u], []⟩ [(x, u)]) ∧ ∀ base : Heap, (K w.params).In base → base.Ns mainGlobals mg → SmB base → FnG l.prog w (K w.params) mg base k fa fd [x] m)
    (hm : ∀ ns : List Int, ns.length ≤ n → ∃ st', m [.frz (ns.map W.int)] [] = .ok (.bl true) st') (ht0 : ClsMap.tabs = [] := by rfl) : PySem.W.WalkO q loose XP YP l.row.toRowW d [] (fun f vs => PySem.call f vs) := by
  refine Att.attach_call hn hdf fun w s₀ s₁ mg mb fa o pm cd doc a vs ns G Y ho hd hcd hmg hobj hints hlen hg => ?_
  have KX := hY w _ Y
  obtain ⟨fd, hb, hF⟩ := F w mg fa _ KX G.T.g hmg
  obtain ⟨st', e⟩ := hm ns hlen
  exact law_G2 KX G.T.g G.T.b G.T.builtins (let ⟨mm, z, _⟩ := (G.T.seer himp).mods; ⟨mm, z⟩) G.T.nolimit hg hobj hints (Nat.le_trans hlen hn2) hr ht0 hF hb e
end Mi

namespace Mi
open PySem PySem.Spec PyProof.Rows L2
variable [ClsMap]
/-! ### defs that keep to their mirrors under any guards -/
structure FnN (P : Program) (w : World) (K : PySem.W.Frag) (mg : Str → Option Value) (base : Heap) (k : Nat) (f : Addr) (fd : FuncData) (ps : List Str) (m : List W → Store → Res W) : Prop where
  len : ∀ ws st, ws.length ≠ ps.length → m ws st = .bad
  run : ∀ (A : Around) (outer : List Env) (s : Shared) (H : Hp) (args : Args) (us : List Value) (vs : List V) (ws : List W) (p : Wh) (st : Store) (Q : VK) (E : XK),
    Room k A → Env0 P w K mg base A outer s H → BindsTo s fd args (ps.zip us) → Vals vs us → us.length = ps.length → p.H = H → SR K p st → RWs K p ws vs →
    Fin K mg (RW K) (WxE E) p [] Q (m ws st) → codeAny (model P w) A (.call (.ref f) args) (CR (L2.CX P w) outer P w H s Q E) s
theorem FnN.mono {P : Program} {w : World} {K : PySem.W.Frag} {mg : Str → Option Value} {base : Heap} {j k : Nat} {f : Addr} {fd : FuncData} {ps : List Str} {m : List W → Store → Res W} (F : FnN P w K mg base j f fd ps m) (h : j ≤ k) : FnN P w K mg base k f fd ps m :=
  ⟨F.len, fun A o s H a us vs ws p st Q E r => F.run A o s H a us vs ws p st Q E (r.mono h)⟩

section
variable {P : Program} {w : World} {K : PySem.W.Frag} {mg : Str → Option Value} {base : Heap}
theorem fnN_ofL {x qual : Str} {st : Stmt} {f : Addr} {oc dV kV doc pm cdv ct : Value} {od an : Option Addr} {osl : Array (Option Value)} {N ps : List Str} {k : Nat} {body : Sm}
    (lk : K.lookup f = some ⟨oc, od, .func (PySem.W.fnOf x qual (defArgs st) (defBody st) (defScope st) dV kV doc pm an cdv ct), osl⟩) (hcd : PySem.W.codeIn K cdv qual = true) (S : FnScope N ps (defScope st))
    (hb : ∀ (cdv : Value) (A : Around) (outer : List Env) (s : Shared) (H : Hp) (E : XK), Room k (A.deeper (envOfC qual (defScope st) s.heap.objs.size f cdv)) →
      GSs (cxOf (L2.CX P w) P w K mg base N qual (defScope st) f cdv A outer s H E) (WxE E) (defBody st) body) : FnN P w K mg base (k + 1) f (PySem.W.fnOf x qual (defArgs st) (defBody st) (defScope st) dV kV doc pm an cdv ct) ps (fnM ps.length N.length body) := by
  refine ⟨fun ws st h => if_neg h, fun A outer s H args us vs ws p sto Q E hr e0 hbd rv hlen hp S0 rw0 hfin => ?_⟩
  subst hp
  have inK : K.In s.heap := e0.mod.kin.keeps fun b o z => (e0.bs b o z).1
  have noL : s.heap.NoLimit := e0.mod.nolimit.keeps fun b o z => (e0.bs b o z).1
  have hlv : vs.length = ps.length := by rw [rv.length, hlen]
  have kinds : ∀ y ∈ ps.zip us, (defScope st).names.lookup y.1 = some .local ∨
      ((defScope st).names.lookup y.1 = some .cell ∧ ((cellsFrom (s.heap.objs.size + 1) (defScope st).names []).lookup y.1).isSome = true) := by
    rintro ⟨n, v⟩ hy
    have z := S.par n (List.of_mem_zip hy).1
    exact z.imp (fun a => a) fun a => ⟨a, PySem.W.cellsFrom_some _ _ _ (.inl a)⟩
  refine codeAny_call_function hr.depth (inK _ _ lk) rfl S.co S.gen rfl
    (PySem.W.codeRec_of inK hcd) (hbd _ _ _ _ ?_)
  refine wpAny_newFunctionEnv_cells S.kind kinds
    fun env he s1 ic => ?_
  subst he
  refine ⟨noL.keeps ic.toInCall.keep, codeAny_func ?_⟩
  have I0 := inv_start (CX := L2.CX P w) (E := E) (outer := outer) (base := base) (mg := mg) S hr.hd e0 hlv rv ic
  have G := hb cdv A outer s p.H E (hr.deeper _)
  have rd : tS K mg (WxE E) body { nx := fun _ H' => Q .non H', rt := Q } (L2.start N vs) p.H := by
    have hw : ws.length = ps.length := by rw [rw0.length, hlv]
    refine ⟨p, sto, _, rfl, S0, env_start (N := N) rw0, ?_⟩
    unfold fnM at hfin
    rw [if_pos hw] at hfin
    rw [hw]
    revert hfin
    cases body (ws.map some ++ List.replicate (N.length - ps.length) none) sto with
    | bad => exact fun z => z
    | go fl s2 =>
      cases fl with
      | nx e => exact fun z q σ t s' _ => z q .non t s' rfl
      | rt w => exact fun z => z
      | bk e => exact fun z => z.elim
      | ct e => exact fun z => z.elim
      | ex x e => exact fun z q σ c d t s' _ xr => z q c d t s' xr
  refine wpAny_mono (G.run [] s1 (L2.start N vs) p.H _ I0 rd) (fun fl s' hs => ?_) fun e s' hs => hs
  have fin : ∀ {σ' : L2.St} {H' : Hp} {v : V} {u : Value}, Inv (cxOf (L2.CX P w) P w K mg base N qual (defScope st) f cdv A outer s p.H E) [] σ' H' s' →
      RelV v u → Q v H' → CE outer P w p.H s Q u s' := fun {σ' H' v u} J rv q => ⟨v, H', J.os, J.bare, J.base, J.hok, rv, q⟩
  cases fl with
  | ret u =>
    obtain ⟨v, σ', H', J, rv, q⟩ := hs
    exact fin J rv q
  | next =>
    obtain ⟨σ', H', J, q⟩ := hs
    exact fin (v := V.non) (u := Value.none) J rfl q
  | brk =>
    obtain ⟨_, _, _, z⟩ := hs
    exact z.elim
  | cont =>
    obtain ⟨_, _, _, z⟩ := hs
    exact z.elim
theorem fnN_of {x qual : Str} {st : Stmt} {f : Addr} {fd : FuncData} {N ps : List Str} {k : Nat} {body : Sm} (F : Fun K x qual st f fd) (S : FnScope N ps (defScope st))
    (hb : ∀ (cdv : Value) (A : Around) (outer : List Env) (s : Shared) (H : Hp) (E : XK), Room k (A.deeper (envOfC qual (defScope st) s.heap.objs.size f cdv)) →
      GSs (cxOf (L2.CX P w) P w K mg base N qual (defScope st) f cdv A outer s H E) (WxE E) (defBody st) body) : FnN P w K mg base (k + 1) f fd ps (fnM ps.length N.length body) := by
  obtain ⟨oc, od, kV, doc, pm, an, cdv, ct, osl, rfl, lk, hcd⟩ := F.ex
  exact fnN_ofL lk hcd S hb
theorem fnN_bad {f : Addr} {fd : FuncData} {ps : List Str} {k : Nat} : FnN P w K mg base k f fd ps (fun _ _ => .bad) := ⟨fun _ _ _ => rfl, by intros; rename_i h; exact h.elim⟩
end

section
variable {X : Cx} {Wx : WX} {k : Nat} {f : Addr} {fd : FuncData} {ps ks : List Str} {m : List W → Store → Res W} {x : Str} {p pos : Pos} {e : Expr} {es : List Expr} {ml : Ev (List W)} {kws : List Keyword}
/-- the callee runs -/
theorem run_N {pins : List (Addr × Obj)} {σ : L2.St} {H : Hp} {s : Shared} {Q : VK} {us us' : List Value} {kw : List (Str × Value)} {vs : List V} {ws : List W} {q : Wh} {st : Store} (F : FnN X.prog X.w X.K X.mg X.base k f fd ps m) (hr : Room k X.A) (tk : Takes X Wx)
    (hb : BindsTo s fd ⟨us', kw⟩ (ps.zip us)) (hl : us.length = ps.length) (I : Inv X pins σ H s) (r : Vals vs us) (hq : q.H = H) (S : SR X.K q st) (rs : RWs X.K q ws vs) (h : Fin X.K X.mg (RW X.K) Wx q σ Q (m ws st)) :
    wpAny (model X.prog X.w) X.A (call (.ref f) us' kw) (EP X pins σ Q) X.xe s := by
  have h' : Fin X.K X.mg (RW X.K) (WxE fun c d H' => Wx c d σ H') q [] Q (m ws st) := by
    revert h
    cases m ws st with
    | ok w s1 => exact fun z => z
    | exc x s1 => exact fun z => z
    | bad => exact fun z => z
  have c := F.run X.A X.stack s H ⟨us', kw⟩ us vs ws q st Q _ hr I.env0 hb r hl hq S rs h'
  refine wpAny_call (codeAny_mono c fun res s' z => ?_)
  cases res with
  | error u => exact tk u s' (XE.of_call I (fun _ _ _ w => w) z)
  | ok fl =>
    cases fl with
    | ret u => exact I.after z
    | next => exact z.elim
    | brk => exact z.elim
    | cont => exact z.elim
theorem len_ofN {q : Wh} {σ : L2.St} {Q : VK} {ws : List W} {st : Store} (F : FnN X.prog X.w X.K X.mg X.base k f fd ps m) (h : Fin X.K X.mg (RW X.K) Wx q σ Q (m ws st)) : ws.length = ps.length := by
  by_cases z : ws.length = ps.length
  · exact z
  · rw [F.len ws st z] at h
    exact h.elim
/-- f(e, ..) -/
theorem ge_callN (F : FnN X.prog X.w X.K X.mg X.base k f fd ps m) (hr : Room k X.A) (tk : Takes X Wx) (gl : Gl X x) (hm : X.mg x = some (.ref f)) (kp : PySem.W.keepIn X.K (.ref f) = true) (hb : Binds X.K fd ps [])
    (ha : GA X Wx (e :: es) ml) (hdb : (x == ("__debug__" : Str)) = false := by decide) (he : starEach (e :: es) X.env = (false, eval e X.env) :: starEach es X.env := by rfl) (hpl : (backTo pos (starEach es X.env)).any (·.1) = false := by rfl) :
    GE X Wx (.Call (.Name x p) (e :: es) [] pos) (mCall m ml) := by
  refine ⟨fun pins s σ H Q I ⟨q0, st, env, hp, S, E, h⟩ => ?_⟩
  refine wpAny_Call_Name_kw (ld_glob I gl hm ?_ hdb)
  have t := tG_bind (R := RWs X.K) (Q := fun vs H' => ∃ (q : Wh) (ws : List W) (s1 : Store), q.H = H' ∧ SR X.K q s1 ∧ RWs X.K q ws vs ∧ Fin X.K X.mg (RW X.K) Wx q σ Q (m ws s1)) hp S E h
    fun q s1 ws vs t S1 E1 r h1 => ⟨q, ws, s1, rfl, S1, r, h1⟩
  refine PySem.W.callWith_K (h₀ := X.base) I.ok.mod.kin kp
    (thn (ha.run pos pins s σ H _ I t) fun us s1 ⟨vs, H1, I1, r, z⟩ => ⟨I1.kIn, ?_⟩) he hpl
  obtain ⟨q, ws, s2, eH, S1, rw1, h1⟩ := z
  have hl : us.length = ps.length := by rw [← r.length, ← rw1.length, len_ofN F h1]
  have b := hb s1 us I1.kIn (by rw [List.append_nil]; exact hl)
  rw [List.append_nil] at b
  exact run_N F hr tk b hl I1 r eH S1 rw1 h1
theorem FnN.G {P : Program} {w : World} {K : PySem.W.Frag} {mg : Str → Option Value} {base : Heap} {k : Nat} {f : Addr} {fd : FuncData} {ps : List Str} {m : List W → Store → Res W} (F : FnN P w K mg base k f fd ps m) : FnG P w K mg base k f fd ps m :=
  ⟨F.len, fun A o s H a us vs ws p st Q E r _ => F.run A o s H a us vs ws p st Q E r⟩
end
end Mi

namespace Mi
open PySem PySem.Spec PyProof.Rows L2 LamX
variable [ClsMap]
/-! ### a lambda handed to a def that tells which error came -/
/-- what is tracked where a lambda was made -/
def LamT (T : Addr) (q : Str) (G G1 : Hp) : Prop := G1 = G ∨ ∃ (d : Addr) (as bs : Array Value), G d = none ∧ G T = some (.tbl as) ∧ G1 = upd (upd G T (.tbl bs)) d (CodeO d q)
structure TabD (mg : Str → Option Value) (base : Heap) (c T : Addr) (q : Str) : Prop where
  mem : (T, q) ∈ ClsMap.tabs
  one : ∀ t ∈ ClsMap.tabs, t.1 = T → t.2 = q
  tb : TabB base mg c T
section
variable {K : PySem.W.Frag} {p : Wh} {st : Store} {T : Addr} {q : Str} {G1 : Hp}
theorem LamT.facts (hm : (T, q) ∈ ClsMap.tabs) (ho : ∀ t ∈ ClsMap.tabs, t.1 = T → t.2 = q) (S : SR K p st) (L : LamT T q p.H G1) (hT : TabS G1 T q) : SR K { p with H := G1 } st ∧ Step p { p with H := G1 } := by
  rcases L with e | ⟨d, as, bs, hd, hP, e⟩
  · subst e
    exact ⟨S, Step.refl S⟩
  · have inx : T ∈ p.x := S.tab.2 T as hP
    have nTd : T ≠ d := ne_of_none hP hd
    have oth : ∀ b, b ≠ T → b ≠ d → G1 b = p.H b := fun b h1 h2 => by rw [e, upd_ne h2, upd_ne h1]
    have atT : G1 T = some (.tbl bs) := by rw [e, upd_ne nTd, upd_same]
    have atd : G1 d = some (CodeO d q) := by rw [e, upd_same]
    have he : ∀ b u, p.H b = some u → b ≠ T → G1 b = some u := fun b u z n => by
      rw [oth b n (ne_of_none z hd)]
      exact z
    have notT : ∀ b u, p.H b = some u → (∀ ps, u ≠ .tbl ps) → b ≠ T := fun b u z n e2 => by
      rw [e2, hP] at z
      exact n as (Option.some.inj z).symm
    have hn : ∀ b, p.H b ≠ none → G1 b ≠ none := fun b z => by
      by_cases h1 : b = T
      · rw [h1, atT]
        exact fun z => nomatch z
      · cases e2 : p.H b with
        | none => exact absurd e2 z
        | some u =>
          rw [he b u e2 h1]
          exact fun z => nomatch z
    have t : Step p { p with H := G1 } := by
      refine ⟨⟨Nat.le_refl _, fun _ _ => rfl, fun b u z o => he b u z fun e2 => o.2 (by rw [e2]; exact inx), fun i h1 h2 => absurd h2 (Nat.not_lt.mpr h1), fun i hi => hn _ (S.there i hi), fun b z => .inl z, fun b z => hn b (S.hid b z).1⟩, rfl, fun b z n => ?_⟩
      cases e2 : p.H b with
      | none => exact absurd e2 (S.hid b z).1
      | some u => exact he b u e2 (notT b u e2 fun ps e3 => n ps (by rw [e2, e3]))
    refine ⟨⟨⟨fun t ht => ?_, fun b ps z => ?_⟩, S.len, S.inj, fun i u z => ?_, fun b z => ⟨hn b (S.hid b z).1, (S.hid b z).2⟩⟩, t⟩
    · by_cases h1 : t.1 = T
      · rw [h1, ho t ht h1]
        exact hT
      · obtain ⟨ps, a1, a2, a3⟩ := S.tab.1 t ht
        refine ⟨ps, he _ _ a1 h1, a2, fun pos cv hc => ?_⟩
        obtain ⟨c0, e1, e2⟩ := a3 pos cv hc
        exact ⟨c0, e1, he _ _ e2 (notT _ _ e2 codeO_ne)⟩
    · by_cases h1 : b = T
      · rw [h1]
        exact inx
      · by_cases h2 : b = d
        · have z : G1 b = some (.tbl ps) := z
          rw [h2, atd] at z
          exact absurd (Option.some.inj z) (codeO_ne ps)
        · have z : G1 b = some (.tbl ps) := z
          rw [oth b h1 h2] at z
          exact S.tab.2 b ps z
    · have hi : i < p.n := by
        rw [S.len]
        exact (List.getElem?_eq_some_iff.mp z).1
      have r := (S.obj i u z).step t
      show RO K _ u (G1 (p.ρ i))
      have n1 : p.ρ i ≠ T := fun e2 => (S.plainAt hi _ (by rw [e2]; exact hP)).1 as rfl
      have n2 : p.ρ i ≠ d := fun e2 => S.there i hi (by rw [e2]; exact hd)
      rw [oth _ n1 n2]
      exact r
end
section
variable {X : Cx} {pins : List (Addr × Obj)} {σ : L2.St} {G : Hp} {s : Shared}
/-- the making of a lambda -/
theorem lam_new {c T : Addr} {q : Str} {ars : Arguments} {be : Expr} {sc : Scope} {pos : Pos} {Z Q : Value → Shared → Prop}
    (I : Inv X pins σ G s) (TB : TabB X.base X.mg c T) (hcd : X.env.code = .ref c) (hq : X.env.qual ++ "<lambda>" = q) (hT : TabS G T q)
    (hd0 : defaultsOf ars X.env = ([], [])) (hfr : ∀ y ∈ sc.names, y.2 = .free → ∃ c, X.env.cells.lookup y.1 = some c)
    (h : ∀ (f d : Addr) (pm ctv : Value) (G1 : Hp) (s' : Shared), Inv X pins σ G1 s' → LamT T q G G1 → TabS G1 T q →
      s'.heap.get? f = some (PySem.W.kla_obj "<lambda>" (X.env.qual ++ "<lambda>") ars be sc (cloFrom X.env.cells sc.names []) pm d ctv) →
      G1 f = none → f ∉ frs X.stack → G1 d = some (CodeO d q) → Q (.ref f) s') :
    wpAny (model X.prog X.w) X.A (eval (.Lambda ars be sc pos) X.env) Q Z s := by
  subst hq
  obtain ⟨as, hP, ht, ha⟩ := hT
  refine PySem.W.kla_eval hd0 ?_
  have bT : s.heap.BuiltinsAt X.mg T := TB.bm.keeps I.bk
  have atT : s.heap.get? T = some { cls := .none, data := .fields as } := I.hok T _ hP
  have nofr : ∀ f, s.heap.objs.size ≤ f → f ∉ frs X.stack := fun f hf z => by
    rcases List.mem_cons.mp (I.stkSub _ z) with e | e
    · have lt := I.lt
      rw [← e] at lt
      exact absurd hf (Nat.not_le.mpr lt)
    · exact I.nofs hf e
  cases hc : codeAmong pos as.toList with
  | some cv =>
    obtain ⟨d, e, hco⟩ := ha pos cv hc
    subst e
    refine PySem.W.kla_makeFunctionHit (mg := X.mg) (c := c) (P := T) (ps := as)
      (closure_ok hfr) I.ok.glob (I.mod.glob.keeps I.bk) hcd (TB.code.keeps I.bk)
      atT ht hc bT fun ctv h' tk hx hsz => ?_
    have I1 := I.kept (h' := h'.push (PySem.W.kla_obj "<lambda>" (X.env.qual ++ "<lambda>") ars be sc (cloFrom X.env.cells sc.names []) ((X.mg "__name__").getD .none) d ctv)) (t' := tk) fun b o e => Heap.get?_push_of_some _ (hx b o e)
    exact h h'.objs.size d _ ctv G _ I1 (.inl rfl) ⟨as, hP, ht, ha⟩ (Heap.get?_push_size _ rfl) (I.hok.fresh hsz) (nofr _ hsz) hco
  | none =>
    refine PySem.W.kla_makeFunction (mg := X.mg) (c := c) (P := T) (ps := as)
      (closure_ok hfr) I.ok.glob (I.mod.glob.keeps I.bk) hcd (TB.code.keeps I.bk)
      atT ht hc TB.gP bT fun d ctv h' tk hx hge hlt hrec htb => ?_
    obtain ⟨d2, oc, vs, t, e2, hoc, hdt, hv⟩ := hrec
    cases e2
    have hsz := Nat.le_trans hge (Nat.le_of_lt hlt)
    have nD : G d = none := I.hok.fresh hge
    have I1 := inv_table (t' := tk) (more := #[rawInt pos.line, rawInt pos.col, .ref d])
      (h' := h'.push (PySem.W.kla_obj "<lambda>" (X.env.qual ++ "<lambda>") ars be sc (cloFrom X.env.cells sc.names []) ((X.mg "__name__").getD .none) d ctv)) I hP
      (fun b o hb e => Heap.get?_push_of_some _ (hx b o hb e)) (Heap.get?_push_of_some _ htb) hge ⟨oc, vs, t, Heap.get?_push_of_some _ hoc, hdt, hv⟩
    have eL : (as ++ #[rawInt pos.line, rawInt pos.col, .ref d]).toList = as.toList ++ [rawInt pos.line, rawInt pos.col, .ref d] := by simp
    have nT : T ≠ d := ne_of_none hP nD
    have tb1 : TabS (upd (upd G T (.tbl (as ++ #[rawInt pos.line, rawInt pos.col, .ref d]))) d (CodeO d (X.env.qual ++ "<lambda>"))) T (X.env.qual ++ "<lambda>") := by
      refine ⟨_, by rw [upd_ne nT, upd_same], by rw [eL]; exact PySem.TriplesOk_snoc _ _ _ _ ht, fun p' cv hcv => ?_⟩
      rw [eL] at hcv
      rcases among_app _ ht hcv with z | z
      · obtain ⟨c0, e1, e2⟩ := ha p' cv z
        refine ⟨c0, e1, ?_⟩
        rw [upd_ne (ne_of_none e2 nD), upd_ne fun z => codeO_ne as (Option.some.inj (e2.symm.trans (by rw [z]; exact hP)))]
        exact e2
      · exact ⟨d, z, upd_same⟩
    have n1 : h'.objs.size ≠ d := Nat.ne_of_gt hlt
    have n2 : h'.objs.size ≠ T := Nat.ne_of_gt (Nat.lt_of_lt_of_le (Heap.lt_size atT) hsz)
    refine h h'.objs.size d _ ctv _ _ I1 (.inr ⟨d, as, _, nD, hP, rfl⟩) tb1 (Heap.get?_push_size _ rfl) ?_ (nofr _ hsz) upd_same
    rw [upd_ne n1, upd_ne n2]
    exact I.hok.fresh hsz
end
/-! ### the mirror of it -/
def fCaught (c1 c2 fl w0 w2 w3 : Str) : Res W → Res W
  | .ok v st => .ok (.tup [.str w0, v]) st
  | .exc x st => match keptX c1 fl x with
    | some v => .ok (.tup [.str w2, v]) st
    | none => match keptX c2 fl x with
      | some v => .ok (.tup [.str w3, v]) st
      | none => .bad
  | .bad => .bad
def mLam (c1 c2 fl w0 w2 w3 : Str) (mb : Ev W) : Ev W := fun env st => fCaught c1 c2 fl w0 w2 w3 (mb env st)
section
variable {K : PySem.W.Frag} {mg : Str → Option Value} {c1 c2 far fl w0 w2 w3 w : Str} {A1 A2 FAR C : Addr} {q : Wh} {st : Store} {x : Xc} {v : W} {cls : Value} {d : Option Addr} {Q : VK}
theorem xr_kept (e : keptX c1 fl x = some v) (m1 : mg c1 = some (.ref C)) (r : XR K mg q x cls d) : cls = .ref C ∧ ∃ dx v', d = some dx ∧ q.H dx = some (.xd [(fl, v')]) ∧ RW K q v v' := by
  obtain ⟨ec, ea⟩ := keptX_of e
  obtain ⟨C', mC', ecls, dx, fs, ed, hd, hout, names, rs⟩ := r
  rw [ec, m1] at mC'
  cases mC'
  rw [ea] at names rs
  match fs, names, rs, hd with
  | [(f, v')], names, rs, hd =>
    obtain ⟨z, zs, ez, rz, _⟩ := rs
    have e1 : f = fl := by simpa using names
    have e3 : v' = z := by
      have := congrArg List.head? ez
      simpa using this
    subst e1 e3
    exact ⟨ecls, dx, v', ed, hd, rz⟩
theorem kept_end {dx : Addr} {b : Bool} {v' : V} (S : SR K q st) (hd : q.H dx = some (.xd [(fl, v')])) (rv : RW K q v v') (ew : (if b = true then w2 else w3) = w)
    (h : ∀ (p : Wh) (u : V), Step q p → SR K p st → RW K p (.tup [.str w, v]) u → Q u p.H) :
    ∀ a, q.H a = none → ∀ l, upd q.H a (exk a (.ref C) (some dx)) l = none → ∀ l2, upd (upd q.H a (exk a (.ref C) (some dx))) l (.lst [.bl b, .bl (!b)]) l2 = none →
      ∀ r, upd (upd (upd q.H a (exk a (.ref C) (some dx))) l (.lst [.bl b, .bl (!b)])) l2 (.lst [.str w2, .str w3]) r = none →
      Q (.ref r) (upd (upd (upd (upd q.H a (exk a (.ref C) (some dx))) l (.lst [.bl b, .bl (!b)])) l2 (.lst [.str w2, .str w3])) r (.tup [.str (if b = true then w2 else w3), v'])) := by
  intro a ha l hl l2 hl2 r hr
  rw [ew]
  have t1 := step_new (o := exk a (.ref C) (some dx)) S ha
  have S1 := sr_new (o := exk a (.ref C) (some dx)) S ha
  have t2 := step_new (o := .lst [.bl b, .bl (!b)]) S1 hl
  have S2 := sr_new (o := .lst [.bl b, .bl (!b)]) S1 hl
  have t3 := step_new (o := .lst [.str w2, .str w3]) S2 hl2
  have S3 := sr_new (o := .lst [.str w2, .str w3]) S2 hl2
  have t := (t1.trans t2).trans t3
  have n := new_tup S3 hr (xs := [.str w, v]) (vs := [.str w, v']) ⟨.str w, [v'], rfl, rfl, ⟨v', [], rfl, RW.step t v v' rv, rfl⟩⟩
  exact h _ (.ref r) (t.trans (step_new S3 hr)) (sr_new S3 hr) n
theorem kept_e {σ : L2.St} {Wx : WX} (M1 : KeptAt K mg c1 far c2 fl A1 FAR A2) (M2 : KeptAt K mg c2 far c1 fl A2 FAR A1) (S : SR K q st) (r : XR K mg q x cls d)
    (h : Fin K mg (RW K) Wx q σ Q (fCaught c1 c2 fl w0 w2 w3 (.exc x st))) : eCaught K FAR A1 A2 w2 w3 fl Q cls d q.H := by
  unfold fCaught at h
  dsimp only at h
  cases e : keptX c1 fl x with
  | some v =>
    rw [e] at h
    obtain ⟨rfl, dx, v', rfl, hd, rv⟩ := xr_kept e M1.mC r
    exact ⟨A1, dx, _, v', true, rfl, rfl, M1.em, M1.hE, M1.hX, M1.cl, M1.fl, hd, by simp [List.lookup], M1.k1, M1.k2, M1.k3, kept_end S hd rv rfl fun p u t S' z => h p u t S' z⟩
  | none =>
    rw [e] at h
    dsimp only at h
    cases e2 : keptX c2 fl x with
    | none =>
      rw [e2] at h
      exact h.elim
    | some v =>
      rw [e2] at h
      obtain ⟨rfl, dx, v', rfl, hd, rv⟩ := xr_kept e2 M2.mC r
      exact ⟨A2, dx, _, v', false, rfl, rfl, M2.em, M2.hE, M2.hX, M2.cl, M2.fl, hd, by simp [List.lookup], M2.k2, M2.k1, M2.k3, kept_end S hd rv rfl fun p u t S' z => h p u t S' z⟩
end
/-! ### the caught one's text: a, b = (x, y) of constants -/
def tCaughtU (K : PySem.W.Frag) (FAR A1 A2 : Addr) (w0 w2 w3 fl : Str) : (XK → Hp → VK → Prop) → Hp → VK → Prop := fun tl H Q => ∀ f p : Addr, H p = none → tl (eC K FAR A1 A2 w0 w2 w3 fl Q) (upd H p (.tup [.non, .non])) (qC K A1 A2 w0 w2 w3 fl Q f)
section
variable {X : Cx} {x q a h t e k far c1 c2 w0 w1 w2 w3 fl : Str} {sg : Scope} {g FAR A1 A2 : Addr} {cdg : Value} {q1 q2 q3 q4 q5 q6 q7 q8 q9 r1 r2 r3 r4 r5 r6 r7 r8 r9 u1 u2 u3 u4 u5 u6 u7 u8 u9 v1 v2 v3 v4 v5 v6 v7 v8 v9 : Pos} {s1 s2 s3 s4 s5 s6 s7 s8 s9 z1 z2 z3 y1 y2 y3 y4 y5 y6 y7 y8 y9 x1 x2 x3 x4 x5 x6 x7 x8 x9 : Pos} {i1 i2 i3 j1 j2 j3 j4 j5 j6 j7 j8 j9 n1 n2 n3 n4 : Nat}
theorem caught_givesU (nd : [a, h, t, e, k].Nodup) (lh : sg.names.lookup h = some .local) (lt : sg.names.lookup t = some .local) (le : sg.names.lookup e = some .local) (lk : sg.names.lookup k = some .local)
    (dh : (h == ("__debug__" : Str)) = false) (dt : (t == ("__debug__" : Str)) = false) (de : (e == ("__debug__" : Str)) = false) (dk : (k == ("__debug__" : Str)) = false) (eh : (h == ("__classdict__" : Str)) = false) (et : (t == ("__classdict__" : Str)) = false) (ek : (k == ("__classdict__" : Str)) = false)
    (gi : sg.names.lookup ("isinstance" : Str) = some .globalImplicit) (mi : X.mg "isinstance" = none) (g1 : sg.names.lookup c1 = some .globalImplicit) (m1 : X.mg c1 = some (.ref A1)) (g2 : sg.names.lookup c2 = some .globalImplicit) (m2 : X.mg c2 = some (.ref A2))
    (gf : sg.names.lookup far = some .globalImplicit) (mf : X.mg far = some (.ref FAR)) (df : (far == ("__debug__" : Str)) = false)
    (d1 : (c1 == ("__debug__" : Str)) = false) (d2 : (c2 == ("__debug__" : Str)) = false) (gv : sg.names.lookup ("ValueError" : Str) = some .globalImplicit) (mv : X.mg "ValueError" = none)
    (l1 : (u3.endLine == u5.line) = true) (l2 : (v3.endLine == v5.line) = true)
    (sw : ∀ L, swapsWith (.List [.Call (.Name "isinstance" r1) [.Name h r2, .Name c1 r3] [] r4, .Call (.Name "isinstance" r5) [.Name h r6, .Name c2 r7] [] r8] r9) (some (.Name k q9)) u1.line (envOfC x sg L g cdg) = pure false)
    (sw2 : ∀ L, swappedStores [.Tuple [.Name h x1, .Name t x2] n1 x3] (.Tuple [.Constant .none n2 x4, .Constant .none n3 x5] n4 x6) (envOfC x sg L g cdg) = pure none)
    (sw3 : ∀ L, swapsWithSole [.Tuple [.Name h x1, .Name t x2] n1 x3] (.Tuple [.Constant .none n2 x4, .Constant .none n3 x5] n4 x6) x7.line (envOfC x sg L g cdg) = pure false)
    (sw4 : ∀ L, swapsWith (.Call (.Name a y1) [] [] y2) (some (.Name t y3)) y4.line (envOfC x sg L g cdg) = pure false)
    (sw5 : ∀ L, swapsWith (.Name e y5) (some (.Name h y6)) y7.line (envOfC x sg L g cdg) = pure false) :
    GivesTo X [a, h, t, e, k] x sg g cdg [
      .Assign [.Tuple [.Name h x1, .Name t x2] n1 x3] (.Tuple [.Constant .none n2 x4, .Constant .none n3 x5] n4 x6) x7,
      .Try [.Assign [.Name t y3] (.Call (.Name a y1) [] [] y2) y4] [.ExceptHandler (some (.Name far y8)) (some e) [.Assign [.Name h y6] (.Name e y5) y7] y9] [] [] x8,
      .If (.Compare (.Name h q1) [.Is] [.Constant .none j1 q2] q3) [.Return (some (.Tuple [.Constant (.str w0) j2 q4, .Name t q5] i1 q6)) q7] [] q8,
      .Assign [.Name k q9] (.List [.Call (.Name "isinstance" r1) [.Name h r2, .Name c1 r3] [] r4, .Call (.Name "isinstance" r5) [.Name h r6, .Name c2 r7] [] r8] r9) u1,
      .If (.BoolOp .Or [.Compare (.Call (.Attribute (.Name k u2) "count" u3) [.Constant (.bool true) j3 u4] [] u5) [.NotEq] [.Constant (.int 1) j4 u6] u7, .UnaryOp .Not (.Call (.Name "isinstance" u8) [.Name h u9, .Name "ValueError" v1] [] v2) v6] v7)
        [.Return (some (.Tuple [.Constant (.str w1) j5 v8, .Constant .none j6 v9] i2 s1)) s2] [] s3,
      .Return (some (.Tuple [.Subscript (.List [.Constant (.str w2) j7 s4, .Constant (.str w3) j8 s5] s6) (.Call (.Attribute (.Name k s7) "index" v3) [.Constant (.bool true) j9 v4] [] v5) s8, .Attribute (.Name h s9) fl z1] i3 z2)) z3]
      a q (tCaughtU X.K FAR A1 A2 w0 w2 w3 fl) := by
  intro f c' s H Q tl hcall hc' hT
  refine ⟨_, pss_cons (ps_asg (pe_tup (pa_cons pe_non (pa_cons pe_non pa_nil))) (pg_tup rfl (pgs_cons (pg_name (i := 1) nd rfl (.inl lh)) (pgs_cons (pg_name (i := 2) nd rfl (.inl lt)) pgs_nil))) (sw3 _) (sw2 _))
    (pss_cons (ps_try_keep (i := 3) (j := 1) (c := .ref FAR) rfl rfl nd rfl le rfl lh ⟨gf, df, .inl mf⟩ (fun W pn xe tk _ => pss_one (ps_set (i := 2) nd rfl (.inl lt) (hcall W pn xe (fun cls d H => ∀ σ', W cls d σ' H) _ _ tk fun _ _ σ' _ z => z σ') (sw4 _) (.inr lt))) de (sw5 _))
      (tail_ok rfl nd rfl rfl rfl (.inl lh) (.inl lt) (.inl lk) (.inl lk) dh dt dk eh et ek gi mi g1 m1 g2 m2 d1 d2 gv mv (.inr lk) l1 l2 (sw _))), ?_⟩
  refine ⟨by simp [sizeLine_eq], fun p hp => ⟨p, [.non, .non], rfl, .inl (.inl upd_same), rfl, ?_⟩⟩
  refine ⟨.non, [.non], rfl, .non, [], rfl, ?_⟩
  refine ⟨rfl, rfl, ?_, hT f p hp⟩
  rw [upd_ne (ne_of_none hc' hp)]
  exact hc'
end
section
variable {X : Cx} {Wx : WX}
theorem ge_lamcall {x a q c1 c2 far fl w0 w2 w3 : Str} {g c T FAR A1 A2 : Addr} {k : Nat} {pg : Arguments} {bg : List Stmt} {sg : Scope} {dV kV doc pm cdv ct oc : Value} {an od : Option Addr} {osl : Array (Option Value)} {Ng : List Str}
    {ars : Arguments} {be : Expr} {sc : Scope} {mb : Ev W} {p1 p2 p3 : Pos} (M1 : KeptAt X.K X.mg c1 far c2 fl A1 FAR A2) (M2 : KeptAt X.K X.mg c2 far c1 fl A2 FAR A1)
    (gx : Gl X x) (hm : X.mg x = some (.ref g)) (hk : PySem.W.keepIn X.K (.ref g) = true) (lk : X.K.lookup g = some ⟨oc, od, .func (PySem.W.fnOf x x pg bg sg dV kV doc pm an cdv ct), osl⟩) (hcg : PySem.W.codeIn X.K cdv x = true)
    (hb : L2.Binds X.K (PySem.W.fnOf x x pg bg sg dV kV doc pm an cdv ct) [a] []) (Sg : FnScope Ng [a] sg) (hNg : Ng[0]? = some a) (hva : Vis sg a) (hq : X.env.qual ++ "<lambda>" = q)
    (hG : GivesTo X Ng x sg g cdv bg a q (tCaughtU X.K FAR A1 A2 w0 w2 w3 fl)) (D : TabD X.mg X.base c T q) (hcd : X.env.code = .ref c) (hr : Room (k + 2) X.A) (L : LamS X.env.scope sc) (hd0 : defaultsOf ars X.env = ([], []))
    (hbl : ∀ (q : Str) (cl : List (Str × Addr)) (pm cv ctv : Value), bindArgs (PySem.W.kla_fn "<lambda>" q ars be sc cl pm cv ctv) ⟨[], []⟩ = pure [])
    (hbody : ∀ (A : Around) (outer : List Env) (s : Shared) (H : Hp) (E : XK) (f d : Addr), Room k (A.deeper (lamEnv X sc s.heap.objs.size f d)) → GE (lamCx X A outer s H E sc f d) (WxE E) be mb)
    (d1 : (x == ("__debug__" : Str)) = false := by decide) (d2 : (a == ("__debug__" : Str)) = false := by decide) (d3 : (a == ("__classdict__" : Str)) = false := by decide) :
    GE X Wx (.Call (.Name x p1) [.Lambda ars be sc p2] [] p3) (mLam c1 c2 fl w0 w2 w3 mb) := by
  refine ⟨fun pins s σ G Q I ⟨p, st, env, hp, S, E, h⟩ => ?_⟩
  subst hp hq
  refine wpAny_Call_Name_kw (ld_glob I gx hm ?_ d1)
  refine PySem.W.callWith_K (h₀ := X.base) I.ok.mod.kin hk ?_ (by rfl) (by rfl)
  show wpAny _ _ (spliced ((false, eval (.Lambda ars be sc p2) X.env) :: backTo p3 (starEach [] X.env))) _ _ s
  refine Calls.spliced_cons (lam_new I D.tb hcd rfl (S.tab.1 _ D.mem) hd0 (L.has I.ok) fun f d pm' ctv G1 s' I1 lt tb1 hf hfn hfr hco => ?_)
  refine Calls.spliced_nil ⟨I1.kIn, ?_⟩
  obtain ⟨S1, t1⟩ := LamT.facts D.mem D.one S lt tb1
  have h1 := Fin.later t1 h
  have rc : codeAny (model X.prog X.w) X.A (.call (.ref g) ⟨[.ref f], []⟩) (CR C8.CX0 X.stack X.prog X.w G1 s' Q C8.E0) s' := by
    refine run_ofS (N := Ng) (ps := [a]) (us := [.ref f]) (vs := [.ref f]) lk hcg Sg hr I1.env0
      (hb s' [.ref f] I1.kIn rfl) (.cons rfl .nil) rfl fun hr' => ?_
    have tt : tCaughtU X.K FAR A1 A2 w0 w2 w3 fl (fun Ez H' Q' => tG X.K X.mg (RW X.K) (WxE Ez) mb σ H' Q') G1 Q := by
      intro f0 b0 hb0
      have t2 := step_new (o := .tup [.non, .non]) S1 hb0
      have S2 := sr_new (o := .tup [.non, .non]) S1 hb0
      have h1 := Fin.later t2 h1
      refine ⟨{ p with H := upd G1 b0 (.tup [.non, .non]) }, st, env, rfl, S2, (E.step t1).step t2, ?_⟩
      unfold mLam at h1
      cases em : mb env st with
      | bad =>
        rw [em] at h1
        exact h1.elim
      | ok v s2 =>
        rw [em] at h1
        intro r u t S2 ru
        exact qC_of fun b hb => h1 { r with H := upd r.H b (.tup [.str w0, u]) } (.ref b) (t.trans (step_new S2 hb)) (sr_new S2 hb) (new_tup S2 hb ⟨.str w0, [u], rfl, rfl, ⟨u, [], rfl, ru, rfl⟩⟩)
      | exc y s2 =>
        rw [em] at h1
        intro r cls dd t S2 xr
        exact eC_of (kept_e M1 M2 S2 xr (Fin.later t h1))
    obtain ⟨t', ht', hq'⟩ := hG f d s' G1 Q (fun Ez H' Q' => tG X.K X.mg (RW X.K) (WxE Ez) mb σ H' Q')
      (fun W pn xe Ez y1 y2 tk hW => pe_act (i := 0) I1 L hf hfn hfr (hbl _ _ _ _ _) tk hW hr'
        (fun A outer s H hr2 => hbody A outer s H Ez f d hr2) hNg hva d2 d3) hco tt
    exact ⟨t', ht'.nox, hq'⟩
  refine wpAny_call (codeAny_mono rc fun r s2 hq => ?_)
  cases r with
  | error e => exact (show False from hq).elim
  | ok fl =>
    cases fl with
    | ret u => exact I1.after hq
    | next => exact False.elim hq
    | brk => exact False.elim hq
    | cont => exact False.elim hq
theorem ge_lamcallD {x a q c1 c2 far fl w0 w2 w3 z0 z2 z3 : Str} {st : Stmt} {c T : Addr} {k : Nat} {Ng : List Str} {ars : Arguments} {be : Expr} {sc : Scope} {mb : Ev W} {p1 p2 p3 : Pos} (e0 : w0 = z0) (e2 : w2 = z2) (e3 : w3 = z3)
    (F : DefAt X.K X.mg x st) (K1 : KeptOk X.K X.mg c1 far c2 fl) (K2 : KeptOk X.K X.mg c2 far c1 fl) (D : TabD X.mg X.base c T q) (hq : X.env.qual ++ "<lambda>" = q) (hcd : X.env.code = .ref c) (gx : Gl X x)
    (hbind : ∀ (kV doc pm : Value) (an : Option Addr) (cdv ct : Value) (us : List Value), us.length = [a].length → bindArgs (PySem.W.fnOf x x (defArgs st) (defBody st) (defScope st) .none kV doc pm an cdv ct) ⟨us, []⟩ = pure ([a].zip us))
    (Sg : FnScope Ng [a] (defScope st)) (hNg : Ng[0]? = some a) (hva : Vis (defScope st) a)
    (hG : ∀ (g FAR A1 A2 : Addr) (cdv : Value), X.mg c1 = some (.ref A1) → X.mg c2 = some (.ref A2) → X.mg far = some (.ref FAR) → GivesTo X Ng x (defScope st) g cdv (defBody st) a q (tCaughtU X.K FAR A1 A2 w0 w2 w3 fl))
    (hr : Room (k + 2) X.A) (L : LamS X.env.scope sc) (hd0 : defaultsOf ars X.env = ([], []))
    (hbl : ∀ (q : Str) (cl : List (Str × Addr)) (pm cv ctv : Value), bindArgs (PySem.W.kla_fn "<lambda>" q ars be sc cl pm cv ctv) ⟨[], []⟩ = pure [])
    (hbody : ∀ (A : Around) (outer : List Env) (s : Shared) (H : Hp) (E : XK) (f d : Addr), Room k (A.deeper (lamEnv X sc s.heap.objs.size f d)) → GE (lamCx X A outer s H E sc f d) (WxE E) be mb)
    (d1 : (x == ("__debug__" : Str)) = false := by decide) (d2 : (a == ("__debug__" : Str)) = false := by decide) (d3 : (a == ("__classdict__" : Str)) = false := by decide) :
    GE X Wx (.Call (.Name x p1) [.Lambda ars be sc p2] [] p3) (mLam c1 c2 fl z0 z2 z3 mb) := by
  subst e0 e2 e3
  obtain ⟨g, fd, F, hm⟩ := F.ex
  obtain ⟨A1, FAR, A2, M1⟩ := K1
  obtain ⟨B1, FAR2, B2, M2⟩ := K2
  obtain rfl : A2 = B1 := by
    have e := M1.m2.symm.trans M2.mC
    cases e
    rfl
  obtain rfl : A1 = B2 := by
    have e := M1.mC.symm.trans M2.m2
    cases e
    rfl
  obtain rfl : FAR = FAR2 := by
    have e := M1.mF.symm.trans M2.mF
    cases e
    rfl
  have hk := F.kp
  have hb := F.binds hbind
  obtain ⟨oc, od, kV, doc, pm, an, cdv, ct, osl, rfl, lk, hcg⟩ := F.ex
  exact ge_lamcall M1 M2 gx hm hk lk hcg hb Sg hNg hva hq (hG g FAR A1 A2 cdv M1.mC M2.mC M1.mF) D hcd hr L hd0 hbl hbody d1 d2 d3
end
end Mi

namespace Mi
open PySem PySem.Spec PyProof.Rows L2 LamX
variable [ClsMap]
/-! ### defs that are called from within a lambda's body -/
structure DefOkN (P : Program) (w : World) (K : PySem.W.Frag) (mg : Str → Option Value) (base : Heap) (x : Str) (st : Stmt) (k : Nat) (ps : List Str) (m : List W → Store → Res W) : Prop where
  ex : ∃ (f : Addr) (fd : FuncData), Fun K x x st f fd ∧ mg x = some (.ref f) ∧ FnN P w K mg base k f fd ps m
section
variable {P : Program} {w : World} {K : PySem.W.Frag} {mg : Str → Option Value} {base : Heap} {x : Str} {st : Stmt} {k : Nat} {ps N : List Str} {m : List W → Store → Res W} {body : Sm}
theorem DefOkN.G (D : DefOkN P w K mg base x st k ps m) : DefOk P w K mg base x st k ps m := by
  obtain ⟨f, fd, F, hm, g⟩ := D.ex
  exact ⟨f, fd, F, hm, g.G⟩
theorem defOkN_of (D : DefAt K mg x st) (S : FnScope N ps (defScope st))
    (hb : ∀ (f : Addr) (cdv : Value) (A : Around) (outer : List Env) (s : Shared) (H : Hp) (E : XK), Room k (A.deeper (envOfC x (defScope st) s.heap.objs.size f cdv)) →
      GSs (cxOf (L2.CX P w) P w K mg base N x (defScope st) f cdv A outer s H E) (WxE E) (defBody st) body) : DefOkN P w K mg base x st (k + 1) ps (fnM ps.length N.length body) := by
  obtain ⟨f, fd, F, hm⟩ := D.ex
  exact ⟨f, fd, F, hm, fnN_of F S (hb f)⟩
/-- a def whose code object stands at c -/
structure DefAtC (K : PySem.W.Frag) (mg : Str → Option Value) (x : Str) (st : Stmt) (c : Addr) : Prop where
  ex : ∃ (f : Addr) (oc kV doc pm ct : Value) (od an : Option Addr) (osl : Array (Option Value)), K.lookup f = some ⟨oc, od, .func (PySem.W.fnOf x x (defArgs st) (defBody st) (defScope st) .none kV doc pm an (.ref c) ct), osl⟩ ∧ PySem.W.codeIn K (.ref c) x = true ∧
    PySem.W.keepIn K (.ref f) = true ∧ mg x = some (.ref f)
theorem fnG_ofC {qual : Str} {f : Addr} {oc dV kV doc pm cdv ct : Value} {od an : Option Addr} {osl : Array (Option Value)}
    (lk : K.lookup f = some ⟨oc, od, .func (PySem.W.fnOf x qual (defArgs st) (defBody st) (defScope st) dV kV doc pm an cdv ct), osl⟩) (hcd : PySem.W.codeIn K cdv qual = true) (S : FnScope N ps (defScope st))
    (hb : ∀ (A : Around) (outer : List Env) (s : Shared) (H : Hp) (E : XK), Room k (A.deeper (envOfC qual (defScope st) s.heap.objs.size f cdv)) → A.guards = some [] →
      GSs (cxOf (L2.CX P w) P w K mg base N qual (defScope st) f cdv A outer s H E) (WxE E) (defBody st) body) : FnG P w K mg base (k + 1) f (PySem.W.fnOf x qual (defArgs st) (defBody st) (defScope st) dV kV doc pm an cdv ct) ps (fnM ps.length N.length body) := by
  refine ⟨fun ws st h => if_neg h, fun A outer s H args us vs ws p sto Q E hr hg e0 hbd rv hlen hp S0 rw0 hfin => ?_⟩
  subst hp
  have inK : K.In s.heap := e0.mod.kin.keeps fun b o z => (e0.bs b o z).1
  have noL : s.heap.NoLimit := e0.mod.nolimit.keeps fun b o z => (e0.bs b o z).1
  have hlv : vs.length = ps.length := by rw [rv.length, hlen]
  have kinds : ∀ y ∈ ps.zip us, (defScope st).names.lookup y.1 = some .local ∨
      ((defScope st).names.lookup y.1 = some .cell ∧ ((cellsFrom (s.heap.objs.size + 1) (defScope st).names []).lookup y.1).isSome = true) := by
    rintro ⟨n, v⟩ hy
    have z := S.par n (List.of_mem_zip hy).1
    exact z.imp (fun a => a) fun a => ⟨a, PySem.W.cellsFrom_some _ _ _ (.inl a)⟩
  refine codeAny_call_function hr.depth (inK _ _ lk) rfl S.co S.gen rfl
    (PySem.W.codeRec_of inK hcd) (hbd _ _ _ _ ?_)
  refine wpAny_newFunctionEnv_cells S.kind kinds
    fun env he s1 ic => ?_
  subst he
  refine ⟨noL.keeps ic.toInCall.keep, codeAny_func ?_⟩
  have I0 := inv_start (CX := L2.CX P w) (E := E) (outer := outer) (base := base) (mg := mg) S hr.hd e0 hlv rv ic
  have G := hb A outer s p.H E (hr.deeper _) hg
  have rd : tS K mg (WxE E) body { nx := fun _ H' => Q .non H', rt := Q } (L2.start N vs) p.H := by
    have hw : ws.length = ps.length := by rw [rw0.length, hlv]
    refine ⟨p, sto, _, rfl, S0, env_start (N := N) rw0, ?_⟩
    unfold fnM at hfin
    rw [if_pos hw] at hfin
    rw [hw]
    revert hfin
    cases body (ws.map some ++ List.replicate (N.length - ps.length) none) sto with
    | bad => exact fun z => z
    | go fl s2 =>
      cases fl with
      | nx e => exact fun z q σ t s' _ => z q .non t s' rfl
      | rt w => exact fun z => z
      | bk e => exact fun z => z.elim
      | ct e => exact fun z => z.elim
      | ex x e => exact fun z q σ c d t s' _ xr => z q c d t s' xr
  refine wpAny_mono (G.run [] s1 (L2.start N vs) p.H _ I0 rd) (fun fl s' hs => ?_) fun e s' hs => hs
  have fin : ∀ {σ' : L2.St} {H' : Hp} {v : V} {u : Value}, Inv (cxOf (L2.CX P w) P w K mg base N qual (defScope st) f cdv A outer s p.H E) [] σ' H' s' →
      RelV v u → Q v H' → CE outer P w p.H s Q u s' := fun {σ' H' v u} J rv q => ⟨v, H', J.os, J.bare, J.base, J.hok, rv, q⟩
  cases fl with
  | ret u =>
    obtain ⟨v, σ', H', J, rv, q⟩ := hs
    exact fin J rv q
  | next =>
    obtain ⟨σ', H', J, q⟩ := hs
    exact fin (v := V.non) (u := Value.none) J rfl q
  | brk =>
    obtain ⟨_, _, _, z⟩ := hs
    exact z.elim
  | cont =>
    obtain ⟨_, _, _, z⟩ := hs
    exact z.elim
theorem defOkC_of {c : Addr} (D : DefAtC K mg x st c) (S : FnScope N ps (defScope st))
    (hb : ∀ (f : Addr) (A : Around) (outer : List Env) (s : Shared) (H : Hp) (E : XK), Room k (A.deeper (envOfC x (defScope st) s.heap.objs.size f (.ref c))) → A.guards = some [] →
      GSs (cxOf (L2.CX P w) P w K mg base N x (defScope st) f (.ref c) A outer s H E) (WxE E) (defBody st) body) : DefOk P w K mg base x st (k + 1) ps (fnM ps.length N.length body) := by
  obtain ⟨f, oc, kV, doc, pm, ct, od, an, osl, lk, hcd, hk, hm⟩ := D.ex
  exact ⟨f, _, fun_mk lk hcd hk, hm, fnG_ofC lk hcd S (hb f)⟩
end
section
variable {X : Cx} {Wx : WX} {k : Nat} {st : Stmt} {ps : List Str} {m : List W → Store → Res W} {x : Str} {p pos : Pos} {e : Expr} {es : List Expr} {ml : Ev (List W)}
theorem ge_callND (D : DefOkN X.prog X.w X.K X.mg X.base x st k ps m) (hr : Room k X.A) (tk : Takes X Wx) (gl : Gl X x)
    (hbind : ∀ (kV doc pm : Value) (an : Option Addr) (cdv ct : Value) (us : List Value), us.length = ps.length → bindArgs (PySem.W.fnOf x x (defArgs st) (defBody st) (defScope st) .none kV doc pm an cdv ct) ⟨us, []⟩ = pure (ps.zip us))
    (ha : GA X Wx (e :: es) ml) (hdb : (x == ("__debug__" : Str)) = false := by decide) (he : starEach (e :: es) X.env = (false, eval e X.env) :: starEach es X.env := by rfl) (hpl : (backTo pos (starEach es X.env)).any (·.1) = false := by rfl) :
    GE X Wx (.Call (.Name x p) (e :: es) [] pos) (mCall m ml) := by
  obtain ⟨f, fd, F, hm, G⟩ := D.ex
  exact ge_callN G hr tk gl hm F.kp (F.binds hbind) ha hdb he hpl
end
/-! ### the law's own call, one table of code objects with it -/
section
variable {P : Program} {w : World} {K : PySem.W.Frag} {mg mb : Str → Option Value} {k : Nat} {fa a c T : Addr} {fd : FuncData} {x qn : Str} {s₁ : Shared} {vs : List Value} {ns : List Int} {m : List W → Store → Res W}
theorem law_core3 (KX : K.In s₁.heap) (hns : s₁.heap.Ns mainGlobals mg) (hb : s₁.heap.Ns builtinsNs mb) (hbb : ∀ x : Str, x ≠ "__name__" → mb x = bootBuiltins x) (hsm : ∃ mm, s₁.heap.Ns sysModules mm) (hlim : s₁.heap.NoLimit) (hg : s₁.gens = #[])
    (hT : s₁.heap.get? T = some { cls := .none, data := .fields #[] }) (nT : K.lookup T = none) (C : PySem.W.CodeHd s₁.heap c T)
    (hbm : ∃ (bm : Addr) (ob : Obj), mg "__builtins__" = some (.ref bm) ∧ bm ≠ builtinsNs ∧ s₁.heap.get? bm = some ob ∧ ob.cls = .type "module" ∧ ob.dict = some builtinsNs ∧ ob.data = .plain)
    (ha : s₁.heap.get? a = some { cls := .type "list", data := .seq vs.toArray }) (hr : Room k callerA) (ht0 : ClsMap.tabs = [(T, qn)]) (F : ∀ base : Heap, K.In base → base.Ns mainGlobals mg → SmB base → TabD mg base c T qn → FnG P w K mg base k fa fd [x] m)
    (hbind : ∀ (s : Shared) (u : Value), BindsTo s fd ⟨[u], []⟩ [(x, u)]) {st' : Store} (hm : m [.frz (ns.map W.int)] [] = .ok (.bl true) st')
    (H : Hp) (hH : H T = some (.tbl #[])) (only : ∀ b, H b = none ∨ b = T ∨ ∃ o xs, H b = some (.frz o (.lst xs))) (hS : FrzAt K ⟨fun _ => a, 0, H, [T]⟩ a (ns.map V.int)) (hok : HOk P w H s₁.heap) (hA : ∀ b, H b ≠ none → b = a ∨ b = T) (hK : H a ≠ none → K.lookup a = none) :
    codeAny (model P w) callerA (.call (.ref fa) ⟨[.ref a], []⟩) (fun r s' => r = .ok (.ret (.bool true)) ∧ OldK s₁.heap s'.heap ∧ s'.os = s₁.os ∧ AllBare s'.gens) s₁ := by
  let B := hidT s₁.heap H
  have inB : ∀ {b : Addr} {o : Obj}, s₁.heap.get? b = some o → H b = none → B.get? b = some o := fun e n => hidT_get e n
  have apart : ∀ {b : Addr} {o : Obj}, s₁.heap.get? b = some o → (∀ us n, o.data ≠ .seq us n) → o.data ≠ .fields #[] → H b = none := by
    intro b o e h1 h2
    cases q : H b with
    | none => rfl
    | some u =>
      rcases hA b (by rw [q]; exact fun z => nomatch z) with eb | eb
      · rw [eb, ha] at e
        cases e
        exact absurd rfl (h1 _ _)
      · rw [eb, hT] at e
        cases e
        exact absurd rfl h2
  have dicts : ∀ {b : Addr} {o : Obj} {es : Array DictEntry} {ep : Nat}, s₁.heap.get? b = some o → o.data = .dict es ep → H b = none := by
    intro b o es ep e d
    exact apart e (fun us n z => by rw [d] at z; cases z) fun z => by rw [d] at z; cases z
  have nsB : ∀ {b : Addr} {f : Str → Option Value}, s₁.heap.Ns b f → B.Ns b f := fun ⟨o, es, ep, e, d, r⟩ => ⟨o, es, ep, inB e (dicts e d), d, r⟩
  have KB : K.In B := fun b o e => inB (KX b o e) (by
    cases q : H b with
    | none => rfl
    | some u =>
      exfalso
      rcases hA b (by rw [q]; exact fun z => nomatch z) with eb | eb
      · rw [eb, hK (by rw [← eb, q]; exact fun z => nomatch z)] at e
        cases e
      · rw [eb, nT] at e
        cases e)
  have tb : TabB B mg c T := by
    obtain ⟨og, es, ep, eg, dg, _⟩ := hns
    refine ⟨?_, ?_, fun z => ?_⟩
    · obtain ⟨o, us, file, tf, flags, tg, inF, text, tt, e1, r1, r2, r3, rest⟩ := C
      refine ⟨o, us, file, tf, flags, tg, inF, text, tt, inB e1 (apart e1 (fun us n z => ?_) fun z => ?_), r1, r2, r3, rest⟩
      · rw [r2] at z
        cases z
      · rw [r2] at z
        cases z
        simp at r3
    · obtain ⟨bm, ob, b1, b2, b3, b4, b5, b6⟩ := hbm
      refine ⟨bm, ob, b1, b2, fun q => ?_, fun q => ?_, inB b3 (apart b3 (fun us n z => ?_) fun z => ?_), b4, b5, b6⟩
      · rw [q, eg] at b3
        cases b3
        rw [dg] at b6
        cases b6
      · rw [q, hT] at b3
        cases b3
        cases b6
      · rw [b6] at z
        cases z
      · rw [b6] at z
        cases z
    · rw [z, hT] at eg
      cases eg
      cases dg
  have tD : TabD mg B c T qn := by
    refine ⟨?_, fun t ht _ => ?_, tb⟩
    · rw [ht0]
      exact List.mem_cons_self
    · rw [ht0] at ht
      rw [List.mem_singleton.mp ht]
  obtain ⟨mc, hc1, hc2⟩ := hlim
  have smB : SmB B := by
    obtain ⟨mm, o, es, ep, e, d, _⟩ := hsm
    exact ⟨o, inB e (dicts e d)⟩
  have e0 : Env0 P w K mg B callerA [] s₁ H :=
    ⟨rfl, ⟨KB, nsB hns, ⟨mb, nsB hb, hbb⟩, mc, nsB hc1, hc2⟩, fun b o e => of_hidT e, Nat.le_of_eq (hidT_size _ _), trivial, fun b z => (nomatch z), hok, .of_eq hg⟩
  have tab0 : TabI [T] H := by
    refine ⟨fun p hp => ?_, fun b ps e => ?_⟩
    · rw [ht0] at hp
      rw [List.mem_singleton.mp hp]
      exact TabS.nil hH
    · rcases only b with z | z | ⟨ob, xs, z⟩
      · rw [e] at z
        cases z
      · rw [z]
        exact List.mem_cons_self
      · rw [e] at z
        cases z
  have S0 : SR K ⟨fun _ => a, 0, H, [T]⟩ [] := ⟨tab0, rfl, fun i j h => absurd h (Nat.not_lt_zero _), fun i o e => by simp at e, fun b z => by
    have z' : b = T := List.mem_singleton.mp z
    subst z'
    refine ⟨fun e => ?_, fun i h => absurd h (Nat.not_lt_zero _)⟩
    have e' : H b = none := e
    rw [hH] at e'
    cases e'⟩
  refine codeAny_mono ((F B KB (nsB hns) smB tD).run callerA [] s₁ H ⟨[.ref a], []⟩ [.ref a] [.ref a] [.frz (ns.map W.int)] ⟨fun _ => a, 0, H, [T]⟩ [] (fun v H' => v = .bl true) (fun _ _ _ => False)
    hr rfl e0 (hbind s₁ (.ref a)) (.cons rfl .nil) rfl rfl S0 ⟨.ref a, [], rfl, ⟨a, ns.map V.int, rfl, hS, frz_ints ns⟩, rfl⟩ ?_) fun r s' z => ?_
  · rw [hm]
    exact fun q v _ _ r => r
  · cases r with
    | error e =>
      obtain ⟨_, _, _, _, _, _, _, _, _, _, _, _, z⟩ := z
      exact z.elim
    | ok fl =>
      cases fl with
      | next => exact z.elim
      | brk => exact z.elim
      | cont => exact z.elim
      | ret u =>
        obtain ⟨v, H', os, bare, un, hok', r', q⟩ := z
        have q' : v = .bl true := q
        subst q'
        have eu : u = Value.bool true := r'
        subst eu
        obtain ⟨more, hmore⟩ := un.tbls T #[] hH
        have nowT := hok' T _ hmore
        have kept : ∀ b o, b ≠ T → s₁.heap.get? b = some o → s'.heap.get? b = some o := fun b o nb e => by
          cases q : H b with
          | none => exact un.keep b o e q (fun z => nomatch z) (fun z => nomatch z)
          | some t =>
            rcases only b with z | z | ⟨ob, xs, z⟩
            · rw [q] at z
              cases z
            · exact absurd z nb
            · obtain ⟨e1, _⟩ := hok b _ z
              obtain ⟨e2, _⟩ := hok' b _ (un.frzs b ob _ z)
              rw [e] at e1
              cases e1
              exact e2
        refine ⟨rfl, ⟨fun b o e => ?_, fun b o e => ?_⟩, os, bare⟩
        · by_cases hb : b = T
          · subst hb
            rw [hT] at e
            cases e
            exact .inr (.inl ⟨(C.tab hT).isCodeTable, rfl, #[], more, rfl, by rw [Array.empty_append]; simpa using (show s'.heap.get? b = some { cls := .none, data := .fields (#[] ++ more) } from nowT)⟩)
          · exact .inl (kept b o hb e)
        · by_cases hb : b = T
          · subst hb
            exact ⟨_, nowT⟩
          · exact ⟨o, kept b o hb e⟩
theorem law_G3 (KX : K.In s₁.heap) (hns : s₁.heap.Ns mainGlobals mg) (hb : s₁.heap.Ns builtinsNs mb) (hbb : ∀ x : Str, x ≠ "__name__" → mb x = bootBuiltins x) (hsm : ∃ mm, s₁.heap.Ns sysModules mm) (hlim : s₁.heap.NoLimit) (hg : s₁.gens = #[])
    (hT : s₁.heap.get? T = some { cls := .none, data := .fields #[] }) (nT : K.lookup T = none) (C : PySem.W.CodeHd s₁.heap c T)
    (hbm : ∃ (bm : Addr) (ob : Obj), mg "__builtins__" = some (.ref bm) ∧ bm ≠ builtinsNs ∧ s₁.heap.get? bm = some ob ∧ ob.cls = .type "module" ∧ ob.dict = some builtinsNs ∧ ob.data = .plain)
    (ha : s₁.heap.get? a = some { cls := .type "list", data := .seq vs.toArray }) (hi : IntsAre vs ns) (hl : ns.length ≤ sizeLine) (hr : Room k callerA) (ht0 : ClsMap.tabs = [(T, qn)]) (F : ∀ base : Heap, K.In base → base.Ns mainGlobals mg → SmB base → TabD mg base c T qn → FnG P w K mg base k fa fd [x] m)
    (hbind : ∀ (s : Shared) (u : Value), BindsTo s fd ⟨[u], []⟩ [(x, u)]) {st' : Store} (hm : m [.frz (ns.map W.int)] [] = .ok (.bl true) st') :
    codeAny (model P w) callerA (.call (.ref fa) ⟨[.ref a], []⟩) (fun r s' => r = .ok (.ret (.bool true)) ∧ OldK s₁.heap s'.heap ∧ s'.os = s₁.os ∧ AllBare s'.gens) s₁ := by
  have rv := vals_ints hi
  have aT : a ≠ T := fun z => by
    rw [z, hT] at ha
    have z' := congrArg Obj.data (Option.some.inj ha)
    cases z'
  have Ta : T ≠ a := fun z => aT z.symm
  cases hk : K.lookup a with
  | some o =>
    have e := KX a o hk
    rw [ha] at e
    cases e
    refine law_core3 KX hns hb hbb hsm hlim hg hT nT C hbm ha hr ht0 F hbind hm (fun b => if b = T then some (.tbl #[]) else none) (if_pos rfl) (fun b => ?_) (.inr (.inr ⟨_, vs.toArray, _, hk, rfl, rfl, rfl, ?_, by simpa using rv⟩)) (fun b u z => ?_) (fun b z => ?_) fun z => absurd (if_neg aT) z
    · by_cases h : b = T
      · exact .inr (.inl h)
      · exact .inl (if_neg h)
    · rw [List.size_toArray, hi.length]
      exact hl
    · by_cases h : b = T
      · have z' := (if_pos h).symm.trans z
        cases z'
        subst h
        exact hT
      · have z' := (if_neg h).symm.trans z
        cases z'
    · by_cases h : b = T
      · exact .inr h
      · exact absurd (if_neg h) z
  | none =>
    refine law_core3 KX hns hb hbb hsm hlim hg hT nT C hbm ha hr ht0 F hbind hm (fun b => if b = a then some (.frz { cls := .type "list", data := .seq vs.toArray } (.lst (ns.map V.int))) else if b = T then some (.tbl #[]) else none)
      ((if_neg Ta).trans (if_pos rfl)) (fun b => ?_) (.inl ⟨.inr ⟨{ cls := .type "list", data := .seq vs.toArray }, if_pos rfl⟩, fun i h => absurd h (Nat.not_lt_zero _), fun z => aT (List.mem_singleton.mp z)⟩) (fun b u z => ?_) (fun b z => ?_) fun _ => hk
    · by_cases h : b = a
      · exact .inr (.inr ⟨_, _, if_pos h⟩)
      · by_cases h2 : b = T
        · exact .inr (.inl h2)
        · exact .inl ((if_neg h).trans (if_neg h2))
    · by_cases h : b = a
      · have z' := (if_pos h).symm.trans z
        cases z'
        subst h
        exact ⟨ha, by rw [List.length_map]; exact hl, vs, _, rv, ha⟩
      · by_cases h2 : b = T
        · have z' := ((if_neg h).trans (if_pos h2)).symm.trans z
          cases z'
          subst h2
          exact hT
        · have z' := ((if_neg h).trans (if_neg h2)).symm.trans z
          cases z'
    · by_cases h : b = a
      · exact .inl h
      · by_cases h2 : b = T
        · exact .inr h2
        · exact absurd ((if_neg h).trans (if_neg h2)) z
end
theorem walkG3 {l : PySem.W.OpenLaw} {n k : Nat} {q : Program} {loose : List Str} {XP : (Str → Option Value) → Heap → Prop} {YP : World → Heap → Prop} {d e : DefRec} {K : Params → PySem.W.Frag} {x y qn : Str} {c T : Addr} {m : List W → Store → Res W}
    (himp : importsNone q = true) (hn : l.most = some n) (hn2 : n ≤ sizeLine) (hdf : d.params.defaults = []) (hr : Room k callerA) (hY : ∀ (w : World) (h : Heap), YP w h → (K w.params).In h)
    (hfind : (recsOf q).find? (fun e => e.name == y) = some e) (htab : ∀ w : World, PySem.W.tabIn (K w.params) y = some (c, T)) (hno : ∀ w : World, (K w.params).lookup T = none)
    (F : ∀ (w : World) (mg : Str → Option Value) (fa : Addr) (h : Heap), (K w.params).In h → h.Ns mainGlobals mg → mg d.name = some (.ref fa) →
      ∃ fd : FuncData, (∀ (s : Shared) (u : Value), BindsTo s fd ⟨[u], []⟩ [(x, u)]) ∧ ∀ base : Heap, (K w.params).In base → base.Ns mainGlobals mg → SmB base → TabD mg base c T qn → FnG l.prog w (K w.params) mg base k fa fd [x] m)
    (hm : ∀ ns : List Int, ns.length ≤ n → ∃ st', m [.frz (ns.map W.int)] [] = .ok (.bl true) st') (ht0 : ClsMap.tabs = [(T, qn)] := by rfl) : PySem.W.WalkO q loose XP YP l.row.toRowW d [] (fun f vs => PySem.call f vs) := by
  refine Att.attach_call hn hdf fun w s₀ s₁ mg mb fa o pm cd doc a vs ns G Y ho hd hcd hmg hobj hints hlen hg => ?_
  have KX := hY w _ Y
  obtain ⟨fd, hb, hF⟩ := F w mg fa _ KX G.T.g hmg
  obtain ⟨st', e⟩ := hm ns hlen
  obtain ⟨hd2, hT⟩ := PySem.W.tab_of G.T KX hfind (htab w)
  exact law_G3 KX G.T.g G.T.b G.T.builtins (let ⟨mm, z, _⟩ := (G.T.seer himp).mods; ⟨mm, z⟩) G.T.nolimit hg hT (hno w) hd2 G.T.bmain hobj hints (Nat.le_trans hlen hn2) hr ht0 hF hb e
end Mi

namespace Mi
open PySem PySem.Spec PyProof.Rows L2
variable [ClsMap]
/-! ### {k: v, ..} as data that stays -/
def mDispD (es : List (Ev W × Ev W)) : Ev W := fun env st => match mPairs es env st with
  | .ok ps s => if ps.length ≤ 15 then .ok (.dic ((putAll2 [] ps).map (·.1)) ((putAll2 [] ps).map (·.2))) s else .bad
  | _ => .bad
section
variable {X : Cx} {Wx : WX} {pos : Pos} {σ : L2.St}
theorem dispD_of {es : List (Ev W × Ev W)} {H : Hp} {Q : VK} (h : tG X.K X.mg (RW X.K) Wx (mDispD es) σ H Q) : tDisp (trG X Wx es) σ H Q := by
  obtain ⟨p, st, env, hp, S, E, h⟩ := h
  subst hp
  intro D hD
  unfold mDispD at h
  cases e : mPairs es env st with
  | exc x s =>
    rw [e] at h
    exact h.elim
  | bad =>
    rw [e] at h
    exact h.elim
  | ok ps s2 =>
    rw [e] at h
    dsimp only at h
    by_cases c : ps.length ≤ 15
    · rw [if_pos c] at h
      have m0 := mv_hideD S hD (.dK [])
      refine pairs_of es { p with H := upd p.H D (.dK []), x := D :: p.x } st env ps s2 _ (sr_hideD S hD _) (E.move m0) e fun q gs t Sq d => ?_
      have hDq : D ∈ q.x := by
        rw [t.xs]
        exact List.mem_cons_self
      have at0 : q.H D = some (.dK []) := (t.hk D List.mem_cons_self (by show ∀ ps, upd p.H D (.dK []) D ≠ _; rw [upd_same]; exact fun _ z => nomatch z)).trans upd_same
      refine ⟨at0, gs, rfl, by rw [d.length]; exact c, ?_⟩
      have m1 := mv_write Sq hDq (.dK (mergeK [] gs))
      have S1 := sr_write Sq hDq (.dK (mergeK [] gs)) (fun o' e => by
        rw [at0] at e
        cases e
        exact ⟨fun _ z => (nomatch z), noCode_dK⟩)
      have sub : ∀ a, a ∈ p.x → a ∈ ({ q with H := upd q.H D (.dK (mergeK [] gs)) } : Wh).x := fun a z => by
        show a ∈ q.x
        rw [t.xs]
        exact List.mem_cons_of_mem _ z
      have nx : D ∉ p.x := fun z => (S.hid D z).1 hD
      have ms := mv_show S1 sub
      have dm := ((d.merge (acc := []) (bs := []) .nil).move m1)
      have tt : TabI p.x (upd q.H D (.dK (mergeK [] gs))) := TabI.less (by
        have tt := S1.tab
        have ex : ({ q with H := upd q.H D (.dK (mergeK [] gs)) } : Wh).x = D :: p.x := t.xs
        rw [ex] at tt
        exact tt) (by
        show ∀ ps, upd q.H D (.dK (mergeK [] gs)) D ≠ _
        rw [upd_same]
        exact fun _ z => nomatch z)
      refine h { q with H := upd q.H D (.dK (mergeK [] gs)), x := p.x } (.ref D) ⟨((m0.trans t.toMv).trans m1).trans ms, rfl, fun a z n => ?_⟩ (sr_show S1 sub tt) ⟨D, mergeK [] gs, rfl, upd_same, ⟨fun i hi => (S1.hid D hDq).2 i hi, nx⟩, dm.names, ?_⟩
      · have hne : a ≠ D := fun e => nx (by rw [← e]; exact z)
        show upd q.H D _ a = p.H a
        rw [upd_ne hne]
        refine (t.hk a (List.mem_cons_of_mem _ z) (by show ∀ ps, upd p.H D (.dK []) a ≠ _; rw [upd_ne hne]; exact n)).trans ?_
        show upd p.H D _ a = p.H a
        rw [upd_ne hne]
      · exact RWs.move ms _ _ dm.vals
    · rw [if_neg c] at h
      exact h.elim
theorem ge_dispD {ks : List (Option Expr)} {vs : List Expr} {es : List (Ev W × Ev W)} (h : GPP X Wx pos ks vs es) (hall : ks.all (·.isSome) = true := by rfl) (hl : ks.length = vs.length := by rfl) (h0 : ks ≠ [] := by exact fun z => nomatch z) (h15 : ks.length ≤ 15 := by decide) :
    GE X Wx (.Dict ks vs pos) (mDispD es) := PEimp (pe_disp h hall hl h0 h15) fun σ H Q z => dispD_of z
end
end Mi

namespace Mi
open PySem PySem.Spec PyProof.Rows L2
variable [ClsMap]
/-! ### a, b, c = x, y, z -/
def sPar3 (i j l : Nat) (m : Ev (List W)) : Sm := liftE m fun ws env st => match ws with
  | [x, y, z] => .go (.nx (((env.set i (some x)).set j (some y)).set l (some z))) st
  | _ => .bad
section
variable {X : Cx} {Wx : WX} {ml : Ev (List W)} {pos : Pos} {a b c : Expr}
theorem gs_par3 {i j l : Nat} {x y z : Str} {px py pz pt : Pos} {kt k2 pt2} (hc : X.calm = true) (hN : X.N.Nodup) (hi : X.N[i]? = some x) (hj : X.N[j]? = some y) (hl : X.N[l]? = some z) (hij : i ≠ j) (hil : i ≠ l) (hjl : j ≠ l)
    (hx : X.env.scope.names.lookup x = some .local) (hy : X.env.scope.names.lookup y = some .local) (hz : X.env.scope.names.lookup z = some .local) (ha : GA X Wx [a, b, c] ml)
    (hw : swappedStores [.Tuple [.Name x px, .Name y py, .Name z pz] kt pt] (.Tuple [a, b, c] k2 pt2) X.env = pure (some [x, y, z]))
    (hs : swapsWithSole [.Tuple [.Name x px, .Name y py, .Name z pz] kt pt] (.Tuple [a, b, c] k2 pt2) pos.line X.env = pure false := by rfl) :
    GS X Wx (.Assign [.Tuple [.Name x px, .Name y py, .Name z pz] kt pt] (.Tuple [a, b, c] k2 pt2) pos) (sPar3 i j l ml) :=
  PSimp (ps_par3 hc hN hi hj hl hij hil hjl hx hy hz ha hw hs) fun D σ H ⟨p, st, env, hp, S, E, h⟩ => lift_of hp S E h fun q s1 ws vs t S1 E1 r h1 => by
    match ws, r, h1 with
    | [], _, h1 => exact h1.elim
    | [_], _, h1 => exact h1.elim
    | [_, _], _, h1 => exact h1.elim
    | [x, y, z], ⟨v, _, e, r1, u, _, e2, r2, t3, _, e3, r3, e4⟩, h1 =>
      refine ⟨v, u, t3, ?_, h1 q _ (.refl S1) S1 (((E1.set i r1).set j r2).set l r3)⟩
      have e4' : _ = [] := e4
      rw [e, e2, e3, e4']
    | _ :: _ :: _ :: _ :: _, _, h1 => exact h1.elim
end
end Mi

namespace K09gen
open PySem PySem.Spec PyProof.Rows L2 Mi
variable [ClsMap]
def topS (i : Nat) : Stmt := PySem.Challenge.pw_farasnothing_k09_stamps_of_any_kind.main.body.getD i (.Pass ⟨0, 0, 0, 0⟩)
def z__ : Str := ⟨#[]⟩
theorem y__ : ("" : Str) = z__ := by decide +kernel
def z_0 : Str := ⟨#[48]⟩
theorem y_0 : ("0" : Str) = z_0 := by decide +kernel
def z_a : Str := ⟨#[97]⟩
theorem y_a : ("a" : Str) = z_a := by decide +kernel
def z_stamp : Str := ⟨#[115, 116, 97, 109, 112]⟩
theorem y_stamp : ("stamp" : Str) = z_stamp := by decide +kernel
def z_delay : Str := ⟨#[100, 101, 108, 97, 121]⟩
theorem y_delay : ("delay" : Str) = z_delay := by decide +kernel
def z_told : Str := ⟨#[116, 111, 108, 100]⟩
theorem y_told : ("told" : Str) = z_told := by decide +kernel
abbrev s_Err_BadStamp : Stmt := inClass (topS 2) 0
abbrev s_Err_BadDelay : Stmt := inClass (topS 3) 0
structure Blt (K : PySem.W.Frag) (mg : Str → Option Value) : Prop where
  ValueError : mg "ValueError" = none
  abs : mg "abs" = none
  all : mg "all" = none
  bool : mg "bool" = none
  int : mg "int" = none
  isinstance : mg "isinstance" = none
  len : mg "len" = none
  max : mg "max" = none
  min : mg "min" = none
  range : mg "range" = none
  repr : mg "repr" = none
  tuple : mg "tuple" = none
section
variable {P : Program} {w : World} {K : PySem.W.Frag} {mg : Str → Option Value} {base : Heap}
abbrev s_is_integer : Stmt := topS 5
theorem sc_is_integer : FnScope ["value"] ["value"] (defScope s_is_integer) := ⟨rfl, rfl, rfl, by decide +kernel, rfl, by decide +kernel, by decide +kernel⟩
def m_is_integer : List W → Store → Res W := fnM 1 1
  (sRet (mAndV (mUn (fIsK 0) (mV 0)) (mNotV (mUn (fIsK 1) (mV 0)))))
theorem ok_is_integer (T : Blt K mg) (D : DefAt K mg "is_integer" s_is_integer) : DefOkN P w K mg base "is_integer" s_is_integer 1 ["value"] m_is_integer :=
  defOkN_of (N := ["value"]) D sc_is_integer fun f cdv A outer s H E hr =>
  (gss_one (gs_ret (ge_and (ge_isiZ isk_int (T := "int") ty_int rfl T.isinstance rfl T.int (by decide +kernel) (ge_var 0)) (ge_one (ge_not (ge_isiZ isk_bool (T := "bool") ty_bool rfl T.isinstance rfl T.bool (by decide +kernel) (ge_var 0)))))))
abbrev s_is_tuple_of : Stmt := topS 7
theorem sc_is_tuple_of : FnScope ["value", "many"] ["value", "many"] (defScope s_is_tuple_of) := ⟨rfl, rfl, rfl, by decide +kernel, rfl, by decide +kernel, by decide +kernel⟩
def m_is_tuple_of : List W → Store → Res W := fnM 2 2
  (sRet (mAndV (mUn (fIsK 3) (mV 0)) (mOp fEq (mCall fLen (mCons (mV 0) (mNil))) (mV 1))))
theorem ok_is_tuple_of (T : Blt K mg) (D : DefAt K mg "is_tuple_of" s_is_tuple_of) : DefOkN P w K mg base "is_tuple_of" s_is_tuple_of 1 ["value", "many"] m_is_tuple_of :=
  defOkN_of (N := ["value", "many"]) D sc_is_tuple_of fun f cdv A outer s H E hr =>
  (gss_one (gs_ret (ge_and (ge_isiZ isk_tuple (T := "tuple") ty_tuple rfl T.isinstance rfl T.tuple (by decide +kernel) (ge_var 0)) (ge_one (ge_cmp (op_eqP hr.units) r2_data (ge_callB call_len rc_len rfl T.len (by decide +kernel) (ga_cons (ge_var 0) (ga_nil))) (ge_var 1) (nomark _))))))
abbrev s_l_pot : Stmt := topS 14
theorem sc_l_pot : FnScope ["_law_script", "_law_k", "_law_cell", "_law_own"] ["_law_script", "_law_k"] (defScope s_l_pot) := ⟨rfl, rfl, rfl, by decide +kernel, rfl, by decide +kernel, by decide +kernel⟩
def m_l_pot : List W → Store → Res W := fnM 2 4
  (sSeq (sSet 2 (mIf (mB (mOp fLt (mV 1) (mCall fLen (mCons (mV 0) (mNil))))) (mOp fIx (mV 0) (mV 1)) (mOp fAdd (mOp fMulA (mC (.int 37)) (mV 1)) (mC (.int 11)))))
  (sSeq (sSet 3 (mOp fMulA (mOp fMod (mCall fInt (mCons (mCall fAbs (mCons (mV 2) (mNil))) (mNil))) (mOp fPow (mOp fPow (mC (.int 10)) (mC (.int 60))) (mC (.int 5)))) (mCall fInt (mCons (mOp fGe (mCall fAbs (mCons (mV 2) (mNil))) (mOp fPow (mC (.int 10)) (mC (.int 18)))) (mNil)))))
  (sRet (mNew (mCons (mV 3) (mCons (mOp fMod (mCall fInt (mCons (mOp fAdd (mOp fAdd (mOp fMulA (mOp fMod (mCall fInt (mCons (mV 2) (mNil))) (mC (.int 2305843009213693951))) (mC (.int 70441))) (mOp fMulA (mOp fMulA (mC (.int 6337)) (mV 1)) (mV 1))) (mC (.int 71))) (mNil))) (mC (.int 2305843009213693921))) (mCons (mC (.int 0)) (mNil))))))))
theorem ok_l_pot (T : Blt K mg) (D : DefAt K mg "_law_pot" s_l_pot) : DefOk P w K mg base "_law_pot" s_l_pot 1 ["_law_script", "_law_k"] m_l_pot :=
  defOk_of (N := ["_law_script", "_law_k", "_law_cell", "_law_own"]) D sc_l_pot fun f cdv A outer s H E hr hg =>
  (gss_cons (gs_set (i := 2) sc_l_pot.nd rfl (by first | exact Or.inl rfl | exact Or.inr rfl) (ge_if (gt_cmp (op_ltP hr.units) r2_data (ge_var 1) (ge_callB call_len rc_len rfl T.len (by decide +kernel) (ga_cons (ge_var 0) (ga_nil))) (nomark _)) (ge_ix (ge_var 0) (ge_var 1) (fun _ _ => rfl)) (ge_op op_addA r2_add (ge_op (op_mulW.or (op_repT.or op_repX)) r2_mulA (ge_int) (ge_var 1)) (ge_int))))
  (gss_cons (gs_set (i := 3) sc_l_pot.nd rfl (by first | exact Or.inl rfl | exact Or.inr rfl) (ge_op (op_mulW.or (op_repT.or op_repX)) r2_mulA (ge_op op_mod r2_mod (ge_callTy call_int1 rc_int rfl T.int (by decide +kernel) (ga_cons (ge_callB call_abs rc_abs rfl T.abs (by decide +kernel) (ga_cons (ge_var 2) (ga_nil))) (ga_nil))) (ge_op op_powW r2_pow (ge_op op_powW r2_pow (ge_int) (ge_int)) (ge_int))) (ge_callTy call_int1 rc_int rfl T.int (by decide +kernel) (ga_cons (ge_cmp (op_geP hr.units) r2_data (ge_callB call_abs rc_abs rfl T.abs (by decide +kernel) (ga_cons (ge_var 2) (ga_nil))) (ge_op op_powW r2_pow (ge_int) (ge_int)) (nomark _)) (ga_nil)))))
  (gss_one (gs_ret (ge_new (ga_cons (ge_var 3) (ga_cons (ge_op op_mod r2_mod (ge_callTy call_int1 rc_int rfl T.int (by decide +kernel) (ga_cons (ge_op op_addA r2_add (ge_op op_addA r2_add (ge_op (op_mulW.or (op_repT.or op_repX)) r2_mulA (ge_op op_mod r2_mod (ge_callTy call_int1 rc_int rfl T.int (by decide +kernel) (ga_cons (ge_var 2) (ga_nil))) (ge_int)) (ge_int)) (ge_op (op_mulW.or (op_repT.or op_repX)) r2_mulA (ge_op (op_mulW.or (op_repT.or op_repX)) r2_mulA (ge_int) (ge_var 1)) (ge_var 1))) (ge_int)) (ga_nil))) (ge_int)) (ga_cons (ge_int) (ga_nil)))))))))
abbrev s_l_take : Stmt := topS 15
theorem sc_l_take : FnScope ["_law_pot_here", "_law_upto", "_law_prime", "_law_mixed", "_law_digit"] ["_law_pot_here", "_law_upto"] (defScope s_l_take) := ⟨rfl, rfl, rfl, by decide +kernel, rfl, by decide +kernel, by decide +kernel⟩
def m_l_take : List W → Store → Res W := fnM 2 5
  (sSeq (sIf (mB (mOp fGt (mOp fIx (mV 0) (mC (.int 0))) (mC (.int 0)))) (sSeq (sSet 4 (mOp fMod (mCall fInt (mCons (mOp fIx (mV 0) (mC (.int 0))) (mNil))) (mV 1)))
  (sSeq (sPut (mOp fDiv (mOp fIx (mV 0) (mC (.int 0))) (mV 1)) (mV 0) (mC (.int 0)))
  (sRet (mV 4)))) (sNx))
  (sSeq (sPut (mOp fAdd (mOp fIx (mV 0) (mC (.int 2))) (mC (.int 1))) (mV 0) (mC (.int 2)))
  (sSeq (sSet 2 (mOp fIx (mLst (mCons (mC (.int 2147483647)) (mCons (mC (.int 2147483629)) (mCons (mC (.int 2147483587)) (mCons (mC (.int 2147483579)) (mCons (mC (.int 2147483563)) (mNil))))))) (mOp fMod (mCall fInt (mCons (mOp fIx (mV 0) (mC (.int 2))) (mNil))) (mC (.int 5)))))
  (sSeq (sSet 3 (mOp fMod (mCall fInt (mCons (mOp fPow (mCall fInt (mCons (mOp fAdd (mOp fAdd (mOp fIx (mV 0) (mC (.int 1))) (mOp fMulA (mOp fMulA (mC (.int 99907)) (mOp fIx (mV 0) (mC (.int 2)))) (mOp fIx (mV 0) (mC (.int 2))))) (mC (.int 53))) (mNil))) (mC (.int 3))) (mNil))) (mV 2)))
  (sSeq (sSet 3 (mOp fMod (mCall fInt (mCons (mOp fMulA (mV 3) (mOp fAdd (mOp fMod (mCall fInt (mCons (mV 3) (mNil))) (mC (.int 10007))) (mOp fMulA (mC (.int 89)) (mOp fIx (mV 0) (mC (.int 2)))))) (mNil))) (mC (.int 2305843009213693907))))
  (sRet (mOp fMod (mCall fInt (mCons (mOp fDiv (mV 3) (mC (.int 103))) (mNil))) (mV 1))))))))
theorem ok_l_take (T : Blt K mg) (D : DefAt K mg "_law_take" s_l_take) : DefOk P w K mg base "_law_take" s_l_take 1 ["_law_pot_here", "_law_upto"] m_l_take :=
  defOk_of (N := ["_law_pot_here", "_law_upto", "_law_prime", "_law_mixed", "_law_digit"]) D sc_l_take fun f cdv A outer s H E hr hg =>
  (gss_cons (gs_if (gt_cmp (op_gtP hr.units) r2_data (ge_ix (ge_var 0) (ge_int) (fun _ _ => rfl)) (ge_int) (nomark _)) (gss_cons (gs_set (i := 4) sc_l_take.nd rfl (by first | exact Or.inl rfl | exact Or.inr rfl) (ge_op op_mod r2_mod (ge_callTy call_int1 rc_int rfl T.int (by decide +kernel) (ga_cons (ge_ix (ge_var 0) (ge_int) (fun _ _ => rfl)) (ga_nil))) (ge_var 1)))
  (gss_cons (gs_put (ge_var 0) (ge_int) (ge_op op_fdivW r2_div (ge_ix (ge_var 0) (ge_int) (fun _ _ => rfl)) (ge_var 1)))
  (gss_one (gs_ret (ge_var 4))))) (gss_nil))
  (gss_cons (gs_put (ge_var 0) (ge_int) (ge_op op_addA r2_add (ge_ix (ge_var 0) (ge_int) (fun _ _ => rfl)) (ge_int)))
  (gss_cons (gs_set (i := 2) sc_l_take.nd rfl (by first | exact Or.inl rfl | exact Or.inr rfl) (ge_ix (ge_lst (ga_cons (ge_int) (ga_cons (ge_int) (ga_cons (ge_int) (ga_cons (ge_int) (ga_cons (ge_int) (ga_nil))))))) (ge_op op_mod r2_mod (ge_callTy call_int1 rc_int rfl T.int (by decide +kernel) (ga_cons (ge_ix (ge_var 0) (ge_int) (fun _ _ => rfl)) (ga_nil))) (ge_int)) (fun _ _ => rfl)))
  (gss_cons (gs_set (i := 3) sc_l_take.nd rfl (by first | exact Or.inl rfl | exact Or.inr rfl) (ge_op op_mod r2_mod (ge_callTy call_int1 rc_int rfl T.int (by decide +kernel) (ga_cons (ge_op op_powW r2_pow (ge_callTy call_int1 rc_int rfl T.int (by decide +kernel) (ga_cons (ge_op op_addA r2_add (ge_op op_addA r2_add (ge_ix (ge_var 0) (ge_int) (fun _ _ => rfl)) (ge_op (op_mulW.or (op_repT.or op_repX)) r2_mulA (ge_op (op_mulW.or (op_repT.or op_repX)) r2_mulA (ge_int) (ge_ix (ge_var 0) (ge_int) (fun _ _ => rfl))) (ge_ix (ge_var 0) (ge_int) (fun _ _ => rfl)))) (ge_int)) (ga_nil))) (ge_int)) (ga_nil))) (ge_var 2)))
  (gss_cons (gs_set (i := 3) sc_l_take.nd rfl (by first | exact Or.inl rfl | exact Or.inr rfl) (ge_op op_mod r2_mod (ge_callTy call_int1 rc_int rfl T.int (by decide +kernel) (ga_cons (ge_op (op_mulW.or (op_repT.or op_repX)) r2_mulA (ge_var 3) (ge_op op_addA r2_add (ge_op op_mod r2_mod (ge_callTy call_int1 rc_int rfl T.int (by decide +kernel) (ga_cons (ge_var 3) (ga_nil))) (ge_int)) (ge_op (op_mulW.or (op_repT.or op_repX)) r2_mulA (ge_int) (ge_ix (ge_var 0) (ge_int) (fun _ _ => rfl))))) (ga_nil))) (ge_int)))
  (gss_one (gs_ret (ge_op op_mod r2_mod (ge_callTy call_int1 rc_int rfl T.int (by decide +kernel) (ga_cons (ge_op op_fdivW r2_div (ge_var 3) (ge_int)) (ga_nil))) (ge_var 1)))))))))
abbrev s_l_is_int : Stmt := topS 17
theorem sc_l_is_int : FnScope ["_law_thing_here"] ["_law_thing_here"] (defScope s_l_is_int) := ⟨rfl, rfl, rfl, by decide +kernel, rfl, by decide +kernel, by decide +kernel⟩
def m_l_is_int : List W → Store → Res W := fnM 1 1
  (sRet (mAndV (mUn (fIsK 0) (mV 0)) (mNotV (mUn (fIsK 1) (mV 0)))))
theorem ok_l_is_int (T : Blt K mg) (D : DefAt K mg "_law_is_int" s_l_is_int) : DefOk P w K mg base "_law_is_int" s_l_is_int 1 ["_law_thing_here"] m_l_is_int :=
  defOk_of (N := ["_law_thing_here"]) D sc_l_is_int fun f cdv A outer s H E hr hg =>
  (gss_one (gs_ret (ge_and (ge_isiZ isk_int (T := "int") ty_int rfl T.isinstance rfl T.int (by decide +kernel) (ge_var 0)) (ge_one (ge_not (ge_isiZ isk_bool (T := "bool") ty_bool rfl T.isinstance rfl T.bool (by decide +kernel) (ge_var 0)))))))
abbrev s_is_count : Stmt := topS 6
theorem sc_is_count : FnScope ["value"] ["value"] (defScope s_is_count) := ⟨rfl, rfl, rfl, by decide +kernel, rfl, by decide +kernel, by decide +kernel⟩
def m_is_count : List W → Store → Res W := fnM 1 1
  (sRet (mAndV (mCall m_is_integer (mCons (mV 0) (mNil))) (mOp fGe (mV 0) (mC (.int 0)))))
theorem ok_is_count (T : Blt K mg) (D : DefAt K mg "is_count" s_is_count) (D_is_integer : DefOkN P w K mg base "is_integer" s_is_integer 1 ["value"] m_is_integer) : DefOkN P w K mg base "is_count" s_is_count 2 ["value"] m_is_count :=
  defOkN_of (N := ["value"]) D sc_is_count fun f cdv A outer s H E hr =>
  (gss_one (gs_ret (ge_and (ge_callND D_is_integer hr (takes_of rfl rfl rfl rfl) rfl (fun _ _ _ _ _ _ us hl => match us, hl with | [_], _ => rfl) (ga_cons (ge_var 0) (ga_nil))) (ge_one (ge_cmp (op_geP hr.units) r2_data (ge_var 0) (ge_int) (nomark _))))))
abbrev s_l_of : Stmt := topS 16
theorem sc_l_of : FnScope ["_law_pot_here", "_law_some"] ["_law_pot_here", "_law_some"] (defScope s_l_of) := ⟨rfl, rfl, rfl, by decide +kernel, rfl, by decide +kernel, by decide +kernel⟩
def m_l_of : List W → Store → Res W := fnM 2 2
  (sRet (mOp fIx (mV 1) (mCall m_l_take (mCons (mV 0) (mCons (mCall fLen (mCons (mV 1) (mNil))) (mNil))))))
theorem ok_l_of (T : Blt K mg) (D : DefAt K mg "_law_of" s_l_of) (D_l_take : DefOk P w K mg base "_law_take" s_l_take 1 ["_law_pot_here", "_law_upto"] m_l_take) : DefOk P w K mg base "_law_of" s_l_of 2 ["_law_pot_here", "_law_some"] m_l_of :=
  defOk_of (N := ["_law_pot_here", "_law_some"]) D sc_l_of fun f cdv A outer s H E hr hg =>
  (gss_one (gs_ret (ge_ix (ge_var 1) (ge_callD D_l_take hr hg (takes_of rfl rfl rfl rfl) rfl (fun _ _ _ _ _ _ us hl => match us, hl with | [_, _], _ => rfl) (ga_cons (ge_var 0) (ga_cons (ge_callB call_len rc_len rfl T.len (by decide +kernel) (ga_cons (ge_var 1) (ga_nil))) (ga_nil)))) (fun _ _ => rfl))))
abbrev s_l_is_due : Stmt := topS 18
theorem sc_l_is_due : FnScope ["_law_thing_here"] ["_law_thing_here"] (defScope s_l_is_due) := ⟨rfl, rfl, rfl, by decide +kernel, rfl, by decide +kernel, by decide +kernel⟩
def m_l_is_due : List W → Store → Res W := fnM 1 1
  (sSeq (sIf (mOr (mNot (mTru (mUn (fIsK 3) (mV 0)))) (mB (mOp fNe (mCall fLen (mCons (mV 0) (mNil))) (mC (.int 2))))) (sRet (mC (.bl false))) (sNx))
  (sRet (mAndV (mCall m_l_is_int (mCons (mOp fIx (mV 0) (mC (.int 0))) (mNil))) (mAndV (mCall m_l_is_int (mCons (mOp fIx (mV 0) (mC (.int 1))) (mNil))) (mAndV (mOp fGe (mOp fIx (mV 0) (mC (.int 0))) (mC (.int 0))) (mOp fGe (mOp fIx (mV 0) (mC (.int 1))) (mC (.int 0))))))))
theorem ok_l_is_due (T : Blt K mg) (D : DefAt K mg "_law_is_due" s_l_is_due) (D_l_is_int : DefOk P w K mg base "_law_is_int" s_l_is_int 1 ["_law_thing_here"] m_l_is_int) : DefOk P w K mg base "_law_is_due" s_l_is_due 2 ["_law_thing_here"] m_l_is_due :=
  defOk_of (N := ["_law_thing_here"]) D sc_l_is_due fun f cdv A outer s H E hr hg =>
  (gss_cons (gs_if (GW.pt (gw_or (gt_not (gt_tru (ge_isiZ isk_tuple (T := "tuple") ty_tuple rfl T.isinstance rfl T.tuple (by decide +kernel) (ge_var 0)) (fun _ => rfl))) (gw_or1 (gt_cmp (op_neP hr.units) r2_data (ge_callB call_len rc_len rfl T.len (by decide +kernel) (ga_cons (ge_var 0) (ga_nil))) (ge_int) (nomark _))))) (gss_one (gs_ret (ge_bl))) (gss_nil))
  (gss_one (gs_ret (ge_and (ge_callD D_l_is_int hr hg (takes_of rfl rfl rfl rfl) rfl (fun _ _ _ _ _ _ us hl => match us, hl with | [_], _ => rfl) (ga_cons (ge_ix (ge_var 0) (ge_int) (fun _ _ => rfl)) (ga_nil))) (ge_and (ge_callD D_l_is_int hr hg (takes_of rfl rfl rfl rfl) rfl (fun _ _ _ _ _ _ us hl => match us, hl with | [_], _ => rfl) (ga_cons (ge_ix (ge_var 0) (ge_int) (fun _ _ => rfl)) (ga_nil))) (ge_and (ge_cmp (op_geP hr.units) r2_data (ge_ix (ge_var 0) (ge_int) (fun _ _ => rfl)) (ge_int) (nomark _)) (ge_one (ge_cmp (op_geP hr.units) r2_data (ge_ix (ge_var 0) (ge_int) (fun _ _ => rfl)) (ge_int) (nomark _)))))))))
abbrev s_is_stamp : Stmt := topS 9
theorem sc_is_stamp : FnScope ["value"] ["value"] (defScope s_is_stamp) := ⟨rfl, rfl, rfl, by decide +kernel, rfl, by decide +kernel, by decide +kernel⟩
def m_is_stamp : List W → Store → Res W := fnM 1 1
  (sRet (mAndV (mCall m_is_tuple_of (mCons (mV 0) (mCons (mC (.int 2)) (mNil)))) (mAndV (mCall m_is_count (mCons (mOp fIx (mV 0) (mC (.int 0))) (mNil))) (mCall m_is_count (mCons (mOp fIx (mV 0) (mC (.int 1))) (mNil))))))
theorem ok_is_stamp (T : Blt K mg) (D : DefAt K mg "is_stamp" s_is_stamp) (D_is_tuple_of : DefOkN P w K mg base "is_tuple_of" s_is_tuple_of 1 ["value", "many"] m_is_tuple_of) (D_is_count : DefOkN P w K mg base "is_count" s_is_count 2 ["value"] m_is_count) : DefOkN P w K mg base "is_stamp" s_is_stamp 3 ["value"] m_is_stamp :=
  defOkN_of (N := ["value"]) D sc_is_stamp fun f cdv A outer s H E hr =>
  (gss_one (gs_ret (ge_and (ge_callND D_is_tuple_of (hr.mono (by decide)) (takes_of rfl rfl rfl rfl) rfl (fun _ _ _ _ _ _ us hl => match us, hl with | [_, _], _ => rfl) (ga_cons (ge_var 0) (ga_cons (ge_int) (ga_nil)))) (ge_and (ge_callND D_is_count hr (takes_of rfl rfl rfl rfl) rfl (fun _ _ _ _ _ _ us hl => match us, hl with | [_], _ => rfl) (ga_cons (ge_ix (ge_var 0) (ge_int) (fun _ _ => rfl)) (ga_nil))) (ge_one (ge_callND D_is_count hr (takes_of rfl rfl rfl rfl) rfl (fun _ _ _ _ _ _ us hl => match us, hl with | [_], _ => rfl) (ga_cons (ge_ix (ge_var 0) (ge_int) (fun _ _ => rfl)) (ga_nil))))))))
abbrev s_l_odd : Stmt := topS 19
theorem sc_l_odd : FnScope ["_law_pot_here", "_law_some"] ["_law_pot_here"] (defScope s_l_odd) := ⟨rfl, rfl, rfl, by decide +kernel, rfl, by decide +kernel, by decide +kernel⟩
def m_l_odd : List W → Store → Res W := fnM 1 2
  (sSeq (sSet 1 (mLst (mCons (mC (.int 0)) (mCons (mC (.int 1)) (mCons (mC (.int 2)) (mCons (mC (.int 7)) (mCons (mC (.int 999)) (mCons (mOp fPow (mC (.int 10)) (mC (.int 6))) (mCons (mUn fNeg (mC (.int 1))) (mCons (mUn fNeg (mC (.int 7))) (mCons (mC (.bl true)) (mCons (mC (.bl false)) (mCons (mC .non) (mCons (mC (.str z_0)) (mCons (mC (.str z__)) (mCons (mTup (mNil)) (mCons (mTup (mCons (mC (.int 0)) (mNil))) (mCons (mLst (mCons (mC (.int 0)) (mNil))) (mCons (mC (.dic [] [])) (mNil))))))))))))))))))))
  (sRet (mCall m_l_of (mCons (mV 0) (mCons (mOp fAddE (mV 1) (mLst (mCons (mC (.int 0)) (mCons (mC (.int 3)) (mCons (mC (.int 5)) (mCons (mOp fPow (mC (.int 10)) (mC (.int 20))) (mCons (mTup (mCons (mC (.int 0)) (mCons (mC (.int 0)) (mNil)))) (mCons (mLst (mCons (mC (.int 0)) (mCons (mC (.int 0)) (mNil)))) (mCons (mC (.str z_a)) (mCons (mDispD (((mC (.int 0)), (mC (.int 0))) :: [])) (mNil))))))))))) (mNil))))))
theorem ok_l_odd (T : Blt K mg) (D : DefAt K mg "_law_odd" s_l_odd) (D_l_of : DefOk P w K mg base "_law_of" s_l_of 2 ["_law_pot_here", "_law_some"] m_l_of) : DefOk P w K mg base "_law_odd" s_l_odd 3 ["_law_pot_here"] m_l_odd :=
  defOk_of (N := ["_law_pot_here", "_law_some"]) D sc_l_odd fun f cdv A outer s H E hr hg =>
  (gss_cons (gs_set (i := 1) sc_l_odd.nd rfl (by first | exact Or.inl rfl | exact Or.inr rfl) (ge_lst (ga_cons (ge_int) (ga_cons (ge_int) (ga_cons (ge_int) (ga_cons (ge_int) (ga_cons (ge_int) (ga_cons (ge_op op_powW r2_pow (ge_int) (ge_int)) (ga_cons (ge_un un_neg un_of_neg (ge_int)) (ga_cons (ge_un un_neg un_of_neg (ge_int)) (ga_cons (ge_bl) (ga_cons (ge_bl) (ga_cons (ge_non) (ga_cons (ge_strZ y_0) (ga_cons (ge_strZ y__) (ga_cons (ge_tup (ga_nil)) (ga_cons (ge_tup (ga_cons (ge_int) (ga_nil))) (ga_cons (ge_lst (ga_cons (ge_int) (ga_nil))) (ga_cons (ge_dic0) (ga_nil))))))))))))))))))))
  (gss_one (gs_ret (ge_callD D_l_of hr hg (takes_of rfl rfl rfl rfl) rfl (fun _ _ _ _ _ _ us hl => match us, hl with | [_, _], _ => rfl) (ga_cons (ge_var 0) (ga_cons (ge_op (op_addB.or op_addA) r2_addE (ge_var 1) (ge_lst (ga_cons (ge_int) (ga_cons (ge_int) (ga_cons (ge_int) (ga_cons (ge_op op_powW r2_pow (ge_int) (ge_int)) (ga_cons (ge_tup (ga_cons (ge_int) (ga_cons (ge_int) (ga_nil)))) (ga_cons (ge_lst (ga_cons (ge_int) (ga_cons (ge_int) (ga_nil)))) (ga_cons (ge_strZ y_a) (ga_cons (ge_dispD (gpp_cons (ge_int) (ge_int) (gpp_nil))) (ga_nil))))))))))) (ga_nil)))))))
abbrev s_l_is_right : Stmt := topS 22
theorem sc_l_is_right : FnScope ["_law_found", "_law_thing_here", "_law_gap"] ["_law_found", "_law_thing_here", "_law_gap"] (defScope s_l_is_right) := ⟨rfl, rfl, rfl, by decide +kernel, rfl, by decide +kernel, by decide +kernel⟩
def m_l_is_right : List W → Store → Res W := fnM 3 3
  (sSeq (sIf (mNot (mTru (mCall m_l_is_due (mCons (mV 1) (mNil))))) (sRet (mOp fEq (mCall fReprE (mCons (mV 0) (mNil))) (mCall fReprE (mCons (mTup (mCons (mC (.str z_stamp)) (mCons (mV 1) (mNil)))) (mNil))))) (sNx))
  (sSeq (sIf (mOr (mNot (mTru (mCall m_l_is_int (mCons (mV 2) (mNil))))) (mB (mOp fLt (mV 2) (mC (.int 0))))) (sRet (mOp fEq (mCall fReprE (mCons (mV 0) (mNil))) (mCall fReprE (mCons (mTup (mCons (mC (.str z_delay)) (mCons (mV 2) (mNil)))) (mNil))))) (sNx))
  (sRet (mAndV (mOp fEq (mOp fIx (mV 0) (mC (.int 0))) (mC (.str z_told))) (mCall m_l_is_due (mCons (mOp fIx (mV 0) (mC (.int 1))) (mNil)))))))
theorem ok_l_is_right (T : Blt K mg) (D : DefAt K mg "_law_is_right" s_l_is_right) (D_l_is_due : DefOk P w K mg base "_law_is_due" s_l_is_due 2 ["_law_thing_here"] m_l_is_due) (D_l_is_int : DefOk P w K mg base "_law_is_int" s_l_is_int 1 ["_law_thing_here"] m_l_is_int) (D_Sm : SmB base) : DefOk P w K mg base "_law_is_right" s_l_is_right 3 ["_law_found", "_law_thing_here", "_law_gap"] m_l_is_right :=
  defOk_of (N := ["_law_found", "_law_thing_here", "_law_gap"]) D sc_l_is_right fun f cdv A outer s H E hr hg =>
  (gss_cons (gs_if (gt_not (gt_tru (ge_callD D_l_is_due hr hg (takes_of rfl rfl rfl rfl) rfl (fun _ _ _ _ _ _ us hl => match us, hl with | [_], _ => rfl) (ga_cons (ge_var 1) (ga_nil))) (fun _ => rfl))) (gss_one (gs_ret (ge_cmp (op_eqP hr.units) r2_data (ge_callB (call_reprE D_Sm hg hr.units) rc_reprE rfl T.repr (by decide +kernel) (ga_cons (ge_var 0) (ga_nil))) (ge_callB (call_reprE D_Sm hg hr.units) rc_reprE rfl T.repr (by decide +kernel) (ga_cons (ge_tup (ga_cons (ge_strZ y_stamp) (ga_cons (ge_var 1) (ga_nil)))) (ga_nil))) (nomark _)))) (gss_nil))
  (gss_cons (gs_if (GW.pt (gw_or (gt_not (gt_tru (ge_callD D_l_is_int (hr.mono (by decide)) hg (takes_of rfl rfl rfl rfl) rfl (fun _ _ _ _ _ _ us hl => match us, hl with | [_], _ => rfl) (ga_cons (ge_var 2) (ga_nil))) (fun _ => rfl))) (gw_or1 (gt_cmp (op_ltP hr.units) r2_data (ge_var 2) (ge_int) (nomark _))))) (gss_one (gs_ret (ge_cmp (op_eqP hr.units) r2_data (ge_callB (call_reprE D_Sm hg hr.units) rc_reprE rfl T.repr (by decide +kernel) (ga_cons (ge_var 0) (ga_nil))) (ge_callB (call_reprE D_Sm hg hr.units) rc_reprE rfl T.repr (by decide +kernel) (ga_cons (ge_tup (ga_cons (ge_strZ y_delay) (ga_cons (ge_var 2) (ga_nil)))) (ga_nil))) (nomark _)))) (gss_nil))
  (gss_one (gs_ret (ge_and (ge_cmp (op_eqP hr.units) r2_data (ge_ix (ge_var 0) (ge_int) (fun _ _ => rfl)) (ge_strZ y_told) (nomark _)) (ge_one (ge_callD D_l_is_due hr hg (takes_of rfl rfl rfl rfl) rfl (fun _ _ _ _ _ _ us hl => match us, hl with | [_], _ => rfl) (ga_cons (ge_ix (ge_var 0) (ge_int) (fun _ _ => rfl)) (ga_nil)))))))))
abbrev s_require_both : Stmt := topS 12
theorem sc_require_both : FnScope ["stamp", "delay"] ["stamp", "delay"] (defScope s_require_both) := ⟨rfl, rfl, rfl, by decide +kernel, rfl, by decide +kernel, by decide +kernel⟩
def m_require_both : List W → Store → Res W := fnM 2 2
  (sSeq (sIf (mNot (mTru (mCall m_is_stamp (mCons (mV 0) (mNil))))) (sRaise1 "BadStamp" "value" (mCons (mV 0) (mNil))) (sNx))
  (sIf (mNot (mTru (mCall m_is_count (mCons (mV 1) (mNil))))) (sRaise1 "BadDelay" "value" (mCons (mV 1) (mNil))) (sNx)))
theorem ok_require_both (T : Blt K mg) (D : DefAt K mg "require_both" s_require_both) (D_is_stamp : DefOkN P w K mg base "is_stamp" s_is_stamp 3 ["value"] m_is_stamp) (D_is_count : DefOkN P w K mg base "is_count" s_is_count 2 ["value"] m_is_count) (D_Err_BadStamp : ErrOk P w K mg base "BadStamp" "value") (D_Err_BadDelay : ErrOk P w K mg base "BadDelay" "value") : DefOkN P w K mg base "require_both" s_require_both 4 ["stamp", "delay"] m_require_both :=
  defOkN_of (N := ["stamp", "delay"]) D sc_require_both fun f cdv A outer s H E hr =>
  (gss_cons (gs_if (gt_not (gt_tru (ge_callND D_is_stamp hr (takes_of rfl rfl rfl rfl) rfl (fun _ _ _ _ _ _ us hl => match us, hl with | [_], _ => rfl) (ga_cons (ge_var 0) (ga_nil))) (fun _ => rfl))) (gss_one (gs_raiseE rfl (takes_of rfl rfl rfl rfl) D_Err_BadStamp (hr.mono (by decide)) rfl (ga_cons (ge_var 0) (ga_nil)))) (gss_nil))
  (gss_one (gs_if (gt_not (gt_tru (ge_callND D_is_count (hr.mono (by decide)) (takes_of rfl rfl rfl rfl) rfl (fun _ _ _ _ _ _ us hl => match us, hl with | [_], _ => rfl) (ga_cons (ge_var 1) (ga_nil))) (fun _ => rfl))) (gss_one (gs_raiseE rfl (takes_of rfl rfl rfl rfl) D_Err_BadDelay (hr.mono (by decide)) rfl (ga_cons (ge_var 1) (ga_nil)))) (gss_nil))))
abbrev s_l_thing : Stmt := topS 20
theorem sc_l_thing : FnScope ["_law_pot_here", "_law_way", "_law_one", "_law_other"] ["_law_pot_here"] (defScope s_l_thing) := ⟨rfl, rfl, rfl, by decide +kernel, rfl, by decide +kernel, by decide +kernel⟩
def m_l_thing : List W → Store → Res W := fnM 1 4
  (sSeq (sPar3 1 2 3 (mCons (mCall m_l_take (mCons (mV 0) (mCons (mC (.int 9)) (mNil)))) (mCons (mCall m_l_odd (mCons (mV 0) (mNil))) (mCons (mCall m_l_odd (mCons (mV 0) (mNil))) (mNil)))))
  (sSeq (sIf (mB (mOp fLt (mV 1) (mC (.int 4)))) (sRet (mTup (mCons (mCall m_l_take (mCons (mV 0) (mCons (mC (.int 50)) (mNil)))) (mCons (mCall m_l_take (mCons (mV 0) (mCons (mC (.int 4)) (mNil)))) (mNil))))) (sNx))
  (sSeq (sIf (mB (mOp fLt (mV 1) (mC (.int 7)))) (sRet (mTup (mCons (mV 2) (mCons (mV 3) (mNil))))) (sNx))
  (sRet (mOp fIx (mLst (mCons (mV 2) (mCons (mLst (mCons (mV 2) (mCons (mV 3) (mNil)))) (mCons (mTup (mCons (mV 2) (mNil))) (mCons (mTup (mCons (mV 2) (mCons (mV 3) (mCons (mV 2) (mNil))))) (mCons (mTup (mCons (mTup (mCons (mV 2) (mCons (mV 3) (mNil)))) (mNil))) (mCons (mTup (mCons (mC (.int 0)) (mCons (mV 2) (mNil)))) (mCons (mTup (mCons (mV 2) (mCons (mC (.int 0)) (mNil)))) (mNil))))))))) (mCall m_l_take (mCons (mV 0) (mCons (mC (.int 7)) (mNil)))))))))
theorem ok_l_thing (T : Blt K mg) (D : DefAt K mg "_law_thing" s_l_thing) (D_l_odd : DefOk P w K mg base "_law_odd" s_l_odd 3 ["_law_pot_here"] m_l_odd) (D_l_take : DefOk P w K mg base "_law_take" s_l_take 1 ["_law_pot_here", "_law_upto"] m_l_take) : DefOk P w K mg base "_law_thing" s_l_thing 4 ["_law_pot_here"] m_l_thing :=
  defOk_of (N := ["_law_pot_here", "_law_way", "_law_one", "_law_other"]) D sc_l_thing fun f cdv A outer s H E hr hg =>
  (gss_cons (gs_par3 (i := 1) (j := 2) (l := 3) rfl sc_l_thing.nd rfl rfl rfl (by decide) (by decide) (by decide) rfl rfl rfl (ga_cons (ge_callD D_l_take (hr.mono (by decide)) hg (takes_of rfl rfl rfl rfl) rfl (fun _ _ _ _ _ _ us hl => match us, hl with | [_, _], _ => rfl) (ga_cons (ge_var 0) (ga_cons (ge_int) (ga_nil)))) (ga_cons (ge_callD D_l_odd hr hg (takes_of rfl rfl rfl rfl) rfl (fun _ _ _ _ _ _ us hl => match us, hl with | [_], _ => rfl) (ga_cons (ge_var 0) (ga_nil))) (ga_cons (ge_callD D_l_odd hr hg (takes_of rfl rfl rfl rfl) rfl (fun _ _ _ _ _ _ us hl => match us, hl with | [_], _ => rfl) (ga_cons (ge_var 0) (ga_nil))) (ga_nil)))) (by rfl))
  (gss_cons (gs_if (gt_cmp (op_ltP hr.units) r2_data (ge_var 1) (ge_int) (nomark _)) (gss_one (gs_ret (ge_tup (ga_cons (ge_callD D_l_take (hr.mono (by decide)) hg (takes_of rfl rfl rfl rfl) rfl (fun _ _ _ _ _ _ us hl => match us, hl with | [_, _], _ => rfl) (ga_cons (ge_var 0) (ga_cons (ge_int) (ga_nil)))) (ga_cons (ge_callD D_l_take (hr.mono (by decide)) hg (takes_of rfl rfl rfl rfl) rfl (fun _ _ _ _ _ _ us hl => match us, hl with | [_, _], _ => rfl) (ga_cons (ge_var 0) (ga_cons (ge_int) (ga_nil)))) (ga_nil)))))) (gss_nil))
  (gss_cons (gs_if (gt_cmp (op_ltP hr.units) r2_data (ge_var 1) (ge_int) (nomark _)) (gss_one (gs_ret (ge_tup (ga_cons (ge_var 2) (ga_cons (ge_var 3) (ga_nil)))))) (gss_nil))
  (gss_one (gs_ret (ge_ix (ge_lst (ga_cons (ge_var 2) (ga_cons (ge_lst (ga_cons (ge_var 2) (ga_cons (ge_var 3) (ga_nil)))) (ga_cons (ge_tup (ga_cons (ge_var 2) (ga_nil))) (ga_cons (ge_tup (ga_cons (ge_var 2) (ga_cons (ge_var 3) (ga_cons (ge_var 2) (ga_nil))))) (ga_cons (ge_tup (ga_cons (ge_tup (ga_cons (ge_var 2) (ga_cons (ge_var 3) (ga_nil)))) (ga_nil))) (ga_cons (ge_tup (ga_cons (ge_int) (ga_cons (ge_var 2) (ga_nil)))) (ga_cons (ge_tup (ga_cons (ge_var 2) (ga_cons (ge_int) (ga_nil)))) (ga_nil))))))))) (ge_callD D_l_take (hr.mono (by decide)) hg (takes_of rfl rfl rfl rfl) rfl (fun _ _ _ _ _ _ us hl => match us, hl with | [_, _], _ => rfl) (ga_cons (ge_var 0) (ga_cons (ge_int) (ga_nil)))) (fun _ _ => rfl)))))))
abbrev s_later : Stmt := topS 10
theorem sc_later : FnScope ["stamp", "delay", "time", "turn"] ["stamp", "delay"] (defScope s_later) := ⟨rfl, rfl, rfl, by decide +kernel, rfl, by decide +kernel, by decide +kernel⟩
def m_later : List W → Store → Res W := fnM 2 4
  (sSeq (sDrop (mCall m_require_both (mCons (mV 0) (mCons (mV 1) (mNil)))))
  (sSeq (sUnp [2, 3] (mV 0))
  (sSeq (sIf (mTru (mV 1)) (sRet (mTup (mCons (mOp fAdd (mV 2) (mV 1)) (mCons (mC (.int 0)) (mNil))))) (sNx))
  (sRet (mTup (mCons (mV 2) (mCons (mOp fAdd (mV 3) (mC (.int 1))) (mNil))))))))
theorem ok_later (T : Blt K mg) (D : DefAt K mg "later" s_later) (D_require_both : DefOkN P w K mg base "require_both" s_require_both 4 ["stamp", "delay"] m_require_both) : DefOkN P w K mg base "later" s_later 5 ["stamp", "delay"] m_later :=
  defOkN_of (N := ["stamp", "delay", "time", "turn"]) D sc_later fun f cdv A outer s H E hr =>
  (gss_cons (gs_expr (ge_callND D_require_both hr (takes_of rfl rfl rfl rfl) rfl (fun _ _ _ _ _ _ us hl => match us, hl with | [_, _], _ => rfl) (ga_cons (ge_var 0) (ga_cons (ge_var 1) (ga_nil)))))
  (gss_cons (gs_unp (is := [2, 3]) (pg_tup rfl (pgs_cons (pg_name (i := 2) sc_later.nd rfl (by first | exact Or.inl rfl | exact Or.inr rfl)) (pgs_cons (pg_name (i := 3) sc_later.nd rfl (by first | exact Or.inl rfl | exact Or.inr rfl)) (pgs_nil)))) (ge_var 0))
  (gss_cons (gs_if (gt_tru (ge_var 1) (fun _ => rfl)) (gss_one (gs_ret (ge_tup (ga_cons (ge_op op_addA r2_add (ge_var 2) (ge_var 1)) (ga_cons (ge_int) (ga_nil)))))) (gss_nil))
  (gss_one (gs_ret (ge_tup (ga_cons (ge_var 2) (ga_cons (ge_op op_addA r2_add (ge_var 3) (ge_int)) (ga_nil)))))))))
abbrev s_ahead_of : Stmt := topS 11
theorem sc_ahead_of : FnScope ["stamp", "delay", "time", "turn", "least"] ["stamp", "delay"] (defScope s_ahead_of) := ⟨rfl, rfl, rfl, by decide +kernel, rfl, by decide +kernel, by decide +kernel⟩
def m_ahead_of : List W → Store → Res W := fnM 2 5
  (sSeq (sDrop (mCall m_require_both (mCons (mV 0) (mCons (mV 1) (mNil)))))
  (sSeq (sUnp [2, 3] (mV 0))
  (sSeq (sIf (mNot (mTru (mV 1))) (sRet (mTup (mCons (mV 2) (mCons (mCall fMax2 (mCons (mOp fSub (mV 3) (mC (.int 1))) (mCons (mC (.int 0)) (mNil)))) (mNil))))) (sNx))
  (sSeq (sSet 4 (mOp fAdd (mOp fSub (mV 2) (mV 1)) (mIf (mTru (mV 3)) (mC (.int 1)) (mC (.int 0)))))
  (sRet (mTup (mCons (mCall fMax2 (mCons (mV 4) (mCons (mC (.int 0)) (mNil)))) (mCons (mC (.int 0)) (mNil)))))))))
theorem ok_ahead_of (T : Blt K mg) (D : DefAt K mg "ahead_of" s_ahead_of) (D_require_both : DefOkN P w K mg base "require_both" s_require_both 4 ["stamp", "delay"] m_require_both) : DefOkN P w K mg base "ahead_of" s_ahead_of 5 ["stamp", "delay"] m_ahead_of :=
  defOkN_of (N := ["stamp", "delay", "time", "turn", "least"]) D sc_ahead_of fun f cdv A outer s H E hr =>
  (gss_cons (gs_expr (ge_callND D_require_both hr (takes_of rfl rfl rfl rfl) rfl (fun _ _ _ _ _ _ us hl => match us, hl with | [_, _], _ => rfl) (ga_cons (ge_var 0) (ga_cons (ge_var 1) (ga_nil)))))
  (gss_cons (gs_unp (is := [2, 3]) (pg_tup rfl (pgs_cons (pg_name (i := 2) sc_ahead_of.nd rfl (by first | exact Or.inl rfl | exact Or.inr rfl)) (pgs_cons (pg_name (i := 3) sc_ahead_of.nd rfl (by first | exact Or.inl rfl | exact Or.inr rfl)) (pgs_nil)))) (ge_var 0))
  (gss_cons (gs_if (gt_not (gt_tru (ge_var 1) (fun _ => rfl))) (gss_one (gs_ret (ge_tup (ga_cons (ge_var 2) (ga_cons (ge_callB (call_max2 rfl) rc_max2 rfl T.max (by decide +kernel) (ga_cons (ge_op op_sub r2_sub (ge_var 3) (ge_int)) (ga_cons (ge_int) (ga_nil)))) (ga_nil)))))) (gss_nil))
  (gss_cons (gs_set (i := 4) sc_ahead_of.nd rfl (by first | exact Or.inl rfl | exact Or.inr rfl) (ge_op op_addA r2_add (ge_op op_sub r2_sub (ge_var 2) (ge_var 1)) (ge_if (gt_tru (ge_var 3) (fun _ => rfl)) (ge_int) (ge_int))))
  (gss_one (gs_ret (ge_tup (ga_cons (ge_callB (call_max2 rfl) rc_max2 rfl T.max (by decide +kernel) (ga_cons (ge_var 4) (ga_cons (ge_int) (ga_nil)))) (ga_cons (ge_int) (ga_nil))))))))))
abbrev s_l_caught : Stmt := topS 21
theorem sc_l_caught : FnScope ["_law_call", "_law_caught_here", "_law_told", "error", "_law_kinds"] ["_law_call"] (defScope s_l_caught) := ⟨rfl, rfl, rfl, by decide +kernel, rfl, by decide +kernel, by decide +kernel⟩
abbrev s_l_right : Stmt := topS 23
theorem sc_l_right : FnScope ["_law_pot_here", "_law_thing_here", "_law_gap", "_law_kept"] ["_law_pot_here"] (defScope s_l_right) := ⟨rfl, rfl, rfl, by decide +kernel, rfl, by decide +kernel, by decide +kernel⟩
def m_l_right_lam1 : Ev W := mCall m_later (mCons (mV 1) (mCons (mV 2) (mNil)))
def m_l_right_lam2 : Ev W := mCall m_ahead_of (mCons (mV 1) (mCons (mV 2) (mNil)))
def m_l_right : List W → Store → Res W := fnM 1 4
  (sSeq (sUnp [1, 2] (mTup (mCons (mCall m_l_thing (mCons (mV 0) (mNil))) (mCons (mCall m_l_of (mCons (mV 0) (mCons (mLst (mCons (mC (.int 0)) (mCons (mC (.int 3)) (mCons (mCall m_l_odd (mCons (mV 0) (mNil))) (mNil))))) (mNil)))) (mNil)))))
  (sSeq (sSet 3 (mCall fReprE (mCons (mTup (mCons (mV 1) (mCons (mV 2) (mNil)))) (mNil))))
  (sSeq (sIf (mOr (mB (mOp fNe (mCall fReprE (mCons (mCall m_is_stamp (mCons (mV 1) (mNil))) (mNil))) (mCall fReprE (mCons (mCall m_l_is_due (mCons (mV 1) (mNil))) (mNil))))) (mB (mOp fNe (mCall fReprE (mCons (mCall (kwM 1 [0] m_is_stamp) (mCons (mV 1) (mNil))) (mNil))) (mCall fReprE (mCons (mCall m_l_is_due (mCons (mV 1) (mNil))) (mNil)))))) (sRet (mC (.bl false))) (sNx))
  (sSeq (sIf (mNot (mTru (mCall m_l_is_right (mCons (mLam "BadStamp" "BadDelay" "value" z_told z_stamp z_delay (m_l_right_lam1)) (mCons (mV 1) (mCons (mV 2) (mNil))))))) (sRet (mC (.bl false))) (sNx))
  (sRet (mAndV (mCall m_l_is_right (mCons (mLam "BadStamp" "BadDelay" "value" z_told z_stamp z_delay (m_l_right_lam2)) (mCons (mV 1) (mCons (mV 2) (mNil))))) (mOp fEq (mCall fReprE (mCons (mTup (mCons (mV 1) (mCons (mV 2) (mNil)))) (mNil))) (mV 3))))))))
theorem ok_l_right (T : Blt K mg) {c9 T9 : Addr} (D : DefAtC K mg "_law_right" s_l_right c9) (D_l_of : DefOk P w K mg base "_law_of" s_l_of 2 ["_law_pot_here", "_law_some"] m_l_of) (D_l_odd : DefOk P w K mg base "_law_odd" s_l_odd 3 ["_law_pot_here"] m_l_odd) (D_l_thing : DefOk P w K mg base "_law_thing" s_l_thing 4 ["_law_pot_here"] m_l_thing) (D_is_stamp : DefOkN P w K mg base "is_stamp" s_is_stamp 3 ["value"] m_is_stamp) (D_l_is_due : DefOk P w K mg base "_law_is_due" s_l_is_due 2 ["_law_thing_here"] m_l_is_due) (D_l_is_right : DefOk P w K mg base "_law_is_right" s_l_is_right 3 ["_law_found", "_law_thing_here", "_law_gap"] m_l_is_right) (D_later : DefOkN P w K mg base "later" s_later 5 ["stamp", "delay"] m_later) (D_ahead_of : DefOkN P w K mg base "ahead_of" s_ahead_of 5 ["stamp", "delay"] m_ahead_of) (D_Sm : SmB base) (D_Lam : DefAt K mg "_law_caught" s_l_caught) (D_K1 : KeptOk K mg "BadStamp" "FarError" "BadDelay" "value") (D_K2 : KeptOk K mg "BadDelay" "FarError" "BadStamp" "value") (D_Tab : TabD mg base c9 T9 ("_law_right" ++ ".<locals>." ++ "<lambda>")) : DefOk P w K mg base "_law_right" s_l_right 8 ["_law_pot_here"] m_l_right :=
  defOkC_of (N := ["_law_pot_here", "_law_thing_here", "_law_gap", "_law_kept"]) D sc_l_right fun f A outer s H E hr hg =>
  (gss_cons (gs_unp (is := [1, 2]) (pg_tup rfl (pgs_cons (pg_name (i := 1) sc_l_right.nd rfl (by first | exact Or.inl rfl | exact Or.inr rfl)) (pgs_cons (pg_name (i := 2) sc_l_right.nd rfl (by first | exact Or.inl rfl | exact Or.inr rfl)) (pgs_nil)))) (ge_tup (ga_cons (ge_callD D_l_thing (hr.mono (by decide)) hg (takes_of rfl rfl rfl rfl) rfl (fun _ _ _ _ _ _ us hl => match us, hl with | [_], _ => rfl) (ga_cons (ge_var 0) (ga_nil))) (ga_cons (ge_callD D_l_of (hr.mono (by decide)) hg (takes_of rfl rfl rfl rfl) rfl (fun _ _ _ _ _ _ us hl => match us, hl with | [_, _], _ => rfl) (ga_cons (ge_var 0) (ga_cons (ge_lst (ga_cons (ge_int) (ga_cons (ge_int) (ga_cons (ge_callD D_l_odd (hr.mono (by decide)) hg (takes_of rfl rfl rfl rfl) rfl (fun _ _ _ _ _ _ us hl => match us, hl with | [_], _ => rfl) (ga_cons (ge_var 0) (ga_nil))) (ga_nil))))) (ga_nil)))) (ga_nil)))))
  (gss_cons (gs_set (i := 3) sc_l_right.nd rfl (by first | exact Or.inl rfl | exact Or.inr rfl) (ge_callB (call_reprE D_Sm hg hr.units) rc_reprE rfl T.repr (by decide +kernel) (ga_cons (ge_tup (ga_cons (ge_var 1) (ga_cons (ge_var 2) (ga_nil)))) (ga_nil))))
  (gss_cons (gs_if (GW.pt (gw_or (gt_cmp (op_neP hr.units) r2_data (ge_callB (call_reprE D_Sm hg hr.units) rc_reprE rfl T.repr (by decide +kernel) (ga_cons (ge_callND D_is_stamp (hr.mono (by decide)) (takes_of rfl rfl rfl rfl) rfl (fun _ _ _ _ _ _ us hl => match us, hl with | [_], _ => rfl) (ga_cons (ge_var 1) (ga_nil))) (ga_nil))) (ge_callB (call_reprE D_Sm hg hr.units) rc_reprE rfl T.repr (by decide +kernel) (ga_cons (ge_callD D_l_is_due (hr.mono (by decide)) hg (takes_of rfl rfl rfl rfl) rfl (fun _ _ _ _ _ _ us hl => match us, hl with | [_], _ => rfl) (ga_cons (ge_var 1) (ga_nil))) (ga_nil))) (nomark _)) (gw_or1 (gt_cmp (op_neP hr.units) r2_data (ge_callB (call_reprE D_Sm hg hr.units) rc_reprE rfl T.repr (by decide +kernel) (ga_cons (ge_callKD (ks := ["value"]) (ix := [0]) D_is_stamp.G (hr.mono (by decide)) hg (takes_of rfl rfl rfl rfl) rfl (fun _ _ _ _ _ _ us hl => match us, hl with | [_], _ => rfl) (gk_cons (ge_var 1) (gk_nil))) (ga_nil))) (ge_callB (call_reprE D_Sm hg hr.units) rc_reprE rfl T.repr (by decide +kernel) (ga_cons (ge_callD D_l_is_due (hr.mono (by decide)) hg (takes_of rfl rfl rfl rfl) rfl (fun _ _ _ _ _ _ us hl => match us, hl with | [_], _ => rfl) (ga_cons (ge_var 1) (ga_nil))) (ga_nil))) (nomark _))))) (gss_one (gs_ret (ge_bl))) (gss_nil))
  (gss_cons (gs_if (gt_not (gt_tru (ge_callD D_l_is_right (hr.mono (by decide)) hg (takes_of rfl rfl rfl rfl) rfl (fun _ _ _ _ _ _ us hl => match us, hl with | [_, _, _], _ => rfl) (ga_cons (ge_lamcallD (k := 5) (Ng := ["_law_call", "_law_caught_here", "_law_told", "error", "_law_kinds"]) y_told y_stamp y_delay D_Lam D_K1 D_K2 D_Tab rfl rfl rfl (fun _ _ _ _ _ _ us hl => match us, hl with | [_], _ => rfl) sc_l_caught rfl (.inl rfl) (fun g FAR A1 A2 cdv e1 e2 eF => caught_givesU (by decide) rfl rfl rfl rfl (by decide) (by decide) (by decide) (by decide) (by decide) (by decide) (by decide) rfl T.isinstance rfl e1 rfl e2 rfl eF (by decide) (by decide) (by decide) rfl T.ValueError rfl rfl (fun _ => by first | rfl | kernel_rfl) (fun _ => by first | rfl | kernel_rfl) (fun _ => by first | rfl | kernel_rfl) (fun _ => by first | rfl | kernel_rfl) (fun _ => by first | rfl | kernel_rfl)) hr (LamX.lamS_by (by kernel_rfl)) rfl (fun _ _ _ _ _ => rfl) (fun A2 outer2 s2 H2 E2 f2 c2 hr2 => ge_callND D_later (hr2.mono (by decide)) (takes_of rfl rfl rfl rfl) rfl (fun _ _ _ _ _ _ us hl => match us, hl with | [_, _], _ => rfl) (ga_cons (ge_var 1) (ga_cons (ge_var 2) (ga_nil))))) (ga_cons (ge_var 1) (ga_cons (ge_var 2) (ga_nil))))) (fun _ => rfl))) (gss_one (gs_ret (ge_bl))) (gss_nil))
  (gss_one (gs_ret (ge_and (ge_callD D_l_is_right (hr.mono (by decide)) hg (takes_of rfl rfl rfl rfl) rfl (fun _ _ _ _ _ _ us hl => match us, hl with | [_, _, _], _ => rfl) (ga_cons (ge_lamcallD (k := 5) (Ng := ["_law_call", "_law_caught_here", "_law_told", "error", "_law_kinds"]) y_told y_stamp y_delay D_Lam D_K1 D_K2 D_Tab rfl rfl rfl (fun _ _ _ _ _ _ us hl => match us, hl with | [_], _ => rfl) sc_l_caught rfl (.inl rfl) (fun g FAR A1 A2 cdv e1 e2 eF => caught_givesU (by decide) rfl rfl rfl rfl (by decide) (by decide) (by decide) (by decide) (by decide) (by decide) (by decide) rfl T.isinstance rfl e1 rfl e2 rfl eF (by decide) (by decide) (by decide) rfl T.ValueError rfl rfl (fun _ => by first | rfl | kernel_rfl) (fun _ => by first | rfl | kernel_rfl) (fun _ => by first | rfl | kernel_rfl) (fun _ => by first | rfl | kernel_rfl) (fun _ => by first | rfl | kernel_rfl)) hr (LamX.lamS_by (by kernel_rfl)) rfl (fun _ _ _ _ _ => rfl) (fun A2 outer2 s2 H2 E2 f2 c2 hr2 => ge_callND D_ahead_of (hr2.mono (by decide)) (takes_of rfl rfl rfl rfl) rfl (fun _ _ _ _ _ _ us hl => match us, hl with | [_, _], _ => rfl) (ga_cons (ge_var 1) (ga_cons (ge_var 2) (ga_nil))))) (ga_cons (ge_var 1) (ga_cons (ge_var 2) (ga_nil))))) (ge_one (ge_cmp (op_eqP hr.units) r2_data (ge_callB (call_reprE D_Sm hg hr.units) rc_reprE rfl T.repr (by decide +kernel) (ga_cons (ge_tup (ga_cons (ge_var 1) (ga_cons (ge_var 2) (ga_nil)))) (ga_nil))) (ge_var 3) (nomark _))))))))))
abbrev s_law : Stmt := topS 24
theorem sc_law : FnScope ["_law_script", "_law_k", "_law_pot_here", "_law_turn"] ["_law_script"] (defScope s_law) := ⟨rfl, rfl, rfl, by decide +kernel, rfl, by decide +kernel, by decide +kernel⟩
def m_law_e1 : Ev W := mCall m_l_right (mCons (mV 2) (mNil))
def m_law_b1 : Sm := sSeq (sSet 2 (mCall m_l_pot (mCons (mV 0) (mCons (mV 1) (mNil)))))
  (sIf (mNot (mTru (mCall fAll (mCons (mLcR1 [3] (setN 3) (mCons (mC (.int 30)) (mNil)) (yes) (m_law_e1)) (mNil))))) (sRet (mC (.bl false))) (sNx))
def m_law : List W → Store → Res W := fnM 1 4
  (sSeq (sForR1 (mCons (mCall fMax2 (mCons (mC (.int 1)) (mCons (mCall fMin2 (mCons (mC (.int 3)) (mCons (mCall fLen (mCons (mV 0) (mNil))) (mNil)))) (mNil)))) (mNil)) 1 (m_law_b1))
  (sRet (mC (.bl true))))
theorem ok_law (T : Blt K mg) (D : DefAt K mg "law" s_law) (D_l_pot : DefOk P w K mg base "_law_pot" s_l_pot 1 ["_law_script", "_law_k"] m_l_pot) (D_l_right : DefOk P w K mg base "_law_right" s_l_right 8 ["_law_pot_here"] m_l_right) : DefOk P w K mg base "law" s_law 9 ["_law_script"] m_law :=
  defOk_of (N := ["_law_script", "_law_k", "_law_pot_here", "_law_turn"]) D sc_law fun f cdv A outer s H E hr hg =>
  (gss_cons (gs_forR1 (i := 1) (passes_of rfl) rfl rfl T.range (ga_cons (ge_callB (call_max2 rfl) rc_max2 rfl T.max (by decide +kernel) (ga_cons (ge_int) (ga_cons (ge_callB (call_min2 rfl) rc_min2 rfl T.min (by decide +kernel) (ga_cons (ge_int) (ga_cons (ge_callB call_len rc_len rfl T.len (by decide +kernel) (ga_cons (ge_var 0) (ga_nil))) (ga_nil)))) (ga_nil)))) (ga_nil)) sc_law.nd rfl (by first | exact Or.inl rfl | exact Or.inr rfl) (gss_cons (gs_set (i := 2) sc_law.nd rfl (by first | exact Or.inl rfl | exact Or.inr rfl) (ge_callD D_l_pot (hr.mono (by decide)) hg (takes_of rfl rfl rfl rfl) rfl (fun _ _ _ _ _ _ us hl => match us, hl with | [_, _], _ => rfl) (ga_cons (ge_var 0) (ga_cons (ge_var 1) (ga_nil)))))
  (gss_one (gs_if (gt_not (gt_tru (ge_callB (cr_all rfl) rc_all rfl T.all (by decide +kernel) (ga_cons (ge_lcR1 (own := [("_law_turn", 3)]) ⟨blkOk_by (N := ["_law_script", "_law_k", "_law_pot_here", "_law_turn"]) (sc := defScope s_law) (by decide +kernel), fun _ _ _ _ _ => pg_name (i := 3) sc_law.nd rfl (by first | exact Or.inl rfl | exact Or.inr rfl), fun _ _ _ _ _ => gp_nil, fun _ _ _ _ _ => ge_callD D_l_right hr hg takes0 rfl (fun _ _ _ _ _ _ us hl => match us, hl with | [_], _ => rfl) (ga_cons (ge_var 2) (ga_nil))⟩ (fun _ => putLc_name (by decide)) rfl sc_law.nd rfl T.range (ga_cons (ge_int) (ga_nil))) (ga_nil))) (fun _ => rfl))) (gss_one (gs_ret (ge_bl))) (gss_nil)))))
  (gss_one (gs_ret (ge_bl))))
end
end K09gen

set_option exponentiation.threshold 5000
namespace K09gen
open PySem PySem.Spec PyProof.Rows L2 Mi
variable [ClsMap]
theorem f_mulA {a b : Int} {st : Store} (ha : a.natAbs < 2 ^ 2000) (hb : b.natAbs < 2 ^ 2000) : fMulA (.int a) (.int b) st = .ok (.int (a * b)) st := f_mul ha hb
theorem take_ok {st : Store} {p : Nat} {c n : Int} (h : Pot st p c) (hc : c ≤ 1000000) (hn : 1 ≤ n) (hn2 : n ≤ 10000000) :
    Got (m_l_take [.ref p, .int n] st) fun w st' => (∃ d : Int, w = .int d ∧ 0 ≤ d ∧ d < n) ∧ Fr p st st' ∧ Pot st' p (c + 1) := by
  obtain ⟨own, seed, cnt, hp, h1, h2, h3, h4, h5, h6⟩ := h.ex
  have hpl : p < st.length := (List.getElem?_eq_some_iff.mp hp).1
  have x0 : fIx (.ref p) (.int 0) st = .ok (.int own) st := f_ixL hp rfl
  have x1 : fIx (.ref p) (.int 1) st = .ok (.int seed) st := f_ixL hp rfl
  have x2 : fIx (.ref p) (.int 2) st = .ok (.int cnt) st := f_ixL hp rfl
  by_cases ho : 0 < own
  · have hd : fDiv (.int own) (.int n) st = .ok (.int (own / n)) st := f_div (by omega) (Nat.lt_of_lt_of_le (show n.natAbs < 2 ^ 24 by omega) (Nat.pow_le_pow_right (by decide) (by decide)))
    have pa : putAt (.ref p) (.int 0) (.int (own / n)) st = some (st.set p (.lst [.int (own / n), .int seed, .int cnt])) := by
      simp only [Mi.putAt, hp]
      rfl
    refine ⟨.int (own % n), st.set p (.lst [.int (own / n), .int seed, .int cnt]), ?_, ⟨_, rfl, Int.emod_nonneg _ (by omega), Int.emod_lt_of_pos _ (by omega)⟩, ⟨by rw [List.length_set]; exact Nat.le_refl _, fun i hi hne => List.getElem?_set_ne (Ne.symm hne)⟩, ⟨own / n, seed, cnt, List.getElem?_set_self hpl, ?_, ?_, h3, h4, h5, by omega⟩⟩
    · simp only [m_l_take, fnM, outM, sSeq, sSet, sRet, sDrop, sIf, sPut, sPar, sUnp, sNx, liftE, mOp, mUn, mCall, mCons, mNil, mC, mV, mB, asB, mAnd, mOr, mNot, mAndV, mOrV, mNotV, mIf, mTup, mLst, mNew, Res.bind, List.map_cons, List.map_nil, List.length_cons, List.length_nil, List.replicate, List.cons_append, List.nil_append, List.getElem?_cons_zero, List.getElem?_cons_succ, List.set_cons_zero, List.set_cons_succ, Nat.reduceAdd, Nat.reduceSub, Nat.reduceLeDiff, if_pos, if_true, ite_true, Mi.putAll, x0, f_gt, ho, decide_true, fInt, f_mod (show 0 < n by omega), hd, pa]
    · exact Int.ediv_nonneg h1 (by omega)
    · have k1 : own / n ≤ own := Int.ediv_le_self _ h1
      have k2 : 0 ≤ own / n := Int.ediv_nonneg h1 (by omega)
      exact Nat.lt_of_le_of_lt (show (own / n).natAbs ≤ own.natAbs by omega) h2
  · have hc1 : 1 ≤ cnt + 1 ∧ cnt + 1 ≤ 1000001 := by omega
    generalize hk : cnt + 1 = k at hc1
    let s1 := st.set p (.lst [.int own, .int seed, .int k])
    have hs1 : s1[p]? = some (.lst [.int own, .int seed, .int k]) := List.getElem?_set_self hpl
    have pa : Mi.putAt (.ref p) (.int 2) (.int k) st = some s1 := by
      simp only [Mi.putAt, hp]
      rfl
    have y1 : fIx (.ref p) (.int 1) s1 = .ok (.int seed) s1 := f_ixL hs1 rfl
    have y2 : fIx (.ref p) (.int 2) s1 = .ok (.int k) s1 := f_ixL hs1 rfl
    have hq : ∃ q : Int, 0 < q ∧ fIx (.lst [.int 2147483647, .int 2147483629, .int 2147483587, .int 2147483579, .int 2147483563]) (.int (k % 5)) s1 = .ok (.int q) s1 ∧ q < 2 ^ 31 := by
      have h5 : k % 5 = 0 ∨ k % 5 = 1 ∨ k % 5 = 2 ∨ k % 5 = 3 ∨ k % 5 = 4 := by omega
      rcases h5 with e | e | e | e | e <;> rw [e]
      · exact ⟨2147483647, by decide, f_ixV rfl, by decide⟩
      · exact ⟨2147483629, by decide, f_ixV rfl, by decide⟩
      · exact ⟨2147483587, by decide, f_ixV rfl, by decide⟩
      · exact ⟨2147483579, by decide, f_ixV rfl, by decide⟩
      · exact ⟨2147483563, by decide, f_ixV rfl, by decide⟩
    obtain ⟨q, hq0, eq, hq1⟩ := hq
    have big : ∀ x : Int, 0 ≤ x → x < 2 ^ 100 → x.natAbs < 2 ^ 2000 := fun x hx hx2 => Nat.lt_of_lt_of_le (show x.natAbs < 2 ^ 100 by omega) (Nat.pow_le_pow_right (by decide) (by decide))
    have m1 : fMulA (.int 99907) (.int k) s1 = .ok (.int (99907 * k)) s1 := f_mulA (big _ (by decide) (by decide)) (big _ (by omega) (by omega))
    have kk : 0 ≤ 99907 * k * k ∧ 99907 * k * k ≤ 99907 * 1000001 * 1000001 :=
      ⟨Int.mul_nonneg (by omega) (by omega), Int.mul_le_mul (by omega) (by omega) (by omega) (by omega)⟩
    have m2 : fMulA (.int (99907 * k)) (.int k) s1 = .ok (.int (99907 * k * k)) s1 := f_mulA (big _ (by omega) (by omega)) (big _ (by omega) (by omega))
    have e3 : fPow (.int (seed + 99907 * k * k + 53)) (.int 3) s1 = .ok (.int ((seed + 99907 * k * k + 53) ^ (3 : Int).toNat)) s1 := f_pow (by decide) (by decide) (big _ (by omega) (by omega))
    have e4 : ∀ x : Int, fMod (.int x) (.int q) s1 = .ok (.int (x % q)) s1 := fun x => f_mod hq0
    generalize hz : (seed + 99907 * k * k + 53) ^ (3 : Int).toNat % q = z at *
    have hz0 : 0 ≤ z ∧ z < 2 ^ 31 := by
      have u1 := Int.emod_nonneg ((seed + 99907 * k * k + 53) ^ (3 : Int).toNat) (show q ≠ 0 by omega)
      have u2 := Int.emod_lt_of_pos ((seed + 99907 * k * k + 53) ^ (3 : Int).toNat) hq0
      omega
    have m3 : fMulA (.int 89) (.int k) s1 = .ok (.int (89 * k)) s1 := f_mulA (big _ (by decide) (by decide)) (big _ (by omega) (by omega))
    have m4 : fMulA (.int z) (.int (z % 10007 + 89 * k)) s1 = .ok (.int (z * (z % 10007 + 89 * k))) s1 := f_mulA (big _ (by omega) (by omega)) (big _ (by omega) (by omega))
    have e5 : ∀ x : Int, fMod (.int x) (.int 5) s1 = .ok (.int (x % 5)) s1 := fun x => f_mod (by decide)
    have e6 : ∀ x : Int, fMod (.int x) (.int 10007) s1 = .ok (.int (x % 10007)) s1 := fun x => f_mod (by decide)
    have e7 : ∀ x : Int, fMod (.int x) (.int 2305843009213693907) s1 = .ok (.int (x % 2305843009213693907)) s1 := fun x => f_mod (by decide)
    have e8 : ∀ x : Int, fDiv (.int x) (.int 103) s1 = .ok (.int (x / 103)) s1 := fun x => f_div (by decide) (by decide)
    have e9 : ∀ x : Int, fMod (.int x) (.int n) s1 = .ok (.int (x % n)) s1 := fun x => f_mod (by omega)
    refine ⟨.int (z * (z % 10007 + 89 * k) % 2305843009213693907 / 103 % n), s1, ?_, ⟨_, rfl, Int.emod_nonneg _ (by omega), Int.emod_lt_of_pos _ (by omega)⟩, ⟨by rw [List.length_set]; exact Nat.le_refl _, fun i hi hne => List.getElem?_set_ne (Ne.symm hne)⟩, ⟨own, seed, k, hs1, h1, h2, h3, h4, by omega, by omega⟩⟩
    simp only [m_l_take, fnM, outM, sSeq, sSet, sRet, sDrop, sIf, sPut, sPar, sUnp, sNx, liftE, mOp, mUn, mCall, mCons, mNil, mC, mV, mB, asB, mAnd, mOr, mNot, mAndV, mOrV, mNotV, mIf, mTup, mLst, mNew, Res.bind, List.map_cons, List.map_nil, List.length_cons, List.length_nil, List.replicate, List.cons_append, List.nil_append, List.getElem?_cons_zero, List.getElem?_cons_succ, List.set_cons_zero, List.set_cons_succ, Nat.reduceAdd, Nat.reduceSub, Nat.reduceLeDiff, if_pos, if_true, ite_true, Mi.putAll, x0, x2, f_gt, ho, decide_false, fInt, f_add, hk, pa, y1, y2, e5, eq, m1, m2, e3, e4, hz, m3, m4, e6, e7, e8, e9, Bool.false_eq_true, if_false]
def t60 : Int := 1000000000000000000000000000000000000000000000000000000000000
def t300 : Int := 1000000000000000000000000000000000000000000000000000000000000000000000000000000000000000000000000000000000000000000000000000000000000000000000000000000000000000000000000000000000000000000000000000000000000000000000000000000000000000000000000000000000000000000000000000000000000000000000000000000000000
def t18 : Int := 1000000000000000000
theorem pw60 {st : Store} : fPow (.int 10) (.int 60) st = .ok (.int t60) st := (f_pow (by decide) (by decide) (by decide)).trans (by rw [show (10 : Int) ^ (60 : Int).toNat = t60 from by decide +kernel])
theorem pw300 {st : Store} : fPow (.int t60) (.int 5) st = .ok (.int t300) st := (f_pow (by decide) (by decide) (by decide +kernel)).trans (by rw [show t60 ^ (5 : Int).toNat = t300 from by decide +kernel])
theorem pw18 {st : Store} : fPow (.int 10) (.int 18) st = .ok (.int t18) st := (f_pow (by decide) (by decide) (by decide)).trans (by rw [show (10 : Int) ^ (18 : Int).toNat = t18 from by decide +kernel])
theorem t300_pos : 0 < t300 := by decide +kernel
theorem t300_lt : t300.natAbs < 2 ^ 1000 := by decide +kernel
theorem bigger {x : Int} (h : x.natAbs < 2 ^ 1000) : x.natAbs < 2 ^ 2000 := Nat.lt_of_lt_of_le h (Nat.pow_le_pow_right (by decide) (by decide))
theorem small1000 {x : Int} (h : 0 ≤ x) (h2 : x < 2 ^ 90) : x.natAbs < 2 ^ 1000 := Nat.lt_of_lt_of_le (show x.natAbs < 2 ^ 90 by omega) (Nat.pow_le_pow_right (by decide) (by decide))
def ownOf (c : Int) : Int := (if c < 0 then -c else c) % t300 * (if decide (t18 ≤ if c < 0 then -c else c) = true then 1 else 0)
def seedOf (c k : Int) : Int := (c % 2305843009213693951 * 70441 + 6337 * k * k + 71) % 2305843009213693921
theorem own_ok (c : Int) : 0 ≤ ownOf c ∧ (ownOf c).natAbs < 2 ^ 1000 := by
  have h1 := Int.emod_nonneg (if c < 0 then -c else c) (show t300 ≠ 0 from by decide +kernel)
  have h2 := Int.emod_lt_of_pos (if c < 0 then -c else c) t300_pos
  have h3 := t300_lt
  unfold ownOf
  by_cases h : decide (t18 ≤ if c < 0 then -c else c) = true
  · rw [if_pos h, Int.mul_one]
    refine ⟨h1, Nat.lt_of_le_of_lt ?_ h3⟩
    omega
  · rw [if_neg h, Int.mul_zero]
    exact ⟨by decide, Nat.two_pow_pos _⟩
theorem absi {c : Int} {st : Store} : fAbs [.int c] st = .ok (.int (if c < 0 then -c else c)) st := rfl
theorem inti {c : Int} {st : Store} : fInt [.int c] st = .ok (.int c) st := rfl
theorem intb {b : Bool} {st : Store} : fInt [.bl b] st = .ok (.int (if b = true then 1 else 0)) st := by cases b <;> rfl
theorem pot_rest {c k : Int} {st : Store} (hk : 0 ≤ k) (hk2 : k ≤ 2) :
    fMod (.int (if c < 0 then -c else c)) (.int t300) st = .ok (.int ((if c < 0 then -c else c) % t300)) st ∧
    (∀ b : Bool, fMulA (.int ((if c < 0 then -c else c) % t300)) (.int (if b = true then 1 else 0)) st = .ok (.int ((if c < 0 then -c else c) % t300 * (if b = true then 1 else 0))) st) ∧
    fMod (.int c) (.int 2305843009213693951) st = .ok (.int (c % 2305843009213693951)) st ∧
    fMulA (.int (c % 2305843009213693951)) (.int 70441) st = .ok (.int (c % 2305843009213693951 * 70441)) st ∧
    fMulA (.int 6337) (.int k) st = .ok (.int (6337 * k)) st ∧ fMulA (.int (6337 * k)) (.int k) st = .ok (.int (6337 * k * k)) st ∧
    (∀ x : Int, fMod (.int x) (.int 2305843009213693921) st = .ok (.int (x % 2305843009213693921)) st) := by
  have h1 := Int.emod_nonneg (if c < 0 then -c else c) (show t300 ≠ 0 from by decide +kernel)
  have h2 := Int.emod_lt_of_pos (if c < 0 then -c else c) t300_pos
  have h3 := t300_lt
  refine ⟨f_mod t300_pos, fun b => f_mulA (bigger (Nat.lt_of_le_of_lt (by omega) h3)) (by cases b <;> decide), f_mod (by decide), f_mulA (bigger (small1000 (by omega) (by omega))) (bigger (small1000 (by decide) (by decide))),
    f_mulA (bigger (small1000 (by decide) (by decide))) (bigger (small1000 hk (by omega))), f_mulA (bigger (small1000 (by omega) (by omega))) (bigger (small1000 hk (by omega))), fun x => f_mod (by decide)⟩
theorem pot_ok {ns : List Int} {k : Int} {st : Store} (hk : 0 ≤ k) (hk2 : k ≤ 2) : Got (m_l_pot [.frz (ns.map W.int), .int k] st) fun w s => w = .ref st.length ∧ s.length = st.length + 1 ∧ Pot s st.length 0 := by
  obtain ⟨cell, hc⟩ : ∃ cell : Int, (decide (k < ((ns.map W.int).length : Int)) = true → fIx (.frz (ns.map W.int)) (.int k) st = .ok (.int cell) st) ∧ (decide (k < ((ns.map W.int).length : Int)) = false → 37 * k + 11 = cell) := by
    by_cases h : k < ((ns.map W.int).length : Int)
    · have h2 : k.toNat < ns.length := by
        rw [List.length_map] at h
        omega
      have ed : k = ((k.toNat : Nat) : Int) := by omega
      have z := atI_nat (xs := ns.map W.int) (j := k.toNat) (v := .int ns[k.toNat]) (by rw [List.getElem?_map, List.getElem?_eq_getElem h2]; rfl)
      rw [← ed] at z
      exact ⟨ns[k.toNat], ⟨fun _ => f_ixF z, fun e => absurd h (of_decide_eq_false e)⟩⟩
    · exact ⟨37 * k + 11, ⟨fun e => absurd (of_decide_eq_true e) h, fun _ => rfl⟩⟩
  obtain ⟨hc1, hc2⟩ := hc
  obtain ⟨r1, r2, r3, r4, r5, r6, r7⟩ := pot_rest (c := cell) (st := st) hk hk2
  have r2' := r2 (decide (t18 ≤ if cell < 0 then -cell else cell))
  have m37 : fMulA (.int 37) (.int k) st = .ok (.int (37 * k)) st := f_mulA (bigger (small1000 (by decide) (by decide))) (bigger (small1000 hk (by omega)))
  obtain ⟨o1, o2⟩ := own_ok cell
  have s1 := Int.emod_nonneg (cell % 2305843009213693951 * 70441 + 6337 * k * k + 71) (show (2305843009213693921 : Int) ≠ 0 by decide)
  have s2 := Int.emod_lt_of_pos (cell % 2305843009213693951 * 70441 + 6337 * k * k + 71) (show (0 : Int) < 2305843009213693921 by decide)
  refine ⟨.ref st.length, st ++ [.lst [.int (ownOf cell), .int (seedOf cell k), .int 0]], ?_, rfl, by rw [List.length_append]; rfl, ⟨ownOf cell, seedOf cell k, 0, by rw [List.getElem?_append_right (Nat.le_refl _), Nat.sub_self]; rfl, o1, o2, s1, by unfold seedOf; omega, by decide, by decide⟩⟩
  cases q : decide (k < ((ns.map W.int).length : Int)) with
  | true =>
    have e1 := hc1 q
    simp only [m_l_pot, fnM, outM, sSeq, sSet, sRet, sDrop, sIf, sPut, sPar, sUnp, sNx, liftE, mOp, mUn, mCall, mCons, mNil, mC, mV, mB, asB, mAnd, mOr, mNot, mAndV, mOrV, mNotV, mIf, mTup, mLst, mNew, Res.bind, List.map_cons, List.map_nil, List.length_cons, List.length_nil, List.replicate, List.cons_append, List.nil_append, List.getElem?_cons_zero, List.getElem?_cons_succ, List.set_cons_zero, List.set_cons_succ, Nat.reduceAdd, Nat.reduceSub, Nat.reduceLeDiff, if_pos, if_true, ite_true, Mi.putAll, f_lenF, f_lt, q, e1, absi, inti, intb, pw60, pw300, pw18, r1, f_ge, r2', r3, r4, r5, r6, r7, f_add, ownOf, seedOf]
  | false =>
    have e1 := hc2 q
    simp only [m_l_pot, fnM, outM, sSeq, sSet, sRet, sDrop, sIf, sPut, sPar, sUnp, sNx, liftE, mOp, mUn, mCall, mCons, mNil, mC, mV, mB, asB, mAnd, mOr, mNot, mAndV, mOrV, mNotV, mIf, mTup, mLst, mNew, Res.bind, List.map_cons, List.map_nil, List.length_cons, List.length_nil, List.replicate, List.cons_append, List.nil_append, List.getElem?_cons_zero, List.getElem?_cons_succ, List.set_cons_zero, List.set_cons_succ, Nat.reduceAdd, Nat.reduceSub, Nat.reduceLeDiff, if_pos, if_true, ite_true, Mi.putAll, f_lenF, f_lt, q, m37, f_add, e1, absi, inti, intb, pw60, pw300, pw18, r1, f_ge, r2', r3, r4, r5, r6, r7, ownOf, seedOf, Bool.false_eq_true, if_false]
end K09gen

set_option exponentiation.threshold 5000
namespace K09gen
open PySem PySem.Spec PyProof.Rows L2 Mi
variable [ClsMap]
/-! ### sizes of values -/
mutual
def okW (N : Nat) : W → Bool
  | .int i => decide (i.natAbs ≤ N)
  | .str s => s.cps.toList.all fun c => decide (c < 16 ^ 8)
  | .tup xs => okWs N xs
  | .lst xs => okWs N xs
  | .dic ks xs => match ks, xs with
    | [], [] => true
    | [.inl i], [.int j] => decide (i = 0) && decide (j = 0)
    | _, _ => false
  | .frz _ => false
  | .ref _ => false
  | _ => true
def okWs (N : Nat) : List W → Bool
  | [] => true
  | x :: xs => okW N x && okWs N xs
end
mutual
def wtW : W → Nat
  | .int _ => 81
  | .dic _ _ => 200
  | .str s => s.cps.size
  | .tup xs => wtWs xs
  | .lst xs => wtWs xs
  | _ => 0
def wtWs : List W → Nat
  | [] => 0
  | x :: xs => wtW x + 1 + wtWs xs
end
mutual
def dpW : W → Nat
  | .tup xs => dpWs xs + 1
  | .lst xs => dpWs xs + 1
  | .dic _ _ => 2
  | _ => 0
def dpWs : List W → Nat
  | [] => 0
  | x :: xs => max (dpW x) (dpWs xs)
end
theorem okWs_iff {N : Nat} : ∀ {xs : List W}, okWs N xs = true ↔ ∀ x ∈ xs, okW N x = true
  | [] => by simp [okWs]
  | x :: xs => by simp [okWs, okWs_iff (xs := xs)]
theorem dpWs_iff {k : Nat} : ∀ {xs : List W}, dpWs xs ≤ k ↔ ∀ x ∈ xs, dpW x ≤ k
  | [] => by simp [dpWs]
  | x :: xs => by simp [dpWs, dpWs_iff (xs := xs), Nat.max_le]
theorem wtWs_app : ∀ (xs ys : List W), wtWs (xs ++ ys) = wtWs xs + wtWs ys
  | [], ys => by simp [wtWs]
  | x :: xs, ys => by
    simp only [List.cons_append, wtWs, wtWs_app xs ys]
    omega
theorem wtWs_rev : ∀ (xs : List W), wtWs xs.reverse = wtWs xs
  | [] => rfl
  | x :: xs => by
    simp only [List.reverse_cons, wtWs_app, wtWs_rev xs, wtWs]
    omega
theorem wtWs_mem : ∀ {xs : List W} {x : W}, x ∈ xs → wtW x + 1 ≤ wtWs xs
  | y :: ys, x, h => by
    rcases List.mem_cons.mp h with rfl | h
    · simp only [wtWs]
      omega
    · have := wtWs_mem h
      simp only [wtWs]
      omega
theorem wtWs_len : ∀ (xs : List W), xs.length ≤ wtWs xs
  | [] => Nat.le_refl _
  | x :: xs => by
    have := wtWs_len xs
    simp only [wtWs, List.length_cons]
    omega
theorem wtWs_take (xs : List W) (n : Nat) : wtWs (xs.take n) ≤ wtWs xs := by
  have h := wtWs_app (xs.take n) (xs.drop n)
  rw [List.take_append_drop] at h
  omega
theorem wtWs_drop (xs : List W) (n : Nat) : wtWs (xs.drop n) ≤ wtWs xs := by
  have h := wtWs_app (xs.take n) (xs.drop n)
  rw [List.take_append_drop] at h
  omega
theorem int_shows {i : Int} {N : Nat} (hN : N < 10 ^ 21) (h : i.natAbs ≤ N) : (PyData.int i).showable = true ∧ (PyData.int i).leavesShort 22 = true ∧ (PyData.int i).weight ≤ 81 := by
  have z : i.natAbs.log2 < 80 := log_lt (k := 80) (by decide) (by omega)
  refine ⟨?_, ?_, ?_⟩
  · unfold PyData.showable
    exact decide_eq_true (by omega)
  · unfold PyData.leavesShort
    refine decide_eq_true ?_
    have e := int_text_length_le10 (a := i) (k := 21) (by decide) (by omega)
    show (Str.ofString (toString i)).length ≤ 22
    rw [PySem.ofString_length]
    exact e
  · unfold PyData.weight
    split <;> omega
mutual
theorem data_of {N : Nat} (hN : N < 10 ^ 21) : ∀ (w : W), okW N w = true → ∃ d, w.toE = some d ∧ d.showable = true ∧ d.leavesShort 22 = true ∧ d.depth ≤ dpW w ∧ d.weight ≤ wtW w
  | .non, _ => ⟨_, rfl, rfl, rfl, Nat.le_refl _, Nat.le_refl _⟩
  | .bl b, _ => ⟨_, rfl, rfl, rfl, Nat.le_refl _, Nat.le_refl _⟩
  | .int i, h => by
    obtain ⟨a, b, c⟩ := int_shows hN (of_decide_eq_true h)
    exact ⟨_, rfl, a, b, Nat.le_refl _, c⟩
  | .str s, h => ⟨_, rfl, rfl, h, Nat.le_refl _, Nat.le_refl _⟩
  | .tup xs, h => by
    obtain ⟨ds, e, a, b, c, d⟩ := datas_of hN xs h
    refine ⟨.tuple ds, by simp only [W.toE, e]; rfl, by simpa only [PyData.showable] using a, by simpa only [PyData.leavesShort] using b, ?_, ?_⟩
    · simp only [PyData.depth, dpW]
      omega
    · simpa only [PyData.weight, wtW] using d
  | .lst xs, h => by
    obtain ⟨ds, e, a, b, c, d⟩ := datas_of hN xs h
    refine ⟨.list ds, by simp only [W.toE, e]; rfl, by simpa only [PyData.showable] using a, by simpa only [PyData.leavesShort] using b, ?_, ?_⟩
    · simp only [PyData.depth, dpW]
      omega
    · simpa only [PyData.weight, wtW] using d
  | .frz _, h => by cases h
  | .ref _, h => by cases h
  | .dic ks xs, h => by
    cases ks with
    | nil =>
      cases xs with
      | cons _ _ => cases h
      | nil => exact ⟨.dict [], rfl, rfl, rfl, by decide, by decide⟩
    | cons k ks =>
      cases k with
      | inr _ => cases h
      | inl i =>
        cases ks with
        | cons _ _ => cases h
        | nil =>
          cases xs with
          | nil => cases h
          | cons x xs =>
            cases xs with
            | cons _ _ => cases x <;> cases h
            | nil =>
              cases x with
              | int j =>
                have h' : (decide (i = 0) && decide (j = 0)) = true := h
                rw [Bool.and_eq_true, decide_eq_true_eq, decide_eq_true_eq] at h'
                obtain ⟨rfl, rfl⟩ := h'
                exact ⟨.dict [(.int 0, .int 0)], rfl, by decide, by decide, by decide, by decide⟩
              | _ => cases h
theorem datas_of {N : Nat} (hN : N < 10 ^ 21) : ∀ (ws : List W), okWs N ws = true → ∃ ds, toEs ws = some ds ∧ PyData.showableAll ds = true ∧ PyData.leavesShortAll 22 ds = true ∧ PyData.depthAll ds ≤ dpWs ws ∧ PyData.weightAll ds ≤ wtWs ws
  | [], _ => ⟨[], rfl, rfl, rfl, Nat.le_refl _, Nat.le_refl _⟩
  | x :: xs, h => by
    unfold okWs at h
    rw [Bool.and_eq_true] at h
    obtain ⟨d, e1, a1, b1, c1, d1⟩ := data_of hN x h.1
    obtain ⟨ds, e2, a2, b2, c2, d2⟩ := datas_of hN xs h.2
    refine ⟨d :: ds, by simp only [toEs, e1, e2], by simp only [PyData.showableAll, a1, a2, Bool.and_self], by simp only [PyData.leavesShortAll, b1, b2, Bool.and_self], ?_, ?_⟩
    · simp only [PyData.depthAll, dpWs]
      omega
    · simp only [PyData.weightAll, wtWs]
      omega
end
/-- small enough -/
structure Fit (N n k : Nat) (w : W) : Prop where
  ok : okW N w = true
  wt : wtW w ≤ n
  dp : dpW w ≤ k
theorem fits22 {d : PyData} (hl : d.leavesShort 22 = true) (hw : d.weight ≤ 2 ^ 16) : d.shown.length ≤ sizeLine := by
  have h := PyData.shown_le 22 (by decide) d hl
  rw [sizeLine_eq]
  omega
theorem fit_repr {N n k : Nat} {w : W} (h : Fit N n k w) (hN : N < 10 ^ 21) (hn : n ≤ 2 ^ 16) (hk : k ≤ 60) : ∃ t, ∀ st, fReprE [w] st = .ok (.str t) st := by
  obtain ⟨d, e, a, b, c, g⟩ := data_of hN w h.ok
  have h1 := h.wt
  have h2 := h.dp
  have fits : d.shown.length ≤ sizeLine := fits22 b (by omega)
  have c : cReprE d = true := by
    unfold cReprE
    rw [a, decide_eq_true (show d.depth ≤ 60 by omega), decide_eq_true fits]
    rfl
  refine ⟨d.shown, fun st => ?_⟩
  unfold fReprE
  dsimp only
  rw [e]
  exact if_pos c
/-! ### the form of a stamp -/
def isCount : W → Bool
  | .int i => decide (0 ≤ i)
  | _ => false
def isStamp : W → Bool
  | .tup [a, b] => isCount a && isCount b
  | _ => false
variable {st : Store} {N : Nat} {w : W}
theorem integer_ok (h : okW N w = true) : m_is_integer [w] st = .ok (.bl (match w with | .int _ => true | _ => false)) st := by
  cases w with
  | ref n => cases h
  | _ => rfl
theorem count_ok (h : okW N w = true) : m_is_count [w] st = .ok (.bl (isCount w)) st := by
  have e := integer_ok (st := st) h
  cases w with
  | ref n => cases h
  | int i =>
    simp only [m_is_count, fnM, outM, sSeq, sSet, sRet, sDrop, sIf, sPut, sPar, sUnp, sNx, liftE, mOp, mUn, mCall, mCons, mNil, mC, mV, mB, asB, mAnd, mOr, mNot, mAndV, mOrV, mNotV, mIf, mTup, mLst, mNew, Res.bind, List.map_cons, List.map_nil, List.length_cons, List.length_nil, List.replicate, List.cons_append, List.nil_append, List.getElem?_cons_zero, List.getElem?_cons_succ, List.set_cons_zero, List.set_cons_succ, Nat.reduceAdd, Nat.reduceSub, Nat.reduceLeDiff, if_pos, if_true, ite_true, Mi.putAll, e, f_ge, isCount]
  | _ =>
    simp only [m_is_count, fnM, outM, sSeq, sSet, sRet, sDrop, sIf, sPut, sPar, sUnp, sNx, liftE, mOp, mUn, mCall, mCons, mNil, mC, mV, mB, asB, mAnd, mOr, mNot, mAndV, mOrV, mNotV, mIf, mTup, mLst, mNew, Res.bind, List.map_cons, List.map_nil, List.length_cons, List.length_nil, List.replicate, List.cons_append, List.nil_append, List.getElem?_cons_zero, List.getElem?_cons_succ, List.set_cons_zero, List.set_cons_succ, Nat.reduceAdd, Nat.reduceSub, Nat.reduceLeDiff, if_pos, if_true, ite_true, Mi.putAll, e, isCount, Bool.false_eq_true, if_false]
theorem lint_ok (h : okW N w = true) : m_l_is_int [w] st = .ok (.bl (match w with | .int _ => true | _ => false)) st := by
  cases w with
  | ref n => cases h
  | _ => rfl
end K09gen

set_option exponentiation.threshold 5000
namespace K09gen
open PySem PySem.Spec PyProof.Rows L2 Mi
variable [ClsMap]
variable {st : Store} {N : Nat} {w : W}
theorem len2 : ∀ {xs : List W}, xs.length = 2 → ∃ a b, xs = [a, b]
  | [a, b], _ => ⟨a, b, rfl⟩
theorem stamp_len {xs : List W} (h : xs.length ≠ 2) : isStamp (.tup xs) = false := by
  match xs, h with
  | [], _ => rfl
  | [_], _ => rfl
  | [_, _], h => exact absurd rfl h
  | _ :: _ :: _ :: _, _ => rfl
def isTupN (n : Nat) : W → Bool
  | .tup xs => decide (xs.length = n)
  | _ => false
theorem tuple_of_ok {n : Nat} (h : okW N w = true) : m_is_tuple_of [w, .int n] st = .ok (.bl (isTupN n w)) st := by
  cases w with
  | ref n => cases h
  | tup xs =>
    have e : (decide (((xs.length : Nat) : Int) = (n : Int))) = decide (xs.length = n) := by
      by_cases c : xs.length = n
      · rw [decide_eq_true c, decide_eq_true (by omega)]
      · rw [decide_eq_false c, decide_eq_false (by omega)]
    simp only [m_is_tuple_of, fnM, outM, sSeq, sSet, sRet, sDrop, sIf, sPut, sPar, sUnp, sNx, liftE, mOp, mUn, mCall, mCons, mNil, mC, mV, mB, asB, mAnd, mOr, mNot, mAndV, mOrV, mNotV, mIf, mTup, mLst, mNew, Res.bind, List.map_cons, List.map_nil, List.length_cons, List.length_nil, List.replicate, List.cons_append, List.nil_append, List.getElem?_cons_zero, List.getElem?_cons_succ, List.set_cons_zero, List.set_cons_succ, Nat.reduceAdd, Nat.reduceSub, Nat.reduceLeDiff, if_pos, if_true, ite_true, Mi.putAll, mTru, truW, fIsK, isK, Nat.beq, Bool.not_true, Bool.not_false, Bool.false_eq_true, if_false, Bool.or_false, Bool.false_or, Bool.or_self, decide_true, decide_false, f_lenT, f_eq, e, isTupN]
  | _ => rfl
theorem ok_mem {xs : List W} (h : okW N (.tup xs) = true) {x : W} (hx : x ∈ xs) : okW N x = true := okWs_iff.mp h x hx
theorem stamp_ok (h : okW N w = true) : m_is_stamp [w] st = .ok (.bl (isStamp w)) st := by
  have t' : m_is_tuple_of [w, .int 2] st = .ok (.bl (isTupN 2 w)) st := tuple_of_ok (n := 2) h
  cases w with
  | ref n => cases h
  | tup xs =>
    by_cases c : xs.length = 2
    · obtain ⟨a, b, rfl⟩ := len2 c
      have x0 : fIx (.tup [a, b]) (.int 0) st = .ok a st := f_ixT rfl
      have x1 : fIx (.tup [a, b]) (.int 1) st = .ok b st := f_ixT rfl
      have ca := count_ok (st := st) (ok_mem h (x := a) (by simp))
      have cb := count_ok (st := st) (ok_mem h (x := b) (by simp))
      have t2 : isTupN 2 (.tup [a, b]) = true := rfl
      rw [t2] at t'
      cases e : isCount a <;> simp only [m_is_stamp, fnM, outM, sSeq, sSet, sRet, sDrop, sIf, sPut, sPar, sUnp, sNx, liftE, mOp, mUn, mCall, mCons, mNil, mC, mV, mB, asB, mAnd, mOr, mNot, mAndV, mOrV, mNotV, mIf, mTup, mLst, mNew, Res.bind, List.map_cons, List.map_nil, List.length_cons, List.length_nil, List.replicate, List.cons_append, List.nil_append, List.getElem?_cons_zero, List.getElem?_cons_succ, List.set_cons_zero, List.set_cons_succ, Nat.reduceAdd, Nat.reduceSub, Nat.reduceLeDiff, if_pos, if_true, ite_true, Mi.putAll, mTru, truW, fIsK, isK, Nat.beq, Bool.not_true, Bool.not_false, Bool.false_eq_true, if_false, Bool.or_false, Bool.false_or, Bool.or_self, decide_true, decide_false, t', x0, x1, ca, cb, e, isStamp, Bool.true_and, Bool.false_and]
    · have t2 : isTupN 2 (.tup xs) = false := decide_eq_false c
      rw [t2] at t'
      simp only [m_is_stamp, fnM, outM, sSeq, sSet, sRet, sDrop, sIf, sPut, sPar, sUnp, sNx, liftE, mOp, mUn, mCall, mCons, mNil, mC, mV, mB, asB, mAnd, mOr, mNot, mAndV, mOrV, mNotV, mIf, mTup, mLst, mNew, Res.bind, List.map_cons, List.map_nil, List.length_cons, List.length_nil, List.replicate, List.cons_append, List.nil_append, List.getElem?_cons_zero, List.getElem?_cons_succ, List.set_cons_zero, List.set_cons_succ, Nat.reduceAdd, Nat.reduceSub, Nat.reduceLeDiff, if_pos, if_true, ite_true, Mi.putAll, mTru, truW, fIsK, isK, Nat.beq, Bool.not_true, Bool.not_false, Bool.false_eq_true, if_false, Bool.or_false, Bool.false_or, Bool.or_self, decide_true, decide_false, t', stamp_len c]
  | _ => simp only [m_is_stamp, fnM, outM, sSeq, sSet, sRet, sDrop, sIf, sPut, sPar, sUnp, sNx, liftE, mOp, mUn, mCall, mCons, mNil, mC, mV, mB, asB, mAnd, mOr, mNot, mAndV, mOrV, mNotV, mIf, mTup, mLst, mNew, Res.bind, List.map_cons, List.map_nil, List.length_cons, List.length_nil, List.replicate, List.cons_append, List.nil_append, List.getElem?_cons_zero, List.getElem?_cons_succ, List.set_cons_zero, List.set_cons_succ, Nat.reduceAdd, Nat.reduceSub, Nat.reduceLeDiff, if_pos, if_true, ite_true, Mi.putAll, mTru, truW, fIsK, isK, Nat.beq, Bool.not_true, Bool.not_false, Bool.false_eq_true, if_false, Bool.or_false, Bool.false_or, Bool.or_self, decide_true, decide_false, t', isStamp, isTupN]
theorem due_ok (h : okW N w = true) : m_l_is_due [w] st = .ok (.bl (isStamp w)) st := by
  cases w with
  | ref n => cases h
  | tup xs =>
    by_cases c : xs.length = 2
    · obtain ⟨a, b, rfl⟩ := len2 c
      have x0 : fIx (.tup [a, b]) (.int 0) st = .ok a st := f_ixT rfl
      have x1 : fIx (.tup [a, b]) (.int 1) st = .ok b st := f_ixT rfl
      have ca := lint_ok (st := st) (ok_mem h (x := a) (by simp))
      have cb := lint_ok (st := st) (ok_mem h (x := b) (by simp))
      have e2 : fNe (.int ((2 : Nat) : Int)) (.int 2) st = .ok (.bl false) st := f_ne
      cases a with
      | int i =>
        cases b with
        | int j =>
          cases q : decide (0 ≤ i) <;> simp only [m_l_is_due, fnM, outM, sSeq, sSet, sRet, sDrop, sIf, sPut, sPar, sUnp, sNx, liftE, mOp, mUn, mCall, mCons, mNil, mC, mV, mB, asB, mAnd, mOr, mNot, mAndV, mOrV, mNotV, mIf, mTup, mLst, mNew, Res.bind, List.map_cons, List.map_nil, List.length_cons, List.length_nil, List.replicate, List.cons_append, List.nil_append, List.getElem?_cons_zero, List.getElem?_cons_succ, List.set_cons_zero, List.set_cons_succ, Nat.reduceAdd, Nat.reduceSub, Nat.reduceLeDiff, if_pos, if_true, ite_true, Mi.putAll, mTru, truW, fIsK, isK, Nat.beq, Bool.not_true, Bool.not_false, Bool.false_eq_true, if_false, Bool.or_false, Bool.false_or, Bool.or_self, decide_true, decide_false, f_lenT, e2, x0, x1, ca, cb, f_ge, isStamp, isCount, q, Bool.true_and, Bool.false_and]
        | _ => simp only [m_l_is_due, fnM, outM, sSeq, sSet, sRet, sDrop, sIf, sPut, sPar, sUnp, sNx, liftE, mOp, mUn, mCall, mCons, mNil, mC, mV, mB, asB, mAnd, mOr, mNot, mAndV, mOrV, mNotV, mIf, mTup, mLst, mNew, Res.bind, List.map_cons, List.map_nil, List.length_cons, List.length_nil, List.replicate, List.cons_append, List.nil_append, List.getElem?_cons_zero, List.getElem?_cons_succ, List.set_cons_zero, List.set_cons_succ, Nat.reduceAdd, Nat.reduceSub, Nat.reduceLeDiff, if_pos, if_true, ite_true, Mi.putAll, mTru, truW, fIsK, isK, Nat.beq, Bool.not_true, Bool.not_false, Bool.false_eq_true, if_false, Bool.or_false, Bool.false_or, Bool.or_self, decide_true, decide_false, f_lenT, e2, x0, x1, ca, cb, isStamp, isCount, Bool.and_false]
      | _ => simp only [m_l_is_due, fnM, outM, sSeq, sSet, sRet, sDrop, sIf, sPut, sPar, sUnp, sNx, liftE, mOp, mUn, mCall, mCons, mNil, mC, mV, mB, asB, mAnd, mOr, mNot, mAndV, mOrV, mNotV, mIf, mTup, mLst, mNew, Res.bind, List.map_cons, List.map_nil, List.length_cons, List.length_nil, List.replicate, List.cons_append, List.nil_append, List.getElem?_cons_zero, List.getElem?_cons_succ, List.set_cons_zero, List.set_cons_succ, Nat.reduceAdd, Nat.reduceSub, Nat.reduceLeDiff, if_pos, if_true, ite_true, Mi.putAll, mTru, truW, fIsK, isK, Nat.beq, Bool.not_true, Bool.not_false, Bool.false_eq_true, if_false, Bool.or_false, Bool.false_or, Bool.or_self, decide_true, decide_false, f_lenT, e2, x0, x1, ca, cb, isStamp, isCount, Bool.false_and]
    · have e2 : fNe (.int ((xs.length : Nat) : Int)) (.int 2) st = .ok (.bl true) st := f_ne.trans (by rw [decide_eq_true (by omega)])
      simp only [m_l_is_due, fnM, outM, sSeq, sSet, sRet, sDrop, sIf, sPut, sPar, sUnp, sNx, liftE, mOp, mUn, mCall, mCons, mNil, mC, mV, mB, asB, mAnd, mOr, mNot, mAndV, mOrV, mNotV, mIf, mTup, mLst, mNew, Res.bind, List.map_cons, List.map_nil, List.length_cons, List.length_nil, List.replicate, List.cons_append, List.nil_append, List.getElem?_cons_zero, List.getElem?_cons_succ, List.set_cons_zero, List.set_cons_succ, Nat.reduceAdd, Nat.reduceSub, Nat.reduceLeDiff, if_pos, if_true, ite_true, Mi.putAll, mTru, truW, fIsK, isK, Nat.beq, Bool.not_true, Bool.not_false, Bool.false_eq_true, if_false, Bool.or_false, Bool.false_or, Bool.or_self, decide_true, decide_false, f_lenT, e2, stamp_len c]
  | _ => rfl
end K09gen

set_option exponentiation.threshold 5000
namespace K09gen
open PySem PySem.Spec PyProof.Rows L2 Mi
variable [ClsMap]
variable {st : Store} {N n k p : Nat} {c : Int} {w x : W}
theorem of_ok {xs : List W} (h : Pot st p c) (hc : c ≤ 1000000) (hn : 1 ≤ xs.length) (hn2 : xs.length ≤ 10000) :
    Got (m_l_of [.ref p, .lst xs] st) fun w st' => w ∈ xs ∧ Fr p st st' ∧ Pot st' p (c + 1) := by
  obtain ⟨w, s1, e, ⟨d, rfl, h0, h1⟩, f, pt⟩ := take_ok (n := (xs.length : Int)) h hc (by omega) (by omega)
  have hd : d.toNat < xs.length := by omega
  have ed : d = ((d.toNat : Nat) : Int) := by omega
  have ha : atI xs d = some xs[d.toNat] := by
    have z := atI_nat (List.getElem?_eq_getElem hd)
    rw [← ed] at z
    exact z
  refine ⟨xs[d.toNat], s1, ?_, List.getElem_mem hd, f, pt⟩
  simp only [m_l_of, fnM, outM, sSeq, sSet, sRet, sDrop, sIf, sPut, sPar, sUnp, sNx, liftE, mOp, mUn, mCall, mCons, mNil, mC, mV, mB, asB, mAnd, mOr, mNot, mAndV, mOrV, mNotV, mIf, mTup, mLst, mNew, Res.bind, List.map_cons, List.map_nil, List.length_cons, List.length_nil, List.replicate, List.cons_append, List.nil_append, List.getElem?_cons_zero, List.getElem?_cons_succ, List.set_cons_zero, List.set_cons_succ, Nat.reduceAdd, Nat.reduceSub, Nat.reduceLeDiff, if_pos, if_true, ite_true, Mi.putAll, mTru, truW, fIsK, isK, Nat.beq, Bool.not_true, Bool.not_false, Bool.false_eq_true, if_false, Bool.or_false, Bool.false_or, Bool.or_self, decide_true, decide_false, f_lenV, e, f_ixV ha]
theorem take_at {n : Int} (h : Pot st p c) (hc : c ≤ 1000000) (hn : 1 ≤ n) (hn2 : n ≤ 100) : ∃ (d : Int) (s : Store), m_l_take [.ref p, .int n] st = .ok (.int d) s ∧ 0 ≤ d ∧ d < n ∧ Fr p st s ∧ Pot s p (c + 1) := by
  obtain ⟨w, s, e, ⟨d, rfl, h0, h1⟩, f, q⟩ := take_ok h hc hn (by omega)
  exact ⟨d, s, e, h0, h1, f, q⟩
/-! ### fits -/
mutual
theorem okW_mono {N M : Nat} (h : N ≤ M) : ∀ w : W, okW N w = true → okW M w = true
  | .non, _ => rfl
  | .bl _, _ => rfl
  | .int i, e => decide_eq_true (Nat.le_trans (of_decide_eq_true e) h)
  | .str s, e => e
  | .tup xs, e => okWs_mono h xs e
  | .lst xs, e => okWs_mono h xs e
  | .frz _, e => by cases e
  | .ref _, e => by cases e
  | .dic _ _, e => e
theorem okWs_mono {N M : Nat} (h : N ≤ M) : ∀ ws : List W, okWs N ws = true → okWs M ws = true
  | [], _ => rfl
  | x :: xs, e => by
    unfold okWs at e ⊢
    rw [Bool.and_eq_true] at e ⊢
    exact ⟨okW_mono h x e.1, okWs_mono h xs e.2⟩
end
theorem Fit.up {M m j : Nat} (h : Fit N n k w) (h1 : N ≤ M) (h2 : n ≤ m) (h3 : k ≤ j) : Fit M m j w := ⟨okW_mono h1 w h.ok, Nat.le_trans h.wt h2, Nat.le_trans h.dp h3⟩
theorem fit_list {M m j : Nat} {ys : List W} (ho : ∀ y ∈ ys, okW M y = true) (hd : ∀ y ∈ ys, dpW y ≤ j) (hw : wtWs ys ≤ m) : Fit M m (j + 1) (.tup ys) ∧ Fit M m (j + 1) (.lst ys) := by
  have a : okWs M ys = true := okWs_iff.mpr ho
  have b : dpWs ys ≤ j := dpWs_iff.mpr hd
  exact ⟨⟨a, hw, Nat.succ_le_succ b⟩, ⟨a, hw, Nat.succ_le_succ b⟩⟩
def big20 : Int := 10 ^ (20 : Int).toNat
def oddA : List W := [.int 0, .int 1, .int 2, .int 7, .int 999, .int (10 ^ (6 : Int).toNat), .int (-1), .int (-7), .bl true, .bl false, .non, .str z_0, .str z__, .tup [], .tup [.int 0], .lst [.int 0], .dic [] []]
def oddB : List W := [.int 0, .int 3, .int 5, .int (10 ^ (20 : Int).toNat), .tup [.int 0, .int 0], .lst [.int 0, .int 0], .str z_a, .dic [.inl 0] [.int 0]]
theorem odd_fit : ∀ x ∈ oddA ++ oddB, Fit (10 ^ 20) 250 2 x := by
  intro x hx
  have a : (oddA ++ oddB).all (fun x => okW (10 ^ 20) x && (decide (wtW x ≤ 250) && decide (dpW x ≤ 2))) = true := by decide +kernel
  have b := List.all_eq_true.mp a x hx
  rw [Bool.and_eq_true, Bool.and_eq_true] at b
  exact ⟨b.1, of_decide_eq_true b.2.1, of_decide_eq_true b.2.2⟩
theorem addLE {xs ys : List W} (h : xs.length + ys.length ≤ 100000) : fAddE (.lst xs) (.lst ys) st = .ok (.lst (xs ++ ys)) st := if_pos (Nat.le_trans h (by decide))
theorem dispD0 {env : En} : mDispD (((mC (.int 0)), (mC (.int 0))) :: []) env st = .ok (.dic [.inl 0] [.int 0]) st := rfl
theorem odd_ok (h : Pot st p c) (hc : c ≤ 1000000) : Got (m_l_odd [.ref p] st) fun r s => Fit (10 ^ 20) 250 2 r ∧ Fr p st s ∧ Pot s p (c + 1) := by
  have pw6 : fPow (.int 10) (.int 6) st = .ok (.int (10 ^ (6 : Int).toNat)) st := f_pow (by decide) (by decide) (by decide)
  have pw20 : fPow (.int 10) (.int 20) st = .ok (.int (10 ^ (20 : Int).toNat)) st := f_pow (by decide) (by decide) (by decide)
  have ea : [W.int 0, .int 1, .int 2, .int 7, .int 999, .int (10 ^ (6 : Int).toNat), .int (-1), .int (-7), .bl true, .bl false, .non, .str z_0, .str z__, .tup [], .tup [.int 0], .lst [.int 0], .dic [] []] = oddA := rfl
  have eb : [W.int 0, .int 3, .int 5, .int (10 ^ (20 : Int).toNat), .tup [.int 0, .int 0], .lst [.int 0, .int 0], .str z_a, .dic [.inl 0] [.int 0]] = oddB := rfl
  have ad : fAddE (.lst oddA) (.lst oddB) st = .ok (.lst (oddA ++ oddB)) st := addLE (xs := oddA) (ys := oddB) (by decide)
  have la : oddA.length ≤ 100000 := by decide
  have lb : oddB.length ≤ 100000 := by decide
  obtain ⟨r, s1, e, hr, f, q⟩ := of_ok (xs := oddA ++ oddB) h hc (by decide) (by decide)
  refine ⟨r, s1, ?_, odd_fit r hr, f, q⟩
  simp only [m_l_odd, fNeg, fnM, outM, sSeq, sSet, sRet, sDrop, sIf, sPut, sPar, sUnp, sNx, liftE, mOp, mUn, mCall, mCons, mNil, mC, mV, mB, asB, mAnd, mOr, mNot, mAndV, mOrV, mNotV, mIf, mTup, mLst, mNew, Res.bind, List.map_cons, List.map_nil, List.length_cons, List.length_nil, List.replicate, List.cons_append, List.nil_append, List.getElem?_cons_zero, List.getElem?_cons_succ, List.set_cons_zero, List.set_cons_succ, Nat.reduceAdd, Nat.reduceSub, Nat.reduceLeDiff, if_pos, if_true, ite_true, Mi.putAll, mTru, truW, fIsK, isK, Nat.beq, Bool.not_true, Bool.not_false, Bool.false_eq_true, if_false, Bool.or_false, Bool.false_or, Bool.or_self, decide_true, decide_false, pw6, pw20, dispD0, ea, eb, la, lb, ad, e]
theorem ix_mem {xs : List W} {d : Int} (h0 : 0 ≤ d) (h1 : d < (xs.length : Int)) : ∃ w, w ∈ xs ∧ ∀ st, fIx (.lst xs) (.int d) st = .ok w st := by
  have hd : d.toNat < xs.length := by omega
  have ed : d = ((d.toNat : Nat) : Int) := by omega
  have ha : atI xs d = some xs[d.toNat] := by
    have z := atI_nat (List.getElem?_eq_getElem hd)
    rw [← ed] at z
    exact z
  exact ⟨xs[d.toNat], List.getElem_mem hd, fun st => f_ixV ha⟩
def things (a b : W) : List W := [a, .lst [a, b], .tup [a], .tup [a, b, a], .tup [.tup [a, b]], .tup [.int 0, a], .tup [a, .int 0]]
theorem things_fit {a b : W} (ha : Fit (10 ^ 20) 250 2 a) (hb : Fit (10 ^ 20) 250 2 b) : (∀ x ∈ things a b, Fit (10 ^ 20) 1000 4 x) ∧ Fit (10 ^ 20) 1000 4 (.tup [a, b]) := by
  have oa := ha.ok
  have ob := hb.ok
  have wa := ha.wt
  have wb := hb.wt
  have da := ha.dp
  have db := hb.dp
  have o0 : okW (10 ^ 20) (.int 0) = true := by decide +kernel
  refine ⟨fun x hx => ?_, ⟨?_, ?_, ?_⟩⟩
  · simp only [things, List.mem_cons, List.not_mem_nil, or_false] at hx
    rcases hx with rfl | rfl | rfl | rfl | rfl | rfl | rfl
    · exact ha.up (Nat.le_refl _) (by decide) (by decide)
    all_goals
      refine ⟨?_, ?_, ?_⟩
      · simp only [okW, okWs, oa, ob, Bool.and_true, Bool.true_and]
        try exact o0
      · simp only [wtW, wtWs]
        omega
      · simp only [dpW, dpWs]
        omega
  · simp only [okW, okWs, oa, ob, Bool.and_true]
  · simp only [wtW, wtWs]
    omega
  · simp only [dpW, dpWs]
    omega
theorem pair_fit {i j : Int} (hi : i.natAbs ≤ 10 ^ 20) (hj : j.natAbs ≤ 10 ^ 20) : Fit (10 ^ 20) 1000 4 (.tup [.int i, .int j]) := by
  refine ⟨?_, by simp [wtW, wtWs], by simp [dpW, dpWs]⟩
  simp only [okW, okWs, decide_eq_true hi, decide_eq_true hj, Bool.and_self]
theorem thing_ok (h : Pot st p c) (hc : c ≤ 900000) : Got (m_l_thing [.ref p] st) fun r s => Fit (10 ^ 20) 1000 4 r ∧ Fr p st s ∧ Pot s p (c + 5) := by
  obtain ⟨y, s1, e1, y0, y1, f1, p1⟩ := take_at (n := 9) h (by omega) (by decide) (by decide)
  obtain ⟨a, s2, e2, F2, f2, p2⟩ := odd_ok p1 (by omega)
  obtain ⟨b, s3, e3, F3, f3, p3⟩ := odd_ok p2 (by omega)
  have f0 := (f1.trans f2).trans f3
  obtain ⟨T1, T2⟩ := things_fit F2 F3
  by_cases c1 : y < 4
  · obtain ⟨i, s4, e4, i0, i1, f4, p4⟩ := take_at (n := 50) p3 (by omega) (by decide) (by decide)
    obtain ⟨j, s5, e5, j0, j1, f5, p5⟩ := take_at (n := 4) p4 (by omega) (by decide) (by decide)
    refine ⟨.tup [.int i, .int j], s5, ?_, pair_fit (by omega) (by omega), (f0.trans f4).trans f5, p5.mono (by omega)⟩
    simp only [m_l_thing, sPar3, fnM, outM, sSeq, sSet, sRet, sDrop, sIf, sPut, sPar, sUnp, sNx, liftE, mOp, mUn, mCall, mCons, mNil, mC, mV, mB, asB, mAnd, mOr, mNot, mAndV, mOrV, mNotV, mIf, mTup, mLst, mNew, Res.bind, List.map_cons, List.map_nil, List.length_cons, List.length_nil, List.replicate, List.cons_append, List.nil_append, List.getElem?_cons_zero, List.getElem?_cons_succ, List.set_cons_zero, List.set_cons_succ, Nat.reduceAdd, Nat.reduceSub, Nat.reduceLeDiff, if_pos, if_true, ite_true, Mi.putAll, mTru, truW, fIsK, isK, Nat.beq, Bool.not_true, Bool.not_false, Bool.false_eq_true, if_false, Bool.or_false, Bool.false_or, Bool.or_self, decide_true, decide_false, e1, e2, e3, f_lt, c1, e4, e5]
  · by_cases c2 : y < 7
    · refine ⟨.tup [a, b], s3, ?_, T2, f0, p3.mono (by omega)⟩
      simp only [m_l_thing, sPar3, fnM, outM, sSeq, sSet, sRet, sDrop, sIf, sPut, sPar, sUnp, sNx, liftE, mOp, mUn, mCall, mCons, mNil, mC, mV, mB, asB, mAnd, mOr, mNot, mAndV, mOrV, mNotV, mIf, mTup, mLst, mNew, Res.bind, List.map_cons, List.map_nil, List.length_cons, List.length_nil, List.replicate, List.cons_append, List.nil_append, List.getElem?_cons_zero, List.getElem?_cons_succ, List.set_cons_zero, List.set_cons_succ, Nat.reduceAdd, Nat.reduceSub, Nat.reduceLeDiff, if_pos, if_true, ite_true, Mi.putAll, mTru, truW, fIsK, isK, Nat.beq, Bool.not_true, Bool.not_false, Bool.false_eq_true, if_false, Bool.or_false, Bool.false_or, Bool.or_self, decide_true, decide_false, e1, e2, e3, f_lt, c1, c2]
    · obtain ⟨d, s4, e4, d0, d1, f4, p4⟩ := take_at (n := 7) p3 (by omega) (by decide) (by decide)
      obtain ⟨r, hr, ei⟩ := ix_mem (xs := things a b) (d := d) d0 (show d < 7 from d1)
      have et : [a, .lst [a, b], .tup [a], .tup [a, b, a], .tup [.tup [a, b]], .tup [.int 0, a], .tup [a, .int 0]] = things a b := rfl
      have lt : (things a b).length ≤ 100000 := by show 7 ≤ 100000; decide
      refine ⟨r, s4, ?_, T1 r hr, f0.trans f4, p4.mono (by omega)⟩
      simp only [m_l_thing, sPar3, fnM, outM, sSeq, sSet, sRet, sDrop, sIf, sPut, sPar, sUnp, sNx, liftE, mOp, mUn, mCall, mCons, mNil, mC, mV, mB, asB, mAnd, mOr, mNot, mAndV, mOrV, mNotV, mIf, mTup, mLst, mNew, Res.bind, List.map_cons, List.map_nil, List.length_cons, List.length_nil, List.replicate, List.cons_append, List.nil_append, List.getElem?_cons_zero, List.getElem?_cons_succ, List.set_cons_zero, List.set_cons_succ, Nat.reduceAdd, Nat.reduceSub, Nat.reduceLeDiff, if_pos, if_true, ite_true, Mi.putAll, mTru, truW, fIsK, isK, Nat.beq, Bool.not_true, Bool.not_false, Bool.false_eq_true, if_false, Bool.or_false, Bool.false_or, Bool.or_self, decide_true, decide_false, e1, e2, e3, f_lt, c1, c2, et, lt, e4, ei]
end K09gen

set_option exponentiation.threshold 5000
namespace K09gen
open PySem PySem.Spec PyProof.Rows L2 Mi
variable [ClsMap]
variable {st : Store} {N n k p : Nat} {c : Int} {w x T G : W}
/-! ### what the four defs make of any stamp and delay -/
theorem req1 (oT : okW N T = true) (hT : isStamp T = false) : m_require_both [T, G] st = .exc ⟨"BadStamp", [("value", T)]⟩ st := by
  have e := stamp_ok (st := st) oT
  rw [hT] at e
  simp only [m_require_both, sRaise1, fnM, outM, sSeq, sSet, sRet, sDrop, sIf, sPut, sPar, sUnp, sNx, liftE, mOp, mUn, mCall, mCons, mNil, mC, mV, mB, asB, mAnd, mOr, mNot, mAndV, mOrV, mNotV, mIf, mTup, mLst, mNew, Res.bind, List.map_cons, List.map_nil, List.length_cons, List.length_nil, List.replicate, List.cons_append, List.nil_append, List.getElem?_cons_zero, List.getElem?_cons_succ, List.set_cons_zero, List.set_cons_succ, Nat.reduceAdd, Nat.reduceSub, Nat.reduceLeDiff, if_pos, if_true, ite_true, Mi.putAll, mTru, truW, fIsK, isK, Nat.beq, Bool.not_true, Bool.not_false, Bool.false_eq_true, if_false, Bool.or_false, Bool.false_or, Bool.or_self, decide_true, decide_false, e]
theorem req2 (oT : okW N T = true) (hT : isStamp T = true) (oG : okW N G = true) (hG : isCount G = false) : m_require_both [T, G] st = .exc ⟨"BadDelay", [("value", G)]⟩ st := by
  have e := stamp_ok (st := st) oT
  rw [hT] at e
  have e2 := count_ok (st := st) oG
  rw [hG] at e2
  simp only [m_require_both, sRaise1, fnM, outM, sSeq, sSet, sRet, sDrop, sIf, sPut, sPar, sUnp, sNx, liftE, mOp, mUn, mCall, mCons, mNil, mC, mV, mB, asB, mAnd, mOr, mNot, mAndV, mOrV, mNotV, mIf, mTup, mLst, mNew, Res.bind, List.map_cons, List.map_nil, List.length_cons, List.length_nil, List.replicate, List.cons_append, List.nil_append, List.getElem?_cons_zero, List.getElem?_cons_succ, List.set_cons_zero, List.set_cons_succ, Nat.reduceAdd, Nat.reduceSub, Nat.reduceLeDiff, if_pos, if_true, ite_true, Mi.putAll, mTru, truW, fIsK, isK, Nat.beq, Bool.not_true, Bool.not_false, Bool.false_eq_true, if_false, Bool.or_false, Bool.false_or, Bool.or_self, decide_true, decide_false, e, e2]
theorem req3 (oT : okW N T = true) (hT : isStamp T = true) (oG : okW N G = true) (hG : isCount G = true) : m_require_both [T, G] st = .ok .non st := by
  have e := stamp_ok (st := st) oT
  rw [hT] at e
  have e2 := count_ok (st := st) oG
  rw [hG] at e2
  simp only [m_require_both, sRaise1, fnM, outM, sSeq, sSet, sRet, sDrop, sIf, sPut, sPar, sUnp, sNx, liftE, mOp, mUn, mCall, mCons, mNil, mC, mV, mB, asB, mAnd, mOr, mNot, mAndV, mOrV, mNotV, mIf, mTup, mLst, mNew, Res.bind, List.map_cons, List.map_nil, List.length_cons, List.length_nil, List.replicate, List.cons_append, List.nil_append, List.getElem?_cons_zero, List.getElem?_cons_succ, List.set_cons_zero, List.set_cons_succ, Nat.reduceAdd, Nat.reduceSub, Nat.reduceLeDiff, if_pos, if_true, ite_true, Mi.putAll, mTru, truW, fIsK, isK, Nat.beq, Bool.not_true, Bool.not_false, Bool.false_eq_true, if_false, Bool.or_false, Bool.false_or, Bool.or_self, decide_true, decide_false, e, e2]
theorem stamp_ex (h : isStamp T = true) : ∃ i j : Int, T = .tup [.int i, .int j] ∧ 0 ≤ i ∧ 0 ≤ j := by
  match T, h with
  | .tup [a, b], h =>
    simp only [isStamp, Bool.and_eq_true] at h
    obtain ⟨h1, h2⟩ := h
    match a, b, h1, h2 with
    | .int i, .int j, h1, h2 => exact ⟨i, j, rfl, of_decide_eq_true h1, of_decide_eq_true h2⟩
theorem count_ex (h : isCount G = true) : ∃ i : Int, G = .int i ∧ 0 ≤ i := by
  match G, h with
  | .int i, h => exact ⟨i, rfl, of_decide_eq_true h⟩
theorem pair_stamp {i j : Int} (hi : 0 ≤ i) (hj : 0 ≤ j) : isStamp (.tup [.int i, .int j]) = true := by
  simp only [isStamp, isCount, decide_eq_true hi, decide_eq_true hj, Bool.and_self]
theorem max2 {a b : Int} : fMax2 [.int a, .int b] st = .ok (.int (if b > a then b else a)) st := rfl
theorem later3 (oT : okW N T = true) (hT : isStamp T = true) (oG : okW N G = true) (hG : isCount G = true) : ∃ S, okW (2 * N + 1) S = true ∧ isStamp S = true ∧ m_later [T, G] st = .ok S st := by
  have e := req3 (st := st) oT hT oG hG
  obtain ⟨i, j, rfl, i0, j0⟩ := stamp_ex hT
  obtain ⟨g, rfl, g0⟩ := count_ex hG
  have oi : i.natAbs ≤ N := of_decide_eq_true (ok_mem oT (x := .int i) (by simp))
  have oj : j.natAbs ≤ N := of_decide_eq_true (ok_mem oT (x := .int j) (by simp))
  have og : g.natAbs ≤ N := of_decide_eq_true oG
  by_cases hz : g = 0
  · refine ⟨.tup [.int i, .int (j + 1)], ?_, pair_stamp i0 (by omega), ?_⟩
    · simp only [okW, okWs, Bool.and_true, Bool.and_eq_true, decide_eq_true_eq]
      omega
    · have b : (g != 0) = false := by simp [hz]
      simp only [m_later, fnM, outM, sSeq, sSet, sRet, sDrop, sIf, sPut, sPar, sUnp, sNx, liftE, mOp, mUn, mCall, mCons, mNil, mC, mV, mB, asB, mAnd, mOr, mNot, mAndV, mOrV, mNotV, mIf, mTup, mLst, mNew, Res.bind, List.map_cons, List.map_nil, List.length_cons, List.length_nil, List.replicate, List.cons_append, List.nil_append, List.getElem?_cons_zero, List.getElem?_cons_succ, List.set_cons_zero, List.set_cons_succ, Nat.reduceAdd, Nat.reduceSub, Nat.reduceLeDiff, if_pos, if_true, ite_true, Mi.putAll, mTru, truW, fIsK, isK, Nat.beq, Bool.not_true, Bool.not_false, Bool.false_eq_true, if_false, Bool.or_false, Bool.false_or, Bool.or_self, decide_true, decide_false, e, b, f_add]
  · refine ⟨.tup [.int (i + g), .int 0], ?_, pair_stamp (by omega) (by decide), ?_⟩
    · simp only [okW, okWs, Bool.and_true, Bool.and_eq_true, decide_eq_true_eq]
      omega
    · have b : (g != 0) = true := by simp [hz]
      simp only [m_later, fnM, outM, sSeq, sSet, sRet, sDrop, sIf, sPut, sPar, sUnp, sNx, liftE, mOp, mUn, mCall, mCons, mNil, mC, mV, mB, asB, mAnd, mOr, mNot, mAndV, mOrV, mNotV, mIf, mTup, mLst, mNew, Res.bind, List.map_cons, List.map_nil, List.length_cons, List.length_nil, List.replicate, List.cons_append, List.nil_append, List.getElem?_cons_zero, List.getElem?_cons_succ, List.set_cons_zero, List.set_cons_succ, Nat.reduceAdd, Nat.reduceSub, Nat.reduceLeDiff, if_pos, if_true, ite_true, Mi.putAll, mTru, truW, fIsK, isK, Nat.beq, Bool.not_true, Bool.not_false, Bool.false_eq_true, if_false, Bool.or_false, Bool.false_or, Bool.or_self, decide_true, decide_false, e, b, f_add]
theorem ahead3 (oT : okW N T = true) (hT : isStamp T = true) (oG : okW N G = true) (hG : isCount G = true) : ∃ S, okW (2 * N + 1) S = true ∧ isStamp S = true ∧ m_ahead_of [T, G] st = .ok S st := by
  have e := req3 (st := st) oT hT oG hG
  obtain ⟨i, j, rfl, i0, j0⟩ := stamp_ex hT
  obtain ⟨g, rfl, g0⟩ := count_ex hG
  have oi : i.natAbs ≤ N := of_decide_eq_true (ok_mem oT (x := .int i) (by simp))
  have oj : j.natAbs ≤ N := of_decide_eq_true (ok_mem oT (x := .int j) (by simp))
  have og : g.natAbs ≤ N := of_decide_eq_true oG
  have mx : ∀ a : Int, 0 ≤ (if (0 : Int) > a then 0 else a) ∧ (if (0 : Int) > a then 0 else a) ≤ max a 0 := fun a => by
    split <;> omega
  by_cases hz : g = 0
  · have m1 := mx (j - 1)
    refine ⟨.tup [.int i, .int (if (0 : Int) > j - 1 then 0 else j - 1)], ?_, pair_stamp i0 m1.1, ?_⟩
    · simp only [okW, okWs, Bool.and_true, Bool.and_eq_true, decide_eq_true_eq]
      omega
    · have b : (g != 0) = false := by simp [hz]
      simp only [m_ahead_of, fnM, outM, sSeq, sSet, sRet, sDrop, sIf, sPut, sPar, sUnp, sNx, liftE, mOp, mUn, mCall, mCons, mNil, mC, mV, mB, asB, mAnd, mOr, mNot, mAndV, mOrV, mNotV, mIf, mTup, mLst, mNew, Res.bind, List.map_cons, List.map_nil, List.length_cons, List.length_nil, List.replicate, List.cons_append, List.nil_append, List.getElem?_cons_zero, List.getElem?_cons_succ, List.set_cons_zero, List.set_cons_succ, Nat.reduceAdd, Nat.reduceSub, Nat.reduceLeDiff, if_pos, if_true, ite_true, Mi.putAll, mTru, truW, fIsK, isK, Nat.beq, Bool.not_true, Bool.not_false, Bool.false_eq_true, if_false, Bool.or_false, Bool.false_or, Bool.or_self, decide_true, decide_false, e, b, f_sub, max2]
  · have b : (g != 0) = true := by simp [hz]
    by_cases hj : j = 0
    · have m1 := mx (i - g + 0)
      refine ⟨.tup [.int (if (0 : Int) > i - g + 0 then 0 else i - g + 0), .int 0], ?_, pair_stamp m1.1 (by decide), ?_⟩
      · simp only [okW, okWs, Bool.and_true, Bool.and_eq_true, decide_eq_true_eq]
        omega
      · have b2 : (j != 0) = false := by simp [hj]
        simp only [m_ahead_of, fnM, outM, sSeq, sSet, sRet, sDrop, sIf, sPut, sPar, sUnp, sNx, liftE, mOp, mUn, mCall, mCons, mNil, mC, mV, mB, asB, mAnd, mOr, mNot, mAndV, mOrV, mNotV, mIf, mTup, mLst, mNew, Res.bind, List.map_cons, List.map_nil, List.length_cons, List.length_nil, List.replicate, List.cons_append, List.nil_append, List.getElem?_cons_zero, List.getElem?_cons_succ, List.set_cons_zero, List.set_cons_succ, Nat.reduceAdd, Nat.reduceSub, Nat.reduceLeDiff, if_pos, if_true, ite_true, Mi.putAll, mTru, truW, fIsK, isK, Nat.beq, Bool.not_true, Bool.not_false, Bool.false_eq_true, if_false, Bool.or_false, Bool.false_or, Bool.or_self, decide_true, decide_false, e, b, b2, f_sub, f_add, max2]
    · have m1 := mx (i - g + 1)
      refine ⟨.tup [.int (if (0 : Int) > i - g + 1 then 0 else i - g + 1), .int 0], ?_, pair_stamp m1.1 (by decide), ?_⟩
      · simp only [okW, okWs, Bool.and_true, Bool.and_eq_true, decide_eq_true_eq]
        omega
      · have b2 : (j != 0) = true := by simp [hj]
        simp only [m_ahead_of, fnM, outM, sSeq, sSet, sRet, sDrop, sIf, sPut, sPar, sUnp, sNx, liftE, mOp, mUn, mCall, mCons, mNil, mC, mV, mB, asB, mAnd, mOr, mNot, mAndV, mOrV, mNotV, mIf, mTup, mLst, mNew, Res.bind, List.map_cons, List.map_nil, List.length_cons, List.length_nil, List.replicate, List.cons_append, List.nil_append, List.getElem?_cons_zero, List.getElem?_cons_succ, List.set_cons_zero, List.set_cons_succ, Nat.reduceAdd, Nat.reduceSub, Nat.reduceLeDiff, if_pos, if_true, ite_true, Mi.putAll, mTru, truW, fIsK, isK, Nat.beq, Bool.not_true, Bool.not_false, Bool.false_eq_true, if_false, Bool.or_false, Bool.false_or, Bool.or_self, decide_true, decide_false, e, b, b2, f_sub, f_add, max2]
/-! ### what is told of it -/
theorem kx1 {v : W} : keptX "BadStamp" "value" ⟨"BadStamp", [("value", v)]⟩ = some v := by
  unfold keptX
  rw [if_pos rfl]
  exact if_pos rfl
theorem kx2 {v : W} : keptX "BadStamp" "value" ⟨"BadDelay", [("value", v)]⟩ = none := by
  unfold keptX
  have ne : ¬ ("BadDelay" : Str) = "BadStamp" := by decide +kernel
  exact if_neg ne
theorem kx3 {v : W} : keptX "BadDelay" "value" ⟨"BadDelay", [("value", v)]⟩ = some v := by
  unfold keptX
  rw [if_pos rfl]
  exact if_pos rfl
theorem fit_of {a : W} (F : Fit (10 ^ 20) 1000 4 a) (s : Str) (hs : okW (10 ^ 20) (.str s) = true) (hl : s.cps.size ≤ 100) : Fit (10 ^ 20) 2000 5 (.tup [.str s, a]) := by
  have o := F.ok
  have w := F.wt
  have d := F.dp
  refine ⟨?_, ?_, ?_⟩
  · simp only [okW] at hs
    simp only [okW, okWs, o, hs, Bool.and_true]
  · simp only [wtW, wtWs]
    omega
  · simp only [dpW, dpWs]
    omega
theorem right1 (F : Fit (10 ^ 20) 1000 4 T) (hT : isStamp T = false) : m_l_is_right [.tup [.str z_stamp, T], T, G] st = .ok (.bl true) st := by
  have e := due_ok (st := st) F.ok
  rw [hT] at e
  obtain ⟨t, et⟩ := fit_repr (fit_of F z_stamp (by decide +kernel) (by decide +kernel)) (by decide) (by decide) (by decide)
  simp only [m_l_is_right, fnM, outM, sSeq, sSet, sRet, sDrop, sIf, sPut, sPar, sUnp, sNx, liftE, mOp, mUn, mCall, mCons, mNil, mC, mV, mB, asB, mAnd, mOr, mNot, mAndV, mOrV, mNotV, mIf, mTup, mLst, mNew, Res.bind, List.map_cons, List.map_nil, List.length_cons, List.length_nil, List.replicate, List.cons_append, List.nil_append, List.getElem?_cons_zero, List.getElem?_cons_succ, List.set_cons_zero, List.set_cons_succ, Nat.reduceAdd, Nat.reduceSub, Nat.reduceLeDiff, if_pos, if_true, ite_true, Mi.putAll, mTru, truW, fIsK, isK, Nat.beq, Bool.not_true, Bool.not_false, Bool.false_eq_true, if_false, Bool.or_false, Bool.false_or, Bool.or_self, decide_true, decide_false, e, et, f_eqS]
theorem right2 (F : Fit (10 ^ 20) 1000 4 T) (hT : isStamp T = true) (FG : Fit (10 ^ 20) 1000 4 G) (hG : isCount G = false) : m_l_is_right [.tup [.str z_delay, G], T, G] st = .ok (.bl true) st := by
  have e := due_ok (st := st) F.ok
  rw [hT] at e
  obtain ⟨t, et⟩ := fit_repr (fit_of FG z_delay (by decide +kernel) (by decide +kernel)) (by decide) (by decide) (by decide)
  have e2 := lint_ok (st := st) FG.ok
  cases G with
  | int i =>
    have hi : i < 0 := by
      have z : decide (0 ≤ i) = false := hG
      have z2 := of_decide_eq_false z
      omega
    simp only [m_l_is_right, fnM, outM, sSeq, sSet, sRet, sDrop, sIf, sPut, sPar, sUnp, sNx, liftE, mOp, mUn, mCall, mCons, mNil, mC, mV, mB, asB, mAnd, mOr, mNot, mAndV, mOrV, mNotV, mIf, mTup, mLst, mNew, Res.bind, List.map_cons, List.map_nil, List.length_cons, List.length_nil, List.replicate, List.cons_append, List.nil_append, List.getElem?_cons_zero, List.getElem?_cons_succ, List.set_cons_zero, List.set_cons_succ, Nat.reduceAdd, Nat.reduceSub, Nat.reduceLeDiff, if_pos, if_true, ite_true, Mi.putAll, mTru, truW, fIsK, isK, Nat.beq, Bool.not_true, Bool.not_false, Bool.false_eq_true, if_false, Bool.or_false, Bool.false_or, Bool.or_self, decide_true, decide_false, e, e2, f_lt, hi, et, f_eqS]
  | _ => simp only [m_l_is_right, fnM, outM, sSeq, sSet, sRet, sDrop, sIf, sPut, sPar, sUnp, sNx, liftE, mOp, mUn, mCall, mCons, mNil, mC, mV, mB, asB, mAnd, mOr, mNot, mAndV, mOrV, mNotV, mIf, mTup, mLst, mNew, Res.bind, List.map_cons, List.map_nil, List.length_cons, List.length_nil, List.replicate, List.cons_append, List.nil_append, List.getElem?_cons_zero, List.getElem?_cons_succ, List.set_cons_zero, List.set_cons_succ, Nat.reduceAdd, Nat.reduceSub, Nat.reduceLeDiff, if_pos, if_true, ite_true, Mi.putAll, mTru, truW, fIsK, isK, Nat.beq, Bool.not_true, Bool.not_false, Bool.false_eq_true, if_false, Bool.or_false, Bool.false_or, Bool.or_self, decide_true, decide_false, e, e2, et, f_eqS]
theorem right3 {S : W} (F : okW N T = true) (hT : isStamp T = true) (hG : isCount G = true) (oS : okW N S = true) (hS : isStamp S = true) : m_l_is_right [.tup [.str z_told, S], T, G] st = .ok (.bl true) st := by
  have e := due_ok (st := st) F
  rw [hT] at e
  have e1 := due_ok (st := st) oS
  rw [hS] at e1
  obtain ⟨g, rfl, g0⟩ := count_ex hG
  have e2 : m_l_is_int [.int g] st = .ok (.bl true) st := rfl
  have hn : ¬ g < 0 := by omega
  have x0 : fIx (.tup [.str z_told, S]) (.int 0) st = .ok (.str z_told) st := f_ixT rfl
  have x1 : fIx (.tup [.str z_told, S]) (.int 1) st = .ok S st := f_ixT rfl
  simp only [m_l_is_right, fnM, outM, sSeq, sSet, sRet, sDrop, sIf, sPut, sPar, sUnp, sNx, liftE, mOp, mUn, mCall, mCons, mNil, mC, mV, mB, asB, mAnd, mOr, mNot, mAndV, mOrV, mNotV, mIf, mTup, mLst, mNew, Res.bind, List.map_cons, List.map_nil, List.length_cons, List.length_nil, List.replicate, List.cons_append, List.nil_append, List.getElem?_cons_zero, List.getElem?_cons_succ, List.set_cons_zero, List.set_cons_succ, Nat.reduceAdd, Nat.reduceSub, Nat.reduceLeDiff, if_pos, if_true, ite_true, Mi.putAll, mTru, truW, fIsK, isK, Nat.beq, Bool.not_true, Bool.not_false, Bool.false_eq_true, if_false, Bool.or_false, Bool.false_or, Bool.or_self, decide_true, decide_false, e, e2, f_lt, hn, x0, x1, e1, f_eqS]
def told (m : List W → Store → Res W) (T G : W) (st : Store) : Res W := fCaught "BadStamp" "BadDelay" "value" z_told z_stamp z_delay (m [T, G] st)
theorem told_later (F : Fit (10 ^ 20) 1000 4 T) (FG : Fit (10 ^ 20) 1000 4 G) : ∃ w, told m_later T G st = .ok w st ∧ m_l_is_right [w, T, G] st = .ok (.bl true) st := by
  cases hT : isStamp T with
  | false =>
    have e := req1 (G := G) (st := st) F.ok hT
    refine ⟨_, ?_, right1 F hT⟩
    simp only [told, m_later, fnM, outM, sSeq, sSet, sRet, sDrop, sIf, sPut, sPar, sUnp, sNx, liftE, mOp, mUn, mCall, mCons, mNil, mC, mV, mB, asB, mAnd, mOr, mNot, mAndV, mOrV, mNotV, mIf, mTup, mLst, mNew, Res.bind, List.map_cons, List.map_nil, List.length_cons, List.length_nil, List.replicate, List.cons_append, List.nil_append, List.getElem?_cons_zero, List.getElem?_cons_succ, List.set_cons_zero, List.set_cons_succ, Nat.reduceAdd, Nat.reduceSub, Nat.reduceLeDiff, if_pos, if_true, ite_true, Mi.putAll, mTru, truW, fIsK, isK, Nat.beq, Bool.not_true, Bool.not_false, Bool.false_eq_true, if_false, Bool.or_false, Bool.false_or, Bool.or_self, decide_true, decide_false, e, fCaught, kx1]
  | true =>
    cases hG : isCount G with
    | false =>
      have e := req2 (st := st) F.ok hT FG.ok hG
      refine ⟨_, ?_, right2 F hT FG hG⟩
      simp only [told, m_later, fnM, outM, sSeq, sSet, sRet, sDrop, sIf, sPut, sPar, sUnp, sNx, liftE, mOp, mUn, mCall, mCons, mNil, mC, mV, mB, asB, mAnd, mOr, mNot, mAndV, mOrV, mNotV, mIf, mTup, mLst, mNew, Res.bind, List.map_cons, List.map_nil, List.length_cons, List.length_nil, List.replicate, List.cons_append, List.nil_append, List.getElem?_cons_zero, List.getElem?_cons_succ, List.set_cons_zero, List.set_cons_succ, Nat.reduceAdd, Nat.reduceSub, Nat.reduceLeDiff, if_pos, if_true, ite_true, Mi.putAll, mTru, truW, fIsK, isK, Nat.beq, Bool.not_true, Bool.not_false, Bool.false_eq_true, if_false, Bool.or_false, Bool.false_or, Bool.or_self, decide_true, decide_false, e, fCaught, kx2, kx3]
    | true =>
      obtain ⟨S, oS, hS, e⟩ := later3 (st := st) F.ok hT FG.ok hG
      refine ⟨_, ?_, right3 (okW_mono (by decide) T F.ok) hT hG oS hS⟩
      simp only [told, e, fCaught]
theorem told_ahead (F : Fit (10 ^ 20) 1000 4 T) (FG : Fit (10 ^ 20) 1000 4 G) : ∃ w, told m_ahead_of T G st = .ok w st ∧ m_l_is_right [w, T, G] st = .ok (.bl true) st := by
  cases hT : isStamp T with
  | false =>
    have e := req1 (G := G) (st := st) F.ok hT
    refine ⟨_, ?_, right1 F hT⟩
    simp only [told, m_ahead_of, fnM, outM, sSeq, sSet, sRet, sDrop, sIf, sPut, sPar, sUnp, sNx, liftE, mOp, mUn, mCall, mCons, mNil, mC, mV, mB, asB, mAnd, mOr, mNot, mAndV, mOrV, mNotV, mIf, mTup, mLst, mNew, Res.bind, List.map_cons, List.map_nil, List.length_cons, List.length_nil, List.replicate, List.cons_append, List.nil_append, List.getElem?_cons_zero, List.getElem?_cons_succ, List.set_cons_zero, List.set_cons_succ, Nat.reduceAdd, Nat.reduceSub, Nat.reduceLeDiff, if_pos, if_true, ite_true, Mi.putAll, mTru, truW, fIsK, isK, Nat.beq, Bool.not_true, Bool.not_false, Bool.false_eq_true, if_false, Bool.or_false, Bool.false_or, Bool.or_self, decide_true, decide_false, e, fCaught, kx1]
  | true =>
    cases hG : isCount G with
    | false =>
      have e := req2 (st := st) F.ok hT FG.ok hG
      refine ⟨_, ?_, right2 F hT FG hG⟩
      simp only [told, m_ahead_of, fnM, outM, sSeq, sSet, sRet, sDrop, sIf, sPut, sPar, sUnp, sNx, liftE, mOp, mUn, mCall, mCons, mNil, mC, mV, mB, asB, mAnd, mOr, mNot, mAndV, mOrV, mNotV, mIf, mTup, mLst, mNew, Res.bind, List.map_cons, List.map_nil, List.length_cons, List.length_nil, List.replicate, List.cons_append, List.nil_append, List.getElem?_cons_zero, List.getElem?_cons_succ, List.set_cons_zero, List.set_cons_succ, Nat.reduceAdd, Nat.reduceSub, Nat.reduceLeDiff, if_pos, if_true, ite_true, Mi.putAll, mTru, truW, fIsK, isK, Nat.beq, Bool.not_true, Bool.not_false, Bool.false_eq_true, if_false, Bool.or_false, Bool.false_or, Bool.or_self, decide_true, decide_false, e, fCaught, kx2, kx3]
    | true =>
      obtain ⟨S, oS, hS, e⟩ := ahead3 (st := st) F.ok hT FG.ok hG
      refine ⟨_, ?_, right3 (okW_mono (by decide) T F.ok) hT hG oS hS⟩
      simp only [told, e, fCaught]
theorem lam_1 {e0 e3 : Option W} {w : W} (h : told m_later T G st = .ok w st) : mLam "BadStamp" "BadDelay" "value" z_told z_stamp z_delay m_l_right_lam1 [e0, some T, some G, e3] st = .ok w st := by
  simp only [told] at h
  simp only [mLam, m_l_right_lam1, fnM, outM, sSeq, sSet, sRet, sDrop, sIf, sPut, sPar, sUnp, sNx, liftE, mOp, mUn, mCall, mCons, mNil, mC, mV, mB, asB, mAnd, mOr, mNot, mAndV, mOrV, mNotV, mIf, mTup, mLst, mNew, Res.bind, List.map_cons, List.map_nil, List.length_cons, List.length_nil, List.replicate, List.cons_append, List.nil_append, List.getElem?_cons_zero, List.getElem?_cons_succ, List.set_cons_zero, List.set_cons_succ, Nat.reduceAdd, Nat.reduceSub, Nat.reduceLeDiff, if_pos, if_true, ite_true, Mi.putAll, mTru, truW, fIsK, isK, Nat.beq, Bool.not_true, Bool.not_false, Bool.false_eq_true, if_false, Bool.or_false, Bool.false_or, Bool.or_self, decide_true, decide_false, h]
theorem lam_2 {e0 e3 : Option W} {w : W} (h : told m_ahead_of T G st = .ok w st) : mLam "BadStamp" "BadDelay" "value" z_told z_stamp z_delay m_l_right_lam2 [e0, some T, some G, e3] st = .ok w st := by
  simp only [told] at h
  simp only [mLam, m_l_right_lam2, fnM, outM, sSeq, sSet, sRet, sDrop, sIf, sPut, sPar, sUnp, sNx, liftE, mOp, mUn, mCall, mCons, mNil, mC, mV, mB, asB, mAnd, mOr, mNot, mAndV, mOrV, mNotV, mIf, mTup, mLst, mNew, Res.bind, List.map_cons, List.map_nil, List.length_cons, List.length_nil, List.replicate, List.cons_append, List.nil_append, List.getElem?_cons_zero, List.getElem?_cons_succ, List.set_cons_zero, List.set_cons_succ, Nat.reduceAdd, Nat.reduceSub, Nat.reduceLeDiff, if_pos, if_true, ite_true, Mi.putAll, mTru, truW, fIsK, isK, Nat.beq, Bool.not_true, Bool.not_false, Bool.false_eq_true, if_false, Bool.or_false, Bool.false_or, Bool.or_self, decide_true, decide_false, h]
theorem right_ok (h : Pot st p c) (hc : c ≤ 700000) : Got (m_l_right [.ref p] st) fun w s => w = .bl true ∧ Pot s p (c + 10) := by
  obtain ⟨T, s1, e1, F1, f1, p1⟩ := thing_ok h (by omega)
  obtain ⟨O, s2, e2, F2, f2, p2⟩ := odd_ok p1 (by omega)
  obtain ⟨G, s3, e3, hG, f3, p3⟩ := of_ok (xs := [.int 0, .int 3, O]) p2 (by omega) (show 1 ≤ 3 by decide) (show 3 ≤ 10000 by decide)
  have F3 : Fit (10 ^ 20) 1000 4 G := by
    simp only [List.mem_cons, List.not_mem_nil, or_false] at hG
    rcases hG with rfl | rfl | rfl
    · exact ⟨by decide +kernel, by decide, by decide⟩
    · exact ⟨by decide +kernel, by decide, by decide⟩
    · exact F2.up (Nat.le_refl _) (by decide) (by decide)
  have FP : Fit (10 ^ 20) 3000 5 (.tup [T, G]) := by
    have oT := F1.ok
    have oG := F3.ok
    have wT := F1.wt
    have wG := F3.wt
    have dT := F1.dp
    have dG := F3.dp
    refine ⟨?_, ?_, ?_⟩
    · simp only [okW, okWs, oT, oG, Bool.and_true]
    · simp only [wtW, wtWs]
      omega
    · simp only [dpW, dpWs]
      omega
  obtain ⟨t, et⟩ := fit_repr FP (by decide) (by decide) (by decide)
  obtain ⟨u, eu⟩ := fit_repr (N := 10 ^ 20) (n := 0) (k := 0) (w := .bl (isStamp T)) ⟨rfl, Nat.le_refl _, Nat.le_refl _⟩ (by decide) (by decide) (by decide)
  have es := stamp_ok (st := s3) F1.ok
  have ek : kwM 1 [0] m_is_stamp [T] s3 = _ := stamp_ok (st := s3) F1.ok
  have ed := due_ok (st := s3) F1.ok
  obtain ⟨w1, t1, r1⟩ := told_later (st := s3) F1 F3
  obtain ⟨w2, t2, r2⟩ := told_ahead (st := s3) F1 F3
  have l1 := lam_1 (e0 := some (.ref p)) (e3 := some (.str t)) t1
  have l2 := lam_2 (e0 := some (.ref p)) (e3 := some (.str t)) t2
  refine ⟨.bl true, s3, ?_, rfl, p3.mono (by omega)⟩
  simp only [m_l_right, fnM, outM, sSeq, sSet, sRet, sDrop, sIf, sPut, sPar, sUnp, sNx, liftE, mOp, mUn, mCall, mCons, mNil, mC, mV, mB, asB, mAnd, mOr, mNot, mAndV, mOrV, mNotV, mIf, mTup, mLst, mNew, Res.bind, List.map_cons, List.map_nil, List.length_cons, List.length_nil, List.replicate, List.cons_append, List.nil_append, List.getElem?_cons_zero, List.getElem?_cons_succ, List.set_cons_zero, List.set_cons_succ, Nat.reduceAdd, Nat.reduceSub, Nat.reduceLeDiff, if_pos, if_true, ite_true, Mi.putAll, mTru, truW, fIsK, isK, Nat.beq, Bool.not_true, Bool.not_false, Bool.false_eq_true, if_false, Bool.or_false, Bool.false_or, Bool.or_self, decide_true, decide_false, e1, e2, e3, et, es, ek, ed, eu, f_neS, ne_eq, not_true_eq_false, l1, l2, r1, r2, f_eqS]
end K09gen

namespace K09gen
open PySem PySem.Spec PyProof.Rows L2 Mi
variable [ClsMap]

theorem outer_ok {ns : List Int} {k : Int} {v2 v3 : Option W} {st : Store} (hk : 0 ≤ k) (hk2 : k ≤ 2) :
    ∃ w2 w3 s2, m_law_b1 [some (.frz (ns.map W.int)), some (.int k), v2, v3] st = .go (.nx [some (.frz (ns.map W.int)), some (.int k), w2, w3]) s2 := by
  obtain ⟨w, s1, e1, rfl, l1, p1⟩ := pot_ok (ns := ns) (st := st) hk hk2
  generalize hF : some (W.frz (ns.map W.int)) = F at *
  obtain ⟨s2, e2, p2⟩ := lc_true (put := setN 3) (te := m_law_e1) (env := wipeE [F, some (.int k), some (.ref st.length), v3] [3]) (xs := rngW 0 30) (fun i s => Pot s st.length (10 * i)) (by rw [rngW_len]; decide) (fun i x s hx hI => by
    have hi : i < 30 := by
      have z := (List.getElem?_eq_some_iff.mp hx).1
      rw [rngW_len] at z
      exact z
    obtain ⟨w, s2, e, rfl, q⟩ := right_ok hI (by omega)
    refine ⟨s2, ?_, q.mono (by omega)⟩
    simp only [m_law_e1, setN, wipeE, fnM, outM, sSeq, sSet, sRet, sDrop, sIf, sPut, sPar, sUnp, sNx, liftE, mOp, mUn, mCall, mCons, mNil, mC, mV, mB, asB, mAnd, mOr, mNot, mAndV, mOrV, mNotV, mIf, mTup, mLst, mNew, Res.bind, List.map_cons, List.map_nil, List.length_cons, List.length_nil, List.replicate, List.cons_append, List.nil_append, List.getElem?_cons_zero, List.getElem?_cons_succ, List.set_cons_zero, List.set_cons_succ, Nat.reduceAdd, Nat.reduceSub, Nat.reduceLeDiff, if_pos, if_true, ite_true, Mi.putAll, mTru, truW, fIsK, isK, Nat.beq, Bool.not_true, Bool.not_false, Bool.false_eq_true, if_false, Bool.or_false, Bool.false_or, Bool.or_self, decide_true, decide_false, e]) s1 (p1.mono (by omega))
  rw [rngW_len] at e2
  have a := f_all (n := 30) (st := s2)
  generalize List.replicate 30 (W.bl true) = L1 at *
  have b1 : -(2 ^ 62) ≤ (30 : Int) ∧ (30 : Int) < 2 ^ 62 := by decide
  refine ⟨some (.ref st.length), v3, s2, ?_⟩
  subst hF
  simp only [m_law_b1, fnM, outM, sSeq, sSet, sRet, sDrop, sIf, sPut, sPar, sUnp, sNx, liftE, mOp, mUn, mCall, mCons, mNil, mC, mV, mB, asB, mAnd, mOr, mNot, mAndV, mOrV, mNotV, mIf, mTup, mLst, mNew, Res.bind, List.map_cons, List.map_nil, List.length_cons, List.length_nil, List.replicate, List.cons_append, List.nil_append, List.getElem?_cons_zero, List.getElem?_cons_succ, List.set_cons_zero, List.set_cons_succ, Nat.reduceAdd, Nat.reduceSub, Nat.reduceLeDiff, if_pos, if_true, ite_true, Mi.putAll, mTru, truW, fIsK, isK, Nat.beq, Bool.not_true, Bool.not_false, Bool.false_eq_true, if_false, Bool.or_false, Bool.false_or, Bool.or_self, decide_true, decide_false, e1, mLcR1, as1, b1, and_self, show (30 : Int).toNat = 30 from rfl, e2, asLst, a]
theorem law_true (ns : List Int) (hn : ns.length ≤ 63) : ∃ st', m_law [.frz (ns.map W.int)] [] = .ok (.bl true) st' := by
  generalize ha : (if ((ns.map W.int).length : Int) < 3 then ((ns.map W.int).length : Int) else 3) = a
  generalize hb : (if a > 1 then a else 1) = b
  have hb2 : 0 ≤ b ∧ b ≤ 3 := by
    rw [← hb, ← ha]
    split <;> split <;> omega
  obtain ⟨e2, s2, ef, _, v2, v3, ee⟩ := forEach_inv (xs := rngW 0 b.toNat) (put := fun x e => e.set 1 (some x)) (body := m_law_b1) (fun _ env _ => True ∧ ∃ v1 v2 v3, env = [some (.frz (ns.map W.int)), v1, v2, v3])
    (fun i x env s hx hI => by
      obtain ⟨_, v1, v2, v3, rfl⟩ := hI
      obtain ⟨k, hk, rfl⟩ := mem_rng (List.mem_of_getElem? hx)
      obtain ⟨w2, w3, s2, e⟩ := outer_ok (ns := ns) (k := 0 + (k : Int)) (v2 := v2) (v3 := v3) (st := s) (by omega) (by omega)
      exact ⟨_, s2, e, trivial, _, _, _, rfl⟩) [some (.frz (ns.map W.int)), none, none, none] [] ⟨trivial, _, _, _, rfl⟩
  have b1 : -(2 ^ 62) ≤ b ∧ b < 2 ^ 62 := by omega
  refine ⟨s2, ?_⟩
  simp only [m_law, fnM, outM, sSeq, sSet, sRet, sDrop, sIf, sPut, sPar, sUnp, sNx, liftE, mOp, mUn, mCall, mCons, mNil, mC, mV, mB, asB, mAnd, mOr, mNot, mAndV, mOrV, mNotV, mIf, mTup, mLst, mNew, Res.bind, List.map_cons, List.map_nil, List.length_cons, List.length_nil, List.replicate, List.cons_append, List.nil_append, List.getElem?_cons_zero, List.getElem?_cons_succ, List.set_cons_zero, List.set_cons_succ, Nat.reduceAdd, Nat.reduceSub, Nat.reduceLeDiff, if_pos, if_true, ite_true, Mi.putAll, mTru, truW, fIsK, isK, Nat.beq, Bool.not_true, Bool.not_false, Bool.false_eq_true, if_false, Bool.or_false, Bool.false_or, Bool.or_self, decide_true, decide_false, sForR1, f_lenF, fMin2, ha, fMax2, hb, as1, b1, and_self, ef]
end K09gen

namespace K09gen
open PySem PySem.Spec PyProof.Rows L2 Mi

@[reducible] def clsm (T : Addr) : ClsMap := ⟨fun _ => 0, [(T, ("_law_right" ++ ".<locals>." ++ "<lambda>"))]⟩
theorem top_mk {P : Program} {w : World} {K : PySem.W.Frag} {h : Heap} {mg : Str → Option Value} {fa : Addr}
    {cR TR : Addr} {ccR : Value} {cdR : Option Addr} {vvR : Array Value} {csR : Array (Option Value)}
    {f0 : Addr} {od0 an0 : Option Addr} {sl0 : Array (Option Value)} {oc0 kV0 dc0 pm0 cd0 ct0 : Value}
    {f1 : Addr} {od1 an1 : Option Addr} {sl1 : Array (Option Value)} {oc1 kV1 dc1 pm1 cd1 ct1 : Value}
    {f2 : Addr} {od2 an2 : Option Addr} {sl2 : Array (Option Value)} {oc2 kV2 dc2 pm2 cd2 ct2 : Value}
    {f3 : Addr} {od3 an3 : Option Addr} {sl3 : Array (Option Value)} {oc3 kV3 dc3 pm3 cd3 ct3 : Value}
    {f4 : Addr} {od4 an4 : Option Addr} {sl4 : Array (Option Value)} {oc4 kV4 dc4 pm4 cd4 ct4 : Value}
    {f5 : Addr} {od5 an5 : Option Addr} {sl5 : Array (Option Value)} {oc5 kV5 dc5 pm5 cd5 ct5 : Value}
    {f6 : Addr} {od6 an6 : Option Addr} {sl6 : Array (Option Value)} {oc6 kV6 dc6 pm6 cd6 ct6 : Value}
    {f7 : Addr} {od7 an7 : Option Addr} {sl7 : Array (Option Value)} {oc7 kV7 dc7 pm7 cd7 ct7 : Value}
    {f8 : Addr} {od8 an8 : Option Addr} {sl8 : Array (Option Value)} {oc8 kV8 dc8 pm8 cd8 ct8 : Value}
    {f9 : Addr} {od9 an9 : Option Addr} {sl9 : Array (Option Value)} {oc9 kV9 dc9 pm9 cd9 ct9 : Value}
    {f10 : Addr} {od10 an10 : Option Addr} {sl10 : Array (Option Value)} {oc10 kV10 dc10 pm10 cd10 ct10 : Value}
    {f11 : Addr} {od11 an11 : Option Addr} {sl11 : Array (Option Value)} {oc11 kV11 dc11 pm11 cd11 ct11 : Value}
    {f12 : Addr} {od12 an12 : Option Addr} {sl12 : Array (Option Value)} {oc12 kV12 dc12 pm12 cd12 ct12 : Value}
    {f13 : Addr} {od13 an13 : Option Addr} {sl13 : Array (Option Value)} {oc13 kV13 dc13 pm13 cd13 ct13 : Value}
    {f14 : Addr} {od14 an14 : Option Addr} {sl14 : Array (Option Value)} {oc14 kV14 dc14 pm14 cd14 ct14 : Value}
    {f15 : Addr} {od15 an15 : Option Addr} {sl15 : Array (Option Value)} {oc15 kV15 dc15 pm15 ct15 : Value}
    {f16 : Addr} {od16 an16 : Option Addr} {sl16 : Array (Option Value)} {oc16 kV16 dc16 pm16 cd16 ct16 : Value}
    {f17 : Addr} {od17 an17 : Option Addr} {sl17 : Array (Option Value)} {oc17 kV17 dc17 pm17 cd17 ct17 : Value}
    {FARx : Addr} {cdF : ClassData}
    {C_BadStamp f_BadStamp N_BadStamp cda_BadStamp cc_BadStamp : Addr} {cd_BadStamp : ClassData} {nm_BadStamp q_BadStamp : Str} {bs_BadStamp bm_BadStamp sub_BadStamp : List Value} {sn_BadStamp : List Str} {ab_BadStamp : Bool} {col_BadStamp : Option Bool} {dd_BadStamp od_BadStamp an_BadStamp cdd_BadStamp cld_BadStamp : Option Addr} {k0_BadStamp k1_BadStamp k2_BadStamp k3_BadStamp k5_BadStamp : Option Value} {oc_BadStamp kV_BadStamp dc_BadStamp pm_BadStamp ct_BadStamp ccl_BadStamp cl_BadStamp : Value} {sl_BadStamp ccs_BadStamp csl_BadStamp : Array (Option Value)} {vv_BadStamp : Array Value} {file_BadStamp : Str} {tf_BadStamp : Tok}
    {C_BadDelay f_BadDelay N_BadDelay cda_BadDelay cc_BadDelay : Addr} {cd_BadDelay : ClassData} {nm_BadDelay q_BadDelay : Str} {bs_BadDelay bm_BadDelay sub_BadDelay : List Value} {sn_BadDelay : List Str} {ab_BadDelay : Bool} {col_BadDelay : Option Bool} {dd_BadDelay od_BadDelay an_BadDelay cdd_BadDelay cld_BadDelay : Option Addr} {k0_BadDelay k1_BadDelay k2_BadDelay k3_BadDelay k5_BadDelay : Option Value} {oc_BadDelay kV_BadDelay dc_BadDelay pm_BadDelay ct_BadDelay ccl_BadDelay cl_BadDelay : Value} {sl_BadDelay ccs_BadDelay csl_BadDelay : Array (Option Value)} {vv_BadDelay : Array Value} {file_BadDelay : Str} {tf_BadDelay : Tok}
    (X : K.In h) (G : h.Ns mainGlobals mg) (hfa : mg "law" = some (.ref fa))
    (a0 : PySem.W.nsIn K mainGlobals "is_integer" = some (some (.ref f0)))
    (l0 : K.lookup f0 = some ⟨oc0, od0, .func (PySem.W.fnOf "is_integer" "is_integer" (defArgs s_is_integer) (defBody s_is_integer) (defScope s_is_integer) .none kV0 dc0 pm0 an0 cd0 ct0), sl0⟩)
    (c0 : PySem.W.codeIn K cd0 "is_integer" = true)
    (k0 : PySem.W.keepIn K (.ref f0) = true)
    (a1 : PySem.W.nsIn K mainGlobals "is_tuple_of" = some (some (.ref f1)))
    (l1 : K.lookup f1 = some ⟨oc1, od1, .func (PySem.W.fnOf "is_tuple_of" "is_tuple_of" (defArgs s_is_tuple_of) (defBody s_is_tuple_of) (defScope s_is_tuple_of) .none kV1 dc1 pm1 an1 cd1 ct1), sl1⟩)
    (c1 : PySem.W.codeIn K cd1 "is_tuple_of" = true)
    (k1 : PySem.W.keepIn K (.ref f1) = true)
    (a2 : PySem.W.nsIn K mainGlobals "_law_pot" = some (some (.ref f2)))
    (l2 : K.lookup f2 = some ⟨oc2, od2, .func (PySem.W.fnOf "_law_pot" "_law_pot" (defArgs s_l_pot) (defBody s_l_pot) (defScope s_l_pot) .none kV2 dc2 pm2 an2 cd2 ct2), sl2⟩)
    (c2 : PySem.W.codeIn K cd2 "_law_pot" = true)
    (k2 : PySem.W.keepIn K (.ref f2) = true)
    (a3 : PySem.W.nsIn K mainGlobals "_law_take" = some (some (.ref f3)))
    (l3 : K.lookup f3 = some ⟨oc3, od3, .func (PySem.W.fnOf "_law_take" "_law_take" (defArgs s_l_take) (defBody s_l_take) (defScope s_l_take) .none kV3 dc3 pm3 an3 cd3 ct3), sl3⟩)
    (c3 : PySem.W.codeIn K cd3 "_law_take" = true)
    (k3 : PySem.W.keepIn K (.ref f3) = true)
    (a4 : PySem.W.nsIn K mainGlobals "_law_is_int" = some (some (.ref f4)))
    (l4 : K.lookup f4 = some ⟨oc4, od4, .func (PySem.W.fnOf "_law_is_int" "_law_is_int" (defArgs s_l_is_int) (defBody s_l_is_int) (defScope s_l_is_int) .none kV4 dc4 pm4 an4 cd4 ct4), sl4⟩)
    (c4 : PySem.W.codeIn K cd4 "_law_is_int" = true)
    (k4 : PySem.W.keepIn K (.ref f4) = true)
    (a5 : PySem.W.nsIn K mainGlobals "is_count" = some (some (.ref f5)))
    (l5 : K.lookup f5 = some ⟨oc5, od5, .func (PySem.W.fnOf "is_count" "is_count" (defArgs s_is_count) (defBody s_is_count) (defScope s_is_count) .none kV5 dc5 pm5 an5 cd5 ct5), sl5⟩)
    (c5 : PySem.W.codeIn K cd5 "is_count" = true)
    (k5 : PySem.W.keepIn K (.ref f5) = true)
    (a6 : PySem.W.nsIn K mainGlobals "_law_of" = some (some (.ref f6)))
    (l6 : K.lookup f6 = some ⟨oc6, od6, .func (PySem.W.fnOf "_law_of" "_law_of" (defArgs s_l_of) (defBody s_l_of) (defScope s_l_of) .none kV6 dc6 pm6 an6 cd6 ct6), sl6⟩)
    (c6 : PySem.W.codeIn K cd6 "_law_of" = true)
    (k6 : PySem.W.keepIn K (.ref f6) = true)
    (a7 : PySem.W.nsIn K mainGlobals "_law_is_due" = some (some (.ref f7)))
    (l7 : K.lookup f7 = some ⟨oc7, od7, .func (PySem.W.fnOf "_law_is_due" "_law_is_due" (defArgs s_l_is_due) (defBody s_l_is_due) (defScope s_l_is_due) .none kV7 dc7 pm7 an7 cd7 ct7), sl7⟩)
    (c7 : PySem.W.codeIn K cd7 "_law_is_due" = true)
    (k7 : PySem.W.keepIn K (.ref f7) = true)
    (a8 : PySem.W.nsIn K mainGlobals "is_stamp" = some (some (.ref f8)))
    (l8 : K.lookup f8 = some ⟨oc8, od8, .func (PySem.W.fnOf "is_stamp" "is_stamp" (defArgs s_is_stamp) (defBody s_is_stamp) (defScope s_is_stamp) .none kV8 dc8 pm8 an8 cd8 ct8), sl8⟩)
    (c8 : PySem.W.codeIn K cd8 "is_stamp" = true)
    (k8 : PySem.W.keepIn K (.ref f8) = true)
    (a9 : PySem.W.nsIn K mainGlobals "_law_odd" = some (some (.ref f9)))
    (l9 : K.lookup f9 = some ⟨oc9, od9, .func (PySem.W.fnOf "_law_odd" "_law_odd" (defArgs s_l_odd) (defBody s_l_odd) (defScope s_l_odd) .none kV9 dc9 pm9 an9 cd9 ct9), sl9⟩)
    (c9 : PySem.W.codeIn K cd9 "_law_odd" = true)
    (k9 : PySem.W.keepIn K (.ref f9) = true)
    (a10 : PySem.W.nsIn K mainGlobals "_law_is_right" = some (some (.ref f10)))
    (l10 : K.lookup f10 = some ⟨oc10, od10, .func (PySem.W.fnOf "_law_is_right" "_law_is_right" (defArgs s_l_is_right) (defBody s_l_is_right) (defScope s_l_is_right) .none kV10 dc10 pm10 an10 cd10 ct10), sl10⟩)
    (c10 : PySem.W.codeIn K cd10 "_law_is_right" = true)
    (k10 : PySem.W.keepIn K (.ref f10) = true)
    (a11 : PySem.W.nsIn K mainGlobals "require_both" = some (some (.ref f11)))
    (l11 : K.lookup f11 = some ⟨oc11, od11, .func (PySem.W.fnOf "require_both" "require_both" (defArgs s_require_both) (defBody s_require_both) (defScope s_require_both) .none kV11 dc11 pm11 an11 cd11 ct11), sl11⟩)
    (c11 : PySem.W.codeIn K cd11 "require_both" = true)
    (k11 : PySem.W.keepIn K (.ref f11) = true)
    (a12 : PySem.W.nsIn K mainGlobals "_law_thing" = some (some (.ref f12)))
    (l12 : K.lookup f12 = some ⟨oc12, od12, .func (PySem.W.fnOf "_law_thing" "_law_thing" (defArgs s_l_thing) (defBody s_l_thing) (defScope s_l_thing) .none kV12 dc12 pm12 an12 cd12 ct12), sl12⟩)
    (c12 : PySem.W.codeIn K cd12 "_law_thing" = true)
    (k12 : PySem.W.keepIn K (.ref f12) = true)
    (a13 : PySem.W.nsIn K mainGlobals "later" = some (some (.ref f13)))
    (l13 : K.lookup f13 = some ⟨oc13, od13, .func (PySem.W.fnOf "later" "later" (defArgs s_later) (defBody s_later) (defScope s_later) .none kV13 dc13 pm13 an13 cd13 ct13), sl13⟩)
    (c13 : PySem.W.codeIn K cd13 "later" = true)
    (k13 : PySem.W.keepIn K (.ref f13) = true)
    (a14 : PySem.W.nsIn K mainGlobals "ahead_of" = some (some (.ref f14)))
    (l14 : K.lookup f14 = some ⟨oc14, od14, .func (PySem.W.fnOf "ahead_of" "ahead_of" (defArgs s_ahead_of) (defBody s_ahead_of) (defScope s_ahead_of) .none kV14 dc14 pm14 an14 cd14 ct14), sl14⟩)
    (c14 : PySem.W.codeIn K cd14 "ahead_of" = true)
    (k14 : PySem.W.keepIn K (.ref f14) = true)
    (a15 : PySem.W.nsIn K mainGlobals "_law_right" = some (some (.ref f15)))
    (l15 : K.lookup f15 = some ⟨oc15, od15, .func (PySem.W.fnOf "_law_right" "_law_right" (defArgs s_l_right) (defBody s_l_right) (defScope s_l_right) .none kV15 dc15 pm15 an15 (.ref cR) ct15), sl15⟩)
    (c15 : PySem.W.codeIn K (.ref cR) "_law_right" = true)
    (tR1 : K.lookup cR = some ⟨ccR, cdR, .fields vvR, csR⟩)
    (tR2 : vvR[11]? = some (.ref TR))
    (k15 : PySem.W.keepIn K (.ref f15) = true)
    (a16 : PySem.W.nsIn K mainGlobals "law" = some (some (.ref f16)))
    (l16 : K.lookup f16 = some ⟨oc16, od16, .func (PySem.W.fnOf "law" "law" (defArgs s_law) (defBody s_law) (defScope s_law) .none kV16 dc16 pm16 an16 cd16 ct16), sl16⟩)
    (c16 : PySem.W.codeIn K cd16 "law" = true)
    (k16 : PySem.W.keepIn K (.ref f16) = true)
    (a17 : PySem.W.nsIn K mainGlobals "_law_caught" = some (some (.ref f17)))
    (l17 : K.lookup f17 = some ⟨oc17, od17, .func (PySem.W.fnOf "_law_caught" "_law_caught" (defArgs s_l_caught) (defBody s_l_caught) (defScope s_l_caught) .none kV17 dc17 pm17 an17 cd17 ct17), sl17⟩)
    (c17 : PySem.W.codeIn K cd17 "_law_caught" = true)
    (k17 : PySem.W.keepIn K (.ref f17) = true)
    (z0 : PySem.W.nsIn K mainGlobals "ValueError" = some none)
    (z1 : PySem.W.nsIn K mainGlobals "abs" = some none)
    (z2 : PySem.W.nsIn K mainGlobals "all" = some none)
    (z3 : PySem.W.nsIn K mainGlobals "bool" = some none)
    (z4 : PySem.W.nsIn K mainGlobals "int" = some none)
    (z5 : PySem.W.nsIn K mainGlobals "isinstance" = some none)
    (z6 : PySem.W.nsIn K mainGlobals "len" = some none)
    (z7 : PySem.W.nsIn K mainGlobals "max" = some none)
    (z8 : PySem.W.nsIn K mainGlobals "min" = some none)
    (z9 : PySem.W.nsIn K mainGlobals "range" = some none)
    (z10 : PySem.W.nsIn K mainGlobals "repr" = some none)
    (z11 : PySem.W.nsIn K mainGlobals "tuple" = some none)
    (eF : PySem.W.nsIn K mainGlobals "FarError" = some (some (.ref FARx)))
    (eFc : PySem.W.clsIn K FARx = some cdF)
    (eFt : PySem.W.typeIn K (.ref FARx) = some (.type "type"))
    (eFi : PySem.W.findIn K (.ref FARx) "__init__" = some (some (.builtin "ValueError.__init__")))
    (eFb : PySem.W.subIn K (.ref FARx) (.type "BaseException") = some true)
    (eSu : PySem.W.nsIn K mainGlobals "super" = some none)
    (eAny : PySem.W.nsIn K cStatics "thirdparty.any" = some none)
    (eMn : (P.main.scope.names.lookup ("super" : Str)).isSome = false)
    (e1_BadStamp : PySem.W.nsIn K mainGlobals "BadStamp" = some (some (.ref C_BadStamp)))
    (e2_BadStamp : PySem.W.findIn K (.ref C_BadStamp) "__init__" = some (some (.ref f_BadStamp)))
    (e3_BadStamp : PySem.W.typeIn K (.ref f_BadStamp) = some (.type "function"))
    (e4_BadStamp : K.lookup f_BadStamp = some ⟨oc_BadStamp, od_BadStamp, .func (PySem.W.ksFn "__init__" "BadStamp.__init__" (defArgs s_Err_BadStamp) (defBody s_Err_BadStamp) (defScope s_Err_BadStamp) .none kV_BadStamp dc_BadStamp pm_BadStamp an_BadStamp (.ref cda_BadStamp) ct_BadStamp cc_BadStamp), sl_BadStamp⟩)
    (e5_BadStamp : K.lookup cda_BadStamp = some ⟨ccl_BadStamp, cdd_BadStamp, .fields vv_BadStamp, ccs_BadStamp⟩)
    (e6_BadStamp : vv_BadStamp[2]? = some (.str file_BadStamp tf_BadStamp))
    (e7_BadStamp : (P.main.file == file_BadStamp) = true)
    (e8_BadStamp : K.lookup cc_BadStamp = some ⟨cl_BadStamp, cld_BadStamp, .cell (some (.ref C_BadStamp)), csl_BadStamp⟩)
    (e9_BadStamp : K.lookup C_BadStamp = some (excClassObj nm_BadStamp q_BadStamp C_BadStamp N_BadStamp bs_BadStamp bm_BadStamp true sn_BadStamp sub_BadStamp ab_BadStamp col_BadStamp dd_BadStamp k0_BadStamp k1_BadStamp k2_BadStamp k3_BadStamp k5_BadStamp "ValueError.__new__"))
    (e10_BadStamp : PySem.HandSPX.refsVE bm_BadStamp = true)
    (e11_BadStamp : PySem.W.findIn K (.ref C_BadStamp) "__setattr__" = some (some (.builtin "object.__setattr__")))
    (e12_BadStamp : PySem.W.subIn K (.ref C_BadStamp) (.type "BaseException") = some true)
    (e13_BadStamp : PySem.W.typeIn K (.ref C_BadStamp) = some (.type "type"))
    (e14_BadStamp : PySem.W.keepIn K (.ref C_BadStamp) = true)
    (e15_BadStamp : PySem.W.mroIn K C_BadStamp (.ref C_BadStamp) = some true)
    (e16_BadStamp : PySem.W.clsIn K C_BadStamp = some cd_BadStamp)
    (e17_BadStamp : (cd_BadStamp.mro.dropWhile (· != (.ref C_BadStamp))).drop 1 = cdF.mro)
    (e18_BadStamp : PySem.W.subIn K (.ref C_BadStamp) (.type "ValueError") = some true)
    (e19_BadStamp : PySem.W.findIn K (.ref C_BadStamp) "value" = some none)
    (e20_BadStamp : PySem.W.codeIn K (.ref cda_BadStamp) "BadStamp.__init__" = true)
    (e1_BadDelay : PySem.W.nsIn K mainGlobals "BadDelay" = some (some (.ref C_BadDelay)))
    (e2_BadDelay : PySem.W.findIn K (.ref C_BadDelay) "__init__" = some (some (.ref f_BadDelay)))
    (e3_BadDelay : PySem.W.typeIn K (.ref f_BadDelay) = some (.type "function"))
    (e4_BadDelay : K.lookup f_BadDelay = some ⟨oc_BadDelay, od_BadDelay, .func (PySem.W.ksFn "__init__" "BadDelay.__init__" (defArgs s_Err_BadDelay) (defBody s_Err_BadDelay) (defScope s_Err_BadDelay) .none kV_BadDelay dc_BadDelay pm_BadDelay an_BadDelay (.ref cda_BadDelay) ct_BadDelay cc_BadDelay), sl_BadDelay⟩)
    (e5_BadDelay : K.lookup cda_BadDelay = some ⟨ccl_BadDelay, cdd_BadDelay, .fields vv_BadDelay, ccs_BadDelay⟩)
    (e6_BadDelay : vv_BadDelay[2]? = some (.str file_BadDelay tf_BadDelay))
    (e7_BadDelay : (P.main.file == file_BadDelay) = true)
    (e8_BadDelay : K.lookup cc_BadDelay = some ⟨cl_BadDelay, cld_BadDelay, .cell (some (.ref C_BadDelay)), csl_BadDelay⟩)
    (e9_BadDelay : K.lookup C_BadDelay = some (excClassObj nm_BadDelay q_BadDelay C_BadDelay N_BadDelay bs_BadDelay bm_BadDelay true sn_BadDelay sub_BadDelay ab_BadDelay col_BadDelay dd_BadDelay k0_BadDelay k1_BadDelay k2_BadDelay k3_BadDelay k5_BadDelay "ValueError.__new__"))
    (e10_BadDelay : PySem.HandSPX.refsVE bm_BadDelay = true)
    (e11_BadDelay : PySem.W.findIn K (.ref C_BadDelay) "__setattr__" = some (some (.builtin "object.__setattr__")))
    (e12_BadDelay : PySem.W.subIn K (.ref C_BadDelay) (.type "BaseException") = some true)
    (e13_BadDelay : PySem.W.typeIn K (.ref C_BadDelay) = some (.type "type"))
    (e14_BadDelay : PySem.W.keepIn K (.ref C_BadDelay) = true)
    (e15_BadDelay : PySem.W.mroIn K C_BadDelay (.ref C_BadDelay) = some true)
    (e16_BadDelay : PySem.W.clsIn K C_BadDelay = some cd_BadDelay)
    (e17_BadDelay : (cd_BadDelay.mro.dropWhile (· != (.ref C_BadDelay))).drop 1 = cdF.mro)
    (e18_BadDelay : PySem.W.subIn K (.ref C_BadDelay) (.type "ValueError") = some true)
    (e19_BadDelay : PySem.W.findIn K (.ref C_BadDelay) "value" = some none)
    (e20_BadDelay : PySem.W.codeIn K (.ref cda_BadDelay) "BadDelay.__init__" = true)
    (g2_D_K1 : (Value.ref C_BadStamp == Value.ref C_BadDelay) = false)
    (g5_D_K1 : PySem.W.subIn K (.ref C_BadStamp) (.ref C_BadDelay) = some false)
    (g6_D_K1 : PySem.W.subIn K (.ref C_BadStamp) (.ref FARx) = some true)
    (g7_D_K1 : PySem.W.findIn K (.ref C_BadStamp) "__getattribute__" = some (some (.builtin "BaseException.__getattribute__")))
    (g8_D_K1 : PySem.W.findIn K (.ref C_BadStamp) "__getattr__" = some none)
    (g9_D_K1 : PySem.W.hasDictIn K C_BadStamp = true)
    (g10_D_K1 : PySem.W.findIn K (.ref C_BadStamp) "__class__" = some (some (.builtin "object.__class__")))
    (g11 : PySem.W.specialIn K (.builtin "object.__class__") "__get__" = some (some (.builtin "getset_descriptor.__get__")))
    (g12 : PySem.W.takesIn K (.builtin "object.__class__") = some true)
    (g13_D_K1 : PySem.W.mroIn K C_BadStamp (.type "object") = some true)
    (g2_D_K2 : (Value.ref C_BadDelay == Value.ref C_BadStamp) = false)
    (g5_D_K2 : PySem.W.subIn K (.ref C_BadDelay) (.ref C_BadStamp) = some false)
    (g6_D_K2 : PySem.W.subIn K (.ref C_BadDelay) (.ref FARx) = some true)
    (g7_D_K2 : PySem.W.findIn K (.ref C_BadDelay) "__getattribute__" = some (some (.builtin "BaseException.__getattribute__")))
    (g8_D_K2 : PySem.W.findIn K (.ref C_BadDelay) "__getattr__" = some none)
    (g9_D_K2 : PySem.W.hasDictIn K C_BadDelay = true)
    (g10_D_K2 : PySem.W.findIn K (.ref C_BadDelay) "__class__" = some (some (.builtin "object.__class__")))
    (g13_D_K2 : PySem.W.mroIn K C_BadDelay (.type "object") = some true) :
    ∃ fd : FuncData, (∀ (s : Shared) (v : Value), BindsTo s fd ⟨[v], []⟩ [("_law_script", v)]) ∧ ∀ base : Heap, K.In base → base.Ns mainGlobals mg → SmB base → @TabD (clsm TR) mg base cR TR ("_law_right" ++ ".<locals>." ++ "<lambda>") → @FnG (clsm TR) P w K mg base 9 fa fd ["_law_script"] m_law := by
  letI : ClsMap := (clsm TR)
  have e := hfa.symm.trans (PySem.W.mg_of X G a16)
  injection e with e
  injection e with e
  subst e
  have T : Blt K mg := ⟨PySem.W.mg_none_of X G z0, PySem.W.mg_none_of X G z1, PySem.W.mg_none_of X G z2, PySem.W.mg_none_of X G z3, PySem.W.mg_none_of X G z4, PySem.W.mg_none_of X G z5, PySem.W.mg_none_of X G z6, PySem.W.mg_none_of X G z7, PySem.W.mg_none_of X G z8, PySem.W.mg_none_of X G z9, PySem.W.mg_none_of X G z10, PySem.W.mg_none_of X G z11⟩
  have A0 : DefAt K mg "is_integer" s_is_integer := ⟨_, _, fun_mk l0 c0 k0, PySem.W.mg_of X G a0⟩
  have A1 : DefAt K mg "is_tuple_of" s_is_tuple_of := ⟨_, _, fun_mk l1 c1 k1, PySem.W.mg_of X G a1⟩
  have A2 : DefAt K mg "_law_pot" s_l_pot := ⟨_, _, fun_mk l2 c2 k2, PySem.W.mg_of X G a2⟩
  have A3 : DefAt K mg "_law_take" s_l_take := ⟨_, _, fun_mk l3 c3 k3, PySem.W.mg_of X G a3⟩
  have A4 : DefAt K mg "_law_is_int" s_l_is_int := ⟨_, _, fun_mk l4 c4 k4, PySem.W.mg_of X G a4⟩
  have A5 : DefAt K mg "is_count" s_is_count := ⟨_, _, fun_mk l5 c5 k5, PySem.W.mg_of X G a5⟩
  have A6 : DefAt K mg "_law_of" s_l_of := ⟨_, _, fun_mk l6 c6 k6, PySem.W.mg_of X G a6⟩
  have A7 : DefAt K mg "_law_is_due" s_l_is_due := ⟨_, _, fun_mk l7 c7 k7, PySem.W.mg_of X G a7⟩
  have A8 : DefAt K mg "is_stamp" s_is_stamp := ⟨_, _, fun_mk l8 c8 k8, PySem.W.mg_of X G a8⟩
  have A9 : DefAt K mg "_law_odd" s_l_odd := ⟨_, _, fun_mk l9 c9 k9, PySem.W.mg_of X G a9⟩
  have A10 : DefAt K mg "_law_is_right" s_l_is_right := ⟨_, _, fun_mk l10 c10 k10, PySem.W.mg_of X G a10⟩
  have A11 : DefAt K mg "require_both" s_require_both := ⟨_, _, fun_mk l11 c11 k11, PySem.W.mg_of X G a11⟩
  have A12 : DefAt K mg "_law_thing" s_l_thing := ⟨_, _, fun_mk l12 c12 k12, PySem.W.mg_of X G a12⟩
  have A13 : DefAt K mg "later" s_later := ⟨_, _, fun_mk l13 c13 k13, PySem.W.mg_of X G a13⟩
  have A14 : DefAt K mg "ahead_of" s_ahead_of := ⟨_, _, fun_mk l14 c14 k14, PySem.W.mg_of X G a14⟩
  have A15 : DefAtC K mg "_law_right" s_l_right cR := ⟨f15, _, _, _, _, _, _, _, _, l15, c15, k15, PySem.W.mg_of X G a15⟩
  have A16 : DefAt K mg "law" s_law := ⟨_, _, fun_mk l16 c16 k16, PySem.W.mg_of X G a16⟩
  have A17 : DefAt K mg "_law_caught" s_l_caught := ⟨_, _, fun_mk l17 c17 k17, PySem.W.mg_of X G a17⟩
  refine ⟨PySem.W.fnOf "law" "law" (defArgs s_law) (defBody s_law) (defScope s_law) .none kV16 dc16 pm16 an16 cd16 ct16, fun s v => .of_eq rfl, fun base _ _ D_Sm D_Tab => ?_⟩
  have D_Err_BadStamp : ErrOk P w K mg base "BadStamp" "value" := by
    have O : OexC K C_BadStamp := ⟨⟨_, _, _, _, _, _, _, _, _, _, _, _, _, _, _, e9_BadStamp, e10_BadStamp⟩, e11_BadStamp, e12_BadStamp, e13_BadStamp, e14_BadStamp⟩
    have hin : PySem.W.ks_superIn K C_BadStamp C_BadStamp "__init__" = some (some (.builtin "ValueError.__init__")) := super_in e16_BadStamp eFc e17_BadStamp eFi
    refine ⟨C_BadStamp, O, PySem.W.mg_of X G e1_BadStamp, f_BadStamp, _, _, _, 1, e2_BadStamp, e3_BadStamp, fnOk_err (cdv := .none) (oc := .none) (od := none) (osl := #[]) ⟨rfl, rfl, rfl, ⟨_, _, _, e4_BadStamp⟩, rfl, rfl, ⟨_, _, _, _, _, _, e5_BadStamp, e6_BadStamp, e7_BadStamp⟩, ⟨_, _, _, e8_BadStamp⟩, cls_of (nw := Str.empty) e9_BadStamp, eMn⟩ O rfl rfl e20_BadStamp (by decide +kernel) rfl rfl (by decide) (PySem.W.mg_none_of X G eSu) e15_BadStamp eAny e16_BadStamp hin e18_BadStamp e19_BadStamp (by decide) (by decide) (fun _ => rfl) (fun _ => rfl) (fun _ => rfl) (fun _ => rfl), Binds.all fun us hl => ?_, Nat.le_refl _⟩
    match us, hl with
    | [_, _], _ => rfl
  have D_Err_BadDelay : ErrOk P w K mg base "BadDelay" "value" := by
    have O : OexC K C_BadDelay := ⟨⟨_, _, _, _, _, _, _, _, _, _, _, _, _, _, _, e9_BadDelay, e10_BadDelay⟩, e11_BadDelay, e12_BadDelay, e13_BadDelay, e14_BadDelay⟩
    have hin : PySem.W.ks_superIn K C_BadDelay C_BadDelay "__init__" = some (some (.builtin "ValueError.__init__")) := super_in e16_BadDelay eFc e17_BadDelay eFi
    refine ⟨C_BadDelay, O, PySem.W.mg_of X G e1_BadDelay, f_BadDelay, _, _, _, 1, e2_BadDelay, e3_BadDelay, fnOk_err (cdv := .none) (oc := .none) (od := none) (osl := #[]) ⟨rfl, rfl, rfl, ⟨_, _, _, e4_BadDelay⟩, rfl, rfl, ⟨_, _, _, _, _, _, e5_BadDelay, e6_BadDelay, e7_BadDelay⟩, ⟨_, _, _, e8_BadDelay⟩, cls_of (nw := Str.empty) e9_BadDelay, eMn⟩ O rfl rfl e20_BadDelay (by decide +kernel) rfl rfl (by decide) (PySem.W.mg_none_of X G eSu) e15_BadDelay eAny e16_BadDelay hin e18_BadDelay e19_BadDelay (by decide) (by decide) (fun _ => rfl) (fun _ => rfl) (fun _ => rfl) (fun _ => rfl), Binds.all fun us hl => ?_, Nat.le_refl _⟩
    match us, hl with
    | [_, _], _ => rfl
  have D_K1 : KeptOk K mg "BadStamp" "FarError" "BadDelay" "value" := ⟨C_BadStamp, FARx, C_BadDelay, PySem.W.mg_of X G e1_BadStamp, PySem.W.mg_of X G eF, PySem.W.mg_of X G e1_BadDelay, exm_of eFb eFc eFt g6_D_K1, ⟨g7_D_K1, g8_D_K1, e12_BadStamp, g9_D_K1, g10_D_K1, g11, g12, g13_D_K1⟩, ⟨g7_D_K1, g8_D_K1, e12_BadStamp, g9_D_K1⟩, by rw [e16_BadStamp]; rfl, e19_BadStamp, kit_self, kit_ref g2_D_K1 e16_BadDelay e13_BadDelay g5_D_K1, kit_ty rfl (by decide +kernel) e18_BadStamp⟩
  have D_K2 : KeptOk K mg "BadDelay" "FarError" "BadStamp" "value" := ⟨C_BadDelay, FARx, C_BadStamp, PySem.W.mg_of X G e1_BadDelay, PySem.W.mg_of X G eF, PySem.W.mg_of X G e1_BadStamp, exm_of eFb eFc eFt g6_D_K2, ⟨g7_D_K2, g8_D_K2, e12_BadDelay, g9_D_K2, g10_D_K2, g11, g12, g13_D_K2⟩, ⟨g7_D_K2, g8_D_K2, e12_BadDelay, g9_D_K2⟩, by rw [e16_BadDelay]; rfl, e19_BadDelay, kit_self, kit_ref g2_D_K2 e16_BadStamp e13_BadStamp g5_D_K2, kit_ty rfl (by decide +kernel) e18_BadDelay⟩
  have D_Lam := A17
  have D_is_integer := ok_is_integer (P := P) (w := w) (base := base) T A0 
  have D_is_tuple_of := ok_is_tuple_of (P := P) (w := w) (base := base) T A1 
  have D_l_pot := ok_l_pot (P := P) (w := w) (base := base) T A2 
  have D_l_take := ok_l_take (P := P) (w := w) (base := base) T A3 
  have D_l_is_int := ok_l_is_int (P := P) (w := w) (base := base) T A4 
  have D_is_count := ok_is_count (P := P) (w := w) (base := base) T A5 D_is_integer
  have D_l_of := ok_l_of (P := P) (w := w) (base := base) T A6 D_l_take
  have D_l_is_due := ok_l_is_due (P := P) (w := w) (base := base) T A7 D_l_is_int
  have D_is_stamp := ok_is_stamp (P := P) (w := w) (base := base) T A8 D_is_tuple_of D_is_count
  have D_l_odd := ok_l_odd (P := P) (w := w) (base := base) T A9 D_l_of
  have D_l_is_right := ok_l_is_right (P := P) (w := w) (base := base) T A10 D_l_is_due D_l_is_int D_Sm
  have D_require_both := ok_require_both (P := P) (w := w) (base := base) T A11 D_is_stamp D_is_count D_Err_BadStamp D_Err_BadDelay
  have D_l_thing := ok_l_thing (P := P) (w := w) (base := base) T A12 D_l_odd D_l_take
  have D_later := ok_later (P := P) (w := w) (base := base) T A13 D_require_both
  have D_ahead_of := ok_ahead_of (P := P) (w := w) (base := base) T A14 D_require_both
  have D_l_right := ok_l_right (P := P) (w := w) (base := base) T A15 D_l_of D_l_odd D_l_thing D_is_stamp D_l_is_due D_l_is_right D_later D_ahead_of D_Sm D_Lam D_K1 D_K2 D_Tab
  have D_law := ok_law (P := P) (w := w) (base := base) T A16 D_l_pot D_l_right
  obtain ⟨f, fd, F, hm, g⟩ := D_law.ex
  have e2 := hm.symm.trans (PySem.W.mg_of X G a16)
  cases e2
  obtain ⟨oc, od, kV, doc, pm, an, cdv, ct, osl, e3, lk, hcd⟩ := F.ex
  have e4 := lk.symm.trans l16
  have e5 : fd = PySem.W.fnOf "law" "law" (defArgs s_law) (defBody s_law) (defScope s_law) .none kV16 dc16 pm16 an16 cd16 ct16 := by
    injection e4 with e4
    injection e4 with _ _ e6 _
    injection e6
  rw [← e5]
  exact g
def walkC (T0 : Addr) := @Mi.walkG3 (clsm T0)
end K09gen
open PySem PySem.W PyProof.Rows in
set_option maxRecDepth 100000 in
set_option maxHeartbeats 0 in
theorem PySem.Challenge.cw_farasnothing_k09_stamps_of_any_kind_holds : PySem.Challenge.rw_farasnothing_k09_stamps_of_any_kind.Holds := by
  w_on; o_law; k_head; (case hw => w_witness2)
  k_fill
  refine K09gen.walkC ?T (l := PySem.Challenge.rw_farasnothing_k09_stamps_of_any_kind) (n := 63) (k := 9) (x := "_law_script") (m := K09gen.m_law) (y := "_law_right") (qn := ("_law_right" ++ ".<locals>." ++ "<lambda>")) (c := ?c) (T := ?T) (e := ?rec) (by decide +kernel) rfl (by decide) rfl ⟨rfl, by decide, by decide⟩ (fun w h Y => PySem.W.km_in_of Y) ?hfind ?htab ?hno ?F (fun ns h => @K09gen.law_true (K09gen.clsm 0) ns h)
  case F =>
    intro w mg fa h KX G hmg
    refine' K09gen.top_mk KX G hmg ?a0 ?l0 ?c0 ?k0 ?a1 ?l1 ?c1 ?k1 ?a2 ?l2 ?c2 ?k2 ?a3 ?l3 ?c3 ?k3 ?a4 ?l4 ?c4 ?k4 ?a5 ?l5 ?c5 ?k5 ?a6 ?l6 ?c6 ?k6 ?a7 ?l7 ?c7 ?k7 ?a8 ?l8 ?c8 ?k8 ?a9 ?l9 ?c9 ?k9 ?a10 ?l10 ?c10 ?k10 ?a11 ?l11 ?c11 ?k11 ?a12 ?l12 ?c12 ?k12 ?a13 ?l13 ?c13 ?k13 ?a14 ?l14 ?c14 ?k14 ?a15 ?l15 ?c15 ?tR1 ?tR2 ?k15 ?a16 ?l16 ?c16 ?k16 ?a17 ?l17 ?c17 ?k17 ?z0 ?z1 ?z2 ?z3 ?z4 ?z5 ?z6 ?z7 ?z8 ?z9 ?z10 ?z11 ?eF ?eFc ?eFt ?eFi ?eFb ?eSu ?eAny ?eMn ?e1_BadStamp ?e2_BadStamp ?e3_BadStamp ?e4_BadStamp ?e5_BadStamp ?e6_BadStamp ?e7_BadStamp ?e8_BadStamp ?e9_BadStamp ?e10_BadStamp ?e11_BadStamp ?e12_BadStamp ?e13_BadStamp ?e14_BadStamp ?e15_BadStamp ?e16_BadStamp ?e17_BadStamp ?e18_BadStamp ?e19_BadStamp ?e20_BadStamp ?e1_BadDelay ?e2_BadDelay ?e3_BadDelay ?e4_BadDelay ?e5_BadDelay ?e6_BadDelay ?e7_BadDelay ?e8_BadDelay ?e9_BadDelay ?e10_BadDelay ?e11_BadDelay ?e12_BadDelay ?e13_BadDelay ?e14_BadDelay ?e15_BadDelay ?e16_BadDelay ?e17_BadDelay ?e18_BadDelay ?e19_BadDelay ?e20_BadDelay ?g2_D_K1 ?g5_D_K1 ?g6_D_K1 ?g7_D_K1 ?g8_D_K1 ?g9_D_K1 ?g10_D_K1 ?g11 ?g12 ?g13_D_K1 ?g2_D_K2 ?g5_D_K2 ?g6_D_K2 ?g7_D_K2 ?g8_D_K2 ?g9_D_K2 ?g10_D_K2 ?g13_D_K2
    (case a0 => k_is)
    (case l0 => k_is)
    (case c0 => k_is)
    (case k0 => k_is)
    (case a1 => k_is)
    (case l1 => k_is)
    (case c1 => k_is)
    (case k1 => k_is)
    (case a2 => k_is)
    (case l2 => k_is)
    (case c2 => k_is)
    (case k2 => k_is)
    (case a3 => k_is)
    (case l3 => k_is)
    (case c3 => k_is)
    (case k3 => k_is)
    (case a4 => k_is)
    (case l4 => k_is)
    (case c4 => k_is)
    (case k4 => k_is)
    (case a5 => k_is)
    (case l5 => k_is)
    (case c5 => k_is)
    (case k5 => k_is)
    (case a6 => k_is)
    (case l6 => k_is)
    (case c6 => k_is)
    (case k6 => k_is)
    (case a7 => k_is)
    (case l7 => k_is)
    (case c7 => k_is)
    (case k7 => k_is)
    (case a8 => k_is)
    (case l8 => k_is)
    (case c8 => k_is)
    (case k8 => k_is)
    (case a9 => k_is)
    (case l9 => k_is)
    (case c9 => k_is)
    (case k9 => k_is)
    (case a10 => k_is)
    (case l10 => k_is)
    (case c10 => k_is)
    (case k10 => k_is)
    (case a11 => k_is)
    (case l11 => k_is)
    (case c11 => k_is)
    (case k11 => k_is)
    (case a12 => k_is)
    (case l12 => k_is)
    (case c12 => k_is)
    (case k12 => k_is)
    (case a13 => k_is)
    (case l13 => k_is)
    (case c13 => k_is)
    (case k13 => k_is)
    (case a14 => k_is)
    (case l14 => k_is)
    (case c14 => k_is)
    (case k14 => k_is)
    (case a15 => k_is)
    (case l15 => k_is)
    (case c15 => k_is)
    (case tR1 => k_is)
    (case tR2 => rfl)
    (case k15 => k_is)
    (case a16 => k_is)
    (case l16 => k_is)
    (case c16 => k_is)
    (case k16 => k_is)
    (case a17 => k_is)
    (case l17 => k_is)
    (case c17 => k_is)
    (case k17 => k_is)
    (case z0 => k_is)
    (case z1 => k_is)
    (case z2 => k_is)
    (case z3 => k_is)
    (case z4 => k_is)
    (case z5 => k_is)
    (case z6 => k_is)
    (case z7 => k_is)
    (case z8 => k_is)
    (case z9 => k_is)
    (case z10 => k_is)
    (case z11 => k_is)
    (case eF => k_is)
    (case eFc => k_is)
    (case eFt => k_is)
    (case eFi => k_is)
    (case eFb => k_is)
    (case eSu => k_is)
    (case eAny => k_is)
    (case eMn => rfl)
    (case e1_BadStamp => k_is)
    (case e2_BadStamp => k_is)
    (case e3_BadStamp => k_is)
    (case e4_BadStamp => k_is)
    (case e5_BadStamp => k_is)
    (case e6_BadStamp => rfl)
    (case e7_BadStamp => decide +kernel)
    (case e8_BadStamp => k_is)
    (case e9_BadStamp => k_is)
    (case e10_BadStamp => decide +kernel)
    (case e11_BadStamp => k_is)
    (case e12_BadStamp => k_is)
    (case e13_BadStamp => k_is)
    (case e14_BadStamp => k_is)
    (case e15_BadStamp => k_is)
    (case e16_BadStamp => k_is)
    (case e17_BadStamp => rfl)
    (case e18_BadStamp => k_is)
    (case e19_BadStamp => k_is)
    (case e20_BadStamp => k_is)
    (case e1_BadDelay => k_is)
    (case e2_BadDelay => k_is)
    (case e3_BadDelay => k_is)
    (case e4_BadDelay => k_is)
    (case e5_BadDelay => k_is)
    (case e6_BadDelay => rfl)
    (case e7_BadDelay => decide +kernel)
    (case e8_BadDelay => k_is)
    (case e9_BadDelay => k_is)
    (case e10_BadDelay => decide +kernel)
    (case e11_BadDelay => k_is)
    (case e12_BadDelay => k_is)
    (case e13_BadDelay => k_is)
    (case e14_BadDelay => k_is)
    (case e15_BadDelay => k_is)
    (case e16_BadDelay => k_is)
    (case e17_BadDelay => rfl)
    (case e18_BadDelay => k_is)
    (case e19_BadDelay => k_is)
    (case e20_BadDelay => k_is)
    (case g2_D_K1 => decide)
    (case g5_D_K1 => k_is)
    (case g6_D_K1 => k_is)
    (case g7_D_K1 => k_is)
    (case g8_D_K1 => k_is)
    (case g9_D_K1 => k_is)
    (case g10_D_K1 => k_is)
    (case g11 => k_is)
    (case g12 => k_is)
    (case g13_D_K1 => k_is)
    (case g2_D_K2 => decide)
    (case g5_D_K2 => k_is)
    (case g6_D_K2 => k_is)
    (case g7_D_K2 => k_is)
    (case g8_D_K2 => k_is)
    (case g9_D_K2 => k_is)
    (case g10_D_K2 => k_is)
    (case g13_D_K2 => k_is)
  case hfind => exact rfl
  case htab => exact fun w => by kernel_rfl
  case hno => exact fun w => by kernel_rfl
